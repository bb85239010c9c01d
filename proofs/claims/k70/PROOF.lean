import PyProof.Rows.All
import Wide.All
import OpenK.AllK
import Wide.FinOn
import Lean
import PyProof.EqAt
import PyProof.EqKinds
import PyProof.TupleCall
import PyProof.NeKinds
import PyProof.ListMulRoad
import PyProof.MaxThree
import PyProof.Rows.StrJoinMade
import PyProof.ListStr
import PyProof.Rows.MinMaxN
import PyProof.Rows.Range3
import PyProof.ListRange
import PyProof.Rows.SetFrom
import PyProof.Rows.StrCase
import PyProof.SumAny
import PyProof.AutoIntG2
import PyProof.AutoListH
import PyProof.EnumStmt
import PyProof.EnumFor
import PyProof.EnumMake
import PyProof.Rows.EnumRows
import PyProof.ConsumeS
import PyProof.Rows.SortWalk
import KE.KDictSum
import PyProof.ZipIter
import KE.KEqDict
import PyProof.ExcClass2
import PyProof.RaisesMany
import PyProof.ExcBaseAll.ValueError
import PyProof.RulesDel
import PyProof.RulesAs
import PyProof.ExcArgs
import KE.KDictOf
import PyProof.AttrMissHeap
import KE.KMinKey
import PyProof.Rows.CallKwBuiltin
import PySem.Challenge.RW_wireparley_k70_whole_any_pieces_beside
noncomputable section

set_option Elab.async false
set_option linter.all false
set_option maxRecDepth 100000
local macro_rules | `(tactic| walk_at "h") => `(tactic| first | exact Or.inl rfl | exact Or.inr rfl | exact Or.inr (Or.inl rfl) | exact Or.inr (Or.inr rfl) | assumption)
namespace L2
open PySem PySem.Spec PyProof.Rows
abbrev Key:=Sum Int Str
noncomputable def GQ:Key->Value->Bool
 | .inl k,v=>Value.isInt k v
 | .inr x,v=>Value.isStrOf x v
noncomputable def Zy (w:World):Key->Int
 | .inl k=>hashInt k
 | .inr x=>hashStr w x
theorem BD:∀{k:Key} {v:Value},GQ k v=true->(∃i t,k=Sum.inl i/\v=Value.int i t)\/(∃x t,k=Sum.inr x/\v=Value.str x t)
 | .inl i,v,h=>by
   obtain ⟨t,e⟩:=Value.isInt_shape (k:=i) (v:=v) h;exact .inl ⟨i,t,rfl,e⟩
 | .inr x,v,h=>by
   obtain ⟨t,e⟩:=Value.isStrOf_shape (x:=x) (v:=v) h;exact .inr ⟨x,t,rfl,e⟩
theorem O0 (i:Int)(t:Tok):GQ (.inl i) (.int i t)=true:=by simp [GQ,Value.isInt]
theorem O1 (x:Str)(t:Tok):GQ (.inr x) (.str x t)=true:=by simp [GQ,Value.isStrOf]
theorem V9 (a b:Int):decide ((Sum.inl a:Key)=Sum.inl b)=(a == b):=by
 by_cases e:a=b
 ·subst e;simp
 ·have h:¬(Sum.inl a:Key)=Sum.inl b:=λq=>e (Sum.inl.inj q);rw [decide_eq_false h];exact (beq_eq_false_iff_ne.mpr e).symm
theorem Wc (a b:Str):decide ((Sum.inr a:Key)=Sum.inr b)=decide (a=b):=by
 by_cases e:a=b
 ·subst e;simp
 ·have h:¬(Sum.inr a:Key)=Sum.inr b:=λq=>e (Sum.inr.inj q);rw [decide_eq_false h,decide_eq_false e]
theorem Wa (a:Int)(b:Str):decide ((Sum.inl a:Key)=Sum.inr b)=false:=decide_eq_false (λq=>nomatch q)
theorem Wb (a:Str)(b:Int):decide ((Sum.inr a:Key)=Sum.inl b)=false:=decide_eq_false (λq=>nomatch q)
def Cl (prog:Program)(w:World):PySem.KeyKind prog w Key where
 is:=GQ
 hash:=Zy w
 inj:=λv a b ha hb=>by
  rcases BD ha with ⟨i,t,rfl,rfl⟩ | ⟨x,t,rfl,rfl⟩
  ·rcases BD hb with ⟨j,u,rfl,e⟩ | ⟨y,u,rfl,e⟩
   ·injection e with e1 _;rw [e1]
   ·exact nomatch e
  ·rcases BD hb with ⟨j,u,rfl,e⟩ | ⟨y,u,rfl,e⟩
   ·exact nomatch e
   ·injection e with e1 _;rw [e1]
 byValue:=λk v h=>by
  rcases BD h with ⟨i,t,rfl,rfl⟩ | ⟨x,t,rfl,rfl⟩ <;> rfl
 pyHash:=λhv h=>by
  rcases BD hv with ⟨i,t,rfl,rfl⟩ | ⟨x,t,rfl,rfl⟩
  ·exact wpAny_pyHash_int h
  ·exact wpAny_pyHash_str h
 eqBool:=λhu hv h=>by
  rcases BD hu with ⟨i,t,rfl,rfl⟩ | ⟨x,t,rfl,rfl⟩
  ·rcases BD hv with ⟨j,u,rfl,rfl⟩ | ⟨y,u,rfl,rfl⟩
   ·rw [V9] at h;exact wpAny_eqBool_int h
   ·rw [Wa] at h;exact SeqAt.EqAt.int_str i t y u _ _ _ _ h
  ·rcases BD hv with ⟨j,u,rfl,rfl⟩ | ⟨y,u,rfl,rfl⟩
   ·rw [Wb] at h;exact SeqAt.EqAt.str_int x t j u _ _ _ _ h
   ·rw [Wc] at h;exact wpAny_eqBool_str h
 «strs»:=λk x t v h=>by
  rcases BD h with ⟨i,u,rfl,e⟩ | ⟨y,u,rfl,e⟩
  ·exact nomatch e
  ·injection e with e1 _
   subst e1
   cases v <;> rfl
theorem LQ (prog:Program)(w:World)(i:Int)(t:Tok):(Cl prog w).is (.inl i) (.int i t)=true:=O0 i t
theorem LR (prog:Program)(w:World)(x:Str)(t:Tok):(Cl prog w).is (.inr x) (.str x t)=true:=O1 x t
inductive V where
 | non | bl (b:Bool) | int (i:Int) | str (x:Str) | byt (b:Array UInt8) | flt (b:UInt64) | ref (a:Addr) | ty (n:String)
 deriving DecidableEq
noncomputable def RelV:V->Value->Prop
 | .non,u=>u=Value.none
 | .bl b,u=>u=Value.bool b
 | .int i,u=>∃t,u=Value.int i t
 | .str x,u=>∃t,u=Value.str x t
 | .byt b,u=>∃t,u=Value.bytes b t
 | .flt b,u=>∃t,u=Value.float b t
 | .ref a,u=>u=Value.ref a
 | .ty n,u=>u=Value.type n
abbrev Vals:List V->List Value->Prop:=Paired RelV
theorem Vals.length {xs:List V}{us:List Value}(r:Vals xs us):xs.length=us.length:=Paired.length r
theorem Vals.get:∀{xs:List V} {us:List Value} {i:Nat} {x:V},Vals xs us->xs[i]?=some x->∃u,us[i]?=some u/\RelV x u
 | _,_,_,_,.nil,e=>by simp at e
 | _,_,0,_,.cons r _,e=>by simp at e;subst e;exact ⟨_,rfl,r⟩
 | _,_,i + 1,x,.cons _ t,e=>by
   obtain ⟨u,h1,h2⟩:=Vals.get (i:=i) (x:=x) t (by simpa using e);exact ⟨u,by simpa using h1,h2⟩
theorem Vals.set {x:V}{u:Value}(r:RelV x u):∀{xs:List V} {us:List Value} (i:Nat),Vals xs us->Vals (xs.set i x) (us.set i u)
 | _,_,_,.nil=>.nil
 | _,_,0,.cons _ t=>.cons r t
 | _,_,i + 1,.cons q t=>.cons q (Vals.set r i t)
theorem Vals.append {xs ys:List V}{us ws:List Value}(r:Vals xs us)(s:Vals ys ws):Vals (xs++ys) (us++ws):=by
 cases r with
 | nil=>exact s
 | cons r t=>exact .cons r (Vals.append t s)
theorem Vals.take:∀{xs:List V} {us:List Value} (n:Nat),Vals xs us->Vals (xs.take n) (us.take n)
 | _,_,0,_=>.nil
 | _,_,_ + 1,.nil=>.nil
 | _,_,n + 1,.cons r t=>.cons r (Vals.take n t)
theorem Vals.drop:∀{xs:List V} {us:List Value} (n:Nat),Vals xs us->Vals (xs.drop n) (us.drop n)
 | _,_,0,r=>r
 | _,_,_ + 1,.nil=>.nil
 | _,_,n + 1,.cons _ t=>Vals.drop n t
def RelO:Option V->Option Value->Prop
 | some v,some u=>RelV v u
 | none,none=>True
 | _,_=>False
def KV {κ:Type}:List (κ×V)->List (κ×Value)->Prop:=Paired λ(p:κ×V) (q:κ×Value)=>p.1=q.1/\RelV p.2 q.2
noncomputable def kV:Key->V
 | .inl i=>.int i
 | .inr x=>.str x
inductive HO where
 /-- a list -/
 | lst (xs:List V)
 /-- a tuple (never changes) -/
 | tup (xs:List V)
 /-- a dict whose keys are ints and texts;one whose keys are tuples of ints and texts (the empty one is both) -/
 | dK (kvs:List (Key×V)) | dT (kvs:List (List Key×V))
 /-- a set of ints: its members,its size -/
 | set (S:Int->Bool) (n:Nat)
 /-- an instance of the class at C,its dict at dx,its attributes -/
 | ins (C dx:Addr) (fs:List (Str×V))
 /-- the dict of the instance at x -/
 | own (x:Addr)
 /-- the dict of an exception -/
 | xd (fs:List (Str×V))
 /-- a bound method,f of x -/
 | met (f x:Addr)
 /-- a range object lo,lo + 1,.. below hi -/
 | rng (lo hi:Int)
 /-- a thing that is known to the object (the script;a dict while a loop walks it): read,never written while it is so -/
 | frz (o:Obj) (u:HO)
 /-- a code object's table -/
 | tbl (ps:Array Value)
 /-- any other thing,by what is true of its one object (a def of one's own: SetO a S n:=HO.ext λh=>..) -/
 | ext (φ:Heap->Prop)
abbrev Hp:=Addr->Option HO
noncomputable def upd (H:Hp)(a:Addr)(o:HO):Hp:=λb=>if b=a then some o else H b
variable {H:Hp}{a:Addr}{o:HO}
theorem Aj:upd H a o a=some o:=by unfold upd;rw [if_pos rfl]
variable {b:Addr}
theorem Ai (h:b≠a):upd H a o b=H b:=by unfold upd;rw [if_neg h]
theorem MT {u:HO}:upd (upd H a o) a u=upd H a u:=by
 funext b;unfold upd;split <;> rfl
theorem AC (h:H a=some o)(h':H b=none):a≠b:=by
 intro e;subst e;rw [h] at h';cases h'
section
variable (P:Program)(w:World)
def ObjOk (H:Hp)(h:Heap)(a:Addr):HO->Prop
 | .lst xs=>xs.length<=sizeLine/\∃(its:List Value) (n:Nat),Vals xs its/\h.get? a=some { cls:=.type "list",data:=.seq its.toArray n }
 | .tup xs=>xs.length<=sizeLine/\∃its:List Value,Vals xs its/\IsTup h a its.toArray
 | .dK kvs=>kvs.length<=sizeLine/\(a == sysModules)=false/\∃vs,KV kvs vs/\h.DictOf (Cl P w) a vs
 | .dT kvs=>kvs.length<=sizeLine/\(a == sysModules)=false/\∃xs:List (List Key×Addr×Value),
    Paired (λ(p:List Key×V) (q:List Key×Addr×Value)=>p.1=q.1/\H q.2.1=some (.tup (p.1.map kV))/\RelV p.2 q.2.2) kvs xs/\
    ∃o es ep,h.get? a=some o/\o.ExactDict/\o.data = .dict es ep/\es.toList=xs.map (entryOfKey (tupleKind (Cl P w)))/\(xs.map (·.1)).Nodup
 | .set S n=>h.SetOf (intKind P w) a S n
 | .ins C dx fs=>H dx=some (.own a)/\fs.length<=1000/\dx≠a/\h.get? a=some (PySem.W.instObj C dx)/\
    ∃mA,h.Ns1 dx mA/\(∀f,RelO (fs.lookup f) (mA f))/\PySem.Within mA (fs.map (·.1))
 | .own _=>∃o,h.get? a=some o
 | .xd fs=>∃mA,h.Ns1 a mA/\∀f,RelO (fs.lookup f) (mA f)
 | .rng lo hi=>∃t u v,h.get? a=some { cls:=.type "range",data:=.fields #[.int lo t,.int hi u,.int 1 v] }
 | .frz o u=>h.get? a=some o/\ObjOk H h a u
 | .tbl ps=>h.get? a=some { cls:=.none,data:=.fields ps }
 | .met f x=>h.get? a=some (PySem.W.methodObj (.ref f) (.ref x))
 | .ext φ=>φ h/\(∃o,h.get? a=some o)/\∀h1 h2:Heap,φ h1->(∀o,h1.get? a=some o->h2.get? a=some o)->φ h2
def HOk (H:Hp)(h:Heap):Prop:=∀a o,H a=some o->ObjOk P w H h a o
end
section
variable {P:Program}{w:World}{H H':Hp}{h h':Heap}{a:Addr}{o:HO}
theorem ObjOk.lt (x:ObjOk P w H h a o):a < h.objs.size:=by
 cases o with
 | lst xs=>obtain ⟨_,_,_,_,e⟩:=x;exact Heap.lt_size e
 | tup xs=>obtain ⟨_,_,_,p⟩:=x;exact p.lt
 | dK kvs=>obtain ⟨_,_,_,_,o,_,_,e,_⟩:=x;exact Heap.lt_size e
 | dT kvs=>obtain ⟨_,_,_,_,o,_,_,e,_⟩:=x;exact Heap.lt_size e
 | set S n=>obtain ⟨o,_,_,_,e,_⟩:=x;exact Heap.lt_size e
 | ins C dx fs=>obtain ⟨_,_,_,e,_⟩:=x;exact Heap.lt_size e
 | own y=>obtain ⟨_,e⟩:=x;exact Heap.lt_size e
 | xd fs=>obtain ⟨_,⟨_,_,_,e,_⟩,_⟩:=x;exact Heap.lt_size e
 | rng lo hi=>obtain ⟨_,_,_,e⟩:=x;exact Heap.lt_size e
 | frz ob u=>obtain ⟨e,_⟩:=x;exact Heap.lt_size e
 | tbl ps=>exact Heap.lt_size (show h.get? a=some _ from x)
 | met f y=>exact Heap.lt_size (show h.get? a=some _ from x)
 | ext φ=>obtain ⟨_,⟨_,e⟩,_⟩:=x;exact Heap.lt_size e
theorem Paired.mapP {α β:Type}{F G:α->β->Prop}:∀{l₁:List α} {l₂:List β},Paired F l₁ l₂->(∀a b,F a b->G a b)->Paired G l₁ l₂
 | _,_,.nil,_=>.nil
 | _,_,.cons r t,f=>.cons (f _ _ r) (Paired.mapP t f)
theorem ObjOk.stay (x:ObjOk P w H h a o)(k:∀b u,(b=a\/H b=some (.own a))->h.get? b=some u->h'.get? b=some u)
 (ho:∀b,H b=some (.own a)->H' b=some (.own a)) (ht:∀b xs,H b=some (.tup xs)->H' b=some (.tup xs)):ObjOk P w H' h' a o:=by
 induction o with
 | lst xs=>obtain ⟨z,its,n,r,e⟩:=x;exact ⟨z,its,n,r,k _ _ (.inl rfl) e⟩
 | tup xs=>obtain ⟨z,its,r,ob,e,c⟩:=x;exact ⟨z,its,r,ob,k _ _ (.inl rfl) e,c⟩
 | dK kvs=>obtain ⟨z,y,vs,r,ob,es,ep,e,c⟩:=x;exact ⟨z,y,vs,r,ob,es,ep,k _ _ (.inl rfl) e,c⟩
 | dT kvs=>
   obtain ⟨z,y,xs,r,ob,es,ep,e,c⟩:=x;exact ⟨z,y,xs,Paired.mapP r λp q z=>⟨z.1,ht _ _ z.2.1,z.2.2⟩,ob,es,ep,k _ _ (.inl rfl) e,c⟩
 | set S n=>obtain ⟨ob,es,ep,t,e,c⟩:=x;exact ⟨ob,es,ep,t,k _ _ (.inl rfl) e,c⟩
 | ins C dx fs=>
   obtain ⟨d,z,ne,e,mA,⟨od,es,ep,e2,c⟩,r⟩:=x;exact ⟨ho _ d,z,ne,k _ _ (.inl rfl) e,mA,⟨od,es,ep,k _ _ (.inr d) e2,c⟩,r⟩
 | own y=>obtain ⟨ob,e⟩:=x;exact ⟨ob,k _ _ (.inl rfl) e⟩
 | xd fs=>obtain ⟨mA,⟨od,es,ep,e,c⟩,r⟩:=x;exact ⟨mA,⟨od,es,ep,k _ _ (.inl rfl) e,c⟩,r⟩
 | rng lo hi=>obtain ⟨t,u,v,e⟩:=x;exact ⟨t,u,v,k _ _ (.inl rfl) e⟩
 | frz ob u ih=>obtain ⟨e,q⟩:=x;exact ⟨k _ _ (.inl rfl) e,ih q⟩
 | tbl ps=>
   have e:h.get? a=some { cls:=.none,data:=.fields ps }:=x;show h'.get? a=some { cls:=.none,data:=.fields ps };exact k a _ (.inl rfl) e
 | met f y=>
   have e:h.get? a=some (PySem.W.methodObj (.ref f) (.ref y)):=x;show h'.get? a=some (PySem.W.methodObj (.ref f) (.ref y));exact k a _ (.inl rfl) e
 | ext φ=>obtain ⟨p,⟨o,e⟩,st⟩:=x;exact ⟨st _ _ p λo q=>k _ _ (.inl rfl) q,⟨o,k _ _ (.inl rfl) e⟩,st⟩
theorem HOk.lt (x:HOk P w H h)(e:H a=some o):a < h.objs.size:=(x a o e).lt
theorem HOk.fresh (x:HOk P w H h)(e:h.objs.size<=a):H a=none:=by
 cases q:H a with
 | none=>rfl
 | some u=>exact absurd (Nat.lt_of_lt_of_le (x.lt q) e) (Nat.lt_irrefl _)
theorem HOk.kept (x:HOk P w H h)(k:∀b u,h.get? b=some u->h'.get? b=some u):HOk P w H h':=λa o e=>
 (x a o e).stay (λb u _ q=>k b u q) (λ_ q=>q) λ_ _ q=>q
theorem HOk.laid (x:HOk P w H h)(k:∀b u,h.get? b=some u->h'.get? b=some u)(hp:h.objs.size<=a)(new:ObjOk P w (upd H a o) h' a o):HOk P w (upd H a o) h':=λb u e=>by
 have hn:=x.fresh hp
 by_cases hb:b=a
 ·subst hb;rw [Aj] at e;cases e;exact new
 ·rw [Ai hb] at e;exact (x b u e).stay (λc v _ q=>k c v q) (λc q=>by rw [Ai (AC q hn)];exact q) λc xs q=>by rw [Ai (AC q hn)];exact q
end
noncomputable def Rd (H:Hp)(a:Addr)(u:HO):Prop:=H a=some u\/∃o,H a=some (.frz o u)
variable {P:Program}{w:World}{h:Heap}
theorem Rd.ok {u:HO}(r:Rd H a u)(x:HOk P w H h):ObjOk P w H h a u:=by
 rcases r with r | ⟨o,r⟩
 ·exact x a u r
 ·obtain ⟨_,q⟩:=x a _ r;exact q
def Mut:Option HO->Prop
 | some (.lst _)=>True
 | some (.dK _)=>True
 | some (.dT _)=>True
 | some (.set _ _)=>True
 | some (.ins _ _ _)=>True
 | some (.ext _)=>True
 | _=>False
section
variable {P:Program}{w:World}{H:Hp}{h h':Heap}{x e:Addr}{o':HO}
theorem HOk.write (ok:HOk P w H h)(mu:Mut (H x))(he:e=x\/H e=some (.own x))(k:∀b u,b≠e->h.get? b=some u->h'.get? b=some u)(heo:∃u,h'.get? e=some u)
 (new:ObjOk P w (upd H x o') h' x o'):HOk P w (upd H x o') h':=λb u q=>by
 have nown:∀c y,H c=some (.own y)->c≠x:=λc y r z=>by subst z;rw [r] at mu;exact mu
 have ntup:∀c xs,H c=some (.tup xs)->c≠x:=λc xs r z=>by subst z;rw [r] at mu;exact mu
 by_cases hb:b=x
 ·subst hb;rw [Aj] at q;cases q;exact new
 ·rw [Ai hb] at q
  by_cases hbe:b=e
  ·have q':H b=some (.own x):=by
    rcases he with z | z
    ·exact absurd (hbe.trans z) hb
    ·rw [hbe];exact z
   rw [q] at q';cases q'
   obtain ⟨v,hv⟩:=heo;exact ⟨v,by rw [hbe];exact hv⟩
  ·refine (ok b u q).stay (λc v hc r=>k c v ?_ r) (λc r=>by rw [Ai (nown c b r)];exact r) λc xs r=>by rw [Ai (ntup c xs r)];exact r
   rcases hc with rfl | hc
   ·exact hbe
   ·rintro rfl;rcases he with z | z
    ·exact nown c b hc z
    ·rw [hc] at z;cases z;exact hb rfl
end
structure Un (fs ex:List Addr)(H H':Hp)(h h':Heap):Prop where
 keep:∀b o,h.get? b=some o->H b=none->b∉fs->b∉ex->h'.get? b=some o
 slot:∀b o,h.get? b=some o->H b=none->b∈fs->b∉ex->∃sl,h'.get? b=some { o with slots:=sl }
 free:∀b o,h.get? b=some o->H b=none->b∉ex->H' b=none
 there:∀b o,h.get? b=some o->b∉ex->∃o',h'.get? b=some o'
 tups:∀b xs,H b=some (.tup xs)->H' b=some (.tup xs)
 frzs:∀b o u,H b=some (.frz o u)->H' b=some (.frz o u)
 tbls:∀b ps,H b=some (.tbl ps)->∃more,H' b=some (.tbl (ps++more))
section
variable {fs fs' ex ex':List Addr}{H H1 H2:Hp}{h h1 h2 h':Heap}{a x e:Addr}{o:HO}
theorem Un.any (u:Un fs ex H H1 h h1){b:Addr}{ob:Obj}(q:h.get? b=some ob)(n:H b=none)(hx:b∉ex):∃sl,h1.get? b=some { ob with slots:=sl }:=by
 by_cases hb:b∈fs
 ·exact u.slot b ob q n hb hx
 ·exact ⟨ob.slots,u.keep b ob q n hb hx⟩
theorem Un.kept (k:∀b u,h.get? b=some u->h'.get? b=some u):Un fs ex H H h h':=
 ⟨λb ob q _ _ _=>k b ob q,λb ob q _ _ _=>⟨ob.slots,k b ob q⟩,λ_ _ _ n _=>n,λb ob q _=>⟨ob,k b ob q⟩,λ_ _ q=>q,λ_ _ _ q=>q,λ_ ps q=>⟨#[],by rw [q];simp⟩⟩
theorem Un.refl:Un fs ex H H h h:=Un.kept λ_ _ q=>q
theorem Un.laid (k:∀b u,h.get? b=some u->h'.get? b=some u)(hp:h.objs.size<=a)(hn:H a=none):Un fs ex H (upd H a o) h h' where
 keep:=λb u q _ _ _=>k b u q
 slot:=λb u q _ _ _=>⟨u.slots,k b u q⟩
 free:=λb u q n _=>by rw [Ai (Nat.ne_of_lt (Nat.lt_of_lt_of_le (Heap.lt_size q) hp))];exact n
 there:=λb u q _=>⟨u,k b u q⟩
 tups:=λb xs q=>by rw [Ai (AC q hn)];exact q
 frzs:=λb u xs q=>by rw [Ai (AC q hn)];exact q
 tbls:=λb ps q=>⟨#[],by rw [Ai (AC q hn),q];simp⟩
theorem Un.write (mu:Mut (H x))(he:e=x\/H e=some (.own x))(k:∀b u,b≠e->h.get? b=some u->h'.get? b=some u)(heo:∃u,h'.get? e=some u):Un fs ex H (upd H x o) h h':=by
 have hx:∀b,H b=none->b≠x:=λb n z=>by subst z;rw [n] at mu;exact mu
 have hb:∀b,H b=none->b≠e:=λb n z=>by
  subst z;rcases he with r | r
  ·exact hx b n r
  ·rw [n] at r;cases r
 have hm:∀b u,H b=some u->¬Mut (some u)->b≠x:=λb u q nm z=>by subst z;rw [q] at mu;exact nm mu
 refine ⟨λb u q n _ _=>k b u (hb b n) q,λb u q n _ _=>⟨u.slots,k b u (hb b n) q⟩,λb u q n _=>by rw [Ai (hx b n)];exact n,λb u q _=>?_,
  λb xs q=>by rw [Ai (hm b _ q λz=>z)];exact q,λb u xs q=>by rw [Ai (hm b _ q λz=>z)];exact q,λb ps q=>⟨#[],by rw [Ai (hm b _ q λz=>z),q];simp⟩⟩
 by_cases hbe:b=e
 ·subst hbe;exact heo
 ·exact ⟨u,k b u hbe q⟩
end
noncomputable def trk (h:Heap)(H:Hp):List Addr:=(List.range h.objs.size).filter λa=>(H a).isSome
def FR (h:Heap)(H:Hp):Heap:=PySem.W.hideAll h (trk h H)
theorem OT (h:Heap)(H:Hp):(FR h H).objs.size=h.objs.size:=PySem.W.hideAll_size _ _
theorem QR {o:Obj}(e:h.get? b=some o)(n:H b=none):(FR h H).get? b=some o:=
 PySem.W.hideAll_get _ e λhm=>by
  have q:(H b).isSome=true:=(List.mem_filter.mp hm).2;rw [n] at q;simp at q
theorem T5 {o:Obj}(e:(FR h H).get? b=some o):h.get? b=some o/\H b=none:=by
 have e':h.get? b=some o:=PySem.W.of_hideAll (trk h H) e;refine ⟨e',?_⟩
 cases q:H b with
 | none=>rfl
 | some x=>
   have hm:b∈trk h H:=List.mem_filter.mpr ⟨List.mem_range.mpr (Heap.lt_size e'),by simp [q]⟩;have z:(FR h H).get? b=none:=PySem.W.hideAll_none (trk h H) hm;rw [z] at e;cases e
noncomputable def SM (g h:Heap)(L:Addr):List (Addr×Obj):=(List.range h.objs.size).filterMap λa=>if a=L\/(g.get? a).isSome=true then none else (h.get? a).map λo=>(a,o)
def rest (g h:Heap)(L d:Addr):List (Addr×Obj):=(SM g h L).filter λp=>decide (p.1≠d)
structure Mod (K:PySem.W.Frag)(mg:Str->Option Value)(base:Heap):Prop where
 kin:K.In base
 glob:base.Ns mainGlobals mg
 blt:∃mb,base.Ns builtinsNs mb/\∀x:Str,x≠"__name__"->mb x=bootBuiltins x
 nolimit:base.NoLimit
structure Cx where
 prog:Program
 w:World
 K:PySem.W.Frag
 mg:Str->Option Value
 base:Heap
 A:Around
 N:List Str
 s₀:Shared
 H₀:Hp
 env:Env
 outer:List Env
 stack:List Env
 ex:List Addr
 fn:Str->Bool
 calm:Bool
 pn:List (Addr×Obj)
 xe:Value->Shared->Prop
noncomputable def frs (l:List Env):List Addr:=l.filterMap (·.frame)
abbrev Cx.fs (X:Cx):List Addr:=frs X.outer
def Vis (sc:Scope)(x:Str):Prop:=sc.names.lookup x=some .local\/sc.names.lookup x=some .cell\/sc.names.lookup x=some .free
def Loc (sc:Scope)(x:Str):Prop:=sc.names.lookup x=some .local\/sc.names.lookup x=some .cell
def Zc (env:Env)(h:Heap)(m:Str->Option Value)(x:Str)(u:Value):Prop:=
 (env.kindOf x=some .local/\m x=some u)\/((env.kindOf x=some .cell\/env.kindOf x=some .free)/\∃c,env.cells.lookup x=some c/\h.IsCell c (some u))
structure Cx.Ok (X:Cx):Prop where
 mod:Mod X.K X.mg X.base
 kind:X.env.scope.kind = .function
 glob:X.env.globals=mainGlobals
 blt:X.env.builtins=builtinsNs
 above:X.s₀.heap.objs.size<=X.env.locals
 inj:∀x y c,X.env.cells.lookup x=some c->X.env.cells.lookup y=some c->x=y
 has:∀x,(X.env.kindOf x=some .cell\/X.env.kindOf x=some .free)->∃c,X.env.cells.lookup x=some c
 cab:∀x c,X.fn x=true->X.env.cells.lookup x=some c->X.s₀.heap.objs.size<=c
 hd:X.calm=true->X.A.handled=none
 frames:X.A.frames=some X.stack
 stk:X.stack=X.outer\/(X.stack=X.env :: X.outer/\X.env.frame=some X.env.locals)
 exf:∀b∈X.ex,b≠X.env.locals/\∀x c,X.env.cells.lookup x=some c->c≠b
 bs:∀b o,X.base.get? b=some o->X.s₀.heap.get? b=some o/\X.H₀ b=none
 bsz:X.base.objs.size<=X.s₀.heap.objs.size
 noex:∀b o,X.base.get? b=some o->b∉X.ex
 exfs:∀b∈X.ex,b∉X.fs
 funs:X.s₀.heap.FunFrames X.base X.outer
 frf:∀b∈X.fs,X.H₀ b=none
structure Inv (X:Cx)(pins:List (Addr×Obj))(σ:List (Option V))(H:Hp)(s:Shared):Prop where
 ok:X.Ok
 os:s.os=X.s₀.os
 bare:AllBare s.gens
 base:Un X.fs X.ex X.H₀ H X.s₀.heap s.heap
 loc:∃m,s.heap.Ns X.env.locals m/\∀(i:Nat) (x:Str) (v:V),X.N[i]?=some x->σ[i]?=some (some v)->Vis X.env.scope x->∃u,RelV v u/\Zc X.env s.heap m x u
 cell:∀x c,X.env.cells.lookup x=some c->∃v,s.heap.IsCell c v
 free:H X.env.locals=none
 freeC:∀x c,X.env.cells.lookup x=some c->H c=none
 pin:∀p∈X.pn++pins,s.heap.get? p.1=some p.2/\H p.1=none/\p.1≠X.env.locals/\p.1∉X.fs/\∀v,p.2.data≠.cell v
 hok:HOk X.prog X.w H s.heap
 len:σ.length=X.N.length
variable {t' i:Nat}{E:Value->Shared->Prop}{x:Str}{v:V}{u:Value}{Q:Unit->Shared->Prop}
section
variable {X:Cx}{pins:List (Addr×Obj)}{σ:List (Option V)}{H H':Hp}{s:Shared}{h':Heap}
theorem Cx.Ok.nofr (ok:X.Ok){b:Addr}{o:Obj}(e:X.base.get? b=some o):b∉X.fs:=λhb=>by
 have:=(ok.funs.mem hb).1;rw [e] at this;cases this
theorem Inv.bs (I:Inv X pins σ H s):∀b o,X.base.get? b=some o->s.heap.get? b=some o/\H b=none:=λb o e=>
 ⟨I.base.keep b o (I.ok.bs b o e).1 (I.ok.bs b o e).2 (I.ok.nofr e) (I.ok.noex b o e),I.base.free b o (I.ok.bs b o e).1 (I.ok.bs b o e).2 (I.ok.noex b o e)⟩
theorem Inv.bk (I:Inv X pins σ H s):∀b o,X.base.get? b=some o->s.heap.get? b=some o:=λb o e=>(I.bs b o e).1
theorem Inv.mod (I:Inv X pins σ H s):Mod X.K X.mg X.base:=I.ok.mod
theorem Inv.kIn (I:Inv X pins σ H s):X.K.In s.heap:=I.ok.mod.kin.keeps I.bk
theorem Inv.lt (I:Inv X pins σ H s):X.env.locals < s.heap.objs.size:=let ⟨_,hn,_⟩:=I.loc;hn.lt
theorem Inv.sz (I:Inv X pins σ H s):X.s₀.heap.objs.size<=s.heap.objs.size:=Nat.le_trans I.ok.above (Nat.le_of_lt I.lt)
theorem Inv.nofs (I:Inv X pins σ H s){a:Addr}(h:s.heap.objs.size<=a):a∉X.fs:=λhb=>by
 obtain ⟨_,o,ho,_⟩:=I.ok.funs.mem hb;exact absurd (Nat.lt_of_lt_of_le (Heap.lt_size ho) (Nat.le_trans I.sz h)) (Nat.lt_irrefl _)
theorem Inv.cne (I:Inv X pins σ H s):∀x c,X.env.cells.lookup x=some c->c≠X.env.locals:=λx c e z=>by
 obtain ⟨v,o,ho,hd⟩:=I.cell x c e;obtain ⟨m,⟨o',es,ep,ho',hd',_⟩,_⟩:=I.loc;rw [z,ho'] at ho;cases ho;rw [hd'] at hd;cases hd
theorem Inv.funs (I:Inv X pins σ H s):s.heap.FunFrames X.base X.outer:=by
 have all:∀(l:List Env),(∀b∈frs l,b∈X.fs)->X.s₀.heap.FunFrames X.base l->s.heap.FunFrames X.base l:=by
  intro l
  induction l with
  | nil=>intro _ _;trivial
  | cons env r ih=>
    intro hs hl;obtain ⟨hk,⟨L,o,hf,hn,ho,hd⟩,hr⟩:=hl;have hL:L∈X.fs:=hs L (by unfold frs;rw [List.filterMap_cons,hf];exact List.mem_cons_self);obtain ⟨sl,e⟩:=I.base.slot L o ho (I.ok.frf L hL) hL λz=>I.ok.exfs L z hL;exact ⟨hk,⟨L,_,hf,hn,e,hd⟩,ih (λb hb=>hs b (by unfold frs;rw [List.filterMap_cons,hf];exact List.mem_cons_of_mem _ hb)) hr⟩
 exact all X.outer (λ_ hb=>hb) I.ok.funs
theorem Inv.stack (I:Inv X pins σ H s):s.heap.FunFrames X.base X.stack:=by
 rcases I.ok.stk with e | ⟨e,hf⟩
 ·rw [e];exact I.funs
 ·rw [e];obtain ⟨m,hn,_⟩:=I.loc;refine .cons (by rw [I.ok.kind];decide) hf hn ?_ I.funs;exact Heap.get?_none_of_le (Nat.le_trans I.ok.bsz I.ok.above)
theorem Inv.stkSub (I:Inv X pins σ H s):∀b∈frs X.stack,b∈X.env.locals :: X.fs:=λb hb=>by
 rcases I.ok.stk with e | ⟨e,hf⟩
 ·rw [e] at hb;exact List.mem_cons_of_mem _ hb
 ·rw [e] at hb;unfold frs at hb;rw [List.filterMap_cons,hf] at hb;exact hb
theorem Inv.stkFree (I:Inv X pins σ H s):∀b∈frs X.stack,H b=none:=λb hb=>by
 rcases List.mem_cons.mp (I.stkSub b hb) with e | hb
 ·rw [e];exact I.free
 ·obtain ⟨_,o,ho,_⟩:=I.ok.funs.mem hb;exact I.base.free b o ho (I.ok.frf b hb) λz=>I.ok.exfs b z hb
theorem Inv.step {g':Array GenState}{t':Nat}{d':Drawn}{ch:List Addr}(I:Inv X pins σ H s)
 (hch:∀b∈ch,(b∈X.ex\/X.s₀.heap.objs.size<=b)/\b≠X.env.locals/\(∀x c,X.env.cells.lookup x=some c->c≠b)/\∀p∈X.pn++pins,p.1≠b)
 (keep:∀b o,b≠X.env.locals->b∉X.fs->b∉ch->s.heap.get? b=some o->H b=none->h'.get? b=some o)
 (slot:∀b o,b≠X.env.locals->b∈X.fs->b∉ch->s.heap.get? b=some o->H b=none->∃sl,h'.get? b=some { o with slots:=sl }) (free:∀b o,b∉ch->s.heap.get? b=some o->H b=none->H' b=none)
 (there:∀b o,b∉ch->s.heap.get? b=some o->∃o',h'.get? b=some o')
 (tups:∀b xs,H b=some (.tup xs)->H' b=some (.tup xs)) (frzs:∀b o u,H b=some (.frz o u)->H' b=some (.frz o u)) (tbls:∀b ps,H b=some (.tbl ps)->∃more,H' b=some (.tbl (ps++more)))
 (ns:∀m,s.heap.Ns X.env.locals m->h'.Ns X.env.locals m) (hok:HOk X.prog X.w H' h') (hg:AllBare g') :
 Inv X pins σ H' { s with heap:=h',gens:=g',drawn:=d',toks:=t' }:=by
 have neL:∀b o,X.s₀.heap.get? b=some o->b≠X.env.locals:=λb o e=>Nat.ne_of_lt (Nat.lt_of_lt_of_le (Heap.lt_size e) I.ok.above);have neC:∀b o,X.s₀.heap.get? b=some o->b∉X.ex->b∉ch:=λb o e hx hb=>by
  rcases (hch b hb).1 with z | z
  ·exact hx z
  ·exact absurd (Nat.lt_of_lt_of_le (Heap.lt_size e) z) (Nat.lt_irrefl _)
 have cellK:∀x c,X.env.cells.lookup x=some c->∀v,s.heap.IsCell c v->h'.IsCell c v:=λx c e v z9=>by
  obtain ⟨o,ho,hd⟩:=z9;have nch:c∉ch:=λz=>(hch c z).2.2.1 x c e rfl
  by_cases hc:c∈X.fs
  ·obtain ⟨sl,q⟩:=slot c o (I.cne x c e) hc nch ho (I.freeC x c e);exact ⟨_,q,hd⟩
  ·exact ⟨o,keep c o (I.cne x c e) hc nch ho (I.freeC x c e),hd⟩
 refine ⟨I.ok,I.os,hg,⟨λb o e n hb hx=>?_,λb o e n hb hx=>?_,λb o e n hx=>?_,λb o e hx=>?_,λb xs e=>tups b xs (I.base.tups b xs e),λb o xs e=>frzs b o xs (I.base.frzs b o xs e),λb ps e=>?_⟩,?_,λx c e=>?_,?_,λx c e=>?_,λp hp=>?_,hok,I.len⟩
 ·exact keep b o (neL b o e) hb (neC b o e hx) (I.base.keep b o e n hb hx) (I.base.free b o e n hx)
 ·obtain ⟨sl,e1⟩:=I.base.slot b o e n hb hx;obtain ⟨sl',e2⟩:=slot b _ (neL b o e) hb (neC b o e hx) e1 (I.base.free b o e n hx);exact ⟨sl',e2⟩
 ·obtain ⟨o',e1⟩:=I.base.there b o e hx;exact free b o' (neC b o e hx) e1 (I.base.free b o e n hx)
 ·obtain ⟨o',e1⟩:=I.base.there b o e hx;exact there b o' (neC b o e hx) e1
 ·obtain ⟨m1,e1⟩:=I.base.tbls b ps e;obtain ⟨m2,e2⟩:=tbls b _ e1;exact ⟨m1++m2,by rw [e2,Array.append_assoc]⟩
 ·obtain ⟨m,hn,hl⟩:=I.loc;refine ⟨m,ns m hn,λi x v e1 e2 e3=>?_⟩;obtain ⟨u,r,l⟩:=hl i x v e1 e2 e3;refine ⟨u,r,?_⟩;rcases l with l | ⟨k,c,e,z⟩
  ·exact .inl l
  ·exact .inr ⟨k,c,e,cellK x c e _ z⟩
 ·obtain ⟨v,z⟩:=I.cell x c e;exact ⟨v,cellK x c e v z⟩
 ·obtain ⟨m,⟨o,_,_,ho,_⟩,_⟩:=I.loc;exact free _ o (λz=>(hch _ z).2.1 rfl) ho I.free
 ·obtain ⟨v,o,ho,hd⟩:=I.cell x c e;exact free c o (λz=>(hch c z).2.2.1 x c e rfl) ho (I.freeC x c e)
 ·obtain ⟨e,n,ne,nf,d⟩:=I.pin p hp;have nch:p.1∉ch:=λz=>(hch p.1 z).2.2.2 p hp rfl;exact ⟨keep p.1 p.2 ne nf nch e n,free p.1 p.2 nch e n,ne,nf,d⟩
theorem Inv.un (I:Inv X pins σ H s)(u:Un X.fs [] H H' s.heap h')(hok:HOk X.prog X.w H' h'):Inv X pins σ H' { s with heap:=h',toks:=t' }:=by
 obtain ⟨m,⟨o,es,ep,ho,r⟩,_⟩:=id I.loc;obtain ⟨sl,hL⟩:=u.any ho I.free (by simp);exact I.step (g':=s.gens) (d':=s.drawn) (ch:=[]) (λ_ z=>nomatch z) (λb o _ hb _ e n=>u.keep b o e n hb (by simp)) (λb o _ hb _ e n=>u.slot b o e n hb (by simp)) (λb o _ e n=>u.free b o e n (by simp)) (λb o _ e=>u.there b o e (by simp)) u.tups u.frzs u.tbls (λm' hm=>by
  obtain ⟨o',es',ep',ho',r'⟩:=hm;rw [ho] at ho';cases ho'
  exact ⟨_,es',ep',hL,r'⟩) hok I.bare
theorem Inv.call {g':Array GenState}{d':Drawn}{ch:List Addr}(I:Inv X pins σ H s)(u:Un (frs X.stack) ch H H' s.heap h')(hok:HOk X.prog X.w H' h')(hg:AllBare g')
 (hch:∀b∈ch,(b∈X.ex\/X.s₀.heap.objs.size<=b)/\b≠X.env.locals/\(∀x c,X.env.cells.lookup x=some c->c≠b)/\∀p∈X.pn++pins,p.1≠b) :
 Inv X pins σ H' { s with heap:=h',gens:=g',drawn:=d',toks:=t' }:=by
 obtain ⟨m,⟨o,es,ep,ho,r⟩,_⟩:=id I.loc;obtain ⟨sl,hL⟩:=u.any ho I.free λz=>(hch _ z).2.1 rfl;exact I.step (ch:=ch) hch (λb o hL hb hc e n=>u.keep b o e n (λz=>(List.mem_cons.mp (I.stkSub b z)).elim hL hb) hc) (λb o _ _ hc e n=>u.any e n hc) (λb o hc e n=>u.free b o e n hc) (λb o hc e=>u.there b o e hc) u.tups u.frzs u.tbls (λm' hm=>by
  obtain ⟨o',es',ep',ho',r'⟩:=hm;rw [ho] at ho';cases ho'
  exact ⟨_,es',ep',hL,r'⟩) hok hg
theorem Inv.turned {it:Addr}(I:Inv X pins σ H s)(k:∀b o,b≠it->s.heap.get? b=some o->h'.get? b=some o)(hn:H it=none)(hL:it≠X.env.locals)
 (h1:it∈X.ex\/X.s₀.heap.objs.size<=it) (h2:∀x c,X.env.cells.lookup x=some c->c≠it) (h3:∀p∈X.pn++pins,p.1≠it):Inv X pins σ H { s with heap:=h',toks:=t' }:=by
 have nit:∀b u,H b=some u->b≠it:=λb u e z=>by rw [z,hn] at e;cases e
 refine I.step (g':=s.gens) (d':=s.drawn) (ch:=[it]) (λb hb=>?_) (λb o _ _ hc e _=>k b o (λz=>hc (by simp [z])) e) (λb o _ _ hc e _=>⟨o.slots,k b o (λz=>hc (by simp [z])) e⟩) (λ_ _ _ _ n=>n)
  (λb o hc e=>⟨o,k b o (λz=>hc (by simp [z])) e⟩) (λ_ _ e=>e) (λ_ _ _ e=>e) (λb ps e=>⟨#[],by rw [e];simp⟩) (λm hm=>?_) (λb u e=>?_) I.bare
 ·have e:b=it:=by simpa using hb
  subst e;exact ⟨h1,hL,h2,h3⟩
 ·obtain ⟨o,es,ep,ho,r⟩:=hm;exact ⟨o,es,ep,k _ o (Ne.symm hL) ho,r⟩
 ·refine (I.hok b u e).stay (λc v hc q=>k c v ?_ q) (λ_ q=>q) λ_ _ q=>q;rcases hc with z | z
  ·rw [z];exact nit b u e
  ·exact nit c _ z
theorem Inv.tok (I:Inv X pins σ H s)(t:Nat):Inv X pins σ H { s with toks:=t }:=I.un (h':=s.heap) (t':=t) Un.refl I.hok
theorem Inv.kept {t':Nat}(I:Inv X pins σ H s)(k:∀b u,s.heap.get? b=some u->h'.get? b=some u):Inv X pins σ H { s with heap:=h',toks:=t' }:=I.un (Un.kept k) (I.hok.kept k)
theorem Inv.laid {a:Addr}{o:HO}{t':Nat}(I:Inv X pins σ H s)(k:∀b u,s.heap.get? b=some u->h'.get? b=some u)(hp:s.heap.objs.size<=a)(new:ObjOk X.prog X.w (upd H a o) h' a o) :
 Inv X pins σ (upd H a o) { s with heap:=h',toks:=t' }:=I.un (Un.laid k hp (I.hok.fresh hp)) (I.hok.laid k hp new)
theorem Inv.write {x e:Addr}{o:HO}{t':Nat}(I:Inv X pins σ H s)(mu:Mut (H x))(he:e=x\/H e=some (.own x))(k:∀b u,b≠e->s.heap.get? b=some u->h'.get? b=some u)(heo:∃u,h'.get? e=some u)
 (new:ObjOk X.prog X.w (upd H x o) h' x o):Inv X pins σ (upd H x o) { s with heap:=h',toks:=t' }:=I.un (Un.write mu he k heo) (I.hok.write mu he k heo new)
theorem Inv.pins_of {pins':List (Addr×Obj)}(I:Inv X pins σ H s)(h:∀p∈pins',s.heap.get? p.1=some p.2/\H p.1=none/\p.1≠X.env.locals/\p.1∉X.fs/\∀v,p.2.data≠.cell v):Inv X pins' σ H s:=
 ⟨I.ok,I.os,I.bare,I.base,I.loc,I.cell,I.free,I.freeC,λp hp=>(List.mem_append.mp hp).elim (λz=>I.pin p (List.mem_append_left _ z)) (h p),I.hok,I.len⟩
theorem FX {N:List Str}(hN:N.Nodup){i j:Nat}{x:Str}(a:N[i]?=some x)(b:N[j]?=some x):i=j:=by
 obtain ⟨h1,e1⟩:=List.getElem?_eq_some_iff.mp a;obtain ⟨h2,e2⟩:=List.getElem?_eq_some_iff.mp b;exact (List.getElem_inj hN).mp (e1.trans e2.symm)
theorem GF {M:Model}{A:Around}(I:Inv X pins σ H s)(hN:X.N.Nodup)(hi:X.N[i]?=some x)(hx:Loc X.env.scope x)(r:RelV v u)
 (h:∀s',Inv X pins (σ.set i (some v)) H s'->(∃a,Heap.SameBut a s.heap s'.heap/\(a=X.env.locals\/X.env.cells.lookup x=some a))->Q () s') (hf:X.fn x=true\/X.env.scope.names.lookup x=some .local:=by walk_at "h"):wpAny M A (storeName X.env x u) Q E s:=by
 obtain ⟨m,hn,hl⟩:=id I.loc;have hcls:(X.env.scope.kind == .class || (X.env.scope.kind == .module && X.env.locals != X.env.globals))=false:=by rw [I.ok.kind];rfl
 have hiσ:i < σ.length:=by rw [I.len];exact (List.getElem?_eq_some_iff.mp hi).1
 have cne:=I.cne;have tracked:∀{a:Addr} {h':Heap},(∃o,s.heap.get? a=some o/\H a=none)->Heap.SameBut a s.heap h'->HOk X.prog X.w H h':=λ{a h'} ha hs b ob e=>by
  obtain ⟨_,_,hfree⟩:=ha;refine (I.hok b ob e).stay (λc w' hc q=>(hs.2 c ?_).trans q) (λ_ q=>q) λ_ _ q=>q;rintro rfl;rcases hc with rfl | hc
  ·rw [hfree] at e;cases e
  ·rw [hfree] at hc;cases hc
 rcases hx with hk | hk
 ·refine wpAny_storeName_local hk hn (λh' hn' hs=>?_) hcls;obtain ⟨oL,_,_,hoL,_⟩:=id hn;refine h _ ⟨I.ok,I.os,I.bare,⟨λb o e n hb hx=>?_,λb o e n hb hx=>?_,I.base.free,λb o e hx=>?_,I.base.tups,I.base.frzs,I.base.tbls⟩,⟨_,hn',λj y v' e1 e2 e3=>?_⟩,λy c e=>?_,I.free,I.freeC,λp hp=>?_,tracked ⟨oL,hoL,I.free⟩ hs,by simpa using I.len⟩ ⟨_,hs,.inl rfl⟩
  ·exact (hs.2 b (Nat.ne_of_lt (Nat.lt_of_lt_of_le (Heap.lt_size e) I.ok.above))).trans (I.base.keep b o e n hb hx)
  ·obtain ⟨sl,e1⟩:=I.base.slot b o e n hb hx;exact ⟨sl,(hs.2 b (Nat.ne_of_lt (Nat.lt_of_lt_of_le (Heap.lt_size e) I.ok.above))).trans e1⟩
  ·obtain ⟨o',e1⟩:=I.base.there b o e hx;exact ⟨o',(hs.2 b (Nat.ne_of_lt (Nat.lt_of_lt_of_le (Heap.lt_size e) I.ok.above))).trans e1⟩
  ·by_cases hj:j=i
   ·subst hj;rw [hi] at e1;cases e1
    rw [List.getElem?_set_self hiσ] at e2
    cases e2
    exact ⟨u,r,.inl ⟨hk,by simp⟩⟩
   ·rw [List.getElem?_set_ne (Ne.symm hj)] at e2;obtain ⟨u',r',q⟩:=hl j y v' e1 e2 e3;refine ⟨u',r',?_⟩;rcases q with ⟨k,e⟩ | ⟨k,c,e,z⟩
    ·refine .inl ⟨k,?_⟩;have:y≠x:=λe=>hj (FX hN e1 (e ▸ hi));simp [this,e]
    ·exact .inr ⟨k,c,e,z.sameBut hs (cne y c e)⟩
  ·obtain ⟨w',z⟩:=I.cell y c e;exact ⟨w',z.sameBut hs (cne y c e)⟩
  ·obtain ⟨e,n,ne,nf,d⟩:=I.pin p hp;exact ⟨(hs.2 p.1 ne).trans e,n,ne,nf,d⟩
 ·have hfn:X.fn x=true:=by
   rcases hf with z | z
   ·exact z
   ·rw [z] at hk;cases hk
  obtain ⟨c,hc⟩:=I.ok.has x (.inl hk);obtain ⟨w',z⟩:=I.cell x c hc;refine wpAny_storeName_cell I.ok.kind hk hc z (λh' hc' hs=>?_);obtain ⟨oc,hoc,hocd⟩:=id z;refine h { s with heap:=h' } ⟨I.ok,I.os,I.bare,⟨λb o e n hb hx=>?_,λb o e n hb hx=>?_,I.base.free,λb o e hx=>?_,I.base.tups,I.base.frzs,I.base.tbls⟩,⟨m,hn.sameBut hs (Ne.symm (cne x c hc)),λj y v' e1 e2 e3=>?_⟩,λy c' e=>?_,I.free,I.freeC,λp hp=>?_,tracked ⟨oc,hoc,I.freeC x c hc⟩ hs,by simpa using I.len⟩ ⟨c,hs,.inr hc⟩
  ·exact (hs.2 b (Nat.ne_of_lt (Nat.lt_of_lt_of_le (Heap.lt_size e) (I.ok.cab x c hfn hc)))).trans (I.base.keep b o e n hb hx)
  ·obtain ⟨sl,e1⟩:=I.base.slot b o e n hb hx;exact ⟨sl,(hs.2 b (Nat.ne_of_lt (Nat.lt_of_lt_of_le (Heap.lt_size e) (I.ok.cab x c hfn hc)))).trans e1⟩
  ·obtain ⟨o',e1⟩:=I.base.there b o e hx;exact ⟨o',(hs.2 b (Nat.ne_of_lt (Nat.lt_of_lt_of_le (Heap.lt_size e) (I.ok.cab x c hfn hc)))).trans e1⟩
  ·by_cases hj:j=i
   ·subst hj;rw [hi] at e1;cases e1
    rw [List.getElem?_set_self hiσ] at e2
    cases e2
    exact ⟨u,r,.inr ⟨.inl hk,c,hc,hc'⟩⟩
   ·rw [List.getElem?_set_ne (Ne.symm hj)] at e2;obtain ⟨u',r',q⟩:=hl j y v' e1 e2 e3;refine ⟨u',r',?_⟩;rcases q with q | ⟨k,c',e,z'⟩
    ·exact .inl q
    ·refine .inr ⟨k,c',e,z'.sameBut hs ?_⟩;rintro rfl;exact hj (FX hN e1 (I.ok.inj _ _ _ e hc ▸ hi))
  ·by_cases hcc:c'=c
   ·subst hcc;exact ⟨_,hc'⟩
   ·obtain ⟨w2,z2⟩:=I.cell y c' e;exact ⟨w2,z2.sameBut hs hcc⟩
  ·obtain ⟨e,n,ne,nf,d⟩:=I.pin p hp;refine ⟨(hs.2 p.1 ?_).trans e,n,ne,nf,d⟩;intro q;rw [q,hoc] at e;have q':oc=p.2:=Option.some.inj e;exact d w' (by rw [<-q'];exact hocd)
theorem E8 {M:Model}{A:Around}(I:Inv X pins σ H s)(hN:X.N.Nodup)(hi:X.N[i]?=some x)(hx:Loc X.env.scope x)(r:RelV v u)
 (h:∀s',Inv X pins (σ.set i (some v)) H s'->Q () s') (hf:X.fn x=true\/X.env.scope.names.lookup x=some .local:=by walk_at "h"):wpAny M A (storeName X.env x u) Q E s:=
 GF I hN hi hx r (λs' I' _=>h s' I') hf
theorem Inv.call' {s':Shared}{ch:List Addr}(I:Inv X pins σ H s)(ho:s'.os=s.os)(u:Un (frs X.stack) ch H H' s.heap s'.heap)(hok:HOk X.prog X.w H' s'.heap)(hg:AllBare s'.gens)
 (hch:∀b∈ch,(b∈X.ex\/X.s₀.heap.objs.size<=b)/\b≠X.env.locals/\(∀x c,X.env.cells.lookup x=some c->c≠b)/\∀p∈X.pn++pins,p.1≠b):Inv X pins σ H' s':=by
 obtain ⟨h',g',d',t',o'⟩:=s';have e:o'=s.os:=ho;subst e;exact I.call (g':=g') (t':=t') (d':=d') u hok hg hch
end
abbrev XK:=Value->Option Addr->Hp->Prop
abbrev St:=List (Option V)
abbrev VK:=V->Hp->Prop
abbrev TE:=St->Hp->VK->Prop
abbrev TT:=St->Hp->(Bool->Hp->Prop)->Prop
abbrev TA:=St->Hp->(List V->Hp->Prop)->Prop
structure Ends where
 nx:St->Hp->Prop
 rt:VK
 bk:St->Hp->Prop:=λ_ _=>False
 ct:St->Hp->Prop:=λ_ _=>False
abbrev TS:=Ends->St->Hp->Prop
inductive EP (X:Cx)(pins:List (Addr×Obj))(σ:St)(Q:VK)(u:Value)(s':Shared):Prop where
 | mk (v:V) (H':Hp) (i:Inv X pins σ H' s') (r:RelV v u) (q:Q v H'):EP X pins σ Q u s'
inductive TP (X:Cx)(pins:List (Addr×Obj))(σ:St)(Q:Bool->Hp->Prop)(b:Bool)(s':Shared):Prop where
 | mk (H':Hp) (i:Inv X pins σ H' s') (q:Q b H'):TP X pins σ Q b s'
inductive AP (X:Cx)(pins:List (Addr×Obj))(σ:St)(Q:List V->Hp->Prop)(us:List Value)(s':Shared):Prop where
 | mk (vs:List V) (H':Hp) (i:Inv X pins σ H' s') (r:Vals vs us) (q:Q vs H'):AP X pins σ Q us s'
def SP (X:Cx)(pins:List (Addr×Obj))(D:Ends)(f:Flow)(s':Shared):Prop:=
 match f with
 | .next=>∃σ' H',Inv X pins σ' H' s'/\D.nx σ' H'
 | .brk=>∃σ' H',Inv X pins σ' H' s'/\D.bk σ' H'
 | .cont=>∃σ' H',Inv X pins σ' H' s'/\D.ct σ' H'
 | .ret u=>∃v σ' H',Inv X pins σ' H' s'/\RelV v u/\D.rt v H'
def PE (X:Cx)(e:Expr)(t:TE):Prop:=
 ∀(pins:List (Addr×Obj)) (s:Shared) (σ:St) (H:Hp) (Q:VK),Inv X pins σ H s->t σ H Q->wpAny (model X.prog X.w) X.A (eval e X.env) (EP X pins σ Q) X.xe s
def PT (X:Cx)(e:Expr)(t:TT):Prop:=
 ∀(pins:List (Addr×Obj)) (s:Shared) (σ:St) (H:Hp) (Q:Bool->Hp->Prop),Inv X pins σ H s->t σ H Q->wpAny (model X.prog X.w) X.A (isTrue e X.env (eval e X.env)) (TP X pins σ Q) X.xe s
def PW (X:Cx)(e:Expr)(t:TT):Prop:=
 ∀(whole:Sem Value) (pins:List (Addr×Obj)) (s:Shared) (σ:St) (H:Hp) (Q:Bool->Hp->Prop),Inv X pins σ H s->t σ H Q->wpAny (model X.prog X.w) X.A (isTrue e X.env whole) (TP X pins σ Q) X.xe s
variable {X:Cx}{e:Expr}
theorem PW.pt {t:TT}(h:PW X e t):PT X e t:=h _
def PA (X:Cx)(es:List Expr)(t:TA):Prop:=
 ∀(pos:Pos) (pins:List (Addr×Obj)) (s:Shared) (σ:St) (H:Hp) (Q:List V->Hp->Prop),Inv X pins σ H s->t σ H Q->wpAny (model X.prog X.w) X.A (spliced (backTo pos (starEach es X.env))) (AP X pins σ Q) X.xe s
def PS (X:Cx)(st:Stmt)(t:TS):Prop:=
 ∀(pins:List (Addr×Obj)) (s:Shared) (σ:St) (H:Hp) (D:Ends),Inv X pins σ H s->t D σ H->wpAny (model X.prog X.w) X.A (exec st X.env) (SP X pins D) X.xe s
def PSs (X:Cx)(st:List Stmt)(t:TS):Prop:=
 ∀(pins:List (Addr×Obj)) (s:Shared) (σ:St) (H:Hp) (D:Ends),Inv X pins σ H s->t D σ H->wpAny (model X.prog X.w) X.A (execs st X.env) (SP X pins D) X.xe s
variable {s:Shared}
theorem thn {α:Type}{t:Sem α}{Q Q':α->Shared->Prop}{M:Model}{A:Around}(h:wpAny M A t Q E s)(hQ:∀a s,Q a s->Q' a s):wpAny M A t Q' E s:=wpAny_mono h hQ λ_ _ x=>x
variable {pins:List (Addr×Obj)}{σ:St}{c:Expr}
section
variable {X:Cx}
def Xg (i:Nat):TE:=λσ H Q=>∃v,σ[i]?=some (some v)/\Q v H
def tC (v:V):TE:=λ_ H Q=>Q v H
theorem B2 {pos:Pos}(hN:X.N[i]?=some x)(hv:Vis X.env.scope x)(hd:(x == ("__debug__" : Str))=false:=by decide)(hcd:(x == ("__classdict__" : Str))=false:=by decide):PE X (.Name x pos) (Xg i):=by
 intro pins s σ H Q I h;obtain ⟨v,e,h⟩:=h;obtain ⟨m,hn,hl⟩:=I.loc;obtain ⟨u,r,l⟩:=hl i x v hN e hv;have fin:EP X pins σ Q u s:=⟨v,H,I,r,h⟩;rcases l with ⟨hk,hm⟩ | ⟨hk,c,hc,hcell⟩
 ·exact wpAny_Name (wpAny_loadName_local I.ok.kind hk hn hm fin) hd
 ·rcases hk with hk | hk
  ·exact wpAny_Name (wpAny_loadName_cell I.ok.kind hk hc hcell fin) hd
  ·exact wpAny_Name (wpAny_loadName_free I.ok.kind hk hc hcell fin hcd) hd
theorem WB {i j pos}:PE X (.Constant (.int i) j pos) (tC (.int i)):=λ_ _ _ H _ I h=>wpAny_Constant_int ⟨.int i,H,I.tok _,⟨_,rfl⟩,h⟩
theorem X4 {b j pos}:PE X (.Constant (.bool b) j pos) (tC (.bl b)):=λ_ _ _ H _ I h=>Constant_bool ⟨.bl b,H,I,rfl,h⟩
theorem WD {j pos}:PE X (.Constant .none j pos) (tC .non):=λ_ _ _ H _ I h=>Constant_none ⟨.non,H,I,rfl,h⟩
theorem Pu {x j pos}:PE X (.Constant (.str x) j pos) (tC (.str x)):=λ_ _ _ H _ I h=>Calls.Constant_str ⟨.str x,H,I.tok _,⟨_,rfl⟩,h⟩
def Gl (X:Cx)(x:Str):Prop:=X.env.kindOf x=some .globalImplicit
theorem CI {pos:Pos}{Q:Value->Shared->Prop}(I:Inv X pins σ H s)(hg:Gl X x)(hm:X.mg x=some u)(h:Q u s)
 (hd:(x == ("__debug__" : Str))=false:=by decide):wpAny (model X.prog X.w) X.A (eval (.Name x pos) X.env) Q E s:=
 Calls.Name_function_global I.ok.kind hg (Calls.loadGlobal_global (by rw [I.ok.glob];exact I.mod.glob.keeps I.bk) hm h) hd
theorem Ix {pos:Pos}{Q:Value->Shared->Prop}(I:Inv X pins σ H s)(hg:Gl X x)(hm:X.mg x=none)(hv:bootBuiltins x=some u)(h:Q u s)
 (hn:x≠"__name__":=by decide) (hd:(x == ("__debug__" : Str))=false:=by decide):wpAny (model X.prog X.w) X.A (eval (.Name x pos) X.env) Q E s:=by
 obtain ⟨mb,h1,h2⟩:=I.mod.blt;exact Calls.Name_function_global I.ok.kind hg (Calls.loadGlobal_builtin (by rw [I.ok.glob];exact I.mod.glob.keeps I.bk) hm (by rw [I.ok.blt];exact h1.keeps I.bk) ((h2 x hn).trans hv) h) hd
theorem MC {pos:Pos}(hg:Gl X x)(hm:X.mg x=some u)(r:RelV v u)(hd:(x == ("__debug__" : Str))=false:=by decide):PE X (.Name x pos) (tC v):=
 λ_ _ _ H _ I h=>CI I hg hm ⟨v,H,I,r,h⟩ hd
variable {a b:Expr}{ta tb:TE}{pos:Pos}
def tB (t:TE):TT:=λσ H Q=>t σ H λx H1=>∃c,x = .bl c/\Q c H1
theorem WN {t:TE}(h:PE X e t)(he:∀whole,isTrue e X.env whole=(do let v <-whole;standAt e.pos;holding [v] (truthy v)):=by intro _;rfl):PT X e (tB t):=by
 intro pins s σ H Q I hw;refine isTrue_plain (thn (h pins s σ H _ I hw) λv s1 z9=>?_) (he _);obtain ⟨x,H1,I1,r1,q1⟩:=z9;obtain ⟨d,rfl,q⟩:=q1
 cases r1
 exact wpAny_truthy_bool ⟨H1,I1,q⟩
variable {tA tB':TT}{rest:List Expr}
def ZE (t u:TT):TT:=λσ H Q=>t σ H λc H1=>if c=true then u σ H1 Q else Q false H1
def tOr (t u:TT):TT:=λσ H Q=>t σ H λc H1=>if c=true then Q true H1 else u σ H1 Q
def ZN (t:TT):TT:=λσ H Q=>t σ H λc H1=>Q (!c) H1
theorem Ux (ha:PT X a tA):PW X (.BoolOp .And [a] pos) tA:=by
 intro wh pins s σ H Q I h;refine isTrue_and (thn (ha pins s σ H Q I h) λc s1 e=>?_)
 cases c with
 | true=>exact isTrue_and_nil e
 | false=>exact e
theorem WP (ha:PT X a tA):PW X (.BoolOp .Or [a] pos) tA:=by
 intro wh pins s σ H Q I h;refine isTrue_or (thn (ha pins s σ H Q I h) λc s1 e=>?_)
 cases c with
 | false=>exact isTrue_or_nil e
 | true=>exact e
theorem WO (ha:PT X a tA)(hb:PW X (.BoolOp .And (b :: rest) pos) tB'):PW X (.BoolOp .And (a :: b :: rest) pos) (ZE tA tB'):=by
 intro wh pins s σ H Q I h;refine isTrue_and (thn (ha pins s σ H _ I h) λc s1 z9=>?_);obtain ⟨H1,I1,q1⟩:=z9
 cases c with
 | true=>exact hb wh pins s1 σ H1 Q I1 q1
 | false=>exact ⟨H1,I1,q1⟩
theorem Yd (ha:PT X a tA)(hb:PW X (.BoolOp .Or (b :: rest) pos) tB'):PW X (.BoolOp .Or (a :: b :: rest) pos) (tOr tA tB'):=by
 intro wh pins s σ H Q I h;refine isTrue_or (thn (ha pins s σ H _ I h) λc s1 z9=>?_);obtain ⟨H1,I1,q1⟩:=z9
 cases c with
 | true=>exact ⟨H1,I1,q1⟩
 | false=>exact hb wh pins s1 σ H1 Q I1 q1
theorem WM (ha:PT X a tA):PT X (.UnaryOp .Not a pos) (ZN tA):=by
 intro pins s σ H Q I h;refine isTrue_not (thn (ha pins s σ H (λc H1=>Q (!c) H1) I h) λc s1 z=>?_);obtain ⟨H1,I1,q1⟩:=z;exact ⟨H1,I1,q1⟩
def Ym (ta tb:TE):TE:=λσ H Q=>ta σ H λx H1=>∃c,x = .bl c/\if c=true then tb σ H1 Q else Q (.bl false) H1
def ZO (ta tb:TE):TE:=λσ H Q=>ta σ H λx H1=>∃c,x = .bl c/\if c=true then Q (.bl true) H1 else tb σ H1 Q
theorem WE {op}{t:TE}(h:PE X a t):PE X (.BoolOp op [a] pos) t:=λpins s σ H Q I hw=>BoolOp_one (h pins s σ H Q I hw)
theorem Wz (ha:PE X a ta)(hb:PE X (.BoolOp .And (b :: rest) pos) tb):PE X (.BoolOp .And (a :: b :: rest) pos) (Ym ta tb):=by
 intro pins s σ H Q I h;refine BoolOp_and (thn (ha pins s σ H _ I h) λv s1 z9=>?_);obtain ⟨x,H1,I1,r1,q1⟩:=z9;obtain ⟨c,rfl,q1⟩:=q1
 cases r1
 refine wpAny_truthy_bool ?_
 cases c with
 | true=>exact hb pins s1 σ H1 Q I1 q1
 | false=>exact ⟨.bl false,H1,I1,rfl,q1⟩
theorem X5 (ha:PE X a ta)(hb:PE X (.BoolOp .Or (b :: rest) pos) tb):PE X (.BoolOp .Or (a :: b :: rest) pos) (ZO ta tb):=by
 intro pins s σ H Q I h;refine BoolOp_or (thn (ha pins s σ H _ I h) λv s1 z9=>?_);obtain ⟨x,H1,I1,r1,q1⟩:=z9;obtain ⟨c,rfl,q1⟩:=q1
 cases r1
 refine wpAny_truthy_bool ?_
 cases c with
 | false=>exact hb pins s1 σ H1 Q I1 q1
 | true=>exact ⟨.bl true,H1,I1,rfl,q1⟩
def tIf (t:TT)(ta tb:TE):TE:=λσ H Q=>t σ H λc H1=>if c=true then ta σ H1 Q else tb σ H1 Q
theorem Ri (hc:PT X c tA)(ha:PE X a ta)(hb:PE X b tb):PE X (.IfExp c a b pos) (tIf tA ta tb):=by
 intro pins s σ H Q I h;refine wpAny_IfExp (thn (hc pins s σ H _ I h) λd s1 z9=>?_);obtain ⟨H1,I1,q1⟩:=z9
 cases d with
 | true=>exact ha pins s1 σ H1 Q I1 q1
 | false=>exact hb pins s1 σ H1 Q I1 q1
end
def SqL (K:PySem.W.Frag)(H:Hp)(a:Addr)(xs:List V):Prop:=
 Rd H a (.lst xs)\/
  ∃(o:Obj) (its:Array Value) (n:Nat),K.lookup a=some o/\o.cls = .type "list"/\o.dict=none/\o.data = .seq its n/\its.size<=sizeLine/\Vals xs its.toList
def SqT (K:PySem.W.Frag)(H:Hp)(a:Addr)(xs:List V):Prop:=
 Rd H a (.tup xs)\/
  ∃(o:Obj) (its:Array Value) (n:Nat),K.lookup a=some o/\o.cls = .type "tuple"/\o.data = .seq its n/\its.size<=sizeLine/\Vals xs its.toList
noncomputable def Zl:Value->Option V
 | .none=>some .non
 | .bool b=>some (.bl b)
 | .int i _=>some (.int i)
 | .str x _=>some (.str x)
 | .bytes b _=>some (.byt b)
 | .float b _=>some (.flt b)
 | .ref a=>some (.ref a)
 | .type n=>some (.ty n)
 | _=>none
theorem RelV.abs {x:V}(r:RelV x u):Zl u=some x:=by
 cases x with
 | non=>cases r;rfl
 | bl _=>cases r;rfl
 | int _=>obtain ⟨t,rfl⟩:=r;rfl
 | str _=>obtain ⟨t,rfl⟩:=r;rfl
 | byt _=>obtain ⟨t,rfl⟩:=r;rfl
 | flt _=>obtain ⟨t,rfl⟩:=r;rfl
 | ref _=>cases r;rfl
 | ty _=>cases r;rfl
theorem RelV.inj {x y:V}{u:Value}(r:RelV x u)(q:RelV y u):x=y:=Option.some.inj (r.abs.symm.trans q.abs)
theorem Vals.inj {xs ys:List V}{us:List Value}(a:Vals xs us)(b:Vals ys us):xs=ys:=by
 cases a with
 | nil=>
   cases b
   rfl
 | cons r t=>
   cases b with
   | cons r' t'=>rw [r.inj r',Vals.inj t t']
variable {K:PySem.W.Frag}
section
variable {X:Cx}{pins:List (Addr×Obj)}{σ:St}{H:Hp}{s:Shared}{a:Addr}{xs ys:List V}
theorem SqL.of (h:H a=some (.lst xs)):SqL K H a xs:=.inl (.inl h)
theorem SqT.of (h:H a=some (.tup xs)):SqT K H a xs:=.inl (.inl h)
theorem Inv.list (I:Inv X pins σ H s)(h:SqL X.K H a xs):∃its:List Value,Vals xs its/\PlainL s.heap a its.toArray/\xs.length<=sizeLine:=by
 rcases h with h | ⟨o,its,n,hk,hc,hd,hs,hz,r⟩
 ·obtain ⟨z,its,n,r,e⟩:=h.ok I.hok;exact ⟨its,r,⟨_,n,e,rfl,rfl,rfl⟩,z⟩
 ·refine ⟨its.toList,r,⟨o,n,I.kIn a o hk,hc,hd,by simpa using hs⟩,?_⟩;have e:=r.length;simp only [Array.length_toList] at e;lia
theorem Inv.tuple (I:Inv X pins σ H s)(h:SqT X.K H a xs):∃its:List Value,Vals xs its/\IsTup s.heap a its.toArray/\xs.length<=sizeLine:=by
 rcases h with h | ⟨o,its,n,hk,hc,hs,hz,r⟩
 ·obtain ⟨z,its,r,p⟩:=h.ok I.hok;exact ⟨its,r,p,z⟩
 ·refine ⟨its.toList,r,⟨o,I.kIn a o hk,hc,n,by simpa using hs⟩,?_⟩;have e:=r.length;simp only [Array.length_toList] at e;lia
theorem Inv.list_inj (I:Inv X pins σ H s)(h:SqL X.K H a xs)(h':SqL X.K H a ys):xs=ys:=by
 obtain ⟨its,r,⟨o,n,e,_,_,d⟩,_⟩:=I.list h;obtain ⟨its',r',⟨o',n',e',_,_,d'⟩,_⟩:=I.list h';rw [e] at e';cases e'
 rw [d] at d';injection d' with d1 _
 have:its=its':=by simpa using congrArg Array.toList d1
 subst this;exact r.inj r'
theorem Inv.tuple_inj (I:Inv X pins σ H s)(h:SqT X.K H a xs)(h':SqT X.K H a ys):xs=ys:=by
 obtain ⟨its,r,⟨o,e,_,n,d⟩,_⟩:=I.tuple h;obtain ⟨its',r',⟨o',e',_,n',d'⟩,_⟩:=I.tuple h';rw [e] at e';cases e'
 rw [d] at d';injection d' with d1 _
 have:its=its':=by simpa using congrArg Array.toList d1
 subst this;exact r.inj r'
end
abbrev Cx.wish (X:Cx)(E:Value->Shared->Prop):Cx:={ X with xe:=E }
abbrev Cx.nox (X:Cx):Cx:=X.wish λ_ _=>False
theorem Cx.Ok.wish {X:Cx}(ok:X.Ok)(E:Value->Shared->Prop):(X.wish E).Ok:=
 ⟨ok.mod,ok.kind,ok.glob,ok.blt,ok.above,ok.inj,ok.has,ok.cab,ok.hd,ok.frames,ok.stk,ok.exf,ok.bs,ok.bsz,ok.noex,ok.exfs,ok.funs,ok.frf⟩
theorem Cx.Ok.unwish (ok:(X.wish E).Ok):X.Ok:=
 ⟨ok.mod,ok.kind,ok.glob,ok.blt,ok.above,ok.inj,ok.has,ok.cab,ok.hd,ok.frames,ok.stk,ok.exf,ok.bs,ok.bsz,ok.noex,ok.exfs,ok.funs,ok.frf⟩
section
variable {X:Cx}{pins:List (Addr×Obj)}{σ:St}{H:Hp}{s:Shared}{E:Value->Shared->Prop}
theorem Inv.wish (I:Inv X pins σ H s)(E:Value->Shared->Prop):Inv (X.wish E) pins σ H s:=⟨I.ok.wish E,I.os,I.bare,I.base,I.loc,I.cell,I.free,I.freeC,I.pin,I.hok,I.len⟩
theorem Inv.unwish (I:Inv (X.wish E) pins σ H s):Inv X pins σ H s:=⟨I.ok.unwish,I.os,I.bare,I.base,I.loc,I.cell,I.free,I.freeC,I.pin,I.hok,I.len⟩
theorem SP.unwish {D:Ends}{f:Flow}{s':Shared}(h:SP (X.wish E) pins D f s'):SP X pins D f s':=by
 cases f with
 | next=>obtain ⟨σ',H',I,q⟩:=h;exact ⟨σ',H',I.unwish,q⟩
 | brk=>obtain ⟨σ',H',I,q⟩:=h;exact ⟨σ',H',I.unwish,q⟩
 | cont=>obtain ⟨σ',H',I,q⟩:=h;exact ⟨σ',H',I.unwish,q⟩
 | ret u=>obtain ⟨v,σ',H',I,r,q⟩:=h;exact ⟨v,σ',H',I.unwish,r,q⟩
theorem PSs.nox {st:List Stmt}{t:TS}(h:PSs X.nox st t):PSs X st t:=λpins s σ H D I hw=>
 wpAny_mono (h pins s σ H D (I.wish _) hw) (λ_ _ q=>q.unwish) λ_ _ z=>False.elim z
end
section
variable {X:Cx}{st:Stmt}{rest:List Stmt}{t u:TS}{e:Expr}{te:TE}{pos:Pos}
def SH:TS:=λD σ H=>D.nx σ H
def ZQ (t u:TS):TS:=λD σ H=>t { D with nx:=u D } σ H
theorem Uw:PSs X [] SH:=λ_ _ σ H _ I h=>wpAny_execs_nil ⟨σ,H,I,h⟩
theorem Hz (h1:PS X st t)(h2:PSs X rest u):PSs X (st :: rest) (ZQ t u):=by
 intro pins s σ H D I h;refine wpAny_execs_cons (thn (h1 pins s σ H { D with nx:=u D } I h) λf s1 q=>?_)
 cases f with
 | next=>
   obtain ⟨σ',H',I',q⟩:=q;exact h2 pins s1 σ' H' D I' q
 | ret v=>exact q
 | brk=>exact q
 | cont=>exact q
theorem GU (h1:PS X st t):PSs X [st] t:=by
 intro pins s σ H D I h;refine wpAny_execs_cons (thn (h1 pins s σ H D I h) λf s1 q=>?_)
 cases f with
 | next=>exact wpAny_execs_nil q
 | ret v=>exact q
 | brk=>exact q
 | cont=>exact q
theorem Uv:PS X (.Pass pos) SH:=λ_ _ σ H _ I h=>wpAny_Pass ⟨σ,H,I,h⟩
theorem Inv.quiet (I:Inv X pins σ H s):interactive X.env=false:=by simp [interactive,I.ok.kind]
def SG (te:TE):TS:=λD σ H=>te σ H λ_ H1=>D.nx σ H1
theorem Ji (he:PE X e te)(hs:swapsWith e none pos.line X.env=pure false:=by rfl):PS X (.Expr e pos) (SG te):=by
 intro pins s σ H D I h;exact wpAny_Expr_any (thn (he pins s σ H _ I h) λv s1 z9=>by obtain ⟨x,H1,I1,r1,q1⟩:=z9;exact ⟨σ,H1,I1,q1⟩) I.quiet hs
def ZP (te:TE):TS:=λD σ H=>te σ H D.rt
theorem Lf (he:PE X e te):PS X (.Return (some e) pos) (ZP te):=by
 intro pins s σ H D I h;exact wpAny_Return_some (thn (he pins s σ H _ I h) λv s1 z9=>by obtain ⟨x,H1,I1,r1,q1⟩:=z9;exact ⟨x,σ,H1,I1,r1,q1⟩)
def ZJ (c:TT)(t u:TS):TS:=λD σ H=>c σ H λb H1=>if b=true then t D σ H1 else u D σ H1
theorem Yc {a b:List Stmt}{tc:TT}(hc:PT X c tc)(ha:PSs X a t)(hb:PSs X b u):PS X (.If c a b pos) (ZJ tc t u):=by
 intro pins s σ H D I h;refine wpAny_If (thn (hc pins s σ H _ I h) λd s1 z9=>?_);obtain ⟨H1,I1,q1⟩:=z9
 cases d with
 | true=>exact ha pins s1 σ H1 D I1 q1
 | false=>exact hb pins s1 σ H1 D I1 q1
end
abbrev TG:=V->St->Hp->(St->Hp->Prop)->Prop
abbrev TGs:=List V->St->Hp->(St->Hp->Prop)->Prop
def PG (X:Cx)(target:Expr)(t:TG):Prop:=
 ∀(pins:List (Addr×Obj)) (s:Shared) (σ:St) (H:Hp) (v:V) (u:Value) (Q:St->Hp->Prop),Inv X pins σ H s->RelV v u->t v σ H Q->
  wpAny (model X.prog X.w) X.A (assign target X.env u) (λ_ s'=>∃σ' H',Inv X pins σ' H' s'/\Q σ' H') X.xe s
def PGs (X:Cx)(ts:List Expr)(t:TGs):Prop:=
 ∀(pins:List (Addr×Obj)) (s:Shared) (σ:St) (H:Hp) (vs:List V) (us:List Value) (Q:St->Hp->Prop),Inv X pins σ H s->Vals vs us->t vs σ H Q->
  wpAny (model X.prog X.w) X.A (assignInOrder ((assignEach ts X.env).map (·.2)) us) (λ_ s'=>∃σ' H',Inv X pins σ' H' s'/\Q σ' H') X.xe s
abbrev Qf:=V->V->V->Hp->(Hp->Prop)->Prop
def Qd (X:Cx)(t:Qf):Prop:=
 ∀(pins:List (Addr×Obj)) (s:Shared) (σ:St) (H:Hp) (o i v:V) (ov iv u:Value) (Q:Hp->Prop),Inv X pins σ H s->RelV o ov->RelV i iv->RelV v u->t o i v H Q->
  wpAny (model X.prog X.w) X.A (setItem ov iv u) (λ_ s'=>∃H',Inv X pins σ H' s'/\Q H') X.xe s
variable {tg:Expr}
section
variable {X:Cx}{pos:Pos}
def Ip (i:Nat):TG:=λv σ H Q=>Q (σ.set i (some v)) H
theorem Ul (hN:X.N.Nodup)(hi:X.N[i]?=some x)(hx:Loc X.env.scope x)(hf:X.fn x=true\/X.env.scope.names.lookup x=some .local:=by walk_at "h"):PG X (.Name x pos) (Ip i):=by
 intro pins s σ H v u Q I r h;exact wpAny_assign_Name (E8 I hN hi hx r (λs' I'=>⟨_,H,I',h⟩) hf)
def Zt:TGs:=λvs σ H Q=>vs=[]/\Q σ H
def So (t:TG)(u:TGs):TGs:=λvs σ H Q=>∃v r,vs=v :: r/\t v σ H λσ' H'=>u r σ' H' Q
theorem Um:PGs X [] Zt:=by
 intro pins s σ H vs us Q I r h;obtain ⟨e,h⟩:=h;subst e
 cases r
 exact assignInOrder_nil ⟨σ,H,I,h⟩
theorem Rl {es:List Expr}{t:TG}{u:TGs}(h1:PG X e t)(h2:PGs X es u)
 (hs:(assignEach (e :: es) X.env).map (·.2)=assign e X.env :: (assignEach es X.env).map (·.2):=by rfl):PGs X (e :: es) (So t u):=by
 intro pins s σ H vs us Q I r h;obtain ⟨v,vr,e1,h⟩:=h;subst e1
 cases r with
 | cons r rr=>
   rw [hs];refine assignInOrder_cons (thn (h1 pins s σ H _ _ _ I r h) λ_ s1 z9=>?_);obtain ⟨σ1,H1,I1,q1⟩:=z9;exact h2 pins s1 σ1 H1 _ _ Q I1 rr q1
def Zv (K:PySem.W.Frag)(n:Nat)(t:TGs):TG:=λv σ H Q=>∃a xs,v = .ref a/\SqT K H a xs/\xs.length=n/\t xs σ H Q
theorem WH {es:List Expr}{k:Nat}{t:TGs}{n:Nat}(hc:X.calm=true)(h:PGs X es t)
 (hn:(assignEach es X.env).length=n:=by rfl) (hst:(assignEach es X.env).findIdx? (·.1)=none:=by rfl):PG X (.Tuple es k pos) (Zv X.K n t):=by
 intro pins s σ H v u Q I r hw;obtain ⟨a,xs,e1,hq,hl,hw⟩:=hw;subst e1
 cases r
 obtain ⟨its,rv,ht,hz⟩:=I.tuple hq;refine assign_Tuple_tuple (I.ok.hd hc) ht (by simp [hn,<-hl,rv.length]) hst λh' hx=>?_;have I1:Inv X pins σ H { s with heap:=h' }:=I.kept (t':=s.toks) λb o e=>hx b o (Nat.ne_of_lt (Heap.lt_size e)) e;exact h pins _ σ H xs _ Q I1 (by simpa using rv) hw
def Zu (to ti:TE)(t:Qf):TG:=λv σ H Q=>to σ H λo H1=>ti σ H1 λi H2=>t o i v H2 λH3=>Q σ H3
theorem Ld {o i:Expr}{to ti:TE}{t:Qf}(ho:PE X o to)(hi:PE X i ti)(hs:Qd X t)
 (ha:∀v,assign (.Subscript o i pos) X.env v=(do
   let ov <-holding [v] (eval o X.env)
   let iv <-holding [v,ov] (eval i X.env)
   standAt pos
   holding [v,ov,iv] (setItem ov iv v)
   release [v,ov,iv] []):=by intro _;rfl):PG X (.Subscript o i pos) (Zu to ti t):=by
 intro pins s σ H v u Q I r h;rw [ha];refine wpAny_bind (wpAny_holding (thn (ho pins s σ H _ I h) λov s1 z9=>?_));obtain ⟨x,H1,I1,r1,q1⟩:=z9;refine wpAny_bind (wpAny_holding (thn (hi pins s1 σ H1 _ I1 q1) λiv s2 z9=>?_));obtain ⟨y,H2,I2,r2,q2⟩:=z9;refine wpAny_bind (wpAny_standAt (wpAny_bind (wpAny_holding (thn (hs pins s2 σ H2 x y v ov iv u _ I2 r1 r2 r q2) λ_ s3 z9=>?_))));obtain ⟨H3,I3,q3⟩:=z9;exact wpAny_release ⟨σ,H3,I3,q3⟩
def LF (te:TE)(g:TG):TS:=λD σ H=>te σ H λx H1=>g x σ H1 D.nx
theorem Pz {te:TE}{g:TG}(he:PE X e te)(hg:PG X tg g)(hs:swapsWithSole [tg] e pos.line X.env=pure false:=by rfl)(hw:swappedStores [tg] e X.env=pure none:=by rfl)
 (h1:(assignEach [tg] X.env).map (·.2)=[assign tg X.env]:=by rfl):PS X (.Assign [tg] e pos) (LF te g):=by
 intro pins s σ H D I h;refine wpAny_Assign_stores (thn (he pins s σ H _ I h) λv s1 z9=>?_) hs hw;obtain ⟨x,H1,I1,r1,q1⟩:=z9;rw [h1];exact thn (hg pins s1 σ H1 x v _ I1 r1 q1) λ_ s2 q=>q
theorem Lg {te:TE}{pos':Pos}(hN:X.N.Nodup)(hi:X.N[i]?=some x)(hx:Loc X.env.scope x)(he:PE X e te)(hs:swapsWith e (some (.Name x pos')) pos.line X.env=pure false:=by rfl)(hf:X.fn x=true\/X.env.scope.names.lookup x=some .local:=by walk_at "h") :
 PS X (.Assign [.Name x pos'] e pos) (LF te (Ip i)):=by
 intro pins s σ H D I h;refine wpAny_Assign_Name (thn (he pins s σ H _ I h) λv s1 z9=>?_) hs;obtain ⟨y,H1,I1,r1,q1⟩:=z9;exact E8 I1 hN hi hx r1 (λs2 I2=>⟨_,H1,I2,q1⟩) hf
end
section
variable {X:Cx}{pos:Pos}
def P4 (c:TT)(tb:TS):TS:=λD σ H=>∃W:Nat->St->Hp->Prop,(∃m,W m σ H)/\∀m σ H,W m σ H->
 c σ H λb H1=>if b=true then ∃N:St->Hp->Prop,(∀σ' H',N σ' H'->∃m',m' < m/\W m' σ' H')/\tb { D with nx:=N,ct:=N,bk:=D.nx } σ H1 else D.nx σ H1
theorem Rp {body:List Stmt}{tc:TT}{tb:TS}(hp:PassesOwn (model X.prog X.w) X.A X.env X.xe)(hc:PT X c tc)(hb:PSs X body tb):PS X (.While c body [] pos) (P4 tc tb):=by
 intro pins s σ H D I h;obtain ⟨W,⟨m0,w0⟩,turn⟩:=h;refine wpAny_While (codeAny_whileLoop (λn s'=>∃σ' H',Inv X pins σ' H' s'/\W n σ' H') ?_ m0 ⟨σ,H,I,w0⟩);rintro n s1 ⟨σ1,H1,I1,w1⟩;refine wpAny_passesOwn hp (thn (hc pins s1 σ1 H1 _ I1 (turn n σ1 H1 w1)) λb s2 z9=>?_);obtain ⟨H2,I2,q2⟩:=z9
 cases b with
 | true=>
   obtain ⟨N,hN,q2⟩:=q2;rw [if_pos rfl];refine wpAny_passesOwn hp (thn (hb pins s2 σ1 H2 _ I2 q2) λf s3 q3=>?_)
   cases f with
   | next=>
     obtain ⟨σ3,H3,I3,n3⟩:=q3;obtain ⟨m',hm,w3⟩:=hN σ3 H3 n3;exact ⟨m',hm,σ3,H3,I3,w3⟩
   | cont=>
     obtain ⟨σ3,H3,I3,n3⟩:=q3;obtain ⟨m',hm,w3⟩:=hN σ3 H3 n3;exact ⟨m',hm,σ3,H3,I3,w3⟩
   | brk=>exact q3
   | ret v=>exact q3
 | false=>
   rw [if_neg Bool.false_ne_true];exact wpAny_execs_nil ⟨σ1,H2,I2,q2⟩
end
structure It where
 go:Nat->Hp->Prop
 yld:Nat->Hp->V->Hp->Prop
 stop:Nat->Hp->Prop
def FpOk (X:Cx)(pins:List (Addr×Obj))(H:Hp)(b:Addr):Prop:=
 H b=none/\b≠X.env.locals/\b∉X.fs/\(b∈X.ex\/X.s₀.heap.objs.size<=b)/\(∀x c,X.env.cells.lookup x=some c->c≠b)/\∀p∈X.pn++pins,p.1≠b
theorem Inv.fpOk {H':Hp}(I:Inv X pins σ H s)(hb:s.heap.objs.size<=b)(hn:H' b=none):FpOk X pins H' b:=by
 refine ⟨hn,Nat.ne_of_gt (Nat.lt_of_lt_of_le I.lt hb),I.nofs hb,.inr (Nat.le_trans I.sz hb),λx c e z=>?_,λp hp z=>?_⟩
 ·obtain ⟨v,q⟩:=I.cell x c e;exact absurd (Nat.lt_of_lt_of_le q.lt (by rw [z];exact hb)) (Nat.lt_irrefl _)
 ·exact absurd (Nat.lt_of_lt_of_le (Heap.lt_size (I.pin p hp).1) (by rw [z];exact hb)) (Nat.lt_irrefl _)
structure Turn (P:Program)(w:World)(K:PySem.W.Frag)(tg:Expr)(J:It)(fp:List Addr)(it:Addr)(tn:Nat->Heap->Prop):Prop where
 mem:it∈fp
 obj:∀i h,tn i h->∀b∈fp,∃o,h.get? b=some o/\∀v,o.data≠.cell v
 keep:∀i h h',tn i h->(∀b∈fp,∀o,h.get? b=some o->h'.get? b=some o)->tn i h'
 item:∀(X:Cx),X.prog=P->X.w=w->X.K=K->X.calm=true->∀(i:Nat) (pins:List (Addr×Obj)) (s:Shared) (σ:St) (H:Hp) (E:Value->Shared->Prop),Inv X pins σ H s->(∀b∈fp,FpOk X pins H b)->tn i s.heap->J.go i H->
  wpAny (model P w) X.A (pyNext (.ref it)) (λr s1=>∃u,r=some u/\
   wpAny (model P w) X.A (letOwnedTupleGo tg (.ref it) u) (λ_ s2=>∃x H',Inv X pins σ H' s2/\RelV x u/\J.yld i H x H'/\tn (i + 1) s2.heap/\∀b∈fp,H' b=none) E s1) E s
 done:∀(X:Cx),X.prog=P->X.w=w->X.K=K->X.calm=true->∀(i:Nat) (pins:List (Addr×Obj)) (s:Shared) (σ:St) (H:Hp) (E:Value->Shared->Prop),Inv X pins σ H s->(∀b∈fp,FpOk X pins H b)->tn i s.heap->J.stop i H->
  wpAny (model P w) X.A (pyNext (.ref it)) (λr s1=>r=none/\Inv X pins σ H s1) E s
 self:∀(A:Around) (i:Nat) (s:Shared) (Q:Value->Shared->Prop) (E:Value->Shared->Prop),tn i s.heap->Q (.ref it) s->wpAny (model P w) A (pyIter (.ref it)) Q E s
abbrev TI:=St->Hp->(It->Hp->Prop)->Prop
def PIE (X:Cx)(pins:List (Addr×Obj))(σ:St)(tg:Expr)(R:It->Hp->Prop)(itv:Value)(s2:Shared):Prop:=
 ∃(it:Addr) (fp:List Addr) (tn:Nat->Heap->Prop) (J:It) (H':Hp),itv = .ref it/\Inv X pins σ H' s2/\Turn X.prog X.w X.K tg J fp it tn/\tn 0 s2.heap/\(∀b∈fp,FpOk X pins H' b)/\R J H'
def PI (X:Cx)(tg iter:Expr)(wi:TI):Prop:=
 ∀(pins:List (Addr×Obj)) (s:Shared) (σ:St) (H:Hp) (R:It->Hp->Prop),Inv X pins σ H s->wi σ H R->
  wpAny (model X.prog X.w) X.A (eval iter X.env) (λv s1=>wpAny (model X.prog X.w) X.A (pyIter v) (PIE X pins σ tg R) X.xe s1) X.xe s
theorem J0 {M:Model}{A:Around}{it:Addr}{o:Obj}{n:String}{vs:Array Value}(ho:s.heap.get? it=some o)(hc:o.cls = .type n)(hd:o.data = .fields vs)
 (hn:["enumerate", "zip", "dict_itemiterator", "dict_reverseitemiterator", "odict_iterator", "itertools.zip_longest", "itertools.pairwise"].contains n=false) (hQ:Q () s):wpAny M A (letOwnedTupleGo tg (.ref it) u) Q E s:=by
 unfold letOwnedTupleGo
 cases tg <;> first
  | exact wpAny_pure hQ
  | (cases u <;> first
      | exact wpAny_pure hQ
      | (refine wpAny_bind (wpAny_load ho ?_)
         rw [hc,hd];show wpAny M A (if (["enumerate", "zip", "dict_itemiterator", "dict_reverseitemiterator", "odict_iterator", "itertools.zip_longest", "itertools.pairwise"].contains n && vs[0]? == some (rawInt _))=true then _ else _) Q E s;rw [if_neg (by intro h;rw [hn,Bool.false_and] at h;cases h)]
         exact wpAny_pure hQ))
def Itl (K:PySem.W.Frag)(a:Addr):It:=
 ⟨λi H=>∃xs x,SqL K H a xs/\xs[i]?=some x,λi H x H'=>H'=H/\∀xs,SqL K H a xs->xs[i]?=some x,λi H=>∃xs,SqL K H a xs/\xs.length<=i⟩
def Itt (K:PySem.W.Frag)(a:Addr):It:=
 ⟨λi H=>∃xs x,SqT K H a xs/\xs[i]?=some x,λi H x H'=>H'=H/\∀xs,SqT K H a xs->xs[i]?=some x,λi H=>∃xs,SqT K H a xs/\xs.length<=i⟩
noncomputable def Itr (lo:Int)(n:Nat):It:=⟨λi _=>i < n,λi H x H'=>H'=H/\x = .int (lo + i),λi _=>n<=i⟩
theorem P6 (a it:Addr):Turn P w K tg (Itl K a) [it] it (λi h=>h.IsListIter it a i) where
 mem:=by simp
 obj:=λi h st b hb=>by
  have e:b=it:=by simpa using hb
  subst e;obtain ⟨o,e,c,d⟩:=st;exact ⟨o,e,λv z=>by rw [d] at z;cases z⟩
 keep:=λi h h' st k=>st.at λo e=>k it (by simp) o e
 item:=by
  intro X hP hw hK hc i pins s σ H E I hf st hg;subst hP hw hK;obtain ⟨xs,x,hq,hx⟩:=hg;obtain ⟨its,rv,p,hz⟩:=I.list hq;obtain ⟨u,hu,ru⟩:=rv.get hx;obtain ⟨f0,f1,f2,f3,f4,f5⟩:=hf it (by simp);refine wpAny_pyNext_list_item st p.isList (x:=u) (by simpa using hu) λh' st' sb=>?_;have I1:Inv X pins σ H { s with heap:=h' }:=I.turned (t':=s.toks) (λb o hb e=>(sb.2 b hb).trans e) f0 f1 f3 f4 f5;obtain ⟨o,e,c,d⟩:=id st';exact ⟨u,rfl,J0 (s:={ s with heap:=h' }) e c d (by decide) ⟨x,H,I1,ru,⟨rfl,λys hy=>by rw [I.list_inj hy hq];exact hx⟩,st',λb hb=>(hf b hb).1⟩⟩
 done:=by
  intro X hP hw hK hc i pins s σ H E I hf st hg;subst hP hw hK;obtain ⟨xs,hq,hx⟩:=hg;obtain ⟨its,rv,p,hz⟩:=I.list hq;obtain ⟨f0,f1,f2,f3,f4,f5⟩:=hf it (by simp);have hl:=rv.length;exact wpAny_pyNext_list_end (I.ok.hd hc) st p.isList (by simp;lia) λh' eb=>⟨rfl,I.turned (t':=s.toks) (λb o hb e=>eb b o hb e) f0 f1 f3 f4 f5⟩
 self:=λ_ _ _ _ _ st h=>wpAny_pyIter_listiter st h
theorem N4 (a it:Addr):Turn P w K tg (Itt K a) [it] it (λi h=>h.IsTupleIter it a i) where
 mem:=by simp
 obj:=λi h st b hb=>by
  have e:b=it:=by simpa using hb
  subst e;obtain ⟨o,e,c,d⟩:=st;exact ⟨o,e,λv z=>by rw [d] at z;cases z⟩
 keep:=λi h h' st k=>st.at λo e=>k it (by simp) o e
 item:=by
  intro X hP hw hK hc i pins s σ H E I hf st hg;subst hP hw hK;obtain ⟨xs,x,hq,hx⟩:=hg;obtain ⟨its,rv,p,hz⟩:=I.tuple hq;obtain ⟨u,hu,ru⟩:=rv.get hx;obtain ⟨f0,f1,f2,f3,f4,f5⟩:=hf it (by simp);refine wpAny_pyNext_tuple_item st (show s.heap.IsTuple a its.toArray from p) (x:=u) (by simpa using hu) λh' st' sb=>?_;have I1:Inv X pins σ H { s with heap:=h' }:=I.turned (t':=s.toks) (λb o hb e=>(sb.2 b hb).trans e) f0 f1 f3 f4 f5;obtain ⟨o,e,c,d⟩:=id st';exact ⟨u,rfl,J0 (s:={ s with heap:=h' }) e c d (by decide) ⟨x,H,I1,ru,⟨rfl,λys hy=>by rw [I.tuple_inj hy hq];exact hx⟩,st',λb hb=>(hf b hb).1⟩⟩
 done:=by
  intro X hP hw hK hc i pins s σ H E I hf st hg;subst hP hw hK;obtain ⟨xs,hq,hx⟩:=hg;obtain ⟨its,rv,p,hz⟩:=I.tuple hq;obtain ⟨f0,f1,f2,f3,f4,f5⟩:=hf it (by simp);have hl:=rv.length;exact wpAny_pyNext_tuple_end (I.ok.hd hc) st (show s.heap.IsTuple a its.toArray from p) (by simp;lia) λh' eb=>⟨rfl,I.turned (t':=s.toks) (λb o hb e=>eb b o hb e) f0 f1 f3 f4 f5⟩
 self:=λ_ _ _ _ _ st h=>wpAny_pyIter_tupleiter st h
theorem N3 (it:Addr)(lo:Int)(n:Nat):Turn P w K tg (Itr lo n) [it] it (λi h=>IsRangeIter h it (lo + (i:Nat) * 1) ((n:Int) - (i:Nat)) 1) where
 mem:=by simp
 obj:=λi h st b hb=>by
  have e:b=it:=by simpa using hb
  subst e;exact ⟨_,st,λv z=>by
   have z':Data.fields _=Data.cell v:=z
   cases z'⟩
 keep:=λi h h' st k=>k it (by simp) _ st
 item:=by
  intro X hP hw hK hc i pins s σ H E I hf st hg;subst hP hw hK;obtain ⟨f0,f1,f2,f3,f4,f5⟩:=hf it (by simp);have W:=Walks.range (prog:=X.prog) (w:=X.w) (I.ok.hd hc) it lo 1 n;refine W.item i s _ _ hg st λv h' tk hv st' kk=>?_;obtain ⟨t,rfl⟩:=hv;have I1:Inv X pins σ H { s with heap:=h',toks:=tk }:=I.turned (λb o hb e=>kk b o (by simpa using hb) e) f0 f1 f3 f4 f5;refine ⟨_,rfl,J0 (s:={ s with heap:=h',toks:=tk }) (n:="range_iterator") st' rfl rfl (by decide) ⟨.int (lo + i),H,I1,⟨t,?_⟩,⟨rfl,rfl⟩,st',λb hb=>(hf b hb).1⟩⟩;rw [Int.mul_one]
 done:=by
  intro X hP hw hK hc i pins s σ H E I hf st hg;subst hP hw hK;obtain ⟨f0,f1,f2,f3,f4,f5⟩:=hf it (by simp);exact wpAny_pyNext_range_end (I.ok.hd hc) st (by have:n<=i:=hg;lia) λh' eb=>⟨rfl,I.turned (t':=s.toks) (λb o hb e=>eb b o hb e) f0 f1 f3 f4 f5⟩
 self:=λ_ _ _ _ _ st h=>wpAny_pyIter_rangeiter st h
variable {fp:List Addr}
section
variable {X:Cx}{tg:Expr}
theorem Li {R:It->Hp->Prop}{lo hi:Int}{t u v:Tok}{tk:Nat}(I:Inv X pins σ H s)(h1 : -(2 ^ 62)<=lo)(h2:lo < 2 ^ 62)(h3 : -(2 ^ 62)<=hi)(h4:hi < 2 ^ 62)
 (q:R (Itr lo (hi - lo).toNat) H):wpAny (model X.prog X.w) X.A (pyIter (.ref s.heap.objs.size)) (PIE X pins σ tg R) E { s with heap:=s.heap.push { cls:=.type "range",data:=.fields #[.int lo t,.int hi u,.int 1 v] },toks:=tk }:=by
 refine wpAny_pyIter_range (IsRange.new ..) (small_one h1 h2 h3 h4) ?_;have I1:Inv X pins σ H { s with heap:=s.heap.push { cls:=.type "range",data:=.fields #[.int lo t,.int hi u,.int 1 v] },toks:=tk }:=I.kept λb o e=>Heap.get?_push_of_some _ e;refine ⟨(s.heap.push { cls:=.type "range",data:=.fields #[.int lo t,.int hi u,.int 1 v] }).objs.size,[(s.heap.push { cls:=.type "range",data:=.fields #[.int lo t,.int hi u,.int 1 v] }).objs.size],_,_,H,rfl,
  I1.kept (t':=tk) λb o e=>Heap.get?_push_of_some _ e,N3 _ lo (hi - lo).toNat,?_,λb hb=>?_,q⟩
 ·have e1:lo + ((0:Nat):Int) * 1=lo:=by simp
  have e2:(((hi - lo).toNat:Nat):Int) - ((0:Nat):Int)=Builtin.Range.rangeSize lo hi 1:=by rw [rangeSize_one];split <;> lia
  show IsRangeIter _ _ (lo + ((0:Nat):Int) * 1) ((((hi - lo).toNat:Nat):Int) - ((0:Nat):Int)) 1;rw [e1,e2];exact Heap.get?_push_size _ rfl
 ·have e:b=(s.heap.push { cls:=.type "range",data:=.fields #[.int lo t,.int hi u,.int 1 v] }).objs.size:=by simpa using hb
  subst e;exact I1.fpOk (Nat.le_refl _) (I1.hok.fresh (Nat.le_refl _))
def XZ (ta:TA):TI:=λσ H R=>ta σ H λvs H1=>∃j:Int,vs=[.int j]/\-(2 ^ 62)<=j/\j < 2 ^ 62/\R (Itr 0 j.toNat) H1
def X0 (ta:TA):TI:=λσ H R=>ta σ H λvs H1=>∃i j:Int,vs=[.int i,.int j]/\(-(2 ^ 62)<=i/\i < 2 ^ 62/\-(2 ^ 62)<=j/\j < 2 ^ 62)/\R (Itr i (j - i).toNat) H1
theorem Pw {a:Expr}{ta:TA}{p pos:Pos}(hg:Gl X "range")(hm:X.mg "range" = none)(ha:PA X [a] ta)(hs:starEach [a] X.env=[(false,eval a X.env)]:=by rfl):PI X tg (.Call (.Name "range" p) [a] [] pos) (XZ ta):=by
 intro pins s σ H R I h;refine Call_ (Ix I hg hm boot_range (PyProof.Rows.callWith_type1 (thn (ha pos pins s σ H _ I h) λus s1 z9=>?_) hs rfl));obtain ⟨vs,H1,I1,r1,q1⟩:=z9;obtain ⟨j,e,q1,q2,q⟩:=q1;subst e
 cases r1 with
 | cons r rr=>
   cases rr
   obtain ⟨t,rfl⟩:=r;exact call_range_1 (Li I1 (by lia) (by lia) q1 q2 (by simpa using q))
theorem Px {a b:Expr}{ta:TA}{p pos:Pos}(hg:Gl X "range")(hm:X.mg "range" = none)(ha:PA X [a,b] ta)(hs:starEach [a,b] X.env=[(false,eval a X.env),(false,eval b X.env)]:=by rfl)(hs2:starEach [b] X.env=[(false,eval b X.env)]:=by rfl) :
 PI X tg (.Call (.Name "range" p) [a,b] [] pos) (X0 ta):=by
 intro pins s σ H R I h;refine Call_ (Ix I hg hm boot_range (PyProof.Rows.callWith_type1 (thn (ha pos pins s σ H _ I h) λus s1 z9=>?_) (by rw [hs,hs2]) (by rw [hs2];rfl)));obtain ⟨vs,H1,I1,r1,q1⟩:=z9;obtain ⟨i,j,e,⟨q1,q2,q3,q4⟩,q⟩:=q1;subst e
 cases r1 with
 | cons r rr=>
   cases rr with
   | cons r' rr=>
     cases rr
     obtain ⟨t,rfl⟩:=r;obtain ⟨t',rfl⟩:=r';exact call_range_2 (Li I1 q1 q2 q3 q4 q)
def Xe (wi:TI)(g:TG)(tb:TS):TS:=λD σ H=>wi σ H λJ H1=>∃W:Nat->Nat->St->Hp->Prop,(∃m,W 0 m σ H1)/\∀i m σ H,W i m σ H->
 (J.stop i H/\D.nx σ H)\/(J.go i H/\∃N:St->Hp->Prop,(∀σ' H',N σ' H'->∃m',m' < m/\W (i + 1) m' σ' H')/\∀x H',J.yld i H x H'->g x σ H' λσ2 H2=>tb { D with nx:=N,ct:=N,bk:=D.nx } σ2 H2)
noncomputable def Gz (fp:List Addr)(h:Heap):List (Addr×Obj):=fp.filterMap λb=>(h.get? b).map λo=>(b,o)
theorem EE {o:Obj}(hb:b∈fp)(e:h.get? b=some o):(b,o)∈Gz fp h:=List.mem_filterMap.mpr ⟨b,hb,by rw [e];rfl⟩
theorem Pm {p:Addr×Obj}(hp:p∈Gz fp h):p.1∈fp/\h.get? p.1=some p.2:=by
 obtain ⟨b,hb,e⟩:=List.mem_filterMap.mp hp
 cases q:h.get? b with
 | none=>rw [q] at e;cases e
 | some o=>
   rw [q] at e;have e':(b,o)=p:=Option.some.inj e;subst e';exact ⟨hb,q⟩
theorem Inv.pinned (I:Inv X pins σ H s)(hf:∀b∈fp,FpOk X pins H b)(ho:∀b∈fp,∃o,s.heap.get? b=some o/\∀v,o.data≠.cell v):Inv X (pins++Gz fp s.heap) σ H s:=
 I.pins_of λp hp=>(List.mem_append.mp hp).elim (λz=>I.pin p (List.mem_append_right _ z)) λz=>by
  obtain ⟨hb,e⟩:=Pm z;obtain ⟨f0,f1,f2,_⟩:=hf p.1 hb;obtain ⟨o,e',d⟩:=ho p.1 hb;rw [e] at e';cases e'
  exact ⟨e,f0,f1,f2,d⟩
theorem Inv.unpinned {pl:List (Addr×Obj)}(I:Inv X (pins++pl) σ H s):Inv X pins σ H s:=I.pins_of λp hp=>I.pin p (List.mem_append_right _ (List.mem_append_left _ hp))
theorem WK {iter:Expr}{body:List Stmt}{wi:TI}{g:TG}{tb:TS}{pos:Pos}(hp:PassesOwn (model X.prog X.w) X.A X.env X.xe)(hc:X.calm=true)(hi:PI X tg iter wi)(hg:PG X tg g)(hb:PSs X body tb)
 (hs:∀x,foldedSetIterable iter X.env x=pure x:=by intro _;rfl):PS X (.For tg iter body [] pos) (Xe wi g tb):=by
 intro pins s σ H D I h;refine wpAny_For (thn (hi pins s σ H _ I h) λv s1 h1=>thn h1 λitv s2 h2=>?_) hs;obtain ⟨it,fp,tn,J,H2,e,I2,T,st2,f2,W,⟨m0,w0⟩,turn⟩:=h2;subst e
 -- what stays true of the iterator's objects through the loop
 have stat:∀{H':Hp},(∀b∈fp,H' b=none)->∀b∈fp,FpOk X pins H' b:=λhn b hb=>⟨hn b hb,(f2 b hb).2⟩;refine codeAny_forLoop_any (λn s'=>∃i σ' H',Inv X pins σ' H' s'/\tn i s'.heap/\(∀b∈fp,H' b=none)/\W i n σ' H') ?_ m0 ⟨0,σ,H2,I2,st2,λb hb=>(f2 b hb).1,w0⟩;rintro n s3 ⟨i,σ3,H3,I3,st3,fr3,w3⟩;rcases turn i n σ3 H3 w3 with ⟨stop,qn⟩ | ⟨go,N,hN,step⟩
 ·refine wpAny_passesOwn hp (thn (T.done X rfl rfl rfl hc i pins s3 σ3 H3 X.xe I3 (stat fr3) st3 stop) λr s4 z9=>?_);obtain ⟨hr,I4⟩:=z9;subst hr;exact wpAny_execs_nil ⟨σ3,H3,I4,qn⟩
 ·refine wpAny_passesOwn hp (thn (T.item X rfl rfl rfl hc i pins s3 σ3 H3 X.xe I3 (stat fr3) st3 go) λr s4 z9=>?_);obtain ⟨u,hr,h4⟩:=z9;subst hr;refine wpAny_passesOwn hp (thn h4 λ_ s5 z9=>?_);obtain ⟨x,H5,I5,r5,y5,st5,fr5⟩:=z9;have I5':=I5.pinned (stat fr5) (T.obj _ _ st5);refine wpAny_passesOwn hp (thn (hg _ s5 σ3 H5 x u _ I5' r5 (step x H5 y5)) λ_ s6 z9=>?_);obtain ⟨σ6,H6,I6,q6⟩:=z9;refine wpAny_passesOwn hp (thn (hb _ s6 σ6 H6 _ I6 q6) λf s7 q7=>?_);have again:∀{σ7:St} {H7:Hp},Inv X (pins++Gz fp s5.heap) σ7 H7 s7->N σ7 H7->∃m,m < n/\∃i σ' H',Inv X pins σ' H' s7/\tn i s7.heap/\(∀b∈fp,H' b=none)/\W i m σ' H':=λ{σ7 H7} I7 n7=>by
   obtain ⟨m',hm,w7⟩:=hN σ7 H7 n7;refine ⟨m',hm,i + 1,σ7,H7,I7.unpinned,T.keep _ _ _ st5 λb hb o e=>(I7.pin (b,o) (List.mem_append_right _ (List.mem_append_right _ (EE hb e)))).1,λb hb=>?_,w7⟩;obtain ⟨o,e,d⟩:=T.obj _ _ st5 b hb;exact (I7.pin (b,o) (List.mem_append_right _ (List.mem_append_right _ (EE hb e)))).2.1
  cases f with
  | next=>obtain ⟨σ7,H7,I7,n7⟩:=q7;exact again I7 n7
  | cont=>obtain ⟨σ7,H7,I7,n7⟩:=q7;exact again I7 n7
  | brk=>obtain ⟨σ7,H7,I7,q7⟩:=q7;exact ⟨σ7,H7,I7.unpinned,q7⟩
  | ret v=>obtain ⟨x7,σ7,H7,I7,r7,q7⟩:=q7;exact ⟨x7,σ7,H7,I7.unpinned,r7,q7⟩
end
abbrev R2:=V->V->Hp->VK->Prop
def OpR (X:Cx)(f:Value->Value->Sem Value)(r:R2):Prop:=
 ∀(pins:List (Addr×Obj)) (s:Shared) (σ:St) (H:Hp) (x y:V) (v u:Value) (Q:VK),Inv X pins σ H s->RelV x v->RelV y u->r x y H Q->
  wpAny (model X.prog X.w) X.A (f v u) (EP X pins σ Q) X.xe s
def UnR (X:Cx)(f:Value->Sem Value)(r:V->Hp->VK->Prop):Prop:=
 ∀(pins:List (Addr×Obj)) (s:Shared) (σ:St) (H:Hp) (x:V) (v:Value) (Q:VK),Inv X pins σ H s->RelV x v->r x H Q->
  wpAny (model X.prog X.w) X.A (f v) (EP X pins σ Q) X.xe s
def Cn (X:Cx)(f:Value)(r:List V->Hp->VK->Prop):Prop:=
 ∀(pins:List (Addr×Obj)) (s:Shared) (σ:St) (H:Hp) (xs:List V) (us:List Value) (Q:VK),Inv X pins σ H s->Vals xs us->r xs H Q->
  wpAny (model X.prog X.w) X.A (call f us) (EP X pins σ Q) X.xe s
def tOp (r:R2)(ta tb:TE):TE:=λσ H Q=>ta σ H λx H1=>tb σ H1 λy H2=>r x y H2 Q
def tUn (r:V->Hp->VK->Prop)(ta:TE):TE:=λσ H Q=>ta σ H λx H1=>r x H1 Q
def rI (C:Int->Int->Prop)(g:Int->Int->V):R2:=λx y H Q=>∃i j,x = .int i/\y = .int j/\C i j/\Q (g i j) H
def rI0 (g:Int->Int->V):R2:=λx y H Q=>∃i j,x = .int i/\y = .int j/\Q (g i j) H
def rU (g:Int->V):V->Hp->VK->Prop:=λx H Q=>∃i,x = .int i/\Q (g i) H
variable {r:R2}{f:Value->Value->Sem Value}
section
variable {X:Cx}{a b c:Expr}{ta tb tc:TE}{pos:Pos}
theorem Qk (ha:PE X a ta)(hb:PE X b tb){pins:List (Addr×Obj)}{s:Shared}{σ:St}{H:Hp}{R:V->V->Hp->Prop}(I:Inv X pins σ H s)
 (h:ta σ H λx H1=>tb σ H1 λy H2=>R x y H2) {Q:Value->Shared->Prop} {f:Value->Value->Sem Value}
 (hf:∀v u s2 x y H2,Inv X pins σ H2 s2->RelV x v->RelV y u->R x y H2->wpAny (model X.prog X.w) X.A (f v u) Q X.xe s2) :
 wpAny (model X.prog X.w) X.A (eval a X.env) (λv s₁=>wpAny (model X.prog X.w) X.A (eval b X.env) (λu s₂=>wpAny (model X.prog X.w) X.A (f v u) Q X.xe s₂) X.xe s₁) X.xe s:=by
 refine thn (ha pins s σ H _ I h) λv s1 z9=>?_;obtain ⟨x,H1,I1,r1,q1⟩:=z9;refine thn (hb pins s1 σ H1 _ I1 q1) λu s2 z9=>?_;obtain ⟨y,H2,I2,r2,q2⟩:=z9;exact hf v u s2 x y H2 I2 r1 r2 q2
theorem NT {op:Operator}(ho:OpR X (binaryOp op) r)(ha:PE X a ta)(hb:PE X b tb):PE X (.BinOp a op b pos) (tOp r ta tb):=by
 intro pins s σ H Q I h;exact wpAny_BinOp (Qk ha hb I h λv u s2 x y H2 I2 rx ry q=>ho pins s2 σ H2 x y v u Q I2 rx ry q)
theorem X6 {op:UnaryOp}{r:V->Hp->VK->Prop}(ho:UnR X (unaryOp op) r)(ha:PE X a ta):PE X (.UnaryOp op a pos) (tUn r ta):=by
 intro pins s σ H Q I h;exact UnaryOp_ (thn (ha pins s σ H _ I h) λv s1 z9=>by obtain ⟨x,H1,I1,r1,q1⟩:=z9;exact ho pins s1 σ H1 x v Q I1 r1 q1)
theorem opI {C:Int->Int->Prop}{g:Int->Int->Int}
 (rule:∀(i j:Int) (t u:Tok) (s:Shared) (Q:Value->Shared->Prop) (E:Value->Shared->Prop),C i j->Q (.int (g i j) s.toks) { s with toks:=s.toks + 1 }->wpAny (model X.prog X.w) X.A (f (.int i t) (.int j u)) Q E s) :
 OpR X f (rI C λi j=>.int (g i j)):=by
 intro pins s σ H x y v u Q I rx ry h;obtain ⟨i,j,rfl,rfl,hc,q⟩:=h;obtain ⟨t,rfl⟩:=rx;obtain ⟨t',rfl⟩:=ry;exact rule i j t t' s _ _ hc ⟨.int (g i j),H,I.tok _,⟨_,rfl⟩,q⟩
theorem Wp {g:Int->Int->Int}
 (rule:∀(i j:Int) (t u:Tok) (s:Shared) (Q:Value->Shared->Prop) (E:Value->Shared->Prop),Q (.int (g i j) s.toks) { s with toks:=s.toks + 1 }->wpAny (model X.prog X.w) X.A (f (.int i t) (.int j u)) Q E s) :
 OpR X f (rI0 λi j=>.int (g i j)):=by
 intro pins s σ H x y v u Q I rx ry h;obtain ⟨i,j,rfl,rfl,q⟩:=h;obtain ⟨t,rfl⟩:=rx;obtain ⟨t',rfl⟩:=ry;exact rule i j t t' s _ _ ⟨.int (g i j),H,I.tok _,⟨_,rfl⟩,q⟩
theorem NQ {g:Int->Int->Bool}
 (rule:∀(i j:Int) (t u:Tok) (s:Shared) (Q:Value->Shared->Prop) (E:Value->Shared->Prop),Q (.bool (g i j)) s->wpAny (model X.prog X.w) X.A (f (.int i t) (.int j u)) Q E s) :
 OpR X f (rI0 λi j=>.bl (g i j)):=by
 intro pins s σ H x y v u Q I rx ry h;obtain ⟨i,j,rfl,rfl,q⟩:=h;obtain ⟨t,rfl⟩:=rx;obtain ⟨t',rfl⟩:=ry;exact rule i j t t' s _ _ ⟨.bl (g i j),H,I,rfl,q⟩
def Ve (i j:Int):Prop:=0 < j/\j < 1073741824
def Vf (i j:Int):Prop:=0<=j/\j<=1000000/\i.natAbs < 2 ^ 64
def CMul (i j:Int):Prop:=(-(2 ^ 64) < i/\i < 2 ^ 64)\/(-(2 ^ 64) < j/\j < 2 ^ 64)
theorem CMul.ok {i j:Int}(h:CMul i j):IntMulOk i j:=by
 rcases h with ⟨h1,h2⟩ | ⟨h1,h2⟩
 ·exact .of_left (intBits_le_64 h1 h2)
 ·exact .of_right (intBits_le_64 h1 h2)
theorem two_pow_nn (k:Nat):(0:Int)<=2 ^ k:=by
 rw [two_pow_cast];exact Int.natCast_nonneg _
theorem op_add:OpR X (binaryOp .Add) (rI0 λi j=>.int (i + j)):=Wp λ_ _ _ _ _ _ _ q=>add_int q
theorem Wx:OpR X (binaryOp .Sub) (rI0 λi j=>.int (i - j)):=Wp λ_ _ _ _ _ _ _ q=>sub_int q
theorem Wt:OpR X (binaryOp .Mult) (rI CMul λi j=>.int (i * j)):=opI λ_ _ _ _ _ _ _ hc q=>mul_int q hc.ok
theorem T8:OpR X (binaryOp .FloorDiv) (rI Ve λi j=>.int (i / j)):=opI λi j _ _ _ _ _ hc q=>by
 have h1:(0:Int) < j:=hc.1;have h2:j < 1073741824:=hc.2;exact floordiv_int (by lia) (by rw [Int.fdiv_eq_ediv_of_nonneg i (by lia)];exact q) (.inl (PyProof.noPylong_small (by lia)))
theorem Ws:OpR X (binaryOp .Mod) (rI (λ_ j=>0 < j) λi j=>.int (i % j)):=opI λi j _ _ _ _ _ hc q=>by
 have h1:(0:Int) < j:=hc;exact mod_int' (by lia) (by rw [Int.fmod_eq_emod_of_nonneg i (by lia)];exact q)
theorem Wu:OpR X (binaryOp .Pow) (rI Vf λi j=>.int (i ^ j.toNat)):=opI λ_ _ _ _ _ _ _ hc q=>pow_int_small hc.1 hc.2.1 hc.2.2 q
theorem Ww:OpR X (binaryOp .RShift) (rI (λ_ j=>0<=j) λi j=>.int (i / 2 ^ j.toNat)):=opI λi j _ _ _ _ _ hc q=>
 rshift_int hc (by rw [Int.fdiv_eq_ediv_of_nonneg i (two_pow_nn _)];exact q)
theorem unI {f:Value->Sem Value}{g:Int->Int}
 (rule:∀(i:Int) (t:Tok) (s:Shared) (Q:Value->Shared->Prop) (E:Value->Shared->Prop),Q (.int (g i) s.toks) { s with toks:=s.toks + 1 }->wpAny (model X.prog X.w) X.A (f (.int i t)) Q E s) :
 UnR X f (rU λi=>.int (g i)):=by
 intro pins s σ H x v Q I rx h;obtain ⟨i,rfl,q⟩:=h;obtain ⟨t,rfl⟩:=rx;exact rule i t s _ _ ⟨.int (g i),H,I.tok _,⟨_,rfl⟩,q⟩
theorem Xi:UnR X (unaryOp .USub) (rU λi=>.int (-i)):=unI λ_ _ _ _ _ q=>neg_int q
end
variable {op:CmpOp}{us:List Value}
section
variable {X:Cx}{a b c:Expr}{ta tb tc:TE}{pos:Pos}
theorem op_lt:OpR X (compareOp .Lt) (rI0 λi j=>.bl (decide (i < j))):=NQ λ_ _ _ _ _ _ _ q=>lt_int q
theorem op_le:OpR X (compareOp .LtE) (rI0 λi j=>.bl (decide (i<=j))):=NQ λ_ _ _ _ _ _ _ q=>le_int q
theorem op_gt:OpR X (compareOp .Gt) (rI0 λi j=>.bl (decide (j < i))):=NQ λ_ _ _ _ _ _ _ q=>gt_int q
theorem op_ge:OpR X (compareOp .GtE) (rI0 λi j=>.bl (decide (j<=i))):=NQ λ_ _ _ _ _ _ _ q=>ge_int q
theorem OpR.or {r':R2}(h:OpR X f r)(h':OpR X f r'):OpR X f (λx y H Q=>r x y H Q\/r' x y H Q):=by
 intro pins s σ H x y v u Q I rx ry q;rcases q with q | q
 ·exact h pins s σ H x y v u Q I rx ry q
 ·exact h' pins s σ H x y v u Q I rx ry q
theorem BG (b:Expr){op:CmpOp}(h:op≠.In:=by decide)(h2:op≠.NotIn:=by decide):behindInMarks op b=false:=by
 have e1:(op == CmpOp.In)=false:=by cases op <;> first | rfl | exact absurd rfl h
 have e2:(op == CmpOp.NotIn)=false:=by cases op <;> first | rfl | exact absurd rfl h2
 cases b <;> simp [behindInMarks,e1,e2]
theorem Uh (ho:OpR X (compareOp op) r)(ha:PE X a ta)(hb:PE X b tb)(hm:behindInMarks op b=false):PE X (.Compare a [op] [b] pos) (tOp r ta tb):=by
 intro pins s σ H Q I h;exact wpAny_Compare1 (Qk ha hb I h λv u s2 x y H2 I2 rx ry q=>ho pins s2 σ H2 x y v u Q I2 rx ry q) hm
def Yt (t:TE):TT:=λσ H Q=>t σ H λx H'=>∃k,x = .bl k/\Q k H'
theorem ME (ho:OpR X (compareOp op) r)(ha:PE X a ta)(hb:PE X b tb)(hm:behindInMarks op b=false):PT X (.Compare a [op] [b] pos) (Yt (tOp r ta tb)):=by
 intro pins s σ H Q I h;refine wpAny_isTrue_Compare1 (thn (ha pins s σ H _ I h) λv s1 ⟨x,H1,I1,r1,q1⟩=>thn (hb pins s1 σ H1 _ I1 q1) λu s2 ⟨y,H2,I2,r2,q2⟩=>
  thn (ho pins s2 σ H2 x y v u _ I2 r1 r2 q2) λc s3 ⟨z,H3,I3,r3,k,e,q3⟩=>?_) hm
 subst e
 cases r3
 exact wpAny_truthy_bool ⟨H3,I3,q3⟩
def P3 (r r':R2)(ta tb tc:TE):TE:=λσ H Q=>ta σ H λx H1=>tb σ H1 λy H2=>r x y H2 λz H3=>∃k,z = .bl k/\
 (if k=true then tc σ H3 λw' H4=>r' y w' H4 Q else Q (.bl false) H3)
theorem Rh {op':CmpOp}{r':R2}(ho:OpR X (compareOp op) r)(ho':OpR X (compareOp op') r')(ha:PE X a ta)(hb:PE X b tb)(hc:PE X c tc)
 (hm:lastMarks [op,op'] [b,c]=false:=by with_unfolding_all rfl):PE X (.Compare a [op,op'] [b,c] pos) (P3 r r' ta tb tc):=by
 intro pins s σ H Q I h;refine Compare_chain (thn (ha pins s σ H _ I h) λv s1 ⟨x,H1,I1,r1,q1⟩=>chain_link (thn (hb pins s1 σ H1 _ I1 q1) λu s2 ⟨y,H2,I2,r2,q2⟩=>
  thn (ho pins s2 σ H2 x y v u _ I2 r1 r2 q2) λd s3 ⟨z,H3,I3,r3,k,e,q3⟩=>?_)) hm
 subst e
 cases r3
 refine wpAny_truthy_bool ?_
 cases k with
 | false=>exact ite_ff ⟨.bl false,H3,I3,rfl,q3⟩
 | true=>exact ite_tt (chain_last (thn (hc pins s3 σ H3 _ I3 q3) λw' s4 z9=>by obtain ⟨z',H4,I4,r4,q4⟩:=z9;exact ho' pins s4 σ H4 y z' u w' Q I4 r2 r4 q4))
theorem Fz:(sizeLine:Nat) < 2 ^ 63:=by rw [sizeLine_eq];decide
theorem op_add_str:OpR X (binaryOp .Add) (λx y H Q=>∃i j,x = .str i/\y = .str j/\i.length + j.length<=sizeLine/\Q (.str (i++j)) H):=by
 intro pins s σ H x y v u Q I rx ry h;obtain ⟨i,j,rfl,rfl,hz,q⟩:=h;obtain ⟨t,rfl⟩:=rx;obtain ⟨t',rfl⟩:=ry;exact add_str (λt' tk=>⟨.str (i++j),H,I.tok _,⟨_,rfl⟩,q⟩) hz
theorem EI {x:V}(r:Vals [x] us):∃u,us=[u]/\RelV x u:=by
 cases r with
 | cons r1 r2=>cases r2;exact ⟨_,rfl,r1⟩
theorem Yx {x y:V}(r:Vals [x,y] us):∃u w',us=[u,w']/\RelV x u/\RelV y w':=by
 cases r with
 | cons r1 r2=>
   cases r2 with
   | cons r3 r4=>cases r4;exact ⟨_,_,rfl,r1,r3⟩
theorem Ov (hc:X.calm=true):Cn X (.builtin "min") (λxs H Q=>∃i j,xs=[.int i,.int j]/\Q (.int (if j < i then j else i)) H):=by
 intro pins s σ H xs us Q I r h;obtain ⟨i,j,rfl,q⟩:=h;obtain ⟨u,w',rfl,⟨t,rfl⟩,⟨t',rfl⟩⟩:=Yx r;refine min_two_ints (I.ok.hd hc) λh' tk k=>⟨_,H,I.kept k,?_,q⟩
 by_cases hj:j < i
 ·rw [if_pos hj,if_pos hj];exact ⟨_,rfl⟩
 ·rw [if_neg hj,if_neg hj];exact ⟨_,rfl⟩
theorem Ou:Cn X (.type "int") (λxs H Q=>(∃i,xs=[.int i]/\Q (.int i) H)\/∃k,xs=[.bl k]/\Q (.int (if k then 1 else 0)) H):=by
 intro pins s σ H xs us Q I r h;rcases h with ⟨i,rfl,q⟩ | ⟨k,rfl,q⟩
 ·obtain ⟨u,rfl,t,rfl⟩:=EI r;exact call_int_int ⟨.int i,H,I,⟨_,rfl⟩,q⟩
 ·obtain ⟨u,rfl,r1⟩:=EI r
  cases r1
  exact call_int_bool ⟨.int (if k then 1 else 0),H,I.tok _,⟨_,rfl⟩,q⟩
theorem Qp:Cn X (.builtin "ord") (λxs H Q=>∃x,xs=[.str x]/\x.length=1/\Q (.int (x.cps.getD 0 0:Nat)) H):=by
 intro pins s σ H xs us Q I r h;obtain ⟨x,rfl,hz,q⟩:=h;obtain ⟨u,rfl,t,rfl⟩:=EI r;exact ord_of_one hz ⟨.int _,H,I.tok _,⟨_,rfl⟩,q⟩
def Vh (K:PySem.W.Frag)(x:V)(H:Hp)(n:Nat):Prop:=
 match x with
 | .str y=>y.length<=sizeLine/\n=y.length
 | .byt y=>y.size<=sizeLine/\n=y.size
 | .ref p=>(∃xs,SqL K H p xs/\n=xs.length)\/∃xs,SqT K H p xs/\n=xs.length
 | _=>False
theorem Qo:Cn X (.builtin "len") (λxs H Q=>∃x n,xs=[x]/\Vh X.K x H n/\Q (.int n) H):=by
 intro pins s σ H xs us Q I r h;obtain ⟨x,n,rfl,e,q⟩:=h;obtain ⟨u,rfl,rx⟩:=EI r;have hl:=Fz;have hs:sizeLine=16777216:=sizeLine_eq
 cases x with
 | str y=>
   obtain ⟨t,rfl⟩:=rx;obtain ⟨hy,e'⟩:y.length<=sizeLine/\n=y.length:=e;subst e';exact len_str (by lia) ⟨.int _,H,I.tok _,⟨_,rfl⟩,q⟩
 | byt y=>
   obtain ⟨t,rfl⟩:=rx;obtain ⟨hy,e'⟩:y.size<=sizeLine/\n=y.size:=e;subst e';exact PySem.W.len_bytes (by lia) ⟨.int _,H,I.tok _,⟨_,rfl⟩,q⟩
 | ref p=>
   cases rx
   have e':(∃xs,SqL X.K H p xs/\n=xs.length)\/∃xs,SqT X.K H p xs/\n=xs.length:=e;rcases e' with ⟨xs,hx,e'⟩ | ⟨xs,hx,e'⟩
   ·subst e';obtain ⟨its,r',pl,hz⟩:=I.list hx;have hlen:=r'.length;exact Calls.call_len_list pl.isList (by simp only [List.size_toArray];lia) ⟨.int xs.length,H,I.tok _,⟨_,by simp only [List.size_toArray];rw [hlen]⟩,q⟩
   ·subst e';obtain ⟨its,r',pl,hz⟩:=I.tuple hx;have hlen:=r'.length;exact len_tuple pl (by simp only [List.size_toArray];lia) ⟨.int xs.length,H,I.tok _,⟨_,by simp only [List.size_toArray];rw [hlen]⟩,q⟩
 | _=>exact (show False from e).elim
end
structure ObjM (h:Heap)(x dx C:Addr)(mA:Str->Option Value):Prop where
 obj:h.get? x=some (PySem.W.instObj C dx)
 ns:h.Ns1 dx mA
 ne:dx≠x
theorem Gp {dx:Addr}{mA:Str->Option Value}(n:h.Ns1 dx mA):∃od,h.get? dx=some od/\∀name,PySem.W.lookIn name od=some (mA name):=by
 obtain ⟨o,es,ep,ho,hd,hk,_,hm⟩:=n;refine ⟨o,ho,λname=>?_⟩;have e:=hm name;unfold nsFind findBy at e;rw [<-Array.find?_toList] at e;unfold PySem.W.lookIn;rw [hd];dsimp only
 split
 ·rename_i y q;rw [q] at e;exact congrArg some e
 ·rename_i q;rw [q] at e;have a:es.toList.any (·.refKey)=false:=by
   rw [List.any_eq_false];intro y hy;obtain ⟨z,t,hkey⟩:=hk y (Array.mem_toList_iff.mp hy);simp [DictEntry.refKey,hkey]
  have a':¬es.toList.any (·.refKey)=true:=by rw [a];exact Bool.false_ne_true
  rw [if_neg a'];exact congrArg some e
variable {C:Addr}
theorem ObjM.look {x dx:Addr}{mA:Str->Option Value}(I:ObjM h x dx C mA):∃od,PySem.W.InstAt h x (PySem.W.instObj C dx) C (some od)/\∀name,PySem.W.lookIn name od=some (mA name):=
 let ⟨od,ho,hl⟩:=Gp I.ns
 ⟨od,⟨I.obj,rfl,rfl,ho⟩,hl⟩
variable {pl:Sem Bool}{kw:List (Str×Value)}
section
variable {prog:Program}{w:World}{A:Around}{E:Value->Shared->Prop}{s:Shared}{K:PySem.W.Frag}{x dx C f:Addr}{mA:Str->Option Value}{name:Str}{v:Value}
theorem Tp {expr:Bool}{Q:Value->Shared->Prop}(X:K.In s.heap)(I:ObjM s.heap x dx C mA)(hg:PySem.W.plainGet K C name=true)(hh:PySem.W.hasDictIn K C=true)
 (ha:PySem.W.findIn K (.ref C) name=some none) (hv:mA name=some v) (hv':PySem.W.handedIn v=true) (h:Q v { s with toks:=s.toks + 1 }) :
 wpAny (model prog w) A (getAttr (.ref x) name expr) Q E s:=by
 obtain ⟨od,J,hl⟩:=I.look;exact PySem.W.get_value X J (PySem.W.plainGet_of hg).1 (PySem.W.findObj_own hh ha rfl (by rw [hl,hv])) hv' h
theorem QO {Q:Value×List Value->Shared->Prop}(X:K.In s.heap)(I:ObjM s.heap x dx C mA)(hg:PySem.W.plainGet K C name=true)
 (hf:PySem.W.findIn K (.ref C) name=some (some (.ref f))) (ht:PySem.W.isFn K (.ref f)=true) (hv:mA name=none) (h:Q (.ref f,[.ref x]) s) :
 wpAny (model prog w) A (getMethod (.ref x) name pl) Q E s:=by
 obtain ⟨od,J,hl⟩:=I.look;exact PySem.W.method_fn X J (PySem.W.plainGet_of hg).1 (PySem.W.plainGet_of hg).2 hf (beq_iff_eq.mp ht) (by show (PySem.W.lookIn name od).map (·.isSome)=some false;rw [hl,hv];rfl) h
theorem UR {ns:List Str}(X:K.In s.heap)(I:ObjM s.heap x dx C mA)
 (hs:PySem.W.findIn K (.ref C) "__setattr__" = some (some (.builtin "object.__setattr__"))) (hp:PySem.W.plainOver K C=true) (ht:PySem.W.takerIn K C name=some none) (hh:PySem.W.hasDictIn K C=true)
 (hw:PySem.Within mA ns) (hsz:ns.length<=sizeLine)
 (h:∀h',ObjM h' x dx C (λy=>if y=name then some v else mA y)->Heap.SameBut dx s.heap h'->Q () { s with heap:=h',toks:=s.toks + 2 }) :
 wpAny (model prog w) A (setAttr (.ref x) name v) Q E s:=by
 obtain ⟨od,J,hl⟩:=I.look;refine PySem.W.set_plain X J hs (PySem.W.osa_open (s:={ s with toks:=s.toks + 1 }) (r:=none) X J hp ht λb=>?_);obtain ⟨cd,hc,hd'⟩:=PySem.W.any_some hh;have hx:s.heap.get? x=some ⟨.ref C,some dx,.plain,#[]⟩:=I.obj;refine wpAny_bind (wpAny_pure (wpAny_bind (wpAny_bind (wpAny_loadPart hx (wpAny_bind (PySem.W.Looks.here (s:={ s with toks:=s.toks + 1 }) (PySem.W.looks_clsIn X hc) ?_))))));rw [hd'];refine wpAny_pure (a:=some dx) (wpAny_bind (wpAny_pure (wpAny_bind ?_)));refine wpAny_nsSet1 (s:={ s with toks:=s.toks + 1 }) I.ns λh' hn2 hs2=>?_;obtain ⟨oD,esD,epD,hoD,hdD,hcD⟩:=hn2.count (PySem.Within.cons name v hw);refine wpAny_bind (wpAny_lookBehind hoD (by rw [hdD];exact pastItsLine_dict (Nat.le_trans hcD (by rw [List.length_cons];lia))) ?_);exact wpAny_pure (h _ ⟨(hs2.2 _ (Ne.symm I.ne)).trans I.obj,hn2,I.ne⟩ hs2)
theorem Q6 {R:Result->Shared->Prop}{vs:List Value}(X:K.In s.heap)(hm:PySem.W.makesIn K C=true)
 (hi:PySem.W.findIn K (.ref C) "__init__" = some (some (.ref f))) (hf:PySem.W.typeIn K (.ref f)=some (.type "function"))
 (h:codeAny (model prog w) (A.under (.builtin "type.__call__" ⟨.ref C :: vs,kw⟩)) (.call (.ref f) ⟨.ref (s.heap.objs.size + 1) :: vs,kw⟩) (PySem.W.InitBack (s.heap.objs.size + 1) R)
   { s with heap:=(s.heap.push PySem.W.emptyDict).push (PySem.W.instObj C s.heap.objs.size) }) :
 codeAny (model prog w) A (.call (.ref C) ⟨vs,kw⟩) R s:=by
 obtain ⟨hh,g,d,t,os⟩:=s;exact PySem.W.make_core (PySem.W.makes_of X hm) (PySem.W.looks_findIn X hi) (λself=>PySem.W.bind_fn X self hf) (.inl rfl) h
end
noncomputable def Cv (f:Str)(v:V):List (Str×V)->List (Str×V)
 | []=>[(f,v)]
 | (g,x) :: r=>if g=f then (g,v) :: r else (g,x) :: Cv f v r
theorem Hj (f g:Str)(v:V):∀fs:List (Str×V),(Cv f v fs).lookup g=if g=f then some v else fs.lookup g
 | []=>by
   show List.lookup g [(f,v)]=_
   by_cases h:g=f
   ·have hb:(g == f)=true:=beq_iff_eq.mpr h;simp only [List.lookup,hb,if_pos h]
   ·have hb:(g == f)=false:=beq_eq_false_iff_ne.mpr h;simp only [List.lookup,hb,if_neg h]
 | (k,x) :: r=>by
   have ih:=Hj f g v r;rw [show Cv f v ((k,x) :: r)=(if k=f then (k,v) :: r else (k,x) :: Cv f v r) from rfl]
   by_cases hk:k=f
   ·rw [if_pos hk]
    by_cases h:g=k
    ·have hb:(g == k)=true:=beq_iff_eq.mpr h;simp only [List.lookup,hb,if_pos (h.trans hk)]
    ·have hb:(g == k)=false:=beq_eq_false_iff_ne.mpr h;simp only [List.lookup,hb,if_neg (λe:g=f=>h (e.trans hk.symm))]
   ·rw [if_neg hk]
    by_cases h:g=k
    ·have hb:(g == k)=true:=beq_iff_eq.mpr h;simp only [List.lookup,hb,if_neg (λe:g=f=>hk (h.symm.trans e))]
    ·have hb:(g == k)=false:=beq_eq_false_iff_ne.mpr h;simp only [List.lookup,hb];exact ih
theorem Go (f:Str)(v:V):∀fs:List (Str×V),f∈(Cv f v fs).map (·.1)/\∀g,g∈fs.map (·.1)->g∈(Cv f v fs).map (·.1)
 | []=>⟨by simp [Cv],λg h=>by simp at h⟩
 | (k,x) :: r=>by
   obtain ⟨i1,i2⟩:=Go f v r;rw [show Cv f v ((k,x) :: r)=(if k=f then (k,v) :: r else (k,x) :: Cv f v r) from rfl]
   by_cases hk:k=f
   ·rw [if_pos hk];subst hk;exact ⟨by simp,λg h=>by simpa using h⟩
   ·rw [if_neg hk];refine ⟨?_,λg h=>?_⟩
    ·rw [List.map_cons];exact List.mem_cons_of_mem _ i1
    ·rw [List.map_cons] at h ⊢;rcases List.mem_cons.mp h with e | e
     ·exact List.mem_cons.mpr (.inl e)
     ·exact List.mem_cons_of_mem _ (i2 g e)
theorem Hg (f:Str)(v:V):∀fs:List (Str×V),(Cv f v fs).length<=fs.length + 1
 | []=>by simp [Cv]
 | (k,x) :: r=>by
   have ih:=Hg f v r;rw [show Cv f v ((k,x) :: r)=(if k=f then (k,v) :: r else (k,x) :: Cv f v r) from rfl]
   by_cases hk:k=f
   ·rw [if_pos hk,List.length_cons,List.length_cons];lia
   ·rw [if_neg hk,List.length_cons,List.length_cons];lia
theorem RelO.some_of {o:Option Value}(r:RelO (some v) o):∃u,o=some u/\RelV v u:=by
 cases o with
 | none=>exact (show False from r).elim
 | some u=>exact ⟨u,rfl,r⟩
theorem RelO.none_of {o:Option Value}(r:RelO none o):o=none:=by
 cases o with
 | none=>rfl
 | some u=>exact (show False from r).elim
theorem JH (r:RelV v u):PySem.W.handedIn u=true:=by
 cases v with
 | non=>cases (show u=Value.none from r);rfl
 | bl b=>cases (show u=Value.bool b from r);rfl
 | int i=>obtain ⟨t,e⟩:=(show ∃t,u=Value.int i t from r);cases e;rfl
 | str x=>obtain ⟨t,e⟩:=(show ∃t,u=Value.str x t from r);cases e;rfl
 | byt b=>obtain ⟨t,e⟩:=(show ∃t,u=Value.bytes b t from r);cases e;rfl
 | flt b=>obtain ⟨t,e⟩:=(show ∃t,u=Value.float b t from r);cases e;rfl
 | ref a=>cases (show u=Value.ref a from r);rfl
 | ty n=>cases (show u=Value.type n from r);rfl
section
variable {P:Program}{w:World}{H H':Hp}{h h':Heap}{a C dx:Addr}{fs fs':List (Str×V)}
theorem Jg (hok:HOk P w H h)(e:H a=some (.ins C dx fs)):∃mA,ObjM h a dx C mA/\(∀f,RelO (fs.lookup f) (mA f))/\PySem.Within mA (fs.map (·.1))/\fs.length<=1000/\H dx=some (.own a):=by
 obtain ⟨d,z,ne,ob,mA,n,r,q⟩:=(show ObjOk P w H h a (.ins C dx fs) from hok a _ e);exact ⟨mA,⟨ob,n,ne⟩,r,q,z,d⟩
end
structure Cls (K:PySem.W.Frag)(C:Addr):Prop where
 pg:PySem.W.plainGet K C Str.empty=true
 hd:PySem.W.hasDictIn K C=true
 po:PySem.W.plainOver K C=true
 sa:PySem.W.findIn K (.ref C) "__setattr__" = some (some (.builtin "object.__setattr__"))
theorem Cls.get (c:Cls K C)(f:Str):PySem.W.plainGet K C f=true:=c.pg
def NoAttr (K:PySem.W.Frag)(C:Addr)(f:Str):Prop:=PySem.W.findIn K (.ref C) f=some none
theorem NoAttr.taker {f:Str}(n:NoAttr K C f):PySem.W.takerIn K C f=some none:=by
 unfold PySem.W.takerIn;rw [show PySem.W.findIn K (.ref C) f=some none from n];rfl
structure Con (K:PySem.W.Frag)(C:Addr)(f:Str)(v:V)(u:Value):Prop where
 at_:PySem.W.findIn K (.ref C) f=some (some u)
 rel:RelV v u
 get:PySem.W.specialIn K u "__get__" = some none
 cp:PySem.W.copiedNames.contains f=false
structure Meth (K:PySem.W.Frag)(C:Addr)(m:Str)(f:Addr):Prop where
 at_:PySem.W.findIn K (.ref C) m=some (some (.ref f))
 fn:PySem.W.isFn K (.ref f)=true
 kp:PySem.W.keepIn K (.ref f)=true
section
variable {X:Cx}{pins:List (Addr×Obj)}{σ:St}{H:Hp}{s:Shared}{a C dx:Addr}{fs:List (Str×V)}{f:Str}{v:V}{A:Around}{E:Value->Shared->Prop}
theorem Nx {b:Bool}{Q:Value->Shared->Prop}(I:Inv X pins σ H s)(e:H a=some (.ins C dx fs))(c:Cls X.K C)(n:NoAttr X.K C f)(l:fs.lookup f=some v)
 (h:∀u s',Inv X pins σ H s'->RelV v u->Q u s'):wpAny (model X.prog X.w) A (getAttr (.ref a) f b) Q E s:=by
 obtain ⟨mA,O,r,_,_,_⟩:=Jg I.hok e;obtain ⟨u,hu,ru⟩:=RelO.some_of (v:=v) (o:=mA f) (by rw [<-l];exact r f);exact Tp I.kIn O (c.get f) c.hd n hu (JH ru) (h u _ (I.tok _) ru)
theorem Iq {m:Str}{g:Addr}{Q:Value×List Value->Shared->Prop}(I:Inv X pins σ H s)(e:H a=some (.ins C dx fs))(c:Cls X.K C)(k:Meth X.K C m g)(l:fs.lookup m=none)
 (h:Q (.ref g,[.ref a]) s):wpAny (model X.prog X.w) A (getMethod (.ref a) m pl) Q E s:=by
 obtain ⟨mA,O,r,_,_,_⟩:=Jg I.hok e;have hn:mA m=none:=RelO.none_of (by rw [<-l];exact r m);exact QO I.kIn O (c.get m) k.at_ k.fn hn h
theorem N0 {y:V}(I:Inv X pins σ H s)(e:H a=some (.ins C dx fs))(c:Cls X.K C)(n:NoAttr X.K C f)(hl:fs.length < 1000)(ry:RelV y u)
 (h:∀s',Inv X pins σ (upd H a (.ins C dx (Cv f y fs))) s'->Q () s'):wpAny (model X.prog X.w) A (setAttr (.ref a) f u) Q E s:=by
 obtain ⟨mA,O,r,wi,_,ho⟩:=Jg I.hok e;have hz:(fs.map (·.1)).length<=sizeLine:=by rw [List.length_map,sizeLine_eq];lia
 refine UR I.kIn O c.sa c.po n.taker c.hd wi hz λh' O' sb=>h _ ?_;have hd:∃o,h'.get? dx=some o:=let ⟨o,_,_,e',_⟩:=O'.ns;⟨o,e'⟩;refine I.write (x:=a) (e:=dx) (by rw [e];exact True.intro) (.inr ho) (λb q hb z=>(sb.2 b hb).trans z) hd ?_;refine ⟨by rw [Ai O.ne];exact ho,?_,O.ne,O'.obj,_,O'.ns,λg=>?_,λg hg=>?_⟩
 ·have:=Hg f y fs;lia
 ·show RelO ((Cv f y fs).lookup g) (if g=f then some u else mA g);rw [Hj]
  by_cases q:g=f
  ·rw [if_pos q,if_pos q];exact ry
  ·rw [if_neg q,if_neg q];exact r g
 ·by_cases q:g=f
  ·rw [q];exact (Go f y fs).1
  ·refine (Go f y fs).2 g (wi g λz=>hg ?_);show (if g=f then some u else mA g)=none;rw [if_neg q];exact z
theorem Inv.made (I:Inv X pins σ H s):Inv X pins σ (upd (upd H s.heap.objs.size (.own (s.heap.objs.size + 1))) (s.heap.objs.size + 1) (.ins C s.heap.objs.size []))
 { s with heap:=(s.heap.push PySem.W.emptyDict).push (PySem.W.instObj C s.heap.objs.size) }:=by
 have e1:(s.heap.push PySem.W.emptyDict).get? s.heap.objs.size=some PySem.W.emptyDict:=Heap.get?_push_size s.heap rfl;have e2:((s.heap.push PySem.W.emptyDict).push (PySem.W.instObj C s.heap.objs.size)).get? (s.heap.objs.size + 1)=some (PySem.W.instObj C s.heap.objs.size):=by
  have:=Heap.get?_push_size (s.heap.push PySem.W.emptyDict) (o:=PySem.W.instObj C s.heap.objs.size) rfl
  rwa [Heap.size_push] at this
 have e3:(s.heap.push PySem.W.emptyDict).Ns s.heap.objs.size (λ_=>none):=⟨PySem.W.emptyDict,#[],_,e1,rfl,(λe he=>absurd he (by simp)),λ_=>rfl⟩;have I1:=I.laid (a:=s.heap.objs.size) (o:=.own (s.heap.objs.size + 1)) (h':=s.heap.push PySem.W.emptyDict) (t':=s.toks) (λb u q=>Heap.get?_push_of_some _ q) (Nat.le_refl _) ⟨_,e1⟩;refine I1.laid (a:=s.heap.objs.size + 1) (o:=.ins C s.heap.objs.size []) (t':=s.toks) (λb u q=>Heap.get?_push_of_some _ q) (Nat.le_of_eq (Heap.size_push _ _)) ?_;have ne:s.heap.objs.size≠s.heap.objs.size + 1:=Nat.ne_of_lt (Nat.lt_succ_self _);refine ⟨by rw [Ai ne,Aj],Nat.zero_le _,ne,e2,λ_=>none,(Heap.Ns1.of_empty e3).at λo q=>Heap.get?_push_of_some _ q,λ_=>True.intro,λy hy=>absurd rfl hy⟩
theorem L4 {prog:Program}{env:Env}{f:Str}{pos:Pos}{s:Shared}{Q:Value->Shared->Prop}(hb:attributeBase e f env (eval e env)=eval e env)
 (h:wpAny (model prog w) A (eval e env) (λo s₁=>wpAny (model prog w) A (getAttr o f true) Q E s₁) E s):wpAny (model prog w) A (eval (.Attribute e f pos) env) Q E s:=
 Attribute_any_ h (by rw [arm_eval_Attribute,hb])
end
def ZF (K:PySem.W.Frag)(ta:TE)(f:Str):TE:=λσ H Q=>ta σ H λx H1=>∃a C dx fs v,x = .ref a/\H1 a=some (.ins C dx fs)/\Cls K C/\NoAttr K C f/\fs.lookup f=some v/\Q v H1
def ZC (K:PySem.W.Frag)(ta tv:TE)(f:Str):TS:=λD σ H=>tv σ H λy H1=>ta σ H1 λx H2=>∃a C dx fs,x = .ref a/\H2 a=some (.ins C dx fs)/\Cls K C/\NoAttr K C f/\fs.length < 1000/\
 D.nx σ (upd H2 a (.ins C dx (Cv f y fs)))
section
variable {X:Cx}{o e value:Expr}{f:Str}{pos pos' tpos:Pos}{ta tv:TE}
theorem WA (he:PE X e ta)(hb:attributeBase e f X.env (eval e X.env)=eval e X.env):PE X (.Attribute e f pos) (ZF X.K ta f):=by
 intro pins s σ H Q I h;refine L4 hb (thn (he pins s σ H _ I h) λu s1 z9=>?_);obtain ⟨x,H1,I1,rx,a,C,dx,fs,v,ex,ea,c,n,l,q⟩:=z9;subst ex;obtain rfl:u=Value.ref a:=rx;exact Nx I1 ea c n l λu' s2 I2 ru=>⟨v,H1,I2,ru,q⟩
theorem WJ (ha:PE X o ta)(hv:PE X value tv)(hs:swapsWith value (some (.Attribute o f pos')) pos.line X.env=pure false):PS X (.Assign [.Attribute o f pos'] value pos) (ZC X.K ta tv f):=by
 intro pins s σ H D I h;refine plainObj_wpAny_Assign_Attribute (thn (hv pins s σ H _ I h) λu s1 ⟨y,H1,I1,ry,q⟩=>thn (ha pins s1 σ H1 _ I1 q) λov s2 z9=>?_) hs;obtain ⟨x,H2,I2,rx,a,C,dx,fs,ex,ea,c,n,l,q2⟩:=z9;subst ex;obtain rfl:ov=Value.ref a:=rx;exact N0 I2 ea c n l ry λs3 I3=>⟨σ,_,I3,q2⟩
end
section
variable {X:Cx}{pins:List (Addr×Obj)}{σ:St}{H:Hp}{s:Shared}{A:Around}{E:Value->Shared->Prop}{Q:Value->Shared->Prop}{c:Value}{b:Bool}
inductive TyOf (K:PySem.W.Frag)(H:Hp):V->Value->Prop where
 | non:TyOf K H .non (.type "NoneType")
 | bl (x:Bool):TyOf K H (.bl x) (.type "bool")
 | int (i:Int):TyOf K H (.int i) (.type "int")
 | str (x:Str):TyOf K H (.str x) (.type "str")
 | flt (x:UInt64):TyOf K H (.flt x) (.type "float")
 | lst {a:Addr} {xs:List V} (e:H a=some (.lst xs)):TyOf K H (.ref a) (.type "list")
 | frz {a:Addr} {o:Obj} {xs:List V} (e:H a=some (.frz o (.lst xs))):TyOf K H (.ref a) (.type "list")
 | tup {a:Addr} {xs:List V} (e:H a=some (.tup xs)):TyOf K H (.ref a) (.type "tuple")
 | dK {a:Addr} {kvs:List (Key×V)} (e:H a=some (.dK kvs)):TyOf K H (.ref a) (.type "dict")
 | dT {a:Addr} {kvs:List (List Key×V)} (e:H a=some (.dT kvs)):TyOf K H (.ref a) (.type "dict")
 | ins {a C dx:Addr} {fs:List (Str×V)} (e:H a=some (.ins C dx fs)) (cl:Cls K C) (ha:PySem.W.findIn K (.ref C) "__class__" = some (some (.builtin "object.__class__")))
    (hn:PySem.W.specialIn K (.builtin "object.__class__") "__get__" = some (some (.builtin "getset_descriptor.__get__"))) (htk:PySem.W.takesIn K (.builtin "object.__class__")=some true)
    (hm:PySem.W.mroIn K C (.type "object")=some true):TyOf K H (.ref a) (.ref C)
end
structure Room (k:Nat)(A:Around):Prop where
 hd:A.handled=none
 dp:A.depth + 3 * k + 5 < recursionLimit
 un:A.units + 16 * k + 200 < cLine
theorem Room.mono {j k:Nat}{A:Around}(r:Room k A)(h:j<=k):Room j A:=⟨r.hd,by have:=r.dp;lia,by have:=r.un;lia⟩
theorem Room.deeper {k:Nat}{A:Around}(r:Room (k + 1) A)(env:Env):Room k (A.deeper env):=
 ⟨r.hd,by have:=r.dp;show A.depth + 1 + 3 * k + 5 < _;lia,by have:=r.un;show A.units + 3 + 16 * k + 200 < _;lia⟩
theorem NH {A:Around}:(A.under (.builtin "type.__call__" ⟨.ref C :: us,kw⟩)).depth=A.depth + 1:=by
 first | rfl | simp [Around.under,Code.weight,Code.isCreation,Code.isGuard,Code.isCaller,Code.frames,Code.isFrame,guardIds]
theorem NI {A:Around}:(A.under (.builtin "type.__call__" ⟨.ref C :: us,kw⟩)).units=A.units + 1:=by
 first | rfl | simp [Around.under,Code.cUnits,Code.frames,Code.isFrame]
theorem Room.make {k:Nat}{A:Around}(r:Room (k + 1) A)(C:Addr)(us:List Value)(kw:List (Str×Value)):Room k (A.under (.builtin "type.__call__" ⟨.ref C :: us,kw⟩)):=
 ⟨r.hd,by have:=r.dp;rw [NH];lia,by have:=r.un;rw [NI];lia⟩
theorem Room.depth {k:Nat}{A:Around}(r:Room k A):A.depth < recursionLimit:=by have:=r.dp;lia
theorem Room.units {k:Nat}{A:Around}(r:Room k A):A.units + 64 < cLine:=by have:=r.un;lia
def ZM:TA:=λ_ H Q=>Q [] H
def Yo (ta:TE)(tr:TA):TA:=λσ H Q=>ta σ H λx H1=>tr σ H1 λxs H2=>Q (x :: xs) H2
section
variable {X:Cx}{e:Expr}{es:List Expr}{te:TE}{t:TA}{pos:Pos}
theorem Pt:PA X [] ZM:=λ_ _ _ _ H Q I h=>Calls.spliced_nil ⟨[],H,I,.nil,h⟩
theorem MA (ha:PE X e te)(hr:PA X es t)(hs:starEach (e :: es) X.env=(false,eval e X.env) :: starEach es X.env:=by rfl):PA X (e :: es) (Yo te t):=by
 intro pos pins s σ H Q I h;rw [hs];show wpAny _ _ (spliced ((false,eval e X.env) :: backTo pos (starEach es X.env))) _ _ s;refine Calls.spliced_cons (thn (ha pins s σ H _ I h) λu s1 z9=>?_);obtain ⟨x,H1,I1,r1,q1⟩:=z9;exact thn (hr pos pins s1 σ H1 _ I1 q1) λus s2 ⟨xs,H2,I2,r2,q2⟩=>⟨x :: xs,H2,I2,.cons r1 r2,q2⟩
def ZR (t:TA):TE:=λσ H Q=>t σ H λxs H1=>xs.length<=sizeLine/\∀p,H1 p=none->Q (.ref p) (upd H1 p (.tup xs))
def ZK (t:TA):TE:=λσ H Q=>t σ H λxs H1=>xs.length<=sizeLine/\∀p,H1 p=none->Q (.ref p) (upd H1 p (.lst xs))
theorem WG {x1}(h:PA X es t):PE X (.Tuple es x1 pos) (ZR t):=by
 intro pins s σ H Q I hq;refine wpAny_Tuple_spliced (thn (h pos pins s σ H _ I hq) λus s1 z9=>?_);obtain ⟨xs,H1,I1,r,z,q⟩:=z9;refine ⟨by rw [<-r.length];exact z,?_⟩;have hf:H1 s1.heap.objs.size=none:=I1.hok.fresh (Nat.le_refl _);refine ⟨.ref s1.heap.objs.size,upd H1 s1.heap.objs.size (.tup xs),I1.laid (t':=s1.toks) (λb u e=>Heap.get?_push_of_some _ e) (Nat.le_refl _) ?_,rfl,q _ hf⟩;exact ⟨z,us,r,⟨_,Heap.get?_push_size _ rfl,rfl,_,rfl⟩⟩
theorem WC (h:PA X es t):PE X (.List es pos) (ZK t):=by
 intro pins s σ H Q I hq;refine wpAny_List_spliced (thn (h pos pins s σ H _ I hq) λus s1 z9=>?_);obtain ⟨xs,H1,I1,r,z,q⟩:=z9;refine ⟨by rw [<-r.length];exact z,?_⟩;have hf:H1 s1.heap.objs.size=none:=I1.hok.fresh (Nat.le_refl _);refine ⟨.ref s1.heap.objs.size,upd H1 s1.heap.objs.size (.lst xs),I1.laid (t':=s1.toks) (λb u e=>Heap.get?_push_of_some _ e) (Nat.le_refl _) ?_,rfl,q _ hf⟩;exact ⟨z,us,0,r,Heap.get?_push_size _ rfl⟩
end
abbrev Sp:=List V->Hp->VK->XK->Prop
abbrev CXT:=List Env->Hp->Shared->XK->Value->Shared->Prop
structure Env0 (P:Program)(w:World)(K:PySem.W.Frag)(mg:Str->Option Value)(base:Heap)(A:Around)(outer:List Env)(s:Shared)(H:Hp):Prop where
 frames:A.frames=some outer
 mod:Mod K mg base
 bs:∀b o,base.get? b=some o->s.heap.get? b=some o/\H b=none
 bsz:base.objs.size<=s.heap.objs.size
 funs:s.heap.FunFrames base outer
 frf:∀b∈frs outer,H b=none
 hok:HOk P w H s.heap
 bare:AllBare s.gens
def CE (outer:List Env)(P:Program)(w:World)(H:Hp)(s:Shared)(Q:VK)(u:Value)(s':Shared):Prop:=
 ∃v H',s'.os=s.os/\AllBare s'.gens/\Un (frs outer) [] H H' s.heap s'.heap/\HOk P w H' s'.heap/\RelV v u/\Q v H'
def CR (CX:CXT)(outer:List Env)(P:Program)(w:World)(H:Hp)(s:Shared)(Q:VK)(E:XK)(r:Result)(s':Shared):Prop:=
 match r with
 | .ok (.ret u)=>CE outer P w H s Q u s'
 | .ok _=>False
 | .error e=>CX outer H s E e s'
structure FnOk (P:Program)(w:World)(K:PySem.W.Frag)(mg:Str->Option Value)(base:Heap)(CX:CXT)(k:Nat)(f:Addr)(fd:FuncData)(ps:List Str)(sp:Sp):Prop where
 len:∀vs H Q E,sp vs H Q E->vs.length=ps.length
 run:∀(A:Around) (outer:List Env) (s:Shared) (H:Hp) (args:Args) (us:List Value) (vs:List V) (Q:VK) (E:XK),Room k A->Env0 P w K mg base A outer s H->BindsTo s fd args (ps.zip us)->Vals vs us->sp vs H Q E->
  codeAny (model P w) A (.call (.ref f) args) (CR CX outer P w H s Q E) s
theorem FnOk.mono {P:Program}{w:World}{K:PySem.W.Frag}{mg:Str->Option Value}{base:Heap}{CX:CXT}{j k:Nat}{f:Addr}{fd:FuncData}{ps:List Str}{sp:Sp}(F:FnOk P w K mg base CX j f fd ps sp)(h:j<=k) :
 FnOk P w K mg base CX k f fd ps sp:=⟨F.len,λA outer s H args us vs Q E hr=>F.run A outer s H args us vs Q E (hr.mono h)⟩
variable {mg:Str->Option Value}{base:Heap}
theorem Env0.make {A:Around}{outer:List Env}(e:Env0 P w K mg base A outer s H)(C:Addr)(us:List Value)(kw:List (Str×Value)) :
 Env0 P w K mg base (A.under (.builtin "type.__call__" ⟨.ref C :: us,kw⟩)) outer s H:=⟨by first | exact e.frames | (simpa [Around.under,Code.envs,Code.isFrame,pushEnvs] using e.frames),e.mod,e.bs,e.bsz,e.funs,e.frf,e.hok,e.bare⟩
section
variable {X:Cx}{pins:List (Addr×Obj)}{σ:St}{H:Hp}{s s':Shared}
theorem Inv.env0 (I:Inv X pins σ H s):Env0 X.prog X.w X.K X.mg X.base X.A X.stack s H:=
 ⟨I.ok.frames,I.ok.mod,I.bs,Nat.le_trans I.ok.bsz I.sz,I.stack,I.stkFree,I.hok,I.bare⟩
theorem Inv.after {Q:VK}(I:Inv X pins σ H s)(h:CE X.stack X.prog X.w H s Q u s'):EP X pins σ Q u s':=by
 obtain ⟨v,H',os,bare,un,hok,r,q⟩:=h;obtain ⟨hh,g,d,t,os'⟩:=s';obtain rfl:os'=s.os:=os;exact ⟨v,H',I.call (h':=hh) (g':=g) (d':=d) (t':=t) (ch:=[]) un hok bare (λb z=>absurd z (by simp)),r,q⟩
end
def Yn (sp:Sp)(dvs:List V)(E:XK)(t:TA):TE:=λσ H Q=>t σ H λvs H1=>sp (vs++dvs) H1 Q E
def Yr (C:Addr)(m:Str)(sp:Sp)(dvs:List V)(E:XK)(ta:TE)(t:TA):TE:=λσ H Q=>ta σ H λx H1=>∃a dx fs,x = .ref a/\H1 a=some (.ins C dx fs)/\fs.lookup m=none/\
 t σ H1 λvs H2=>sp (x :: (vs++dvs)) H2 Q E
def Yq (C:Addr)(sp:Sp)(dvs:List V)(E:XK)(t:TA):TE:=λσ H Q=>t σ H λvs H1=>∀x dx,H1 x=none->H1 dx=none->dx≠x->
 sp (.ref x :: (vs++dvs)) (upd (upd H1 dx (.own x)) x (.ins C dx [])) (λv H2=>v = .non/\Q (.ref x) H2) E
def Binds (K:PySem.W.Frag)(fd:FuncData)(ps:List Str)(ds:List Value):Prop:=
 ∀(s:Shared) (us:List Value),K.In s.heap->(us++ds).length=ps.length->BindsTo s fd ⟨us,[]⟩ (ps.zip (us++ds))
theorem Binds.all {fd:FuncData}{ps:List Str}(h:∀us:List Value,us.length=ps.length->bindArgs fd ⟨us,[]⟩=pure (ps.zip us)):Binds K fd ps []:=λs us _ hl=>by
 rw [List.append_nil] at hl ⊢;exact .of_eq (h us hl)
def Ft (CX:CXT)(X:Cx)(E:XK):Prop:=∀(pins:List (Addr×Obj)) (σ:St) (H:Hp) (s:Shared) (e:Value) (s':Shared),Inv X pins σ H s->CX X.stack H s E e s'->X.xe e s'
variable {vs:List V}
section
variable {X:Cx}{CX:CXT}{k:Nat}{f C:Addr}{fd:FuncData}{ps:List Str}{sp:Sp}{dvs:List V}{ds:List Value}{E:XK}{x m:Str}{p pos apos:Pos}{e o:Expr}{es:List Expr}{ta:TE}{t:TA}
theorem PN {Q:VK}(F:FnOk X.prog X.w X.K X.mg X.base CX k f fd ps sp)(hr:Room k X.A)(hb:Binds X.K fd ps ds)(hd:Vals dvs ds)(hx:Ft CX X E)
 (I:Inv X pins σ H s) (r:Vals vs us) (h:sp (vs++dvs) H Q E):wpAny (model X.prog X.w) X.A (call (.ref f) us) (EP X pins σ Q) X.xe s:=by
 have r2:Vals (vs++dvs) (us++ds):=r.append hd;have hl:(us++ds).length=ps.length:=by rw [<-r2.length];exact F.len _ _ _ _ h
 refine wpAny_call (codeAny_mono (F.run X.A X.stack s H ⟨us,[]⟩ (us++ds) (vs++dvs) Q E hr I.env0 (hb s us I.kIn hl) r2 h) λr s' hq=>?_)
 cases r with
 | error e=>exact hx pins σ H s e s' I hq
 | ok fl=>
   cases fl with
   | ret u=>exact I.after hq
   | next=>exact False.elim hq
   | brk=>exact False.elim hq
   | cont=>exact False.elim hq
theorem Ug (F:FnOk X.prog X.w X.K X.mg X.base CX k f fd ps sp)(hr:Room k X.A)(hg:Gl X x)(hm:X.mg x=some (.ref f))(hk:PySem.W.keepIn X.K (.ref f)=true)(hb:Binds X.K fd ps ds)(hd:Vals dvs ds)(hx:Ft CX X E)
 (ha:PA X (e :: es) t) (hdb:(x == ("__debug__" : Str))=false:=by decide) (he:starEach (e :: es) X.env=(false,eval e X.env) :: starEach es X.env:=by rfl) (hpl:(backTo pos (starEach es X.env)).any (·.1)=false:=by rfl) :
 PE X (.Call (.Name x p) (e :: es) [] pos) (Yn sp dvs E t):=by
 intro pins s σ H Q I h;refine wpAny_Call_Name_kw (CI I hg hm ?_ hdb);refine PySem.W.callWith_K (h₀:=X.base) I.ok.mod.kin hk (thn (ha pos pins s σ H _ I h) λus s1 z9=>?_) he hpl;obtain ⟨vs,H1,I1,r,q⟩:=z9;refine ⟨I1.kIn,?_⟩;exact PN F hr hb hd hx I1 r q
theorem Uk (he:PE X o ta)(c:Cls X.K C)(hm:Meth X.K C m f)(F:FnOk X.prog X.w X.K X.mg X.base CX k f fd ps sp)(hr:Room k X.A)(hb:Binds X.K fd ps ds)(hd:Vals dvs ds)(hx:Ft CX X E)(ha:PA X (e :: es) t)
 (hst:starEach (e :: es) X.env=(false,eval e X.env) :: starEach es X.env:=by rfl) (hpl:(backTo pos (starEach es X.env)).any (·.1)=false:=by rfl)
 (ht:eval (.Call (.Attribute o m apos) (e :: es) [] pos) X.env=(do
   let ov <-eval o X.env
   standAt apos.atName
   let (f,first) <-holding [ov] (getMethod ov m pl)
   callWith pos f first (backTo pos (starEach (e :: es) X.env)) (backToKw pos (keywordEach [] X.env))):=by rfl) :
 PE X (.Call (.Attribute o m apos) (e :: es) [] pos) (Yr C m sp dvs E ta t):=by
 intro pins s σ H Q I h;refine PySem.W.methodCall_KW (pl:=pl) (thn (he pins s σ H _ I h) λu s1 z9=>?_) ht;obtain ⟨x,H1,I1,rx,a,dx,fs,ex,ea,l,q⟩:=z9;subst ex;obtain rfl:u=Value.ref a:=rx;refine Iq I1 ea c hm l ?_;refine PySem.W.callWith_K (first:=[.ref a]) (h₀:=X.base) I.ok.mod.kin hm.kp (thn (ha pos pins s1 σ H1 _ I1 q) λus s2 z9=>?_) hst hpl;obtain ⟨vs,H2,I2,r,q2⟩:=z9;refine ⟨I2.kIn,?_⟩;exact PN (us:=.ref a :: us) (vs:=.ref a :: vs) F hr hb hd hx I2 (.cons rfl r) q2
structure Mk (K:PySem.W.Frag)(C f:Addr):Prop where
 makes:PySem.W.makesIn K C=true
 init:PySem.W.findIn K (.ref C) "__init__" = some (some (.ref f))
 fn:PySem.W.isFn K (.ref f)=true
 kp:PySem.W.keepIn K (.ref C)=true
theorem RC {Q:VK}(M:Mk X.K C f)(F:FnOk X.prog X.w X.K X.mg X.base CX k f fd ps sp)(hr:Room (k + 1) X.A)(hb:Binds X.K fd ps ds)(hd:Vals dvs ds)
 (hx:Ft CX X E) (I:Inv X pins σ H s) (r:Vals vs us)
 (h:∀x dx,H x=none->H dx=none->dx≠x->sp (.ref x :: (vs++dvs)) (upd (upd H dx (.own x)) x (.ins C dx [])) (λv H2=>v = .non/\Q (.ref x) H2) E) :
 wpAny (model X.prog X.w) X.A (call (.ref C) us) (EP X pins σ Q) X.xe s:=by
 have hq:=h (s.heap.objs.size + 1) s.heap.objs.size (I.hok.fresh (Nat.le_succ _)) (I.hok.fresh (Nat.le_refl _)) (Nat.ne_of_lt (Nat.lt_succ_self _));have I2:=Inv.made (C:=C) I;have r2:Vals (V.ref (s.heap.objs.size + 1) :: (vs++dvs)) (Value.ref (s.heap.objs.size + 1) :: (us++ds)):=.cons rfl (r.append hd);have hl:(Value.ref (s.heap.objs.size + 1) :: us++ds).length=ps.length:=by
  have e:=r2.length;rw [F.len _ _ _ _ hq] at e;exact e.symm
 refine wpAny_call (Q6 (f:=f) I.kIn M.makes M.init (beq_iff_eq.mp M.fn) (codeAny_mono (F.run _ X.stack _ _ ⟨Value.ref (s.heap.objs.size + 1) :: us,[]⟩ (Value.ref (s.heap.objs.size + 1) :: (us++ds)) _ _ E (hr.make C us [])
  (I2.env0.make C us []) (hb _ (Value.ref (s.heap.objs.size + 1) :: us) I2.kIn hl) r2 hq) λr s' hq'=>?_))
 cases r with
 | error e=>exact hx pins σ _ _ e s' I2 hq'
 | ok fl=>
   cases fl with
   | ret u=>
     obtain ⟨v,H',I3,rv,ev,q3⟩:=I2.after hq';subst ev;exact ⟨rv,⟨V.ref (s.heap.objs.size + 1),H',I3,rfl,q3⟩⟩
   | next=>exact False.elim hq'
   | brk=>exact False.elim hq'
   | cont=>exact False.elim hq'
theorem Uj (M:Mk X.K C f)(F:FnOk X.prog X.w X.K X.mg X.base CX k f fd ps sp)(hr:Room (k + 1) X.A)(hg:Gl X x)(hm:X.mg x=some (.ref C))(hb:Binds X.K fd ps ds)(hd:Vals dvs ds)(hx:Ft CX X E)
 (ha:PA X (e :: es) t) (hdb:(x == ("__debug__" : Str))=false:=by decide) (he:starEach (e :: es) X.env=(false,eval e X.env) :: starEach es X.env:=by rfl) (hpl:(backTo pos (starEach es X.env)).any (·.1)=false:=by rfl) :
 PE X (.Call (.Name x p) (e :: es) [] pos) (Yq C sp dvs E t):=by
 intro pins s σ H Q I h;refine wpAny_Call_Name_kw (CI I hg hm ?_ hdb);refine PySem.W.callWith_K (h₀:=X.base) I.ok.mod.kin M.kp (thn (ha pos pins s σ H _ I h) λus s1 z9=>?_) he hpl;obtain ⟨vs,H1,I1,r,q⟩:=z9;refine ⟨I1.kIn,?_⟩;exact RC M F hr hb hd hx I1 r q
end
section
variable {X:Cx}{CX:CXT}{k:Nat}{f C:Addr}{fd:FuncData}{ps ks:List Str}{sp:Sp}{E:XK}{x m:Str}{p pos apos kpos:Pos}{e o:Expr}{es:List Expr}{kws:List Keyword}{te ta:TE}{t tk:TA}{nm:Option Str}
structure KBinds (K:PySem.W.Frag)(fd:FuncData)(ps ks:List Str)(g:List Value->List Value->List Value)(gV:List V->List V->List V):Prop where
 to:∀(s:Shared) (us ws:List Value),K.In s.heap->(g us ws).length=ps.length->BindsTo s fd ⟨us,ks.zip ws⟩ (ps.zip (g us ws))
 rel:∀{vs:List V} {us:List Value} {zs:List V} {ws:List Value},Vals vs us->Vals zs ws->Vals (gV vs zs) (g us ws)
variable {g:List Value->List Value->List Value}{gV:List V->List V->List V}
end
structure FnScope (N P:List Str)(sc:Scope):Prop where
 kind:sc.kind = .function
 co:sc.isCoroutine=false
 gen:sc.isGenerator=false
 nd:N.Nodup
 pre:N.take P.length=P
 par:∀x∈P,sc.names.lookup x=some .local\/sc.names.lookup x=some .cell
 nofree:∀y∈sc.names,y.2≠.free
theorem Jy {kindOf:Str->Option NameKind}{x:Str}:∀{binds:List (Str×Value)} {m:Str->Option Value},(∀v,(x,v)∉binds)->bindL kindOf binds m x=m x
 | [],_,_=>rfl
 | (n,v) :: r,m,h=>by
   unfold bindL;rw [Jy λw hw=>h w (List.mem_cons_of_mem _ hw)]
   split
   ·have:x≠n:=by rintro rfl;exact h v List.mem_cons_self
    simp [this]
   ·rfl
theorem Jw {kindOf:Str->Option NameKind}{x:Str}:∀{binds:List (Str×Value)} {m:Str->Option Value},(∀v,(x,v)∉binds)->bindC kindOf binds m x=m x
 | [],_,_=>rfl
 | (n,v) :: r,m,h=>by
   unfold bindC;rw [Jw λw hw=>h w (List.mem_cons_of_mem _ hw)]
   split
   ·rfl
   ·have:x≠n:=by rintro rfl;exact h v List.mem_cons_self
    simp [this]
theorem Jx {kindOf:Str->Option NameKind}{x:Str}{v:Value}:∀{P:List Str} {vs:List Value} {i:Nat} {m:Str->Option Value},P.Nodup->P[i]?=some x->vs[i]?=some v->kindOf x=some .local->
 bindL kindOf (P.zip vs) m x=some v
 | [],_,_,_,_,h,_,_=>by simp at h
 | _ :: _,[],_,_,_,_,h,_=>by simp at h
 | p :: P,w :: vs,0,m,nd,h1,h2,hk=>by
   simp at h1 h2;subst h1;subst h2;show bindL kindOf ((p,w) :: P.zip vs) m p=_;unfold bindL;rw [Jy λv hv=>(List.nodup_cons.mp nd).1 (List.of_mem_zip hv).1,if_pos hk];simp
 | p :: P,w :: vs,i + 1,m,nd,h1,h2,hk=>by
   show bindL kindOf ((p,w) :: P.zip vs) m x=_;unfold bindL;exact Jx (i:=i) (List.nodup_cons.mp nd).2 (by simpa using h1) (by simpa using h2) hk
theorem Jv {kindOf:Str->Option NameKind}{x:Str}{v:Value}:∀{P:List Str} {vs:List Value} {i:Nat} {m:Str->Option Value},P.Nodup->P[i]?=some x->vs[i]?=some v->kindOf x≠some .local->
 bindC kindOf (P.zip vs) m x=some v
 | [],_,_,_,_,h,_,_=>by simp at h
 | _ :: _,[],_,_,_,_,h,_=>by simp at h
 | p :: P,w :: vs,0,m,nd,h1,h2,hk=>by
   simp at h1 h2;subst h1;subst h2;show bindC kindOf ((p,w) :: P.zip vs) m p=_;unfold bindC;rw [Jw λv hv=>(List.nodup_cons.mp nd).1 (List.of_mem_zip hv).1,if_neg hk];simp
 | p :: P,w :: vs,i + 1,m,nd,h1,h2,hk=>by
   show bindC kindOf ((p,w) :: P.zip vs) m x=_;unfold bindC;exact Jv (i:=i) (List.nodup_cons.mp nd).2 (by simpa using h1) (by simpa using h2) hk
noncomputable def start (N:List Str)(vs:List V):St:=vs.map some++List.replicate (N.length - vs.length) none
noncomputable def Dh (CX:CXT)(P:Program)(w:World)(K:PySem.W.Frag)(mg:Str->Option Value)(base:Heap)(N:List Str)(qual:Str)(scope:Scope)(f:Addr)(cd:Value)(A:Around)(outer:List Env)(s:Shared)(H:Hp)(E:XK):Cx where
 prog:=P
 w:=w
 K:=K
 mg:=mg
 base:=base
 A:=A.deeper (envOfC qual scope s.heap.objs.size f cd)
 N:=N
 s₀:=s
 H₀:=H
 env:=envOfC qual scope s.heap.objs.size f cd
 outer:=outer
 stack:=envOfC qual scope s.heap.objs.size f cd :: outer
 ex:=[]
 calm:=true
 fn:=λ_=>true
 pn:=[]
 xe:=λe s'=>wpAny (model P w) (A.deeper (envOfC qual scope s.heap.objs.size f cd)) (leaving (envOfC qual scope s.heap.objs.size f cd) e) (λ_ s''=>CX outer H s E e s'') (λe' s''=>CX outer H s E e' s'') s'
theorem Kx {sc:Scope}{n:Nat}(h:sc.names.lookup x=some .cell):∃c,(cellsFrom n sc.names []).lookup x=some c:=by
 have q:=PySem.W.cellsFrom_some sc.names n [] (.inl h);exact Option.isSome_iff_exists.mp q
theorem JI {CX:CXT}{N ps:List Str}{qual:Str}{scope:Scope}{f:Addr}{cd:Value}{A:Around}{outer:List Env}{s1:Shared}{E:XK}
 (S:FnScope N ps scope) (hd:A.handled=none) (e0:Env0 P w K mg base A outer s H) (hl:vs.length=ps.length) (r:Vals vs us)
 (x:InCallC s s.heap.objs.size (bindL (envOfC qual scope s.heap.objs.size f cd).kindOf (ps.zip us) λ_=>none) (cellsFrom (s.heap.objs.size + 1) scope.names []) (bindC (envOfC qual scope s.heap.objs.size f cd).kindOf (ps.zip us) λ_=>none) s1) :
 Inv (Dh CX P w K mg base N qual scope f cd A outer s H E) [] (start N vs) H s1:=by
 have hpl:ps.length<=N.length:=by have:=congrArg List.length S.pre;rw [List.length_take] at this;lia
 obtain ⟨h1,tk,rfl,hk⟩:=x.done;have noA:∀b:Addr,b∉(Dh CX P w K mg base N qual scope f cd A outer s H E).ex:=λb z=>absurd (show b∈([]:List Addr) from z) (by simp);refine ⟨⟨e0.mod,S.kind,rfl,rfl,Nat.le_refl _,λy z c h1 h2=>?_,λy hy=>?_,λy c _ h=>?_,λ_=>hd,Around.frames_deeper e0.frames,.inr ⟨rfl,rfl⟩,λb z=>absurd z (noA b),e0.bs,e0.bsz,λb _ _=>noA b,λb z=>absurd z (noA b),e0.funs,e0.frf⟩,
  rfl,e0.bare,Un.kept hk,⟨_,x.toInCall.ns,λi y v h1 h2 h3=>?_⟩,λy c h=>⟨_,x.cell y c h⟩,e0.hok.fresh (Nat.le_refl _),λy c h=>?_,λp hp=>absurd (show p∈([]:List (Addr×Obj)) from hp) (by simp),e0.hok.kept hk,?_⟩
 ·exact name_of_addr x.apart (PySem.mem_of_lookup h1) (PySem.mem_of_lookup h2)
 ·have hy:scope.names.lookup y=some .cell\/scope.names.lookup y=some .free:=hy;rcases hy with hy | hy
  ·exact Kx hy
  ·exact absurd rfl (S.nofree _ (PySem.mem_of_lookup hy))
 ·exact Nat.le_of_lt (x.above y c (PySem.mem_of_lookup h))
 ·have hi:i < vs.length:=by
   unfold start at h2
   by_cases hi:i < vs.length
   ·exact hi
   ·rw [List.getElem?_append_right (by simpa using hi)] at h2;rw [List.getElem?_replicate] at h2
    split at h2 <;> cases h2
  have ha:vs[i]?=some v:=by
   unfold start at h2;rw [List.getElem?_append_left (by simpa using hi),List.getElem?_map] at h2
   cases e:vs[i]? with
   | none=>rw [e] at h2;cases h2
   | some a=>rw [e] at h2;cases h2;rfl
  obtain ⟨u,hu,rv⟩:=r.get ha;have hp:ps[i]?=some y:=by
   rw [<-S.pre,List.getElem?_take_of_lt (by lia)];exact h1
  have ndP:ps.Nodup:=by rw [<-S.pre];exact S.nd.sublist (List.take_sublist _ _)
  refine ⟨u,rv,?_⟩;rcases S.par y (List.mem_of_getElem? hp) with k | k
  ·exact .inl ⟨k,Jx ndP hp hu k⟩
  ·obtain ⟨c,e⟩:=Kx (n:=s.heap.objs.size + 1) k;refine .inr ⟨.inl k,c,e,?_⟩;have q:=x.cell y c e;rw [Jv ndP hp hu (by show scope.names.lookup y≠_;rw [k];decide)] at q;exact q
 ·exact e0.hok.fresh (Nat.le_of_lt (x.above y c (PySem.mem_of_lookup h)))
 ·unfold start;show _=N.length;rw [List.length_append,List.length_map,List.length_replicate];lia
theorem Sn {CX:CXT}{k:Nat}{f:Addr}{name qual:Str}{params:Arguments}{body:List Stmt}{scope:Scope}{dV kV doc pm cdv ct oc:Value}{an od:Option Addr}
 {osl:Array (Option Value)} {N ps:List Str} {sp:Sp} (lk:K.lookup f=some ⟨oc,od,.func (PySem.W.fnOf name qual params body scope dV kV doc pm an cdv ct),osl⟩) (hcd:PySem.W.codeIn K cdv qual=true) (S:FnScope N ps scope)
 (len:∀vs H Q E,sp vs H Q E->vs.length=ps.length)
 (hbody:∀(A:Around) (outer:List Env) (s:Shared) (H:Hp) (vs:List V) (Q:VK) (E:XK),Room k (A.deeper (envOfC qual scope s.heap.objs.size f cdv))->sp vs H Q E->
   ∃t,PSs (Dh CX P w K mg base N qual scope f cdv A outer s H E) body t/\t { nx:=λ_ H'=>Q .non H',rt:=Q } (start N vs) H) :
 FnOk P w K mg base CX (k + 1) f (PySem.W.fnOf name qual params body scope dV kV doc pm an cdv ct) ps sp:=by
 refine ⟨len,λA outer s H args us vs Q E hr e0 hb r hsp=>?_⟩;have hl:=len _ _ _ _ hsp;have KX:K.In s.heap:=e0.mod.kin.keeps λb o e=>(e0.bs b o e).1;have lim:s.heap.NoLimit:=e0.mod.nolimit.keeps λb o e=>(e0.bs b o e).1;have hkind:∀y∈ps.zip us,scope.names.lookup y.1=some .local\/(scope.names.lookup y.1=some .cell/\((cellsFrom (s.heap.objs.size + 1) scope.names []).lookup y.1).isSome=true):=λz9 hy=>by
  obtain ⟨n,v⟩:=z9;rcases S.par n (List.of_mem_zip hy).1 with q | q
  ·exact .inl q
  ·exact .inr ⟨q,PySem.W.cellsFrom_some _ _ _ (.inl q)⟩
 refine codeAny_call_function hr.depth (KX _ _ lk) rfl S.co S.gen rfl (PySem.W.codeRec_of KX hcd) (hb _ _ _ _ ?_);refine wpAny_newFunctionEnv_cells S.kind hkind λenv he s1 x=>?_;subst he;refine ⟨lim.keeps x.toInCall.keep,codeAny_func ?_⟩;obtain ⟨t,ht,hq⟩:=hbody A outer s H vs Q E (hr.deeper _) hsp;have I:Inv (Dh CX P w K mg base N qual scope f cdv A outer s H E) [] (start N vs) H s1:=JI S hr.hd e0 hl r x;refine wpAny_mono (ht [] s1 (start N vs) H _ I hq) (λfl s' hs=>?_) λe s' hs=>hs;have fin:∀{σ':St} {H':Hp} {v:V} {u:Value},Inv (Dh CX P w K mg base N qual scope f cdv A outer s H E) [] σ' H' s'->RelV v u->Q v H'->CE outer P w H s Q u s':=
  λ{σ' H' v u} J rv q=>⟨v,H',J.os,J.bare,J.base,J.hok,rv,q⟩
 cases fl with
 | ret u=>
   obtain ⟨v,σ',H',J,rv,q⟩:=hs;exact fin J rv q
 | next=>
   obtain ⟨σ',H',J,q⟩:=hs;exact fin (v:=V.non) (u:=Value.none) J rfl q
 | brk=>
   obtain ⟨_,_,_,q⟩:=hs;exact False.elim q
 | cont=>
   obtain ⟨_,_,_,q⟩:=hs;exact False.elim q
section
variable {X:Cx}{x:Str}{p pos:Pos}{e:Expr}{es:List Expr}{t:TA}{id T:String}{r:List V->Hp->VK->Prop}
def tCB (r:List V->Hp->VK->Prop)(t:TA):TE:=λσ H Q=>t σ H λvs H1=>r vs H1 Q
theorem Lc (hc:Cn X (.builtin id) r)(hg:Gl X x)(hm:X.mg x=none)(hv:bootBuiltins x=some (.builtin id))(ha:PA X (e :: es) t)(hn:x≠"__name__":=by decide)(hdb:(x == ("__debug__" : Str))=false:=by decide)
 (he:starEach (e :: es) X.env=(false,eval e X.env) :: starEach es X.env:=by rfl) (hpl:(backTo pos (starEach es X.env)).any (·.1)=false:=by rfl):PE X (.Call (.Name x p) (e :: es) [] pos) (tCB r t):=by
 intro pins s σ H Q I h;refine wpAny_Call_Name_kw (Ix I hg hm hv ?_ hn hdb);exact PyProof.Rows.callWith_builtin1 (thn (ha pos pins s σ H _ I h) λus s1 z9=>by obtain ⟨vs,H1,I1,r1,q1⟩:=z9;exact hc pins s1 σ H1 vs us Q I1 r1 q1) he hpl
theorem JM (hc:Cn X (.type T) r)(hg:Gl X x)(hm:X.mg x=none)(hv:bootBuiltins x=some (.type T))(ha:PA X (e :: es) t)(hn:x≠"__name__":=by decide)(hdb:(x == ("__debug__" : Str))=false:=by decide)
 (he:starEach (e :: es) X.env=(false,eval e X.env) :: starEach es X.env:=by rfl) (hpl:(backTo pos (starEach es X.env)).any (·.1)=false:=by rfl):PE X (.Call (.Name x p) (e :: es) [] pos) (tCB r t):=by
 intro pins s σ H Q I h;refine wpAny_Call_Name_kw (Ix I hg hm hv ?_ hn hdb);exact PyProof.Rows.callWith_type1 (thn (ha pos pins s σ H _ I h) λus s1 z9=>by obtain ⟨vs,H1,I1,r1,q1⟩:=z9;exact hc pins s1 σ H1 vs us Q I1 r1 q1) he hpl
end
end L2
namespace HT
open PySem PyProof.Rows
section
open PySem.SeqAt
open PySem.AutoSeq1 (wpAny_loadPart')
open PySem.MeetsSeq PySem.MeetsSeq2 PySem.MeetsSeq3
end
section
variable {prog:Program}{w:World}{A:Around}{E:Value->Shared->Prop}{s:Shared}
noncomputable def sIx (n d:Nat):Option Int->Nat
 | none=>d
 | some v=>if v < 0 then (v + (n:Int)).toNat else min v.toNat n
theorem W5 (n d:Nat)(hd:d<=n)(o:Option Int):sIx n d o<=n:=by
 cases o with
 | none=>exact hd
 | some v=>
   show (if v < 0 then (v + (n:Int)).toNat else min v.toNat n)<=n
   by_cases hv:v < 0
   ·rw [if_pos hv];lia
   ·rw [if_neg hv];exact Nat.min_le_right _ _
theorem L7 (v:Int)(n d:Nat):(if v < 0 then max (v + (n:Int)) 0 else min v (n:Int))=((sIx n d (some v):Nat):Int):=by
 show (if v < 0 then max (v + (n:Int)) 0 else min v (n:Int))=(((if v < 0 then (v + (n:Int)).toNat else min v.toNat n):Nat):Int)
 by_cases hv:v < 0
 ·simp only [if_pos hv];lia
 ·simp only [if_neg hv];lia
theorem Na (lo hi:Option Int)(n:Nat):Builtin.Slice.sliceAdjust lo hi 1 (n:Int)=(((sIx n 0 lo:Nat):Int),((sIx n n hi:Nat):Int)):=by
 have h1:¬((1:Int) < 0):=by lia
 unfold Builtin.Slice.sliceAdjust;simp only [h1,if_false];refine Prod.ext ?_ ?_
 ·cases lo with
  | none=>rfl
  | some v=>exact L7 v n 0
 ·cases hi with
  | none=>rfl
  | some v=>exact L7 v n n
theorem NU (i j:Nat):Builtin.Slice.slicePlaces (i:Int) (j:Int) 1=j - i:=by
 unfold Builtin.Slice.slicePlaces;have h1:(1:Int) > 0:=by lia
 simp only [h1,if_true,Int.ediv_one]
 split <;> lia
theorem IH {v:Value}{o:Option Int}{Q:Option Int->Shared->Prop}(p:IsPart v o)(h:Q o s):wpAny (model prog w) A (Builtin.Slice.slicePartIndex v) Q E s:=by
 cases p with
 | none=>exact slicePart_none h
 | int i t=>exact slicePart_int h
theorem E7 {sl:Addr}{vl vu:Value}{lo hi:Option Int}{n:Nat}{Q:Int×Int×Nat->Shared->Prop}(hs:s.heap.IsSliceOf sl vl vu .none)(pl:IsPart vl lo)(pu:IsPart vu hi)
 (h:Q (((sIx n 0 lo:Nat):Int),1,sIx n n hi - sIx n 0 lo) s):wpAny (model prog w) A (Builtin.Slice.sliceApplied (.ref sl) (pure (n:Int))) Q E s:=by
 obtain ⟨os,hos,hcs,hds⟩:=id hs;unfold Builtin.Slice.sliceApplied Builtin.Slice.sliceFields;refine wpAny_bind (wpAny_bind (wpAny_field hos hds (x:=vl) rfl (wpAny_bind (wpAny_field hos hds (x:=vu) rfl (wpAny_bind (wpAny_field hos hds (x:=.none) rfl (wpAny_pure ?_)))))));refine wpAny_bind (slicePart_none ?_);show wpAny _ _ (if ((1:Int) == 0)=true then _ else _) _ _ s;rw [if_neg (by decide)];refine wpAny_bind (IH pl (wpAny_bind (IH pu (wpAny_bind (wpAny_pure ?_)))));show wpAny _ _ (match Builtin.Slice.sliceAdjust lo hi 1 (n:Int) with | (lo,hi)=>pure (lo,(1:Int),Builtin.Slice.slicePlaces lo hi 1)) _ _ s;rw [Na lo hi n];show wpAny _ _ (pure (((sIx n 0 lo:Nat):Int),(1:Int),Builtin.Slice.slicePlaces ((sIx n 0 lo:Nat):Int) ((sIx n n hi:Nat):Int) 1)) _ _ s;rw [NU];exact wpAny_pure h
theorem Rm (xs:Array Value)(i k:Nat):((List.range k).filterMap λ(m:Nat)=>xs[((i:Int) + (m:Int) * 1).toNat]?).toArray=((xs.toList.drop i).take k).toArray:=by
 have e:(λ(m:Nat)=>xs[((i:Int) + (m:Int) * 1).toNat]?)=λm=>xs[i + m]?:=by
  funext m
  have:((i:Int) + (m:Int) * 1).toNat=i + m:=by lia
  rw [this]
 rw [e];have:=pick_run xs i k;rw [List.filterMap_map] at this;have e2:((λx=>xs[x]?) ∘ λx=>i + x)=λm=>xs[i + m]?:=rfl;rw [e2] at this;rw [this]
theorem Hc {t sl:Addr}{items:Array Value}{vl vu:Value}{lo hi:Option Int}{Q:Value->Shared->Prop}(ht:IsTup s.heap t items)(hs:s.heap.IsSliceOf sl vl vu .none)(pl:IsPart vl lo)(pu:IsPart vu hi)
 (hw:¬(sIx items.size 0 lo=0/\sIx items.size items.size hi=items.size))
 (h:Q (.ref s.heap.objs.size) { s with heap:=s.heap.push { cls:=.type "tuple",data:=.seq ((items.toList.drop (sIx items.size 0 lo)).take (sIx items.size items.size hi - sIx items.size 0 lo)).toArray } })
 (hsz:items.size<=sizeLine):wpAny (model prog w) A (getItem (.ref t) (.ref sl)) Q E s:=by
 have htake:sizeOk (.seq ((items.toList.drop (sIx items.size 0 lo)).take (sIx items.size items.size hi - sIx items.size 0 lo)).toArray):=by
  show ((items.toList.drop (sIx items.size 0 lo)).take (sIx items.size items.size hi - sIx items.size 0 lo)).toArray.size<=sizeLine;rw [List.size_toArray,List.length_take,List.length_drop,Array.length_toList];lia
 have hj:sIx items.size items.size hi<=items.size:=W5 _ _ (Nat.le_refl _) hi;obtain ⟨os,hos,hcs,hds⟩:=id hs;have hTs:s.TypeIs (.ref sl) "slice":=⟨os,hos,hcs⟩;unfold getItem
 try with_reducible refine wpAny_holding ?_
 first | refine wpAny_bind (wpAny_pure ?_) | skip
 refine wpAny_bind (wpAny_sequenceKey ht.typeIs (by decide) ?_);refine wpAny_bind (wpAny_callSpecial?_slot (name:=Str.ofString "__getitem__") ht.typeIs PyProof.Rows.slot_tuple_getitem
  (wpAny_call_entry PyProof.Rows.slot_tuple_getitem ht.typeIs entry_tuple_getitem ?_ (args_tuple_getitem _ _)))
 show wpAny _ _ (Builtin.Tuple.tupleItemsOf (.ref t) >>= _) _ _ s;refine wpAny_bind (tupleItemsOf_ ht ?_);refine wpAny_bind (wpAny_typeOf hTs ?_);rw [if_pos (by decide)];refine wpAny_bind (E7 hs pl pu ?_);have hno:¬((((sIx items.size 0 lo:Nat):Int) == 0 && (1:Int) == 1 && (sIx items.size items.size hi - sIx items.size 0 lo) == items.size)=true):=by
  intro q;rw [Bool.and_eq_true,Bool.and_eq_true] at q;have q1:((sIx items.size 0 lo:Nat):Int)=0:=eq_of_beq q.1.1;have q2:sIx items.size items.size hi - sIx items.size 0 lo=items.size:=eq_of_beq q.2;exact hw ⟨by lia,by lia⟩
 show wpAny _ _ (if (((sIx items.size 0 lo:Nat):Int) == 0 && (1:Int) == 1 && (sIx items.size items.size hi - sIx items.size 0 lo) == items.size)=true then _ else _) _ _ s;rw [if_neg hno,Rm]
 first
  | exact wpAny_bind (m:=Builtin.Tuple.tupleExact _) (wpAny_newObj_type (wpAny_pure ⟨_,rfl,wpAny_pure h⟩) htake)
  | exact wpAny_bind (m:=Builtin.Tuple.tupleExact _) (wpAny_newObj_type (wpAny_bind (wpAny_pure (wpAny_pure ⟨_,rfl,wpAny_pure h⟩))) htake)
  | exact wpAny_bind (wpAny_bind (m:=Builtin.Tuple.tupleExact _) (wpAny_newObj_type (wpAny_pure (wpAny_pure ⟨_,rfl,wpAny_pure h⟩)) htake))
  | exact wpAny_bind (wpAny_bind (m:=Builtin.Tuple.tupleExact _) (wpAny_newObj_type (wpAny_pure ⟨_,rfl,wpAny_pure h⟩) htake))
end
end HT
namespace L2
open PySem PySem.Spec PyProof.Rows
abbrev TO:=St->Hp->(Option Int->Hp->Prop)->Prop
def PO (X:Cx)(e:Option Expr)(t:TO):Prop:=
 ∀(pins:List (Addr×Obj)) (s:Shared) (σ:St) (H:Hp) (Q:Option Int->Hp->Prop),Inv X pins σ H s->t σ H Q->
  wpAny (model X.prog X.w) X.A (evalPart e X.env) (λu s'=>∃o H',Inv X pins σ H' s'/\IsPart u o/\Q o H') X.xe s
def UW:TO:=λ_ H Q=>Q none H
def Ys (t:TE):TO:=λσ H Q=>t σ H λx H1=>∃i,x = .int i/\Q (some i) H1
section
variable {X:Cx}{e:Expr}{te:TE}{lo hi:Option Expr}{tl th:TO}{pos p2:Pos}
theorem Us:PO X none UW:=by
 intro pins s σ H Q I h;rw [evalPart_none];exact wpAny_pure ⟨none,H,I,.none,h⟩
theorem Ut (h:PE X e te):PO X (some e) (Ys te):=by
 intro pins s σ H Q I hw;rw [evalPart_some];refine thn (h pins s σ H _ I hw) λu s1 z9=>?_;obtain ⟨x,H1,I1,r1,q1⟩:=z9;obtain ⟨i,rfl,q⟩:=q1;obtain ⟨t,rfl⟩:=r1;exact ⟨some i,H1,I1,.int i t,q⟩
def SlR (X:Cx)(r:V->Option Int->Option Int->Hp->VK->Prop):Prop:=
 ∀(pins:List (Addr×Obj)) (s:Shared) (σ:St) (H:Hp) (x:V) (v vl vu:Value) (lo hi:Option Int) (sl:Addr) (Q:VK),Inv X pins σ H s->RelV x v->s.heap.IsSliceOf sl vl vu .none->IsPart vl lo->IsPart vu hi->r x lo hi H Q->
  ∃T id,typeLookup (.type T) "__getitem__" = pure (some (.builtin id))/\s.TypeIs v T/\wpAny (model X.prog X.w) X.A (getItem v (.ref sl)) (EP X pins σ Q) X.xe s
theorem SlR.or {r r':V->Option Int->Option Int->Hp->VK->Prop}(h:SlR X r)(h':SlR X r'):SlR X (λx lo hi H Q=>r x lo hi H Q\/r' x lo hi H Q):=by
 intro pins s σ H x v vl vu lo hi sl Q I rx hs pl pu q;rcases q with q | q
 ·exact h pins s σ H x v vl vu lo hi sl Q I rx hs pl pu q
 ·exact h' pins s σ H x v vl vu lo hi sl Q I rx hs pl pu q
def tSl (r:V->Option Int->Option Int->Hp->VK->Prop)(te:TE)(tl th:TO):TE:=λσ H Q=>te σ H λx H1=>tl σ H1 λl H2=>th σ H2 λu H3=>r x l u H3 Q
theorem Rk {r:V->Option Int->Option Int->Hp->VK->Prop}(hr:SlR X r)(he:PE X e te)(hl:PO X lo tl)(hu:PO X hi th):PE X (.Subscript e (.Slice lo hi none p2) pos) (tSl r te tl th):=by
 intro pins s σ H Q I h;refine Subscript_ (thn (he pins s σ H _ I h) λv s1 z9=>?_);obtain ⟨x,H1,I1,r1,q1⟩:=z9;refine wpAny_Slice (thn (hl pins s1 σ H1 _ I1 q1) λvl s2 ⟨l,H2,I2,pl,q2⟩=>thn (hu pins s2 σ H2 _ I2 q2) λvu s3 z9=>?_);obtain ⟨u,H3,I3,pu,q3⟩:=z9;rw [evalPart_none];refine wpAny_pure ?_;have I4:Inv X pins σ H3 { s3 with heap:=s3.heap.push { cls:=.type "slice",data:=.fields #[vl,vu,.none] } }:=I3.kept (t':=s3.toks) λb ob q=>Heap.get?_push_of_some _ q;obtain ⟨T,id,hT,ht,hg⟩:=hr pins { s3 with heap:=s3.heap.push { cls:=.type "slice",data:=.fields #[vl,vu,.none] } } σ H3 x v vl vu l u s3.heap.objs.size Q I4 r1 (Heap.IsSliceOf.new ..) pl pu q3;show wpAny (model X.prog X.w) X.A (subscriptTail e (.Slice lo hi none p2) v (.ref s3.heap.objs.size)) (EP X pins σ Q) X.xe { s3 with heap:=s3.heap.push { cls:=.type "slice",data:=.fields #[vl,vu,.none] } };exact tail_any (ops:=[.ref s3.heap.objs.size,v]) ht hT hg (by with_unfolding_all rfl)
def FL (xs:List V)(lo hi:Option Int):List V:=(xs.drop (HT.sIx xs.length 0 lo)).take (HT.sIx xs.length xs.length hi - HT.sIx xs.length 0 lo)
theorem Hf (xs:List V)(lo hi:Option Int):(FL xs lo hi).length<=xs.length:=by
 unfold FL;rw [List.length_take,List.length_drop];lia
def WY (K:PySem.W.Frag):V->Option Int->Option Int->Hp->VK->Prop:=λx lo hi H Q=>∃a xs,x = .ref a/\SqT K H a xs/\
 ¬(HT.sIx xs.length 0 lo=0/\HT.sIx xs.length xs.length hi=xs.length)/\∀p,H p=none->Q (.ref p) (upd H p (.tup (FL xs lo hi)))
theorem Xa:SlR X (WY X.K):=by
 intro pins s σ H x v vl vu lo hi sl Q I rx hs pl pu h;obtain ⟨a,xs,rfl,hx,hw,q⟩:=h
 cases rx
 obtain ⟨its,r,ht,hz⟩:=I.tuple hx;have hlen:its.toArray.size=xs.length:=by rw [List.size_toArray];exact r.length.symm
 refine ⟨"tuple",_,PyProof.Rows.slot_tuple_getitem.lookup,ht.typeIs,?_⟩;refine HT.Hc ht hs pl pu (by rw [hlen];exact hw) ?_ (by rw [hlen];exact hz);rw [hlen];refine ⟨.ref s.heap.objs.size,_,I.laid (t':=s.toks) (o:=.tup (FL xs lo hi)) (λb ob q=>Heap.get?_push_of_some _ q) (Nat.le_refl _) ?_,rfl,q _ (I.hok.fresh (Nat.le_refl _))⟩;exact ⟨Nat.le_trans (Hf xs lo hi) hz,_,(r.drop (HT.sIx xs.length 0 lo)).take (HT.sIx xs.length xs.length hi - HT.sIx xs.length 0 lo),IsTup.new _ _⟩
theorem Vals.nil_iff {xs:List V}{us:List Value}(r:Vals xs us):us=[]↔xs=[]:=by
 cases r with
 | nil=>simp
 | cons _ _=>simp
end
noncomputable def ixN (n:Nat)(i:Int):Option Nat:=if 0<=i then (if i < n then some i.toNat else none) else if -(n:Int)<=i then some (i + n).toNat else none
def atI {α:Type}(xs:List α)(i:Int):Option α:=(ixN xs.length i).bind λj=>xs[j]?
variable {n:Nat}
theorem Mp {i:Int}{j:Nat}(h:ixN n i=some j):seqIndex? i n=some j/\j < n/\-(n:Int)<=i/\i < n:=by
 unfold ixN at h
 by_cases h0:0<=i
 ·rw [if_pos h0] at h
  by_cases h1:i < n
  ·rw [if_pos h1] at h;have e:i.toNat=j:=Option.some.inj h;exact ⟨by rw [seqIndex_of h0 h1,e],by lia,by lia,h1⟩
  ·rw [if_neg h1] at h;cases h
 ·rw [if_neg h0] at h
  by_cases h1 : -(n:Int)<=i
  ·rw [if_pos h1] at h;have e:(i + n).toNat=j:=Option.some.inj h;exact ⟨by rw [seqIndex_neg (by lia) h1,e],by lia,h1,by lia⟩
  ·rw [if_neg h1] at h;cases h
variable {α:Type}
theorem IR {xs:List α}{i:Int}{v:α}(h:atI xs i=some v):∃j,seqIndex? i xs.length=some j/\xs[j]?=some v/\j < xs.length/\-(xs.length:Int)<=i/\i < xs.length:=by
 unfold atI at h
 cases e:ixN xs.length i with
 | none=>rw [e] at h;cases h
 | some j=>
   rw [e] at h;obtain ⟨h1,h2,h3,h4⟩:=Mp e;exact ⟨j,h1,h,h2,h3,h4⟩
theorem IS {xs:List α}{j:Nat}{v:α}(h:xs[j]?=some v):atI xs (j:Int)=some v:=by
 have hj:j < xs.length:=(List.getElem?_eq_some_iff.mp h).1;have e:ixN xs.length (j:Int)=some j:=by
  unfold ixN;rw [if_pos (by lia),if_pos (by lia)];simp
 unfold atI;rw [e];exact h
def IQ (b:Expr):Prop:=∀o i,subscripted b false o i=operate [o,i] (getItem o i)
def IxR (X:Cx)(r:R2):Prop:=
 ∀(value slice:Expr) (pins:List (Addr×Obj)) (s:Shared) (σ:St) (H:Hp) (x y:V) (v u:Value) (Q:VK),Inv X pins σ H s->RelV x v->RelV y u->r x y H Q->
  subscripted slice false v u=operate [v,u] (getItem v u)->wpAny (model X.prog X.w) X.A (subscriptTail value slice v u) (EP X pins σ Q) X.xe s
def MtR (X:Cx)(id:String)(r:V->List V->Hp->VK->Prop):Prop:=
 ∀(pins:List (Addr×Obj)) (s:Shared) (σ:St) (H:Hp) (x:V) (xs:List V) (v:Value) (us:List Value) (Q:VK),Inv X pins σ H s->RelV x v->Vals xs us->r x xs H Q->
  wpAny (model X.prog X.w) X.A (call (.builtin id) (v :: us)) (EP X pins σ Q) X.xe s
variable {s:Shared}{its:List Value}{x:V}
section
variable {X:Cx}{a b:Expr}{ta tb:TE}{pos:Pos}
theorem IxR.or {r r':R2}(h:IxR X r)(h':IxR X r'):IxR X (λx y H Q=>r x y H Q\/r' x y H Q):=by
 intro value slice pins s σ H x y v u Q I rx ry q hs;rcases q with q | q
 ·exact h value slice pins s σ H x y v u Q I rx ry q hs
 ·exact h' value slice pins s σ H x y v u Q I rx ry q hs
theorem Sv {r:R2}(hr:IxR X r)(ha:PE X a ta)(hb:PE X b tb)(hs:IQ b):PE X (.Subscript a b pos) (tOp r ta tb):=by
 intro pins s σ H Q I h;exact Subscript_ (Qk ha hb I h λv u s2 x y H2 I2 rx ry q=>hr a b pins s2 σ H2 x y v u Q I2 rx ry q (hs _ _))
def WS (K:PySem.W.Frag):R2:=λx y H Q=>∃p xs i v,x = .ref p/\y = .int i/\SqL K H p xs/\atI xs i=some v/\Q v H
def WU (K:PySem.W.Frag):R2:=λx y H Q=>∃p xs i v,x = .ref p/\y = .int i/\SqT K H p xs/\atI xs i=some v/\Q v H
def WT:R2:=λx y H Q=>∃z i c,x = .str z/\y = .int i/\z.length<=sizeLine/\atI z.cps.toList i=some c/\Q (.str ⟨#[c]⟩) H
theorem ix_list:IxR X (WS X.K):=by
 intro value slice pins s σ H x y v u Q I rx ry h hs;obtain ⟨p,xs,i,z,rfl,rfl,hq,he,q⟩:=h
 cases rx
 obtain ⟨t,rfl⟩:=ry;obtain ⟨its,r,pl,hz⟩:=I.list hq;obtain ⟨j,h1,h2,h3,h4,h5⟩:=IR he;obtain ⟨w,ew,rw'⟩:=r.get h2;have hl:=r.length;have hn:=Fz;have fin:EP X pins σ Q w s:=⟨z,H,I,rw',q⟩
 by_cases h0:0<=i
 ·have hj:i.toNat=j:=by
   rw [seqIndex_of h0 h5] at h1;exact Option.some.inj h1
  exact item_listR pl.isList h0 (by lia) (by rw [hj];simpa using ew) fin hs
 ·have hj:(i + (its.toArray.size:Int)).toNat=j:=by
   rw [seqIndex_neg (by lia) h4] at h1;rw [List.size_toArray,<-hl];exact Option.some.inj h1
  exact subscriptTail_builtinR (x:=w) pl.isList.typeIs slot_list_getitem.lookup
   (wpAny_getItem_list_neg (Q:=λr s'=>r=w/\EP X pins σ Q r s') pl.isList (by lia) (by rw [List.size_toArray] <;> lia) (by lia) (by rw [hj];simpa using ew) ⟨rfl,fin⟩) hs
theorem ix_tup:IxR X (WU X.K):=by
 intro value slice pins s σ H x y v u Q I rx ry h hs;obtain ⟨p,xs,i,z,rfl,rfl,hq,he,q⟩:=h
 cases rx
 obtain ⟨t,rfl⟩:=ry;obtain ⟨its,r,pl,hz⟩:=I.tuple hq;obtain ⟨j,h1,h2,h3,h4,h5⟩:=IR he;obtain ⟨w,ew,rw'⟩:=r.get h2;have hl:=r.length;have hn:=Fz;have fin:EP X pins σ Q w s:=⟨z,H,I,rw',q⟩;exact subscriptTail_builtinR (x:=w) pl.typeIs slot_tuple_getitem.lookup
  (getItem_tuple (j:=j) (Q:=λr s'=>r=w/\EP X pins σ Q r s') pl (by lia) (by lia) (by rw [List.size_toArray,<-hl];exact h1) (by simpa using ew) ⟨rfl,fin⟩) hs
theorem V7:IxR X WT:=by
 intro value slice pins s σ H x y v u Q I rx ry h hs;obtain ⟨z,i,c,rfl,rfl,hz,he,q⟩:=h;obtain ⟨t,rfl⟩:=rx;obtain ⟨t',rfl⟩:=ry;obtain ⟨j,h1,h2,h3,h4,h5⟩:=IR he;have hl:z.cps.toList.length=z.length:=by simp [Str.length]
 rw [hl] at h1 h4 h5;have hn:=Fz;exact tail_any (typeIs_str s z t) slot_str_getitem.lookup (getItem_str (c:=c) (by
  have e1:decide (i < -(2 ^ 63:Int))=false:=decide_eq_false (by lia);have e2:decide (i ≥ 2 ^ 63)=false:=decide_eq_false (by lia);rw [e1,e2,Bool.or_false]) (by rw [h1];simpa using h2) ⟨.str ⟨#[c]⟩,H,I.tok _,⟨_,rfl⟩,q⟩) hs
def rIx (K:PySem.W.Frag):R2:=λx y H Q=>WS K x y H Q\/WU K x y H Q\/WT x y H Q
theorem V6:IxR X (rIx X.K):=ix_list.or (ix_tup.or V7)
theorem NJ (its:List Value)(n j:Nat)(u:Value):Obj.mapSeq (·.setIfInBounds j u) { cls:=.type "list",data:=.seq its.toArray n } = { cls:=.type "list",data:=.seq (its.set j u).toArray n }:=by
 simp [Obj.mapSeq]
theorem Inv.lst {pins:List (Addr×Obj)}{σ:St}{H:Hp}{s:Shared}{p:Addr}{xs:List V}(I:Inv X pins σ H s)(h:H p=some (.lst xs)) :
 ∃(its:List Value) (n:Nat),Vals xs its/\s.heap.get? p=some { cls:=.type "list",data:=.seq its.toArray n }/\xs.length<=sizeLine:=by
 obtain ⟨z,its,n,r,e⟩:=I.hok p _ h;exact ⟨its,n,r,e,z⟩
theorem Inv.lstUpd {pins:List (Addr×Obj)}{σ:St}{H:Hp}{p:Addr}{xs ys:List V}{its':List Value}{n':Nat}{f:Obj->Obj}(I:Inv X pins σ H s)(h:H p=some (.lst xs))
 (ho:s.heap.get? p=some { cls:=.type "list",data:=.seq its.toArray n }) (hf:f { cls:=.type "list",data:=.seq its.toArray n } = { cls:=.type "list",data:=.seq its'.toArray n' }) (r:Vals ys its') (hz:ys.length<=sizeLine) (t:Nat) :
 Inv X pins σ (upd H p (.lst ys)) { s with heap:=s.heap.update p f,toks:=t }:=by
 have e:(s.heap.update p f).get? p=some { cls:=.type "list",data:=.seq its'.toArray n' }:=by
  rw [Heap.get?_update_self f ho (by rw [hf] <;> rfl),hf]
 refine I.write (x:=p) (e:=p) (by rw [h];trivial) (.inl rfl) (λb u hb q=>(Heap.get?_update_other _ _ (Ne.symm hb)).trans q) ⟨_,e⟩ ?_;exact ⟨hz,its',n',r,e⟩
def Ye:V->V->V->Hp->(Hp->Prop)->Prop:=λo i v H Q=>∃p xs k j,o = .ref p/\i = .int k/\H p=some (.lst xs)/\ixN xs.length k=some j/\Q (upd H p (.lst (xs.set j v)))
theorem Lx:Qd X Ye:=by
 intro pins s σ H o i v ov iv u Q I ro ri rv h;obtain ⟨p,xs,k,j,rfl,rfl,hp,hj,q⟩:=h
 cases ro
 obtain ⟨t,rfl⟩:=ri;obtain ⟨its,n,r,ho,hz⟩:=I.lst hp;obtain ⟨h1,h2,h3,h4⟩:=Mp hj;have hl:=r.length;have hn:=Fz;have I':Inv X pins σ (upd H p (.lst (xs.set j v))) { s with heap:=s.heap.update p (Obj.mapSeq (·.setIfInBounds j u)) }:=
  I.lstUpd hp ho (NJ its n j u) (r.set rv j) (by rw [List.length_set];exact hz) s.toks
 by_cases h0:0<=k
 ·have hk:k.toNat=j:=by
   rw [seqIndex_of h0 h4] at h1;exact Option.some.inj h1
  exact PySem.W.ki_setAt ho h0 (by lia) (by rw [List.size_toArray,<-hl];exact h4) (by rw [hk];exact ⟨_,I',q⟩)
 ·have hk:(k + (its.toArray.size:Int)).toNat=j:=by
   rw [seqIndex_neg (by lia) h3] at h1;rw [List.size_toArray,<-hl];exact Option.some.inj h1
  exact PySem.W.ki_setBack ho (by lia) (by rw [List.size_toArray,<-hl];exact h3) (by lia) (by rw [hk];exact ⟨_,I',q⟩)
theorem LC (lo hi:Option Int)(n:Nat):(sliceBounds lo hi none n).1=((HT.sIx n 0 lo:Nat):Int)/\(sliceBounds lo hi none n).2.1=((HT.sIx n n hi:Nat):Int)/\(sliceBounds lo hi none n).2.2=1:=by
 refine ⟨?_,?_,rfl⟩
 ·cases lo with
  | none=>simp [sliceBounds,HT.sIx]
  | some i=>
    simp only [sliceBounds,HT.sIx,Option.getD_none,show (1:Int) > 0 by decide,if_true]
    by_cases h:i < 0
    ·simp only [h,if_true] <;> lia
    ·simp only [h,if_false] <;> lia
 ·cases hi with
  | none=>simp [sliceBounds,HT.sIx]
  | some i=>
    simp only [sliceBounds,HT.sIx,Option.getD_none,show (1:Int) > 0 by decide,if_true]
    by_cases h:i < 0
    ·simp only [h,if_true] <;> lia
    ·simp only [h,if_false] <;> lia
theorem JT (its:List Value)(lo hi:Option Int):slicePick its.toArray lo hi none=((its.drop (HT.sIx its.length 0 lo)).take (HT.sIx its.length its.length hi - HT.sIx its.length 0 lo)).toArray:=by
 obtain ⟨h1,h2,h3⟩:=LC lo hi its.toArray.size;unfold slicePick;rw [h1,h2,h3];simp only [sliceRange_one,pick_run,List.size_toArray] <;> rfl
def WW (K:PySem.W.Frag):V->Option Int->Option Int->Hp->VK->Prop:=λx lo hi H Q=>∃a xs,x = .ref a/\SqL K H a xs/\∀p,H p=none->Q (.ref p) (upd H p (.lst (FL xs lo hi)))
theorem sl_list:SlR X (WW X.K):=by
 intro pins s σ H x v vl vu lo hi sl Q I rx hs pl pu h;obtain ⟨a,xs,rfl,hx,q⟩:=h
 cases rx
 obtain ⟨its,r,ht,hz⟩:=I.list hx;have hlen:=r.length;refine ⟨"list",_,slot_list_getitem.lookup,ht.isList.typeIs,?_⟩;refine wpAny_getItem_list_slice ht.isList hs pl pu .none (by simp) ?_ (by rw [List.size_toArray] <;> lia);rw [JT,<-hlen];refine ⟨.ref s.heap.objs.size,_,I.laid (t':=s.toks) (o:=.lst (FL xs lo hi)) (λb ob q=>Heap.get?_push_of_some _ q) (Nat.le_refl _) ?_,rfl,q _ (I.hok.fresh (Nat.le_refl _))⟩;exact ⟨Nat.le_trans (Hf xs lo hi) hz,_,0,(r.drop (HT.sIx xs.length 0 lo)).take (HT.sIx xs.length xs.length hi - HT.sIx xs.length 0 lo),Heap.get?_push_size _ rfl⟩
noncomputable def ED:V->Bool
 | .non=>true
 | .bl _=>true
 | .int _=>true
 | .str _=>true
 | _=>false
noncomputable def eqV:V->V->Bool
 | .non,.non=>true
 | .bl a,.bl b=>a == b
 | .bl a,.int b=>(if a then 1 else 0) == b
 | .int a,.bl b=>a == (if b then 1 else 0)
 | .int a,.int b=>a == b
 | .str a,.str b=>a == b
 | _,_=>false
theorem Vv {A:Around}{y:V}{u v:Value}(ry:RelV y u)(rx:RelV x v)(fy:ED y=true)(fx:ED x=true):SeqAt.EqAt A s u v (eqV y x):=by
 cases y with
 | non=>
   cases ry
   cases x with
   | non=>cases rx;exact SeqAt.EqAt.same _
   | bl b=>cases rx;exact SeqAt.EqAt.none_bool b
   | int b=>obtain ⟨t,rfl⟩:=rx;exact SeqAt.EqAt.none_int b t
   | str b=>obtain ⟨t,rfl⟩:=rx;exact SeqAt.EqAt.none_str b t
   | _=>exact absurd (show false=true from fx) Bool.false_ne_true
 | bl a=>
   cases ry
   cases x with
   | non=>cases rx;exact SeqAt.EqAt.bool_none a
   | bl b=>cases rx;exact SeqAt.EqAt.bool_bool a b
   | int b=>obtain ⟨t,rfl⟩:=rx;exact SeqAt.EqAt.bool_int a b t
   | str b=>obtain ⟨t,rfl⟩:=rx;exact SeqAt.EqAt.bool_str a b t
   | _=>exact absurd (show false=true from fx) Bool.false_ne_true
 | int a=>
   obtain ⟨t',rfl⟩:=ry
   cases x with
   | non=>cases rx;exact SeqAt.EqAt.int_none a t'
   | bl b=>cases rx;exact SeqAt.EqAt.int_bool a t' b
   | int b=>obtain ⟨t,rfl⟩:=rx;exact SeqAt.EqAt.int_int a t' b t
   | str b=>obtain ⟨t,rfl⟩:=rx;exact SeqAt.EqAt.int_str a t' b t
   | _=>exact absurd (show false=true from fx) Bool.false_ne_true
 | str a=>
   obtain ⟨t',rfl⟩:=ry
   cases x with
   | non=>cases rx;exact SeqAt.EqAt.str_none a t'
   | bl b=>cases rx;exact SeqAt.EqAt.str_bool a t' b
   | int b=>obtain ⟨t,rfl⟩:=rx;exact SeqAt.EqAt.str_int a t' b t
   | str b=>obtain ⟨t,rfl⟩:=rx;exact SeqAt.EqAt.str_str a t' b t
   | _=>exact absurd (show false=true from fx) Bool.false_ne_true
 | _=>exact absurd (show false=true from fy) Bool.false_ne_true
def eqU (x:V)(u:Value):Bool:=match u with
 | .none=>eqV .non x
 | .bool b=>eqV (.bl b) x
 | .int i _=>eqV (.int i) x
 | .str z _=>eqV (.str z) x
 | _=>false
theorem OC {y:V}{u:Value}(r:RelV y u)(f:ED y=true):eqU x u=eqV y x:=by
 cases y with
 | non=>cases r;rfl
 | bl b=>cases r;rfl
 | int i=>obtain ⟨t,rfl⟩:=r;rfl
 | str z=>obtain ⟨t,rfl⟩:=r;rfl
 | _=>exact absurd (show false=true from f) Bool.false_ne_true
theorem KZ {A:Around}{s:Shared}{x:V}{v:Value}(rx:RelV x v)(fx:ED x=true):∀{xs:List V} {us:List Value},Vals xs us->xs.all ED=true->∀u∈us,SeqAt.EqAt A s u v (eqU x u)
 | _,_,.nil,_=>λu hu=>by cases hu
 | y :: xs,u :: us,.cons r t,f=>λu' hu=>by
   rw [List.all_cons,Bool.and_eq_true] at f;rcases List.mem_cons.mp hu with rfl | hu
   ·rw [OC r f.1];exact Vv r rx f.1 fx
   ·exact KZ rx fx t f.2 u' hu
theorem Kv:Cn X (.builtin "len") (λxs H Q=>∃p ys,xs=[.ref p]/\(SqL X.K H p ys\/SqT X.K H p ys)/\Q (.int ys.length) H):=by
 intro pins s σ H xs us Q I r h;obtain ⟨p,ys,rfl,hq,q⟩:=h;obtain ⟨u,rfl,rx⟩:=EI r
 cases rx
 have hn:=Fz;rcases hq with hq | hq
 ·obtain ⟨its,r',pl,hz⟩:=I.list hq;have hlen:=r'.length;exact Calls.call_len_list pl.isList (by simp only [List.size_toArray] <;> lia) ⟨.int ys.length,H,I.tok _,⟨s.toks + 1,by rw [List.size_toArray,hlen]⟩,q⟩
 ·obtain ⟨its,r',pl,hz⟩:=I.tuple hq;have hlen:=r'.length;exact len_tuple pl (by simp only [List.size_toArray] <;> lia) ⟨.int ys.length,H,I.tok _,⟨s.toks + 1,by rw [List.size_toArray,hlen]⟩,q⟩
theorem Kw:Cn X (.type "list") (λxs H Q=>∃p ys,xs=[.ref p]/\(SqL X.K H p ys\/SqT X.K H p ys)/\∀l,H l=none->Q (.ref l) (upd H l (.lst ys))):=by
 intro pins s σ H xs us Q I r h;obtain ⟨p,ys,rfl,hq,q⟩:=h;obtain ⟨u,rfl,rx⟩:=EI r
 cases rx
 have fin:∀(its:List Value),Vals ys its->ys.length<=sizeLine->∀(h':Heap) (c':Nat),(∀b o',s.heap.get? b=some o'->h'.get? b=some o')->
  h'.get? s.heap.objs.size=some { cls:=.type "list",dict:=none,data:=.seq its.toArray c',slots:=#[] }->EP X pins σ Q (.ref s.heap.objs.size) { s with heap:=h' }:=λits r' hz h' c' kp e=>
  ⟨.ref s.heap.objs.size,_,I.laid (t':=s.toks) kp (Nat.le_refl _) (show ObjOk X.prog X.w _ h' _ (.lst ys) from ⟨hz,its,c',r',e⟩),rfl,q _ (I.hok.fresh (Nat.le_refl _))⟩
 rcases hq with hq | hq
 ·obtain ⟨its,r',pl,hz⟩:=I.list hq;have hlen:=r'.length;obtain ⟨o,ho,hc,n,hd⟩:=pl.isList;exact call_list_seq p (.inl rfl) ho hc hd (λh' c' kp e=>fin its r' hz h' c' kp e) (by simp only [List.size_toArray] <;> lia)
 ·obtain ⟨its,r',pl,hz⟩:=I.tuple hq;have hlen:=r'.length;obtain ⟨o,ho,hc,n,hd⟩:=pl;exact call_list_seq p (.inr rfl) ho hc hd (λh' c' kp e=>fin its r' hz h' c' kp e) (by simp only [List.size_toArray] <;> lia)
theorem JQ:Cn X (.type "tuple") (λxs H Q=>∃p ys,xs=[.ref p]/\((SqL X.K H p ys/\∀l,H l=none->Q (.ref l) (upd H l (.tup ys)))\/(SqT X.K H p ys/\Q (.ref p) H))):=by
 intro pins s σ H xs us Q I r h;obtain ⟨p,ys,rfl,h⟩:=h;obtain ⟨u,rfl,rx⟩:=EI r
 cases rx
 rcases h with ⟨hq,q⟩ | ⟨hq,q⟩
 ·obtain ⟨its,r',pl,hz⟩:=I.list hq;have hlen:=r'.length;refine call_tuple_list pl.isList (λh' kp=>?_) (by simp only [List.size_toArray] <;> lia);have I1:Inv X pins σ H { s with heap:=h' }:=I.kept (t':=s.toks) kp;have I2:Inv X pins σ (upd H h'.objs.size (.tup ys)) { s with heap:=h'.push { cls:=.type "tuple",data:=.seq its.toArray } }:=
   I1.laid (t':=s.toks) (λb o e=>Heap.get?_push_of_some _ e) (Nat.le_refl _) (show ObjOk X.prog X.w _ _ _ (.tup ys) from ⟨hz,its,r',IsTup.new _ _⟩)
  exact ⟨.ref h'.objs.size,_,I2,rfl,q _ (I1.hok.fresh (Nat.le_refl _))⟩
 ·obtain ⟨its,r',pl,hz⟩:=I.tuple hq;exact call_tuple_same pl ⟨.ref p,H,I,rfl,q⟩
def tyV (K:PySem.W.Frag)(T:String)(x:V)(H:Hp):Prop:=match x with
 | .str _=>T = "str"
 | .int _=>T = "int"
 | .ref p=>(T = "list"/\∃xs,SqL K H p xs)\/(T = "tuple"/\∃o,K.lookup p=some o/\o.cls = .type "tuple"/\o.dict=none)\/
    (T = "dict"/\((∃kvs,H p=some (.dK kvs))\/∃kvs,H p=some (.dT kvs)))\/(T = "set"/\∃S n,H p=some (.set S n))
 | _=>False
theorem Xh {pins:List (Addr×Obj)}{σ:St}{H:Hp}{T:String}{v:Value}(I:Inv X pins σ H s)(r:RelV x v)(ty:tyV X.K T x H) :
 s.TypeIs v T/\∀a,v = .ref a->∃ob,s.heap.get? a=some ob/\ob.dict=none:=by
 cases x with
 | str z=>
   obtain ⟨t,rfl⟩:=r
   cases (show T = "str" from ty)
   exact ⟨typeIs_str s z t,λ_ e=>nomatch e⟩
 | int i=>
   obtain ⟨t,rfl⟩:=r
   cases (show T = "int" from ty)
   exact ⟨typeIs_int s i t,λ_ e=>nomatch e⟩
 | ref p=>
   cases r
   rcases ty with ⟨rfl,xs,hq⟩ | ⟨rfl,o,hk,hc,hd⟩ | ⟨rfl,hk⟩ | ⟨rfl,S,n,hk⟩
   ·obtain ⟨its,_,pl,_⟩:=I.list hq;refine ⟨pl.isList.typeIs,λa e=>?_⟩
    cases e
    obtain ⟨o,n,e,c,hd,_⟩:=pl;exact ⟨o,e,hd⟩
   ·refine ⟨⟨o,I.kIn p o hk,hc⟩,λa e=>?_⟩
    cases e
    exact ⟨o,I.kIn _ o hk,hd⟩
   ·have z:∃o,s.heap.get? p=some o/\o.ExactDict:=by
     rcases hk with ⟨kvs,hk⟩ | ⟨kvs,hk⟩
     ·obtain ⟨_,_,_,_,o,_,_,e,ex,_⟩:=I.hok p _ hk;exact ⟨o,e,ex⟩
     ·obtain ⟨_,_,_,_,o,_,_,e,ex,_⟩:=I.hok p _ hk;exact ⟨o,e,ex⟩
    obtain ⟨o,e,ex⟩:=z;refine ⟨⟨o,e,ex.1⟩,λa e2=>?_⟩
    cases e2
    exact ⟨o,e,ex.2.1⟩
   ·obtain ⟨o,_,_,_,e,ex,_⟩:=I.hok p _ hk;refine ⟨⟨o,e,ex.1⟩,λa e2=>?_⟩
    cases e2
    exact ⟨o,e,ex.2.1⟩
 | _=>exact False.elim ty
def tBM (K:PySem.W.Frag)(T:String)(r:V->List V->Hp->VK->Prop)(to:TE)(t:TA):TE:=λσ H Q=>to σ H λx H1=>tyV K T x H1/\t σ H1 λxs H2=>r x xs H2 Q
variable {o e:Expr}{es:List Expr}{to:TE}{t:TA}{name:Str}{apos cpos:Pos}{T id:String}{r:V->List V->Hp->VK->Prop}
theorem J2 (pa:PlainAttrs T)(slot:Slot T name id)(hty:typeOf (.builtin id)=pure (.type "method_descriptor"))(hm:MtR X id r)(ho:PE X o to)(ha:PA X (e :: es) t)
 (hbase:attributeBase o name X.env (eval o X.env)=eval o X.env:=by rfl)
 (hfew:((backTo cpos (starEach (e :: es) X.env)).all (λx=>!x.1) && (backToKw cpos (keywordEach [] X.env)).all (λx=>x.1.isSome)
   && decide ((e :: es).length + ([]:List Keyword).length + (if ([]:List Keyword).isEmpty then 0 else 1) < 30))=true:=by rfl)
 (hline:(apos.endLine == cpos.line)=true:=by rfl) (hs:starEach (e :: es) X.env=(false,eval e X.env) :: starEach es X.env:=by rfl) (hplain:(backTo cpos (starEach es X.env)).any (·.1)=false:=by rfl) :
 PE X (.Call (.Attribute o name apos) (e :: es) [] cpos) (tBM X.K T r to t):=by
 intro pins s σ H Q I h;refine wpAny_Call_method_late hbase hfew hline rfl (thn (ho pins s σ H _ I h) λv s1 z9=>?_);obtain ⟨x,H1,I1,r1,ty,q1⟩:=z9;obtain ⟨h1,h2⟩:=Xh I1 r1 ty;refine ⟨T,id,pa,slot,hty,h1,h2,?_⟩;have hA:=ha cpos pins s1 σ H1 _ I1 q1;rw [hs] at hA ⊢;refine Calls.callWith_builtin (by show (false || (backTo cpos (starEach es X.env)).any (·.1))=false;rw [hplain] <;> rfl) (Calls.evalArgs_plain ?_);exact thn hA λus s2 ⟨vs,H2,I2,r2,q2⟩=>hm pins s2 σ H2 x vs v us Q I2 r1 r2 q2
/- xs.append(e),list.index on a module's tuple .. are MtR facts of 06m -/
end
def MtM (X:Cx)(id:String)(r:V->List V->Hp->VK->Prop):Prop:=
 ∀(pins:List (Addr×Obj)) (s:Shared) (σ:St) (H:Hp) (x:V) (xs:List V) (v:Value) (us:List Value) (Q:VK),Inv X pins σ H s->RelV x v->Vals xs us->r x xs H Q->
  wpAny (model X.prog X.w) X.A (call (.builtin id) (v :: us)) (EP X pins σ Q) X.xe s
theorem Vals.one {us:List Value}(h:Vals [x] us):∃u,us=[u]/\RelV x u:=by
 cases h with
 | cons r t=>
   cases t
   exact ⟨_,rfl,r⟩
theorem Vals.rep {xs:List V}{us:List Value}(h:Vals xs us):∀k:Nat,Vals (List.replicate k xs).flatten (List.replicate k us).flatten
 | 0=>.nil
 | k + 1=>by
   rw [List.replicate_succ,List.replicate_succ,List.flatten_cons,List.flatten_cons];exact Vals.append h (Vals.rep h k)
theorem JF (its:List Value):∀(k:Nat) (acc:List Value),
 List.foldl (λx1 x2=>x1++x2) acc.toArray (List.replicate k its.toArray)=(acc++(List.replicate k its).flatten).toArray
 | 0,acc=>by simp
 | k + 1,acc=>by
   have e:acc.toArray++its.toArray=(acc++its).toArray:=by simp
   have e2:(acc++its)++(List.replicate k its).flatten=acc++(List.replicate (k + 1) its).flatten:=by
    rw [List.replicate_succ,List.flatten_cons,List.append_assoc]
   rw [<-e2,<-JF its k (acc++its),<-e,List.replicate_succ,List.foldl_cons]
section
variable {X:Cx}{pins:List (Addr×Obj)}{σ:St}{H:Hp}{s:Shared}{l b:Addr}{xs ys zs:List V}
theorem Inv.lset {its':List Value}{f:Array Value->Array Value}{t':Nat}(I:Inv X pins σ H s)(hH:H l=some (.lst xs))
 (e:s.heap.get? l=some { cls:=.type "list",data:=.seq its.toArray n }) (hf:f its.toArray=its'.toArray) (hv:Vals ys its') (hz:ys.length<=sizeLine) :
 Inv X pins σ (upd H l (.lst ys)) { s with heap:=s.heap.update l (Obj.mapSeq f),toks:=t' }:=by
 have q:=PySem.IsL.update e f;rw [hf] at q;refine I.write (x:=l) (e:=l) (by rw [hH];exact trivial) (.inl rfl) (λb' u hb hu=>(Heap.get?_update_other s.heap (Obj.mapSeq f) (Ne.symm hb)).trans hu) ⟨_,q⟩ ?_;exact ⟨hz,its',_,hv,q⟩
theorem Inv.lnew {t':Nat}(I:Inv X pins σ H s)(hv:Vals ys its)(hz:ys.length<=sizeLine) :
 Inv X pins σ (upd H s.heap.objs.size (.lst ys)) { s with heap:=s.heap.push { cls:=.type "list",data:=.seq its.toArray },toks:=t' }:=
 I.laid (λ_ _ q=>Heap.get?_push_of_some _ q) (Nat.le_refl _) ⟨hz,its,0,hv,Heap.get?_push_size _ rfl⟩
theorem Inv.fresh (I:Inv X pins σ H s):H s.heap.objs.size=none:=I.hok.fresh (Nat.le_refl _)
theorem Inv.lstM (I:Inv X pins σ H s)(hH:H l=some (.lst xs)):xs.length<=sizeLine/\∃(its:List Value) (n:Nat),Vals xs its/\xs.length=its.length/\s.heap.get? l=some { cls:=.type "list",data:=.seq its.toArray n }:=by
 obtain ⟨z,its,n,r,e⟩:=I.hok l _ hH;exact ⟨z,its,n,r,r.length,e⟩
theorem Ra (h:n<=sizeLine):Builtin.List.listTooLong n=false:=by
 unfold Builtin.List.listTooLong;exact decide_eq_false (by lia)
end
section
variable {X:Cx}
def MH:V->List V->Hp->VK->Prop:=λx vs H Q=>∃l xs y,x = .ref l/\vs=[y]/\H l=some (.lst xs)/\xs.length < sizeLine/\Q .non (upd H l (.lst (xs++[y])))
theorem JL:MtM X "list.append" MH:=by
 intro pins s σ H x vs v us Q I rx rv h;obtain ⟨l,xs,y,rfl,rfl,hH,hz,q⟩:=h
 cases rx
 obtain ⟨u,rfl,ru⟩:=rv.one;obtain ⟨z,its,n,r,hl,e⟩:=I.lstM hH;refine call_meets F.slot_list_append ⟨_,e,rfl⟩ F.entry_list_append (F.args_list_append_2 _ _) (PySem.list_append l its.toArray n u (by rw [List.size_toArray];lia)) ⟨e,?_⟩;refine ⟨.non,_,I.lset (its':=its++[u]) hH e (by simp) (r.append (.cons ru .nil)) ?_,rfl,q⟩;rw [List.length_append,List.length_singleton];lia
def Rr:R2:=λx y H Q=>∃l b xs zs,x = .ref l/\y = .ref b/\H l=some (.lst xs)/\H b=some (.lst zs)/\xs.length + zs.length<=sizeLine/\∀p,H p=none->Q (.ref p) (upd H p (.lst (xs++zs)))
theorem Pn:OpR X (binaryOp .Add) Rr:=by
 intro pins s σ H x y v u Q I rx ry h;obtain ⟨l,b,xs,zs,rfl,rfl,hH,hB,hz,q⟩:=h
 cases rx
 cases ry
 obtain ⟨z,its,n,r,hl,e⟩:=I.lstM hH;obtain ⟨z2,its2,n2,r2,hl2,e2⟩:=I.lstM hB;refine PySem.P.add_list e e2 ?_ (by rw [List.size_toArray,List.size_toArray];lia);have ea:its.toArray++its2.toArray=(its++its2).toArray:=by simp
 rw [ea];exact ⟨.ref _,_,I.lnew (t':=s.toks) (r.append r2) (by rw [List.length_append];lia),rfl,q _ I.fresh⟩
def WV:R2:=λx y H Q=>∃l k xs,x = .ref l/\y = .int k/\H l=some (.lst xs)/\-(2 ^ 63)<=k/\k < 2 ^ 63/\xs.length * k.toNat<=sizeLine/\
 ∀p,H p=none->Q (.ref p) (upd H p (.lst (List.replicate k.toNat xs).flatten))
theorem TD (xs:List α)(k:Nat):(List.replicate k xs).flatten.length=k * xs.length:=by
 induction k with
 | zero=>simp
 | succ k ih=>rw [List.replicate_succ,List.flatten_cons,List.length_append,ih,Nat.succ_mul,Nat.add_comm]
theorem Wv:OpR X (binaryOp .Mult) WV:=by
 intro pins s σ H x y v u Q I rx ry h;obtain ⟨l,k,xs,rfl,rfl,hH,h1,h2,hz,q⟩:=h
 cases rx
 obtain ⟨t,rfl⟩:=ry;obtain ⟨z,its,n,r,hl,e⟩:=I.lstM hH;have hlen:its.toArray.size * k.toNat<=sizeLine:=by rw [List.size_toArray,<-hl];exact hz
 have hcap:¬its.toArray.size * k.toNat > (2 ^ 63 - 1) / 8:=by
  have:(sizeLine:Nat)<=(2 ^ 63 - 1) / 8:=by decide
  lia
 have hfit:¬(!Builtin.List.listFitsIndex k)=true:=by
  rw [fitsIndex_both h1 h2];exact Bool.false_ne_true
 have hlong:¬Builtin.List.listTooLong (its.toArray.size * k.toNat)=true:=by
  rw [Ra hlen];exact Bool.false_ne_true
 have hnew:List.foldl (λx1 x2=>x1++x2) #[] (List.replicate (if its.toArray.isEmpty=true then 0 else k.toNat) its.toArray)=(List.replicate k.toNat its).flatten.toArray:=by
  have f0:∀m:Nat,List.foldl (λx1 x2=>x1++x2) #[] (List.replicate m its.toArray)=(List.replicate m its).flatten.toArray:=λm=>by
   have:=JF its m [];rw [List.nil_append] at this;exact this
  rw [f0]
  cases its with
  | nil=>simp
  | cons a r'=>rw [if_neg (by simp)]
 refine wpAny_binaryOp_repeat_ref (T:="list") (U:="int") (by decide) ⟨_,e,rfl⟩ (λs'=>typeIs_int s' k t) noFill_list_mul F.fills_int_mul F.slot_int_rmul repeat_list F.slot_int_index.lookup
  (call_meets F.slot_int_rmul (typeIs_int s k t) F.entry_int_rmul (F.args_int_rmul_2 _ _) (int___rmul___int_list k t l its.toArray n)
    ⟨e,rfl,⟨_,e,rfl⟩,call_meets F.slot_list_mul ⟨_,e,rfl⟩ F.entry_list_mul (F.args_list_mul_2 _ _) (AutoListH.list___mul___list_int_3 l its.toArray n k t hfit hcap hlong) ⟨e,?_⟩⟩)
 rw [hnew];exact ⟨.ref _,_,I.lnew (t':=s.toks) (r.rep k.toNat) (by rw [TD,Nat.mul_comm];exact hz),rfl,q _ I.fresh⟩
end
section
variable {prog:Program}{w:World}{A:Around}{E:Value->Shared->Prop}{s:Shared}
end
section
variable {X:Cx}
end
end L2
namespace Att
open PySem PySem.W PySem.Calls PyProof.Rows
theorem Iu {P:Params}{h:Heap}:∀(ns:List Int) (vs:List Value),WellAll P h vs (ns.map WData.int)->IntsAre vs ns:=by
 intro ns
 induction ns with
 | nil=>
   intro vs w;rw [List.map_nil] at w
   cases w
   exact .nil
 | cons n ns ih=>
   intro vs w;rw [List.map_cons] at w
   cases w with
   | cons a b=>
     cases a
     exact .cons _ _ (ih _ b)
theorem PQ {l:OpenLaw}{n:Nat}(hn:l.most=some n){P:Params}{h:Heap}{args:List WData}{vals:List Value}
 (hpre:l.row.toRowW.claim.pre args=true) (hwl:WellAll P h vals args) :
 ∃a vs ns,vals=[Value.ref a]/\args=[WData.list (ns.map WData.int)]/\h.get? a=some { cls:=.type "list",data:=.seq vs.toArray }/\IntsAre vs ns/\ns.length<=n:=by
 have hsh:WShape.hasAll [] args [.list .int]=true:=(pre_splitW hpre).1;have hc:l.pre.holds [] { args:=args }=true:=(pre_splitW hpre).2;obtain ⟨d,r,rfl,h1,h2⟩:=hasAllW_cons hsh;obtain rfl:=hasAllW_nil h2;obtain ⟨xs,rfl,h3⟩:=hasW_list h1;obtain ⟨ns,rfl⟩:=items_int h3;have hlen:ns.length<=n:=by
  unfold OpenLaw.pre at hc;have h4:(WTm.not (.lt (.lit (.int (n:Int))) (.len (.arg 0)))).holds [] { args:=[.list (ns.map .int)] }=true:=by
   have h4:=(holds_andW hc).1;rw [hn] at h4;exact h4
  have h5:=condW_of h4 (w_not (w_lt w_lit (w_len_list (w_arg rfl))));rw [List.length_map] at h5;refine Nat.le_of_not_lt λq=>?_;have q':(n:Int) < ((ns.length:Nat):Int):=by lia
  first
   | (rw [decide_eq_true q'] at h5;exact absurd h5 (by decide))
   | (simp at h5;lia)
 cases hwl with
 | cons w1 w2=>
   cases w2
   cases w1 with
   | list ho hall=>exact ⟨_,_,ns,rfl,rfl,ho,Iu ns _ hall,hlen⟩
theorem Py (l:OpenLaw)(args:List WData):l.row.toRowW.claim.post args (.bool true) args=true:=
 postW_of (r:=l.row.toRowW) (X:=(true == true))
  (show WShape.has [] (.bool true) .bool=true by first | rfl | decide | simp [WShape.has,WShape.arms,WShape.armsAll])
  (show (WTm.eq .res (.lit (.bool true))).value [] { args:=args,res:=some (.bool true),after:=args }=some (.bool (true == true)) from w_eq_bool (w_res rfl) w_lit) rfl
theorem attach_call {l:OpenLaw}{n:Nat}{q:Program}{loose:List Str}{XP:(Str->Option Value)->Heap->Prop}{YP:World->Heap->Prop}{d:DefRec}
 (hn:l.most=some n) (hdf:d.params.defaults=[])
 (call:∀(w:World) (s₀ s₁:Shared) (mg mb:Str->Option Value) (fa:Addr) (o:Obj) (pm cd doc:Value) (a:Addr) (vs:List Value) (ns:List Int),
   Ground q loose [] XP w s₀ mg mb s₁.heap->YP w s₁.heap->
   s₁.heap.get? fa=some o->o.data = .func (docDef d.name d.params d.body d.scope pm cd doc)->s₁.heap.CodeRec cd d.name->mg d.name=some (.ref fa)->
   s₁.heap.get? a=some { cls:=.type "list",data:=.seq vs.toArray }->IntsAre vs ns->ns.length<=n->s₁.gens=#[]->
   codeAny (model l.prog w) callerA (.call (.ref fa) ⟨[.ref a],[]⟩) (λr s'=>r = .ok (.ret (.bool true))/\OldK s₁.heap s'.heap/\s'.os=s₁.os/\AllBare s'.gens) s₁) :
 WalkO q loose XP YP l.row.toRowW d [] (λf vs=>PySem.call f vs):=by
 intro w s₀ s₁ mg mb G Y fa o pm cd doc dV kV ho hd hcd hD hmg hg args vals as hpre hlay hrd hwl hlo;obtain rfl:dV = .none:=Dflts.none hD hdf;obtain rfl:kV = .none:=Dflts.noKw hD;obtain ⟨a,vs,ns,rfl,rfl,hobj,hints,hlen⟩:=PQ hn hpre hwl;refine enter_call (codeAny_mono (call w s₀ s₁ mg mb fa o pm cd doc a vs ns G Y ho (fd_plain hd) hcd hmg hobj hints hlen hg) λr s' hq=>?_);obtain ⟨rfl,h2,h3,h4⟩:=hq;exact ⟨.inl ⟨.bool true,.bool true,[],rfl,λ_=>rfl,.bool true,Py l _,λ_=>⟨List.Pairwise.nil,λ_ hm=>(nomatch hm)⟩⟩,h2,h3,h4⟩
section
variable {prog:Program}{w:World}{A:Around}{E:Value->Shared->Prop}{s:Shared}{K:Frag}
noncomputable def aF (h:Heap)(L d:Addr):List (Addr×Obj):=(List.range h.objs.size).filterMap λa=>if a=L\/a=d then none else (h.get? a).map λo=>(a,o)
end
end Att
namespace L2
open PySem PySem.Spec PyProof.Rows
theorem JO:∀{vs:List Value} {ns:List Int},IntsAre vs ns->Vals (ns.map V.int) vs
 | _,_,.nil=>.nil
 | _,_,.cons n t h=>.cons ⟨t,rfl⟩ (JO h)
def M7 (H:Hp):Prop:=∀b,H b=none\/∃o xs,H b=some (.frz o (.lst xs))
variable {P:Program}{w:World}{fd:FuncData}{x:Str}
theorem QU {K:PySem.W.Frag}{mg mb:Str->Option Value}{CX:CXT}{k:Nat}{fa a:Addr}{sp:Sp}{s₁:Shared}{vs:List Value}{ns:List Int}
 (KX:K.In s₁.heap) (hns:s₁.heap.Ns mainGlobals mg) (hb:s₁.heap.Ns builtinsNs mb) (hbb:∀x:Str,x≠"__name__"->mb x=bootBuiltins x) (hlim:s₁.heap.NoLimit) (hg:s₁.gens=#[])
 (ha:s₁.heap.get? a=some { cls:=.type "list",data:=.seq vs.toArray }) (hi:IntsAre vs ns) (hl:ns.length<=sizeLine) (hr:Room k callerA)
 (F:∀base:Heap,K.In base->base.Ns mainGlobals mg->FnOk P w K mg base CX k fa fd [x] sp) (hbind:∀(s:Shared) (u:Value),BindsTo s fd ⟨[u],[]⟩ [(x,u)])
 (hsp:∀H:Hp,M7 H->SqL K H a (ns.map V.int)->sp [.ref a] H (λv _=>v = .bl true) λ_ _ _=>False)
 (hCX:∀H e s',CX [] H s₁ (λ_ _ _=>False) e s'->False) :
 codeAny (model P w) callerA (.call (.ref fa) ⟨[.ref a],[]⟩) (λr s'=>r = .ok (.ret (.bool true))/\OldK s₁.heap s'.heap/\s'.os=s₁.os/\AllBare s'.gens) s₁:=by
 have rv:=JO hi;have lenV:=hi.length
 -- from an abstract heap in which nothing but the script may be tracked
 have core:∀H:Hp,M7 H->SqL K H a (ns.map V.int)->HOk P w H s₁.heap->(∀b,H b≠none->b=a)->(H a≠none->K.lookup a=none)->
  codeAny (model P w) callerA (.call (.ref fa) ⟨[.ref a],[]⟩) (λr s'=>r = .ok (.ret (.bool true))/\OldK s₁.heap s'.heap/\s'.os=s₁.os/\AllBare s'.gens) s₁:=by
  intro H hO hS hok hA hK;have base_of:∀{b:Addr} {o:Obj},s₁.heap.get? b=some o->H b=none->(FR s₁.heap H).get? b=some o:=λe n=>QR e n;have noA:∀{b:Addr} {o:Obj} {es:Array DictEntry} {ep:Nat},s₁.heap.get? b=some o->o.data = .dict es ep->H b=none:=λ{b o es ep} e d=>by
   cases q:H b with
   | none=>rfl
   | some u=>
     have e':b=a:=hA b (by rw [q];simp);subst e';rw [ha] at e;cases e
     have d':Data.seq vs.toArray _=Data.dict es ep:=d
     cases d'
  have nsK:∀{b:Addr} {m:Str->Option Value},s₁.heap.Ns b m->(FR s₁.heap H).Ns b m:=λ{b m} ⟨o,es,ep,e,d,r⟩=>⟨o,es,ep,base_of e (noA e d),d,r⟩;have hKb:K.In (FR s₁.heap H):=λb o e=>base_of (KX b o e) (by
   cases q:H b with
   | none=>rfl
   | some u=>
     have e':b=a:=hA b (by rw [q];simp);subst e';rw [hK (by rw [q];simp)] at e;cases e)
  have hM:Mod K mg (FR s₁.heap H):=⟨hKb,nsK hns,⟨mb,nsK hb,hbb⟩,let ⟨mc,h1,h2⟩:=hlim;⟨mc,nsK h1,h2⟩⟩;have e0:Env0 P w K mg (FR s₁.heap H) callerA [] s₁ H:=⟨rfl,hM,λb o e=>T5 e,Nat.le_of_eq (OT _ _),trivial,λb hb=>absurd (show b∈([]:List Addr) from hb) (by simp),hok,.of_eq hg⟩;refine codeAny_mono ((F _ hKb (nsK hns)).run callerA [] s₁ H ⟨[.ref a],[]⟩ [.ref a] [.ref a] _ _ hr e0 (hbind s₁ (.ref a)) (.cons rfl .nil) (hsp H hO hS)) λr s' h=>?_
  cases r with
  | error e=>exact (hCX H e s' h).elim
  | ok fl=>
    cases fl with
    | next=>exact False.elim h
    | brk=>exact False.elim h
    | cont=>exact False.elim h
    | ret u=>
      obtain ⟨v,H',os,bare,un,hok',r',q⟩:=h;have q':v = .bl true:=q;subst q';obtain rfl:u=Value.bool true:=r';refine ⟨rfl,OldK.of_keep λb o e=>?_,os,bare⟩
      cases q:H b with
      | none=>exact un.keep b o e q (by intro z;exact absurd (show b∈([]:List Addr) from z) (by simp)) (by simp)
      | some u=>
        rcases hO b with z | ⟨ob,xs,z⟩
        ·rw [q] at z;cases z
        ·have z2:=un.frzs b ob _ z;obtain ⟨e1,_⟩:=hok b _ z;obtain ⟨e2,_⟩:=hok' b _ z2;rw [e] at e1;cases e1
         exact e2
 cases hk:K.lookup a with
 | some o=>
   -- the script is one of the module's own objects
   have e:=KX a o hk;rw [ha] at e
   cases e
   refine core (λ_=>none) (λ_=>.inl rfl) (.inr ⟨_,vs.toArray,_,hk,rfl,rfl,rfl,by rw [List.size_toArray,lenV];exact hl,by simpa using rv⟩) (λb u z=>by have z':(none:Option HO)=some u:=z;cases z') (λb z=>absurd rfl z) λz=>absurd rfl z
 | none=>
   refine core (λb=>if b=a then some (.frz { cls:=.type "list",data:=.seq vs.toArray } (.lst (ns.map V.int))) else none) (λb=>?_) (.inl (.inr ⟨{ cls:=.type "list",data:=.seq vs.toArray },if_pos rfl⟩)) (λb u z=>?_) (λb z=>?_) λ_=>hk
   ·by_cases hb:b=a
    ·exact .inr ⟨_,_,if_pos hb⟩
    ·exact .inl (if_neg hb)
   ·by_cases hb:b=a
    ·have z':=(if_pos hb).symm.trans z
     cases z'
     subst hb;exact ⟨ha,by rw [List.length_map];exact hl,vs,_,rv,ha⟩
    ·have z':=(if_neg hb).symm.trans z
     cases z'
   ·by_cases hb:b=a
    ·exact hb
    ·exact absurd (if_neg hb) z
theorem U9 {l:PySem.W.OpenLaw}{n k:Nat}{q:Program}{loose:List Str}{XP:(Str->Option Value)->Heap->Prop}{YP:World->Heap->Prop}{d:DefRec}{K:Params->PySem.W.Frag}{CX:World->CXT}{sp:World->Sp}
 (hn:l.most=some n) (hn2:n<=sizeLine) (hdf:d.params.defaults=[]) (hr:Room k callerA)
 (hY:∀(w:World) (h:Heap),YP w h->(K w.params).In h)
 (F:∀(w:World) (mg:Str->Option Value) (fa:Addr) (h:Heap),(K w.params).In h->h.Ns mainGlobals mg->mg d.name=some (.ref fa)->
   ∃fd:FuncData,(∀(s:Shared) (u:Value),BindsTo s fd ⟨[u],[]⟩ [(x,u)])/\
    ∀base:Heap,(K w.params).In base->base.Ns mainGlobals mg->FnOk l.prog w (K w.params) mg base (CX w) k fa fd [x] (sp w))
 (hsp:∀(w:World) (H:Hp) (a:Addr) (ns:List Int),ns.length<=n->M7 H->SqL (K w.params) H a (ns.map V.int)->sp w [.ref a] H (λv _=>v = .bl true) λ_ _ _=>False)
 (hCX:∀(w:World) (H:Hp) (s:Shared) (e:Value) (s':Shared),CX w [] H s (λ_ _ _=>False) e s'->False) :
 PySem.W.WalkO q loose XP YP l.row.toRowW d [] (λf vs=>PySem.call f vs):=by
 refine Att.attach_call hn hdf λw s₀ s₁ mg mb fa o pm cd doc a vs ns G Y ho hd hcd hmg hobj hints hlen hg=>?_;have KX:=hY w _ Y;obtain ⟨fd,hb,hF⟩:=F w mg fa _ KX G.T.g hmg;exact QU KX G.T.g G.T.b G.T.builtins G.T.nolimit hg hobj hints (Nat.le_trans hlen hn2) hr hF hb (λH hO hS=>hsp w H a ns hlen hO hS) λH e s'=>hCX w H s₁ e s'
noncomputable def DG (s:Stmt):Arguments:=match s with
 | .FunctionDef _ a _ _ _ _ _ _ _ _=>a
 | _=>{ posonlyargs:=[],args:=[],vararg:=none,kwonlyargs:=[],kw_defaults:=[],kwarg:=none,defaults:=[] }
noncomputable def Bj (s:Stmt):List Stmt:=match s with
 | .FunctionDef _ _ b _ _ _ _ _ _ _=>b
 | _=>[]
noncomputable def Ao (s:Stmt):Scope:=match s with
 | .FunctionDef _ _ _ _ _ _ sc _ _ _=>sc
 | _=>{ kind:=.function,names:=[],isGenerator:=false,isCoroutine:=false }
abbrev CX0:CXT:=λ_ _ _ _ _ _=>False
abbrev E0:XK:=λ_ _ _=>False
variable {X:Cx}
theorem NS:Ft CX0 X E0:=λ_ _ _ _ _ _ _ h=>h.elim
structure Fun (K:PySem.W.Frag)(x qual:Str)(st:Stmt)(f:Addr)(fd:FuncData):Prop where
 ex:∃(oc:Value) (od:Option Addr) (kV doc pm:Value) (an:Option Addr) (cdv ct:Value) (osl:Array (Option Value)),
  fd=PySem.W.fnOf x qual (DG st) (Bj st) (Ao st) .none kV doc pm an cdv ct/\K.lookup f=some ⟨oc,od,.func fd,osl⟩/\PySem.W.codeIn K cdv qual=true
 kp:PySem.W.keepIn K (.ref f)=true
variable {qual:Str}{f:Addr}
section
variable {P:Program}{w:World}{K:PySem.W.Frag}{mg:Str->Option Value}{base:Heap}
theorem Fun.ok {st:Stmt}{N ps:List Str}{k:Nat}{sp:Sp}(F:Fun K x qual st f fd)(S:FnScope N ps (Ao st))(len:∀vs H Q E,sp vs H Q E->vs.length=ps.length)
 (hbody:∀(cdv:Value) (A:Around) (outer:List Env) (s:Shared) (H:Hp) (vs:List V) (Q:VK) (E:XK),Room k (A.deeper (envOfC qual (Ao st) s.heap.objs.size f cdv))->sp vs H Q E->
   ∃t,PSs (Dh CX0 P w K mg base N qual (Ao st) f cdv A outer s H E).nox (Bj st) t/\t { nx:=λ_ H'=>Q .non H',rt:=Q } (start N vs) H):FnOk P w K mg base CX0 (k + 1) f fd ps sp:=by
 obtain ⟨oc,od,kV,doc,pm,an,cdv,ct,osl,rfl,lk,hcd⟩:=F.ex;refine Sn lk hcd S len λA outer s H vs Q E hr hsp=>?_;obtain ⟨t,h,q⟩:=hbody cdv A outer s H vs Q E hr hsp;exact ⟨t,h.nox,q⟩
theorem Fun.binds {st:Stmt}{ps:List Str}(F:Fun K x qual st f fd)
 (h:∀(kV doc pm:Value) (an:Option Addr) (cdv ct:Value) (us:List Value),us.length=ps.length->bindArgs (PySem.W.fnOf x qual (DG st) (Bj st) (Ao st) .none kV doc pm an cdv ct) ⟨us,[]⟩=pure (ps.zip us)):Binds K fd ps []:=by
 obtain ⟨oc,od,kV,doc,pm,an,cdv,ct,osl,rfl,lk,hcd⟩:=F.ex;exact .all (h kV doc pm an cdv ct)
theorem Fy {st:Stmt}{oc:Value}{od an:Option Addr}{osl:Array (Option Value)}{kV doc pm cdv ct:Value}(l:K.lookup f=some ⟨oc,od,.func (PySem.W.fnOf x qual (DG st) (Bj st) (Ao st) .none kV doc pm an cdv ct),osl⟩)
 (c:PySem.W.codeIn K cdv qual=true) (k:PySem.W.keepIn K (.ref f)=true):Fun K x qual st f (PySem.W.fnOf x qual (DG st) (Bj st) (Ao st) .none kV doc pm an cdv ct):=⟨⟨oc,od,kV,doc,pm,an,cdv,ct,osl,rfl,l,c⟩,k⟩
end
section
variable {X:Cx}
end
def aP (H H':Hp):Prop:=∀b o,H b=some o->H' b=some o
section
variable {κ:Type}[DecidableEq κ]
noncomputable def Ey (kvs:List (κ×V))(k:κ):Option V:=(kvs.find? λkv=>decide (kv.1=k)).map (·.2)
noncomputable def Dj (kvs:List (κ×V))(k:κ)(v:V):List (κ×V):=
 if (kvs.any λkv=>decide (kv.1=k))=true then kvs.map (λkv=>if kv.1=k then (kv.1,v) else kv) else kvs++[(k,v)]
theorem LK {p:κ×V}{r:List (κ×V)}{k:κ}(e:p.1=k):Ey (p :: r) k=some p.2:=by simp [Ey,List.find?_cons,e]
theorem LJ {p:κ×V}{r:List (κ×V)}{k:κ}(e:¬p.1=k):Ey (p :: r) k=Ey r k:=by simp [Ey,List.find?_cons,e]
theorem Hh (kvs:List (κ×V))(k:κ)(v:V):(Dj kvs k v).length<=kvs.length + 1:=by
 unfold Dj
 split
 ·rw [List.length_map];lia
 ·rw [List.length_append,List.length_cons,List.length_nil];lia
theorem KV.val {kvs:List (κ×V)}{vs:List (κ×Value)}(r:KV kvs vs)(k:κ):RelO (Ey kvs k) (valueAt vs k):=by
 unfold KV at r
 induction r with
 | nil=>exact True.intro
 | @cons p q ps qs h t ih=>
   obtain ⟨h1,h2⟩:=h
   by_cases e:p.1=k
   ·have e':q.1=k:=h1.symm.trans e;have b:valueAt (q :: qs) k=some q.2:=by simp [valueAt,List.find?_cons,e']
    rw [LK e,b];exact h2
   ·have e':¬q.1=k:=λz=>e (h1.trans z);have b:valueAt (q :: qs) k=valueAt qs k:=by simp [valueAt,List.find?_cons,e']
    rw [LJ e,b];exact ih
theorem KV.any {kvs:List (κ×V)}{vs:List (κ×Value)}(r:KV kvs vs)(k:κ):(kvs.any λkv=>decide (kv.1=k))=vs.any λkv=>decide (kv.1=k):=by
 unfold KV at r
 induction r with
 | nil=>rfl
 | cons h t ih=>rw [List.any_cons,List.any_cons,ih,h.1]
theorem KV.repl {kvs:List (κ×V)}{vs:List (κ×Value)}(r:KV kvs vs)(k:κ){y:V}{u:Value}(ry:RelV y u) :
 KV (kvs.map λkv=>if kv.1=k then (kv.1,y) else kv) (vs.map λkv=>if kv.1=k then (kv.1,u) else kv):=by
 unfold KV at r ⊢
 induction r with
 | nil=>exact .nil
 | @cons p q ps qs h t ih=>
   rw [List.map_cons,List.map_cons];refine .cons ?_ ih;obtain ⟨h1,h2⟩:=h
   by_cases e:p.1=k
   ·rw [if_pos e,if_pos (h1.symm.trans e)];exact ⟨h1,ry⟩
   ·rw [if_neg e,if_neg (λz=>e (h1.trans z))];exact ⟨h1,h2⟩
theorem KV.put {kvs:List (κ×V)}{vs:List (κ×Value)}(r:KV kvs vs)(k:κ){y:V}{u:Value}(ry:RelV y u):KV (Dj kvs k y) (stored vs k u):=by
 unfold Dj stored;rw [r.any k]
 by_cases e:(vs.any λkv=>decide (kv.1=k))=true
 ·rw [if_pos e,if_pos e];exact r.repl k ry
 ·rw [if_neg e,if_neg e];exact Paired.snoc r ⟨rfl,ry⟩
theorem KV.length {kvs:List (κ×V)}{vs:List (κ×Value)}(r:KV kvs vs):kvs.length=vs.length:=Paired.length r
end
theorem NA {k:Key}{u:Value}(r:RelV (kV k) u):(Cl P w).is k u=true:=by
 cases k with
 | inl i=>obtain ⟨t,e⟩:=(show ∃t,u=Value.int i t from r);subst e;exact LQ P w i t
 | inr x=>obtain ⟨t,e⟩:=(show ∃t,u=Value.str x t from r);subst e;exact LR P w x t
abbrev KT (H:Hp):List (List Key×V)->List (List Key×Addr×Value)->Prop:=Paired λp q=>p.1=q.1/\H q.2.1=some (.tup (p.1.map kV))/\RelV p.2 q.2.2
variable {kvs:List (Key×V)}
section
variable {P:Program}{w:World}{H:Hp}{h:Heap}{a:Addr}
theorem Yf {u:HO}(ok:HOk P w H h)(e:Rd H a u):ObjOk P w H h a u:=e.ok ok
theorem XI (ok:HOk P w H h)(e:Rd H a (.dK kvs)):kvs.length<=sizeLine/\(a == sysModules)=false/\∃vs,KV kvs vs/\h.DictOf (Cl P w) a vs:=
 show ObjOk P w H h a (.dK kvs) from Yf ok e
theorem Nn (ok:HOk P w H h)(e:H a=some (.dK kvs)):kvs.length<=sizeLine/\(a == sysModules)=false/\∃vs,KV kvs vs/\h.DictOf (Cl P w) a vs:=XI ok (.inl e)
end
def DGet (H:Hp)(a:Addr)(y:V)(r:Option V):Prop:=
 (∃kvs k,Rd H a (.dK kvs)/\y=kV k/\r=Ey kvs k)\/∃kvs k b,Rd H a (.dT kvs)/\y = .ref b/\H b=some (.tup (k.map kV))/\r=Ey kvs k
def aM (H:Hp)(a:Addr)(y v:V)(H':Hp):Prop:=
 (∃kvs k,H a=some (.dK kvs)/\y=kV k/\kvs.length < sizeLine/\H'=upd H a (.dK (Dj kvs k v)))\/
 ∃kvs k b,H a=some (.dT kvs)/\y = .ref b/\H b=some (.tup (k.map kV))/\kvs.length < sizeLine/\H'=upd H a (.dT (Dj kvs k v))
theorem DGet.k {H:Hp}{a:Addr}{k:Key}(e:H a=some (.dK kvs)):DGet H a (kV k) (Ey kvs k):=.inl ⟨kvs,k,.inl e,rfl,rfl⟩
section
variable {X:Cx}{pins:List (Addr×Obj)}{σ:St}{H:Hp}{s:Shared}{a:Addr}{y v:V}{u r:Value}{o:Option V}{A:Around}{E:Value->Shared->Prop}
theorem Inv.big (I:Inv X pins σ H s):sysModules < s.heap.objs.size:=by
 have h:mainGlobals < s.heap.objs.size:=(I.mod.glob.keeps I.bk).lt;exact Nat.lt_trans (by decide) h
theorem L8 {h':Heap}{t':Nat}{ob:HO}(I:Inv X pins σ H s)(mu:Mut (H a))(hs:Heap.SameBut a s.heap h')(he:∃q,h'.get? a=some q)(new:ObjOk X.prog X.w (upd H a ob) h' a ob) :
 Inv X pins σ (upd H a ob) { s with heap:=h',toks:=t' }:=
 I.write (x:=a) (e:=a) mu (.inl rfl) (λb q hb z=>(hs.2 b hb).trans z) he new
theorem OA {H':Hp}{h':Heap}{vs:List (Key×Value)}(z:kvs.length<=sizeLine)(hd:(a == sysModules)=false)(rel:KV kvs vs)(dd:h'.DictOf (Cl P w) a vs) :
 ObjOk P w H' h' a (.dK kvs):=⟨z,hd,vs,rel,dd⟩
end
section
variable {X:Cx}{pins:List (Addr×Obj)}{σ:St}{H:Hp}{s:Shared}{a:Addr}{kvs:List (Key×V)}{k:Key}{u:Value}{A:Around}{E:Value->Shared->Prop}
end
section
variable {X:Cx}{o i e value:Expr}{pos pos' tpos:Pos}{td ty tv:TE}
end
theorem Qu {H:Hp}(h:Heap)(hb:sysModules < h.objs.size):ObjOk P w H (h.push { cls:=.type "dict",data:=.dict #[] }) h.objs.size (.dK []):=
 ⟨Nat.zero_le _,beq_eq_false_iff_ne.mpr (Ne.symm (Nat.ne_of_lt hb)),[],.nil,Heap.DictOf.new h⟩
section
variable {X:Cx}{pos:Pos}
end
def II:List (TE×TE)->St->Hp->(List (V×V)->Hp->Prop)->Prop
 | [],_,H,Q=>Q [] H
 | (tk,tv) :: r,σ,H,Q=>tk σ H λx H1=>tv σ H1 λy H2=>II r σ H2 λps H3=>Q ((x,y) :: ps) H3
abbrev VV:List (V×V)->List (Value×Value)->Prop:=Paired λp q=>RelV p.1 q.1/\RelV p.2 q.2
def PPs (X:Cx)(pos:Pos)(keys:List (Option Expr))(values:List Expr)(trs:List (TE×TE)):Prop:=
 ∀(pins:List (Addr×Obj)) (s:Shared) (σ:St) (H:Hp) (Q:List (V×V)->Hp->Prop),Inv X pins σ H s->II trs σ H Q->
  wpAny (model X.prog X.w) X.A (evalPairs (pairTrees keys values X.env pos)) (λvs s'=>∃ps H',Inv X pins σ H' s'/\VV ps vs/\Q ps H') X.xe s
theorem Uu {pos:Pos}:PPs X pos [] [] []:=λpins s σ H Q I h=>pairTrees_nil_walk ⟨[],H,I,.nil,h⟩
theorem Ro {pos:Pos}{k v:Expr}{ks:List (Option Expr)}{vs:List Expr}{tk tv:TE}{trs:List (TE×TE)}(hk:PE X k tk)(hv:PE X v tv)(hr:PPs X pos ks vs trs) :
 PPs X pos (some k :: ks) (v :: vs) ((tk,tv) :: trs):=λpins s σ H Q I h=>
 pairTrees_cons_walk (thn (hk pins s σ H _ I h) λu s1 ⟨x,H1,I1,rx,q1⟩=>thn (hv pins s1 σ H1 _ I1 q1) λw2 s2 ⟨y,H2,I2,ry,q2⟩=>
  thn (hr pins s2 σ H2 _ I2 q2) λws s3 ⟨ps,H3,I3,rel,q3⟩=>⟨(x,y) :: ps,H3,I3,.cons ⟨rx,ry⟩ rel,q3⟩)
def E1 (kvs more:List (Key×V)):List (Key×V):=more.foldl (λacc kv=>Dj acc kv.1 kv.2) kvs
theorem KV.merge:∀{more:List (Key×V)} {rs:List (Key×Value)} {kvs:List (Key×V)} {vs:List (Key×Value)},KV more rs->KV kvs vs->KV (E1 kvs more) (merged vs rs):=by
 intro more rs kvs vs r;unfold KV at r
 induction r generalizing kvs vs with
 | nil=>intro q;exact q
 | @cons p q ps qs h t ih=>
   intro r0;have e:KV (Dj kvs p.1 p.2) (stored vs q.1 q.2):=by
    have:=r0.put p.1 h.2;rw [<-h.1];exact this
   exact ih e
theorem F5:∀(more kvs:List (Key×V)),(E1 kvs more).length<=kvs.length + more.length
 | [],kvs=>by show kvs.length<=kvs.length + 0;lia
 | p :: r,kvs=>by
   have h1:=F5 r (Dj kvs p.1 p.2);have h2:=Hh kvs p.1 p.2;show (E1 (Dj kvs p.1 p.2) r).length<=_;rw [List.length_cons];lia
theorem Ia {P:Program}{w:World}:∀{kvs:List (Key×V)} {ws:List (Value×Value)},VV (kvs.map λkv=>(kV kv.1,kv.2)) ws->∃rs,Carries (Cl P w) ws rs/\KV kvs rs
 | [],_,r=>by rw [List.map_nil] at r;cases r;exact ⟨[],True.intro,.nil⟩
 | p :: kvs,_,r=>by
   rw [List.map_cons] at r
   cases r with
   | @cons a b as bs h t=>
     obtain ⟨rs,c,q⟩:=Ia (P:=P) (w:=w) t;obtain ⟨b1,b2⟩:=b;exact ⟨(p.1,b2) :: rs,⟨NA h.1,rfl,c⟩,.cons ⟨rfl,h.2⟩ q⟩
def Yp (trs:List (TE×TE)):TE:=λσ H Q=>∀p,H p=none->II trs σ (upd H p (.dK [])) λps H2=>H2 p=some (.dK [])/\∃kvs:List (Key×V),ps=kvs.map (λkv=>(kV kv.1,kv.2))/\kvs.length<=15/\Q (.ref p) (upd H2 p (.dK (E1 [] kvs)))
theorem Ui {pos:Pos}{keys:List (Option Expr)}{values:List Expr}{trs:List (TE×TE)}(h:PPs X pos keys values trs)(hall:keys.all (·.isSome)=true)(hl:keys.length=values.length)(h0:keys≠[])
 (h15:keys.length<=15):PE X (.Dict keys values pos) (Yp trs):=by
 intro pins s σ H Q I q;have hn:=I.hok.fresh (Nat.le_refl s.heap.objs.size);have I1:=I.laid (a:=s.heap.objs.size) (o:=.dK []) (h':=s.heap.push { cls:=.type "dict",data:=.dict #[] }) (t':=s.toks) (λ_ _ q=>Heap.get?_push_of_some _ q) (Nat.le_refl _) (Qu s.heap I.big);refine wpAny_Dict_walk (knd:=Cl X.prog X.w) hall hl h0 h15 (thn (h pins _ σ _ _ I1 (q _ hn)) λws s2 z9=>?_);obtain ⟨ps,H2,I2,rel,e,kvs,ep,lk,q2⟩:=z9;subst ep;obtain ⟨rs,c,rk⟩:=Ia (P:=X.prog) (w:=X.w) rel;obtain ⟨z,hd,vs0,r0,dd⟩:=Nn I2.hok e
 cases r0
 refine ⟨rs,c,dd,λh' dd' hs=>⟨.ref s.heap.objs.size,_,?_,rfl,q2⟩⟩;have hz:(E1 [] kvs).length<=sizeLine:=by
  have h1:=F5 kvs [];rw [List.length_nil] at h1;rw [sizeLine_eq];lia
 have he:∃q,h'.get? s.heap.objs.size=some q:=let ⟨q,_,_,hq,_⟩:=dd';⟨q,hq⟩;exact L8 I2 (by rw [e];exact True.intro) hs he (OA hz hd (rk.merge .nil) dd')
theorem ES {env:Env}:∀(l:List (Str×NameKind)) (cs:List (Str×Addr)),(∀x c,cs.lookup x=some c->env.cells.lookup x=some c)->(∀y∈l,y.2 = .free->∃c,env.cells.lookup y.1=some c)->
 ∃cl,(forIn l cs λ(x:Str×NameKind) r=>(match x with | (name,kind)=>if (kind == NameKind.free)=true then do let c <-cellOf env name;pure (ForInStep.yield ((name,c) :: r)) else pure (ForInStep.yield r):Sem (ForInStep (List (Str×Addr)))))=pure cl/\
  (∀x c,cl.lookup x=some c->env.cells.lookup x=some c)/\(∀x c,cs.lookup x=some c->∃c',cl.lookup x=some c')/\∀y∈l,y.2 = .free->∃c,cl.lookup y.1=some c
 | [],cs,h,_=>⟨cs,rfl,h,λ_ c e=>⟨c,e⟩,λ_ z=>nomatch z⟩
 | (n,k) :: l,cs,h,hf=>by
   by_cases hk:k = .free
   ·subst hk;obtain ⟨c,hc⟩:=hf (n,.free) List.mem_cons_self rfl;have hc':env.cells.lookup n=some c:=hc;have e:cellOf env n=pure c:=by unfold cellOf;rw [hc']
    obtain ⟨cl,e1,e2,e3,e4⟩:=ES l ((n,c) :: cs) (λx c' q=>by
     rw [List.lookup_cons] at q
     by_cases hx:(x == n)=true
     ·rw [hx] at q;cases q;rw [eq_of_beq hx];exact hc'
     ·rw [Bool.eq_false_iff.mpr hx] at q;exact h x c' q) (λy hy=>hf y (List.mem_cons_of_mem _ hy))
    have self:((n,c) :: cs).lookup n=some c:=by rw [List.lookup_cons,beq_self_eq_true]
    refine ⟨cl,?_,e2,λx c' q=>?_,λy hy hyf=>?_⟩
    ·rw [List.forIn_cons];simp only [beq_self_eq_true,if_true,e];exact e1
    ·by_cases hx:(x == n)=true
     ·rw [eq_of_beq hx];exact e3 n c self
     ·exact e3 x c' (by rw [List.lookup_cons,Bool.eq_false_iff.mpr hx];exact q)
    ·rcases List.mem_cons.mp hy with z | z
     ·subst z;exact e3 n c self
     ·exact e4 y z hyf
   ·have hb:(k == NameKind.free)=false:=by simpa using hk
    obtain ⟨cl,e1,e2,e3,e4⟩:=ES l cs h (λy hy=>hf y (List.mem_cons_of_mem _ hy));refine ⟨cl,?_,e2,e3,λy hy hyf=>?_⟩
    ·rw [List.forIn_cons];simp only [hb,Bool.false_eq_true,if_false];exact e1
    ·rcases List.mem_cons.mp hy with z | z
     ·subst z;exact absurd hyf hk
     ·exact e4 y z hyf
theorem Ib {scope:Scope}{env:Env}(h:∀y∈scope.names,y.2 = .free->∃c,env.cells.lookup y.1=some c) :
 ∃cl,closureFor scope env=pure cl/\(∀x c,cl.lookup x=some c->env.cells.lookup x=some c)/\∀y∈scope.names,y.2 = .free->∃c,cl.lookup y.1=some c:=by
 obtain ⟨cl,e1,e2,_,e4⟩:=ES (env:=env) scope.names [] (λ_ _ q=>nomatch q) h;refine ⟨cl,?_,e2,e4⟩;simp only [closureFor]
 first | (rw [e1];rfl) | (simp only [e1];rfl) | (trace_state;exact e1)
theorem KA {prog:Program}{A:Around}{R:Result->Shared->Prop}{s:Shared}{elt target iter:Expr}{ifs:List Expr}{scope:Scope}{pos:Pos}{it acc:Value}{env:Env}(I:Nat->Shared->Prop)
 (turn:∀n s,I n s->wpAny (model prog w) A (pyNext it) (λr s₁=>match r with
   | none=>R (.ok .next) s₁
   | some v=>wpAny (model prog w) A (letOwnedTupleGo target it v) (λ_ s₁'=>wpAny (model prog w) A (assign target env v) (λ_ s₂=>
      wpAny (model prog w) A (forIn ifs true λc r=>if r=true then do let ok <-isTrue c env (eval c env);pure (ForInStep.yield ok) else pure (ForInStep.yield r)) (λok s₃=>
       if ok=true then wpAny (model prog w) A (eval elt env) (λx s₄=>
        wpAny (model prog w) A (call (.builtin "list.append") [acc,x]) (λ_ s₅=>∃m,m < n/\I m s₅) (λ_ _=>False) s₄) (λ_ _=>False) s₃
       else ∃m,m < n/\I m s₃) (λ_ _=>False) s₂) (λ_ _=>False) s₁') (λ_ _=>False) s₁) (λ_ _=>False) s)
 (n:Nat) (h:I n s) :
 codeAny (model prog w) A (.compLoop (.ListComp elt [⟨target,iter,ifs,0⟩] scope pos) 0 it acc env) R s:=by
 refine codeAny_loop rfl I (λn s hI=>?_) n h;show wpAny _ A ((compTurn (.ListComp elt [⟨target,iter,ifs,0⟩] scope pos) 0 it acc env).onRaise (λx=>do noteFrame x env;theTreesLotGoes x)) _ _ s;refine wpAny_noted ?_;rw [compTurn_list];refine wpAny_bind (wpAny_standAt (wpAny_bind (wpAny_mono (turn n s hI) (λr s₁ h₁=>?_) λ_ _ h'=>h'.elim)))
 cases r with
 | none=>exact wpAny_pure h₁
 | some v=>
   refine wpAny_bind (wpAny_mono h₁ (λ_ s₁' h₁'=>?_) λ_ _ h'=>h'.elim);refine wpAny_bind (wpAny_mono h₁' (λ_ s₂ h₂=>wpAny_bind (wpAny_mono h₂ (λok s₃ h₃=>?_) λ_ _ h'=>h'.elim)) λ_ _ h'=>h'.elim)
   cases ok with
   | false=>exact wpAny_pure ⟨rfl,h₃⟩
   | true=>
     exact wpAny_bind (wpAny_bind (wpAny_mono h₃ (λx s₄ h₄=>wpAny_bind (wpAny_mono h₄ (λ_ s₅ h₅=>wpAny_pure (wpAny_pure ⟨rfl,h₅⟩)) λ_ _ h'=>h'.elim)) λ_ _ h'=>h'.elim))
end L2
set_option maxHeartbeats 2000000
namespace L2
open PySem PySem.Spec PyProof.Rows
noncomputable def Bv (X:Cx)(N':List Str)(scope:Scope)(cl:List (Str×Addr))(C:Addr)(s2:Shared)(H2:Hp)(fp:List Addr):Cx where
 prog:=X.prog
 w:=X.w
 K:=X.K
 mg:=X.mg
 base:=X.base
 A:=X.A
 N:=N'
 s₀:=s2
 H₀:=H2
 env:=compEnvC scope cl C X.env
 outer:=X.stack
 stack:=X.stack
 ex:=fp
 fn:=λ_=>false
 calm:=X.calm
 pn:=[]
 xe:=λ_ _=>False
theorem Hi (h:Str->NameKind->NameKind)(x:Str):∀l:List (Str×NameKind),(l.map λp=>(p.1,h p.1 p.2)).lookup x=(l.lookup x).map (h x)
 | []=>rfl
 | (n,k) :: l=>by
   show List.lookup x ((n,h n k) :: _)=_;rw [List.lookup_cons,List.lookup_cons]
   by_cases hx:(x == n)=true
   ·rw [hx,eq_of_beq hx];rfl
   ·rw [Bool.eq_false_iff.mpr hx];exact Hi h x l
theorem FA (scope:Scope)(env:Env)(x:Str):(relabel scope env).names.lookup x=(scope.names.lookup x).map λk=>if (k == .free && env.scope.kind == .function && env.kindOf x == some .cell)=true then .cell else k:=by
 rw [<-Hi (λn k=>if (k == NameKind.free && env.scope.kind == .function && env.kindOf n == some .cell)=true then .cell else k) x scope.names];unfold relabel;dsimp only
 congr 1
 apply List.map_congr_left;intro p _;obtain ⟨n,k⟩:=p;dsimp only
 split <;> rfl
theorem Ck {x:Str}{k:NameKind}:∀{l:List (Str×NameKind)},l.lookup x=some k->(x,k)∈l
 | (n,k') :: l,h=>by
   rw [List.lookup_cons] at h
   by_cases hx:(x == n)=true
   ·rw [hx] at h;cases h;rw [eq_of_beq hx];exact List.mem_cons_self
   ·rw [Bool.eq_false_iff.mpr hx] at h;exact List.mem_cons_of_mem _ (Ck h)
theorem Ll {scope:Scope}{env:Env}{x:Str}(hcell:∀y∈scope.names,y.2≠.cell)(h:(relabel scope env).names.lookup x=some .cell\/(relabel scope env).names.lookup x=some .free):scope.names.lookup x=some .free:=by
 rw [FA] at h
 cases e:scope.names.lookup x with
 | none=>rw [e] at h;rcases h with h | h <;> cases h
 | some k=>
   by_cases hk:k = .free
   ·rw [hk]
   ·have hb:(k == NameKind.free)=false:=by simpa using hk
    rw [e] at h;simp only [Option.map_some,hb,Bool.false_and,Bool.false_eq_true,if_false] at h;rcases h with h | h
    ·cases h;exact absurd rfl (hcell _ (Ck e))
    ·cases h;exact absurd rfl hk
def PIf (X:Cx)(ifs:List Expr)(t:TT):Prop:=
 ∀(pins:List (Addr×Obj)) (s:Shared) (σ:St) (H:Hp) (Q:Bool->Hp->Prop),Inv X pins σ H s->t σ H Q->
  wpAny (model X.prog X.w) X.A (forIn ifs true λc r=>if r=true then do let ok <-isTrue c X.env (eval c X.env);pure (ForInStep.yield ok) else pure (ForInStep.yield r)) (TP X pins σ Q) X.xe s
def Yu:TT:=λ_ H Q=>Q true H
theorem Uo {X:Cx}:PIf X [] Yu:=λ_ _ _ H _ I h=>wpAny_tests_nil ⟨H,I,h⟩
theorem Up {X:Cx}{c:Expr}{t:TT}(h:PT X c t):PIf X [c] t:=λpins s σ H Q I q=>wpAny_tests_one (h pins s σ H Q I q)
def P2 (J:It)(g:TG)(tt:TT)(te:TE)(σ₀:St)(H1:Hp)(Fin:List V->Hp->Prop):Prop:=
 ∃W:Nat->Nat->List V->St->Hp->Prop,(∃m,W 0 m [] σ₀ H1)/\∀i m acc σ' H',W i m acc σ' H'->acc.length<=sizeLine/\
  ((J.stop i H'/\Fin acc H')\/
    (J.go i H'/\∀x H2,J.yld i H' x H2->g x σ' H2 λσ3 H3=>tt σ3 H3 λb H4=>if b=true then te σ3 H4 λv H5=>∃m',m' < m/\W (i + 1) m' (acc++[v]) σ3 H5 else ∃m',m' < m/\W (i + 1) m' acc σ3 H4))
def Kc (wi:TI)(g:TG)(tt:TT)(te:TE)(σf:St->St):TE:=λσ H Q=>wi σ H λJ H1=>P2 J g tt te (σf σ) H1 λacc H'=>∀p,H' p=none->acc.length<=sizeLine->Q (.ref p) (upd H' p (.lst acc))
structure CmpOk (X:Cx)(scope:Scope)(N':List Str)(σf:St->St):Prop where
 kind:scope.kind = .function
 cell:∀y∈scope.names,y.2≠.cell
 loc:∀y∈scope.names,y.2 = .local->scope.names.lookup y.1=some .local
 free:∀y∈scope.names,y.2 = .free->X.env.kindOf y.1=some .cell\/X.env.kindOf y.1=some .free
 len:∀σ:St,σ.length=X.N.length->(σf σ).length=N'.length
 vals:∀(σ:St) (j:Nat) (x:Str) (v:V),N'[j]?=some x->(σf σ)[j]?=some (some v)->∃i:Nat,X.N[i]?=some x/\σ[i]?=some (some v)/\scope.names.lookup x=some .free
variable {pins:List (Addr×Obj)}{σ:St}{H2:Hp}{s2:Shared}{cl:List (Str×Addr)}{fp:List Addr}
section
variable {X:Cx}{tg elt iter:Expr}{ifs:List Expr}{scope:Scope}{pos:Pos}{N':List Str}{wi:TI}{g:TG}{tt:TT}{te:TE}{σf:St->St}
theorem Vq {C:Addr}(O:CmpOk X scope N' σf)(I2:Inv X pins σ H2 s2)(f2:∀b∈fp,FpOk X pins H2 b)(hC:s2.heap.objs.size<=C)
 (hlt:∀b∈fp,b < s2.heap.objs.size) (e2:∀x c,cl.lookup x=some c->X.env.cells.lookup x=some c) (e4:∀y∈scope.names,y.2 = .free->∃c,cl.lookup y.1=some c):(Bv X N' scope cl C s2 H2 fp).Ok where
 mod:=I2.ok.mod
 kind:=O.kind
 glob:=I2.ok.glob
 blt:=I2.ok.blt
 above:=hC
 inj:=λx y c h1 h2=>I2.ok.inj x y c (e2 x c h1) (e2 y c h2)
 has:=λx h=>by
  have q:=Ll (env:=X.env) (x:=x) O.cell h;exact e4 _ (Ck q) rfl
 cab:=λx c h _=>nomatch h
 hd:=I2.ok.hd
 frames:=I2.ok.frames
 stk:=.inl rfl
 exf:=λb hb=>⟨Nat.ne_of_lt (Nat.lt_of_lt_of_le (hlt b hb) hC),λx c e=>(f2 b hb).2.2.2.2.1 x c (e2 x c e)⟩
 bs:=I2.bs
 bsz:=Nat.le_trans I2.ok.bsz I2.sz
 noex:=λb o e hb=>by
  rcases (f2 b hb).2.2.2.1 with z | z
  ·exact I2.ok.noex b o e z
  ·exact absurd (Nat.lt_of_lt_of_le (Heap.lt_size (I2.ok.bs b o e).1) z) (Nat.lt_irrefl _)
 exfs:=λb hb z=>by
  rcases List.mem_cons.mp (I2.stkSub b z) with q | q
  ·exact (f2 b hb).2.1 q
  ·exact (f2 b hb).2.2.1 q
 funs:=I2.stack
 frf:=I2.stkFree
theorem Xb (I2:Inv X pins σ H2 s2){a:Addr}(h:s2.heap.objs.size<=a):a∉frs X.stack:=λhb=>by
 rcases List.mem_cons.mp (I2.stkSub a hb) with q | q
 ·exact absurd (Nat.lt_of_lt_of_le I2.lt h) (by rw [q];exact Nat.lt_irrefl _)
 ·exact I2.nofs h q
theorem Kl {it:Addr}{tn:Nat->Heap->Prop}{J:It}{Fin:List V->Hp->Prop}{RR:Value->Addr->Result->Shared->Prop}{E:Value->Shared->Prop}(O:CmpOk X scope N' σf)(hc:X.calm=true)
 (I2:Inv X pins σ H2 s2) (T:Turn X.prog X.w X.K tg J fp it tn) (st2:tn 0 s2.heap) (f2:∀b∈fp,FpOk X pins H2 b)
 (e2:∀x c,cl.lookup x=some c->X.env.cells.lookup x=some c) (e4:∀y∈scope.names,y.2 = .free->∃c,cl.lookup y.1=some c)
 (hg:∀C,PG (Bv X N' scope cl C s2 H2 fp) tg g) (ht:∀C,PIf (Bv X N' scope cl C s2 H2 fp) ifs tt) (he:∀C,PE (Bv X N' scope cl C s2 H2 fp) elt te)
 (B:P2 J g tt te (σf σ) H2 Fin)
 (fin:∀C s' σ' H' acc m,s2.heap.objs.size<=C->C≠s2.heap.objs.size->Inv (Bv X N' scope cl C s2 H2 fp) [] σ' H' s'->H' s2.heap.objs.size=none->acc.length<=sizeLine->(∃its n,Vals acc its/\s'.heap.get? s2.heap.objs.size=some { cls:=.type "list",data:=.seq its.toArray n })->Fin acc H'->s'.heap.Ns C m->
   RR (.ref s2.heap.objs.size) C (.ok .next) s') :
 wpAny (model X.prog X.w) X.A (newList []) (λacc s₃=>wpAny (model X.prog X.w) X.A (newFunctionEnv scope X.env.globals cl [] X.env.qual none .none (some X.env)) (λcenv s₄=>
  codeAny (model X.prog X.w) X.A (.compStart (.ListComp elt [⟨tg,iter,ifs,0⟩] scope pos) 0 (.ref it) acc { cenv with scope:=relabel scope X.env }) (RR acc cenv.locals) s₄) E s₃) E s2:=by
 refine wpAny_newObj_type (wpAny_newFunctionEnv O.cell (by intro y hy;simp at hy) (λh₁ hns₁ hsb₁=>?_) O.kind);dsimp only at hns₁ hsb₁ ⊢;generalize hH2:s2.heap.push { cls:=.type "list",dict:=none,data:=.seq ([]:List Value).toArray }=HP at hns₁ hsb₁ ⊢;have hC:HP.objs.size=s2.heap.objs.size + 1:=by rw [<-hH2,Heap.size_push]
 generalize hDD:s2.heap.objs.size=DD at *;generalize hCC:HP.objs.size=CC at *;have hDC:DD≠CC:=by rw [hC];exact Nat.ne_of_lt (Nat.lt_succ_self _)
 have hCle:s2.heap.objs.size<=CC:=by rw [hC,hDD];exact Nat.le_succ _
 have hlt:∀b∈fp,b < s2.heap.objs.size:=λb hb=>by obtain ⟨o,e,_⟩:=T.obj _ _ st2 b hb;exact Heap.lt_size e
 have hlt':∀b∈fp,b < DD:=λb hb=>by rw [<-hDD];exact hlt b hb
 have below:∀b,b < DD->b≠CC/\b≠DD:=λb hb=>⟨by rw [hC];exact Nat.ne_of_lt (Nat.lt_succ_of_lt hb),Nat.ne_of_lt hb⟩;have old:∀b o,s2.heap.get? b=some o->h₁.get? b=some o:=λb o e=>hsb₁.extBut b o (below b (by rw [<-hDD];exact Heap.lt_size e)).1 (Heap.get?_push_of_some _ (hH2 ▸ Heap.get?_push_of_some _ e));have hacc:h₁.get? DD=some { cls:=.type "list",data:=.seq ([]:List Value).toArray }:=by
  refine hsb₁.extBut _ _ hDC (Heap.get?_push_of_some _ ?_);rw [<-hH2,<-hDD];exact Heap.get?_push_size _ rfl
 have ok:=Vq (cl:=cl) (C:=CC) O I2 f2 hCle hlt e2 e4;have hfs:DD∉frs X.stack:=Xb I2 (by rw [hDD];exact Nat.le_refl _);obtain ⟨W,⟨m0,w0⟩,turn⟩:=B
 let X':Cx:=Bv X N' scope cl CC s2 H2 fp
 have I0:Inv X' [] (σf σ) H2 { s2 with heap:=h₁,toks:=s2.toks + ([]:List (Str×Value)).length }:=by
  refine ⟨ok,rfl,I2.bare,Un.kept old,⟨_,hns₁,λj x v q1 q2 q3=>?_⟩,λx c e=>?_,I2.hok.fresh hCle,λx c e=>I2.freeC x c (e2 x c e),(λp hp=>nomatch hp),I2.hok.kept old,O.len σ I2.len⟩
  ·obtain ⟨i,n1,n2,n3⟩:=O.vals σ j x v q1 q2;obtain ⟨m,_,hl⟩:=I2.loc;have hfr:=O.free _ (Ck n3) rfl;obtain ⟨u,r,l⟩:=hl i x v n1 n2 (.inr hfr);refine ⟨u,r,?_⟩;rcases l with ⟨k,_⟩ | ⟨_,c,ec,hcell⟩
   ·rcases hfr with z | z <;> (have z':=k.symm.trans z;cases z')
   ·obtain ⟨c',ec'⟩:=e4 _ (Ck n3) rfl;have z:=e2 _ _ ec';have ez:X.env.cells.lookup x=some c':=z;rw [ec] at ez
    cases ez
    refine .inr ⟨?_,c,ec',?_⟩
    ·show (relabel scope X.env).names.lookup x=some .cell\/(relabel scope X.env).names.lookup x=some .free;rw [FA,n3];simp only [Option.map_some]
     split
     ·exact .inl rfl
     ·exact .inr rfl
    ·obtain ⟨o,ho,hd⟩:=hcell;exact ⟨o,old _ _ ho,hd⟩
  ·obtain ⟨v,o,ho,hd⟩:=I2.cell x c (e2 x c e);exact ⟨v,o,old _ _ ho,hd⟩
 have loop:∀s₃:Shared,s₃ = { s2 with heap:=h₁,toks:=s2.toks + ([]:List (Str×Value)).length }->
  codeAny (model X.prog X.w) X.A (.compLoop (.ListComp elt [⟨tg,iter,ifs,0⟩] scope pos) 0 (.ref it) (.ref DD) (compEnvC scope cl CC X.env)) (RR (.ref DD) CC) s₃:=by
  rintro s₃ rfl;refine KA (λn s'=>∃i acc its nn σ' H',Inv X' [] σ' H' s'/\tn i s'.heap/\(∀b∈fp,H' b=none)/\Vals acc its/\s'.heap.get? DD=some { cls:=.type "list",data:=.seq its.toArray nn }/\H' DD=none/\W i n acc σ' H') ?_ m0
   ⟨0,[],[],0,σf σ,H2,I0,T.keep _ _ _ st2 (λb _ o e=>old b o e),λb hb=>(f2 b hb).1,.nil,hacc,I2.hok.fresh (by rw [hDD];exact Nat.le_refl _),w0⟩
  rintro n s' ⟨i,acc,its,nn,σ3,H3,I3,st3,fr3,hv,hD,hDn,w3⟩;have I3p:Inv X' [(DD,({ cls:=.type "list",data:=.seq its.toArray nn }:Obj))] σ3 H3 s':=I3.pins_of λp hp=>by
   have e:p=(DD,({ cls:=.type "list",data:=.seq its.toArray nn }:Obj)):=by simpa using hp
   subst e;exact ⟨hD,hDn,hDC,hfs,λv z=>nomatch z⟩
  have stat:∀{pins':List (Addr×Obj)} {H':Hp},(∀p∈pins',p.1=DD)->(∀b∈fp,H' b=none)->∀b∈fp,FpOk X' pins' H' b:=λ{pins' H'} hp hn b hb=>
   ⟨hn b hb,(ok.exf b hb).1,ok.exfs b hb,.inl hb,(ok.exf b hb).2,λp hp' z=>by
    have e:p.1=DD:=hp p (by simpa [X',Bv] using hp');exact absurd (hlt' b hb) (by rw [<-z,e];exact Nat.lt_irrefl _)⟩
  have one:∀p∈[(DD,({ cls:=.type "list",data:=.seq its.toArray nn }:Obj))],p.1=DD:=λp hp=>by
   have e:p=(DD,({ cls:=.type "list",data:=.seq its.toArray nn }:Obj)):=by simpa using hp
   rw [e]
  obtain ⟨hz,tr⟩:=turn i n acc σ3 H3 w3;rcases tr with ⟨stop,qf⟩ | ⟨go,step⟩
  ·refine thn (T.done X' rfl rfl rfl hc i _ s' σ3 H3 (λ_ _=>False) I3p (stat one fr3) st3 stop) λr s4 z9=>?_;obtain ⟨hr,I4⟩:=z9;subst hr;obtain ⟨m4,hm4,_⟩:=I4.loc;have pD:=(I4.pin (DD,({ cls:=.type "list",data:=.seq its.toArray nn }:Obj)) (by simp [X',Bv])).1;have I4':Inv X' [] σ3 H3 s4:=I4.pins_of λp hp=>nomatch hp;exact fin CC s4 σ3 H3 acc m4 (by rw [hDD] at hCle;exact hCle) (Ne.symm hDC) I4' hDn hz ⟨its,nn,hv,pD⟩ qf hm4
  ·refine thn (T.item X' rfl rfl rfl hc i _ s' σ3 H3 (λ_ _=>False) I3p (stat one fr3) st3 go) λr s4 z9=>?_;obtain ⟨u,hr,h4⟩:=z9;subst hr;refine thn h4 λ_ s5 z9=>?_;obtain ⟨x,H5,I5,r5,y5,st5,fr5⟩:=z9;have I5':=I5.pinned (stat one fr5) (T.obj _ _ st5);refine thn (hg CC _ s5 σ3 H5 x u _ I5' r5 (step x H5 y5)) λ_ s6 z9=>?_;obtain ⟨σ6,H6,I6,q6⟩:=z9;refine thn (ht CC _ s6 σ6 H6 _ I6 q6) λb s7 z9=>?_;obtain ⟨H7,I7,q7⟩:=z9;have back:∀{H8:Hp} {s8:Shared},Inv X' ([(DD,({ cls:=.type "list",data:=.seq its.toArray nn }:Obj))]++Gz fp s5.heap) σ6 H8 s8->
    s8.heap.get? DD=some { cls:=.type "list",data:=.seq its.toArray nn }/\H8 DD=none/\tn (i + 1) s8.heap/\(∀b∈fp,H8 b=none)/\Inv X' [] σ6 H8 s8:=λ{H8 s8} I8=>by
    have p1:=I8.pin (DD,({ cls:=.type "list",data:=.seq its.toArray nn }:Obj)) (by simp [X',Bv]);refine ⟨p1.1,p1.2.1,T.keep _ _ _ st5 λb hb o e=>(I8.pin (b,o) (List.mem_append_right _ (List.mem_append_right _ (EE hb e)))).1,λb hb=>?_,I8.pins_of λp hp=>nomatch hp⟩;obtain ⟨o,e,_⟩:=T.obj _ _ st5 b hb;exact (I8.pin (b,o) (List.mem_append_right _ (List.mem_append_right _ (EE hb e)))).2.1
   cases b with
   | false=>
     rw [if_neg Bool.false_ne_true] at q7 ⊢;obtain ⟨m',hm,w7⟩:=q7;obtain ⟨a1,a2,a3,a4,a5⟩:=back I7;exact ⟨m',hm,i + 1,acc,its,nn,σ6,H7,a5,a3,a4,hv,a1,a2,w7⟩
   | true=>
     rw [if_pos rfl] at q7 ⊢;refine thn (he CC _ s7 σ6 H7 _ I7 q7) λy s8 z9=>?_;obtain ⟨v8,H8,I8,r8,m',hm,w8⟩:=z9;obtain ⟨a1,a2,a3,a4,a5⟩:=back I8;have hsz:its.toArray.size<=sizeLine:=by
      have e:=hv.length;simpa [e] using hz
     refine wpAny_list_append_plain (hsz:=hsz) ⟨nn,a1⟩ λh9 hl9 hs9=>?_;obtain ⟨n9,e9⟩:=hl9;have e9':h9.get? DD=some { cls:=.type "list",data:=.seq (its++[y]).toArray n9 }:=by simpa using e9
     refine ⟨m',hm,i + 1,acc++[v8],its++[y],n9,σ6,H8,a5.turned (t':=s8.toks) (h':=h9) (it:=DD) (λb o hb e=>hs9.extBut b o hb e) a2 hDC (.inr (show s2.heap.objs.size<=DD by rw [hDD];exact Nat.le_refl _)) (λx' c e z=>?_) (λp hp=>nomatch hp),T.keep _ _ _ a3 λb hb o e=>hs9.extBut b o (Nat.ne_of_lt (hlt' b hb)) e,a4,hv.append (.cons r8 .nil),e9',a2,w8⟩;obtain ⟨v,o,ho,hd⟩:=I2.cell x' c (e2 x' c e);have:=Heap.lt_size ho;rw [hDD,z] at this;exact Nat.lt_irrefl _ this
 exact codeAny_compStart_list (loop _ rfl) (T.self _ 0 _ _ _ (T.keep _ _ _ st2 λb _ o e=>old b o e) (loop _ rfl))
end
section
variable {X:Cx}{tg elt iter:Expr}{ifs:List Expr}{scope:Scope}{pos:Pos}{N':List Str}{wi:TI}{g:TG}{tt:TT}{te:TE}{σf:St->St}
theorem JB {σ':St}{H':Hp}{s':Shared}{C:Addr}{acc:List V}{its:List Value}{n:Nat}{h':Heap}(I2:Inv X pins σ H2 s2)(f2:∀b∈fp,FpOk X pins H2 b)
 (hC:s2.heap.objs.size<=C) (hCD:C≠s2.heap.objs.size) (I':Inv (Bv X N' scope cl C s2 H2 fp) [] σ' H' s') (hDn:H' s2.heap.objs.size=none) (hz:acc.length<=sizeLine) (hv:Vals acc its)
 (hD:s'.heap.get? s2.heap.objs.size=some { cls:=.type "list",data:=.seq its.toArray n }) (hs:Heap.SameBut C s'.heap h') :
 Inv X pins σ (upd H' s2.heap.objs.size (.lst acc)) { s' with heap:=h' }:=by
 have U:=I'.base;have lt:∀b o,s2.heap.get? b=some o->b≠C/\b≠s2.heap.objs.size:=λb o e=>⟨Nat.ne_of_lt (Nat.lt_of_lt_of_le (Heap.lt_size e) hC),Nat.ne_of_lt (Heap.lt_size e)⟩;have neD:∀b u,H' b=some u->b≠s2.heap.objs.size:=λb u e=>AC e hDn;have neC:∀b u,H' b=some u->b≠C:=λb u e=>AC e I'.free;refine I2.call' (s':={ s' with heap:=h' }) (ch:=fp) I'.os ⟨λb o e n hb hx=>?_,λb o e n hb hx=>?_,λb o e n hx=>?_,λb o e hx=>?_,λb xs e=>?_,λb o u e=>?_,λb ps e=>?_⟩ ?_ I'.bare λb hb=>⟨(f2 b hb).2.2.2.1,(f2 b hb).2.1,(f2 b hb).2.2.2.2.1,(f2 b hb).2.2.2.2.2⟩
 ·exact hs.extBut b o (lt b o e).1 (U.keep b o e n hb hx)
 ·obtain ⟨sl,q⟩:=U.slot b o e n hb hx;exact ⟨sl,hs.extBut b _ (lt b o e).1 q⟩
 ·rw [Ai (lt b o e).2];exact U.free b o e n hx
 ·obtain ⟨o',q⟩:=U.there b o e hx;exact ⟨o',hs.extBut b _ (lt b o e).1 q⟩
 ·have q:=U.tups b xs e;rw [Ai (neD b _ q)];exact q
 ·have q:=U.frzs b o u e;rw [Ai (neD b _ q)];exact q
 ·obtain ⟨m,q⟩:=U.tbls b ps e;exact ⟨m,by rw [Ai (neD b _ q)];exact q⟩
 ·intro b u e
  by_cases hb:b=s2.heap.objs.size
  ·subst hb;rw [Aj] at e
   cases e
   exact ⟨hz,its,n,hv,hs.extBut _ _ (Ne.symm hCD) hD⟩
  ·rw [Ai hb] at e;refine (I'.hok b u e).stay (λc v hc q=>hs.extBut c v ?_ q) (λc q=>by rw [Ai (neD c _ q)];exact q) λc xs q=>by rw [Ai (neD c _ q)];exact q
   rcases hc with z | z
   ·rw [z];exact neC b u e
   ·exact neC c _ z
theorem MB (O:CmpOk X scope N' σf)(hc:X.calm=true)(hi:PI X tg iter wi)
 (hg:∀cl C s2 H2 fp,PG (Bv X N' scope cl C s2 H2 fp) tg g) (ht:∀cl C s2 H2 fp,PIf (Bv X N' scope cl C s2 H2 fp) ifs tt) (he:∀cl C s2 H2 fp,PE (Bv X N' scope cl C s2 H2 fp) elt te)
 (hs:∀x,foldedSetIterable iter X.env x=pure x:=by intro _;rfl):PE X (.ListComp elt [⟨tg,iter,ifs,0⟩] scope pos) (Kc wi g tt te σf):=by
 intro pins s σ H Q I h;obtain ⟨cl,e1,e2,e4⟩:=Ib (scope:=scope) (env:=X.env) λy hy hf=>I.ok.has y.1 (O.free y hy hf);rw [eval_ListComp];refine wpAny_comprehension_free (use:=none) rfl hs e1 O.kind O.loc (thn (hi pins s σ H _ I h) λv s1 h1=>thn h1 λitv s2 h2=>?_);obtain ⟨it,fp,tn,J,H2,rfl,I2,T,st2,f2,B⟩:=h2;refine Kl (RR:=λacc C=>compPost (model X.prog X.w) X.A X.xe none (EP X pins σ Q) acc C) O hc I2 T st2 f2 e2 e4 (λC=>hg cl C s2 H2 fp) (λC=>ht cl C s2 H2 fp) (λC=>he cl C s2 H2 fp) B ?_;intro C s' σ' H' acc m hC hCD I' hDn hz hL fin hn;obtain ⟨its,n,hv,hD⟩:=hL;refine ⟨m,hn,λh' hs'=>?_⟩;exact ⟨.ref s2.heap.objs.size,upd H' _ (.lst acc),JB I2 f2 hC hCD I' hDn hz hv hD hs',rfl,fin _ hDn hz⟩
theorem MD {i:Nat}{y:Str}{py spos:Pos}(O:CmpOk X scope N' σf)(hc:X.calm=true)(hN:X.N.Nodup)(hiN:X.N[i]?=some y)(hx:X.env.scope.names.lookup y=some .local)(hi:PI X tg iter wi)
 (hg:∀cl C s2 H2 fp,PG (Bv X N' scope cl C s2 H2 fp) tg g) (ht:∀cl C s2 H2 fp,PIf (Bv X N' scope cl C s2 H2 fp) ifs tt) (he:∀cl C s2 H2 fp,PE (Bv X N' scope cl C s2 H2 fp) elt te)
 (hsw:swapsWith (.ListComp elt [⟨tg,iter,ifs,0⟩] scope pos) (some (.Name y py)) spos.line X.env=pure true:=by rfl)
 (hs:∀x,foldedSetIterable iter X.env x=pure x:=by intro _;rfl):PS X (.Assign [.Name y py] (.ListComp elt [⟨tg,iter,ifs,0⟩] scope pos) spos) (LF (Kc wi g tt te σf) (Ip i)):=by
 intro pins s σ H D I h;obtain ⟨cl,e1,e2,e4⟩:=Ib (scope:=scope) (env:=X.env) λy hy hf=>I.ok.has y.1 (O.free y hy hf);rw [exec_Assign_Name_used _ _ _ _ hsw];refine wpAny_bind (wpAny_standAt (wpAny_bind ?_));show wpAny _ X.A (do let _ <-comprehension (.ListComp elt [⟨tg,iter,ifs,0⟩] scope pos) scope X.env _ (newList []) false (eval iter X.env) (some (assign (.Name y py) X.env))) _ _ s;refine wpAny_bind (thn (wpAny_comprehension_free (use:=some (assign (.Name y py) X.env)) (Q:=λ_ s'=>SP X pins D .next s') rfl hs e1 O.kind O.loc (thn (hi pins s σ H _ I h) λv s1 h1=>thn h1 λitv s2 h2=>?_)) (λ_ s' hq=>wpAny_pure (wpAny_pure hq)));obtain ⟨it,fp,tn,J,H2,rfl,I2,T,st2,f2,B⟩:=h2;refine Kl (RR:=λacc C=>compPost (model X.prog X.w) X.A X.xe (some (assign (.Name y py) X.env)) (λ_ s'=>SP X pins D .next s') acc C) O hc I2 T st2 f2 e2 e4 (λC=>hg cl C s2 H2 fp) (λC=>ht cl C s2 H2 fp) (λC=>he cl C s2 H2 fp) B ?_;intro C s' σ' H' acc m hC hCD I' hDn hz hL fin hn;obtain ⟨its,n,hv,hD⟩:=hL;show wpAny _ X.A (assign (.Name y py) X.env (.ref s2.heap.objs.size)) _ _ _;have I3:=JB I2 f2 hC hCD I' hDn hz hv hD (Heap.SameBut.refl ..);refine wpAny_assign_Name (GF I3 hN hiN (.inl hx) (v:=.ref s2.heap.objs.size) rfl (λs4 I4 z9=>?_) (.inr hx));obtain ⟨a,hsb,ha⟩:=z9;have hCL:C≠X.env.locals:=Nat.ne_of_gt (Nat.lt_of_lt_of_le I2.lt hC);have hCc:∀x c,X.env.cells.lookup x=some c->c≠C:=λx c e z=>by
  obtain ⟨v,q⟩:=I2.cell x c e;exact absurd (Nat.lt_of_lt_of_le q.lt (by rw [z];exact hC)) (Nat.lt_irrefl _)
 have hCa:C≠a:=by
  rcases ha with z | z
  ·rw [z];exact hCL
  ·exact λq=>hCc _ _ z q.symm
 refine ⟨m,hn.sameBut hsb hCa,λh' hs'=>?_⟩;have hnC:(upd H' s2.heap.objs.size (.lst acc)) C=none:=by rw [Ai hCD];exact I'.free
 refine ⟨_,_,I4.turned (t':=s4.toks) (h':=h') (it:=C) (λb o hb e=>hs'.extBut b o hb e) hnC hCL (.inr (Nat.le_trans I2.sz hC)) hCc (λp hp z=>?_),fin _ hDn hz⟩;exact absurd (Nat.lt_of_lt_of_le (Heap.lt_size (I2.pin p hp).1) (by rw [z];exact hC)) (Nat.lt_irrefl _)
end
end L2
set_option autoImplicit false
namespace F2
open PySem L2 PySem.Spec
inductive D where
 | non | bl (b:Bool) | int (i:Int) | str (x:Str) | tup (xs:List D) | lst (xs:List D) | scr (ns:List Int) | dic | obj (k:Nat) | ty (n:String) | exc (n:Str) (xs:List D)
structure Cf where
 ι:List Addr
 O:Addr->Prop
def Cf.A (c:Cf)(a:Addr):Prop:=a∈c.ι\/c.O a
def Scr (K:PySem.W.Frag)(c:Cf)(H:Hp)(a:Addr)(vs:List V):Prop:=
 ((∃o,H a=some (.frz o (.lst vs)))/\¬c.A a)\/
   ∃(o:Obj) (its:Array Value) (n:Nat),K.lookup a=some o/\o.cls = .type "list"/\o.dict=none/\o.data = .seq its n/\its.size<=sizeLine/\Vals vs its.toList
def XIs (qx:Bool)(x C:Addr)(dx:Option Addr)(h:Heap):Prop:=∃(o:Obj) (vs:Array Value),h.get? x=some o/\o.cls = .ref C/\o.dict=dx/\o.data = .fields vs/\(qx=true->vs[2]?=some .none/\4 < vs.size)
noncomputable def Ht (n:Str):List Str:=if n = "NoTalk" then ["at"] else if n = "Broken" then ["at", "side"] else []
def XFld (c:Cf)(H:Hp)(dx:Option Addr)(ns:List Str)(vs:List V):Prop:=match dx with
 | none=>vs=[]
 | some d=>H d=some (.xd (ns.zip vs))/\¬c.A d
mutual
inductive Rep (K:PySem.W.Frag)(c:Cf)(H:Hp):V->D->Prop where
 | non:Rep K c H .non .non
 | bl (b:Bool):Rep K c H (.bl b) (.bl b)
 | int (i:Int):Rep K c H (.int i) (.int i)
 | str (x:Str):Rep K c H (.str x) (.str x)
 | ty (n:String):Rep K c H (.ty n) (.ty n)
 | tup {a:Addr} {vs:List V} {ds:List D}:H a=some (.tup vs)->¬c.A a->Reps K c H vs ds->Rep K c H (.ref a) (.tup ds)
 | lst {a:Addr} {vs:List V} {ds:List D}:H a=some (.lst vs)->¬c.A a->Reps K c H vs ds->Rep K c H (.ref a) (.lst ds)
 | scr {a:Addr} {ns:List Int}:Scr K c H a (ns.map V.int)->Rep K c H (.ref a) (.scr ns)
 | dic {a:Addr}:H a=some (.dK [])->¬c.A a->Rep K c H (.ref a) .dic
 | obj {a:Addr} {k:Nat}:c.ι[k]?=some a->Rep K c H (.ref a) (.obj k)
 | exc {qx:Bool} {x C:Addr} {dx:Option Addr} {n:Str} {vs:List V} {ds:List D}:PySem.W.nsIn K mainGlobals n=some (some (.ref C))->H x=some (.ext (XIs qx x C dx))->¬c.A x->XFld c H dx (Ht n) vs->Reps K c H vs ds->Rep K c H (.ref x) (.exc n ds)
inductive Reps (K:PySem.W.Frag)(c:Cf)(H:Hp):List V->List D->Prop where
 | nil:Reps K c H [] []
 | cons {v:V} {d:D} {vs:List V} {ds:List D}:Rep K c H v d->Reps K c H vs ds->Reps K c H (v :: vs) (d :: ds)
end
structure Ext (c:Cf)(H:Hp)(c':Cf)(H':Hp):Prop where
 keep:∀b o,H b=some o->¬c.A b->H' b=some o
 av:∀b o,H b=some o->c'.A b->c.A b
 io:∀(k:Nat) (a:Addr),c.ι[k]?=some a->c'.ι[k]?=some a
variable {c:Cf}{H:Hp}
theorem Ext.refl:Ext c H c H:=⟨λ_ _ h _=>h,λ_ _ _ h=>h,λ_ _ h=>h⟩
theorem Ext.trans {c1 c2:Cf}{H1 H2:Hp}(a:Ext c H c1 H1)(b:Ext c1 H1 c2 H2):Ext c H c2 H2:=by
 refine ⟨λx o h n=>?_,λx o h n=>?_,λk x h=>b.io k x (a.io k x h)⟩
 ·exact b.keep x o (a.keep x o h n) λz=>n (a.av x o h z)
 ·by_cases q:c.A x
  ·exact q
  ·exact a.av x o h (b.av x o (a.keep x o h q) n)
variable {K:PySem.W.Frag}{a:Addr}{vs:List V}
theorem Scr.mono {c':Cf}{H':Hp}(e:Ext c H c' H')(h:Scr K c H a vs):Scr K c' H' a vs:=by
 rcases h with ⟨⟨o,h⟩,n⟩ | h
 ·exact .inl ⟨⟨o,e.keep _ _ h n⟩,λz=>n (e.av _ _ h z)⟩
 ·exact .inr h
theorem Scr.sq (h:Scr K c H a vs):SqL K H a vs:=by
 rcases h with ⟨h,_⟩ | h
 ·exact .inl (.inr h)
 ·exact .inr h
theorem XFld.mono {c':Cf}{H':Hp}{dx:Option Addr}{ns:List Str}(e:Ext c H c' H')(h:XFld c H dx ns vs):XFld c' H' dx ns vs:=by
 cases dx with
 | none=>exact h
 | some d=>exact ⟨e.keep _ _ h.1 h.2,λz=>h.2 (e.av _ _ h.1 z)⟩
mutual
theorem Rep.mono {K:PySem.W.Frag}{c c':Cf}{H H':Hp}(e:Ext c H c' H'){v:V}{d:D}(r:Rep K c H v d):Rep K c' H' v d:=by
 cases r with
 | non=>exact .non
 | bl b=>exact .bl b
 | int i=>exact .int i
 | str x=>exact .str x
 | ty n=>exact .ty n
 | tup h n r=>exact .tup (e.keep _ _ h n) (λz=>n (e.av _ _ h z)) (Reps.mono e r)
 | lst h n r=>exact .lst (e.keep _ _ h n) (λz=>n (e.av _ _ h z)) (Reps.mono e r)
 | scr h=>exact .scr (h.mono e)
 | dic h n=>exact .dic (e.keep _ _ h n) (λz=>n (e.av _ _ h z))
 | obj h=>exact .obj (e.io _ _ h)
 | exc g h n f r=>exact .exc g (e.keep _ _ h n) (λz=>n (e.av _ _ h z)) (f.mono e) (Reps.mono e r)
theorem Reps.mono {K:PySem.W.Frag}{c c':Cf}{H H':Hp}(e:Ext c H c' H'){vs:List V}{ds:List D}(r:Reps K c H vs ds):Reps K c' H' vs ds:=by
 cases r with
 | nil=>exact .nil
 | cons h t=>exact .cons (Rep.mono e h) (Reps.mono e t)
end
section
variable {K:PySem.W.Frag}{c:Cf}{H:Hp}
theorem Reps.length:∀{vs:List V} {ds:List D},Reps K c H vs ds->vs.length=ds.length
 | _,_,.nil=>rfl
 | _,_,.cons _ t=>by simp [Reps.length t]
theorem Reps.get:∀{vs:List V} {ds:List D} {i:Nat} {v:V} {d:D},Reps K c H vs ds->vs[i]?=some v->ds[i]?=some d->Rep K c H v d
 | _,_,_,_,_,.nil,e,_=>by simp at e
 | _,_,0,_,_,.cons r _,e,e'=>by simp at e e';subst e e';exact r
 | _,_,i + 1,_,_,.cons _ t,e,e'=>Reps.get (i:=i) t (by simpa using e) (by simpa using e')
theorem Reps.at:∀{vs:List V} {ds:List D} {i:Nat} {d:D},Reps K c H vs ds->ds[i]?=some d->∃v,vs[i]?=some v/\Rep K c H v d
 | _,_,_,_,.nil,e=>by simp at e
 | _,_,0,_,.cons r _,e=>by simp at e;subst e;exact ⟨_,rfl,r⟩
 | _,_,i + 1,_,.cons _ t,e=>by
   obtain ⟨v,h1,h2⟩:=Reps.at (i:=i) t (by simpa using e);exact ⟨v,by simpa using h1,h2⟩
theorem Reps.append {vs ws:List V}{ds es:List D}(r:Reps K c H vs ds)(s:Reps K c H ws es):Reps K c H (vs++ws) (ds++es):=by
 cases r with
 | nil=>exact s
 | cons r t=>exact .cons r (Reps.append t s)
theorem Reps.take:∀{vs:List V} {ds:List D} (n:Nat),Reps K c H vs ds->Reps K c H (vs.take n) (ds.take n)
 | _,_,0,_=>.nil
 | _,_,_ + 1,.nil=>.nil
 | _,_,n + 1,.cons r t=>.cons r (Reps.take n t)
theorem Reps.drop:∀{vs:List V} {ds:List D} (n:Nat),Reps K c H vs ds->Reps K c H (vs.drop n) (ds.drop n)
 | _,_,0,r=>r
 | _,_,_ + 1,.nil=>.nil
 | _,_,n + 1,.cons _ t=>Reps.drop n t
theorem Reps.set {v:V}{d:D}(r:Rep K c H v d):∀{vs:List V} {ds:List D} (i:Nat),Reps K c H vs ds->Reps K c H (vs.set i v) (ds.set i d)
 | _,_,_,.nil=>.nil
 | _,_,0,.cons _ t=>.cons r t
 | _,_,i + 1,.cons q t=>.cons q (Reps.set r i t)
theorem Reps.ints:∀ns:List Int,Reps K c H (ns.map V.int) (ns.map D.int)
 | []=>.nil
 | n :: r=>.cons (.int n) (Reps.ints r)
theorem Reps.rep {vs:List V}{ds:List D}(h:Reps K c H vs ds):∀k:Nat,Reps K c H (List.replicate k vs).flatten (List.replicate k ds).flatten
 | 0=>.nil
 | k + 1=>by
   rw [List.replicate_succ,List.replicate_succ,List.flatten_cons,List.flatten_cons];exact h.append (Reps.rep h k)
end
inductive Ob where
 | lst (xs:List D)
 | dct (kvs:List (Key×D))
 | ins (n:Str) (fs:List (Str×D))
inductive Sl where
 | val (d:D)
 | own (xs:List D)
structure T where
 env:List (Option Sl)
 S:List Ob
def KVR (K:PySem.W.Frag)(c:Cf)(H:Hp):List (Key×V)->List (Key×D)->Prop:=Paired λp q=>p.1=q.1/\Rep K c H p.2 q.2
noncomputable def I9:List Str:=["Reader", "Side", "Lasting", "Parley", "Listener", "Relay", "Desk"]
noncomputable def atN:List Str:=["grammar", "standing", "wires", "places", "side", "said", "taken", "handed", "left", "right", "under_way", "grammars", "standings", "heard", "left_grammar", "right_grammar", "rows", "pair", "broken", "parley"]
def FldR (K:PySem.W.Frag)(c:Cf)(H:Hp):List (Str×V)->List (Str×D)->Prop:=Paired λp q=>p.1=q.1/\Rep K c H p.2 q.2
def ObR (K:PySem.W.Frag)(c:Cf)(H:Hp)(a:Addr):Ob->Prop
 | .lst ds=>∃vs,H a=some (.lst vs)/\Reps K c H vs ds
 | .dct kvs=>∃us,H a=some (.dK us)/\KVR K c H us kvs
 | .ins n fs=>(n∈I9/\∀p∈fs,p.1∈atN)/\∃C dx us,PySem.W.nsIn K mainGlobals n=some (some (.ref C))/\H a=some (.ins C dx us)/\FldR K c H us fs
theorem ObR.mono {K:PySem.W.Frag}{c c':Cf}{H H':Hp}{a:Addr}{o:Ob}(e:Ext c H c' H')(h:ObR K c H a o)(ha:H' a=H a):ObR K c' H' a o:=by
 cases o with
 | lst ds=>obtain ⟨vs,h1,h2⟩:=h;exact ⟨vs,ha.trans h1,h2.mono e⟩
 | dct kvs=>obtain ⟨us,h1,h2⟩:=h;exact ⟨us,ha.trans h1,Paired.mapP h2 λ_ _ z=>⟨z.1,z.2.mono e⟩⟩
 | ins n fs=>obtain ⟨h0,C,dx,us,g,h1,h2⟩:=h;exact ⟨h0,C,dx,us,g,ha.trans h1,Paired.mapP h2 λ_ _ z=>⟨z.1,z.2.mono e⟩⟩
theorem ObR.some {o:Ob}(h:ObR K c H a o):∃u,H a=some u:=by
 cases o with
 | lst ds=>obtain ⟨vs,h1,_⟩:=h;exact ⟨_,h1⟩
 | dct kvs=>obtain ⟨us,h1,_⟩:=h;exact ⟨_,h1⟩
 | ins n fs=>obtain ⟨_,_,_,_,_,h1,_⟩:=h;exact ⟨_,h1⟩
structure SInv (K:PySem.W.Frag)(c:Cf)(S:List Ob)(H:Hp):Prop where
 len:c.ι.length=S.length
 nd:c.ι.Nodup
 obs:∀(k:Nat) (a:Addr) (o:Ob),c.ι[k]?=some a->S[k]?=some o->ObR K c H a o
 trk:∀b,c.O b->∃o,H b=some o
 dis:∀b,c.O b->b∉c.ι
variable {S:List Ob}
theorem SInv.trkA (s:SInv K c S H){b:Addr}(h:c.A b):∃o,H b=some o:=by
 rcases h with h | h
 ·obtain ⟨k,hk,e⟩:=List.mem_iff_getElem.mp h;have e1:c.ι[k]?=some b:=by rw [List.getElem?_eq_getElem hk,e]
  have hk':k < S.length:=by rw [<-s.len];exact hk
  exact (s.obs k b _ e1 (List.getElem?_eq_getElem hk')).some
 ·exact s.trk b h
theorem SInv.free (s:SInv K c S H){b:Addr}(h:H b=none):¬c.A b:=λz=>by
 obtain ⟨o,e⟩:=s.trkA z;rw [h] at e;cases e
structure FInv (K:PySem.W.Frag)(Oo:Addr->Prop)(c:Cf)(t:T)(σ:St)(H:Hp):Prop where
 s:SInv K c t.S H
 len:t.env.length=σ.length
 sub:∀b,Oo b->c.O b
 val:∀(i:Nat) (d:D),t.env[i]?=some (some (.val d))->∃v,σ[i]?=some (some v)/\Rep K c H v d
 own:∀(i:Nat) (ds:List D),t.env[i]?=some (some (.own ds))->∃a vs,σ[i]?=some (some (.ref a))/\c.O a/\¬Oo a/\H a=some (.lst vs)/\Reps K c H vs ds
 inj:∀(i j:Nat) (ds es:List D) (a:Addr),t.env[i]?=some (some (.own ds))->t.env[j]?=some (some (.own es))->σ[i]?=some (some (.ref a))->σ[j]?=some (some (.ref a))->i=j
structure Stp (Oo:Addr->Prop)(c:Cf)(H:Hp)(c':Cf)(H':Hp):Prop where
 ext:Ext c H c' H'
 oo:∀b,Oo b->H' b=H b
theorem Stp.refl {Oo:Addr->Prop}{c:Cf}{H:Hp}:Stp Oo c H c H:=⟨.refl,λ_ _=>rfl⟩
theorem Stp.trans {Oo:Addr->Prop}{c c1 c2:Cf}{H H1 H2:Hp}(a:Stp Oo c H c1 H1)(b:Stp Oo c1 H1 c2 H2):Stp Oo c H c2 H2:=
 ⟨a.ext.trans b.ext,λx h=>(b.oo x h).trans (a.oo x h)⟩
section
variable {K:PySem.W.Frag}{Oo:Addr->Prop}{c:Cf}{t:T}{σ:St}{H:Hp}
theorem Ext.laid (s:SInv K c S H){p:Addr}{o:HO}(h:H p=none):Ext c H c (upd H p o):=
 ⟨λb u e _=>by rw [Ai (AC e h)];exact e,λ_ _ _ z=>z,λ_ _ e=>e⟩
theorem SInv.laid {S:List Ob}(s:SInv K c S H){p:Addr}{o:HO}(h:H p=none):SInv K c S (upd H p o):=
 ⟨s.len,s.nd,λk a u e1 e2=>by
  have q:=s.obs k a u e1 e2;obtain ⟨w,hw⟩:=q.some;exact q.mono (Ext.laid s h) (Ai (AC hw h)),
  λb z=>by obtain ⟨u,e⟩:=s.trk b z;exact ⟨u,by rw [Ai (AC e h)];exact e⟩,s.dis⟩
theorem FInv.laid (f:FInv K Oo c t σ H){p:Addr}{o:HO}(h:H p=none):FInv K Oo c t σ (upd H p o):=by
 have e:=Ext.laid (o:=o) f.s h;refine ⟨f.s.laid h,f.len,f.sub,λi d q=>?_,λi ds q=>?_,f.inj⟩
 ·obtain ⟨v,h1,h2⟩:=f.val i d q;exact ⟨v,h1,h2.mono e⟩
 ·obtain ⟨a,vs,h1,h2,h3,h4,h5⟩:=f.own i ds q;exact ⟨a,vs,h1,h2,h3,by rw [Ai (AC h4 h)];exact h4,h5.mono e⟩
theorem FInv.stp_laid (f:FInv K Oo c t σ H){p:Addr}{o:HO}(h:H p=none):Stp Oo c H c (upd H p o):=
 ⟨Ext.laid f.s h,λb z=>by obtain ⟨u,e⟩:=f.s.trk b (f.sub b z);exact Ai (AC e h)⟩
theorem FInv.set (f:FInv K Oo c t σ H){i:Nat}{v:V}{d:D}(r:Rep K c H v d):FInv K Oo c { t with env:=t.env.set i (some (.val d)) } (σ.set i (some v)) H:=by
 have neq:∀{j:Nat} {x:Sl},(t.env.set i (some (.val d)))[j]?=some (some x)->(j=i/\x = .val d/\j < t.env.length)\/(j≠i/\t.env[j]?=some (some x)):=λ{j x} q=>by
  by_cases h:j=i
  ·subst h;rw [List.getElem?_set] at q
   split at q
   ·split at q
    ·next h1=>injection q with q;injection q with q;exact .inl ⟨rfl,q.symm,h1⟩
    ·cases q
   ·next h1=>exact absurd rfl h1
  ·rw [List.getElem?_set_ne (Ne.symm h)] at q;exact .inr ⟨h,q⟩
 refine ⟨f.s,by simp [f.len],f.sub,λj e q=>?_,λj ds q=>?_,λj k ds es a q1 q2 q3 q4=>?_⟩
 ·rcases neq q with ⟨rfl,z,hl⟩ | ⟨h,q⟩
  ·cases z
   exact ⟨v,by rw [List.getElem?_set_self (by rw [<-f.len];exact hl)],r⟩
  ·obtain ⟨u,h1,h2⟩:=f.val j e q;exact ⟨u,by rw [List.getElem?_set_ne (Ne.symm h)];exact h1,h2⟩
 ·rcases neq q with ⟨rfl,z,_⟩ | ⟨h,q⟩
  ·cases z
  ·obtain ⟨a,vs,h1,h2⟩:=f.own j ds q;exact ⟨a,vs,by rw [List.getElem?_set_ne (Ne.symm h)];exact h1,h2⟩
 ·rcases neq q1 with ⟨_,z,_⟩ | ⟨h,q1⟩
  ·cases z
  rcases neq q2 with ⟨_,z,_⟩ | ⟨h',q2⟩
  ·cases z
  rw [List.getElem?_set_ne (Ne.symm h)] at q3;rw [List.getElem?_set_ne (Ne.symm h')] at q4;exact f.inj j k ds es a q1 q2 q3 q4
theorem FInv.setOwn (f:FInv K Oo c t σ H){i:Nat}{p:Addr}{vs:List V}{ds:List D}(h:H p=none)(r:Reps K c H vs ds) :
 ∃c',FInv K Oo c' { t with env:=t.env.set i (some (.own ds)) } (σ.set i (some (.ref p))) (upd H p (.lst vs))/\Stp Oo c H c' (upd H p (.lst vs)):=by
 let c':Cf:=⟨c.ι,λb=>c.O b\/b=p⟩
 have nA:¬c.A p:=f.s.free h;have ext:Ext c H c' (upd H p (.lst vs)):=by
  refine ⟨λb u e _=>by rw [Ai (AC e h)];exact e,λb u e z=>?_,λ_ _ e=>e⟩;rcases z with z | z | z
  ·exact .inl z
  ·exact .inr z
  ·subst z;rw [h] at e;cases e
 have stp:Stp Oo c H c' (upd H p (.lst vs)):=⟨ext,λb z=>by obtain ⟨u,e⟩:=f.s.trk b (f.sub b z);exact Ai (AC e h)⟩;have sinv:SInv K c' t.S (upd H p (.lst vs)):=by
  refine ⟨f.s.len,f.s.nd,λk a u e1 e2=>?_,λb z=>?_,λb z hb=>?_⟩
  ·have q:=f.s.obs k a u e1 e2;obtain ⟨w,hw⟩:=q.some;exact q.mono ext (Ai (AC hw h))
  ·rcases z with z | z
   ·obtain ⟨u,e⟩:=f.s.trk b z;exact ⟨u,by rw [Ai (AC e h)];exact e⟩
   ·subst z;exact ⟨_,Aj⟩
  ·rcases z with z | z
   ·exact f.s.dis b z hb
   ·subst z;exact nA (.inl hb)
 have neq:∀{j:Nat} {x:Sl},(t.env.set i (some (.own ds)))[j]?=some (some x)->(j=i/\x = .own ds/\j < t.env.length)\/(j≠i/\t.env[j]?=some (some x)):=λ{j x} q=>by
  by_cases h:j=i
  ·subst h;rw [List.getElem?_set] at q
   split at q
   ·split at q
    ·next h1=>injection q with q;injection q with q;exact .inl ⟨rfl,q.symm,h1⟩
    ·cases q
   ·next h1=>exact absurd rfl h1
  ·rw [List.getElem?_set_ne (Ne.symm h)] at q;exact .inr ⟨h,q⟩
 have fresh:∀(j:Nat) (es:List D),t.env[j]?=some (some (.own es))->σ[j]?≠some (some (.ref p)):=λj es q z=>by
  obtain ⟨a,vs',h1,_,_,h4,_⟩:=f.own j es q;rw [h1] at z;injection z with z;injection z with z;injection z with z;subst z;rw [h] at h4;cases h4
 refine ⟨c',⟨sinv,by simp [f.len],λb z=>.inl (f.sub b z),λj e q=>?_,λj es q=>?_,λj k ds' es a q1 q2 q3 q4=>?_⟩,stp⟩
 ·rcases neq q with ⟨_,z,_⟩ | ⟨hn,q⟩
  ·cases z
  ·obtain ⟨u,h1,h2⟩:=f.val j e q;exact ⟨u,by rw [List.getElem?_set_ne (Ne.symm hn)];exact h1,h2.mono ext⟩
 ·rcases neq q with ⟨rfl,z,hl⟩ | ⟨hn,q⟩
  ·cases z
   refine ⟨p,vs,by rw [List.getElem?_set_self (by rw [<-f.len];exact hl)],.inr rfl,λz=>?_,Aj,r.mono ext⟩;obtain ⟨u,e⟩:=f.s.trk p (f.sub p z);rw [h] at e;cases e
  ·obtain ⟨a,ws,h1,h2,h3,h4,h5⟩:=f.own j es q;exact ⟨a,ws,by rw [List.getElem?_set_ne (Ne.symm hn)];exact h1,.inl h2,h3,by rw [Ai (AC h4 h)];exact h4,h5.mono ext⟩
 ·rcases neq q1 with ⟨z1,z2,l1⟩ | ⟨n1,r1⟩
  ·rcases neq q2 with ⟨y1,_,_⟩ | ⟨n2,r2⟩
   ·rw [z1,y1]
   ·subst z1;rw [List.getElem?_set_self (by rw [<-f.len];exact l1)] at q3;injection q3 with q3;injection q3 with q3;injection q3 with q3;subst q3
    rw [List.getElem?_set_ne (Ne.symm n2)] at q4;exact absurd q4 (fresh k es r2)
  ·rcases neq q2 with ⟨y1,y2,l2⟩ | ⟨n2,r2⟩
   ·subst y1;rw [List.getElem?_set_self (by rw [<-f.len];exact l2)] at q4;injection q4 with q4;injection q4 with q4;injection q4 with q4;subst q4
    rw [List.getElem?_set_ne (Ne.symm n1)] at q3;exact absurd q3 (fresh j ds' r1)
   ·rw [List.getElem?_set_ne (Ne.symm n1)] at q3;rw [List.getElem?_set_ne (Ne.symm n2)] at q4;exact f.inj j k ds' es a r1 r2 q3 q4
theorem FInv.frz (f:FInv K Oo c t σ H){i:Nat}{ds:List D}(q:t.env[i]?=some (some (.own ds))) :
 ∃c' v,FInv K Oo c' { t with env:=t.env.set i (some (.val (.lst ds))) } σ H/\Stp Oo c H c' H/\σ[i]?=some (some v)/\Rep K c' H v (.lst ds):=by
 obtain ⟨a,vs,h1,h2,h3,h4,h5⟩:=f.own i ds q
 let c':Cf:=⟨c.ι,λb=>c.O b/\b≠a⟩
 have ext:Ext c H c' H:=⟨λ_ _ e _=>e,λb u e z=>z.elim .inl λw=>.inr w.1,λ_ _ e=>e⟩;have sinv:SInv K c' t.S H:=⟨f.s.len,f.s.nd,λk b u e1 e2=>(f.s.obs k b u e1 e2).mono ext rfl,λb z=>f.s.trk b z.1,λb z=>f.s.dis b z.1⟩;have nA:¬c'.A a:=λz=>z.elim (λw=>f.s.dis a h2 w) λw=>w.2 rfl;have hσ:σ.set i (some (.ref a))=σ:=by
  apply List.ext_getElem?;intro j
  by_cases hj:j=i
  ·subst hj;rw [List.getElem?_set_self (by have:=(List.getElem?_eq_some_iff.mp h1).1;exact this),h1]
  ·rw [List.getElem?_set_ne (Ne.symm hj)]
 have r:Rep K c' H (.ref a) (.lst ds):=.lst h4 nA (h5.mono ext);have f0:FInv K Oo c' { t with env:=t.env.set i (some (.val (.lst ds))) } σ H:=by
  have neq:∀{j:Nat} {x:Sl},(t.env.set i (some (.val (.lst ds))))[j]?=some (some x)->(j=i/\x = .val (.lst ds))\/(j≠i/\t.env[j]?=some (some x)):=λ{j x} q=>by
   by_cases h:j=i
   ·subst h;rw [List.getElem?_set] at q
    split at q
    ·split at q
     ·injection q with q;injection q with q;exact .inl ⟨rfl,q.symm⟩
     ·cases q
    ·next h1=>exact absurd rfl h1
   ·rw [List.getElem?_set_ne (Ne.symm h)] at q;exact .inr ⟨h,q⟩
  refine ⟨sinv,by simp [f.len],λb z=>⟨f.sub b z,λw=>h3 (w ▸ z)⟩,λj e q'=>?_,λj es q'=>?_,λj k ds' es b q1 q2 q3 q4=>?_⟩
  ·rcases neq q' with ⟨rfl,z⟩ | ⟨hn,q'⟩
   ·cases z;exact ⟨_,h1,r⟩
   ·obtain ⟨u,w1,w2⟩:=f.val j e q';exact ⟨u,w1,w2.mono ext⟩
  ·rcases neq q' with ⟨_,z⟩ | ⟨hn,q'⟩
   ·cases z
   ·obtain ⟨b,ws,w1,w2,w3,w4,w5⟩:=f.own j es q';refine ⟨b,ws,w1,⟨w2,λz=>?_⟩,w3,w4,w5.mono ext⟩;subst z;exact hn (f.inj j i es ds b q' q w1 h1)
  ·rcases neq q1 with ⟨_,z⟩ | ⟨_,q1⟩
   ·cases z
   rcases neq q2 with ⟨_,z⟩ | ⟨_,q2⟩
   ·cases z
   exact f.inj j k ds' es b q1 q2 q3 q4
 exact ⟨c',_,f0,⟨ext,λ_ _=>rfl⟩,h1,r⟩
theorem FInv.wrOwn (f:FInv K Oo c t σ H){i:Nat}{ds ds':List D}{vs':List V}{a:Addr}(q:t.env[i]?=some (some (.own ds)))(h1:σ[i]?=some (some (.ref a)))(r:Reps K c H vs' ds') :
 FInv K Oo c { t with env:=t.env.set i (some (.own ds')) } σ (upd H a (.lst vs'))/\Stp Oo c H c (upd H a (.lst vs')):=by
 obtain ⟨a',vs,g1,h2,h3,h4,h5⟩:=f.own i ds q;rw [h1] at g1;injection g1 with g1;injection g1 with g1;injection g1 with g1;subst g1
 have ext:Ext c H c (upd H a (.lst vs')):=⟨λb u e n=>by rw [Ai (λ(z:b=a)=>n (.inr (by rw [z];exact h2)))];exact e,λ_ _ _ z=>z,λ_ _ e=>e⟩;have stp:Stp Oo c H c (upd H a (.lst vs')):=⟨ext,λb z=>Ai λw=>h3 (w ▸ z)⟩;have sinv:SInv K c t.S (upd H a (.lst vs')):=by
  refine ⟨f.s.len,f.s.nd,λk b u e1 e2=>(f.s.obs k b u e1 e2).mono ext (Ai λz=>f.s.dis a h2 (z ▸ List.mem_of_getElem? e1)),λb z=>?_,f.s.dis⟩
  by_cases hb:b=a
  ·subst hb;exact ⟨_,Aj⟩
  ·obtain ⟨u,e⟩:=f.s.trk b z;exact ⟨u,by rw [Ai hb];exact e⟩
 have neq:∀{j:Nat} {x:Sl},(t.env.set i (some (.own ds')))[j]?=some (some x)->(j=i/\x = .own ds')\/(j≠i/\t.env[j]?=some (some x)):=λ{j x} q=>by
  by_cases h:j=i
  ·subst h;rw [List.getElem?_set] at q
   split at q
   ·split at q
    ·injection q with q;injection q with q;exact .inl ⟨rfl,q.symm⟩
    ·cases q
   ·next h1=>exact absurd rfl h1
  ·rw [List.getElem?_set_ne (Ne.symm h)] at q;exact .inr ⟨h,q⟩
 refine ⟨⟨sinv,by simp [f.len],f.sub,λj e q'=>?_,λj es q'=>?_,λj k es es' b q1 q2 q3 q4=>?_⟩,stp⟩
 ·rcases neq q' with ⟨_,z⟩ | ⟨_,q'⟩
  ·cases z
  ·obtain ⟨u,w1,w2⟩:=f.val j e q';exact ⟨u,w1,w2.mono ext⟩
 ·rcases neq q' with ⟨rfl,z⟩ | ⟨hn,q'⟩
  ·cases z;exact ⟨a,vs',h1,h2,h3,Aj,r.mono ext⟩
  ·obtain ⟨b,ws,w1,w2,w3,w4,w5⟩:=f.own j es q';have hb:b≠a:=λz=>by subst z;exact hn (f.inj j i es ds b q' q w1 h1)
   exact ⟨b,ws,w1,w2,w3,by rw [Ai hb];exact w4,w5.mono ext⟩
 ·have old:∀{j:Nat} {x:List D},(t.env.set i (some (.own ds')))[j]?=some (some (.own x))->∃y,t.env[j]?=some (some (.own y)):=λ{j x} q'=>by
   rcases neq q' with ⟨rfl,_⟩ | ⟨_,q'⟩
   ·exact ⟨ds,q⟩
   ·exact ⟨x,q'⟩
  obtain ⟨y1,z1⟩:=old q1;obtain ⟨y2,z2⟩:=old q2;exact f.inj j k y1 y2 b z1 z2 q3 q4
theorem FInv.wrObj (f:FInv K Oo c t σ H){k:Nat}{a:Addr}{o:Ob}{u:HO}(e:c.ι[k]?=some a)(r:∀c' H',Ext c H c' H'->H' a=some u->ObR K c' H' a o) :
 FInv K Oo c { t with S:=t.S.set k o } σ (upd H a u)/\Stp Oo c H c (upd H a u):=by
 have hA:a∈c.ι:=List.mem_of_getElem? e;have ext:Ext c H c (upd H a u):=⟨λb w h n=>by rw [Ai (λ(z:b=a)=>n (.inl (by rw [z];exact hA)))];exact h,λ_ _ _ z=>z,λ_ _ e=>e⟩;have neO:∀b,c.O b->b≠a:=λb z w=>f.s.dis b z (w ▸ hA);have stp:Stp Oo c H c (upd H a u):=⟨ext,λb z=>Ai (neO b (f.sub b z))⟩;have sinv:SInv K c (t.S.set k o) (upd H a u):=by
  refine ⟨by simp [f.s.len],f.s.nd,λj b o' e1 e2=>?_,λb z=>?_,f.s.dis⟩
  ·by_cases hj:j=k
   ·subst hj;rw [e] at e1;cases e1
    have hl:j < t.S.length:=by rw [<-f.s.len];exact (List.getElem?_eq_some_iff.mp e).1
    rw [List.getElem?_set_self hl] at e2;cases e2
    exact r c _ ext Aj
   ·rw [List.getElem?_set_ne (Ne.symm hj)] at e2;refine (f.s.obs j b o' e1 e2).mono ext (Ai λz=>?_);subst z;obtain ⟨l1,g1⟩:=List.getElem?_eq_some_iff.mp e1;obtain ⟨l2,g2⟩:=List.getElem?_eq_some_iff.mp e;exact hj ((List.getElem_inj f.s.nd).mp (g1.trans g2.symm))
  ·obtain ⟨w,h⟩:=f.s.trk b z;exact ⟨w,by rw [Ai (neO b z)];exact h⟩
 refine ⟨⟨sinv,f.len,f.sub,λi d q=>?_,λi ds q=>?_,f.inj⟩,stp⟩
 ·obtain ⟨v,h1,h2⟩:=f.val i d q;exact ⟨v,h1,h2.mono ext⟩
 ·obtain ⟨b,vs,h1,h2,h3,h4,h5⟩:=f.own i ds q;exact ⟨b,vs,h1,h2,h3,by rw [Ai (neO b h2)];exact h4,h5.mono ext⟩
theorem FInv.newObj (f:FInv K Oo c t σ H){p:Addr}{o:Ob}{u:HO}(h:H p=none)(r:∀c' H',Ext c H c' H'->H' p=some u->ObR K c' H' p o) :
 ∃c',FInv K Oo c' { t with S:=t.S++[o] } σ (upd H p u)/\Stp Oo c H c' (upd H p u)/\c'.ι[t.S.length]?=some p:=by
 let c':Cf:=⟨c.ι++[p],c.O⟩
 have nA:¬c.A p:=f.s.free h;have ext:Ext c H c' (upd H p u):=by
  refine ⟨λb w e _=>by rw [Ai (AC e h)];exact e,λb w e z=>?_,λk a e=>?_⟩
  ·rcases z with z | z
   ·rcases List.mem_append.mp z with z | z
    ·exact .inl z
    ·rw [List.mem_singleton] at z;subst z;rw [h] at e;cases e
   ·exact .inr z
  ·show (c.ι++[p])[k]?=some a;rw [List.getElem?_append_left (List.getElem?_eq_some_iff.mp e).1];exact e
 have stp:Stp Oo c H c' (upd H p u):=⟨ext,λb z=>by obtain ⟨w,e⟩:=f.s.trk b (f.sub b z);exact Ai (AC e h)⟩;have at_:(c.ι++[p])[t.S.length]?=some p:=by rw [<-f.s.len,List.getElem?_append_right (Nat.le_refl _)];simp
 have sinv:SInv K c' (t.S++[o]) (upd H p u):=by
  refine ⟨by simp [c',f.s.len],?_,λj b o' e1 e2=>?_,λb z=>?_,λb z hb=>?_⟩
  ·show (c.ι++[p]).Nodup;exact List.nodup_append.mpr ⟨f.s.nd,by simp,λx hx y hy z=>by rw [List.mem_singleton] at hy;subst z;subst hy;exact nA (.inl hx)⟩
  ·have hlt:j < (t.S++[o]).length:=(List.getElem?_eq_some_iff.mp e2).1
   by_cases hj:j < t.S.length
   ·have e1':c.ι[j]?=some b:=by
     have q:(c.ι++[p])[j]?=some b:=e1;rw [List.getElem?_append_left (by rw [f.s.len];exact hj)] at q;exact q
    rw [List.getElem?_append_left hj] at e2;have q:=f.s.obs j b o' e1' e2;obtain ⟨w,hw⟩:=q.some;exact q.mono ext (Ai (AC hw h))
   ·have hj':j=t.S.length:=by simp at hlt;lia
    subst hj';rw [at_] at e1;cases e1
    rw [List.getElem?_append_right (Nat.le_refl _)] at e2;simp at e2;subst e2;exact r c' _ ext Aj
  ·obtain ⟨w,e⟩:=f.s.trk b z;exact ⟨w,by rw [Ai (AC e h)];exact e⟩
  ·rcases List.mem_append.mp hb with w | w
   ·exact f.s.dis b z w
   ·rw [List.mem_singleton] at w;subst w;exact nA (.inr z)
 refine ⟨c',⟨sinv,f.len,f.sub,λi d q=>?_,λi ds q=>?_,f.inj⟩,stp,at_⟩
 ·obtain ⟨v,h1,h2⟩:=f.val i d q;exact ⟨v,h1,h2.mono ext⟩
 ·obtain ⟨b,vs,h1,h2,h3,h4,h5⟩:=f.own i ds q;exact ⟨b,vs,h1,h2,h3,by rw [Ai (AC h4 h)];exact h4,h5.mono ext⟩
theorem FInv.after (f:FInv K Oo c t σ H){c':Cf}{S':List Ob}{H':Hp}(s:SInv K c' S' H')(st:Stp c.O c H c' H')(ho:∀b,c'.O b↔c.O b):FInv K Oo c' { t with S:=S' } σ H'/\Stp Oo c H c' H':=by
 refine ⟨⟨s,f.len,λb z=>(ho b).mpr (f.sub b z),λi d q=>?_,λi ds q=>?_,f.inj⟩,st.ext,λb z=>st.oo b (f.sub b z)⟩
 ·obtain ⟨v,h1,h2⟩:=f.val i d q;exact ⟨v,h1,h2.mono st.ext⟩
 ·obtain ⟨b,vs,h1,h2,h3,h4,h5⟩:=f.own i ds q;exact ⟨b,vs,h1,(ho b).mpr h2,h3,(st.oo b h2).trans h4,h5.mono st.ext⟩
end
abbrev M (α:Type):=T->Option (α×T)
inductive Out where
 | next | brk | cont | ret (d:D)
noncomputable def ret {α:Type}(a:α):M α:=λt=>some (a,t)
noncomputable def fail {α:Type}:M α:=λ_=>none
noncomputable def bnd {α β:Type}(f:M α)(g:α->M β):M β:=λt=>match f t with
 | some (a,t1)=>g a t1
 | none=>none
variable {t:T}
theorem Ag {α β:Type}{f:M α}{g:α->M β}{z:β×T}(h:bnd f g t=some z):∃a t1,f t=some (a,t1)/\g a t1=some z:=by
 unfold bnd at h
 cases e:f t with
 | none=>rw [e] at h;cases h
 | some p=>obtain ⟨a,t1⟩:=p;rw [e] at h;exact ⟨a,t1,rfl,h⟩
noncomputable def LIM:Nat:=100000
theorem CA:LIM<=sizeLine:=by unfold LIM;decide
theorem Vg:LIM < sizeLine:=by unfold LIM;decide
section
variable (K:PySem.W.Frag)
inductive RE (f:M D)(σ:L2.St)(H:Hp)(Q:VK):Prop where
 | mk (Oo:Addr->Prop) (c:Cf) (t:T) (fi:FInv K Oo c t σ H) (r:D) (t':T) (e:f t=some (r,t')) (k:∀v H' c',FInv K Oo c' t' σ H'->Stp Oo c H c' H'->Rep K c' H' v r->Q v H'):RE f σ H Q
inductive RT (f:M Bool)(σ:L2.St)(H:Hp)(Q:Bool->Hp->Prop):Prop where
 | mk (Oo:Addr->Prop) (c:Cf) (t:T) (fi:FInv K Oo c t σ H) (r:Bool) (t':T) (e:f t=some (r,t')) (k:∀H' c',FInv K Oo c' t' σ H'->Stp Oo c H c' H'->Q r H'):RT f σ H Q
inductive RA (f:M (List D))(σ:L2.St)(H:Hp)(Q:List V->Hp->Prop):Prop where
 | mk (Oo:Addr->Prop) (c:Cf) (t:T) (fi:FInv K Oo c t σ H) (r:List D) (t':T) (e:f t=some (r,t')) (k:∀vs H' c',FInv K Oo c' t' σ H'->Stp Oo c H c' H'->Reps K c' H' vs r->Q vs H'):RA f σ H Q
inductive RF (f:M (List D))(σ:L2.St)(H:Hp)(Q:VK):Prop where
 | mk (Oo:Addr->Prop) (c:Cf) (t:T) (fi:FInv K Oo c t σ H) (ds:List D) (t':T) (e:f t=some (ds,t')) (k:∀p vs H' c',FInv K Oo c' t' σ H'->Stp Oo c H c' H'->Reps K c' H' vs ds->H' p=none->Q (.ref p) (upd H' p (.lst vs))):RF f σ H Q
inductive RSg (μ:Cf->Hp->D->(V->Hp->Prop)->Prop)(f:M Out)(E:Ends)(σ:L2.St)(H:Hp):Prop where
 | mk (Oo:Addr->Prop) (c:Cf) (t:T) (fi:FInv K Oo c t σ H) (o:Out) (t':T) (e:f t=some (o,t')) (k:∀σ' H' c',FInv K Oo c' t' σ' H'->Stp Oo c H c' H'->
 match (generalizing:=false) o with
 | .next=>E.nx σ' H'
 | .brk=>E.bk σ' H'
 | .cont=>E.ct σ' H'
 | .ret r=>μ c' H' r E.rt):RSg μ f E σ H
def μR:Cf->Hp->D->(V->Hp->Prop)->Prop:=λc H r rt=>∀v,Rep K c H v r->rt v H
abbrev RS (f:M Out):TS:=RSg K (μR K) f
inductive RG (f:D->M Unit)(v:V)(σ:L2.St)(H:Hp)(Q:L2.St->Hp->Prop):Prop where
 | mk (Oo:Addr->Prop) (c:Cf) (t:T) (d:D) (fi:FInv K Oo c t σ H) (r:Rep K c H v d) (t':T) (e:f d t=some ((),t')) (k:∀σ' H' c',FInv K Oo c' t' σ' H'->Stp Oo c H c' H'->Q σ' H'):RG f v σ H Q
structure ItOk (J:It)(c:Cf)(H:Hp)(ds:List D):Prop where
 go:∀c' H' (i:Nat),Ext c H c' H'->i < ds.length->J.go i H'
 yld:∀c' H' (i:Nat) x H'' d,Ext c H c' H'->ds[i]?=some d->J.yld i H' x H''->H''=H'/\Rep K c' H' x d
 stop:∀c' H',Ext c H c' H'->J.stop ds.length H'
inductive RI (f:M (List D))(σ:L2.St)(H:Hp)(R:It->Hp->Prop):Prop where
 | mk (Oo:Addr->Prop) (c:Cf) (t:T) (fi:FInv K Oo c t σ H) (ds:List D) (t':T) (e:f t=some (ds,t')) (k:∀J H' c',FInv K Oo c' t' σ H'->Stp Oo c H c' H'->ItOk K J c' H' ds->R J H'):RI f σ H R
def Vi (R:V->Hp->VK->Prop)(h:D->M D):Prop:=∀{Oo:Addr->Prop} {c:Cf} {t:T} {σ:L2.St} {H:Hp} {x:V} {dx r:D} {t':T} {Q:VK},FInv K Oo c t σ H->Rep K c H x dx->h dx t=some (r,t')->
 (∀v H' c',FInv K Oo c' t' σ H'->Stp Oo c H c' H'->Rep K c' H' v r->Q v H')->R x H Q
def AZ (R:R2)(h:D->D->M D):Prop:=∀{Oo:Addr->Prop} {c:Cf} {t:T} {σ:L2.St} {H:Hp} {x y:V} {dx dy r:D} {t':T} {Q:VK},FInv K Oo c t σ H->Rep K c H x dx->Rep K c H y dy->h dx dy t=some (r,t')->
 (∀v H' c',FInv K Oo c' t' σ H'->Stp Oo c H c' H'->Rep K c' H' v r->Q v H')->R x y H Q
def Fj (R:List V->Hp->VK->Prop)(h:List D->M D):Prop:=∀{Oo:Addr->Prop} {c:Cf} {t:T} {σ:L2.St} {H:Hp} {xs:List V} {ds:List D} {r:D} {t':T} {Q:VK},FInv K Oo c t σ H->Reps K c H xs ds->h ds t=some (r,t')->
 (∀v H' c',FInv K Oo c' t' σ H'->Stp Oo c H c' H'->Rep K c' H' v r->Q v H')->R xs H Q
def JV (R:R2)(h:D->D->M (List D)):Prop:=∀{Oo:Addr->Prop} {c:Cf} {t:T} {σ:L2.St} {H:Hp} {x y:V} {dx dy:D} {r:List D} {t':T} {Q:VK},FInv K Oo c t σ H->Rep K c H x dx->Rep K c H y dy->h dx dy t=some (r,t')->
 (∀p vs H' c',FInv K Oo c' t' σ H'->Stp Oo c H c' H'->Reps K c' H' vs r->H' p=none->Q (.ref p) (upd H' p (.lst vs)))->R x y H Q
def JW (R:List V->Hp->VK->Prop)(h:List D->M (List D)):Prop:=∀{Oo:Addr->Prop} {c:Cf} {t:T} {σ:L2.St} {H:Hp} {xs:List V} {ds r:List D} {t':T} {Q:VK},FInv K Oo c t σ H->Reps K c H xs ds->h ds t=some (r,t')->
 (∀p vs H' c',FInv K Oo c' t' σ H'->Stp Oo c H c' H'->Reps K c' H' vs r->H' p=none->Q (.ref p) (upd H' p (.lst vs)))->R xs H Q
end
variable {tg:Expr}{j i:Nat}{x:Str}{f g:M D}{h:D->D->M D}{R:R2}{op:CmpOp}{σ:L2.St}
section
variable {X:Cx}{e a b:Expr}{pos:Pos}
theorem AD {t t':TE}(h:PE X e t)(i:∀σ H Q,t' σ H Q->t σ H Q):PE X e t':=λpins s σ H Q I q=>h pins s σ H Q I (i σ H Q q)
theorem HQ {t t':TT}(h:PT X e t)(i:∀σ H Q,t' σ H Q->t σ H Q):PT X e t':=λpins s σ H Q I q=>h pins s σ H Q I (i σ H Q q)
theorem Oj {t t':TT}(h:PW X e t)(i:∀σ H Q,t' σ H Q->t σ H Q):PW X e t':=λw pins s σ H Q I q=>h w pins s σ H Q I (i σ H Q q)
theorem Oh {es:List Expr}{t t':TA}(h:PA X es t)(i:∀σ H Q,t' σ H Q->t σ H Q):PA X es t':=λpos pins s σ H Q I q=>h pos pins s σ H Q I (i σ H Q q)
theorem A8 {st:Stmt}{t t':TS}(h:PS X st t)(i:∀E σ H,t' E σ H->t E σ H):PS X st t':=λpins s σ H E I q=>h pins s σ H E I (i E σ H q)
theorem LY {st:List Stmt}{t t':TS}(h:PSs X st t)(i:∀E σ H,t' E σ H->t E σ H):PSs X st t':=λpins s σ H E I q=>h pins s σ H E I (i E σ H q)
theorem F8 {t t':TG}(h:PG X e t)(i:∀v σ H Q,t' v σ H Q->t v σ H Q):PG X e t':=λpins s σ H v u Q I r q=>h pins s σ H v u Q I r (i v σ H Q q)
theorem HN {t t':TI}(h:PI X tg e t)(i:∀σ H R,t' σ H R->t σ H R):PI X tg e t':=λpins s σ H R I q=>h pins s σ H R I (i σ H R q)
def fC (d:D):M D:=ret d
theorem Jc {v:V}{d:D}(h:PE X e (tC v))(r:∀c H,Rep X.K c H v d):PE X e (RE X.K (fC d)):=
 AD h λσ H Q z9=>by
  obtain ⟨Oo,c,t,f,r',t',eq,k⟩:=z9
  cases eq
  exact k v H c f .refl (r c H)
theorem VA {i:Int}:PE X (.Constant (.int i) j pos) (RE X.K (fC (.int i))):=Jc WB λ_ _=>.int i
theorem XL {i:Bool}:PE X (.Constant (.bool i) j pos) (RE X.K (fC (.bl i))):=Jc X4 λ_ _=>.bl i
theorem VG {i:Str}:PE X (.Constant (.str i) j pos) (RE X.K (fC (.str i))):=Jc Pu λ_ _=>.str i
theorem VB:PE X (.Constant .none j pos) (RE X.K (fC .non)):=Jc WD λ_ _=>.non
theorem Jd {i:Int}{tk:Tok}(hg:Gl X x)(hm:X.mg x=some (.int i tk))(hd:(x == ("__debug__" : Str))=false:=by decide):PE X (.Name x pos) (RE X.K (fC (.int i))):=
 Jc (MC hg hm (v:=.int i) ⟨tk,rfl⟩ hd) λ_ _=>.int i
theorem QA {y:Str}{tk:Tok}(hg:Gl X x)(hm:X.mg x=some (.str y tk))(hd:(x == ("__debug__" : Str))=false:=by decide):PE X (.Name x pos) (RE X.K (fC (.str y))):=
 Jc (MC hg hm (v:=.str y) ⟨tk,rfl⟩ hd) λ_ _=>.str y
noncomputable def Ab (i:Nat):M D:=λt=>match t.env[i]? with
 | some (some (.val d))=>some (d,t)
 | some (some (.own ds))=>some (.lst ds,{ t with env:=t.env.set i (some (.val (.lst ds))) })
 | _=>none
theorem Np {t':T}{r:D}(h:Ab i t=some (r,t')):(t.env[i]?=some (some (.val r))/\t'=t)\/∃ds,t.env[i]?=some (some (.own ds))/\r = .lst ds/\t' = { t with env:=t.env.set i (some (.val (.lst ds))) }:=by
 unfold Ab at h
 cases e:t.env[i]? with
 | none=>rw [e] at h;cases h
 | some o=>
   cases o with
   | none=>rw [e] at h;cases h
   | some sl=>
     cases sl with
     | val d=>rw [e] at h;cases h;exact .inl ⟨rfl,rfl⟩
     | own ds=>rw [e] at h;cases h;exact .inr ⟨ds,rfl,rfl,rfl⟩
theorem VI (i:Nat){x:Str}(hN:X.N[i]?=some x:=by rfl)(hv:Vis X.env.scope x:=by walk_at "h")(hd:(x == ("__debug__" : Str))=false:=by decide)
 (hcd:(x == ("__classdict__" : Str))=false:=by decide):PE X (.Name x pos) (RE X.K (Ab i)):=
 AD (B2 hN hv hd hcd) λσ H Q z9=>by
  obtain ⟨Oo,c,t,f,r,t',eq,k⟩:=z9;rcases Np eq with ⟨q,rfl⟩ | ⟨ds,q,rfl,rfl⟩
  ·obtain ⟨v,h1,h2⟩:=f.val i r q;exact ⟨v,h1,k v H c f .refl h2⟩
  ·obtain ⟨c',v,f',st,h1,h2⟩:=f.frz q;exact ⟨v,h1,k v H c' f' st h2⟩
def Ac (f g:M D)(h:D->D->M D):M D:=bnd f λx=>bnd g λy=>h x y
theorem RE.two (s:AZ K R h){σ:L2.St}{H:Hp}{Q:VK}(q:RE K (Ac f g h) σ H Q):tOp R (RE K f) (RE K g) σ H Q:=by
 obtain ⟨Oo,c,t,fi,r,t',eq,k⟩:=q;obtain ⟨dx,t1,e1,eq⟩:=Ag eq;obtain ⟨dy,t2,e2,eq⟩:=Ag eq;exact ⟨Oo,c,t,fi,dx,t1,e1,λx H1 c1 f1 s1 rx=>⟨Oo,c1,t1,f1,dy,t2,e2,λy H2 c2 f2 s2 ry=>s f2 (rx.mono s2.ext) ry eq λv H' c' f' s' rv=>k v H' c' f' ((s1.trans s2).trans s') rv⟩⟩
theorem EC {op:Operator}(ho:OpR X (binaryOp op) R)(s:AZ X.K R h)(ha:PE X a (RE X.K f))(hb:PE X b (RE X.K g)):PE X (.BinOp a op b pos) (RE X.K (Ac f g h)):=
 AD (NT ho ha hb) λ_ _ _ q=>RE.two s q
theorem Fw (ho:OpR X (compareOp op) R)(s:AZ X.K R h)(ha:PE X a (RE X.K f))(hb:PE X b (RE X.K g))(hm:behindInMarks op b=false):PE X (.Compare a [op] [b] pos) (RE X.K (Ac f g h)):=
 AD (Uh ho ha hb hm) λ_ _ _ q=>RE.two s q
theorem Sj (hr:IxR X R)(s:AZ X.K R h)(ha:PE X a (RE X.K f))(hb:PE X b (RE X.K g))(hs:IQ b):PE X (.Subscript a b pos) (RE X.K (Ac f g h)):=
 AD (Sv hr ha hb hs) λ_ _ _ q=>RE.two s q
def fUn (f:M D)(h:D->M D):M D:=bnd f h
theorem XO {op:UnaryOp}{R:V->Hp->VK->Prop}{h:D->M D}(ho:UnR X (unaryOp op) R)(s:Vi X.K R h)(ha:PE X a (RE X.K f)):PE X (.UnaryOp op a pos) (RE X.K (fUn f h)):=
 AD (X6 ho ha) λσ H Q z9=>by
  obtain ⟨Oo,c,t,fi,r,t',eq,k⟩:=z9;obtain ⟨dx,t1,e1,eq⟩:=Ag eq;exact ⟨Oo,c,t,fi,dx,t1,e1,λx H1 c1 f1 s1 rx=>s f1 rx eq λv H' c' f' s' rv=>k v H' c' f' (s1.trans s') rv⟩
def toB:D->M Bool
 | .bl b=>ret b
 | _=>fail
def Ak (f:M D):M Bool:=bnd f toB
theorem HG {d:D}{z:Bool×T}(h:toB d t=some z):∃b,d = .bl b/\z=(b,t):=by
 cases d with
 | bl b=>cases h;exact ⟨b,rfl,rfl⟩
 | _=>cases h
theorem RT.val {Q:Bool->Hp->Prop}(q:RT K (Ak f) σ H Q):RE K f σ H λx H1=>∃k,x = .bl k/\Q k H1:=by
 obtain ⟨Oo,c,t,fi,r,t',eq,k⟩:=q;obtain ⟨d,t1,e1,eq⟩:=Ag eq;obtain ⟨b,rfl,z⟩:=HG eq
 cases z
 refine ⟨Oo,c,t,fi,_,t',e1,λv H1 c1 f1 s1 rv=>?_⟩
 cases rv
 exact ⟨r,rfl,k H1 c1 f1 s1⟩
theorem VW (h:PE X e (RE X.K f))(he:∀whole,isTrue e X.env whole=(do let v <-whole;standAt e.pos;holding [v] (truthy v)):=by intro _;rfl):PT X e (RT X.K (Ak f)):=
 HQ (WN h he) λ_ _ _ q=>RT.val q
theorem DR (ho:OpR X (compareOp op) R)(s:AZ X.K R h)(ha:PE X a (RE X.K f))(hb:PE X b (RE X.K g))(hm:behindInMarks op b=false):PT X (.Compare a [op] [b] pos) (RT X.K (Ak (Ac f g h))):=
 HQ (ME ho ha hb hm) λσ H Q q=>RE.two s (RT.val q)
def ET (f g w:M D)(h h':D->D->M D):M D:=bnd f λx=>bnd g λy=>bnd (Ak (h x y)) λk=>if k=true then bnd w λz=>h' y z else ret (.bl false)
theorem RE.chain {w:M D}{h':D->D->M D}{R':R2}(s:AZ K R h)(s':AZ K R' h'){σ:L2.St}{H:Hp}{Q:VK}(q:RE K (ET f g w h h') σ H Q):P3 R R' (RE K f) (RE K g) (RE K w) σ H Q:=by
 obtain ⟨Oo,c,t,fi,r,t',eq,k⟩:=q;obtain ⟨dx,t1,e1,eq⟩:=Ag eq;obtain ⟨dy,t2,e2,eq⟩:=Ag eq;obtain ⟨kb,t3,e3,eq⟩:=Ag eq;obtain ⟨d3,t3',e3',e3⟩:=Ag e3;obtain ⟨b3,rfl,z⟩:=HG e3
 cases z
 refine ⟨Oo,c,t,fi,dx,t1,e1,λx H1 c1 f1 s1 rx=>⟨Oo,c1,t1,f1,dy,t2,e2,λy H2 c2 f2 s2 ry=>s f2 (rx.mono s2.ext) ry e3' λv H3 c3 f3 s3 rv=>?_⟩⟩
 cases rv
 refine ⟨kb,rfl,?_⟩
 cases kb with
 | false=>
   rw [if_neg Bool.false_ne_true] at eq ⊢
   cases eq
   exact k _ H3 c3 f3 ((s1.trans s2).trans s3) (.bl false)
 | true=>
   rw [if_pos rfl] at eq ⊢;obtain ⟨dz,t4,e4,eq⟩:=Ag eq;exact ⟨Oo,c3,t3,f3,dz,t4,e4,λw' H4 c4 f4 s4 rw'=>s' f4 (ry.mono (s3.trans s4).ext) rw' eq λv H' c' f' s' rv=>k v H' c' f' ((((s1.trans s2).trans s3).trans s4).trans s') rv⟩
theorem Qz {d:Expr}{op':CmpOp}{R':R2}{w:M D}{h':D->D->M D}(ho:OpR X (compareOp op) R)(ho':OpR X (compareOp op') R')(s:AZ X.K R h)(s':AZ X.K R' h')(ha:PE X a (RE X.K f))(hb:PE X b (RE X.K g))(hd:PE X d (RE X.K w))
 (hm:lastMarks [op,op'] [b,d]=false:=by with_unfolding_all rfl):PE X (.Compare a [op,op'] [b,d] pos) (RE X.K (ET f g w h h')):=
 AD (Rh ho ho' ha hb hd hm) λ_ _ _ q=>RE.chain s s' q
def CV (f g:M Bool):M Bool:=bnd f λk=>if k=true then g else ret false
def fOr (f g:M Bool):M Bool:=bnd f λk=>if k=true then ret true else g
def D1 (f:M Bool):M Bool:=bnd f λk=>ret (!k)
def FM (f g:M D):M D:=bnd (Ak f) λk=>if k=true then g else ret (.bl false)
def Jb (f g:M D):M D:=bnd (Ak f) λk=>if k=true then ret (.bl true) else g
def Sg (f:M D):M D:=bnd (Ak f) λk=>ret (.bl (!k))
def fIf (f:M Bool)(g h:M D):M D:=bnd f λk=>if k=true then g else h
variable {f g:M Bool}{u v w:M D}{rest:List Expr}
theorem XW (h:PW X e (RT X.K f)):PT X e (RT X.K f):=h.pt
theorem Tn (ha:PT X a (RT X.K f)):PW X (.BoolOp .And [a] pos) (RT X.K f):=Ux ha
theorem VY (ha:PT X a (RT X.K f)):PW X (.BoolOp .Or [a] pos) (RT X.K f):=WP ha
theorem VX (ha:PT X a (RT X.K f))(hb:PW X (.BoolOp .And (b :: rest) pos) (RT X.K g)):PW X (.BoolOp .And (a :: b :: rest) pos) (RT X.K (CV f g)):=
 Oj (WO ha hb) λσ H Q z9=>by
  obtain ⟨Oo,c,t,fi,r,t',eq,k⟩:=z9;obtain ⟨kb,t1,e1,eq⟩:=Ag eq;refine ⟨Oo,c,t,fi,kb,t1,e1,λH1 c1 f1 s1=>?_⟩
  cases kb with
  | false=>rw [if_neg Bool.false_ne_true] at eq ⊢;cases eq;exact k H1 c1 f1 s1
  | true=>rw [if_pos rfl] at eq ⊢;exact ⟨Oo,c1,t1,f1,r,t',eq,λH2 c2 f2 s2=>k H2 c2 f2 (s1.trans s2)⟩
theorem XX (ha:PT X a (RT X.K f))(hb:PW X (.BoolOp .Or (b :: rest) pos) (RT X.K g)):PW X (.BoolOp .Or (a :: b :: rest) pos) (RT X.K (fOr f g)):=
 Oj (Yd ha hb) λσ H Q z9=>by
  obtain ⟨Oo,c,t,fi,r,t',eq,k⟩:=z9;obtain ⟨kb,t1,e1,eq⟩:=Ag eq;refine ⟨Oo,c,t,fi,kb,t1,e1,λH1 c1 f1 s1=>?_⟩
  cases kb with
  | true=>rw [if_pos rfl] at eq ⊢;cases eq;exact k H1 c1 f1 s1
  | false=>rw [if_neg Bool.false_ne_true] at eq ⊢;exact ⟨Oo,c1,t1,f1,r,t',eq,λH2 c2 f2 s2=>k H2 c2 f2 (s1.trans s2)⟩
theorem VU (ha:PT X a (RT X.K f)):PT X (.UnaryOp .Not a pos) (RT X.K (D1 f)):=
 HQ (WM ha) λσ H Q z9=>by
  obtain ⟨Oo,c,t,fi,r,t',eq,k⟩:=z9;obtain ⟨kb,t1,e1,eq⟩:=Ag eq
  cases eq
  exact ⟨Oo,c,t,fi,kb,_,e1,λH1 c1 f1 s1=>k H1 c1 f1 s1⟩
theorem LG {f:M D}{kb:Bool}{t1:T}(h:Ak f t=some (kb,t1)):f t=some (.bl kb,t1):=by
 obtain ⟨d,t2,e1,e2⟩:=Ag h;obtain ⟨b,rfl,z⟩:=HG e2
 cases z
 exact e1
theorem VD {op:PySem.BoolOp}(h:PE X a (RE X.K u)):PE X (.BoolOp op [a] pos) (RE X.K u):=WE h
theorem Vy (ha:PE X a (RE X.K u))(hb:PE X (.BoolOp .And (b :: rest) pos) (RE X.K v)):PE X (.BoolOp .And (a :: b :: rest) pos) (RE X.K (FM u v)):=
 AD (Wz ha hb) λσ H Q z9=>by
  obtain ⟨Oo,c,t,fi,r,t',eq,k⟩:=z9;obtain ⟨kb,t1,e1,eq⟩:=Ag eq;refine ⟨Oo,c,t,fi,_,t1,LG e1,λx H1 c1 f1 s1 rx=>?_⟩
  cases rx
  refine ⟨kb,rfl,?_⟩
  cases kb with
  | false=>rw [if_neg Bool.false_ne_true] at eq ⊢;cases eq;exact k _ H1 c1 f1 s1 (.bl false)
  | true=>rw [if_pos rfl] at eq ⊢;exact ⟨Oo,c1,t1,f1,r,t',eq,λy H2 c2 f2 s2 ry=>k y H2 c2 f2 (s1.trans s2) ry⟩
theorem XN (ha:PE X a (RE X.K u))(hb:PE X (.BoolOp .Or (b :: rest) pos) (RE X.K v)):PE X (.BoolOp .Or (a :: b :: rest) pos) (RE X.K (Jb u v)):=
 AD (X5 ha hb) λσ H Q z9=>by
  obtain ⟨Oo,c,t,fi,r,t',eq,k⟩:=z9;obtain ⟨kb,t1,e1,eq⟩:=Ag eq;refine ⟨Oo,c,t,fi,_,t1,LG e1,λx H1 c1 f1 s1 rx=>?_⟩
  cases rx
  refine ⟨kb,rfl,?_⟩
  cases kb with
  | true=>rw [if_pos rfl] at eq ⊢;cases eq;exact k _ H1 c1 f1 s1 (.bl true)
  | false=>rw [if_neg Bool.false_ne_true] at eq ⊢;exact ⟨Oo,c1,t1,f1,r,t',eq,λy H2 c2 f2 s2 ry=>k y H2 c2 f2 (s1.trans s2) ry⟩
theorem QB {d:Expr}(hc:PT X d (RT X.K f))(ha:PE X a (RE X.K u))(hb:PE X b (RE X.K v)):PE X (.IfExp d a b pos) (RE X.K (fIf f u v)):=
 AD (Ri hc ha hb) λσ H Q z9=>by
  obtain ⟨Oo,c,t,fi,r,t',eq,k⟩:=z9;obtain ⟨kb,t1,e1,eq⟩:=Ag eq;refine ⟨Oo,c,t,fi,kb,t1,e1,λH1 c1 f1 s1=>?_⟩
  cases kb with
  | false=>rw [if_neg Bool.false_ne_true] at eq ⊢;exact ⟨Oo,c1,t1,f1,r,t',eq,λy H2 c2 f2 s2 ry=>k y H2 c2 f2 (s1.trans s2) ry⟩
  | true=>rw [if_pos rfl] at eq ⊢;exact ⟨Oo,c1,t1,f1,r,t',eq,λy H2 c2 f2 s2 ry=>k y H2 c2 f2 (s1.trans s2) ry⟩
end
variable {n:Nat}{p:Pos}
section
variable {X:Cx}{e a b:Expr}{es:List Expr}{pos:Pos}
def Ad:M (List D):=ret []
def Aa (f:M D)(g:M (List D)):M (List D):=bnd f λd=>bnd g λds=>ret (d :: ds)
theorem Vx:PA X [] (RA X.K Ad):=Oh Pt λσ H Q z9=>by
 obtain ⟨Oo,c,t,fi,r,t',eq,k⟩:=z9
 cases eq
 exact k [] H c fi .refl .nil
theorem SW {g:M (List D)}(ha:PE X e (RE X.K f))(hr:PA X es (RA X.K g))(hs:starEach (e :: es) X.env=(false,eval e X.env) :: starEach es X.env:=by rfl):PA X (e :: es) (RA X.K (Aa f g)):=
 Oh (MA ha hr hs) λσ H Q z9=>by
  obtain ⟨Oo,c,t,fi,r,t',eq,k⟩:=z9;obtain ⟨d,t1,e1,eq⟩:=Ag eq;obtain ⟨ds,t2,e2,eq⟩:=Ag eq
  cases eq
  exact ⟨Oo,c,t,fi,d,t1,e1,λx H1 c1 f1 s1 rx=>⟨Oo,c1,t1,f1,ds,_,e2,λxs H2 c2 f2 s2 rxs=>k _ H2 c2 f2 (s1.trans s2) (.cons (rx.mono s2.ext) rxs)⟩⟩
def lim {α:Type}(n:Nat)(a:α):M α:=λt=>if n<=LIM then some (a,t) else none
theorem Dv {α:Type}{a:α}{z:α×T}(h:lim n a t=some z):n<=LIM/\z=(a,t):=by
 unfold lim at h
 split at h
 ·next h1=>cases h;exact ⟨h1,rfl⟩
 ·cases h
def AL (f:M (List D)):M D:=bnd f λds=>lim ds.length (.tup ds)
theorem VH {x1:Nat}{f:M (List D)}(h:PA X es (RA X.K f)):PE X (.Tuple es x1 pos) (RE X.K (AL f)):=
 AD (WG h) λσ H Q z9=>by
  obtain ⟨Oo,c,t,fi,r,t',eq,k⟩:=z9;obtain ⟨ds,t1,e1,eq⟩:=Ag eq;obtain ⟨hl,z⟩:=Dv eq
  cases z
  refine ⟨Oo,c,t,fi,ds,_,e1,λxs H1 c1 f1 s1 rxs=>⟨by rw [rxs.length];exact Nat.le_trans hl CA,λp hp=>?_⟩⟩;exact k _ _ c1 (f1.laid hp) (s1.trans (f1.stp_laid hp)) (.tup Aj (f1.s.free hp) (rxs.mono (Ext.laid f1.s hp)))
def AI (f:M (List D)):M (List D):=bnd f λds=>lim ds.length ds
theorem VL {f:M (List D)}(h:PA X es (RA X.K f)):PE X (.List es pos) (RF X.K (AI f)):=
 AD (WC h) λσ H Q z9=>by
  obtain ⟨Oo,c,t,fi,r,t',eq,k⟩:=z9;obtain ⟨ds,t1,e1,eq⟩:=Ag eq;obtain ⟨hl,z⟩:=Dv eq
  cases z
  exact ⟨Oo,c,t,fi,_,_,e1,λxs H1 c1 f1 s1 rxs=>⟨by rw [rxs.length];exact Nat.le_trans hl CA,λp hp=>k p xs H1 c1 f1 s1 rxs hp⟩⟩
def Av (f:M (List D)):M D:=bnd f λds=>ret (.lst ds)
theorem Tb {f:M (List D)}(h:PE X e (RF X.K f)):PE X e (RE X.K (Av f)):=
 AD h λσ H Q z9=>by
  obtain ⟨Oo,c,t,fi,r,t',eq,k⟩:=z9;obtain ⟨ds,t1,e1,eq⟩:=Ag eq
  cases eq
  exact ⟨Oo,c,t,fi,ds,_,e1,λp xs H1 c1 f1 s1 rxs hp=>k _ _ c1 (f1.laid hp) (s1.trans (f1.stp_laid hp)) (.lst Aj (f1.s.free hp) (rxs.mono (Ext.laid f1.s hp)))⟩
noncomputable def NL (o:Ob):M D:=λt=>some (.obj t.S.length,{ t with S:=t.S++[o] })
def FN (f:M (List D)):M D:=bnd f λds=>NL (.lst ds)
theorem VC {f:M (List D)}(h:PE X e (RF X.K f)):PE X e (RE X.K (FN f)):=
 AD h λσ H Q z9=>by
  obtain ⟨Oo,c,t,fi,r,t',eq,k⟩:=z9;obtain ⟨ds,t1,e1,eq⟩:=Ag eq
  cases eq
  refine ⟨Oo,c,t,fi,ds,_,e1,λp xs H1 c1 f1 s1 rxs hp=>?_⟩;obtain ⟨c2,f2,s2,e2⟩:=f1.newObj (o:=.lst ds) (u:=.lst xs) hp λc' H' ex hu=>⟨xs,hu,rxs.mono ex⟩;exact k _ _ c2 f2 (s1.trans s2) (.obj e2)
abbrev Fn:=List D->List Ob->Option (D×List Ob)
inductive spF (K:PySem.W.Frag)(f:Fn)(vs:List V)(H:Hp)(Q:VK)(E:XK):Prop where
 | mk (c:Cf) (ds:List D) (S:List Ob) (si:SInv K c S H) (rs:Reps K c H vs ds) (r:D) (S':List Ob) (e:f ds S=some (r,S')) (k:∀v H' c',SInv K c' S' H'->Stp c.O c H c' H'->(∀b,c'.O b↔c.O b)->Rep K c' H' v r->Q v H'):spF K f vs H Q E
def Af (g:Fn)(f:M (List D)):M D:=bnd f λds t=>match g ds t.S with
 | some (r,S')=>some (r,{ t with S:=S' })
 | none=>none
theorem Gc {g:Fn}{ds:List D}{r:D}{t':T}(h:(match g ds t.S with | some (r,S')=>some (r,{ t with S:=S' }) | none=>none:Option (D×T))=some (r,t')):∃S',g ds t.S=some (r,S')/\t' = { t with S:=S' }:=by
 cases e:g ds t.S with
 | none=>rw [e] at h;cases h
 | some p=>obtain ⟨r',S'⟩:=p;rw [e] at h;cases h;exact ⟨S',rfl,rfl⟩
theorem SY {k:Nat}{fa:Addr}{fd:FuncData}{ps:List Str}{g:Fn}{f:M (List D)}(F:FnOk X.prog X.w X.K X.mg X.base CX0 k fa fd ps (spF X.K g))(hr:Room k X.A)(hg:Gl X x)(hm:X.mg x=some (.ref fa))(hk:PySem.W.keepIn X.K (.ref fa)=true)(hb:Binds X.K fd ps [])
 (ha:PA X (e :: es) (RA X.K f)) (hdb:(x == ("__debug__" : Str))=false:=by decide) (he:starEach (e :: es) X.env=(false,eval e X.env) :: starEach es X.env:=by rfl) (hpl:(backTo pos (starEach es X.env)).any (·.1)=false:=by rfl) :
 PE X (.Call (.Name x p) (e :: es) [] pos) (RE X.K (Af g f)):=
 AD (Ug F hr hg hm hk hb .nil NS ha hdb he hpl) λσ H Q z9=>by
  obtain ⟨Oo,c,t,fi,r,t',eq,kk⟩:=z9;obtain ⟨ds,t1,e1,eq⟩:=Ag eq;obtain ⟨S',e2,rfl⟩:=Gc eq;refine ⟨Oo,c,t,fi,ds,t1,e1,λvs H1 c1 f1 s1 rvs=>?_⟩;show spF X.K g (vs++[]) H1 Q E0;rw [List.append_nil];refine ⟨c1,ds,t1.S,f1.s,rvs,r,S',e2,λv H' c' si st ho rv=>?_⟩;obtain ⟨f2,s2⟩:=f1.after si st ho;exact kk v H' c' f2 (s1.trans s2) rv
def fB (f:M (List D))(h:List D->M D):M D:=bnd f h
theorem RE.callB {f:M (List D)}{h:List D->M D}{R:List V->Hp->VK->Prop}(s:Fj K R h){σ:L2.St}{H:Hp}{Q:VK}(q:RE K (fB f h) σ H Q):tCB R (RA K f) σ H Q:=by
 obtain ⟨Oo,c,t,fi,r,t',eq,k⟩:=q;obtain ⟨ds,t1,e1,eq⟩:=Ag eq;exact ⟨Oo,c,t,fi,ds,t1,e1,λxs H1 c1 f1 s1 rxs=>s f1 rxs eq λv H' c' f' s' rv=>k v H' c' f' (s1.trans s') rv⟩
def fBF (f:M (List D))(h:List D->M (List D)):M (List D):=bnd f h
theorem RF.callB {f:M (List D)}{h:List D->M (List D)}{R:List V->Hp->VK->Prop}(s:JW K R h){σ:L2.St}{H:Hp}{Q:VK}(q:RF K (fBF f h) σ H Q):tCB R (RA K f) σ H Q:=by
 obtain ⟨Oo,c,t,fi,r,t',eq,k⟩:=q;obtain ⟨ds,t1,e1,eq⟩:=Ag eq;exact ⟨Oo,c,t,fi,ds,t1,e1,λxs H1 c1 f1 s1 rxs=>s f1 rxs eq λp vs H' c' f' s' rv hp=>k p vs H' c' f' (s1.trans s') rv hp⟩
theorem RF.two {h:D->D->M (List D)}(s:JV K R h){σ:L2.St}{H:Hp}{Q:VK}(q:RF K (bnd f λx=>bnd g λy=>h x y) σ H Q):tOp R (RE K f) (RE K g) σ H Q:=by
 obtain ⟨Oo,c,t,fi,r,t',eq,k⟩:=q;obtain ⟨dx,t1,e1,eq⟩:=Ag eq;obtain ⟨dy,t2,e2,eq⟩:=Ag eq;exact ⟨Oo,c,t,fi,dx,t1,e1,λx H1 c1 f1 s1 rx=>⟨Oo,c1,t1,f1,dy,t2,e2,λy H2 c2 f2 s2 ry=>s f2 (rx.mono s2.ext) ry eq λp vs H' c' f' s' rv hp=>k p vs H' c' f' ((s1.trans s2).trans s') rv hp⟩⟩
end
variable {μ:Cf->Hp->D->(V->Hp->Prop)->Prop}
section
variable {X:Cx}{e a b:Expr}{pos:Pos}{st:Stmt}{sts:List Stmt}
noncomputable def Ah (f g:M Out):M Out:=λt=>match f t with
 | some (.next,t1)=>g t1
 | z=>z
def Aw:M Out:=ret .next
theorem Tm:PSs X [] (RSg X.K μ Aw):=LY Uw λE σ H z9=>by
 obtain ⟨Oo,c,t,fi,o,t',eq,k⟩:=z9
 cases eq
 exact k σ H c fi .refl
theorem QK {μ:Cf->Hp->D->(V->Hp->Prop)->Prop}{f g:M Out}(h1:PS X st (RSg X.K μ f))(h2:PSs X sts (RSg X.K μ g)):PSs X (st :: sts) (RSg X.K μ (Ah f g)):=
 LY (Hz h1 h2) λE σ H z9=>by
  obtain ⟨Oo,c,t,fi,o,t',eq,k⟩:=z9;unfold Ah at eq
  cases e1:f t with
  | none=>rw [e1] at eq;cases eq
  | some p=>
    obtain ⟨o1,t1⟩:=p;rw [e1] at eq;refine ⟨Oo,c,t,fi,o1,t1,e1,λσ1 H1 c1 f1 s1=>?_⟩
    cases o1 with
    | next=>exact ⟨Oo,c1,t1,f1,o,t',eq,λσ2 H2 c2 f2 s2=>k σ2 H2 c2 f2 (s1.trans s2)⟩
    | brk=>cases eq;exact k σ1 H1 c1 f1 s1
    | cont=>cases eq;exact k σ1 H1 c1 f1 s1
    | ret d=>cases eq;exact k σ1 H1 c1 f1 s1
theorem Ml {μ:Cf->Hp->D->(V->Hp->Prop)->Prop}{f:M Out}(h1:PS X st (RSg X.K μ f)):PSs X [st] (RSg X.K μ f):=GU h1
def Au (f:M D):M Out:=bnd f λd=>ret (.ret d)
theorem OQ (h:PE X e (RE X.K f)):PS X (.Return (some e) pos) (RS X.K (Au f)):=
 A8 (Lf h) λE σ H z9=>by
  obtain ⟨Oo,c,t,fi,o,t',eq,k⟩:=z9;obtain ⟨d,t1,e1,eq⟩:=Ag eq
  cases eq
  exact ⟨Oo,c,t,fi,d,_,e1,λv H1 c1 f1 s1 rv=>k σ H1 c1 f1 s1 v rv⟩
theorem Mh:PS X (.Pass pos) (RSg X.K μ Aw):=A8 Uv λE σ H z9=>by
 obtain ⟨Oo,c,t,fi,o,t',eq,k⟩:=z9
 cases eq
 exact k σ H c fi .refl
def GM (f:M D):M Out:=bnd f λ_=>ret .next
theorem Mg (h:PE X e (RE X.K f))(hs:swapsWith e none pos.line X.env=pure false:=by rfl):PS X (.Expr e pos) (RSg X.K μ (GM f)):=
 A8 (Ji h hs) λE σ H z9=>by
  obtain ⟨Oo,c,t,fi,o,t',eq,k⟩:=z9;obtain ⟨d,t1,e1,eq⟩:=Ag eq
  cases eq
  exact ⟨Oo,c,t,fi,d,_,e1,λv H1 c1 f1 s1 rv=>k σ H1 c1 f1 s1⟩
def ifS (f:M Bool)(g h:M Out):M Out:=bnd f λk=>if k=true then g else h
theorem XV {f:M Bool}{g h:M Out}{sa sb:List Stmt}(hc:PT X e (RT X.K f))(ha:PSs X sa (RSg X.K μ g))(hb:PSs X sb (RSg X.K μ h)):PS X (.If e sa sb pos) (RSg X.K μ (ifS f g h)):=
 A8 (Yc hc ha hb) λE σ H z9=>by
  obtain ⟨Oo,c,t,fi,o,t',eq,k⟩:=z9;obtain ⟨kb,t1,e1,eq⟩:=Ag eq;refine ⟨Oo,c,t,fi,kb,t1,e1,λH1 c1 f1 s1=>?_⟩
  cases kb with
  | true=>rw [if_pos rfl] at eq ⊢;exact ⟨Oo,c1,t1,f1,o,t',eq,λσ2 H2 c2 f2 s2=>k σ2 H2 c2 f2 (s1.trans s2)⟩
  | false=>rw [if_neg Bool.false_ne_true] at eq ⊢;exact ⟨Oo,c1,t1,f1,o,t',eq,λσ2 H2 c2 f2 s2=>k σ2 H2 c2 f2 (s1.trans s2)⟩
noncomputable def Al (i:Nat)(d:D):M Unit:=λt=>some ((),{ t with env:=t.env.set i (some (.val d)) })
def Ap (i:Nat)(f:M D):M Out:=bnd f λd=>bnd (Al i d) λ_=>ret .next
theorem RS.set {μ:Cf->Hp->D->(V->Hp->Prop)->Prop}{K:PySem.W.Frag}{i:Nat}{f:M D}{E:Ends}{σ:L2.St}{H:Hp}(q:RSg K μ (Ap i f) E σ H):LF (RE K f) (Ip i) E σ H:=by
 obtain ⟨Oo,c,t,fi,o,t',eq,k⟩:=q;obtain ⟨d,t1,e1,eq⟩:=Ag eq
 cases eq
 exact ⟨Oo,c,t,fi,d,t1,e1,λv H1 c1 f1 s1 rv=>k _ H1 c1 (f1.set rv) s1⟩
theorem KK {pos':Pos}(hN:X.N.Nodup)(hi:X.N[i]?=some x)(hx:Loc X.env.scope x)(he:PE X e (RE X.K f))(hs:swapsWith e (some (.Name x pos')) pos.line X.env=pure false:=by rfl)(hf:X.fn x=true\/X.env.scope.names.lookup x=some .local:=by walk_at "h") :
 PS X (.Assign [.Name x pos'] e pos) (RSg X.K μ (Ap i f)):=A8 (Lg hN hi hx he hs hf) λ_ _ _ q=>RS.set q
def B9 (i:Nat)(f:M (List D)):M Out:=bnd f λds t=>some (.next,{ t with env:=t.env.set i (some (.own ds)) })
theorem RS.own {f:M (List D)}{E:Ends}(q:RSg K μ (B9 i f) E σ H):LF (RF K f) (Ip i) E σ H:=by
 obtain ⟨Oo,c,t,fi,o,t',eq,k⟩:=q;obtain ⟨ds,t1,e1,eq⟩:=Ag eq
 cases eq
 refine ⟨Oo,c,t,fi,ds,t1,e1,λp vs H1 c1 f1 s1 rv hp=>?_⟩;obtain ⟨c2,f2,s2⟩:=f1.setOwn (i:=i) hp rv;exact k _ _ c2 f2 (s1.trans s2)
theorem VT {f:M (List D)}{pos':Pos}(hN:X.N.Nodup)(hi:X.N[i]?=some x)(hx:Loc X.env.scope x)(he:PE X e (RF X.K f))(hs:swapsWith e (some (.Name x pos')) pos.line X.env=pure false:=by rfl)(hf:X.fn x=true\/X.env.scope.names.lookup x=some .local:=by walk_at "h") :
 PS X (.Assign [.Name x pos'] e pos) (RSg X.K μ (B9 i f)):=A8 (Lg hN hi hx he hs hf) λ_ _ _ q=>RS.own q
theorem BI (hN:X.N.Nodup)(hi:X.N[i]?=some x)(hx:Loc X.env.scope x)(hf:X.fn x=true\/X.env.scope.names.lookup x=some .local:=by walk_at "h"):PG X (.Name x pos) (RG X.K (Al i)):=
 F8 (Ul hN hi hx hf) λv σ H Q z9=>by
  obtain ⟨Oo,c,t,d,fi,rv,t',eq,k⟩:=z9
  cases eq
  exact k _ H c (fi.set rv) .refl
def A4 (f:M D)(g:D->M Unit):M Out:=bnd f λd=>bnd (g d) λ_=>ret .next
theorem VR {g:D->M Unit}(he:PE X e (RE X.K f))(hg:PG X tg (RG X.K g))(hs:swapsWithSole [tg] e pos.line X.env=pure false:=by rfl)(hw:swappedStores [tg] e X.env=pure none:=by rfl)(hp:(assignEach [tg] X.env).map (·.2)=[assign tg X.env]:=by rfl) :
 PS X (.Assign [tg] e pos) (RSg X.K μ (A4 f g)):=
 A8 (by first | exact Pz he hg hs hw | exact Pz he hg hs hw hp) λE σ H z9=>by
  obtain ⟨Oo,c,t,fi,o,t',eq,k⟩:=z9;obtain ⟨d,t1,e1,eq⟩:=Ag eq;obtain ⟨u,t2,e2,eq⟩:=Ag eq
  cases eq
  exact ⟨Oo,c,t,fi,d,t1,e1,λv H1 c1 f1 s1 rv=>⟨Oo,c1,t1,d,f1,rv,_,e2,λσ2 H2 c2 f2 s2=>k σ2 H2 c2 f2 (s1.trans s2)⟩⟩
inductive RGs (K:PySem.W.Frag)(f:List D->M Unit)(vs:List V)(σ:L2.St)(H:Hp)(Q:L2.St->Hp->Prop):Prop where
 | mk (Oo:Addr->Prop) (c:Cf) (t:T) (ds:List D) (fi:FInv K Oo c t σ H) (r:Reps K c H vs ds) (t':T) (e:f ds t=some ((),t')) (k:∀σ' H' c',FInv K Oo c' t' σ' H'->Stp Oo c H c' H'->Q σ' H'):RGs K f vs σ H Q
theorem LX {ts:List Expr}{t t':TGs}(h:PGs X ts t)(i:∀v σ H Q,t' v σ H Q->t v σ H Q):PGs X ts t':=λpins s σ H vs us Q I r q=>h pins s σ H vs us Q I r (i vs σ H Q q)
def Bl:List D->M Unit
 | []=>ret ()
 | _=>fail
def Ar (f:D->M Unit)(g:List D->M Unit):List D->M Unit
 | d :: ds=>bnd (f d) λ_=>g ds
 | []=>fail
theorem Tc:PGs X [] (RGs X.K Bl):=LX Um λvs σ H Q z9=>by
 obtain ⟨Oo,c,t,ds,fi,rv,t',eq,k⟩:=z9
 cases rv with
 | nil=>cases eq;exact ⟨rfl,k σ H c fi .refl⟩
 | cons _ _=>cases eq
theorem RGs.cons {K:PySem.W.Frag}{f:D->M Unit}{g:List D->M Unit}{vs:List V}{σ:L2.St}{H:Hp}{Q:L2.St->Hp->Prop}(q:RGs K (Ar f g) vs σ H Q):So (RG K f) (RGs K g) vs σ H Q:=by
 obtain ⟨Oo,c,t,ds,fi,rv,t',eq,k⟩:=q
 cases rv with
 | nil=>cases eq
 | cons r rs=>
   obtain ⟨u,t1,e1,eq⟩:=Ag eq;exact ⟨_,_,rfl,Oo,c,t,_,fi,r,t1,e1,λσ1 H1 c1 f1 s1=>⟨Oo,c1,t1,_,f1,rs.mono s1.ext,t',eq,λσ2 H2 c2 f2 s2=>k σ2 H2 c2 f2 (s1.trans s2)⟩⟩
def unT (n:Nat)(g:List D->M Unit):D->M Unit
 | .tup ds=>if ds.length=n then g ds else fail
 | _=>fail
def BL (st:D->M Unit)(b:M Out):List D->M Out
 | []=>ret .next
 | d :: r=>λt=>match st d t with
   | none=>none
   | some (_,t1)=>match b t1 with
     | some (.next,t2)=>BL st b r t2
     | some (.cont,t2)=>BL st b r t2
     | some (.brk,t2)=>some (.next,t2)
     | some (.ret x,t2)=>some (.ret x,t2)
     | none=>none
def Ci (f:M (List D))(st:D->M Unit)(b:M Out):M Out:=bnd f λds=>BL st b ds
theorem RS.for {f:M (List D)}{g:D->M Unit}{b:M Out}{E:Ends}(q:RSg K μ (Ci f g b) E σ H):Xe (RI K f) (RG K g) (RSg K μ b) E σ H:=by
 obtain ⟨Oo,c,t,fi,o,t',eq,k⟩:=q;obtain ⟨ds,t1,e1,eq⟩:=Ag eq;refine ⟨Oo,c,t,fi,ds,t1,e1,λJ H1 c1 f1 s1 it=>?_⟩;refine ⟨λi m σ' H'=>m=ds.length - i/\i<=ds.length/\∃c' t2,FInv K Oo c' t2 σ' H'/\Stp Oo c1 H1 c' H'/\BL g b (ds.drop i) t2=some (o,t'),⟨_,rfl,Nat.zero_le _,c1,t1,f1,.refl,by rw [List.drop_zero];exact eq⟩,?_⟩;rintro i m σ' H' ⟨rfl,hi,c',t2,f2,s2,e2⟩
 by_cases hlt:i < ds.length
 ·refine .inr ⟨it.go c' H' i s2.ext hlt,λσ3 H3=>∃c3 t3,FInv K Oo c3 t3 σ3 H3/\Stp Oo c1 H1 c3 H3/\BL g b (ds.drop (i + 1)) t3=some (o,t'),λσ3 H3 h=>⟨ds.length - (i + 1),by lia,rfl,hlt,h⟩,λx H'' hy=>?_⟩;obtain ⟨rfl,rx⟩:=it.yld c' H' i x H'' _ s2.ext (List.getElem?_eq_getElem hlt) hy;rw [List.drop_eq_getElem_cons hlt] at e2;unfold BL at e2
  cases e3:g ds[i] t2 with
  | none=>rw [e3] at e2;cases e2
  | some p=>
    obtain ⟨u,t3⟩:=p;rw [e3] at e2
    try dsimp only at e2
    refine ⟨Oo,c',t2,_,f2,rx,t3,e3,λσ3 H3 c3 f3 s3=>?_⟩
    cases e4:b t3 with
    | none=>rw [e4] at e2;cases e2
    | some p=>
      obtain ⟨o4,t4⟩:=p;rw [e4] at e2
      try dsimp only at e2
      refine ⟨Oo,c3,t3,f3,o4,t4,e4,λσ5 H5 c5 f5 s5=>?_⟩;have s':=(s2.trans s3).trans s5
      cases o4 with
      | next=>exact ⟨c5,t4,f5,s',e2⟩
      | cont=>exact ⟨c5,t4,f5,s',e2⟩
      | brk=>cases e2;exact k σ5 H5 c5 f5 (s1.trans s')
      | ret r=>cases e2;exact k σ5 H5 c5 f5 (s1.trans s')
 ·have hi':i=ds.length:=by lia
  subst hi';rw [List.drop_length] at e2
  cases e2
  exact .inl ⟨it.stop c' H' s2.ext,k σ' H' c' f2 (s1.trans s2)⟩
theorem ON {iter:Expr}{body:List Stmt}{f:M (List D)}{g:D->M Unit}{b:M Out}(hp:PassesOwn (model X.prog X.w) X.A X.env X.xe)(hc:X.calm=true)(hi:PI X tg iter (RI X.K f))(hg:PG X tg (RG X.K g))(hb:PSs X body (RSg X.K μ b))
 (hs:∀x,foldedSetIterable iter X.env x=pure x:=by intro _;rfl):PS X (.For tg iter body [] pos) (RSg X.K μ (Ci f g b)):=
 A8 (WK hp hc hi hg hb hs) λ_ _ _ q=>RS.for q
theorem ItOk.lst {K:PySem.W.Frag}{c:Cf}{H:Hp}{p:Addr}{ds:List D}(r:∀c' H',Ext c H c' H'->∃vs,SqL K H' p vs/\Reps K c' H' vs ds):ItOk K (Itl K p) c H ds:=by
 refine ⟨λc' H' i ex hi=>?_,λc' H' i x H'' d ex hd hy=>?_,λc' H' ex=>?_⟩
 ·obtain ⟨vs,h1,h2⟩:=r c' H' ex;obtain ⟨v,e,_⟩:=h2.at (List.getElem?_eq_getElem hi);exact ⟨vs,v,h1,e⟩
 ·obtain ⟨vs,h1,h2⟩:=r c' H' ex;obtain ⟨rfl,h⟩:=hy;exact ⟨rfl,h2.get (h vs h1) hd⟩
 ·obtain ⟨vs,h1,h2⟩:=r c' H' ex;exact ⟨vs,h1,by rw [h2.length];exact Nat.le_refl _⟩
theorem ItOk.tup {K:PySem.W.Frag}{c:Cf}{H:Hp}{p:Addr}{ds:List D}(r:∀c' H',Ext c H c' H'->∃vs,SqT K H' p vs/\Reps K c' H' vs ds):ItOk K (Itt K p) c H ds:=by
 refine ⟨λc' H' i ex hi=>?_,λc' H' i x H'' d ex hd hy=>?_,λc' H' ex=>?_⟩
 ·obtain ⟨vs,h1,h2⟩:=r c' H' ex;obtain ⟨v,e,_⟩:=h2.at (List.getElem?_eq_getElem hi);exact ⟨vs,v,h1,e⟩
 ·obtain ⟨vs,h1,h2⟩:=r c' H' ex;obtain ⟨rfl,h⟩:=hy;exact ⟨rfl,h2.get (h vs h1) hd⟩
 ·obtain ⟨vs,h1,h2⟩:=r c' H' ex;exact ⟨vs,h1,by rw [h2.length];exact Nat.le_refl _⟩
end
theorem FInv.leave {Oo:Addr->Prop}(f:FInv K Oo c t σ H):SInv K ⟨c.ι,Oo⟩ t.S H/\Ext c H ⟨c.ι,Oo⟩ H:=by
 have ext:Ext c H ⟨c.ι,Oo⟩ H:=⟨λ_ _ e _=>e,λb o _ z=>z.elim .inl λw=>.inr (f.sub b w),λ_ _ e=>e⟩;exact ⟨⟨f.s.len,f.s.nd,λk a o e1 e2=>(f.s.obs k a o e1 e2).mono ext rfl,λb z=>f.s.trk b (f.sub b z),λb z=>f.s.dis b (f.sub b z)⟩,ext⟩
noncomputable def env0 (m:Nat)(ds:List D):List (Option Sl):=ds.map (λd=>some (.val d))++List.replicate (m - ds.length) none
def fnOf (n m:Nat)(g:M Out):Fn:=λds S=>if ds.length=n then (match g ⟨env0 m ds,S⟩ with
 | some (.ret r,t)=>some (r,t.S)
 | some (.next,t)=>some (.non,t.S)
 | _=>none) else none
theorem Ik {ds:List D}{N:List Str}(s:SInv K c S H)(r:Reps K c H vs ds):FInv K c.O c ⟨env0 N.length ds,S⟩ (L2.start N vs) H:=by
 have hlen:vs.length=ds.length:=r.length;have none_:∀{i:Nat} {x:Sl},(env0 N.length ds)[i]?=some (some x)->∃d,ds[i]?=some d/\x = .val d:=λ{i x} q=>by
  unfold env0 at q
  by_cases hi:i < ds.length
  ·rw [List.getElem?_append_left (by simpa using hi),List.getElem?_map,List.getElem?_eq_getElem hi] at q;simp at q;exact ⟨ds[i],List.getElem?_eq_getElem hi,q.symm⟩
  ·rw [List.getElem?_append_right (by simpa using hi),List.getElem?_replicate] at q
   split at q <;> simp at q
 refine ⟨s,by simp [env0,L2.start,hlen],λ_ z=>z,λi d q=>?_,λi es q=>?_,λi j es _ a q _ _ _=>?_⟩
 ·obtain ⟨d',h1,h2⟩:=none_ q
  cases h2
  obtain ⟨v,h3,h4⟩:=r.at h1;refine ⟨v,?_,h4⟩;unfold L2.start;have hi:=(List.getElem?_eq_some_iff.mp h3).1;rw [List.getElem?_append_left (by simpa using hi),List.getElem?_map,h3];rfl
 ·obtain ⟨_,_,h2⟩:=none_ q;cases h2
 ·obtain ⟨_,_,h2⟩:=none_ q;cases h2
theorem XU {P:Program}{w:World}{mg:Str->Option Value}{base:Heap}{qual:Str}{st:Stmt}{fa:Addr}{fd:FuncData}{N ps:List Str}{k:Nat}{g:M Out}(F:Fun K x qual st fa fd)(S:FnScope N ps (Ao st))
 (hb:∀(cdv:Value) (A:Around) (outer:List Env) (s:Shared) (H:Hp) (E:XK),Room k (A.deeper (PyProof.Rows.envOfC qual (Ao st) s.heap.objs.size fa cdv))->
   PSs (Dh CX0 P w K mg base N qual (Ao st) fa cdv A outer s H E).nox (Bj st) (RS K g)):FnOk P w K mg base CX0 (k + 1) fa fd ps (spF K (fnOf ps.length N.length g)):=by
 have hlen:∀{ds:List D} {S:List Ob} {z:D×List Ob},fnOf ps.length N.length g ds S=some z->ds.length=ps.length:=λ{ds S z} h=>by
  unfold fnOf at h
  split at h
  ·next h1=>exact h1
  ·cases h
 refine F.ok S (λvs H Q E h=>?_) (λcdv A outer s H vs Q E hr h=>?_)
 ·obtain ⟨c,ds,S,si,rs,r,S',e,_⟩:=h;rw [rs.length];exact hlen e
 obtain ⟨c,ds,S0,si,rs,r,S',e,kk⟩:=h;refine ⟨RS K g,hb cdv A outer s H E hr,?_⟩;have hl:=hlen e;unfold fnOf at e;rw [if_pos hl] at e
 cases eg:g ⟨env0 N.length ds,S0⟩ with
 | none=>rw [eg] at e;cases e
 | some p=>
   obtain ⟨o,t⟩:=p;rw [eg] at e;refine ⟨c.O,c,_,Ik si rs,o,t,eg,λσ' H' c' f' s'=>?_⟩;obtain ⟨si',ext'⟩:=f'.leave;have st':Stp c.O c H ⟨c'.ι,c.O⟩ H':=⟨s'.ext.trans ext',s'.oo⟩
   cases o with
   | next=>cases e;exact kk .non H' _ si' st' (λ_=>Iff.rfl) .non
   | ret d=>cases e;exact λv rv=>kk v H' _ si' st' (λ_=>Iff.rfl) (rv.mono ext')
   | brk=>cases e
   | cont=>cases e
variable {fr:List Nat}
section
variable {X:Cx}{e a b:Expr}{pos:Pos}
def items:D->M (List D)
 | .lst ds=>ret ds
 | .tup ds=>ret ds
 | .scr ns=>ret (ns.map .int)
 | _=>fail
noncomputable def AJ (lo:Int)(n:Nat):List D:=(List.range n).map λi=>.int (lo + (i:Nat))
theorem ItOk.rng {lo:Int}:ItOk K (Itr lo n) c H (AJ lo n):=by
 refine ⟨λc' H' i ex hi=>?_,λc' H' i x H'' d ex hd hy=>?_,λc' H' ex=>?_⟩
 ·have:i < n:=by simpa [AJ] using hi
  exact this
 ·obtain ⟨rfl,rfl⟩:=hy;refine ⟨rfl,?_⟩;have hi:i < n:=by
   have:=(List.getElem?_eq_some_iff.mp hd).1;simpa [AJ] using this
  have:d = .int (lo + (i:Nat)):=by
   rw [AJ,List.getElem?_map,List.getElem?_range hi] at hd;simpa using hd.symm
  rw [this];exact .int _
 ·show n<=(AJ lo n).length;simp [AJ]
noncomputable def BE (i:Int):Bool:=decide (-(2 ^ 62)<=i) && decide (i < 2 ^ 62)
def Jm:List D->M (List D)
 | [.int j]=>λt=>if BE j=true then some (AJ 0 j.toNat,t) else none
 | _=>fail
def Jn:List D->M (List D)
 | [.int i,.int j]=>λt=>if (BE i && BE j)=true then some (AJ i (j - i).toNat,t) else none
 | _=>fail
def Bm (f:M (List D)):M (List D):=bnd f Jm
def FO (f:M (List D)):M (List D):=bnd f Jn
theorem Em {i:Int}(h:BE i=true) : -(2 ^ 62)<=i/\i < 2 ^ 62:=by
 unfold BE at h;rw [Bool.and_eq_true] at h;exact ⟨of_decide_eq_true h.1,of_decide_eq_true h.2⟩
theorem OK {f:M (List D)}(hg:Gl X "range")(hm:X.mg "range" = none)(ha:PA X [a] (RA X.K f))(hs:starEach [a] X.env=[(false,eval a X.env)]:=by rfl):PI X tg (.Call (.Name "range" p) [a] [] pos) (RI X.K (Bm f)):=
 HN (Pw hg hm ha hs) λσ H R z9=>by
  obtain ⟨Oo,c,t,fi,ds,t',eq,k⟩:=z9;obtain ⟨xs,t1,e1,eq⟩:=Ag eq;refine ⟨Oo,c,t,fi,xs,t1,e1,λvs H1 c1 f1 s1 rv=>?_⟩;unfold Jm at eq
  split at eq
  ·next j=>
   split at eq
   ·next hs=>
    cases eq
    cases rv with
    | cons r rs=>
      cases rs
      cases r
      obtain ⟨h1,h2⟩:=Em hs;exact ⟨j,rfl,h1,h2,k _ H1 c1 f1 s1 ItOk.rng⟩
   ·cases eq
  ·cases eq
theorem OL {f:M (List D)}(hg:Gl X "range")(hm:X.mg "range" = none)(ha:PA X [a,b] (RA X.K f))(hs:starEach [a,b] X.env=[(false,eval a X.env),(false,eval b X.env)]:=by rfl)(hs2:starEach [b] X.env=[(false,eval b X.env)]:=by rfl):PI X tg (.Call (.Name "range" p) [a,b] [] pos) (RI X.K (FO f)):=
 HN (Px hg hm ha hs hs2) λσ H R z9=>by
  obtain ⟨Oo,c,t,fi,ds,t',eq,k⟩:=z9;obtain ⟨xs,t1,e1,eq⟩:=Ag eq;refine ⟨Oo,c,t,fi,xs,t1,e1,λvs H1 c1 f1 s1 rv=>?_⟩;unfold Jn at eq
  split at eq
  ·next i j=>
   split at eq
   ·next hs=>
    cases eq
    rw [Bool.and_eq_true] at hs
    cases rv with
    | cons r rs=>
      cases r
      cases rs with
      | cons r rs=>
        cases rs
        cases r
        obtain ⟨h1,h2⟩:=Em hs.1;obtain ⟨h3,h4⟩:=Em hs.2;exact ⟨i,j,rfl,⟨h1,h2,h3,h4⟩,k _ H1 c1 f1 s1 ItOk.rng⟩
   ·cases eq
  ·cases eq
def Bf (st:D->M Unit)(tst:M Bool)(elt:M D):List D->M (List D)
 | []=>ret []
 | d :: r=>bnd (st d) λ_=>bnd tst λk=>if k=true then bnd elt λx=>bnd (Bf st tst elt r) λxs=>ret (x :: xs) else Bf st tst elt r
noncomputable def Yw:Option (Option Sl)->Option Sl
 | some (some (.val d))=>some (.val d)
 | _=>none
def cenv (n:Nat)(fr:List Nat)(env:List (Option Sl)):List (Option Sl):=List.replicate n none++fr.map λi=>Yw env[i]?
noncomputable def Ep (n:Nat)(fr:List Nat)(σ:L2.St):L2.St:=List.replicate n none++fr.map λi=>(σ[i]?).join
def AM (n:Nat)(fr:List Nat)(f:M (List D))(st:D->M Unit)(tst:M Bool)(elt:M D):M (List D):=bnd f λds t=>match Bf st tst elt ds ⟨cenv n fr t.env,t.S⟩ with
 | some (xs,t')=>if xs.length<=LIM then some (xs,{ t with S:=t'.S }) else none
 | none=>none
theorem Hq {env:List (Option Sl)}{x:Sl}(h:(cenv n fr env)[j]?=some (some x)):∃i d,n<=j/\fr[j - n]?=some i/\env[i]?=some (some (.val d))/\x = .val d:=by
 unfold cenv at h
 by_cases hj:j < n
 ·rw [List.getElem?_append_left (by simpa using hj),List.getElem?_replicate] at h
  split at h <;> simp at h
 ·rw [List.getElem?_append_right (by simpa using hj),List.length_replicate,List.getElem?_map] at h
  cases e:fr[j - n]? with
  | none=>rw [e] at h;simp at h
  | some i=>
    rw [e] at h;simp only [Option.map_some,Option.some.injEq] at h
    cases e2:env[i]? with
    | none=>rw [e2] at h;cases h
    | some o=>
      cases o with
      | none=>rw [e2] at h;cases h
      | some sl=>
        cases sl with
        | own _=>rw [e2] at h;cases h
        | val d=>rw [e2] at h;cases h;exact ⟨i,d,by lia,rfl,e2,rfl⟩
theorem Ij {Oo:Addr->Prop}(f:FInv K Oo c t σ H):FInv K c.O c ⟨cenv n fr t.env,t.S⟩ (Ep n fr σ) H:=by
 refine ⟨f.s,by simp [cenv,Ep],λ_ z=>z,λj d q=>?_,λj es q=>?_,λj _ es _ _ q _ _ _=>?_⟩
 ·obtain ⟨i,d',h0,h1,h2,h3⟩:=Hq q
  cases h3
  obtain ⟨v,h4,h5⟩:=f.val i d h2;refine ⟨v,?_,h5⟩;unfold Ep;rw [List.getElem?_append_right (by simpa using h0),List.length_replicate,List.getElem?_map,h1];simp [h4]
 ·obtain ⟨_,_,_,_,_,h⟩:=Hq q;cases h
 ·obtain ⟨_,_,_,_,_,h⟩:=Hq q;cases h
theorem RF.comp {f:M (List D)}{st:D->M Unit}{tst:M Bool}{elt:M D}{Q:VK}(q:RF K (AM n fr f st tst elt) σ H Q):Kc (RI K f) (RG K st) (RT K tst) (RE K elt) (Ep n fr) σ H Q:=by
 obtain ⟨Oo,c,t,fi,xs,t',eq,k⟩:=q;obtain ⟨ds,t1,e1,eq⟩:=Ag eq;refine ⟨Oo,c,t,fi,ds,t1,e1,λJ H1 c1 f1 s1 it=>?_⟩
 cases e3:Bf st tst elt ds ⟨cenv n fr t1.env,t1.S⟩ with
 | none=>rw [e3] at eq;cases eq
 | some p=>
   obtain ⟨ys,t3⟩:=p;rw [e3] at eq;dsimp only at eq
   split at eq
   case isFalse=>cases eq
   next hl=>
   cases eq
   refine ⟨λi m acc σ' H'=>m=ds.length - i/\i<=ds.length/\∃c' t2 zs rest,FInv K c1.O c' t2 σ' H'/\Stp c1.O c1 H1 c' H'/\Reps K c' H' acc zs/\Bf st tst elt (ds.drop i) t2=some (rest,t3)/\xs=zs++rest,
    ⟨_,rfl,Nat.zero_le _,c1,_,[],xs,Ij f1,.refl,.nil,by rw [List.drop_zero];exact e3,rfl⟩,?_⟩
   rintro i m acc σ' H' ⟨rfl,hi,c',t2,zs,rest,f2,s2,ra,e2,ez⟩;have hacc:acc.length<=sizeLine:=by
    have:zs.length<=xs.length:=by rw [ez,List.length_append];exact Nat.le_add_right _ _
    rw [ra.length];exact Nat.le_trans this (Nat.le_trans hl CA)
   refine ⟨hacc,?_⟩
   by_cases hlt:i < ds.length
   ·refine .inr ⟨it.go c' H' i s2.ext hlt,λx H'' hy=>?_⟩;obtain ⟨rfl,rx⟩:=it.yld c' H' i x H'' _ s2.ext (List.getElem?_eq_getElem hlt) hy;rw [List.drop_eq_getElem_cons hlt] at e2;unfold Bf at e2;obtain ⟨u,t4,e4,e2⟩:=Ag e2;obtain ⟨kb,t5,e5,e2⟩:=Ag e2;refine ⟨c1.O,c',t2,_,f2,rx,t4,e4,λσ3 H3 c3 f3 s3=>⟨c1.O,c3,t4,f3,kb,t5,e5,λH4 c4 f4 s4=>?_⟩⟩
    cases kb with
    | false=>
      rw [if_neg Bool.false_ne_true] at e2 ⊢;exact ⟨ds.length - (i + 1),by lia,rfl,hlt,c4,t5,zs,rest,f4,(s2.trans s3).trans s4,ra.mono (s3.trans s4).ext,e2,ez⟩
    | true=>
      rw [if_pos rfl] at e2 ⊢;obtain ⟨x6,t6,e6,e2⟩:=Ag e2;obtain ⟨r7,t7,e7,e2⟩:=Ag e2
      cases e2
      refine ⟨c1.O,c4,t5,f4,x6,t6,e6,λv H5 c5 f5 s5 rv=>?_⟩;exact ⟨ds.length - (i + 1),by lia,rfl,hlt,c5,t6,zs++[x6],r7,f5,((s2.trans s3).trans s4).trans s5,(ra.mono ((s3.trans s4).trans s5).ext).append (.cons rv .nil),e7,by rw [ez,List.append_assoc];rfl⟩
   ·have hi':i=ds.length:=by lia
    subst hi';rw [List.drop_length] at e2
    cases e2
    refine .inl ⟨it.stop c' H' s2.ext,λp hp _=>?_⟩;obtain ⟨si,ext⟩:=f2.leave;obtain ⟨f6,s6⟩:=f1.after si ⟨s2.ext.trans ext,s2.oo⟩ (λ_=>Iff.rfl);rw [List.append_nil] at ez;subst ez;exact k p acc H' _ f6 (s1.trans s6) (ra.mono ext) hp
end
end F2
namespace F2
open PySem L2 PySem.Spec PySem.SeqAt
noncomputable def eq0:D->D->Option Bool
 | .int a,.int b=>some (a == b)
 | .str a,.str b=>some (a == b)
 | .bl a,.bl b=>some (a == b)
 | .non,.non=>some true
 | .non,.tup _=>some false
 | _,_=>none
noncomputable def CT (f:D->D->Option Bool):List D->List D->Option Bool
 | x :: xs,y :: ys=>match f x y,CT f xs ys with
   | some a,some b=>some (a && b)
   | _,_=>none
 | _,_=>some true
def eqN:Nat->D->D->Option Bool
 | 0,x,y=>eq0 x y
 | n + 1,.tup xs,.tup ys=>(CT (eqN n) xs ys).map λb=>b && xs.length == ys.length
 | n + 1,.lst xs,.lst ys=>if xs.length=ys.length then CT (eqN n) xs ys else some false
 | _ + 1,x,y=>eq0 x y
noncomputable def ej (f:D->D->Option Bool)(xs ys:List D)(j:Nat):Bool:=match xs[j]?,ys[j]? with
 | some d,some e=>(f d e).getD true
 | _,_=>true
theorem CU {f:D->D->Option Bool}:∀{xs ys:List D} {b:Bool},CT f xs ys=some b->b=(List.range (min xs.length ys.length)).all (ej f xs ys)/\∀(j:Nat) d e,xs[j]?=some d->ys[j]?=some e->∃k,f d e=some k
 | [],ys,b,h=>by
   have h:some true=some b:=by simpa [CT] using h
   cases h
   refine ⟨by simp,λj d e q _=>by simp at q⟩
 | x :: xs,[],b,h=>by
   have h:some true=some b:=by simpa [CT] using h
   cases h
   refine ⟨by simp,λj d e _ q=>by simp at q⟩
 | x :: xs,y :: ys,b,h=>by
   unfold CT at h
   cases e1:f x y with
   | none=>rw [e1] at h;cases h
   | some a=>
     cases e2:CT f xs ys with
     | none=>rw [e1,e2] at h;cases h
     | some c=>
       rw [e1,e2] at h
       cases h
       obtain ⟨h1,h2⟩:=CU e2;refine ⟨?_,λj d e q1 q2=>?_⟩
       ·have hm:min (x :: xs).length (y :: ys).length=min xs.length ys.length + 1:=by simp [Nat.succ_min_succ]
        rw [hm,List.range_succ_eq_map,List.all_cons,List.all_map,h1];have:ej f (x :: xs) (y :: ys) 0=a:=by simp [ej,e1]
        rw [this];rfl
       ·cases j with
        | zero=>simp at q1 q2;subst q1 q2;exact ⟨a,e1⟩
        | succ j=>exact h2 j d e (by simpa using q1) (by simpa using q2)
variable {P:Program}{w:World}{H:Hp}{vs:List V}
theorem FS {h:Heap}{a:Addr}(o:HOk P w H h)(e:H a=some (.lst vs)):∃its:List Value,Vals vs its/\h.IsList a its.toArray:=by
 obtain ⟨_,its,n,r,q⟩:=o a _ e;exact ⟨its,r,_,q,rfl,n,rfl⟩
theorem EJ {h:Heap}{a:Addr}(o:HOk P w H h)(e:H a=some (.tup vs)):∃its:List Value,Vals vs its/\h.IsTuple a its.toArray:=by
 obtain ⟨_,its,r,q⟩:=o a _ e;exact ⟨its,r,q⟩
theorem IJ {its:List Value}{j:Nat}(r:Vals vs its)(h:j < its.toArray.size):∃v,vs[j]?=some v/\RelV v its.toArray[j]:=by
 have h':j < its.length:=by simpa using h
 have hl:j < vs.length:=by rw [r.length];exact h'
 obtain ⟨u,e1,e2⟩:=r.get (List.getElem?_eq_getElem hl);refine ⟨vs[j],List.getElem?_eq_getElem hl,?_⟩;rw [List.getElem?_eq_getElem h'] at e1
 cases e1
 simpa using e2
variable {b:Bool}
theorem OB {f:D->D->Option Bool}{xs ys:List D}(h:CT f xs ys=some b)(ht:∀(j:Nat) d e k,xs[j]?=some d->ys[j]?=some e->f d e=some k->k=true):b=true:=by
 obtain ⟨h1,h2⟩:=CU h;rw [h1,List.all_eq_true];intro j hj;have hj':=List.mem_range.mp hj;have l1:j < xs.length:=by lia
 have l2:j < ys.length:=by lia
 obtain ⟨k,ek⟩:=h2 j _ _ (List.getElem?_eq_getElem l1) (List.getElem?_eq_getElem l2);have:=ht j _ _ k (List.getElem?_eq_getElem l1) (List.getElem?_eq_getElem l2) ek;unfold ej;rw [List.getElem?_eq_getElem l1,List.getElem?_eq_getElem l2];simp [ek,this]
theorem Gg {x y:D}(e:eq0 x y=some b):(∃i j,x = .int i/\y = .int j/\(i == j)=b)\/(∃i j,x = .str i/\y = .str j/\(i == j)=b)\/(∃i j,x = .bl i/\y = .bl j/\(i == j)=b)\/(x = .non/\y = .non/\true=b)\/(∃ys,x = .non/\y = .tup ys/\false=b):=by
 unfold eq0 at e
 split at e
 ·cases e;exact .inl ⟨_,_,rfl,rfl,rfl⟩
 ·cases e;exact .inr (.inl ⟨_,_,rfl,rfl,rfl⟩)
 ·cases e;exact .inr (.inr (.inl ⟨_,_,rfl,rfl,rfl⟩))
 ·cases e;exact .inr (.inr (.inr (.inl ⟨rfl,rfl,rfl⟩)))
 ·cases e;exact .inr (.inr (.inr (.inr ⟨_,rfl,rfl,rfl⟩)))
 ·cases e
theorem Gi {n:Nat}{x y:D}(e:eqN n x y=some b):eq0 x y=some b\/(∃m xs ys,n=m + 1/\x = .lst xs/\y = .lst ys/\(if xs.length=ys.length then CT (eqN m) xs ys else some false)=some b)\/∃m xs ys b',n=m + 1/\x = .tup xs/\y = .tup ys/\CT (eqN m) xs ys=some b'/\(b' && xs.length == ys.length)=b:=by
 unfold eqN at e
 split at e
 ·exact .inl e
 ·obtain ⟨b',e1,e2⟩:=Option.map_eq_some_iff.mp e;exact .inr (.inr ⟨_,_,_,b',rfl,rfl,rfl,e1,e2⟩)
 ·exact .inr (.inl ⟨_,_,_,rfl,rfl,rfl,e⟩)
 ·exact .inl e
variable {K:PySem.W.Frag}{c:Cf}
theorem Ma:∀(n:Nat) {v:V} {d e:D} {b:Bool},Rep K c H v d->Rep K c H v e->eqN n d e=some b->b=true
 :=by
  intro n
  induction n using Nat.strongRecOn with
  | ind n ih=>
  intro v d e b rd re q;have items:∀{m:Nat} {vs:List V} {ds es:List D} {b':Bool},n=m + 1->Reps K c H vs ds->Reps K c H vs es->CT (eqN m) ds es=some b'->b'=true:=λ{m vs ds es b'} hm r1 r2 e'=>
   OB e' λj d e k q1 q2 ek=>by
    obtain ⟨v,g1,g2⟩:=r1.at q1;exact ih m (by lia) g2 (r2.get g1 q2) ek
  rcases Gi q with q0 | ⟨m,ds,es,hm,rfl,rfl,q0⟩ | ⟨m,ds,es,b',hm,rfl,rfl,q1,q2⟩
  ·rcases Gg q0 with ⟨i,j,rfl,rfl,rfl⟩ | ⟨i,j,rfl,rfl,rfl⟩ | ⟨i,j,rfl,rfl,rfl⟩ | ⟨rfl,rfl,rfl⟩ | ⟨ys,rfl,rfl,rfl⟩
   ·cases rd;cases re;simp
   ·cases rd;cases re;simp
   ·cases rd;cases re;simp
   ·cases rd;cases re;rfl
   ·cases rd;cases re
  ·cases rd with
   | lst h1 h2 h3=>
     cases re with
     | lst g1 g2 g3=>
       rw [h1] at g1;cases g1
       rw [if_pos (h3.length.symm.trans g3.length)] at q0;exact items hm h3 g3 q0
  ·cases rd with
   | tup h1 h2 h3=>
     cases re with
     | tup g1 g2 g3=>
       rw [h1] at g1;cases g1
       rw [<-q2,items hm h3 g3 q1,h3.length.symm.trans g3.length];simp
theorem L9 {s:Shared}(hok:HOk P w H s.heap):∀(n:Nat) {A:Around} {x y:V} {u v:Value} {dx dy:D} {b:Bool},RelV x u->RelV y v->Rep K c H x dx->Rep K c H y dy->eqN n dx dy=some b->A.units + n < cLine->
 RcAt A s u v b/\(EqAt A s u v b)
 :=by
  intro n
  induction n using Nat.strongRecOn with
  | ind n ih=>
  intro A x y u v dx dy b ru rv rx ry e hu;have items:∀{m:Nat} {vs ws:List V} {is js:List Value} {ds es:List D} {b':Bool},n=m + 1->Vals vs is->Vals ws js->Reps K c H vs ds->Reps K c H ws es->CT (eqN m) ds es=some b'->
   ∀j (h1:j < is.toArray.size) (h2:j < js.toArray.size),EqAt A.in1 s is.toArray[j] js.toArray[j] (ej (eqN m) ds es j):=λ{m vs ws is js ds es b'} hm r1 r2 q1 q2 e' j h1 h2=>by
   obtain ⟨v1,a1,a2⟩:=IJ r1 h1;obtain ⟨v2,b1,b2⟩:=IJ r2 h2;obtain ⟨l1,g1⟩:=List.getElem?_eq_some_iff.mp a1;obtain ⟨l2,g2⟩:=List.getElem?_eq_some_iff.mp b1;have k1:ds[j]?=some (ds[j]'(by rw [<-q1.length];exact l1)):=List.getElem?_eq_getElem _;have k2:es[j]?=some (es[j]'(by rw [<-q2.length];exact l2)):=List.getElem?_eq_getElem _;obtain ⟨kk,ek⟩:=(CU e').2 j _ _ k1 k2;have:ej (eqN m) ds es j=kk:=by unfold ej;rw [k1,k2];simp [ek]
   rw [this];have hu':A.in1.units + m < cLine:=by
    have:A.in1.units=A.units + 1:=by first | rfl | exact Around.units_in1 _ | simp [Around.in1,Around.units]
    lia
   exact (ih m (by lia) a2 b2 (q1.get a1 k1) (q2.get b1 k2) ek hu').2
  have hu0:A.units < cLine:=by lia
  have conc:∀{p q:Addr} {k:Bool},p≠q->RcAt A s (.ref p) (.ref q) k->RcAt A s (.ref p) (.ref q) k/\EqAt A s (.ref p) (.ref q) k:=λhn h=>⟨h,EqAt.of_refs hn h⟩;rcases Gi e with e0 | ⟨m,ds,es,hm,rfl,rfl,e0⟩ | ⟨m,ds,es,b',hm,rfl,rfl,e1,e2⟩
  ·rcases Gg e0 with ⟨i,j,rfl,rfl,rfl⟩ | ⟨i,j,rfl,rfl,rfl⟩ | ⟨i,j,rfl,rfl,rfl⟩ | ⟨rfl,rfl,rfl⟩ | ⟨ys,rfl,rfl,rfl⟩
   ·cases rx;cases ry;obtain ⟨t',rfl⟩:=ru;obtain ⟨t,rfl⟩:=rv;exact ⟨RcAt.int_int _ _ _ _,EqAt.int_int _ _ _ _⟩
   ·cases rx;cases ry;obtain ⟨t',rfl⟩:=ru;obtain ⟨t,rfl⟩:=rv;exact ⟨RcAt.str_str _ _ _ _,EqAt.str_str _ _ _ _⟩
   ·cases rx;cases ry;cases ru;cases rv;exact ⟨RcAt.bool_bool _ _,EqAt.bool_bool _ _⟩
   ·cases rx;cases ry;cases ru;cases rv;exact ⟨RcAt.none_none,EqAt.same _⟩
   ·cases rx;cases ry with | tup h1 h2 h3=>cases ru;cases rv;obtain ⟨its,r,l⟩:=EJ hok h1;exact ⟨RcAt.none_tuple l hu0,EqAt.none_tuple l hu0⟩
  ·cases rx with
   | @lst p vs _ g1 g2 g3=>
   cases ry with
   | @lst q ws _ h1 h2 h3=>
     cases ru
     cases rv
     obtain ⟨is,r1,l1⟩:=FS hok g1;obtain ⟨js,r2,l2⟩:=FS hok h1;have hs1:is.toArray.size=ds.length:=by rw [<-g3.length,r1.length];simp
     have hs2:js.toArray.size=es.length:=by rw [<-h3.length,r2.length];simp
     by_cases hl:ds.length=es.length
     ·rw [if_pos hl] at e0;have hsz:is.toArray.size=js.toArray.size:=by rw [hs1,hs2,hl]
      have rc:=RcAt.lists l1 l2 hsz hu0 (items hm r1 r2 g3 h3 e0);have eb:(List.range is.toArray.size).all (ej (eqN m) ds es)=b:=by rw [(CU e0).1,hs1,<-hl,Nat.min_self]
      rw [eb] at rc
      by_cases hpq:p=q
      ·refine ⟨rc,?_⟩;subst hpq;rw [Ma n (Rep.lst g1 g2 g3) (Rep.lst h1 h2 h3) e];exact EqAt.same _
      ·exact conc hpq rc
     ·rw [if_neg hl] at e0
      cases e0
      have hsz:(is.toArray.size != js.toArray.size)=true:=by rw [hs1,hs2];simpa using hl
      refine conc (λz=>hl ?_) (RcAt.lists_lengths l1 l2 hsz hu0);subst z;rw [g1] at h1;cases h1
      rw [<-g3.length,<-h3.length]
  ·cases rx with
   | @tup p vs _ g1 g2 g3=>
   cases ry with
   | @tup q ws _ h1 h2 h3=>
     cases ru
     cases rv
     obtain ⟨is,r1,l1⟩:=EJ hok g1;obtain ⟨js,r2,l2⟩:=EJ hok h1;have hs1:is.toArray.size=ds.length:=by rw [<-g3.length,r1.length];simp
     have hs2:js.toArray.size=es.length:=by rw [<-h3.length,r2.length];simp
     have rc:=RcAt.tuples l1 l2 hu0 (items hm r1 r2 g3 h3 e1);have eb:((List.range (min is.toArray.size js.toArray.size)).all (ej (eqN m) ds es) && is.toArray.size == js.toArray.size)=b:=by rw [hs1,hs2,<-(CU e1).1];exact e2
     rw [eb] at rc
     by_cases hpq:p=q
     ·refine ⟨rc,?_⟩;subst hpq;rw [Ma n (Rep.tup g1 g2 g3) (Rep.tup h1 h2 h3) e];exact EqAt.same _
     ·exact conc hpq rc
theorem TX {s:Shared}(hok:HOk P w H s.heap)(n:Nat){A:Around}{x y:V}{u v:Value}{dx dy:D}{b:Bool}(ru:RelV x u)(rv:RelV y v)(rx:Rep K c H x dx)(ry:Rep K c H y dy)(e:eqN n dx dy=some b)(hu:A.units + n < cLine) :
 RcNeAt A s u v (!b):=by
 have items:∀{m:Nat} {vs ws:List V} {is js:List Value} {ds es:List D} {b':Bool},n=m + 1->Vals vs is->Vals ws js->Reps K c H vs ds->Reps K c H ws es->CT (eqN m) ds es=some b'->
  ∀j (h1:j < is.toArray.size) (h2:j < js.toArray.size),EqAt A.in1 s is.toArray[j] js.toArray[j] (ej (eqN m) ds es j):=λ{m vs ws is js ds es b'} hm r1 r2 q1 q2 e' j h1 h2=>by
  obtain ⟨v1,a1,a2⟩:=IJ r1 h1;obtain ⟨v2,b1,b2⟩:=IJ r2 h2;obtain ⟨l1,g1⟩:=List.getElem?_eq_some_iff.mp a1;obtain ⟨l2,g2⟩:=List.getElem?_eq_some_iff.mp b1;have k1:ds[j]?=some (ds[j]'(by rw [<-q1.length];exact l1)):=List.getElem?_eq_getElem _;have k2:es[j]?=some (es[j]'(by rw [<-q2.length];exact l2)):=List.getElem?_eq_getElem _;obtain ⟨kk,ek⟩:=(CU e').2 j _ _ k1 k2;have:ej (eqN m) ds es j=kk:=by unfold ej;rw [k1,k2];simp [ek]
  rw [this];have hu':A.in1.units + m < cLine:=by
   have:A.in1.units=A.units + 1:=rfl;lia
  exact (L9 hok m a2 b2 (q1.get a1 k1) (q2.get b1 k2) ek hu').2
 have hu0:A.units < cLine:=by lia
 rcases Gi e with e0 | ⟨m,ds,es,hm,rfl,rfl,e0⟩ | ⟨m,ds,es,b',hm,rfl,rfl,e1,e2⟩
 ·rcases Gg e0 with ⟨i,j,rfl,rfl,rfl⟩ | ⟨i,j,rfl,rfl,rfl⟩ | ⟨i,j,rfl,rfl,rfl⟩ | ⟨rfl,rfl,rfl⟩ | ⟨ys,rfl,rfl,rfl⟩
  ·cases rx;cases ry;obtain ⟨t',rfl⟩:=ru;obtain ⟨t,rfl⟩:=rv;exact RcNeAt.int_int _ _ _ _
  ·cases rx;cases ry;obtain ⟨t',rfl⟩:=ru;obtain ⟨t,rfl⟩:=rv;exact RcNeAt.str_str _ _ _ _
  ·cases rx;cases ry;cases ru;cases rv;exact RcNeAt.bool_bool _ _
  ·cases rx;cases ry;cases ru;cases rv;exact RcNeAt.none_none
  ·cases rx;cases ry with | tup h1 h2 h3=>cases ru;cases rv;obtain ⟨its,r,l⟩:=EJ hok h1;exact RcNeAt.none_tuple l hu0
 ·cases rx with
  | @lst p vs _ g1 g2 g3=>
  cases ry with
  | @lst q ws _ h1 h2 h3=>
    cases ru
    cases rv
    obtain ⟨is,r1,l1⟩:=FS hok g1;obtain ⟨js,r2,l2⟩:=FS hok h1;have hs1:is.toArray.size=ds.length:=by rw [<-g3.length,r1.length];simp
    have hs2:js.toArray.size=es.length:=by rw [<-h3.length,r2.length];simp
    by_cases hl:ds.length=es.length
    ·rw [if_pos hl] at e0;have hsz:is.toArray.size=js.toArray.size:=by rw [hs1,hs2,hl]
     have rc:=RcNeAt.lists l1 l2 hsz hu0 (items hm r1 r2 g3 h3 e0);rw [show (List.range is.toArray.size).all (ej (eqN m) ds es)=b by rw [(CU e0).1,hs1,<-hl,Nat.min_self]] at rc;exact rc
    ·rw [if_neg hl] at e0
     cases e0
     exact RcNeAt.lists_lengths l1 l2 (by rw [hs1,hs2];simpa using hl) hu0
 ·cases rx with
  | @tup p vs _ g1 g2 g3=>
  cases ry with
  | @tup q ws _ h1 h2 h3=>
    cases ru
    cases rv
    obtain ⟨is,r1,l1⟩:=EJ hok g1;obtain ⟨js,r2,l2⟩:=EJ hok h1;have hs1:is.toArray.size=ds.length:=by rw [<-g3.length,r1.length];simp
    have hs2:js.toArray.size=es.length:=by rw [<-h3.length,r2.length];simp
    have rc:=RcNeAt.tuples l1 l2 hu0 (items hm r1 r2 g3 h3 e1);have eb:((List.range (min is.toArray.size js.toArray.size)).all (ej (eqN m) ds es) && is.toArray.size == js.toArray.size)=b:=by rw [hs1,hs2,<-(CU e1).1];exact e2
    rw [eb] at rc;exact rc
def EQD:Nat:=40
def neD (x y:D):M D:=λt=>(eqN EQD x y).map λb=>(.bl (!b),t)
def Jj (K:PySem.W.Frag)(g:Bool->Bool):R2:=λx y H Q=>∃c dx dy b,Rep K c H x dx/\Rep K c H y dy/\eqN EQD dx dy=some b/\Q (.bl (g b)) H
theorem La {X:Cx}(hu:X.A.units + 64 < cLine):OpR X (compareOp .Eq) (Jj X.K id):=by
 intro pins s σ H x y v u Q I rx ry h;obtain ⟨c,dx,dy,b,q1,q2,e,q⟩:=h;have hu':X.A.units + EQD < cLine:=by unfold EQD;lia
 exact (L9 I.hok EQD rx ry q1 q2 e hu').1 X.prog X.w _ _ ⟨.bl b,H,I,rfl,q⟩
theorem Gx {X:Cx}(hu:X.A.units + 64 < cLine):OpR X (compareOp .NotEq) (Jj X.K (!·)):=by
 intro pins s σ H x y v u Q I rx ry h;obtain ⟨c,dx,dy,b,q1,q2,e,q⟩:=h;have hu':X.A.units + EQD < cLine:=by unfold EQD;lia
 exact TX I.hok EQD rx ry q1 q2 e hu' X.prog X.w _ _ ⟨.bl (!b),H,I,rfl,q⟩
end F2
set_option maxHeartbeats 4000000
namespace F2
open PySem L2 PySem.Spec
variable {g:Int->Int->D}{t:T}{z:D×T}{X:Cx}{c:Cf}{H:Hp}
section
variable {K:PySem.W.Frag}
def i2 (g:Int->Int->D):D->D->M D
 | .int i,.int j=>ret (g i j)
 | _,_=>fail
theorem V1 {x y:D}(h:i2 g x y t=some z):∃i j,x = .int i/\y = .int j/\z=(g i j,t):=by
 cases x with
 | int i=>cases y with
   | int j=>cases h;exact ⟨i,j,rfl,rfl,rfl⟩
   | _=>cases h
 | _=>cases h
theorem W6 {gV:Int->Int->V}(hr:∀i j c H,Rep K c H (gV i j) (g i j)):AZ K (rI0 gV) (i2 g):=λ{Oo c t σ H x y dx dy r t' Q} f rx ry eq k=>by
 obtain ⟨i,j,rfl,rfl,z⟩:=V1 eq
 cases z
 cases rx
 cases ry
 exact ⟨i,j,rfl,rfl,k _ H c f .refl (hr i j c H)⟩
def i2C (C:Int->Int->Bool)(g:Int->Int->D):D->D->M D
 | .int i,.int j=>λt=>if C i j=true then some (g i j,t) else none
 | _,_=>fail
theorem Ty {C:Int->Int->Bool}{x y:D}(h:i2C C g x y t=some z):∃i j,x = .int i/\y = .int j/\C i j=true/\z=(g i j,t):=by
 cases x with
 | int i=>cases y with
   | int j=>
     unfold i2C at h;dsimp only at h
     by_cases hc:C i j=true
     ·rw [if_pos hc] at h;cases h;exact ⟨i,j,rfl,rfl,hc,rfl⟩
     ·rw [if_neg hc] at h;cases h
   | _=>cases h
 | _=>cases h
theorem EM {P:Int->Int->Prop}{C:Int->Int->Bool}{gV:Int->Int->V}(hP:∀i j,C i j=true->P i j)(hr:∀i j c H,Rep K c H (gV i j) (g i j)):AZ K (rI P gV) (i2C C g):=λ{Oo c t σ H x y dx dy r t' Q} f rx ry eq k=>by
 obtain ⟨i,j,rfl,rfl,hc,z⟩:=Ty eq
 cases z
 cases rx
 cases ry
 exact ⟨i,j,rfl,rfl,hP i j hc,k _ H c f .refl (hr i j c H)⟩
def BK:=i2 λi j=>.int (i - j)
def ltD:=i2 λi j=>.bl (decide (i < j))
noncomputable def JY (_ j:Int):Bool:=decide (0 < j) && decide (j < 1073741824)
def EB:=i2C JY λi j=>.int (i / j)
def DW:=i2C (λ_ j=>decide (0 < j)) λi j=>.int (i % j)
noncomputable def Ka (i j:Int):Bool:=decide (0<=j) && decide (j<=1000000) && decide (i.natAbs < 2 ^ 64)
def GA:=i2C Ka λi j=>.int (i ^ j.toNat)
noncomputable def EF (i j:Int):Bool:=(decide (-(2 ^ 64) < i) && decide (i < 2 ^ 64)) || (decide (-(2 ^ 64) < j) && decide (j < 2 ^ 64))
def LA:=i2C (λ_ j=>decide (0<=j)) λi j=>.int (i / 2 ^ j.toNat)
theorem UN:AZ K (rI0 λi j=>.int (i - j)) BK:=W6 λi j _ _=>.int _
theorem RK:AZ K (rI Ve λi j=>.int (i / j)) EB:=EM (λi j h=>by
 unfold JY at h;rw [Bool.and_eq_true] at h;exact ⟨of_decide_eq_true h.1,of_decide_eq_true h.2⟩) λi j _ _=>.int _
theorem UH:AZ K (rI (λ_ j=>0 < j) λi j=>.int (i % j)) DW:=EM (λi j h=>of_decide_eq_true h) λi j _ _=>.int _
theorem UL:AZ K (rI Vf λi j=>.int (i ^ j.toNat)) GA:=EM (λi j h=>by
 unfold Ka at h;rw [Bool.and_eq_true,Bool.and_eq_true] at h;exact ⟨of_decide_eq_true h.1.1,of_decide_eq_true h.1.2,of_decide_eq_true h.2⟩) λi j _ _=>.int _
theorem UM:AZ K (rI (λ_ j=>0<=j) λi j=>.int (i / 2 ^ j.toNat)) LA:=EM (λi j h=>of_decide_eq_true h) λi j _ _=>.int _
theorem Pd {i j:Int}(h:EF i j=true):CMul i j:=by
 unfold EF at h;rw [Bool.or_eq_true,Bool.and_eq_true,Bool.and_eq_true] at h;rcases h with h | h
 ·exact .inl ⟨of_decide_eq_true h.1,of_decide_eq_true h.2⟩
 ·exact .inr ⟨of_decide_eq_true h.1,of_decide_eq_true h.2⟩
def NK:D->M D
 | .int i=>ret (.int (-i))
 | _=>fail
theorem UJ:Vi K (rU λi=>.int (-i)) NK:=λ{Oo c t σ H x dx r t' Q} f rx eq k=>by
 cases rx with
 | int i=>cases eq;exact ⟨i,rfl,k _ H c f .refl (.int _)⟩
 | _=>cases eq
def Vl:D->D->M D
 | .int i,.int j=>ret (.int (i + j))
 | .str x,.str y=>lim (x.length + y.length) (.str (x++y))
 | .lst xs,.lst ys=>lim (xs.length + ys.length) (.lst (xs++ys))
 | _,_=>fail
def Uy:R2:=λx y H Q=>∃i j,x = .str i/\y = .str j/\i.length + j.length<=sizeLine/\Q (.str (i++j)) H
def NV (K:PySem.W.Frag):R2:=λx y H Q=>rI0 (λi j=>.int (i + j)) x y H Q\/(Uy x y H Q\/Rr x y H Q)
theorem T7:OpR X (binaryOp .Add) (NV X.K):=op_add.or (op_add_str.or Pn)
theorem UB:AZ K (NV K) Vl:=λ{Oo c t σ H x y dx dy r t' Q} f rx ry eq k=>by
 cases rx with
 | int i=>
   cases ry with
   | int j=>cases eq;exact .inl ⟨i,j,rfl,rfl,k _ H c f .refl (.int _)⟩
   | _=>cases eq
 | str i=>
   cases ry with
   | str j=>
     obtain ⟨h,z⟩:=Dv eq
     cases z
     exact .inr (.inl ⟨i,j,rfl,rfl,Nat.le_trans h CA,k _ H c f .refl (.str _)⟩)
   | _=>cases eq
 | @lst a vs ds h1 h2 h3=>
   cases ry with
   | @lst b ws es g1 g2 g3=>
     obtain ⟨h,z⟩:=Dv eq
     cases z
     refine .inr (.inr ⟨a,b,vs,ws,rfl,rfl,h1,g1,?_,λp hp=>?_⟩)
     ·rw [h3.length,g3.length];exact Nat.le_trans h CA
     ·exact k _ _ c (f.laid hp) (f.stp_laid hp) (.lst Aj (f.s.free hp) ((h3.append g3).mono (Ext.laid f.s hp)))
   | _=>cases eq
 | _=>cases eq
def Ho:D->D->M (List D)
 | .lst xs,.lst ys=>lim (xs.length + ys.length) (xs++ys)
 | _,_=>fail
theorem RJ:JV K Rr Ho:=λ{Oo c t σ H x y dx dy r t' Q} f rx ry eq k=>by
 cases rx with
 | @lst a vs ds h1 h2 h3=>
   cases ry with
   | @lst b ws es g1 g2 g3=>
     obtain ⟨h,z⟩:=Dv eq
     cases z
     refine ⟨a,b,vs,ws,rfl,rfl,h1,g1,?_,λp hp=>k p _ H c f .refl (h3.append g3) hp⟩;rw [h3.length,g3.length];exact Nat.le_trans h CA
   | _=>cases eq
 | _=>cases eq
def isC:D->D->M D
 | x,.non=>λt=>some (.bl (match x with | .non=>true | _=>false),t)
 | x,.bl b=>λt=>some (.bl (match x with | .bl c=>c == b | _=>false),t)
 | _,_=>fail
def Eh (x y:D):M D:=bnd (isC x y) λd=>match d with | .bl b=>ret (.bl (!b)) | _=>fail
def rIs (g:Bool->Bool):R2:=λx y H Q=>(y = .non\/∃b,y = .bl b)/\Q (.bl (g (decide (x=y)))) H
theorem L6 {x y:V}{v u:Value}(rx:RelV x v)(ry:RelV y u)(hy:y = .non\/∃b,y = .bl b):plainIs v u=true/\(v == u)=decide (x=y):=by
 rcases hy with rfl | ⟨b,rfl⟩
 ·cases ry
  cases x with
  | non=>cases rx;exact ⟨rfl,by simp⟩
  | bl _=>cases rx;exact ⟨rfl,by simp⟩
  | int _=>obtain ⟨t,rfl⟩:=rx;exact ⟨rfl,by simp⟩
  | str _=>obtain ⟨t,rfl⟩:=rx;exact ⟨rfl,by simp⟩
  | byt _=>obtain ⟨t,rfl⟩:=rx;exact ⟨rfl,by simp⟩
  | flt _=>obtain ⟨t,rfl⟩:=rx;exact ⟨rfl,by simp⟩
  | ref _=>cases rx;exact ⟨rfl,by simp⟩
  | ty _=>cases rx;exact ⟨rfl,by simp⟩
 ·cases ry
  cases x with
  | non=>cases rx;exact ⟨rfl,by simp⟩
  | bl c=>cases rx;exact ⟨rfl,by simp;cases c <;> cases b <;> rfl⟩
  | int _=>obtain ⟨t,rfl⟩:=rx;exact ⟨rfl,by simp⟩
  | str _=>obtain ⟨t,rfl⟩:=rx;exact ⟨rfl,by simp⟩
  | byt _=>obtain ⟨t,rfl⟩:=rx;exact ⟨rfl,by simp⟩
  | flt _=>obtain ⟨t,rfl⟩:=rx;exact ⟨rfl,by simp⟩
  | ref _=>cases rx;exact ⟨rfl,by simp⟩
  | ty _=>cases rx;exact ⟨rfl,by simp⟩
theorem Pq:OpR X (compareOp .Is) (rIs id):=by
 intro pins s σ H x y v u Q I rx ry h;obtain ⟨hy,q⟩:=h;obtain ⟨h1,h2⟩:=L6 rx ry hy;exact wpAny_is_plain h1 ⟨.bl _,H,I,by rw [h2];rfl,q⟩
theorem Ps:OpR X (compareOp .IsNot) (rIs (!·)):=by
 intro pins s σ H x y v u Q I rx ry h;obtain ⟨hy,q⟩:=h;obtain ⟨h1,h2⟩:=L6 rx ry hy;exact wpAny_isNot_plain h1 ⟨.bl _,H,I,by rw [h2];rfl,q⟩
theorem Mo {x y:V}{dx dy:D}(rx:Rep K c H x dx)(ry:Rep K c H y dy)(eq:isC dx dy t=some z):(y = .non\/∃b,y = .bl b)/\z=(.bl (decide (x=y)),t):=by
 cases ry with
 | non=>
   refine ⟨.inl rfl,?_⟩
   cases rx <;> (cases eq;first | rfl | simp)
 | bl b=>
   refine ⟨.inr ⟨b,rfl⟩,?_⟩
   cases rx <;> (cases eq;first | rfl | simp)
   next a=>cases a <;> cases b <;> rfl
 | _=>cases eq
theorem PV:AZ K (rIs id) isC:=λ{Oo c t σ H x y dx dy r t' Q} f rx ry eq k=>by
 obtain ⟨h,z⟩:=Mo rx ry eq
 cases z
 exact ⟨h,k _ H c f .refl (.bl _)⟩
theorem PX:AZ K (rIs (!·)) Eh:=λ{Oo c t σ H x y dx dy r t' Q} f rx ry eq k=>by
 obtain ⟨d,t1,e1,eq⟩:=Ag eq;obtain ⟨h,z⟩:=Mo rx ry e1
 cases z
 cases eq
 exact ⟨h,k _ H c f .refl (.bl _)⟩
noncomputable def FQ:D->Bool
 | .non=>true | .bl _=>true | .int _=>true | .str _=>true | _=>false
noncomputable def toV:D->V
 | .bl b=>.bl b | .int i=>.int i | .str x=>.str x | _=>.non
theorem Jl {v:V}{d:D}(r:Rep K c H v d)(h:FQ d=true):v=toV d:=by cases r <;> first | rfl | cases h
theorem HC {c:Cf}{H:Hp}:∀{vs:List V} {ds:List D},Reps K c H vs ds->ds.all FQ=true->vs=ds.map toV
 | _,_,.nil,_=>rfl
 | _,_,.cons r t,h=>by
   rw [List.all_cons,Bool.and_eq_true] at h;rw [List.map_cons,Jl r h.1,HC t h.2]
theorem KI:∀d:D,ED (toV d)=true:=λd=>by cases d <;> rfl
def ixD:D->D->M D
 | .lst ds,.int i=>λt=>(atI ds i).map λd=>(d,t)
 | .tup ds,.int i=>λt=>(atI ds i).map λd=>(d,t)
 | .scr ns,.int i=>λt=>(atI ns i).map λn=>(.int n,t)
 | .str x,.int i=>λt=>if x.length<=LIM then (atI x.cps.toList i).map λn=>(.str ⟨#[n]⟩,t) else none
 | .obj k,.int i=>λt=>match t.S[k]? with
   | some (.lst ds)=>(atI ds i).map λd=>(d,t)
   | _=>none
 | _,_=>fail
theorem FH {vs:List V}{ds:List D}{i:Int}{d:D}(r:Reps K c H vs ds)(h:atI ds i=some d):∃v,atI vs i=some v/\Rep K c H v d:=by
 unfold atI at h ⊢;obtain ⟨j,h1,h2⟩:=Option.bind_eq_some_iff.mp h;obtain ⟨v,h3,h4⟩:=r.at h2;exact ⟨v,by rw [r.length,h1];exact h3,h4⟩
theorem SN {α β:Type}(g:α->β)(xs:List α)(i:Int):atI (xs.map g) i=(atI xs i).map g:=by
 unfold atI;rw [List.length_map]
 cases ixN xs.length i with
 | none=>rfl
 | some j=>simp
theorem V5 {dx dy r:D}{t':T}(eq:ixD dx dy t=some (r,t')):∃i,dy = .int i/\((∃ds,dx = .lst ds)\/(∃ds,dx = .tup ds)\/(∃ns,dx = .scr ns)\/(∃z,dx = .str z)\/∃k,dx = .obj k):=by
 unfold ixD at eq
 split at eq
 ·exact ⟨_,rfl,.inl ⟨_,rfl⟩⟩
 ·exact ⟨_,rfl,.inr (.inl ⟨_,rfl⟩)⟩
 ·exact ⟨_,rfl,.inr (.inr (.inl ⟨_,rfl⟩))⟩
 ·exact ⟨_,rfl,.inr (.inr (.inr (.inl ⟨_,rfl⟩)))⟩
 ·exact ⟨_,rfl,.inr (.inr (.inr (.inr ⟨_,rfl⟩)))⟩
 ·cases eq
theorem W7:AZ K (rIx K) ixD:=λ{Oo c t σ H x y dx dy r t' Q} f rx ry eq k=>by
 obtain ⟨i,rfl,hd⟩:=V5 eq
 cases ry
 rcases hd with ⟨ds,rfl⟩ | ⟨ds,rfl⟩ | ⟨ns,rfl⟩ | ⟨z,rfl⟩ | ⟨kk,rfl⟩
 ·cases rx with
  | @lst a vs _ h1 h2 h3=>
    obtain ⟨d,e1,e2⟩:=Option.map_eq_some_iff.mp eq
    cases e2
    obtain ⟨v,e3,e4⟩:=FH h3 e1;exact .inl ⟨a,vs,i,v,rfl,rfl,SqL.of h1,e3,k _ H c f .refl e4⟩
 ·cases rx with
  | @tup a vs _ h1 h2 h3=>
    obtain ⟨d,e1,e2⟩:=Option.map_eq_some_iff.mp eq
    cases e2
    obtain ⟨v,e3,e4⟩:=FH h3 e1;exact .inr (.inl ⟨a,vs,i,v,rfl,rfl,SqT.of h1,e3,k _ H c f .refl e4⟩)
 ·cases rx with
  | @scr a _ h1=>
    obtain ⟨n,e1,e2⟩:=Option.map_eq_some_iff.mp eq
    cases e2
    exact .inl ⟨a,_,i,.int n,rfl,rfl,h1.sq,by rw [SN,e1];rfl,k _ H c f .refl (.int n)⟩
 ·cases rx
  unfold ixD at eq;dsimp only at eq
  split at eq
  ·next hl=>
   obtain ⟨n,e1,e2⟩:=Option.map_eq_some_iff.mp eq
   cases e2
   exact .inr (.inr ⟨z,i,n,rfl,rfl,Nat.le_trans hl CA,e1,k _ H c f .refl (.str _)⟩)
  ·cases eq
 ·cases rx with
  | @obj a _ h1=>
    unfold ixD at eq;dsimp only at eq
    cases es:t.S[kk]? with
    | none=>rw [es] at eq;cases eq
    | some o=>
      rw [es] at eq
      cases o with
      | dct _ | ins _ _=>cases eq
      | lst ds=>
        obtain ⟨d,e1,e2⟩:=Option.map_eq_some_iff.mp eq
        cases e2
        obtain ⟨vs,g1,g2⟩:=f.s.obs kk a _ h1 es;obtain ⟨v,e3,e4⟩:=FH g2 e1;exact .inl ⟨a,vs,i,v,rfl,rfl,SqL.of g1,e3,k _ H c f .refl e4⟩
end
variable {f:M D}{id:String}{R:List V->Hp->VK->Prop}{x:Str}{p:Pos}
section
variable {X:Cx}{e a b:Expr}{es:List Expr}{pos:Pos}
inductive RO (K:PySem.W.Frag)(f:M (Option Int))(σ:L2.St)(H:Hp)(Q:Option Int->Hp->Prop):Prop where
 | mk (Oo:Addr->Prop) (c:Cf) (t:T) (fi:FInv K Oo c t σ H) (r:Option Int) (t':T) (e:f t=some (r,t')) (k:∀H' c',FInv K Oo c' t' σ H'->Stp Oo c H c' H'->Q r H'):RO K f σ H Q
theorem Oi {oe:Option Expr}{t t':TO}(h:PO X oe t)(i:∀σ H Q,t' σ H Q->t σ H Q):PO X oe t':=λpins s σ H Q I q=>h pins s σ H Q I (i σ H Q q)
def fNo:M (Option Int):=ret none
def asI:D->M (Option Int)
 | .int i=>ret (some i)
 | _=>fail
def Db (f:M D):M (Option Int):=bnd f asI
theorem Ti:PO X none (RO X.K fNo):=Oi Us λσ H Q z9=>by
 obtain ⟨Oo,c,t,fi,r,t',eq,k⟩:=z9
 cases eq
 exact k H c fi .refl
theorem Tj (h:PE X e (RE X.K f)):PO X (some e) (RO X.K (Db f)):=Oi (Ut h) λσ H Q z9=>by
 obtain ⟨Oo,c,t,fi,r,t',eq,k⟩:=z9;obtain ⟨d,t1,e1,eq⟩:=Ag eq;refine ⟨Oo,c,t,fi,d,t1,e1,λv H1 c1 f1 s1 rv=>?_⟩
 cases rv with
 | int i=>cases eq;exact ⟨i,rfl,k H1 c1 f1 s1⟩
 | _=>cases eq
def M8 (K:PySem.W.Frag)(R:V->Option Int->Option Int->Hp->VK->Prop)(h:D->Option Int->Option Int->M D):Prop:=∀{Oo:Addr->Prop} {c:Cf} {t:T} {σ:L2.St} {H:Hp} {x:V} {dx r:D} {lo hi:Option Int} {t':T} {Q:VK},FInv K Oo c t σ H->Rep K c H x dx->h dx lo hi t=some (r,t')->
 (∀v H' c',FInv K Oo c' t' σ H'->Stp Oo c H c' H'->Rep K c' H' v r->Q v H')->R x lo hi H Q
def fSl (f:M D)(l u:M (Option Int))(h:D->Option Int->Option Int->M D):M D:=bnd f λx=>bnd l λlo=>bnd u λhi=>h x lo hi
theorem KF {R:V->Option Int->Option Int->Hp->VK->Prop}{h:D->Option Int->Option Int->M D}{l u:M (Option Int)}{lo hi:Option Expr}{p2:Pos}(hr:SlR X R)(s:M8 X.K R h)(he:PE X e (RE X.K f))(hl:PO X lo (RO X.K l))(hu:PO X hi (RO X.K u)):PE X (.Subscript e (.Slice lo hi none p2) pos) (RE X.K (fSl f l u h)):=
 AD (Rk hr he hl hu) λσ H Q z9=>by
  obtain ⟨Oo,c,t,fi,r,t',eq,k⟩:=z9;obtain ⟨d,t1,e1,eq⟩:=Ag eq;obtain ⟨ol,t2,e2,eq⟩:=Ag eq;obtain ⟨oh,t3,e3,eq⟩:=Ag eq;exact ⟨Oo,c,t,fi,d,t1,e1,λv H1 c1 f1 s1 rv=>⟨Oo,c1,t1,f1,ol,t2,e2,λH2 c2 f2 s2=>⟨Oo,c2,t2,f2,oh,t3,e3,λH3 c3 f3 s3=>
   s f3 (rv.mono (s2.trans s3).ext) eq λv H' c' f' s' rv'=>k v H' c' f' (((s1.trans s2).trans s3).trans s') rv'⟩⟩⟩
def BZ {α:Type}(xs:List α)(lo hi:Option Int):List α:=(xs.drop (HT.sIx xs.length 0 lo)).take (HT.sIx xs.length xs.length hi - HT.sIx xs.length 0 lo)
def slD:D->Option Int->Option Int->M D
 | .lst ds,lo,hi=>ret (.lst (BZ ds lo hi))
 | .scr ns,lo,hi=>ret (.lst ((BZ ns lo hi).map .int))
 | .tup ds,lo,hi=>λt=>if HT.sIx ds.length 0 lo=0/\HT.sIx ds.length ds.length hi=ds.length then none else some (.tup (BZ ds lo hi),t)
 | _,_,_=>fail
theorem F0 {K:PySem.W.Frag}{vs:List V}{ds:List D}(r:Reps K c H vs ds)(lo hi:Option Int):Reps K c H (FL vs lo hi) (BZ ds lo hi):=by
 unfold FL BZ;rw [r.length];exact (r.drop _).take _
theorem Qr {α β:Type}(g:α->β)(xs:List α)(lo hi:Option Int):BZ (xs.map g) lo hi=(BZ xs lo hi).map g:=by
 unfold BZ;rw [List.length_map,List.map_take,List.map_drop]
theorem Oz (ns:List Int)(lo hi:Option Int):FL (ns.map V.int) lo hi=(BZ ns lo hi).map V.int:=Qr V.int ns lo hi
def Rt (K:PySem.W.Frag):V->Option Int->Option Int->Hp->VK->Prop:=λx lo hi H Q=>WW K x lo hi H Q\/WY K x lo hi H Q
theorem sl2:SlR X (Rt X.K):=sl_list.or Xa
theorem W8 {K:PySem.W.Frag}:M8 K (Rt K) slD:=λ{Oo c t σ H x dx r lo hi t' Q} f rx eq k=>by
 cases rx with
 | @lst p vs ds h1 h2 h3=>
   cases eq
   exact .inl ⟨p,vs,rfl,SqL.of h1,λq hq=>k _ _ c (f.laid hq) (f.stp_laid hq) (.lst Aj (f.s.free hq) ((F0 h3 lo hi).mono (Ext.laid f.s hq)))⟩
 | @scr p ns h1=>
   cases eq
   refine .inl ⟨p,_,rfl,h1.sq,λq hq=>k _ _ c (f.laid hq) (f.stp_laid hq) (.lst Aj (f.s.free hq) ?_)⟩;rw [Oz];exact Reps.ints _
 | @tup p vs ds h1 h2 h3=>
   unfold slD at eq;dsimp only at eq
   split at eq
   ·cases eq
   ·next hn=>
    cases eq
    exact .inr ⟨p,vs,rfl,SqT.of h1,by rw [h3.length];exact hn,λq hq=>k _ _ c (f.laid hq) (f.stp_laid hq) (.tup Aj (f.s.free hq) ((F0 h3 lo hi).mono (Ext.laid f.s hq)))⟩
 | _=>cases eq
theorem Zq {h:List D->M D}{f:M (List D)}(hc:Cn X (.builtin id) R)(s:Fj X.K R h)(hg:Gl X x)(hm:X.mg x=none)(hv:bootBuiltins x=some (.builtin id))(ha:PA X (e :: es) (RA X.K f))(hn:x≠"__name__":=by decide)(hdb:(x == ("__debug__" : Str))=false:=by decide)
 (he:starEach (e :: es) X.env=(false,eval e X.env) :: starEach es X.env:=by rfl) (hpl:(backTo pos (starEach es X.env)).any (·.1)=false:=by rfl):PE X (.Call (.Name x p) (e :: es) [] pos) (RE X.K (fB f h)):=
 AD (Lc hc hg hm hv ha hn hdb he hpl) λ_ _ _ q=>RE.callB s q
theorem Zr {h:List D->M D}{f:M (List D)}(hc:Cn X (.type id) R)(s:Fj X.K R h)(hg:Gl X x)(hm:X.mg x=none)(hv:bootBuiltins x=some (.type id))(ha:PA X (e :: es) (RA X.K f))(hn:x≠"__name__":=by decide)(hdb:(x == ("__debug__" : Str))=false:=by decide)
 (he:starEach (e :: es) X.env=(false,eval e X.env) :: starEach es X.env:=by rfl) (hpl:(backTo pos (starEach es X.env)).any (·.1)=false:=by rfl):PE X (.Call (.Name x p) (e :: es) [] pos) (RE X.K (fB f h)):=
 AD (JM hc hg hm hv ha hn hdb he hpl) λ_ _ _ q=>RE.callB s q
theorem Zs {h:List D->M (List D)}{f:M (List D)}(hc:Cn X (.type id) R)(s:JW X.K R h)(hg:Gl X x)(hm:X.mg x=none)(hv:bootBuiltins x=some (.type id))(ha:PA X (e :: es) (RA X.K f))(hn:x≠"__name__":=by decide)(hdb:(x == ("__debug__" : Str))=false:=by decide)
 (he:starEach (e :: es) X.env=(false,eval e X.env) :: starEach es X.env:=by rfl) (hpl:(backTo pos (starEach es X.env)).any (·.1)=false:=by rfl):PE X (.Call (.Name x p) (e :: es) [] pos) (RF X.K (fBF f h)):=
 AD (JM hc hg hm hv ha hn hdb he hpl) λ_ _ _ q=>RF.callB s q
theorem Sk {op:Operator}{R:R2}{g:M D}{h:D->D->M (List D)}(ho:OpR X (binaryOp op) R)(s:JV X.K R h)(ha:PE X a (RE X.K f))(hb:PE X b (RE X.K g)):PE X (.BinOp a op b pos) (RF X.K (bnd f λx=>bnd g λy=>h x y)):=
 AD (NT ho ha hb) λ_ _ _ q=>RF.two s q
end
section
variable {K:PySem.W.Frag}
theorem EG {xs:List V}{d:D}(r:Reps K c H xs [d]):∃v,xs=[v]/\Rep K c H v d:=by
 cases r with
 | cons r rs=>cases rs;exact ⟨_,rfl,r⟩
theorem Yg {xs:List V}{d e:D}(r:Reps K c H xs [d,e]):∃v u,xs=[v,u]/\Rep K c H v d/\Rep K c H u e:=by
 cases r with
 | cons r rs=>
   obtain ⟨u,rfl,q⟩:=EG rs;exact ⟨_,u,rfl,r,q⟩
def AF:List D->M D
 | [.lst ds]=>ret (.int ds.length)
 | [.tup ds]=>ret (.int ds.length)
 | [.scr ns]=>ret (.int ns.length)
 | [.str x]=>lim x.length (.int x.length)
 | [.obj k]=>λt=>match t.S[k]? with
   | some (.lst ds)=>some (.int ds.length,t)
   | _=>none
 | _=>fail
theorem UD:Fj K (λxs H Q=>∃x n,xs=[x]/\Vh K x H n/\Q (.int n) H) AF:=λ{Oo c t σ H xs ds r t' Q} f rx eq k=>by
 match ds,rx,eq with
 | [],_,eq=>cases eq
 | d0 :: _ :: _,_,eq=>cases d0 <;> cases eq
 | [d],rx,eq=>
   obtain ⟨v,rfl,rv⟩:=EG rx
   cases rv with
   | @lst a vs ds h1 h2 h3=>cases eq;exact ⟨_,ds.length,rfl,.inl ⟨vs,SqL.of h1,h3.length.symm⟩,k _ H c f .refl (.int _)⟩
   | @tup a vs ds h1 h2 h3=>cases eq;exact ⟨_,ds.length,rfl,.inr ⟨vs,SqT.of h1,h3.length.symm⟩,k _ H c f .refl (.int _)⟩
   | @scr a ns h1=>cases eq;exact ⟨_,ns.length,rfl,.inl ⟨_,h1.sq,by simp⟩,k _ H c f .refl (.int _)⟩
   | str x=>
     obtain ⟨hl,z⟩:=Dv eq
     cases z
     exact ⟨_,x.length,rfl,⟨Nat.le_trans hl CA,rfl⟩,k _ H c f .refl (.int _)⟩
   | @obj a kk h1=>
     unfold AF at eq;dsimp only at eq
     cases es:t.S[kk]? with
     | none=>rw [es] at eq;cases eq
     | some o=>
       rw [es] at eq
       cases o with
       | dct _ | ins _ _=>cases eq
       | lst ds=>
         cases eq
         obtain ⟨vs,g1,g2⟩:=f.s.obs kk a _ h1 es;exact ⟨_,ds.length,rfl,.inl ⟨vs,SqL.of g1,g2.length.symm⟩,k _ H c f .refl (.int _)⟩
   | _=>cases eq
noncomputable def tyD:D->Option String
 | .non=>some "NoneType"
 | .bl _=>some "bool"
 | .int _=>some "int"
 | .str _=>some "str"
 | .lst _=>some "list"
 | .tup _=>some "tuple"
 | .dic=>some "dict"
 | _=>none
noncomputable def Gm (n m:String):Option Bool:=match m with
 | "int"=>some (n == "int" || n == "bool")
 | "bool"=>some (n == "bool")
 | "str"=>some (n == "str")
 | "list"=>some (n == "list")
 | "tuple"=>some (n == "tuple")
 | "dict"=>some (n == "dict")
 | _=>none
def KR:List D->M D
 | [d,.ty m]=>λt=>match tyD d with
   | some n=>(Gm n m).map λb=>(.bl b,t)
   | none=>none
 | _=>fail
def Jr:List D->M D
 | [.lst ds]=>ret (.tup ds)
 | [.tup ds]=>ret (.tup ds)
 | [.obj k]=>λt=>match t.S[k]? with
   | some (.lst ds)=>some (.tup ds,t)
   | _=>none
 | _=>fail
theorem UO:Fj K (λxs H Q=>∃p ys,xs=[.ref p]/\((SqL K H p ys/\∀l,H l=none->Q (.ref l) (upd H l (.tup ys)))\/(SqT K H p ys/\Q (.ref p) H))) Jr:=λ{Oo c t σ H xs ds r t' Q} f rx eq k=>by
 match ds,rx,eq with
 | [],_,eq=>cases eq
 | d0 :: _ :: _,_,eq=>cases d0 <;> cases eq
 | [d],rx,eq=>
   obtain ⟨v,rfl,rv⟩:=EG rx
   cases rv with
   | @lst a vs ds h1 h2 h3=>cases eq;exact ⟨a,vs,rfl,.inl ⟨SqL.of h1,λq hq=>k _ _ c (f.laid hq) (f.stp_laid hq) (.tup Aj (f.s.free hq) (h3.mono (Ext.laid f.s hq)))⟩⟩
   | @tup a vs ds h1 h2 h3=>cases eq;exact ⟨a,vs,rfl,.inr ⟨SqT.of h1,k _ H c f .refl (.tup h1 h2 h3)⟩⟩
   | @obj a kk h1=>
     unfold Jr at eq;dsimp only at eq
     cases es:t.S[kk]? with
     | none=>rw [es] at eq;cases eq
     | some o=>
       rw [es] at eq
       cases o with
       | dct _ | ins _ _=>cases eq
       | lst ds=>
         cases eq
         obtain ⟨vs,g1,g2⟩:=f.s.obs kk a _ h1 es;exact ⟨a,vs,rfl,.inl ⟨SqL.of g1,λq hq=>k _ _ c (f.laid hq) (f.stp_laid hq) (.tup Aj (f.s.free hq) (g2.mono (Ext.laid f.s hq)))⟩⟩
   | _=>cases eq
def Dx:List D->M (List D)
 | [.lst ds]=>ret ds
 | [.tup ds]=>ret ds
 | [.scr ns]=>ret (ns.map .int)
 | [.obj k]=>λt=>match t.S[k]? with
   | some (.lst ds)=>some (ds,t)
   | _=>none
 | _=>fail
theorem UE:JW K (λxs H Q=>∃p ys,xs=[.ref p]/\(SqL K H p ys\/SqT K H p ys)/\∀l,H l=none->Q (.ref l) (upd H l (.lst ys))) Dx:=λ{Oo c t σ H xs ds r t' Q} f rx eq k=>by
 match ds,rx,eq with
 | [],_,eq=>cases eq
 | d0 :: _ :: _,_,eq=>cases d0 <;> cases eq
 | [d],rx,eq=>
   obtain ⟨v,rfl,rv⟩:=EG rx
   cases rv with
   | @lst a vs ds h1 h2 h3=>cases eq;exact ⟨a,vs,rfl,.inl (SqL.of h1),λq hq=>k q vs H c f .refl h3 hq⟩
   | @tup a vs ds h1 h2 h3=>cases eq;exact ⟨a,vs,rfl,.inr (SqT.of h1),λq hq=>k q vs H c f .refl h3 hq⟩
   | @scr a ns h1=>cases eq;exact ⟨a,_,rfl,.inl h1.sq,λq hq=>k q _ H c f .refl (Reps.ints ns) hq⟩
   | @obj a kk h1=>
     unfold Dx at eq;dsimp only at eq
     cases es:t.S[kk]? with
     | none=>rw [es] at eq;cases eq
     | some o=>
       rw [es] at eq
       cases o with
       | dct _ | ins _ _=>cases eq
       | lst ds=>
         cases eq
         obtain ⟨vs,g1,g2⟩:=f.s.obs kk a _ h1 es;exact ⟨a,vs,rfl,.inl (SqL.of g1),λq hq=>k q vs H c f .refl g2 hq⟩
   | _=>cases eq
def FT:List D->M D
 | [.int i]=>ret (.int i)
 | [.bl b]=>ret (.int (if b then 1 else 0))
 | _=>fail
theorem UC:Fj K (λxs H Q=>(∃i,xs=[.int i]/\Q (.int i) H)\/∃k,xs=[.bl k]/\Q (.int (if k then 1 else 0)) H) FT:=λ{Oo c t σ H xs ds r t' Q} f rx eq k=>by
 match ds,rx,eq with
 | [],_,eq=>cases eq
 | d0 :: _ :: _,_,eq=>cases d0 <;> cases eq
 | [d],rx,eq=>
   obtain ⟨v,rfl,rv⟩:=EG rx
   cases rv with
   | int i=>cases eq;exact .inl ⟨i,rfl,k _ H c f .refl (.int _)⟩
   | bl b=>cases eq;exact .inr ⟨b,rfl,k _ H c f .refl (.int _)⟩
   | _=>cases eq
def Zk:List D->M D
 | [.int i]=>ret (.int (if i < 0 then -i else i))
 | _=>fail
def Ew:List D->M D
 | [.int i,.int j]=>ret (.int (if j < i then j else i))
 | _=>fail
def Zz:List D->M D
 | [.int i,.int j]=>ret (.int (if j > i then j else i))
 | _=>fail
theorem UG:Fj K (λxs H Q=>∃i j,xs=[.int i,.int j]/\Q (.int (if j < i then j else i)) H) Ew:=λ{Oo c t σ H xs ds r t' Q} f rx eq k=>by
 unfold Ew at eq
 split at eq
 ·next i j=>
  obtain ⟨v,u,rfl,rv,ru⟩:=Yg rx
  cases rv;cases ru;cases eq
  exact ⟨i,j,rfl,k _ H c f .refl (.int _)⟩
 ·cases eq
def Jh:List D->M D
 | [.str x]=>λt=>if x.length=1 then some (.int (x.cps.getD 0 0:Nat),t) else none
 | _=>fail
theorem UK:Fj K (λxs H Q=>∃x,xs=[.str x]/\x.length=1/\Q (.int (x.cps.getD 0 0:Nat)) H) Jh:=λ{Oo c t σ H xs ds r t' Q} f rx eq k=>by
 match ds,rx,eq with
 | [],_,eq=>cases eq
 | d0 :: _ :: _,_,eq=>cases d0 <;> cases eq
 | [d],rx,eq=>
   obtain ⟨v,rfl,rv⟩:=EG rx
   cases rv with
   | str x=>
     unfold Jh at eq;dsimp only at eq
     split at eq
     ·next h=>cases eq;exact ⟨x,rfl,h,k _ H c f .refl (.int _)⟩
     ·cases eq
   | _=>cases eq
end
end F2
namespace L2
open PySem PySem.Spec PyProof.Rows
open AutoSeq1 (wpAny_loadPart')
end L2
namespace L2
open PySem PySem.Spec PyProof.Rows
open AutoSeq1 (wpAny_loadPart')
section
variable {X:Cx}{a b c d:Expr}{ta tb tc td:TE}{pos:Pos}
end
end L2
namespace F2
open PySem L2 PySem.Spec
section
variable {K:PySem.W.Frag}
def AB (x y:D):M D:=Vl x y
def Sy (K:PySem.W.Frag):R2:=NV K
theorem My {X:Cx}:OpR X (binaryOp .Add) (Sy X.K):=T7
theorem Lv:AZ K (Sy K) AB:=UB
def Q8:D->D->M D
 | .int i,.int j=>λt=>if EF i j=true then some (.int (i * j),t) else none
 | _,_=>fail
def NX (K:PySem.W.Frag):R2:=rI CMul (λi j=>.int (i * j))
theorem op_mul3 {X:Cx}:OpR X (binaryOp .Mult) (NX X.K):=Wt
theorem UI:AZ K (NX K) Q8:=λ{Oo c t σ H x y dx dy r t' Q} f rx ry eq k=>by
 cases rx with
 | int i=>
   cases ry with
   | int j=>
     unfold Q8 at eq;dsimp only at eq
     split at eq
     ·next h=>cases eq;exact ⟨i,j,rfl,rfl,Pd h,k _ H c f .refl (.int _)⟩
     ·cases eq
   | _=>cases eq
 | _=>cases eq
end
variable {K:PySem.W.Frag}
section
variable {X:Cx}{e a b:Expr}{pos:Pos}
def BR (xs:List D):List D->Option (List D)
 | [d]=>if xs.length < LIM then some (xs++[d]) else none
 | _=>none
def ownM (i:Nat)(h:List D->List D->Option (List D))(g:M (List D)):M Out:=λt=>match t.env[i]? with
 | some (some (.own _))=>bnd g (λds t1=>match t1.env[i]? with
   | some (some (.own xs))=>(h xs ds).map λys=>(.next,{ t1 with env:=t1.env.set i (some (.own ys)) })
   | _=>none) t
 | _=>none
def Qe (K:PySem.W.Frag)(R:V->List V->Hp->VK->Prop)(h:List D->List D->Option (List D)):Prop:=∀{c:Cf} {S:List Ob} {H:Hp} {a:Addr} {vs us:List V} {xs ds ys:List D} {Q:VK},SInv K c S H->H a=some (.lst vs)->Reps K c H vs xs->Reps K c H us ds->h xs ds=some ys->
 (∀ws,Reps K c H ws ys->Q .non (upd H a (.lst ws)))->R (.ref a) us H Q
theorem ML:Qe K MH BR:=λ{c S H a vs us xs ds ys Q} s h r rs e k=>by
 unfold BR at e
 split at e
 ·next d=>
  split at e
  ·next hl=>
   cases e
   obtain ⟨v,rfl,rv⟩:=EG rs;exact ⟨a,vs,v,rfl,rfl,h,by rw [r.length];exact Nat.lt_of_lt_of_le hl CA,k _ (r.append (.cons rv .nil))⟩
  ·cases e
 ·cases e
theorem RS.ownM {μ:Cf->Hp->D->(V->Hp->Prop)->Prop}{K:PySem.W.Frag}{i:Nat}{h:List D->List D->Option (List D)}{g:M (List D)}{R:V->List V->Hp->VK->Prop}(s:Qe K R h){E:Ends}{σ:L2.St}{H:Hp}(q:RSg K μ (F2.ownM i h g) E σ H):SG (tBM K "list" R (Xg i) (RA K g)) E σ H:=by
 obtain ⟨Oo,c,t,fi,o,t',eq,k⟩:=q;unfold F2.ownM at eq
 split at eq
 ·next xs0 e0=>
  obtain ⟨ds,t1,e1,eq⟩:=Ag eq;obtain ⟨a,vs0,h1,h2,h3,h4,h5⟩:=fi.own i xs0 e0;refine ⟨.ref a,h1,.inl ⟨rfl,vs0,SqL.of h4⟩,Oo,c,t,fi,ds,t1,e1,λus H1 c1 f1 s1 rus=>?_⟩
  split at eq
  ·next xs ex=>
   obtain ⟨ys,ey,ez⟩:=Option.map_eq_some_iff.mp eq
   cases ez
   obtain ⟨a',vs,g1,g2,g3,g4,g5⟩:=f1.own i xs ex;rw [h1] at g1;injection g1 with g1;injection g1 with g1;injection g1 with g1;subst g1
   refine s f1.s g4 g5 rus ey λws rws=>?_;obtain ⟨f2,s2⟩:=f1.wrOwn ex h1 rws;exact k σ _ c1 f2 (s1.trans s2)
  ·cases eq
 ·cases eq
theorem OM {μ:Cf->Hp->D->(V->Hp->Prop)->Prop}(i:Nat){x:Str}{es:List Expr}{g:M (List D)}{px apos cpos:Pos}(ha:PA X (e :: es) (RA X.K g))(hN:X.N[i]?=some x:=by rfl)(hv:Vis X.env.scope x:=by walk_at "h")(hd:(x == ("__debug__" : Str))=false:=by decide)
 (hcd:(x == ("__classdict__" : Str))=false:=by decide)
 (hbase:attributeBase (.Name x px) "append" X.env (eval (.Name x px) X.env)=eval (.Name x px) X.env:=by rfl)
 (hfew:((backTo cpos (starEach (e :: es) X.env)).all (λx=>!x.1) && (backToKw cpos (keywordEach [] X.env)).all (λx=>x.1.isSome) && decide ((e :: es).length + ([]:List Keyword).length + (if ([]:List Keyword).isEmpty then 0 else 1) < 30))=true:=by rfl)
 (hline:(apos.endLine == cpos.line)=true:=by rfl) (hs:starEach (e :: es) X.env=(false,eval e X.env) :: starEach es X.env:=by rfl) (hplain:(backTo cpos (starEach es X.env)).any (·.1)=false:=by rfl) :
 PS X (.Expr (.Call (.Attribute (.Name x px) "append" apos) (e :: es) [] cpos) pos) (RSg X.K μ (ownM i BR g)):=
 A8 (Ji (J2 PySem.F.plainAttrs_list PySem.F.slot_list_append PySem.F.type_list_append JL (B2 hN hv hd hcd) ha hbase hfew hline hs hplain)) λ_ _ _ q=>RS.ownM ML q
def objM (h:List D->List D->Option (List D))(f:M D)(g:M (List D)):M D:=bnd f λo=>match o with
 | .obj k=>λt=>match t.S[k]? with
   | some (.lst _)=>bnd g (λds t1=>match t1.S[k]? with
     | some (.lst xs)=>(h xs ds).map λys=>(.non,{ t1 with S:=t1.S.set k (.lst ys) })
     | _=>none) t
   | _=>none
 | _=>fail
theorem RE.objM {K:PySem.W.Frag}{h:List D->List D->Option (List D)}{f:M D}{g:M (List D)}{R:V->List V->Hp->VK->Prop}(s:Qe K R h){σ:L2.St}{H:Hp}{Q:VK}(q:RE K (F2.objM h f g) σ H Q):tBM K "list" R (RE K f) (RA K g) σ H Q:=by
 obtain ⟨Oo,c,t,fi,r,t',eq,k⟩:=q;obtain ⟨o,t0,e0,eq⟩:=Ag eq;refine ⟨Oo,c,t,fi,o,t0,e0,λx H0 c0 f0 s0 rx=>?_⟩
 cases rx with
 | @obj a kk hk=>
   dsimp only at eq
   split at eq
   ·next xs0 ex0=>
    obtain ⟨ds,t1,e1,eq⟩:=Ag eq;obtain ⟨vs0,g0,g0'⟩:=f0.s.obs kk a _ hk ex0;refine ⟨.inl ⟨rfl,vs0,SqL.of g0⟩,Oo,c0,t0,f0,ds,t1,e1,λus H1 c1 f1 s1 rus=>?_⟩
    split at eq
    ·next xs ex=>
     obtain ⟨ys,ey,ez⟩:=Option.map_eq_some_iff.mp eq
     cases ez
     have hk1:=s1.ext.io _ _ hk;obtain ⟨vs,g1,g2⟩:=f1.s.obs kk a _ hk1 ex;refine s f1.s g1 g2 rus ey λws rws=>?_;obtain ⟨f2,s2⟩:=f1.wrObj (o:=.lst ys) (u:=.lst ws) hk1 λc' H' ext hu=>⟨ws,hu,rws.mono ext⟩;exact k _ _ c1 f2 ((s0.trans s1).trans s2) .non
    ·cases eq
   ·cases eq
 | _=>cases eq
theorem OF {o:Expr}{es:List Expr}{f:M D}{g:M (List D)}{apos cpos:Pos}(ho:PE X o (RE X.K f))(ha:PA X (e :: es) (RA X.K g))
 (hbase:attributeBase o "append" X.env (eval o X.env)=eval o X.env:=by rfl)
 (hfew:((backTo cpos (starEach (e :: es) X.env)).all (λx=>!x.1) && (backToKw cpos (keywordEach [] X.env)).all (λx=>x.1.isSome) && decide ((e :: es).length + ([]:List Keyword).length + (if ([]:List Keyword).isEmpty then 0 else 1) < 30))=true:=by rfl)
 (hline:(apos.endLine == cpos.line)=true:=by rfl) (hs:starEach (e :: es) X.env=(false,eval e X.env) :: starEach es X.env:=by rfl) (hplain:(backTo cpos (starEach es X.env)).any (·.1)=false:=by rfl) :
 PE X (.Call (.Attribute o "append" apos) (e :: es) [] cpos) (RE X.K (objM BR f g)):=
 AD (J2 PySem.F.plainAttrs_list PySem.F.slot_list_append PySem.F.type_list_append JL ho ha hbase hfew hline hs hplain) λ_ _ _ q=>RE.objM ML q
def Fr (o i d:D):M Unit:=match o,i with
 | .obj k,.int j=>λt=>match t.S[k]? with
   | some (.lst xs)=>(ixN xs.length j).map λn=>((),{ t with S:=t.S.set k (.lst (xs.set n d)) })
   | _=>none
 | _,_=>fail
def stD (f g:M D)(d:D):M Unit:=bnd f λo=>bnd g λi=>Fr o i d
theorem VM {o i:Expr}{f g:M D}(ho:PE X o (RE X.K f))(hi:PE X i (RE X.K g))
 (ha:∀v,assign (.Subscript o i pos) X.env v=(do
   let ov <-holding [v] (eval o X.env)
   let iv <-holding [v,ov] (eval i X.env)
   standAt pos
   holding [v,ov,iv] (setItem ov iv v)
   release [v,ov,iv] []):=by intro _;rfl):PG X (.Subscript o i pos) (RG X.K (stD f g)):=
 F8 (Ld ho hi Lx ha) λv σ H Q z9=>by
  obtain ⟨Oo,c,t,d,fi,rv,t',eq,k⟩:=z9;obtain ⟨d0,t1,e1,eq⟩:=Ag eq;obtain ⟨di,t2,e2,eq⟩:=Ag eq;refine ⟨Oo,c,t,fi,_,t1,e1,λx H1 c1 f1 s1 rx=>⟨Oo,c1,t1,f1,di,t2,e2,λy H2 c2 f2 s2 ry=>?_⟩⟩;unfold Fr at eq
  split at eq
  ·cases ry with
   | int j=>
   cases rx with
   | @obj a kk hk=>
     split at eq
     ·next xs ex=>
      obtain ⟨n,en,ez⟩:=Option.map_eq_some_iff.mp eq
      cases ez
      have hk2:=s2.ext.io _ _ hk;obtain ⟨vs,g1,g2⟩:=f2.s.obs _ a _ hk2 ex;refine ⟨a,vs,_,n,rfl,rfl,g1,by rw [g2.length];exact en,?_⟩;have rv2:=rv.mono (s1.trans s2).ext;obtain ⟨f3,s3⟩:=f2.wrObj (o:=.lst (xs.set n d)) (u:=.lst (vs.set n v)) hk2 λc' H' ext hu=>⟨_,hu,(Reps.set rv2 n g2).mono ext⟩;exact k σ _ c2 f3 ((s1.trans s2).trans s3)
     ·cases eq
  ·cases eq
end
variable {H:Hp}
section
variable {X:Cx}{e a b tg iter elt:Expr}{ifs:List Expr}{pos:Pos}{scope:Scope}{N':List Str}{n:Nat}{fr:List Nat}{f:M (List D)}{st:D->M Unit}{tst:M Bool}{el:M D}
def Bc:M Bool:=ret true
theorem Te:PIf X [] (RT X.K Bc):=λpins s σ H Q I z9=>by
 obtain ⟨Oo,c,t,fi,r,t',eq,k⟩:=z9;exact Uo pins s σ H Q I (by cases eq;exact k H c fi .refl)
theorem Tf {g:M Bool}(h:PT X e (RT X.K g)):PIf X [e] (RT X.K g):=Up h
theorem CH (O:CmpOk X scope N' (Ep n fr))(hc:X.calm=true)(hi:PI X tg iter (RI X.K f))
 (hg:∀cl C s2 H2 fp,PG (Bv X N' scope cl C s2 H2 fp) tg (RG X.K st)) (ht:∀cl C s2 H2 fp,PIf (Bv X N' scope cl C s2 H2 fp) ifs (RT X.K tst)) (he:∀cl C s2 H2 fp,PE (Bv X N' scope cl C s2 H2 fp) elt (RE X.K el))
 (hs:∀x,foldedSetIterable iter X.env x=pure x:=by intro _;rfl):PE X (.ListComp elt [⟨tg,iter,ifs,0⟩] scope pos) (RF X.K (AM n fr f st tst el)):=
 AD (MB O hc hi hg ht he hs) λ_ _ _ q=>RF.comp q
theorem RF.ofPure {f:M (List D)}{σ:L2.St}{Q:VK}(q:RE K (Av f) σ H Q):RF K f σ H Q:=by
 obtain ⟨Oo,c,t,fi,r,t',eq,k⟩:=q;obtain ⟨ds,t1,e1,eq⟩:=Ag eq
 cases eq
 exact ⟨Oo,c,t,fi,ds,_,e1,λp xs H1 c1 f1 s1 rxs hp=>k _ _ c1 (f1.laid hp) (s1.trans (f1.stp_laid hp)) (.lst Aj (f1.s.free hp) (rxs.mono (Ext.laid f1.s hp)))⟩
theorem Tl {μ:Cf->Hp->D->(V->Hp->Prop)->Prop}{i:Nat}{y:Str}{py spos:Pos}(O:CmpOk X scope N' (Ep n fr))(hc:X.calm=true)(hN:X.N.Nodup)(hiN:X.N[i]?=some y)(hx:X.env.scope.names.lookup y=some .local)(hi:PI X tg iter (RI X.K f))
 (hg:∀cl C s2 H2 fp,PG (Bv X N' scope cl C s2 H2 fp) tg (RG X.K st)) (ht:∀cl C s2 H2 fp,PIf (Bv X N' scope cl C s2 H2 fp) ifs (RT X.K tst)) (he:∀cl C s2 H2 fp,PE (Bv X N' scope cl C s2 H2 fp) elt (RE X.K el))
 (hsw:swapsWith (.ListComp elt [⟨tg,iter,ifs,0⟩] scope pos) (some (.Name y py)) spos.line X.env=pure true:=by rfl)
 (hs:∀x,foldedSetIterable iter X.env x=pure x:=by intro _;rfl):PS X (.Assign [.Name y py] (.ListComp elt [⟨tg,iter,ifs,0⟩] scope pos) spos) (RSg X.K μ (Ap i (Av (AM n fr f st tst el)))):=
 A8 (MD O hc hN hiN hx hi hg ht he hsw hs) λE σ H q=>RF.comp (RF.ofPure (RS.set q))
theorem Ce (tgs:List Str)(frn:List (Nat×Str))(hk:scope.kind = .function)(hcell:(scope.names.all λy=>y.2 != .cell)=true)(hloc:(scope.names.all λy=>y.2 != .local || scope.names.lookup y.1 == some .local)=true)
 (hfree:(scope.names.all λy=>y.2 != .free || X.env.kindOf y.1 == some .cell || X.env.kindOf y.1 == some .free)=true)
 (hf:(frn.all λp=>X.N[p.1]? == some p.2 && scope.names.lookup p.2 == some .free)=true):CmpOk X scope (tgs++frn.map (·.2)) (Ep tgs.length (frn.map (·.1))):=by
 rw [List.all_eq_true] at hcell hloc hfree hf;refine ⟨hk,λy hy=>by simpa using hcell y hy,λy hy hl=>?_,λy hy hl=>?_,λσ _=>by simp [Ep],λσ j x v h1 h2=>?_⟩
 ·have:=hloc y hy;simpa [hl] using this
 ·have:=hfree y hy;simpa [hl] using this
 ·unfold Ep at h2
  by_cases hj:j < tgs.length
  ·rw [List.getElem?_append_left (by simpa using hj),List.getElem?_replicate] at h2
   split at h2 <;> simp at h2
  ·rw [List.getElem?_append_right (by simpa using hj),List.length_replicate,List.getElem?_map,List.getElem?_map] at h2;rw [List.getElem?_append_right (by simpa using hj),List.getElem?_map] at h1
   cases e:frn[j - tgs.length]? with
   | none=>rw [e] at h1;cases h1
   | some p=>
     rw [e] at h1 h2;simp only [Option.map_some,Option.some.injEq] at h1 h2;have hp:=hf p (List.mem_of_getElem? e);rw [Bool.and_eq_true] at hp;refine ⟨p.1,by rw [<-h1];simpa using hp.1,?_,by rw [<-h1];simpa using hp.2⟩
     cases e2:σ[p.1]? with
     | none=>rw [e2] at h2;cases h2
     | some o=>rw [e2] at h2;simpa using h2
end
mutual
noncomputable def A7:D->Bool
 | .tup xs=>E3 xs
 | .lst xs=>E3 xs
 | .obj _=>false
 | .scr _=>false
 | .exc _ _=>false
 | _=>true
noncomputable def E3:List D->Bool
 | []=>true
 | d :: r=>A7 d && E3 r
end
def c0:Cf:=⟨[],λ_=>False⟩
theorem FJ (a:Addr):¬c0.A a:=λh=>h.elim (λz=>nomatch z) λz=>z
mutual
theorem Dn {K:PySem.W.Frag}{c:Cf}{H:Hp}{v:V}{d:D}(r:Rep K c H v d)(p:A7 d=true):Rep K c0 H v d:=by
 cases r with
 | non=>exact .non
 | bl b=>exact .bl b
 | int i=>exact .int i
 | str x=>exact .str x
 | ty n=>exact .ty n
 | tup h n r=>exact .tup h (FJ _) (FB r (by simpa [A7] using p))
 | lst h n r=>exact .lst h (FJ _) (FB r (by simpa [A7] using p))
 | scr h=>simp [A7] at p
 | dic h n=>exact .dic h (FJ _)
 | obj h=>simp [A7] at p
 | exc _ _ _ _ _=>simp [A7] at p
theorem FB {K:PySem.W.Frag}{c:Cf}{H:Hp}{vs:List V}{ds:List D}(r:Reps K c H vs ds)(p:E3 ds=true):Reps K c0 H vs ds:=by
 cases r with
 | nil=>exact .nil
 | cons h t=>
   simp only [E3,Bool.and_eq_true] at p;exact .cons (Dn h p.1) (FB t p.2)
end
noncomputable def DC (S:List Ob):D->D
 | .obj k=>match S[k]? with
   | some (.lst ds)=>.lst ds
   | _=>.obj k
 | d=>d
noncomputable def V2:D->Bool
 | .obj _=>true
 | _=>false
def eqS (g:Bool->Bool)(x y:D):M D:=λt=>
 if (V2 x || V2 y)=true then (if (A7 (DC t.S x) && A7 (DC t.S y))=true then (eqN EQD (DC t.S x) (DC t.S y)).map λb=>(.bl (g b),t) else none)
 else (eqN EQD x y).map λb=>(.bl (g b),t)
theorem HA {c:Cf}{S:List Ob}{v:V}{d:D}(s:SInv K c S H)(r:Rep K c H v d)(p:A7 (DC S d)=true):Rep K c0 H v (DC S d):=by
 cases r with
 | @obj a k hk=>
   unfold DC at p ⊢;dsimp only at p ⊢
   split
   ·next ds e=>
    rw [e] at p;obtain ⟨vs,h1,h2⟩:=s.obs k a _ hk e;exact .lst h1 (FJ _) (FB h2 (by simpa [A7] using p))
   ·next h=>
    split at p
    ·next ds e=>exact absurd e (h ds)
    ·simp [A7] at p
 | non=>exact .non
 | bl b=>exact .bl b
 | int b=>exact .int b
 | str b=>exact .str b
 | ty b=>exact .ty b
 | tup h n q=>exact Dn (.tup h n q) p
 | lst h n q=>exact Dn (.lst h n q) p
 | scr h=>exact Dn (c:=c) (.scr h) p
 | dic h n=>exact Dn (.dic h n) p
 | exc a b n f q=>exact Dn (.exc a b n f q) p
theorem GZ {g:Bool->Bool}:AZ K (Jj K g) (eqS g):=λ{Oo c t σ H x y dx dy r t' Q} f rx ry eq k=>by
 unfold eqS at eq
 split at eq
 ·split at eq
  ·next hp=>
   rw [Bool.and_eq_true] at hp;obtain ⟨b,e1,e2⟩:=Option.map_eq_some_iff.mp eq
   cases e2
   exact ⟨c0,_,_,b,HA f.s rx hp.1,HA f.s ry hp.2,e1,k _ H c f .refl (.bl (g b))⟩
  ·cases eq
 ·obtain ⟨b,e1,e2⟩:=Option.map_eq_some_iff.mp eq
  cases e2
  exact ⟨c,dx,dy,b,rx,ry,e1,k _ H c f .refl (.bl (g b))⟩
theorem O2 {a:Addr}{ns:List Int}{f:Fn}{S':List Ob}(hO:M7 H)(hS:SqL K H a (ns.map V.int))(e:f [.scr ns] []=some (.bl true,S')):spF K f [.ref a] H (λv _=>v = .bl true) λ_ _ _=>False:=by
 refine ⟨c0,[.scr ns],[],⟨rfl,List.Pairwise.nil,λk a o h=>by simp [c0] at h,λb z=>z.elim,λb z=>z.elim⟩,.cons (.scr ?_) .nil,.bl true,S',e,λv H' c' _ _ _ rv=>by cases rv;rfl⟩;rcases hS with (h | h) | h
 ·rcases hO a with z | ⟨o,xs,z⟩
  ·rw [z] at h;cases h
  ·rw [z] at h;cases h
 ·exact .inl ⟨h,FJ _⟩
 ·exact .inr h
end F2
namespace L2
open PySem PySem.Spec PyProof.Rows
section
variable {prog:Program}{w:World}{A:Around}{E:Value->Shared->Prop}{s:Shared}
theorem Ie {it l:Addr}{items:Array Value}(hne:l≠it):∀(n i:Nat) (s:Shared) (Q:List Value->Shared->Prop),s.heap.IsListIter it l i->s.heap.IsList l items->i + n<=items.size->
 (∀h',h'.IsListIter it l (i + n)->Heap.SameBut it s.heap h'->Q ((items.toList.drop i).take n) { s with heap:=h' })->wpAny (model prog w) A (draw (.ref it) n) Q E s
 | 0,i,s,Q,hit,_,_,hQ=>wpAny_pure (by simpa using hQ s.heap hit (Heap.SameBut.refl ..))
 | n + 1,i,s,Q,hit,ht,hle,hQ=>by
   have hlt:i < items.size:=by lia
   refine wpAny_bind (wpAny_pyNext_list_item hit ht (x:=items[i]) (by simp [hlt]) λh1 hit1 hs1=>?_);refine wpAny_bind (wpAny_holding (Ie hne n (i + 1) _ _ hit1 (ht.extBut hs1.extBut hne) (by lia) λh2 hit2 hs2=>wpAny_pure ?_));have hd:items.toList.drop i=items[i] :: items.toList.drop (i + 1):=by simp [List.drop_eq_getElem_cons,hlt]
   have:=hQ h2 (by rw [show i + (n + 1)=i + 1 + n by lia];exact hit2) (hs1.trans hs2);rw [hd,List.take_succ_cons] at this;exact this
theorem LI {l:Addr}{items:Array Value}{targets:List (Bool×(Value->Sem Unit))}{Q:Unit->Shared->Prop}(hh:A.handled=none)(ht:s.heap.IsList l items)(hn:targets.length=items.size)(hstar:targets.findIdx? (·.1)=none)
 (h:∀h',Heap.ExtBut s.heap.objs.size s.heap h'->wpAny (model prog w) A (assignInOrder (targets.map (·.2)) items.toList) Q E { s with heap:=h' }):wpAny (model prog w) A (unpack (.ref l) targets) Q E s:=by
 have hlt:l≠s.heap.objs.size:=by obtain ⟨o,ho,_⟩:=ht;exact Nat.ne_of_lt (Heap.lt_size ho)
 unfold unpack;rw [hn,hstar];refine wpAny_bind (wpAny_holding ?_);unfold unpackItems;refine wpAny_bind ?_;unfold notIterableAtAll;refine wpAny_bind (wpAny_specialOf ht.typeIs PySem.F.slot_list_iter.lookup ?_);refine wpAny_pure ?_;simp only [Bool.false_eq_true,if_false];refine wpAny_bind (wpAny_holding (wpAny_pyIter_list ht ?_));have hp:Heap.IsList (s.heap.push { cls:=.type "list_iterator",data:=.fields #[.ref l,.int 0 0] }) l items:=by
  obtain ⟨o,ho,r⟩:=ht;exact ⟨o,Heap.get?_push_of_some _ ho,r⟩
 refine wpAny_bind (wpAny_holding (Ie hlt items.size 0 _ _ ⟨_,Heap.get?_push_size _ rfl,rfl,rfl⟩ hp (by lia) λh1 hit1 hs1=>?_));have hall:List.take items.size (List.drop 0 items.toList)=items.toList:=by
  rw [List.drop_zero];exact List.take_of_length_le (by simp)
 rw [hall];rw [if_neg (by simp)];have ht1:Heap.IsList h1 l items:=hp.extBut hs1.extBut hlt;refine wpAny_bind (wpAny_holding (wpAny_pyNext_list_end hh hit1 ht1 (by simp) λh2 he2=>?_));simp only [Option.isSome_none,Bool.false_eq_true,if_false];exact wpAny_pure (h h2 λb o hb e=>he2 b o hb (hs1.extBut b o hb (Heap.get?_push_of_some _ e)))
end
section
variable {X:Cx}{pos:Pos}
def gUn (K:PySem.W.Frag)(n:Nat)(t:TGs):TG:=λv σ H Q=>∃a xs,v = .ref a/\(SqT K H a xs\/SqL K H a xs)/\xs.length=n/\t xs σ H Q
theorem X7 {es:List Expr}{k:Nat}{t:TGs}{n:Nat}(hc:X.calm=true)(h:PGs X es t)
 (hn:(assignEach es X.env).length=n:=by rfl) (hst:(assignEach es X.env).findIdx? (·.1)=none:=by rfl):PG X (.Tuple es k pos) (gUn X.K n t):=by
 intro pins s σ H v u Q I r hw;obtain ⟨a,xs,e1,hq | hq,hl,hw⟩:=hw
 ·exact WH hc h hn hst pins s σ H v u Q I r ⟨a,xs,e1,hq,hl,hw⟩
 ·subst e1
  cases r
  obtain ⟨its,rv,ht,hz⟩:=I.list hq;rw [assign_Tuple];refine wpAny_bind (wpAny_standAt (LI (I.ok.hd hc) ht.isList (by simp [hn,<-hl,rv.length]) hst λh' hx=>?_));have I1:Inv X pins σ H { s with heap:=h' }:=I.kept (t':=s.toks) λb o e=>hx b o (Nat.ne_of_lt (Heap.lt_size e)) e;exact h pins _ σ H xs _ Q I1 (by simpa using rv) hw
end
section
open HT
variable {prog:Program}{w:World}{A:Around}{E:Value->Shared->Prop}{s:Shared}
theorem F6 {t sl:Addr}{items:Array Value}{vl vu:Value}{lo hi:Option Int}{Q:Value->Shared->Prop}(ht:IsTup s.heap t items)(hs:s.heap.IsSliceOf sl vl vu .none)(pl:IsPart vl lo)(pu:IsPart vu hi)
 (hw:sIx items.size 0 lo=0/\sIx items.size items.size hi=items.size) (h:Q (.ref t) s):wpAny (model prog w) A (getItem (.ref t) (.ref sl)) Q E s:=by
 obtain ⟨os,hos,hcs,hds⟩:=id hs;have hTs:s.TypeIs (.ref sl) "slice":=⟨os,hos,hcs⟩;unfold getItem
 try with_reducible refine wpAny_holding ?_
 first | refine wpAny_bind (wpAny_pure ?_) | skip
 refine wpAny_bind (wpAny_sequenceKey ht.typeIs (by decide) ?_);refine wpAny_bind (wpAny_callSpecial?_slot (name:=Str.ofString "__getitem__") ht.typeIs PyProof.Rows.slot_tuple_getitem
  (wpAny_call_entry PyProof.Rows.slot_tuple_getitem ht.typeIs entry_tuple_getitem ?_ (args_tuple_getitem _ _)))
 show wpAny _ _ (Builtin.Tuple.tupleItemsOf (.ref t) >>= _) _ _ s;refine wpAny_bind (tupleItemsOf_ ht ?_);refine wpAny_bind (wpAny_typeOf hTs ?_);rw [if_pos (by decide)];refine wpAny_bind (E7 hs pl pu ?_);have hyes:(((sIx items.size 0 lo:Nat):Int) == 0 && (1:Int) == 1 && (sIx items.size items.size hi - sIx items.size 0 lo) == items.size)=true:=by
  rw [hw.1,hw.2];simp
 show wpAny _ _ (if (((sIx items.size 0 lo:Nat):Int) == 0 && (1:Int) == 1 && (sIx items.size items.size hi - sIx items.size 0 lo) == items.size)=true then _ else _) _ _ s;rw [if_pos hyes];refine wpAny_bind (m:=Builtin.Tuple.tupleIsExact _) ?_;unfold Builtin.Tuple.tupleIsExact;refine wpAny_bind (wpAny_typeOf ht.typeIs (wpAny_pure ?_));rw [if_pos (by decide)]
 first
  | exact wpAny_bind (wpAny_rule (wpAny_pure ⟨_,rfl,wpAny_pure h⟩))
  | exact wpAny_bind (wpAny_rule (wpAny_bind (wpAny_pure (wpAny_pure ⟨_,rfl,wpAny_pure h⟩))))
end
section
variable {X:Cx}
def WZ (K:PySem.W.Frag):V->Option Int->Option Int->Hp->VK->Prop:=λx lo hi H Q=>∃a xs,x = .ref a/\SqT K H a xs/\(HT.sIx xs.length 0 lo=0/\HT.sIx xs.length xs.length hi=xs.length)/\Q (.ref a) H
theorem UT:SlR X (WZ X.K):=by
 intro pins s σ H x v vl vu lo hi sl Q I rx hs pl pu h;obtain ⟨a,xs,rfl,hx,hw,q⟩:=h
 cases rx
 obtain ⟨its,r,ht,hz⟩:=I.tuple hx;have hlen:its.toArray.size=xs.length:=by rw [List.size_toArray];exact r.length.symm
 exact ⟨"tuple",_,PyProof.Rows.slot_tuple_getitem.lookup,ht.typeIs,F6 ht hs pl pu (by rw [hlen];exact hw) ⟨.ref a,H,I,rfl,q⟩⟩
end
noncomputable def Its (z:Str):It:=⟨λi _=>i < z.cps.size,λi H x H'=>H'=H/\∃c,z.cps[i]?=some c/\x = .str ⟨#[c]⟩,λi _=>i=z.cps.size⟩
theorem LH {P:Program}{w:World}{K:PySem.W.Frag}{tg:Expr}{T:String}{x:Str}{t:Tok}(it:Addr)(hT:["enumerate", "zip", "dict_itemiterator", "dict_reverseitemiterator", "odict_iterator", "itertools.zip_longest", "itertools.pairwise"].contains T=false)
 (W:∀A:Around,A.handled=none->Walks P w A it [it] [it] x.cps.size (SignAt x) (λi h=>h.IsStrIter it T x t i))
 (self:∀(A:Around) (i:Nat) (s:Shared) (Q:Value->Shared->Prop) (E:Value->Shared->Prop),s.heap.IsStrIter it T x t i->Q (.ref it) s->wpAny (model P w) A (pyIter (.ref it)) Q E s) :
 Turn P w K tg (Its x) [it] it (λi h=>h.IsStrIter it T x t i) where
 mem:=by simp
 obj:=λi h st b hb=>by
  have e:b=it:=by simpa using hb
  subst e;obtain ⟨o,e,c,d⟩:=st;exact ⟨o,e,λv z=>by rw [d] at z;cases z⟩
 keep:=λi h h' st k=>by
  obtain ⟨o,e,r⟩:=st;exact ⟨o,k it (by simp) o e,r⟩
 item:=by
  intro X hP hw hK hc i pins s σ H E I hf st hg;subst hP hw hK;obtain ⟨f0,f1,f2,f3,f4,f5⟩:=hf it (by simp);refine (W X.A (I.ok.hd hc)).item i s _ _ hg st λv h' tk hv st' kk=>?_;obtain ⟨c,u,hcc,rfl⟩:=hv;have I1:Inv X pins σ H { s with heap:=h',toks:=tk }:=I.turned (λb o hb e=>kk b o (by simpa using hb) e) f0 f1 f3 f4 f5;obtain ⟨o,e,ec,ed⟩:=id st';exact ⟨_,rfl,J0 (s:={ s with heap:=h',toks:=tk }) e ec ed hT ⟨.str ⟨#[c]⟩,H,I1,⟨u,rfl⟩,⟨rfl,c,hcc,rfl⟩,st',λb hb=>(hf b hb).1⟩⟩
 done:=by
  intro X hP hw hK hc i pins s σ H E I hf st hg;subst hP hw hK;obtain ⟨f0,f1,f2,f3,f4,f5⟩:=hf it (by simp);have hg':i=x.cps.size:=hg;subst hg';exact (W X.A (I.ok.hd hc)).done s _ _ st λh' tk kk=>⟨rfl,I.turned (λb o hb e=>kk b o (by simpa using hb) e) f0 f1 f3 f4 f5⟩
 self:=λA i s Q E st h=>self A i s Q E st h
section
variable {X:Cx}{tg:Expr}{pos:Pos}
def Zw (K:PySem.W.Frag)(tl:TE):TI:=λσ H R=>tl σ H λx H1=>(∃a,x = .ref a/\(∃xs,SqL K H1 a xs)/\R (Itl K a) H1)\/(∃a,x = .ref a/\(∃xs,SqT K H1 a xs)/\R (Itt K a) H1)\/∃z,x = .str z/\R (Its z) H1
theorem Pv {l:Expr}{tl:TE}(hl:PE X l tl):PI X tg l (Zw X.K tl):=by
 intro pins s σ H R I h;refine thn (hl pins s σ H _ I h) λv s1 z9=>?_;obtain ⟨x,H1,I1,r1,q1⟩:=z9;have fp:∀b∈[s1.heap.objs.size],FpOk X pins H1 b:=λb hb=>by
  have e:b=s1.heap.objs.size:=by simpa using hb
  subst e;exact I1.fpOk (Nat.le_refl _) (I1.hok.fresh (Nat.le_refl _))
 rcases q1 with ⟨a,rfl,⟨xs,hq⟩,q⟩ | ⟨a,rfl,⟨xs,hq⟩,q⟩ | ⟨z,rfl,q⟩
 ·cases r1
  obtain ⟨its,rv,p,hz⟩:=I1.list hq;refine wpAny_pyIter_list p.isList ?_;exact ⟨s1.heap.objs.size,[s1.heap.objs.size],_,_,H1,rfl,I1.kept (t':=s1.toks) λb o e=>Heap.get?_push_of_some _ e,P6 a _,⟨_,Heap.get?_push_size _ rfl,rfl,rfl⟩,fp,q⟩
 ·cases r1
  obtain ⟨its,rv,p,hz⟩:=I1.tuple hq;refine wpAny_pyIter_tuple (show s1.heap.IsTuple a its.toArray from p) ?_;exact ⟨s1.heap.objs.size,[s1.heap.objs.size],_,_,H1,rfl,I1.kept (t':=s1.toks) λb o e=>Heap.get?_push_of_some _ e,N4 a _,⟨_,Heap.get?_push_size _ rfl,rfl,rfl⟩,fp,q⟩
 ·obtain ⟨t,rfl⟩:=r1
  cases ha:z.cps.all (· < 128)
  ·refine wpAny_pyIter_wide ha ?_;exact ⟨s1.heap.objs.size,[s1.heap.objs.size],_,_,H1,rfl,I1.kept (t':=s1.toks) λb o e=>Heap.get?_push_of_some _ e,LH (T:="str_iterator") (x:=z) (t:=t) _ (by decide) (λA hA=>Walks.strWide hA _ z t) (λ_ _ _ _ _ st h=>wpAny_pyIter_striter_wide st h),⟨_,Heap.get?_push_size _ rfl,rfl,rfl⟩,fp,q⟩
  ·refine wpAny_pyIter_ascii ha ?_;exact ⟨s1.heap.objs.size,[s1.heap.objs.size],_,_,H1,rfl,I1.kept (t':=s1.toks) λb o e=>Heap.get?_push_of_some _ e,LH (T:="str_ascii_iterator") (x:=z) (t:=t) _ (by decide) (λA hA=>Walks.strAscii hA _ z t) (λ_ _ _ _ _ st h=>wpAny_pyIter_striter_ascii st h),⟨_,Heap.get?_push_size _ rfl,rfl,rfl⟩,fp,q⟩
def SC:R2:=λx y H Q=>∃z k,x = .str z/\y = .int k/\MulOk z k/\Q (.str (Txt.mul z k)) H
theorem Ua:OpR X (binaryOp .Mult) SC:=by
 intro pins s σ H x y v u Q I rx ry h;obtain ⟨z,k,rfl,rfl,hk,q⟩:=h;obtain ⟨t,rfl⟩:=rx;obtain ⟨t',rfl⟩:=ry;exact SB.mul hk λt2 tk=>⟨.str _,H,I.tok tk,⟨t2,rfl⟩,q⟩
def WX:V->Option Int->Option Int->Hp->VK->Prop:=λx lo hi H Q=>∃z,x = .str z/\z.length<=sizeLine/\Q (.str (Txt.slice z lo hi)) H
theorem sl_str:SlR X WX:=by
 intro pins s σ H x v vl vu lo hi sl Q I rx hs pl pu h;obtain ⟨z,rfl,hz,q⟩:=h;obtain ⟨t,rfl⟩:=rx;refine ⟨"str",_,PySem.F.slot_str_getitem.lookup,typeIs_str _ _ _,?_⟩;have part:∀{v:Value} {o:Option Int},IsPart v o->∃l:Option (Int×Tok),v=partValue l/\l.map (·.1)=o:=λ{v o} p=>by
  cases p with
  | none=>exact ⟨none,rfl,rfl⟩
  | int i t=>exact ⟨some (i,t),rfl,rfl⟩
 obtain ⟨l,rfl,el⟩:=part pl;obtain ⟨u,rfl,eu⟩:=part pu;refine wpAny_getItem_str_slice (l:=l) (u:=u) (st:=none) (by obtain ⟨o,h1,h2,h3⟩:=hs;exact ⟨o,h1,h2,h3⟩) rfl ?_;unfold sliceMade slicePicked;rw [el,eu];show (if ((1:Int) == 1 && (Builtin.Str.strSliceIndices lo hi 1 z.length).length == z.length)=true then Made.val (.str z t) else Made.str ⟨((Builtin.Str.strSliceIndices lo hi 1 z.length).filterMap (z.cps[·]?)).toArray⟩).post _ s;have hle:=Txt.slice_le z lo hi;unfold Txt.slice at q hle
 by_cases hc:((1:Int) == 1 && (Builtin.Str.strSliceIndices lo hi 1 z.length).length == z.length)=true
 ·rw [if_pos hc] at q ⊢;exact ⟨.str z,H,I,⟨t,rfl⟩,q⟩
 ·rw [if_neg hc] at q hle ⊢;exact ⟨Nat.le_trans hle hz,.str _,H,I.tok _,⟨_,rfl⟩,q⟩
def FZ (g:Int->Int->Bool)(h:List Nat->List Nat->Bool):R2:=λx y H Q=>(∃i j,x = .int i/\y = .int j/\Q (.bl (g i j)) H)\/∃i j,x = .str i/\y = .str j/\Q (.bl (h i.cps.toList j.cps.toList)) H
theorem Wq:OpR X (compareOp .Lt) (FZ (λi j=>decide (i < j)) λi j=>decide (i < j)):=op_lt.or λpins s σ H x y v u Q I rx ry h=>by
 obtain ⟨i,j,rfl,rfl,q⟩:=h;obtain ⟨t,rfl⟩:=rx;obtain ⟨t',rfl⟩:=ry;exact P.lt_str ⟨.bl _,H,I,rfl,q⟩
theorem Lb:OpR X (compareOp .LtE) (FZ (λi j=>decide (i<=j)) λi j=>!(decide (j < i))):=op_le.or λpins s σ H x y v u Q I rx ry h=>by
 obtain ⟨i,j,rfl,rfl,q⟩:=h;obtain ⟨t,rfl⟩:=rx;obtain ⟨t',rfl⟩:=ry;exact P.le_str ⟨.bl _,H,I,rfl,q⟩
theorem Pp:OpR X (compareOp .Gt) (FZ (λi j=>decide (j < i)) λi j=>decide (j < i)):=op_gt.or λpins s σ H x y v u Q I rx ry h=>by
 obtain ⟨i,j,rfl,rfl,q⟩:=h;obtain ⟨t,rfl⟩:=rx;obtain ⟨t',rfl⟩:=ry;exact P.gt_str ⟨.bl _,H,I,rfl,q⟩
theorem Po:OpR X (compareOp .GtE) (FZ (λi j=>decide (j<=i)) λi j=>!(decide (i < j))):=op_ge.or λpins s σ H x y v u Q I rx ry h=>by
 obtain ⟨i,j,rfl,rfl,q⟩:=h;obtain ⟨t,rfl⟩:=rx;obtain ⟨t',rfl⟩:=ry;exact P.ge_str ⟨.bl _,H,I,rfl,q⟩
end
end L2
namespace F2
open PySem L2 PySem.Spec
def Dm:D->M (List D)
 | .lst ds=>ret ds
 | .scr ns=>ret (ns.map .int)
 | .tup ds=>ret ds
 | .str x=>ret (x.cps.toList.map λc=>.str ⟨#[c]⟩)
 | _=>fail
def Dt (f:M D):M (List D):=bnd f Dm
def Ex:D->D->M D
 | .str x,.int k=>λt=>if BE k=true/\x.length * k.toNat<=LIM/\k<=LIM/\x.length<=LIM then some (.str (Txt.mul x k),t) else none
 | x,y=>Q8 x y
def Dk:D->Option Int->Option Int->M D
 | .str x,lo,hi=>lim x.length (.str (Txt.slice x lo hi))
 | .tup ds,lo,hi=>ret (.tup (BZ ds lo hi))
 | x,lo,hi=>slD x lo hi
def Kz (g:Int->Int->Bool)(h:List Nat->List Nat->Bool):D->D->M D
 | .int i,.int j=>ret (.bl (g i j))
 | .str x,.str y=>ret (.bl (h x.cps.toList y.cps.toList))
 | _,_=>fail
def ltA:=Kz (λi j=>decide (i < j)) (λi j=>decide (i < j))
def leA:=Kz (λi j=>decide (i<=j)) (λi j=>!(decide (j < i)))
def gtA:=Kz (λi j=>decide (j < i)) (λi j=>decide (j < i))
def geA:=Kz (λi j=>decide (j<=i)) (λi j=>!(decide (i < j)))
def unS (n:Nat)(g:List D->M Unit):D->M Unit
 | .tup ds=>if ds.length=n then g ds else fail
 | .lst ds=>if ds.length=n then g ds else fail
 | _=>fail
def Zp:M D:=fC .dic
def B4 (i:Nat)(g:M D)(d:D):M Unit:=λt=>match t.env[i]? with
 | some (some (.own _))=>bnd g (λj t1=>match j,t1.env[i]? with
   | .int j,some (some (.own xs))=>(ixN xs.length j).map λn=>((),{ t1 with env:=t1.env.set i (some (.own (xs.set n d))) })
   | _,_=>none) t
 | _=>none
variable {tg:Expr}{K:PySem.W.Frag}{n:Nat}{g:List D->M Unit}{es:List Expr}
section
variable {X:Cx}{e a b:Expr}{pos:Pos}{st:Stmt}
theorem ItOk.str {K:PySem.W.Frag}{c:Cf}{H:Hp}{x:Str}:ItOk K (Its x) c H (x.cps.toList.map λc=>.str ⟨#[c]⟩):=by
 refine ⟨λc' H' i ex hi=>?_,λc' H' i y H'' d ex hd hy=>?_,λc' H' ex=>?_⟩
 ·show i < x.cps.size;simpa using hi
 ·obtain ⟨rfl,n,hn,rfl⟩:=hy;refine ⟨rfl,?_⟩;have:d = .str ⟨#[n]⟩:=by
   rw [List.getElem?_map] at hd;have hn':x.cps.toList[i]?=some n:=by simpa using hn
   rw [hn'] at hd;simpa using hd.symm
  rw [this];exact .str _
 ·show _=x.cps.size;simp
theorem VO {f:M D}(h:PE X e (RE X.K f)):PI X tg e (RI X.K (Dt f)):=
 HN (Pv h) λσ H R z9=>by
  obtain ⟨Oo,c,t,fi,ds,t',eq,k⟩:=z9;obtain ⟨d,t1,e1,eq⟩:=Ag eq;refine ⟨Oo,c,t,fi,d,t1,e1,λv H1 c1 f1 s1 rv=>?_⟩
  cases rv with
  | @lst p vs ds' h1 h2 h3=>
    cases eq
    exact .inl ⟨p,rfl,⟨vs,SqL.of h1⟩,k _ H1 c1 f1 s1 (ItOk.lst λc' H' ex=>⟨vs,SqL.of (ex.keep _ _ h1 h2),h3.mono ex⟩)⟩
  | @scr p ns h1=>
    cases eq
    exact .inl ⟨p,rfl,⟨_,h1.sq⟩,k _ H1 c1 f1 s1 (ItOk.lst λc' H' ex=>⟨_,(h1.mono ex).sq,Reps.ints ns⟩)⟩
  | @tup p vs ds' h1 h2 h3=>
    cases eq
    exact .inr (.inl ⟨p,rfl,⟨vs,SqT.of h1⟩,k _ H1 c1 f1 s1 (ItOk.tup λc' H' ex=>⟨vs,SqT.of (ex.keep _ _ h1 h2),h3.mono ex⟩)⟩)
  | str x=>
    cases eq
    exact .inr (.inr ⟨x,rfl,k _ H1 c1 f1 s1 ItOk.str⟩)
  | _=>cases eq
theorem RG.un {v:V}{σ:L2.St}{H:Hp}{Q:L2.St->Hp->Prop}(q:RG K (unS n g) v σ H Q):gUn K n (RGs K g) v σ H Q:=by
 obtain ⟨Oo,c,t,d,fi,rv,t',eq,k⟩:=q
 cases rv with
 | @tup a vs ds h1 h2 h3=>
   unfold unS at eq
   by_cases hn:ds.length=n
   ·dsimp only at eq;rw [if_pos hn] at eq;exact ⟨a,vs,rfl,.inl (SqT.of h1),by rw [h3.length];exact hn,Oo,c,t,ds,fi,h3,t',eq,k⟩
   ·dsimp only at eq;rw [if_neg hn] at eq;cases eq
 | @lst a vs ds h1 h2 h3=>
   unfold unS at eq
   by_cases hn:ds.length=n
   ·dsimp only at eq;rw [if_pos hn] at eq;exact ⟨a,vs,rfl,.inr (SqL.of h1),by rw [h3.length];exact hn,Oo,c,t,ds,fi,h3,t',eq,k⟩
   ·dsimp only at eq;rw [if_neg hn] at eq;cases eq
 | _=>cases eq
theorem XR {k:Nat}(hc:X.calm=true)(h:PGs X es (RGs X.K g))(hn:(assignEach es X.env).length=n:=by rfl)(hst:(assignEach es X.env).findIdx? (·.1)=none:=by rfl):PG X (.Tuple es k pos) (RG X.K (unS n g)):=
 F8 (X7 hc h hn hst) λ_ _ _ _ q=>RG.un q
theorem QF {f:D->M Unit}(h1:PG X e (RG X.K f))(h2:PGs X es (RGs X.K g))(hs:(assignEach (e :: es) X.env).map (·.2)=assign e X.env :: (assignEach es X.env).map (·.2):=by rfl):PGs X (e :: es) (RGs X.K (Ar f g)):=
 LX (Rl h1 h2 hs) λ_ _ _ _ q=>RGs.cons q
theorem Gj (i:Nat){x:Str}{ix:Expr}{g:M D}{px:Pos}(hi:PE X ix (RE X.K g))(hN:X.N[i]?=some x:=by rfl)(hv:Vis X.env.scope x:=by walk_at "h")(hd:(x == ("__debug__" : Str))=false:=by decide)
 (hcd:(x == ("__classdict__" : Str))=false:=by decide)
 (ha:∀v,assign (.Subscript (.Name x px) ix pos) X.env v=(do
   let ov <-holding [v] (eval (.Name x px) X.env)
   let iv <-holding [v,ov] (eval ix X.env)
   standAt pos
   holding [v,ov,iv] (setItem ov iv v)
   release [v,ov,iv] []):=by intro _;rfl):PG X (.Subscript (.Name x px) ix pos) (RG X.K (B4 i g)):=
 F8 (Ld (B2 hN hv hd hcd) hi Lx ha) λv σ H Q z9=>by
  obtain ⟨Oo,c,t,d,fi,rv,t',eq,k⟩:=z9;unfold B4 at eq
  split at eq
  ·next xs0 e0=>
   obtain ⟨j,t1,e1,eq⟩:=Ag eq;obtain ⟨a,vs0,h1,h2,h3,h4,h5⟩:=fi.own i xs0 e0;refine ⟨.ref a,h1,Oo,c,t,fi,j,t1,e1,λy H1 c1 f1 s1 ry=>?_⟩
   split at eq
   ·next j' xs ex=>
    obtain ⟨n,en,ez⟩:=Option.map_eq_some_iff.mp eq
    cases ez
    cases ry
    obtain ⟨a',vs,g1,g2,g3,g4,g5⟩:=f1.own i xs ex;rw [h1] at g1;injection g1 with g1;injection g1 with g1;injection g1 with g1;subst g1
    refine ⟨a,vs,j',n,rfl,rfl,g4,by rw [g5.length];exact en,?_⟩;obtain ⟨f2,s2⟩:=f1.wrOwn ex h1 (Reps.set (rv.mono s1.ext) n g5);exact k σ _ c1 f2 (s1.trans s2)
   ·cases eq
  ·cases eq
end
variable {x:Str}
section
variable {K:PySem.W.Frag}
def SA (K:PySem.W.Frag):R2:=λx y H Q=>NX K x y H Q\/SC x y H Q
theorem T9 {X:Cx}:OpR X (binaryOp .Mult) (SA X.K):=op_mul3.or Ua
theorem LU {k:Int}(h:BE k=true/\x.length * k.toNat<=LIM/\k<=LIM/\x.length<=LIM):MulOk x k:=by
 obtain ⟨g1,g2⟩:=Em h.1;have hL:LIM=100000:=rfl;refine ⟨?_,λh1 _=>?_,λh1 _=>?_⟩
 ·rw [Bool.or_eq_false_iff];exact ⟨decide_eq_false (by lia),decide_eq_false (by lia)⟩
 ·have h2:k<=100000:=by have:=h.2.2.1;rw [hL] at this;exact this
  have h3:x.length<=100000:=by have:=h.2.2.2;rw [hL] at this;exact this
  have h4:(92233720368547:Int)<=(2 ^ 63 - 1) / k:=by
   rw [Int.le_ediv_iff_mul_le (by lia)];lia
  lia
 ·have h5:=h.2.1;rw [hL] at h5;unfold Builtin.Str.tooLong
  first | exact decide_eq_false (by unfold sizeLine;lia) | (unfold sizeLine;exact decide_eq_false (by lia))
theorem RL:AZ K (SA K) Ex:=λ{Oo c t σ H x y dx dy r t' Q} f rx ry eq k=>by
 unfold Ex at eq
 split at eq
 ·next z kk=>
  split at eq
  ·next h=>
   cases eq
   cases rx
   cases ry
   exact .inr ⟨z,kk,rfl,rfl,LU h,k _ H c f .refl (.str _)⟩
  ·cases eq
 ·exact .inl (UI f rx ry eq k)
def Ru (K:PySem.W.Frag):V->Option Int->Option Int->Hp->VK->Prop:=λx lo hi H Q=>Rt K x lo hi H Q\/(WX x lo hi H Q\/WZ K x lo hi H Q)
theorem sl3 {X:Cx}:SlR X (Ru X.K):=sl2.or (sl_str.or UT)
theorem Nm {α:Type}{xs:List α}{lo hi:Option Int}(h:HT.sIx xs.length 0 lo=0/\HT.sIx xs.length xs.length hi=xs.length):BZ xs lo hi=xs:=by
 unfold BZ;rw [h.1,h.2];simp
theorem MP:M8 K (Ru K) Dk:=λ{Oo c t σ H x dx r lo hi t' Q} f rx eq k=>by
 unfold Dk at eq
 split at eq
 ·next z=>
  obtain ⟨h,e⟩:=Dv eq
  cases e
  cases rx
  exact .inr (.inl ⟨z,rfl,Nat.le_trans h CA,k _ H c f .refl (.str _)⟩)
 ·next ds=>
  cases eq
  cases rx with
  | @tup p vs ds h1 h2 h3=>
    by_cases hw:HT.sIx ds.length 0 lo=0/\HT.sIx ds.length ds.length hi=ds.length
    ·rw [Nm hw] at k;exact .inr (.inr ⟨p,vs,rfl,SqT.of h1,by rw [h3.length];exact hw,k _ H c f .refl (.tup h1 h2 h3)⟩)
    ·exact .inl (.inr ⟨p,vs,rfl,SqT.of h1,by rw [h3.length];exact hw,λq hq=>k _ _ c (f.laid hq) (f.stp_laid hq) (.tup Aj (f.s.free hq) ((F0 h3 lo hi).mono (Ext.laid f.s hq)))⟩)
 ·exact .inl (W8 f rx eq k)
theorem GY {g:Int->Int->Bool}{h:List Nat->List Nat->Bool}:AZ K (FZ g h) (Kz g h):=λ{Oo c t σ H x y dx dy r t' Q} f rx ry eq k=>by
 cases rx with
 | int i=>cases ry with
   | int j=>cases eq;exact .inl ⟨i,j,rfl,rfl,k _ H c f .refl (.bl _)⟩
   | _=>cases eq
 | str i=>cases ry with
   | str j=>cases eq;exact .inr ⟨i,j,rfl,rfl,k _ H c f .refl (.bl _)⟩
   | _=>cases eq
 | _=>cases eq
theorem UF:AZ K (FZ (λi j=>decide (i < j)) λi j=>decide (i < j)) ltA:=GY
theorem Jo:AZ K (FZ (λi j=>decide (i<=j)) λi j=>!(decide (j < i))) leA:=GY
theorem MO:AZ K (FZ (λi j=>decide (j < i)) λi j=>decide (j < i)) gtA:=GY
theorem MN:AZ K (FZ (λi j=>decide (j<=i)) λi j=>!(decide (i < j))) geA:=GY
end
variable {fa:Addr}{fd:FuncData}
theorem VQ {P:Program}{w:World}{mg:Str->Option Value}{base:Heap}{qual:Str}{st:Stmt}{N ps:List Str}{k m:Nat}{g:M Out}(e1:ps.length=n)(e2:N.length=m)(F:Fun K x qual st fa fd)(S:FnScope N ps (Ao st))
 (hb:∀(cdv:Value) (A:Around) (outer:List Env) (s:Shared) (H:Hp) (E:XK),Room k (A.deeper (PyProof.Rows.envOfC qual (Ao st) s.heap.objs.size fa cdv))->
   PSs (Dh CX0 P w K mg base N qual (Ao st) fa cdv A outer s H E).nox (Bj st) (RS K g)):FnOk P w K mg base CX0 (k + 1) fa fd ps (spF K (fnOf n m g)):=by
 subst e1 e2;exact XU F S hb
theorem W4 {P:Program}{w:World}{mg:Str->Option Value}{base:Heap}{ps:List Str}{k:Nat}{f g:Fn}(e:f=g)(h:FnOk P w K mg base CX0 k fa fd ps (spF K g)):FnOk P w K mg base CX0 k fa fd ps (spF K f):=by rw [e];exact h
theorem Os:bootBuiltins "len" = some (.builtin "len"):=by decide +kernel
theorem Vp:bootBuiltins "ord" = some (.builtin "ord"):=by decide +kernel
theorem Vo:bootBuiltins "min" = some (.builtin "min"):=by decide +kernel
theorem Vn:bootBuiltins "int" = some (.type "int"):=by decide +kernel
theorem SO:bootBuiltins "list" = some (.type "list"):=by decide +kernel
theorem Qn:bootBuiltins "tuple" = some (.type "tuple"):=by decide +kernel
noncomputable def A1:Expr->Bool
 | .Starred _ _=>true
 | _=>false
theorem AX {e:Expr}{env:Env}(h:A1 e=false):starEach (e :: es) env=(false,eval e env) :: starEach es env:=by
 cases e <;> first | rfl | cases h
def AU (es:List Expr):Bool:=es.all λe=>!A1 e
theorem AK:∀{es:List Expr} {env:Env} {p:Pos},AU es=true->(backTo p (starEach es env)).any (·.1)=false/\(backTo p (starEach es env)).all (λx=>!x.1)=true
 | [],env,p,_=>⟨rfl,rfl⟩
 | e :: es,env,p,h=>by
   have h':A1 e=false/\AU es=true:=by
    rw [AU,List.all_cons,Bool.and_eq_true] at h;exact ⟨by simpa using h.1,h.2⟩
   obtain ⟨h1,h2⟩:=AK (es:=es) (env:=env) (p:=p) h'.2;rw [AX h'.1];refine ⟨?_,?_⟩
   ·show (false || (backTo p (starEach es env)).any (·.1))=false;rw [h1];rfl
   ·show (!false && (backTo p (starEach es env)).all (λx=>!x.1))=true;rw [h2];rfl
variable {f:M (List D)}{p:Pos}{id:String}{R:List V->Hp->VK->Prop}
section
variable {X:Cx}{e a b:Expr}{es:List Expr}{pos:Pos}
theorem Qx {f:M D}{g:M (List D)}(ha:PE X e (RE X.K f))(hr:PA X es (RA X.K g))(hs:A1 e=false:=by rfl):PA X (e :: es) (RA X.K (Aa f g)):=SW ha hr (AX hs)
theorem Qy {k:Nat}{ps:List Str}{g:Fn}(F:FnOk X.prog X.w X.K X.mg X.base CX0 k fa fd ps (spF X.K g))(hr:Room k X.A)(hg:Gl X x)(hm:X.mg x=some (.ref fa))(hk:PySem.W.keepIn X.K (.ref fa)=true)(hb:Binds X.K fd ps [])
 (ha:PA X (e :: es) (RA X.K f)) (hdb:(x == ("__debug__" : Str))=false:=by decide) (h1:A1 e=false:=by rfl) (h2:AU es=true:=by rfl) :
 PE X (.Call (.Name x p) (e :: es) [] pos) (RE X.K (Af g f)):=SY F hr hg hm hk hb ha hdb (AX h1) (AK h2).1
theorem Nq {h:List D->M D}(hc:Cn X (.builtin id) R)(s:Fj X.K R h)(hg:Gl X x)(hm:X.mg x=none)(hv:bootBuiltins x=some (.builtin id))(ha:PA X (e :: es) (RA X.K f))(hn:x≠"__name__":=by decide)(hdb:(x == ("__debug__" : Str))=false:=by decide)
 (h1:A1 e=false:=by rfl) (h2:AU es=true:=by rfl):PE X (.Call (.Name x p) (e :: es) [] pos) (RE X.K (fB f h)):=Zq hc s hg hm hv ha hn hdb (AX h1) (AK h2).1
theorem Si {h:List D->M D}(hc:Cn X (.type id) R)(s:Fj X.K R h)(hg:Gl X x)(hm:X.mg x=none)(hv:bootBuiltins x=some (.type id))(ha:PA X (e :: es) (RA X.K f))(hn:x≠"__name__":=by decide)(hdb:(x == ("__debug__" : Str))=false:=by decide)
 (h1:A1 e=false:=by rfl) (h2:AU es=true:=by rfl):PE X (.Call (.Name x p) (e :: es) [] pos) (RE X.K (fB f h)):=Zr hc s hg hm hv ha hn hdb (AX h1) (AK h2).1
theorem XQ {h:List D->M (List D)}(hc:Cn X (.type id) R)(s:JW X.K R h)(hg:Gl X x)(hm:X.mg x=none)(hv:bootBuiltins x=some (.type id))(ha:PA X (e :: es) (RA X.K f))(hn:x≠"__name__":=by decide)(hdb:(x == ("__debug__" : Str))=false:=by decide)
 (h1:A1 e=false:=by rfl) (h2:AU es=true:=by rfl):PE X (.Call (.Name x p) (e :: es) [] pos) (RF X.K (fBF f h)):=Zs hc s hg hm hv ha hn hdb (AX h1) (AK h2).1
theorem Nr (hg:Gl X "range")(hm:X.mg "range" = none)(ha:PA X [a] (RA X.K f))(h1:A1 a=false:=by rfl):PI X tg (.Call (.Name "range" p) [a] [] pos) (RI X.K (Bm f)):=OK hg hm ha (AX h1)
theorem Nt (hg:Gl X "range")(hm:X.mg "range" = none)(ha:PA X [a,b] (RA X.K f))(h1:A1 a=false:=by rfl)(h2:A1 b=false:=by rfl):PI X tg (.Call (.Name "range" p) [a,b] [] pos) (RI X.K (FO f)):=
 OL hg hm ha (by rw [AX h1,AX h2];rfl) (AX h2)
theorem VJ {cpos:Pos}(h1:A1 e=false)(h2:AU es=true)(h3:es.length < 20):((backTo cpos (starEach (e :: es) X.env)).all (λx=>!x.1) && (backToKw cpos (keywordEach [] X.env)).all (λx=>x.1.isSome) && decide ((e :: es).length + ([]:List Keyword).length + (if ([]:List Keyword).isEmpty then 0 else 1) < 30))=true:=by
 rw [(AK (es:=e :: es) (env:=X.env) (p:=cpos) (by rw [AU,List.all_cons,h1];exact h2)).2];show (true && true && decide (es.length + 1 + 0 + 0 < 30))=true;simp;lia
theorem Nw {μ:Cf->Hp->D->(V->Hp->Prop)->Prop}(i:Nat){x:Str}{g:M (List D)}{px apos cpos:Pos}(ha:PA X (e :: es) (RA X.K g))(hN:X.N[i]?=some x:=by rfl)(hv:Vis X.env.scope x:=by walk_at "h")(hd:(x == ("__debug__" : Str))=false:=by decide)
 (hcd:(x == ("__classdict__" : Str))=false:=by decide) (hline:(apos.endLine == cpos.line)=true:=by rfl) (h1:A1 e=false:=by rfl) (h2:AU es=true:=by rfl) (h3:es.length < 20:=by decide) :
 PS X (.Expr (.Call (.Attribute (.Name x px) "append" apos) (e :: es) [] cpos) pos) (RSg X.K μ (ownM i BR g)):=OM i ha hN hv hd hcd rfl (VJ h1 h2 h3) hline (AX h1) (AK h2).1
end
end F2
namespace HT
open PySem PySem.Spec L2 PyProof.Rows
section
variable {prog:Program}{w:World}{A:Around}{E:Value->Shared->Prop}{s:Shared}
theorem HF {sl:Addr}{n:Nat}{u:Tok}{Q:Int×Int×Nat->Shared->Prop}(hs:s.heap.IsSliceOf sl .none .none (.int (-1) u))(h:Q ((n:Int) - 1,-1,n) s):wpAny (model prog w) A (Builtin.Slice.sliceApplied (.ref sl) (pure (n:Int))) Q E s:=by
 obtain ⟨os,hos,hcs,hds⟩:=id hs;unfold Builtin.Slice.sliceApplied Builtin.Slice.sliceFields;refine wpAny_bind (wpAny_bind (wpAny_field hos hds (x:=.none) rfl (wpAny_bind (wpAny_field hos hds (x:=.none) rfl (wpAny_bind (wpAny_field hos hds (x:=.int (-1) u) rfl (wpAny_pure ?_)))))));refine wpAny_bind (slicePart_int ?_);show wpAny _ _ (if ((-1:Int) == 0)=true then _ else _) _ _ s;rw [if_neg (by decide)];refine wpAny_bind (slicePart_none (wpAny_bind (slicePart_none (wpAny_bind (wpAny_pure ?_)))));have ea:Builtin.Slice.sliceAdjust none none (-1) (n:Int)=((n:Int) - 1,-1):=by
  unfold Builtin.Slice.sliceAdjust;simp
 have ep:Builtin.Slice.slicePlaces ((n:Int) - 1) (-1) (-1)=n:=by
  unfold Builtin.Slice.slicePlaces;simp
  try lia
 show wpAny _ _ (match Builtin.Slice.sliceAdjust none none (-1) (n:Int) with | (lo,hi)=>pure (lo,(-1:Int),Builtin.Slice.slicePlaces lo hi (-1))) _ _ s;rw [ea];show wpAny _ _ (pure ((n:Int) - 1,(-1:Int),Builtin.Slice.slicePlaces ((n:Int) - 1) (-1) (-1))) _ _ s;rw [ep];exact wpAny_pure h
theorem Rn (xs:Array Value):((List.range xs.size).filterMap λ(m:Nat)=>xs[(((xs.size:Int) - 1) + (m:Int) * (-1)).toNat]?).toArray=xs.toList.reverse.toArray:=by
 congr 1
 apply List.ext_getElem?;intro i;have e:(List.range xs.size).filterMap (λ(m:Nat)=>xs[(((xs.size:Int) - 1) + (m:Int) * (-1)).toNat]?)=xs.toList.reverse:=by
  have e1:(List.range xs.size).filterMap (λ(m:Nat)=>xs[(((xs.size:Int) - 1) + (m:Int) * (-1)).toNat]?)=((List.range xs.size).map (λk=>xs.size - 1 - k)).filterMap (xs[·]?):=by
   rw [List.filterMap_map]
   congr 1
   funext m
   have:(((xs.size:Int) - 1) + (m:Int) * (-1)).toNat=xs.size - 1 - m:=by lia
   simp only [this,Function.comp]
  have e2:(List.range xs.size).map (λk=>xs.size - 1 - k)=(List.range xs.size).reverse:=by
   apply List.ext_getElem
   ·simp
   ·intro i h1 h2;simp
  have e3:(List.range xs.size).filterMap (xs[·]?)=xs.toList:=by
   have:=pick_run xs 0 xs.size;rw [List.drop_zero,List.take_of_length_le (by simp)] at this;simpa using this
  rw [e1,e2,List.filterMap_reverse,e3]
 rw [e]
theorem Hd {t sl:Addr}{items:Array Value}{u:Tok}{Q:Value->Shared->Prop}(ht:IsTup s.heap t items)(hs:s.heap.IsSliceOf sl .none .none (.int (-1) u))
 (h:Q (.ref s.heap.objs.size) { s with heap:=s.heap.push { cls:=.type "tuple",data:=.seq items.toList.reverse.toArray } })
 (hsz:items.size<=sizeLine):wpAny (model prog w) A (getItem (.ref t) (.ref sl)) Q E s:=by
 have htake:sizeOk (.seq items.toList.reverse.toArray):=by
  show items.toList.reverse.toArray.size<=sizeLine;rw [List.size_toArray,List.length_reverse,Array.length_toList];exact hsz
 obtain ⟨os,hos,hcs,hds⟩:=id hs;have hTs:s.TypeIs (.ref sl) "slice":=⟨os,hos,hcs⟩;unfold getItem
 try with_reducible refine wpAny_holding ?_
 first | refine wpAny_bind (wpAny_pure ?_) | skip
 refine wpAny_bind (wpAny_sequenceKey ht.typeIs (by decide) ?_);refine wpAny_bind (wpAny_callSpecial?_slot (name:=Str.ofString "__getitem__") ht.typeIs PyProof.Rows.slot_tuple_getitem
  (wpAny_call_entry PyProof.Rows.slot_tuple_getitem ht.typeIs entry_tuple_getitem ?_ (args_tuple_getitem _ _)))
 show wpAny _ _ (Builtin.Tuple.tupleItemsOf (.ref t) >>= _) _ _ s;refine wpAny_bind (tupleItemsOf_ ht ?_);refine wpAny_bind (wpAny_typeOf hTs ?_);rw [if_pos (by decide)];refine wpAny_bind (HF hs ?_);have hno:¬((((items.size:Int) - 1) == 0 && (-1:Int) == 1 && items.size == items.size)=true):=by
  simp
 show wpAny _ _ (if (((items.size:Int) - 1) == 0 && (-1:Int) == 1 && items.size == items.size)=true then _ else _) _ _ s;rw [if_neg hno,Rn]
 first
  | exact wpAny_bind (m:=Builtin.Tuple.tupleExact _) (wpAny_newObj_type (wpAny_pure ⟨_,rfl,wpAny_pure h⟩) htake)
  | exact wpAny_bind (m:=Builtin.Tuple.tupleExact _) (wpAny_newObj_type (wpAny_bind (wpAny_pure (wpAny_pure ⟨_,rfl,wpAny_pure h⟩))) htake)
  | exact wpAny_bind (wpAny_bind (m:=Builtin.Tuple.tupleExact _) (wpAny_newObj_type (wpAny_pure (wpAny_pure ⟨_,rfl,wpAny_pure h⟩)) htake))
  | exact wpAny_bind (wpAny_bind (m:=Builtin.Tuple.tupleExact _) (wpAny_newObj_type (wpAny_pure ⟨_,rfl,wpAny_pure h⟩) htake))
end
end HT
namespace L2
open PySem PySem.Spec PyProof.Rows
section
variable {X:Cx}{e ek:Expr}{p2 pos:Pos}{te:TE}{tk:TO}
def ZB (K:PySem.W.Frag):V->Hp->VK->Prop:=λx H Q=>∃a xs,x = .ref a/\SqT K H a xs/\∀p,H p=none->Q (.ref p) (upd H p (.tup xs.reverse))
theorem Vals.rev {xs:List V}{us:List Value}(r:Vals xs us):Vals xs.reverse us.reverse:=by
 induction r with
 | nil=>exact .nil
 | cons r1 _ ih=>rw [List.reverse_cons,List.reverse_cons];exact ih.append (.cons r1 .nil)
theorem WF (he:PE X e te)(hk:PO X (some ek) tk):PE X (.Subscript e (.Slice none none (some ek) p2) pos) (λσ H Q=>te σ H λx H1=>tk σ H1 λo H2=>o=some (-1)/\ZB X.K x H2 Q):=by
 intro pins s σ H Q I h;refine Subscript_ (thn (he pins s σ H _ I h) λv s1 z9=>?_);obtain ⟨x,H1,I1,r1,q1⟩:=z9;refine wpAny_Slice ?_;rw [evalPart_none];refine wpAny_pure ?_;refine wpAny_pure ?_;refine thn (hk pins s1 σ H1 _ I1 q1) λvk s2 z9=>?_;obtain ⟨k,H2,I2,pk,q2⟩:=z9;obtain ⟨rfl,a,xs,rfl,hx,q⟩:=q2
 cases r1
 cases pk with
 | int _ t=>
   have I4:Inv X pins σ H2 { s2 with heap:=s2.heap.push { cls:=.type "slice",data:=.fields #[.none,.none,.int (-1) t] } }:=I2.kept (t':=s2.toks) λb ob q=>Heap.get?_push_of_some _ q;obtain ⟨its,r,ht,hz⟩:=I4.tuple hx;have hlen:its.toArray.size=xs.length:=by rw [List.size_toArray];exact r.length.symm
   show wpAny (model X.prog X.w) X.A (subscriptTail e (.Slice none none (some ek) p2) (.ref a) (.ref s2.heap.objs.size)) (EP X pins σ Q) X.xe { s2 with heap:=s2.heap.push { cls:=.type "slice",data:=.fields #[.none,.none,.int (-1) t] } };refine tail_any (T:="tuple") (ops:=[.ref a,.ref s2.heap.objs.size]) ht.typeIs PyProof.Rows.slot_tuple_getitem.lookup ?_ (by with_unfolding_all rfl);refine HT.Hd ht (Heap.IsSliceOf.new ..) ?_ (by rw [hlen];exact hz);refine ⟨.ref _,_,I4.laid (t':=s2.toks) (o:=.tup xs.reverse) (λb ob q=>Heap.get?_push_of_some _ q) (Nat.le_refl _) ?_,rfl,q _ (I4.hok.fresh (Nat.le_refl _))⟩;exact ⟨by rw [List.length_reverse];exact hz,_,r.rev,IsTup.new _ _⟩
end
section
variable {X:Cx}
theorem Ge:∀{ys:List Str} {us:List Value},Vals (ys.map V.str) us->CarriedAll us (ys.map PyData.str)
 | [],_,r=>by cases r;exact .nil
 | _ :: _,_,r=>by
   cases r with
   | cons r1 r2=>obtain ⟨t,rfl⟩:=r1;exact .cons (.str _ _) (Ge r2)
def Sz (K:PySem.W.Frag):V->List V->Hp->VK->Prop:=λx xs H Q=>∃z a ys,x = .str z/\xs=[.ref a]/\SqL K H a (ys.map V.str)/\(∀y∈ys,y.length<=8)/\z.length<=8/\ys.length<=1048576/\Q (.str (Txt.join z ys)) H
theorem TV:MtR X "str.join" (Sz X.K):=by
 intro pins s σ H x xs v us Q I rx rs h;obtain ⟨z,a,ys,rfl,rfl,ha,h1,h2,h3,q⟩:=h;obtain ⟨t,rfl⟩:=rx;obtain ⟨u,rfl,ru⟩:=EI rs
 cases ru
 obtain ⟨its,r,pl,_⟩:=I.list ha;refine join_madeW (l:=ys) (g:=id) 8 pl.isList (by rw [List.map_id];exact Ge r) h1 h3 (by lia) λt' k=>?_;rw [List.map_id];exact ⟨.str _,H,I.tok _,⟨_,rfl⟩,q⟩
end
section
variable {X:Cx}
end
section
variable {X:Cx}
end
end L2
namespace F2
open PySem L2 PySem.Spec
section
variable {X:Cx}{K:PySem.W.Frag}
def Rz:D->M D
 | .tup ds=>ret (.tup ds.reverse)
 | _=>fail
def No (f:M D)(g:M (Option Int)):M D:=bnd f λx=>bnd g λo=>if o=some (-1) then Rz x else fail
theorem Reps.rev {c:Cf}{H:Hp}:∀{ds:List D} {vs:List V},Reps K c H vs ds->Reps K c H vs.reverse ds.reverse
 | [],_,r=>by cases r;exact .nil
 | _ :: _,_,r=>by
   cases r with
   | cons r1 r2=>rw [List.reverse_cons,List.reverse_cons];exact (Reps.rev r2).append (.cons r1 .nil)
theorem VF {e ek:Expr}{p2 pos:Pos}{f:M D}{g:M (Option Int)}(he:PE X e (RE X.K f))(hk:PO X (some ek) (RO X.K g)):PE X (.Subscript e (.Slice none none (some ek) p2) pos) (RE X.K (No f g)):=
 AD (WF he hk) λσ H Q z9=>by
  obtain ⟨Oo,c,t,fi,r,t',eq,k⟩:=z9;obtain ⟨d,t1,e1,eq⟩:=Ag eq;obtain ⟨o,t2,e2,eq⟩:=Ag eq;refine ⟨Oo,c,t,fi,d,t1,e1,λv H1 c1 f1 s1 rv=>⟨Oo,c1,t1,f1,o,t2,e2,λH2 c2 f2 s2=>?_⟩⟩
  by_cases ho:o=some (-1)
  ·rw [if_pos ho] at eq;have rv':=rv.mono s2.ext;refine ⟨ho,?_⟩
   cases rv' with
   | @tup p vs ds h1 h2 h3=>
     cases eq
     exact ⟨p,vs,rfl,SqT.of h1,λq hq=>k _ _ c2 (f2.laid hq) ((s1.trans s2).trans (f2.stp_laid hq)) (.tup Aj (f2.s.free hq) (h3.rev.mono (Ext.laid f2.s hq)))⟩
   | _=>cases eq
  ·rw [if_neg ho] at eq;cases eq
noncomputable def E9:List D->Option (List Str)
 | []=>some []
 | .str x :: r=>if x.length<=8 then (E9 r).map (x :: ·) else none
 | _=>none
def joinM (f:M D)(g:M (List D)):M D:=bnd f λo=>bnd g λas=>match o,as with
 | .str z,[.lst ds]=>λt=>match E9 ds with
   | some ys=>if z.length<=8/\ys.length<=1048576 then some (.str (Txt.join z ys),t) else none
   | none=>none
 | _,_=>fail
theorem LD {c:Cf}{H:Hp}:∀{ds:List D} {vs:List V} {ys:List Str},Reps K c H vs ds->E9 ds=some ys->vs=ys.map V.str/\∀y∈ys,y.length<=8
 | [],_,ys,r,e=>by
   cases r
   cases e
   exact ⟨rfl,λ_ h=>nomatch h⟩
 | d :: ds,_,ys,r,e=>by
   cases r with
   | cons r1 r2=>
     cases r1 with
     | str x=>
       unfold E9 at e
       split at e
       ·next hx=>
        obtain ⟨zs,e1,rfl⟩:=Option.map_eq_some_iff.mp e;obtain ⟨h1,h2⟩:=LD r2 e1;refine ⟨by rw [h1];rfl,λy hy=>?_⟩;rcases List.mem_cons.mp hy with rfl | hy
        ·exact hx
        ·exact h2 y hy
       ·cases e
     | _=>cases e
theorem RE.joinM {f:M D}{g:M (List D)}{σ:L2.St}{H:Hp}{Q:VK}(q:RE K (F2.joinM f g) σ H Q):tBM K "str" (Sz K) (RE K f) (RA K g) σ H Q:=by
 obtain ⟨Oo,c,t,fi,r,t',eq,k⟩:=q;obtain ⟨d,t1,e1,eq⟩:=Ag eq;obtain ⟨as,t2,e2,eq⟩:=Ag eq;refine ⟨Oo,c,t,fi,d,t1,e1,λv H1 c1 f1 s1 rv=>?_⟩
 split at eq
 ·next z ds=>
  cases rv
  refine ⟨rfl,Oo,c1,t1,f1,_,t2,e2,λus H2 c2 f2 s2 rus=>?_⟩;obtain ⟨w,rfl,rw'⟩:=EG rus
  split at eq
  ·next ys ey=>
   split at eq
   ·next hz=>
    cases eq
    cases rw' with
    | @lst p vs ds h1 h2 h3=>
      obtain ⟨h4,h5⟩:=LD h3 ey;subst h4;exact ⟨_,p,ys,rfl,rfl,SqL.of h1,h5,hz.1,hz.2,k _ _ c2 f2 (s1.trans s2) (.str _)⟩
   ·cases eq
  ·cases eq
 ·cases eq
theorem S9 {o e:Expr}{es:List Expr}{f:M D}{g:M (List D)}{apos cpos:Pos}(ho:PE X o (RE X.K f))(ha:PA X (e :: es) (RA X.K g))
 (hbase:attributeBase o "join" X.env (eval o X.env)=eval o X.env:=by rfl)
 (hfew:((backTo cpos (starEach (e :: es) X.env)).all (λx=>!x.1) && (backToKw cpos (keywordEach [] X.env)).all (λx=>x.1.isSome) && decide ((e :: es).length + ([]:List Keyword).length + (if ([]:List Keyword).isEmpty then 0 else 1) < 30))=true:=by rfl)
 (hline:(apos.endLine == cpos.line)=true:=by rfl) (hs:starEach (e :: es) X.env=(false,eval e X.env) :: starEach es X.env:=by rfl) (hplain:(backTo cpos (starEach es X.env)).any (·.1)=false:=by rfl) :
 PE X (.Call (.Attribute o "join" apos) (e :: es) [] cpos) (RE X.K (joinM f g)):=
 AD (J2 PySem.F.plainAttrs_str PySem.F.slot_str_join PySem.F.type_str_join TV ho ha hbase hfew hline hs hplain) λ_ _ _ q=>RE.joinM q
end
end F2
namespace L2
open PySem PySem.Spec PyProof.Rows
def PC:R2:=λx y H Q=>∃a kvs k v,x = .ref a/\y = .str k/\H a=some (.dK kvs)/\Ey kvs (Sum.inr k:Key)=some v/\Q v H
def WQ:V->V->V->Hp->(Hp->Prop)->Prop:=λo i v H Q=>∃a kvs k,o = .ref a/\i = .str k/\H a=some (.dK kvs)/\kvs.length < sizeLine/\Q (upd H a (.dK (Dj kvs (Sum.inr k:Key) v)))
section
variable {X:Cx}
theorem V4:IxR X PC:=by
 intro value slice pins s σ H x y v u Q I rx ry h hs;obtain ⟨a,kvs,k,z,rfl,rfl,e,l,q⟩:=h
 cases rx
 obtain ⟨_,_,vs,rel,dd⟩:=Nn I.hok e;have g:DGet H a (kV (Sum.inr k:Key)) (some z):=by rw [<-l];exact DGet.k e
 have hT:=dd.typeIs;unfold subscriptTail;refine wpAny_bind ?_;rw [getitemInPython_of_ne hT.not_modules];refine wpAny_bind (wpAny_specialOf hT PySem.F.slot_dict_getitem.lookup ?_);have get:wpAny (model X.prog X.w) X.A (getItem (.ref a) u) (EP X pins σ Q) X.xe s:=by
  obtain ⟨w',hw,rw'⟩:=RelO.some_of (v:=z) (o:=valueAt vs (Sum.inr k:Key)) (by rw [<-l];exact rel.val _);exact wpAny_getItem_of (NA (k:=(Sum.inr k:Key)) ry) dd.mapOf hw ⟨z,H,I.tok _,rw',q⟩
 have fin:wpAny (model X.prog X.w) X.A (subscripted slice false (.ref a) u) (λr s₃=>wpAny (model X.prog X.w) X.A (letTemporaryGo value (.ref a) r >>= λ_=>pure r) (EP X pins σ Q) X.xe s₃) X.xe s:=by
  rw [hs];exact wpAny_operating (wpAny_mono get (λr s₃ h₃=>wpAny_bind (wpAny_letTemporaryGo (wpAny_pure h₃))) λ_ _ x=>x)
 first
  | exact wpAny_pure (wpAny_bind fin)
  | exact wpAny_bind (wpAny_pure (wpAny_bind fin))
  | exact wpAny_bind fin
theorem UP:Qd X WQ:=by
 intro pins s σ H o i v ov iv u Q I ro ri rv h;obtain ⟨a,kvs,k,rfl,rfl,e,l,q⟩:=h
 cases ro
 obtain ⟨z,hd,vs,rel,dd⟩:=Nn I.hok e;have hz:vs.length<=sizeLine:=by rw [<-rel.length];exact z
 have hl:(Dj kvs (Sum.inr k:Key) v).length<=sizeLine:=by have:=Hh kvs (Sum.inr k:Key) v;lia
 refine wpAny_setItem_pairs (hsz:=hz) (NA (k:=(Sum.inr k:Key)) ri) dd λh' dd' hs=>⟨_,?_,q⟩;have he:∃q,h'.get? a=some q:=let ⟨q,_,_,hq,_⟩:=dd';⟨q,hq⟩;exact L8 I (by rw [e];exact True.intro) hs he (OA hl hd (rel.put _ rv) dd')
end
end L2
namespace F2
open PySem L2 PySem.Spec
noncomputable def BM (kvs:List (Key×D))(k:Key):Option D:=(kvs.find? λkv=>decide (kv.1=k)).map (·.2)
noncomputable def Bx (kvs:List (Key×D))(k:Key)(d:D):List (Key×D):=
 if (kvs.any λkv=>decide (kv.1=k))=true then kvs.map (λkv=>if kv.1=k then (kv.1,d) else kv) else kvs++[(k,d)]
def AO:D->D->M D
 | .obj n,.str x=>λt=>match t.S[n]? with
   | some (.dct kvs)=>(BM kvs (.inr x)).map λd=>(d,t)
   | _=>none
 | _,_=>fail
def FD:D->D->D->M Unit
 | .obj n,.str x,d=>λt=>match t.S[n]? with
   | some (.dct kvs)=>if kvs.length < LIM then some ((),{ t with S:=t.S.set n (.dct (Bx kvs (.inr x) d)) }) else none
   | _=>none
 | _,_,_=>fail
def Ec (f g:M D)(d:D):M Unit:=bnd f λo=>bnd g λi=>FD o i d
def Dl:List (Str×M D)->M (List (Key×D))
 | []=>ret []
 | (k,f) :: r=>bnd f λd=>bnd (Dl r) λps=>ret ((.inr k,d) :: ps)
def EK (ps:List (Key×D)):List (Key×D):=ps.foldl (λacc kv=>Bx acc kv.1 kv.2) []
def GL (n:Nat)(ps:List (Key×D)):M D:=λt=>match t.S[n]? with
 | some (.dct [])=>if ps.length<=15 then some (.obj n,{ t with S:=t.S.set n (.dct (EK ps)) }) else none
 | _=>none
def EA (l:List (Str×M D)):M D:=λt=>bnd (Dl l) (GL t.S.length) { t with S:=t.S++[.dct []] }
def CW (i:Nat)(g:M D):M D:=λt=>match t.env[i]? with
 | some (some (.own _))=>bnd g (λj t1=>match j,t1.env[i]? with
   | .int j,some (some (.own xs))=>(atI xs j).map λd=>(d,t1)
   | _,_=>none) t
 | _=>none
section
variable {K:PySem.W.Frag}{c:Cf}{H:Hp}
theorem KVR.get {us:List (Key×V)}{kvs:List (Key×D)}(r:KVR K c H us kvs)(k:Key){d:D}(e:BM kvs k=some d):∃v,Ey us k=some v/\Rep K c H v d:=by
 unfold KVR at r
 induction r with
 | nil=>simp [BM] at e
 | @cons p q ps qs h t ih=>
   by_cases hk:p.1=k
   ·have hq:q.1=k:=h.1.symm.trans hk;have:BM (q :: qs) k=some q.2:=by simp [BM,List.find?_cons,hq]
    rw [this] at e;cases e
    exact ⟨p.2,LK hk,h.2⟩
   ·have hq:¬q.1=k:=λz=>hk (h.1.trans z);have:BM (q :: qs) k=BM qs k:=by simp [BM,List.find?_cons,hq]
    rw [this] at e;rw [LJ hk];exact ih e
theorem KVR.any {us:List (Key×V)}{kvs:List (Key×D)}(r:KVR K c H us kvs)(k:Key):(us.any λkv=>decide (kv.1=k))=(kvs.any λkv=>decide (kv.1=k)):=by
 unfold KVR at r
 induction r with
 | nil=>rfl
 | @cons p q ps qs h t ih=>rw [List.any_cons,List.any_cons,ih,h.1]
theorem KVR.put {us:List (Key×V)}{kvs:List (Key×D)}(r:KVR K c H us kvs)(k:Key){v:V}{d:D}(rv:Rep K c H v d):KVR K c H (Dj us k v) (Bx kvs k d):=by
 unfold Dj Bx;rw [r.any k]
 by_cases q:(kvs.any λkv=>decide (kv.1=k))=true
 ·rw [if_pos q,if_pos q];clear q;unfold KVR at r ⊢
  induction r with
  | nil=>exact .nil
  | @cons p q ps qs h t ih=>
    rw [List.map_cons,List.map_cons];refine .cons ?_ ih
    by_cases e:p.1=k
    ·rw [if_pos e,if_pos (h.1.symm.trans e)];exact ⟨h.1,rv⟩
    ·rw [if_neg e,if_neg (λz=>e (h.1.trans z))];exact h
 ·rw [if_neg q,if_neg q];exact Paired.snoc r ⟨rfl,rv⟩
theorem KVR.length {us:List (Key×V)}{kvs:List (Key×D)}(r:KVR K c H us kvs):us.length=kvs.length:=Paired.length r
theorem KVR.mono {c':Cf}{H':Hp}{us:List (Key×V)}{kvs:List (Key×D)}(e:Ext c H c' H')(r:KVR K c H us kvs):KVR K c' H' us kvs:=Paired.mapP r λ_ _ z=>⟨z.1,z.2.mono e⟩
theorem KVR.merge:∀{ps:List (Key×D)} {us:List (Key×V)} {acc:List (Key×D)} {ua:List (Key×V)},KVR K c H us ps->KVR K c H ua acc->KVR K c H (E1 ua us) (ps.foldl (λacc kv=>Bx acc kv.1 kv.2) acc):=by
 intro ps us acc ua r;unfold KVR at r
 induction r generalizing acc ua with
 | nil=>intro q;exact q
 | @cons p q ps qs h t ih=>
   intro r0;refine ih ?_;show KVR K c H (Dj ua p.1 p.2) (Bx acc q.1 q.2);have:=KVR.put r0 p.1 h.2;rw [<-h.1];exact this
theorem PR:AZ K PC AO:=λ{Oo c t σ H x y dx dy r t' Q} f rx ry eq k=>by
 unfold AO at eq
 split at eq
 ·next n z=>
  cases ry
  cases rx with
  | @obj a kk hk=>
    split at eq
    ·next kvs es=>
     obtain ⟨d,e1,e2⟩:=Option.map_eq_some_iff.mp eq
     cases e2
     obtain ⟨us,g1,g2⟩:=f.s.obs _ a _ hk es;obtain ⟨v,e3,e4⟩:=g2.get _ e1;exact ⟨a,us,z,v,rfl,rfl,g1,e3,k _ H c f .refl e4⟩
    ·cases eq
 ·cases eq
end
section
variable {X:Cx}{pos:Pos}{e:Expr}
theorem OJ {o i:Expr}{f g:M D}(ho:PE X o (RE X.K f))(hi:PE X i (RE X.K g))
 (ha:∀v,assign (.Subscript o i pos) X.env v=(do
   let ov <-holding [v] (eval o X.env)
   let iv <-holding [v,ov] (eval i X.env)
   standAt pos
   holding [v,ov,iv] (setItem ov iv v)
   release [v,ov,iv] []):=by intro _;rfl):PG X (.Subscript o i pos) (RG X.K (Ec f g)):=
 F8 (Ld ho hi UP ha) λv σ H Q z9=>by
  obtain ⟨Oo,c,t,d,fi,rv,t',eq,k⟩:=z9;obtain ⟨d0,t1,e1,eq⟩:=Ag eq;obtain ⟨di,t2,e2,eq⟩:=Ag eq;refine ⟨Oo,c,t,fi,_,t1,e1,λx H1 c1 f1 s1 rx=>⟨Oo,c1,t1,f1,di,t2,e2,λy H2 c2 f2 s2 ry=>?_⟩⟩;unfold FD at eq
  split at eq
  ·next n z dd=>
   cases ry
   cases rx with
   | @obj a kk hk=>
     split at eq
     ·next kvs es=>
      split at eq
      ·next hl=>
       cases eq
       have hk2:=s2.ext.io _ _ hk;obtain ⟨us,g1,g2⟩:=f2.s.obs _ a _ hk2 es;refine ⟨a,us,z,rfl,rfl,g1,by rw [g2.length];exact Nat.lt_trans hl Vg,?_⟩;have rv2:=rv.mono (s1.trans s2).ext;obtain ⟨f3,s3⟩:=f2.wrObj (o:=.dct (Bx kvs (.inr z) d)) (u:=.dK (Dj us (.inr z) v)) hk2 λc' H' ext hu=>⟨_,hu,(g2.put _ rv2).mono ext⟩;exact k σ _ c2 f3 ((s1.trans s2).trans s3)
      ·cases eq
     ·cases eq
  ·cases eq
def RP (K:PySem.W.Frag)(f:M (List (Key×D)))(σ:St)(H:Hp)(Q:List (V×V)->Hp->Prop):Prop:=
 ∃Oo c t,FInv K Oo c t σ H/\∃ps t',f t=some (ps,t')/\∀us H' c',FInv K Oo c' t' σ H'->Stp Oo c H c' H'->KVR K c' H' us ps->Q (us.map λkv=>(kV kv.1,kv.2)) H'
def PPf (X:Cx)(pos:Pos)(keys:List (Option Expr))(values:List Expr)(f:M (List (Key×D))):Prop:=
 ∃trs,PPs X pos keys values trs/\∀σ H Q,RP X.K f σ H Q->II trs σ H Q
theorem Tk:PPf X pos [] [] (Dl []):=⟨[],Uu,λσ H Q z9=>by
 obtain ⟨Oo,c,t,fi,ps,t',eq,k⟩:=z9
 cases eq
 exact k [] H c fi .refl .nil⟩
theorem QH {k:Str}{j:Nat}{kp:Pos}{v:Expr}{ks:List (Option Expr)}{vs:List Expr}{f:M D}{r:List (Str×M D)}(hv:PE X v (RE X.K f))(hr:PPf X pos ks vs (Dl r)) :
 PPf X pos (some (.Constant (.str k) j kp) :: ks) (v :: vs) (Dl ((k,f) :: r)):=by
 obtain ⟨trs,h1,h2⟩:=hr;refine ⟨_,Ro Pu hv h1,λσ H Q z9=>?_⟩;obtain ⟨Oo,c,t,fi,ps,t',eq,kk⟩:=z9;obtain ⟨d,t1,e1,eq⟩:=Ag eq;obtain ⟨qs,t2,e2,eq⟩:=Ag eq
 cases eq
 refine ⟨Oo,c,t,fi,d,t1,e1,λy H1 c1 f1 s1 ry=>?_⟩;refine h2 σ H1 _ ⟨Oo,c1,t1,f1,qs,_,e2,λus H2 c2 f2 s2 ru=>?_⟩;exact kk ((.inr k,y) :: us) H2 c2 f2 (s1.trans s2) (.cons ⟨rfl,ry.mono s2.ext⟩ ru)
theorem SZ {keys:List (Option Expr)}{values:List Expr}{l:List (Str×M D)}(h:PPf X pos keys values (Dl l))(hall:keys.all (·.isSome)=true:=by rfl)(hl:keys.length=values.length:=by rfl)(h0:keys≠[]:=by exact List.cons_ne_nil _ _)
 (h15:keys.length<=15:=by exact Nat.le_of_ble_eq_true rfl):PE X (.Dict keys values pos) (RE X.K (EA l)):=by
 obtain ⟨trs,h1,h2⟩:=h;refine AD (Ui h1 hall hl h0 h15) λσ H Q z9=>?_;obtain ⟨Oo,c,t,fi,r,t',eq,k⟩:=z9;intro p hp;obtain ⟨c1,f1,s1,e1⟩:=fi.newObj (o:=.dct []) (u:=.dK []) hp λc' H' ex hu=>⟨[],hu,.nil⟩;obtain ⟨ps,t2,e2,eq⟩:=Ag eq;refine h2 σ _ _ ⟨Oo,c1,_,f1,ps,t2,e2,λus H2 c2 f2 s2 ru=>?_⟩;unfold GL at eq
 split at eq
 ·next es=>
  split at eq
  ·next hl15=>
   cases eq
   have hk2:=s2.ext.io _ _ e1;obtain ⟨u0,g1,g2⟩:=f2.s.obs _ p _ hk2 es
   cases g2
   refine ⟨g1,us,rfl,by rw [ru.length];exact hl15,?_⟩;obtain ⟨f3,s3⟩:=f2.wrObj (o:=.dct (EK ps)) (u:=.dK (E1 [] us)) hk2 λc' H' ext hu=>⟨_,hu,(KVR.merge ru .nil).mono ext⟩;exact k _ _ c2 f3 (s1.trans (s2.trans s3)) (.obj hk2)
  ·cases eq
 ·cases eq
theorem QD (i:Nat){x:Str}{ix:Expr}{g:M D}{px:Pos}(hi:PE X ix (RE X.K g))(hs:IQ ix)(hN:X.N[i]?=some x:=by rfl)(hv:Vis X.env.scope x:=by walk_at "h")(hd:(x == ("__debug__" : Str))=false:=by decide)
 (hcd:(x == ("__classdict__" : Str))=false:=by decide):PE X (.Subscript (.Name x px) ix pos) (RE X.K (CW i g)):=
 AD (Sv ix_list (B2 hN hv hd hcd) hi hs) λσ H Q z9=>by
  obtain ⟨Oo,c,t,fi,r,t',eq,k⟩:=z9;unfold CW at eq
  split at eq
  ·next xs0 e0=>
   obtain ⟨j,t1,e1,eq⟩:=Ag eq;obtain ⟨a,vs0,h1,h2,h3,h4,h5⟩:=fi.own i xs0 e0;refine ⟨.ref a,h1,Oo,c,t,fi,j,t1,e1,λy H1 c1 f1 s1 ry=>?_⟩
   split at eq
   ·next j' xs ex=>
    obtain ⟨d,en,ez⟩:=Option.map_eq_some_iff.mp eq
    cases ez
    cases ry
    obtain ⟨a',vs,g1,g2,g3,g4,g5⟩:=f1.own i xs ex;rw [h1] at g1;injection g1 with g1;injection g1 with g1;injection g1 with g1;subst g1
    obtain ⟨v,e3,e4⟩:=FH g5 en;exact ⟨a,vs,j',v,rfl,rfl,SqL.of g4,e3,k _ H1 c1 f1 s1 e4⟩
   ·cases eq
  ·cases eq
end
end F2
namespace L2
open PySem PySem.Spec PyProof.Rows
section
variable {X:Cx}
end
end L2
namespace F2
open PySem L2 PySem.Spec
section
variable {X:Cx}{pos:Pos}{e:Expr}{es:List Expr}
end
end F2
namespace L2
open PySem PySem.Spec PyProof.Rows
section
variable {prog:Program}{w:World}{A:Around}{I:Addr}{fp wr:List Addr}{G:Array GenState->Array GenState->Prop}{n:Nat}{P:Nat->Value->Prop}{St:Nat->Shared->Prop}
end
section
variable {X:Cx}
end
end L2
namespace F2
open PySem L2 PySem.Spec PyProof.Rows
section
variable {X:Cx}{pos:Pos}{e:Expr}
end
end F2
namespace F2
open PySem L2 PySem.Spec
noncomputable def CF (f:M Bool)(b:M Out):Nat->M Out
 | 0=>λ_=>none
 | n + 1=>λt=>match f t with
   | none=>none
   | some (false,t1)=>some (.next,t1)
   | some (true,t1)=>match b t1 with
     | some (.next,t2)=>CF f b n t2
     | some (.cont,t2)=>CF f b n t2
     | some (.brk,t2)=>some (.next,t2)
     | some (.ret x,t2)=>some (.ret x,t2)
     | none=>none
def FF:Nat:=1000000
def FE (f:M Bool)(b:M Out):M Out:=CF f b FF
theorem RS.while {μ:Cf->Hp->D->(V->Hp->Prop)->Prop}{K:PySem.W.Frag}{f:M Bool}{b:M Out}{E:Ends}{σ:L2.St}{H:Hp}(q:RSg K μ (FE f b) E σ H):P4 (RT K f) (RSg K μ b) E σ H:=by
 obtain ⟨Oo,c,t,fi,o,t',eq,k⟩:=q;refine ⟨λm σ' H'=>∃c' t2,FInv K Oo c' t2 σ' H'/\Stp Oo c H c' H'/\CF f b m t2=some (o,t'),⟨FF,c,t,fi,.refl,eq⟩,?_⟩;rintro m σ' H' ⟨c',t2,f2,s2,e2⟩
 cases m with
 | zero=>cases e2
 | succ m=>
 rw [CF] at e2;dsimp only at e2
 cases ef:f t2 with
 | none=>rw [ef] at e2;cases e2
 | some p=>
 obtain ⟨r,t3⟩:=p;rw [ef] at e2;refine ⟨Oo,c',t2,f2,r,t3,ef,λH3 c3 f3 s3=>?_⟩
 cases r with
 | false=>
   cases e2
   exact k σ' H3 c3 f3 (s2.trans s3)
 | true=>
   rw [if_pos rfl];dsimp only at e2;refine ⟨λσ4 H4=>∃c4 t4,FInv K Oo c4 t4 σ4 H4/\Stp Oo c H c4 H4/\CF f b m t4=some (o,t'),λσ4 H4 h=>⟨m,Nat.lt_succ_self m,h⟩,?_⟩
   cases eb:b t3 with
   | none=>rw [eb] at e2;cases e2
   | some p=>
   obtain ⟨ob,t4⟩:=p;rw [eb] at e2;refine ⟨Oo,c3,t3,f3,ob,t4,eb,λσ4 H4 c4 f4 s4=>?_⟩
   cases ob with
   | next=>exact ⟨c4,t4,f4,(s2.trans s3).trans s4,e2⟩
   | cont=>exact ⟨c4,t4,f4,(s2.trans s3).trans s4,e2⟩
   | brk=>
     cases e2
     exact k σ4 H4 c4 f4 ((s2.trans s3).trans s4)
   | ret x=>
     cases e2
     exact k σ4 H4 c4 f4 ((s2.trans s3).trans s4)
section
variable {X:Cx}{pos:Pos}
theorem KL {μ:Cf->Hp->D->(V->Hp->Prop)->Prop}{e:Expr}{body:List Stmt}{f:M Bool}{b:M Out}(hp:PassesOwn (model X.prog X.w) X.A X.env X.xe)(hc:PT X e (RT X.K f))(hb:PSs X body (RSg X.K μ b)):PS X (.While e body [] pos) (RSg X.K μ (FE f b)):=
 A8 (Rp hp hc hb) λ_ _ _ q=>RS.while q
end
end F2
namespace L2
open PySem PySem.Spec PyProof.Rows
end L2
namespace F2
open PySem L2 PySem.Spec
end F2
namespace L2
open PySem PySem.Spec PyProof.Rows
section
variable {X:Cx}{tg:Expr}
end
end L2
namespace F2
open PySem L2 PySem.Spec
section
variable {X:Cx}{pos:Pos}{e:Expr}{es:List Expr}
end
noncomputable def aV (H:Hp)(a:Addr):Hp:=λb=>if b=a then none else H b
section
variable {K:PySem.W.Frag}{Oo:Addr->Prop}{c:Cf}{t:T}{σ:L2.St}{H:Hp}
end
section
variable {X:Cx}{pos:Pos}{e:Expr}{es:List Expr}
inductive spFF (K:PySem.W.Frag)(f:Fn)(vs:List V)(H:Hp)(Q:VK)(E:XK):Prop where
 | mk (c:Cf) (ds:List D) (S:List Ob) (si:SInv K c S H) (rp:Reps K c H vs ds) (rs:List D) (S':List Ob) (e:f ds S=some (.lst rs,S')) (k:∀p us H' c',SInv K c' S' H'->Stp c.O c H c' H'->(∀b,c'.O b↔c.O b)->Reps K c' H' us rs->H' p=none->Q (.ref p) (upd H' p (.lst us))):spFF K f vs H Q E
end
end F2
namespace L2
open PySem PySem.Spec PyProof.Rows
section
variable {X:Cx}
theorem Uf {o:Expr}{to:TE}{apos cpos:Pos}(ho:PE X o to)(hbase:attributeBase o "bit_length" X.env (eval o X.env)=eval o X.env:=by rfl)(hline:(apos.endLine == cpos.line)=true:=by rfl) :
 PE X (.Call (.Attribute o "bit_length" apos) [] [] cpos) (λσ H Q=>to σ H λv H1=>∃i,v = .int i/\Q (.int (Builtin.Int.intBits i:Nat)) H1):=by
 intro pins s σ H Q I h;refine Call_method0 hbase hline (thn (ho pins s σ H _ I h) λu s1 z9=>?_);obtain ⟨v,H1,I1,rv,i,ex,q⟩:=z9;subst ex;obtain ⟨t,rfl⟩:=rv;exact ⟨"int", "int.bit_length",PySem.F.plainAttrs_int,PySem.F.slot_int_bit_length,PySem.F.type_int_bit_length,typeIs_int _ _ _,(λ_ e=>nomatch e),
  method0_gives PySem.F.slot_int_bit_length PySem.F.entry_int_bit_length (typeIs_int _ _ _) (PySem.F.args_int_bit_length_1 _) (PySem.AutoIntG2.int_bit_length_int_0 i t) ⟨.int (Builtin.Int.intBits i:Nat),H1,I1.tok _,⟨_,rfl⟩,q⟩⟩
end
end L2
namespace F2
open PySem L2 PySem.Spec
def HV:D->M D
 | .int i=>ret (.int (Builtin.Int.intBits i:Nat))
 | _=>fail
section
variable {X:Cx}{pos:Pos}{e:Expr}{es:List Expr}
theorem OH {o:Expr}{f:M D}{apos cpos:Pos}(ho:PE X o (RE X.K f))(hbase:attributeBase o "bit_length" X.env (eval o X.env)=eval o X.env:=by rfl)(hline:(apos.endLine == cpos.line)=true:=by rfl) :
 PE X (.Call (.Attribute o "bit_length" apos) [] [] cpos) (RE X.K (fUn f HV)):=
 AD (Uf ho hbase hline) λσ H Q z9=>by
  obtain ⟨Oo,c,t,fi,r,t',eq,k⟩:=z9;obtain ⟨d,t1,e1,eq⟩:=Ag eq;refine ⟨Oo,c,t,fi,d,t1,e1,λx H1 c1 f1 s1 rx=>?_⟩;unfold HV at eq
  split at eq
  ·next i=>
   cases eq
   cases rx
   exact ⟨i,rfl,k _ H1 c1 f1 s1 (.int _)⟩
  ·cases eq
end
def Cg (i:Nat)(g:Bool->Bool)(f:M D):M D:=λt=>match t.env[i]? with
 | some (some (.own _))=>bnd f (λy t1=>match t1.env[i]? with
   | some (some (.own ds))=>if (E3 ds && A7 (DC t1.S y))=true then (eqN EQD (.lst ds) (DC t1.S y)).map λb=>(.bl (g b),t1) else none
   | _=>none) t
 | _=>none
section
variable {X:Cx}{b elt:Expr}{pos:Pos}
theorem RE.ownEq {K:PySem.W.Frag}{i:Nat}{g:Bool->Bool}{f:M D}{σ:L2.St}{H:Hp}{Q:VK}(q:RE K (Cg i g f) σ H Q):∃v,σ[i]?=some (some v)/\RE K f σ H λy H1=>Jj K g v y H1 Q:=by
 obtain ⟨Oo,c,t,fi,r,t',eq,k⟩:=q;unfold Cg at eq
 split at eq
 ·next xs0 e0=>
  obtain ⟨y,t1,e1,eq⟩:=Ag eq;obtain ⟨a,vs0,h1,h2,h3,h4,h5⟩:=fi.own i xs0 e0;refine ⟨.ref a,h1,Oo,c,t,fi,y,t1,e1,λu H1 c1 f1 s1 ru=>?_⟩
  split at eq
  ·next xs ex=>
   split at eq
   ·next hp=>
    rw [Bool.and_eq_true] at hp;obtain ⟨bb,en,ez⟩:=Option.map_eq_some_iff.mp eq
    cases ez
    obtain ⟨a',vs,g1,g2,g3,g4,g5⟩:=f1.own i xs ex;rw [h1] at g1;injection g1 with g1;injection g1 with g1;injection g1 with g1;subst g1
    exact ⟨c0,_,_,bb,.lst g4 (FJ _) (FB g5 hp.1),HA f1.s ru hp.2,en,k _ H1 c1 f1 s1 (.bl (g bb))⟩
   ·cases eq
  ·cases eq
 ·cases eq
theorem JG {op:CmpOp}(i:Nat){x:Str}{g:Bool->Bool}{f:M D}{px:Pos}(ho:OpR X (compareOp op) (Jj X.K g))(hb:PE X b (RE X.K f))(hm:behindInMarks op b=false)(hN:X.N[i]?=some x:=by rfl)(hv:Vis X.env.scope x:=by walk_at "h")(hd:(x == ("__debug__" : Str))=false:=by decide)
 (hcd:(x == ("__classdict__" : Str))=false:=by decide):PT X (.Compare (.Name x px) [op] [b] pos) (RT X.K (Ak (Cg i g f))):=
 HQ (ME ho (B2 hN hv hd hcd) hb hm) λ_ _ _ q=>RE.ownEq (RT.val q)
end
end F2
namespace L2
open PySem PySem.Spec PyProof.Rows
end L2
namespace F2
open PySem L2 PySem.Spec
structure ItOk2 (K:PySem.W.Frag)(J:It)(c:Cf)(H:Hp)(ds:List D):Prop where
 go:∀c' H' (i:Nat),Ext c H c' H'->i < ds.length->J.go i H'
 yld:∀c' H' (i:Nat) x H'' d,Ext c H c' H'->ds[i]?=some d->J.yld i H' x H''->∃p vs es,x = .ref p/\H' p=none/\H''=upd H' p (.tup vs)/\d = .tup es/\Reps K c' H' vs es
 stop:∀c' H',Ext c H c' H'->J.stop ds.length H'
inductive RI2 (K:PySem.W.Frag)(f:M (List D))(σ:L2.St)(H:Hp)(R:It->Hp->Prop):Prop where
 | mk (Oo:Addr->Prop) (c:Cf) (t:T) (fi:FInv K Oo c t σ H) (ds:List D) (t':T) (e:f t=some (ds,t')) (k:∀J H' c',FInv K Oo c' t' σ H'->Stp Oo c H c' H'->ItOk2 K J c' H' ds->R J H'):RI2 K f σ H R
section
variable {X:Cx}{pos:Pos}{e:Expr}
end
def Lm:D->D->M (List D)
 | .lst xs,.int k=>λt=>if BE k=true/\xs.length * k.toNat<=LIM then some ((List.replicate k.toNat xs).flatten,t) else none
 | _,_=>fail
theorem RN {K:PySem.W.Frag}:JV K WV Lm:=λ{Oo c t σ H x y dx dy r t' Q} f rx ry eq k=>by
 cases rx with
 | @lst a vs ds h1 h2 h3=>
   cases ry with
   | int j=>
     unfold Lm at eq;dsimp only at eq
     split at eq
     ·next h=>
      cases eq
      obtain ⟨g1,g2⟩:=Em h.1;exact ⟨a,j,vs,rfl,rfl,h1,by lia,by lia,by rw [h3.length];exact Nat.le_trans h.2 CA,λp hp=>k p _ H c f .refl (h3.rep _) hp⟩
     ·cases eq
   | _=>cases eq
 | _=>cases eq
end F2
namespace L2
open PySem PySem.Spec PyProof.Rows
section
variable {X:Cx}
end
end L2
namespace F2
open PySem L2 PySem.Spec
section
variable {X:Cx}{pos:Pos}{e:Expr}{es:List Expr}
end
end F2
namespace L2
open PySem PySem.Spec PyProof.Rows
section
variable {X:Cx}{e ek:Expr}{p2 pos:Pos}{te:TE}{tk:TO}
end
end L2
namespace F2
open PySem L2 PySem.Spec
section
variable {X:Cx}
end
end F2
namespace L2
open PySem PySem.Spec PyProof.Rows
section
variable {X:Cx}
end
end L2
namespace F2
open PySem L2 PySem.Spec
section
variable {X:Cx}{pos:Pos}
end
end F2
namespace L2
open PySem PySem.Spec PyProof.Rows
theorem JS {x y:Int}(h0:0 < y)(h1:y < 18446744073709551616):Builtin.divisionGoesByPylong x y=false:=by
 unfold Builtin.divisionGoesByPylong;have hl:y.natAbs.log2 < 64:=(Nat.log2_lt (by lia)).mpr (by show y.natAbs < 2 ^ 64;lia);have e:(y == 0)=false:=by rw [beq_eq_false_iff_ne];lia
 simp only [e,Bool.false_eq_true,if_false];rw [Bool.and_eq_false_iff];left;rw [decide_eq_false_iff_not];lia
def Sb (i j:Int):Prop:=0 < j/\j < 18446744073709551616
section
variable {X:Cx}
theorem Jz {i:Int}(h:i.natAbs < 2 ^ 512):Builtin.Int.intBits i<=2 ^ 20:=by
 unfold Builtin.Int.intBits
 split
 ·exact Nat.zero_le _
 ·next z=>
  have hz:i.natAbs≠0:=by
   intro e;have:i=0:=by lia
   subst this;exact z rfl
  have:=(Nat.log2_lt hz).mpr h;lia
def Sc (i j:Int):Prop:=i.natAbs < 2 ^ 512/\j.natAbs < 2 ^ 512
theorem Ub:OpR X (binaryOp .Mult) (rI Sc λi j=>.int (i * j)):=opI λ_ _ _ _ _ _ _ hc q=>mul_int q (IntMulOk.of_bits (Jz hc.1) (Jz hc.2))
theorem Re:OpR X (binaryOp .FloorDiv) (rI Sb λi j=>.int (i / j)):=opI λi j _ _ _ _ _ hc q=>by
 have h1:(0:Int) < j:=hc.1;exact floordiv_int (by lia) (by rw [Int.fdiv_eq_ediv_of_nonneg i (by lia)];exact q) (.inl (JS hc.1 hc.2))
end
end L2
namespace F2
open PySem L2 PySem.Spec
noncomputable def KB (i j:Int):Bool:=decide (0 < j) && decide (j < 18446744073709551616)
def GP:=i2C KB λi j=>.int (i / j)
theorem PU {K:PySem.W.Frag}:AZ K (rI Sb λi j=>.int (i / j)) GP:=EM (λi j h=>by
 unfold KB at h;rw [Bool.and_eq_true,decide_eq_true_eq,decide_eq_true_eq] at h;exact h) λ_ _ _ _=>.int _
noncomputable def K2 (i j:Int):Bool:=decide (i.natAbs < 2 ^ 512) && decide (j.natAbs < 2 ^ 512)
def Hx:=i2C K2 λi j=>.int (i * j)
theorem RM {K:PySem.W.Frag}:AZ K (rI Sc λi j=>.int (i * j)) Hx:=EM (λi j h=>by
 unfold K2 at h;rw [Bool.and_eq_true] at h;exact ⟨of_decide_eq_true h.1,of_decide_eq_true h.2⟩) λ_ _ _ _=>.int _
end F2
namespace L2
open PySem PySem.Spec PyProof.Rows
section
variable {X:Cx}
end
section
variable {X:Cx}
def KP (y:V)(xs:List V):Option Nat:=xs.findIdx? λz=>eqV z y
theorem Mr {x:V}:∀{xs:List V} {us:List Value},Vals xs us->xs.all ED=true->us.map (eqU x)=xs.map λy=>eqV y x
 | _,_,.nil,_=>rfl
 | y :: xs,u :: us,.cons r t,f=>by
   rw [List.all_cons,Bool.and_eq_true] at f;rw [List.map_cons,List.map_cons,OC r f.1,Mr t f.2]
def WR (K:PySem.W.Frag):V->List V->Hp->VK->Prop:=λx vs H Q=>∃p xs y j,x = .ref p/\vs=[y]/\SqL K H p xs/\ED y=true/\xs.all ED=true/\KP y xs=some j/\Q (.int (j:Nat)) H
theorem Wh:MtR X "list.index" (WR X.K):=by
 intro pins s σ H x vs v us Q I rx rv h;obtain ⟨p,xs,y,j,rfl,rfl,hq,fy,fs,hj,q⟩:=h
 cases rx
 obtain ⟨u,rfl,ru⟩:=EI rv;obtain ⟨its,r,pl,hz⟩:=I.list hq;obtain ⟨⟨cl1,dd,dt1,sl⟩,ho,h1,n,h2⟩:=pl.isList;simp only at h1 h2;subst h1 h2;obtain ⟨jl,jt,jn⟩:=List.findIdx?_eq_some_iff_getElem.mp hj;have hl:=r.length;have hm:=Mr (x:=y) r fs;have at_:∀m (h1:m < its.length) (h2:m < xs.length),eqU y its[m]=eqV xs[m] y:=λm h1 h2=>by
  have e1:(its.map (eqU y))[m]?=some (eqU y its[m]):=by rw [List.getElem?_map,List.getElem?_eq_getElem h1];rfl
  have e2:(xs.map λz=>eqV z y)[m]?=some (eqV xs[m] y):=by rw [List.getElem?_map,List.getElem?_eq_getElem h2];rfl
  rw [hm,e2] at e1;exact (Option.some.inj e1).symm
 have hs:its.toArray.size=its.length:=by simp
 refine call_meets PySem.F.slot_list_index ⟨_,ho,rfl⟩ PySem.F.entry_list_index (PySem.F.args_list_index_2 _ _) (SeqAt.list_indexAt p its.toArray n dd sl u (eqU y) j (by lia) ?_ ?_ ?_) ⟨ho,λw hw=>KZ ru fy r fs w (by simpa using hw),⟨.int (j:Nat),H,I.tok _,⟨_,rfl⟩,q⟩⟩
 ·have:sizeLine < 2 ^ 62:=by decide
  lia
 ·rw [List.getElem_toArray,at_ j (by lia) jl];exact jt
 ·intro m hm' hlt;rw [List.getElem_toArray,at_ m (by lia) (by lia)];simpa using jn m hlt
end
section
variable {X:Cx}
end
end L2
namespace F2
open PySem L2 PySem.Spec
def idxM (f:M D)(g:M (List D)):M D:=bnd f λo=>bnd g λas=>match o,as with
 | .lst ds,[y]=>λt=>if FQ y=true/\ds.all FQ=true then (match KP (toV y) (ds.map toV) with
   | some j=>some (.int (j:Nat),t)
   | none=>none) else none
 | _,_=>fail
theorem RE.idxM {K:PySem.W.Frag}{f:M D}{g:M (List D)}{σ:L2.St}{H:Hp}{Q:VK}(q:RE K (F2.idxM f g) σ H Q):tBM K "list" (WR K) (RE K f) (RA K g) σ H Q:=by
 obtain ⟨Oo,c,t,fi,r,t',eq,k⟩:=q;obtain ⟨d,t1,e1,eq⟩:=Ag eq;obtain ⟨as,t2,e2,eq⟩:=Ag eq;refine ⟨Oo,c,t,fi,d,t1,e1,λv H1 c1 f1 s1 rv=>?_⟩
 split at eq
 ·next ds y=>
  cases rv with
  | @lst p vs ds h1 h2 h3=>
  refine ⟨.inl ⟨rfl,vs,SqL.of h1⟩,Oo,c1,t1,f1,_,t2,e2,λus H2 c2 f2 s2 rus=>?_⟩;obtain ⟨w,rfl,rw'⟩:=EG rus;have rv2:=(Rep.lst h1 h2 h3).mono s2.ext
  cases rv2 with
  | @lst _ ws _ h1 h2 h3=>
  split at eq
  ·next hf=>
   split at eq
   ·next j ej=>
    cases eq
    refine ⟨p,ws,w,j,rfl,rfl,SqL.of h1,?_,?_,?_,k _ _ c2 f2 (s1.trans s2) (.int _)⟩
    ·rw [Jl rw' hf.1];exact KI _
    ·rw [HC h3 hf.2,List.all_map,List.all_eq_true];exact λd _=>KI d
    ·rw [Jl rw' hf.1,HC h3 hf.2];exact ej
   ·cases eq
  ·cases eq
 ·cases eq
section
variable {X:Cx}{pos:Pos}{e:Expr}{es:List Expr}
theorem QC {o e:Expr}{es:List Expr}{f:M D}{g:M (List D)}{apos cpos:Pos}(ho:PE X o (RE X.K f))(ha:PA X (e :: es) (RA X.K g))
 (hbase:attributeBase o "index" X.env (eval o X.env)=eval o X.env:=by rfl)
 (hfew:((backTo cpos (starEach (e :: es) X.env)).all (λx=>!x.1) && (backToKw cpos (keywordEach [] X.env)).all (λx=>x.1.isSome) && decide ((e :: es).length + ([]:List Keyword).length + (if ([]:List Keyword).isEmpty then 0 else 1) < 30))=true:=by rfl)
 (hline:(apos.endLine == cpos.line)=true:=by rfl) (hs:starEach (e :: es) X.env=(false,eval e X.env) :: starEach es X.env:=by rfl) (hplain:(backTo cpos (starEach es X.env)).any (·.1)=false:=by rfl) :
 PE X (.Call (.Attribute o "index" apos) (e :: es) [] cpos) (RE X.K (F2.idxM f g)):=
 AD (J2 PySem.F.plainAttrs_list PySem.F.slot_list_index PySem.F.type_list_index Wh ho ha hbase hfew hline hs hplain) λ_ _ _ q=>RE.idxM q
end
end F2
namespace L2
open PySem PySem.Spec PyProof.Rows
section
variable {X:Cx}
end
end L2
namespace F2
open PySem L2 PySem.Spec
def Mb:List (Int×M D)->M (List (Key×D))
 | []=>ret []
 | (k,f) :: r=>bnd f λd=>bnd (Mb r) λps=>ret ((.inl k,d) :: ps)
def aE (l:List (Int×M D)):M D:=λt=>bnd (Mb l) (GL t.S.length) { t with S:=t.S++[.dct []] }
noncomputable def NB:List (Key×D)->Option (List Int)
 | []=>some []
 | (.inl k,_) :: r=>(NB r).map (k :: ·)
 | _=>none
section
variable {K:PySem.W.Frag}{c:Cf}{H:Hp}
end
section
variable {X:Cx}{pos:Pos}{e b:Expr}
end
end F2
namespace L2
open PySem PySem.Spec PyProof.Rows
noncomputable def tb (led:Bool)(pl:List Nat):SetTable:={ mask:=7,place:=pl.toArray,dummies:=#[],finger:=0,led:=led,moves:=0,plain:=true }
noncomputable def pls:Nat->List (List Nat)
 | 0=>[[]]
 | k + 1=>(pls k).flatMap λl=>(List.range 8).filterMap λj=>if l.all (· < j) then some (l++[j]) else none
section
variable {P:Program}{w:World}{A:Around}{E:Value->Shared->Prop}{s:Shared}
end
section
variable {P:Program}{w:World}{A:Around}{I:Addr}{fp wr:List Addr}{G:Array GenState->Array GenState->Prop}{n:Nat}{Pr:Nat->Value->Prop}{St:Nat->Shared->Prop}
end
section
variable {P:Program}{w:World}{A:Around}{E:Value->Shared->Prop}{s:Shared}
end
section
variable {prog:Program}{w:World}{A:Around}
end
section
variable {X:Cx}
end
end L2
namespace F2
open PySem L2 PySem.Spec PyProof.Rows
section
variable {X:Cx}{pos:Pos}{e:Expr}
end
end F2
namespace L2
open PySem PySem.Spec PyProof.Rows
section
variable {P:Program}{w:World}{A:Around}{E:Value->Shared->Prop}{s:Shared}
structure ZT (h:Heap)(z TI TO i1 i2 t1 t2:Addr)(n:Nat):Prop where
 zz:IsZip h z TI TO .none
 ti:IsPair h TI (.ref i1) (.ref i2)
 ot:∃a b,IsPair h TO a b
 p1:h.IsTupleIter i1 t1 n
 p2:h.IsTupleIter i2 t2 n
end
section
variable {P:Program}{w:World}{A:Around}{E:Value->Shared->Prop}{s:Shared}
end
def Itz (K:PySem.W.Frag)(a b:Addr):It:=
 ⟨λi H=>∃xs ys x y,SqT K H a xs/\SqT K H b ys/\xs[i]?=some x/\ys[i]?=some y,λi H v H'=>∃p x y,v = .ref p/\H p=none/\(∀xs,SqT K H a xs->xs[i]?=some x)/\(∀ys,SqT K H b ys->ys[i]?=some y)/\H'=upd H p (.tup [x,y]),λi H=>∃xs ys,SqT K H a xs/\SqT K H b ys/\(xs.length<=i\/ys.length<=i)⟩
end L2
namespace F2
open PySem L2 PySem.Spec
noncomputable def aw:List D->List D->List D
 | x :: xs,y :: ys=>.tup [x,y] :: aw xs ys
 | _,_=>[]
section
variable {X:Cx}{e a b tg iter elt:Expr}{ifs:List Expr}{pos:Pos}{scope:Scope}{N':List Str}{n:Nat}{fr:List Nat}{f:M (List D)}{st:D->M Unit}{tst:M Bool}{el:M D}
def Ch (i:Nat):M D:=λt=>match t.env[i]? with
 | some (some (.own xs))=>some (.int xs.length,t)
 | _=>none
theorem OI (i:Nat){x:Str}{p px:Pos}(hg:Gl X "len")(hm:X.mg "len" = none)(hv:bootBuiltins "len" = some (.builtin "len"))(hN:X.N[i]?=some x:=by rfl)(hvi:Vis X.env.scope x:=by walk_at "h")(hd:(x == ("__debug__" : Str))=false:=by decide)
 (hcd:(x == ("__classdict__" : Str))=false:=by decide):PE X (.Call (.Name "len" p) [.Name x px] [] pos) (RE X.K (Ch i)):=
 AD (Lc Kv hg hm hv (MA (B2 hN hvi hd hcd) Pt (AX (e:=.Name x px) rfl)) (by decide) (by decide) (AX (e:=.Name x px) rfl) (AK (es:=[]) (by simp [AU])).1) λσ H Q z9=>by
  obtain ⟨Oo,c,t,fi,r,t',eq,k⟩:=z9;unfold Ch at eq
  split at eq
  ·next xs0 e0=>
   cases eq
   obtain ⟨a,vs0,q1,q2,q3,q4,q5⟩:=fi.own i xs0 e0;refine ⟨.ref a,q1,?_⟩;refine ⟨a,vs0,rfl,.inl (SqL.of q4),?_⟩;have h:=k (.int xs0.length) H c fi .refl (.int _);rw [<-q5.length] at h;exact h
  ·cases eq
end
def aS:List D->M D
 | [.obj k,.ty m]=>λt=>match t.S[k]? with
   | some (.lst _)=>(Gm "list" m).map λb=>(.bl b,t)
   | _=>none
 | ds=>KR ds
section
variable {X:Cx}{elt:Expr}{pos:Pos}{e:Expr}{es:List Expr}
end
end F2
namespace L2
open PySem PySem.Spec PyProof.Rows
section
variable {X:Cx}{pins:List (Addr×Obj)}{σ:St}{H:Hp}{s:Shared}{a:Addr}{kvs:List (Key×V)}{o:Obj}
end
section
variable {X:Cx}
end
section
variable {X:Cx}
end
end L2
namespace F2
open PySem L2 PySem.Spec SeqAt
def Og (K:PySem.W.Frag)(H:Hp)(v w:V):Prop:=∃c dv dw,Rep K c H v dv/\Rep K c H w dw/\eqN EQD dv dw=some true
def Vd (K:PySem.W.Frag)(H:Hp)(v w:V):Prop:=Og K H v w\/∃a b us ts,v = .ref a/\w = .ref b/\H a=some (.dK us)/\H b=some (.dK ts)/\us.length=ts.length/\(∀kv∈us,∃n:Int,kv.1=Sum.inl n)/\(∀kv∈ts,∃n:Int,kv.1=Sum.inl n)/\∀kv∈us,∃z,Ey ts kv.1=some z/\Og K H kv.2 z
def aW (K:PySem.W.Frag)(b:Bool):R2:=λx y H Q=>∃p q vs ws,x = .ref p/\y = .ref q/\H p=some (.lst vs)/\H q=some (.lst ws)/\vs.length=ws.length/\(∀(j:Nat) v w,vs[j]?=some v->ws[j]?=some w->Vd K H v w)/\Q (.bl b) H
def Kk (S:List Ob)(x y:D):Bool:=A7 (DC S x) && A7 (DC S y) && decide (eqN EQD (DC S x) (DC S y)=some true)
def aC (S:List Ob)(x y:D):Bool:=match x,y with
 | .obj m,.obj n=>match S[m]?,S[n]? with
   | some (.dct kvs),some (.dct lvs)=>kvs.length == lvs.length && (NB kvs).isSome && (NB lvs).isSome && kvs.all (λkv=>match BM lvs kv.1 with | some e=>Kk S kv.2 e | none=>false)
   | _,_=>Kk S x y
 | _,_=>Kk S x y
end F2
namespace F2
open PySem L2 PySem.Spec
section
variable {X:Cx}{pos:Pos}
end
end F2
namespace L2
open PySem PySem.Spec PyProof.Rows
structure ZL (h:Heap)(z TI TO i1 i2 t1 t2:Addr)(n:Nat):Prop where
 zz:IsZip h z TI TO .none
 ti:IsPair h TI (.ref i1) (.ref i2)
 ot:∃a b,IsPair h TO a b
 p1:h.IsListIter i1 t1 n
 p2:h.IsListIter i2 t2 n
end L2
namespace F2
open PySem L2 PySem.Spec
section
variable {X:Cx}{a b:Expr}{pos:Pos}
end
end F2
namespace L2
open PySem PySem.Spec PyProof.Rows PySem.W
section
variable {prog:Program}{w:World}{A:Around}{h:Heap}{g:Array GenState}{d:Drawn}{t:Nat}{os:OsState}{R:Result->Shared->Prop}
variable {nm q:Str}{C N fI:Addr}{bs bm bmB:List Value}{hdct:Bool}{sn:List Str}{sub:List Value}{ab:Bool}{col:Option Bool}{dd:Option Addr}{k0 k1 k2 k3 k5:Option Value}{B newId initId:String}{mN:Str->Option Value}
abbrev excObj (C tp:Addr):Obj:={ cls:=.ref C,data:=.fields #[.ref tp,.none,.none,.none,.bool false,.none] }
abbrev Dp (h:Heap)(C:Addr)(us:List Value):Heap:=(h.push { cls:=.type "tuple",data:=.seq us.toArray }).push (excObj C h.objs.size)
theorem KY (F:ExcBaseFacts B newId initId bmB)(T:OwnTail h bmB bm){us:List Value}(hC:h.get? C=some (excClassObj nm q C N bs bm hdct sn sub ab col dd k0 k1 k2 k3 k5 newId))(hn:h.Ns N mN)(hni:mN "__init__" = some (.ref fI))
 (hb:Looks (model prog w) h (bindSpecial (.ref fI) (.ref (h.objs.size + 1))) (.ref fI,[.ref (h.objs.size + 1)])) (hus:us.length<=sizeLine)
 (hq:codeAny (model prog w) (A.under (.builtin "type.__call__" ⟨.ref C :: us,[]⟩)) (.call (.ref fI) ⟨.ref (h.objs.size + 1) :: us,[]⟩) (InitBack (h.objs.size + 1) R) ⟨Dp h C us,g,d,t,os⟩) :
 codeAny (model prog w) A (.call (.ref C) ⟨us,[]⟩) R ⟨h,g,d,t,os⟩:=by
 have c1:=tc_lookup;have c2:=tc_bind (.ref C);have ty:(⟨h,g,d,t,os⟩:Shared).TypeIs (.ref C) "type":=⟨_,hC,rfl⟩;refine codeAny_of_tree ?_;show wpAny _ _ (callAny (.ref C) _) _ _ _
 repeat (any_goals (first
  | assumption
  | with_reducible refine wpAny_loadPart_at hC ?_
  | wp_step))
 refine ⟨rfl,codeAny_call_builtin_at (Code.quiet_builtin _ (by decide +kernel)) entry_typeCall (wpAny_check_type_call_sub hC ?_)⟩
 repeat (first
  | with_reducible refine wpAny_loadPart_at hC ?_
  | with_reducible refine wpAny_madeBy_exc hC ?_
  | wp_step)
 refine codeAny_call_builtin_code (Code.quiet_builtin _ F.quiet) (wpAny_check_new_subT F T hC (codeAny_exc_new_subT F T hC ?_ hus))
 change wpAny _ _ _ _ _ (Shared.mk (Dp h C us) g d t os)
 have kp:∀b o,h.get? b=some o->(Dp h C us).get? b=some o:=λb o e=>Heap.get?_push_of_some _ (Heap.get?_push_of_some _ e);have he:(Dp h C us).get? (h.objs.size + 1)=some { cls:=.ref C,data:=.fields #[.ref h.objs.size,.none,.none,.none,.bool false,.none] }:=by heap_get
 have n1:(Dp h C us).Ns N mN:=hn.keeps kp;have cC:(Value.ref C :: bm).contains (.ref C)=true:=by simp
 unfold isInstance
 repeat (first
  | with_reducible refine wpAny_loadPart_at he ?_
  | (with_reducible refine wpAny_isSubtype_exc (kp _ _ hC) ?_;rw [cC])
  | wp_step)
 show wpAny _ _ (typeLookup (.ref C) _) _ _ _;refine wpAny_typeLookup_tail (kp _ _ hC) n1 (T.keeps kp) F.mroIs F.init.lookup ?_;rw [hni];refine wpAny_holding (wpAny_bind ((hb.keeps kp).at ?_));refine wpAny_bind (wpAny_call (codeAny_mono hq λr s' z=>?_))
 cases r with
 | error e=>exact z
 | ok f=>
   cases f with
   | ret v=>
     obtain ⟨rfl,z⟩:=z;exact wpAny_pure (wpAny_pure z)
   | _=>exact z.elim
end
end L2
namespace L2
open PySem PySem.Spec PyProof.Rows PySem.W PySem.Builtin PySem.Builtin.ObjectAttr
theorem PF (self:Value):refuseLoop self "__setattr__" [.type "ValueError",.type "Exception",.type "BaseException",.type "object"]=pure ():=by
 kernel_rfl
abbrev Fd (C P:Addr):List Value:=[.ref C,.ref P,.type "ValueError",.type "Exception",.type "BaseException",.type "object"]
theorem ID (self:Value)(C P:Addr):refuseLoop self "__setattr__" (Fd C P)=pure ():=by
 rw [Fd,refuseLoop_ref,refuseLoop_ref];exact PF self
section
variable {prog:Program}{w:World}{A:Around}{s:Shared}{K:PySem.W.Frag}{x C P tp:Addr}{R:Result->Shared->Prop}{name:Str}{v:Value}{tk:Tok}{cd:ClassData}
theorem Uc (X:K.In s.heap)(hx:s.heap.get? x=some (excObj C tp))(hc:clsIn K C=some cd)(hmr:cd.mro=Fd C P)(ha:findIn K (.ref C) name=some none)
 (h:wpAny (model prog w) A.in1 (storeInOwnDict (.ref x) (.ref C) (.str name tk) name v false) (λfin s'=>match fin with | .done f=>R (.ok f) s' | .again c'=>c'.quiet=true/\codeAny (model prog w) A c' R s') (λe s'=>R (.error e) s') s) :
 codeAny (model prog w) A (.call (.builtin "object.__setattr__") ⟨[.ref x,.str name tk,v],[]⟩) R s:=by
 have SF:=PySem.F.store_object;have I:InstAt s.heap x (excObj C tp) C none:=⟨hx,rfl,rfl,trivial⟩;have ob:Looks (model prog w) s.heap (isInstance (.ref x) (.type "object")) true:=I.type.andThen (looks_mroIn X (by unfold mroIn;rw [hc,Option.bind_some,hmr];rfl));refine codeAny_call_builtin SF.slot.plain SF.entry (@check_slot (model prog w) _ _ s "object.__setattr__" "object" "__setattr__" (.ref x) [.str name tk,v] [] _ SF.kind SF.split ob (SF.args (.ref x) (.str name tk) v) ?_);have mr:Looks (model prog w) s.heap (mroOf (.ref C)) (Fd C P):=by rw [<-hmr];exact (looks_clsIn X hc).andThen .now
 rw [osa_eq,refuse_eq];refine wpAny_bind (wpAny_bind (I.type.here (wpAny_bind (mr.here ?_))));rw [ID];refine wpAny_pure (wpAny_bind (I.type.here (wpAny_bind ((looks_findIn X ha).here ?_))));exact wpAny_bind (wpAny_pure h)
theorem UQ {E:Value->Shared->Prop}{Q:Unit->Shared->Prop}(X:K.In s.heap)(hx:s.heap.get? x=some (excObj C tp))(hs:findIn K (.ref C) "__setattr__" = some (some (.builtin "object.__setattr__")))(hc:clsIn K C=some cd)(hmr:cd.mro=Fd C P)(hd:cd.hasDict=true)(ha:findIn K (.ref C) name=some none)
 (h:∀h',(∀b o,b≠x->s.heap.get? b=some o->h'.get? b=some o)->h'.get? x=some { excObj C tp with dict:=some s.heap.objs.size }->h'.Ns1 s.heap.objs.size (λy=>if y=name then some v else none)->Q () { s with heap:=h',toks:=s.toks + 2 }) :
 wpAny (model prog w) A (setAttr (.ref x) name v) Q E s:=by
 have I:InstAt s.heap x (excObj C tp) C none:=⟨hx,rfl,rfl,trivial⟩;refine set_plain X I hs (Uc (s:={ s with toks:=s.toks + 1 }) X hx hc hmr ha ?_);refine wpAny_bind (wpAny_pure (wpAny_bind (wpAny_bind (wpAny_loadPart (s:={ s with toks:=s.toks + 1 }) hx (wpAny_bind (Looks.here (s:={ s with toks:=s.toks + 1 }) (looks_clsIn X hc) ?_))))));rw [hd,if_neg (by decide)];show wpAny _ _ (alloc _ >>= λdx=>update x _ >>= λ_=>pure (some dx)) _ _ _;have hx1:(s.heap.push emptyDict).get? x=some (excObj C tp):=Heap.get?_push_of_some _ hx;have hne:s.heap.objs.size≠x:=Nat.ne_of_gt (Heap.lt_size hx);refine wpAny_bind (wpAny_alloc (s:={ s with toks:=s.toks + 1 }) (wpAny_bind (wpAny_update hx1 (wpAny_pure ?_))));have hx2:((s.heap.push emptyDict).update x λo=>{ o with dict:=some s.heap.objs.size }).get? x=some { excObj C tp with dict:=some s.heap.objs.size }:=Heap.get?_update_self _ hx1 rfl;have hk:∀b o,b≠x->s.heap.get? b=some o->((s.heap.push emptyDict).update x λo=>{ o with dict:=some s.heap.objs.size }).get? b=some o:=λb o hb e=>(Heap.get?_update_other _ _ (Ne.symm hb)).trans (Heap.get?_push_of_some _ e);have hdx:((s.heap.push emptyDict).update x λo=>{ o with dict:=some s.heap.objs.size }).get? s.heap.objs.size=some emptyDict:=(Heap.get?_update_other _ _ (Ne.symm hne)).trans (Heap.get?_push_size _ rfl);have n1:((s.heap.push emptyDict).update x λo=>{ o with dict:=some s.heap.objs.size }).Ns1 s.heap.objs.size λ_=>none:=⟨_,#[],_,hdx,rfl,(λe he=>by simp at he),(by simp [UniqKeys]),λ_=>rfl⟩;refine wpAny_bind (wpAny_pure (wpAny_bind ?_));refine wpAny_nsSet1 n1 λh' n2 sb=>?_;obtain ⟨oD,esD,epD,hoD,hdD,hcD⟩:=n2.count (PySem.Within.cons name v (ns:=[]) (λy u=>absurd rfl u));refine wpAny_bind (wpAny_lookBehind hoD (by rw [hdD];exact pastItsLine_dict (Nat.le_trans hcD (by show 1<=_;decide))) ?_);exact wpAny_pure (h h' (λb o hb e=>by
  by_cases hb2:b=s.heap.objs.size
  ·subst hb2;exact absurd (Heap.lt_size e) (Nat.lt_irrefl _)
  ·exact (sb.2 b hb2).trans (hk b o hb e)) ((sb.2 x (Ne.symm hne)).trans hx2) n2)
end
end L2
namespace L2
open PySem PySem.Spec PyProof.Rows PySem.W
variable {qx:Bool}
def XRec (qx:Bool)(h:Heap)(x C:Addr)(dx:Option Addr)(tb:Value):Prop:=∃(o:Obj) (vs:Array Value),h.get? x=some o/\o.cls = .ref C/\o.dict=dx/\o.data = .fields vs/\vs[1]?=some tb/\(qx=true->vs[2]?=some .none/\4 < vs.size)
theorem Vs {qx:Bool}{vs:Array Value}{v:Value}(h:qx=true->vs[2]?=some .none/\4 < vs.size):qx=true->(vs.setIfInBounds 1 v)[2]?=some .none/\4 < (vs.setIfInBounds 1 v).size:=λz=>by
 rw [Array.getElem?_setIfInBounds_ne (by decide),Array.size_setIfInBounds];exact h z
theorem XRec.to {qx:Bool}{h:Heap}{x C:Addr}{dx:Option Addr}{tb:Value}(r:XRec true h x C dx tb):XRec qx h x C dx tb:=by
 obtain ⟨o,vs,h1,h2,h3,h4,h5,h6⟩:=r;exact ⟨o,vs,h1,h2,h3,h4,h5,λ_=>h6 rfl⟩
def XTb (h:Heap)(T:Addr):Prop:=∃(o:Obj) (ts:Array Value),h.get? T=some o/\o.data = .fields ts/\ts[3]?=some .none
structure XKeep (fs ch:List Addr)(h h':Heap):Prop where
 keep:∀b o,b∉ch->b∉fs->h.get? b=some o->h'.get? b=some o
 slot:∀b o,b∉ch->h.get? b=some o->∃sl,h'.get? b=some { o with slots:=sl }
section
variable {M:Model}{A:Around}{E:Value->Shared->Prop}{s:Shared}{env:Env}{outer:List Env}{base:Heap}{L x C:Addr}{dx:Option Addr}{tb:Value}{Q:Unit->Shared->Prop}
theorem EZ {o:Obj}{vs:Array Value}(hd:o.data = .fields vs)(f:Array Value->Array Value):(o.mapFields f).data = .fields (f vs)/\(o.mapFields f).cls=o.cls/\(o.mapFields f).dict=o.dict:=by
 obtain ⟨c,d,dt,sl⟩:=o
 cases hd
 exact ⟨rfl,rfl,rfl⟩
end
end L2
namespace L2
open PySem PySem.Spec PyProof.Rows PySem.W
variable {qx:Bool}
abbrev VE:List Value:=[.type "ValueError",.type "Exception",.type "BaseException",.type "object"]
structure XCl (K:PySem.W.Frag)(C:Addr)(bm:List Value):Prop where
 ex:∃cd dd k0 k1 k2 k3 k5,K.lookup C=some { cls:=.type "type",dict:=dd,data:=.cls cd,slots:=#[k0,k1,k2,k3,some (.builtin "ValueError.__new__"),k5] }/\cd.mro = .ref C :: bm/\cd.hasDel=false/\cd.hasDict=true/\nsOkIn K cd.ns=true
 tl:tailIn K VE bm=true
noncomputable def Kf (K:PySem.W.Frag)(C:Addr)(bm:List Value):Bool:=tailIn K VE bm && match K.lookup C with
 | some ⟨.type "type",_,.cls cd,sl⟩=>(match sl.toList with
   | [_,_,_,_,some (.builtin n),_]=>n == "ValueError.__new__" && cd.mro == .ref C :: bm && !cd.hasDel && cd.hasDict && nsOkIn K cd.ns
   | _=>false)
 | _=>false
variable {K:PySem.W.Frag}{C:Addr}{bm:List Value}
theorem XCl.of_in (q:Kf K C bm=true):XCl K C bm:=by
 unfold Kf at q;rw [Bool.and_eq_true] at q;refine ⟨?_,q.1⟩;have q:=q.2
 split at q
 ·rename_i dd cd sl ho
  split at q
  ·rename_i k0 k1 k2 k3 n k5 hs;simp only [Bool.and_eq_true,beq_iff_eq,Bool.not_eq_true'] at q;obtain ⟨⟨⟨⟨rfl,h1⟩,h2⟩,h3⟩,h4⟩:=q;have hsl:sl=#[k0,k1,k2,k3,some (.builtin "ValueError.__new__"),k5]:=by
    cases sl
    exact congrArg Array.mk hs
   exact ⟨cd,dd,k0,k1,k2,k3,k5,by rw [ho,hsl],h1,h2,h3,h4⟩
  ·cases q
 ·cases q
theorem XCl.obj {K:PySem.W.Frag}{C:Addr}{bm:List Value}{h:Heap}(c:XCl K C bm)(X:K.In h):∃nm q N bs sn sub ab col dd k0 k1 k2 k3 k5,h.get? C=some (excClassObj nm q C N bs bm true sn sub ab col dd k0 k1 k2 k3 k5 "ValueError.__new__")/\h.Ns N (h.nsMap N):=by
 obtain ⟨⟨nm,bs,mro,ns,qn,hd,sn,sub,ab,col,del⟩,dd,k0,k1,k2,k3,k5,h1,h2,h3,h4,h5⟩:=c.ex;dsimp only at h2 h3 h4 h5;subst h2 h3 h4;exact ⟨nm,qn,ns,bs,sn,sub,ab,col,dd,k0,k1,k2,k3,k5,X _ _ h1,.of_isNs (isNs_of_in X h5)⟩
variable {h:Heap}
theorem XCl.tail (c:XCl K C bm)(X:K.In h):OwnTail h VE bm:=tail_of_in X c.tl
theorem XCl.has (c:XCl K C bm)(X:K.In h):(Value.ref C :: bm).contains (.type "BaseException")=true:=by
 rw [List.contains_cons,(c.tail X).hasType (b:=true) (by decide +kernel),Bool.or_true]
section
variable {M:Model}{A:Around}{E:Value->Shared->Prop}{env:Env}{K:PySem.W.Frag}{C:Addr}{bm:List Value}{s:Shared}
theorem Rv {t:Sem Value}{Q:Flow->Shared->Prop}(c:XCl K C bm)(hh:A.handled=none)
 (h:wpAny M A t (λv s1=>∃x dx,v = .ref x/\K.In s1.heap/\XRec qx s1.heap x C dx .none/\E v s1) E s):wpAny M A (raiseStmt env (some t) none) Q E s:=by
 unfold raiseStmt;refine wpAny_bind (wpAny_mono h (λv s1 q=>?_) λ_ _ z=>z);obtain ⟨x,dx,rfl,X,⟨o,vs,hx,hc,hd,hdt,h1,_⟩,hE⟩:=q;obtain ⟨nm,q,N,bs,sn,sub,ab,col,dd,k0,k1,k2,k3,k5,hC,_⟩:=c.obj X;have hb:=c.has X;obtain ⟨hp,g,d,tk,os⟩:=s1
 repeat (first
  | (with_reducible refine wpAny_loadPart_at hx ?_;rw [hc])
  | with_reducible refine wpAny_loadPart_at hC ?_
  | (with_reducible refine wpAny_isSubtype_exc hC ?_;rw [hb])
  | with_reducible refine wpAny_field hx hdt h1 ?_
  | wp_step)
 exact wpAny_raiseNew_none hh hE
end
def CX1 (qx:Bool)(P:Program)(w:World):CXT:=λouter H s E e s'=>∃(x C:Addr) (dx:Option Addr) (T:Addr) (H':Hp),e = .ref x/\s'.os=s.os/\AllBare s'.gens/\Un (frs outer) [] H H' s.heap s'.heap/\HOk P w H' s'.heap/\
 H' x=some (.ext (F2.XIs qx x C dx))/\s.heap.objs.size<=x/\s.heap.objs.size<=T/\T≠x/\H' T=none/\XRec qx s'.heap x C dx (.ref T)/\XTb s'.heap T/\E (.ref x) dx H'
variable {x:Addr}{dx:Option Addr}
theorem XRec.is {tb:Value}(r:XRec qx h x C dx tb):F2.XIs qx x C dx h:=by
 obtain ⟨o,vs,h1,h2,h3,h4,_,h5⟩:=r;exact ⟨o,vs,h1,h2,h3,h4,h5⟩
theorem XIs.stay {h1 h2:Heap}(r:F2.XIs qx x C dx h1)(k:∀o,h1.get? x=some o->h2.get? x=some o):F2.XIs qx x C dx h2:=by
 obtain ⟨o,vs,e,q⟩:=r;exact ⟨o,vs,k o e,q⟩
theorem Ih {P:Program}{w:World}{H:Hp}(r:F2.XIs qx x C dx h):ObjOk P w H h x (.ext (F2.XIs qx x C dx)):=
 ⟨r,let ⟨o,_,e,_⟩:=r;⟨o,e⟩,λ_ _ q k=>XIs.stay q k⟩
section
variable {X:Cx}{pins:List (Addr×Obj)}{σ:St}{H H':Hp}{s s':Shared}{h':Heap}{x C T:Addr}{dx:Option Addr}{ch:List Addr}
theorem R5 (k:XKeep (frs X.stack) ch s.heap h')(hT:∀b∈ch,b=x\/b=T):Un (frs X.stack) (x :: T :: []) H H s.heap h':=by
 have nch:∀b:Addr,b∉(x :: T :: [])->b∉ch:=λb hb z=>hb (by rcases hT b z with rfl | rfl <;> simp);refine ⟨λb o e n hb hx=>k.keep b o (nch b hx) hb e,λb o e n hb hx=>k.slot b o (nch b hx) e,λb o e n _=>n,λb o e hx=>?_,λ_ _ e=>e,λ_ _ _ e=>e,λb ps e=>⟨#[],by rw [e];simp⟩⟩;obtain ⟨sl,q⟩:=k.slot b o (nch b hx) e;exact ⟨_,q⟩
theorem Inv.left (I:Inv X pins σ H s)(hx:H x=some (.ext (F2.XIs qx x C dx)))(hT:H T=none)(nx:X.s₀.heap.objs.size<=x)(nT:X.s₀.heap.objs.size<=T)(k:XKeep (frs X.stack) ch s.heap h')(hc:∀b∈ch,b=x\/b=T)(r:F2.XIs qx x C dx h')
 (oT:∀y c,X.env.cells.lookup y=some c->c≠T) (lT:T≠X.env.locals) (pT:∀p∈X.pn++pins,p.1≠T):Inv X pins σ H { s with heap:=h' }:=by
 have nfr:∀b u,H b=some u->b∉frs X.stack:=λb u e z=>by rw [I.stkFree b z] at e;cases e
 refine I.call (g':=s.gens) (t':=s.toks) (d':=s.drawn) (ch:=[x,T]) (R5 k hc) (λb u e=>?_) I.bare λb hb=>?_
 ·by_cases hb:b=x
  ·subst hb;rw [hx] at e;cases e;exact Ih r
  ·refine (I.hok b u e).stay (λc v hcc q=>k.keep c v ?_ ?_ q) (λ_ q=>q) λ_ _ q=>q
   ·intro z;rcases hcc with rfl | hcc
    ·rcases hc c z with q | q
     ·exact hb q
     ·rw [q,hT] at e;cases e
    ·rcases hc c z with q | q
     ·rw [q,hx] at hcc;cases hcc
     ·rw [q,hT] at hcc;cases hcc
   ·rcases hcc with rfl | hcc
    ·exact nfr _ _ e
    ·exact nfr _ _ hcc
 ·have q:b=x\/b=T:=by simpa using hb
  rcases q with rfl | rfl
  ·exact ⟨.inr nx,(λz=>by rw [z,I.free] at hx;cases hx),(λy c e z=>by subst z;rw [I.freeC y c e] at hx;cases hx),λp hp z=>by rw [<-z,(I.pin p hp).2.1] at hx;cases hx⟩
  ·exact ⟨.inr nT,lT,oT,pT⟩
theorem Inv.raised (I:Inv X pins σ H s){E:XK}{e:Value}(q:CX1 qx X.prog X.w X.stack H s E e s'):∃(x C:Addr) (dx:Option Addr) (T:Addr) (H':Hp),e = .ref x/\Inv X pins σ H' s'/\H' x=some (.ext (F2.XIs qx x C dx))/\s.heap.objs.size<=x/\s.heap.objs.size<=T/\T≠x/\H' T=none/\XRec qx s'.heap x C dx (.ref T)/\XTb s'.heap T/\E (.ref x) dx H':=by
 obtain ⟨x,C,dx,T,H',he,os,bare,un,hok,hx,nx,nT,ne,hT,r,tb,q⟩:=q;obtain ⟨hh,g,d,t,os'⟩:=s';obtain rfl:os'=s.os:=os;exact ⟨x,C,dx,T,H',he,I.call (h':=hh) (g':=g) (d':=d) (t':=t) (ch:=[]) un hok bare (λb z=>absurd z (by simp)),hx,nx,nT,ne,hT,r,tb,q⟩
theorem Inv.newT (I:Inv X pins σ H s)(h:s.heap.objs.size<=T):T≠X.env.locals/\(∀y c,X.env.cells.lookup y=some c->c≠T)/\∀p∈X.pn++pins,p.1≠T:=by
 have far:∀b o,s.heap.get? b=some o->b≠T:=λb o e z=>absurd (Nat.lt_of_lt_of_le (Heap.lt_size e) h) (by rw [z];exact Nat.lt_irrefl _);refine ⟨λz=>absurd I.lt (by rw [<-z];exact Nat.not_lt.mpr h),λy c e=>?_,λp hp=>far _ _ (I.pin p hp).1⟩;obtain ⟨v,o,ho,_⟩:=I.cell y c e;exact far c o ho
end
section
variable {P:Program}{w:World}{K:PySem.W.Frag}{mg:Str->Option Value}{base:Heap}{N:List Str}{qual:Str}{scope:Scope}{f:Addr}{cd:Value}{A:Around}{outer:List Env}{s₀:Shared}{H₀:Hp}{E:XK}
end
end L2
namespace L2
open PySem PySem.Spec PyProof.Rows PySem.W
noncomputable def exO (x C tp:Addr):HO:=.ext λh=>h.get? x=some (excObj C tp)
noncomputable def Fl (x C tp dx:Addr):HO:=.ext λh=>h.get? x=some { excObj C tp with dict:=some dx }
theorem OD {P:Program}{w:World}{H:Hp}{h:Heap}{x C tp:Addr}(e:h.get? x=some (excObj C tp)):ObjOk P w H h x (exO x C tp):=⟨e,⟨_,e⟩,λ_ _ p k=>k _ p⟩
theorem SV {P:Program}{w:World}{H:Hp}{h:Heap}{x C tp dx:Addr}(e:h.get? x=some { excObj C tp with dict:=some dx }):ObjOk P w H h x (Fl x C tp dx):=⟨e,⟨_,e⟩,λ_ _ p k=>k _ p⟩
structure XAt (K:PySem.W.Frag)(C P:Addr)(f:Str):Prop where
 cl:XCl K C (.ref P :: VE)
 set:findIn K (.ref C) "__setattr__" = some (some (.builtin "object.__setattr__"))
 no:findIn K (.ref C) f=some none
theorem XCl.cls {K:PySem.W.Frag}{C:Addr}{bm:List Value}(c:XCl K C bm):∃cd,clsIn K C=some cd/\cd.mro = .ref C :: bm/\cd.hasDict=true:=by
 obtain ⟨cd,dd,k0,k1,k2,k3,k5,h1,h2,_,h4,_⟩:=c.ex;exact ⟨cd,by unfold clsIn;rw [h1],h2,h4⟩
def sXF (K:PySem.W.Frag)(P:Addr)(ta tv:TE)(f:Str):TS:=λD σ H=>tv σ H λy H1=>ta σ H1 λx H2=>∃a C tp,x = .ref a/\H2 a=some (exO a C tp)/\XAt K C P f/\
 ∀dx,H2 dx=none->dx≠a->D.nx σ (upd (upd H2 dx (.xd [(f,y)])) a (Fl a C tp dx))
theorem Sw {X:Cx}{P:Addr}{o value:Expr}{ta tv:TE}{f:Str}{pos' pos:Pos}(ha:PE X o ta)(hv:PE X value tv)(hs:swapsWith value (some (.Attribute o f pos')) pos.line X.env=pure false):PS X (.Assign [.Attribute o f pos'] value pos) (sXF X.K P ta tv f):=by
 intro pins s σ H D I h;refine plainObj_wpAny_Assign_Attribute (thn (hv pins s σ H _ I h) λu s1 ⟨y,H1,I1,ry,q⟩=>thn (ha pins s1 σ H1 _ I1 q) λov s2 z9=>?_) hs;obtain ⟨x,H2,I2,rx,a,C,tp,ex,ea,c,q2⟩:=z9;subst ex;obtain rfl:ov=Value.ref a:=rx;obtain ⟨cd,c1,c2,c3⟩:=c.cl.cls;have hx:s2.heap.get? a=some (excObj C tp):=(I2.hok a _ ea).1;refine UQ I2.kIn hx c.set c1 c2 c3 c.no λh' k e n=>?_;have fr:=I2.hok.fresh (Nat.le_refl s2.heap.objs.size);have ne:s2.heap.objs.size≠a:=(λz=>by rw [z,ea] at fr;cases fr)
 have nn:∀b u,H2 b=some u->b≠s2.heap.objs.size:=λb u z=>AC z fr;have na:∀b u,s2.heap.get? b=some u->H2 b=none->b≠a:=λb u _ z w'=>by rw [w',ea] at z;cases z
 refine ⟨σ,_,I2.un (h':=h') (t':=s2.toks + 2) ⟨λb u e1 e2 _ _=>k b u (na b u e1 e2) e1,λb u e1 e2 _ _=>⟨u.slots,k b u (na b u e1 e2) e1⟩,λb u e1 e2 _=>?_,λb u e1 _=>?_,λb xs e1=>?_,λb o' u e1=>?_,λb ps e1=>⟨#[],?_⟩⟩ λb u e1=>?_,q2 s2.heap.objs.size fr ne⟩
 ·rw [Ai (na b u e1 e2),Ai (Nat.ne_of_lt (Heap.lt_size e1))];exact e2
 ·by_cases hb:b=a
  ·subst hb;exact ⟨_,e⟩
  ·exact ⟨_,k b u hb e1⟩
 ·rw [Ai (λz=>by rw [z,ea] at e1;cases e1),Ai (nn _ _ e1)];exact e1
 ·rw [Ai (λz=>by rw [z,ea] at e1;cases e1),Ai (nn _ _ e1)];exact e1
 ·rw [Ai (λz=>by rw [z,ea] at e1;cases e1),Ai (nn _ _ e1),e1];simp
 ·by_cases hb:b=a
  ·subst hb;rw [Aj] at e1;cases e1;exact SV e
  ·rw [Ai hb] at e1
   by_cases hb2:b=s2.heap.objs.size
   ·subst hb2;rw [Aj] at e1;cases e1
    refine ⟨_,n,λg=>?_⟩
    by_cases hg:g=f
    ·subst hg;simp only [List.lookup,beq_self_eq_true,if_true];exact ry
    ·have hgb:(g == f)=false:=beq_eq_false_iff_ne.mpr hg;simp only [List.lookup,hgb,if_neg hg];trivial
   ·rw [Ai hb2] at e1;refine (I2.hok b u e1).stay (λz v hz q=>k z v ?_ q) (λz q=>?_) λz xs q=>?_
    ·rcases hz with rfl | hz
     ·exact hb
     ·intro w';rw [w',ea] at hz;cases hz
    ·rw [Ai (λz=>by rw [z,ea] at q;cases q),Ai (nn _ _ q)];exact q
    ·rw [Ai (λz=>by rw [z,ea] at q;cases q),Ai (nn _ _ q)];exact q
variable {qx:Bool}
theorem IB {K:PySem.W.Frag}{h:Heap}{N:Addr}{m:Str->Option Value}{n:Str}{v:Value}(X:K.In h)(G:h.Ns N m)(e:nsIn K N n=some (some v)):m n=some v:=by
 obtain ⟨o,es,ep,ho,hd,_,hf⟩:=G;unfold nsIn at e
 split at e
 ·next c d es' n' sl q=>
  have z:=X _ _ q;rw [ho] at z
  cases z
  cases hd
  split at e
  ·next en he=>
   rw [<-hf];unfold nsFind findBy;rw [<-Array.find?_toList,he];simpa using e
  ·split at e <;> cases e
 ·cases e
structure XMk (K:PySem.W.Frag)(C P f:Addr):Prop where
 cl:XCl K C (.ref P :: VE)
 init:∃cd,clsIn K C=some cd/\nsIn K cd.ns "__init__" = some (some (.ref f))
 fn:isFn K (.ref f)=true
 kp:keepIn K (.ref C)=true
section
variable {X:Cx}{k:Nat}{f C P:Addr}{fd:FuncData}{pins:List (Addr×Obj)}{σ:St}{H:Hp}{s:Shared}{Q:Value->Shared->Prop}{us:List Value}{vs:List V}{a:Str}{ps:List Str}{v:V}{u:Value}
end
end L2
namespace L2
open PySem PySem.Spec PyProof.Rows PySem.W
variable {qx:Bool}
section
variable {M:Model}{A:Around}{E:Value->Shared->Prop}{K:PySem.W.Frag}{s:Shared}{x C C':Addr}{bm bm':List Value}{dx:Option Addr}{tb:Value}
theorem Hw {Q:Bool->Shared->Prop}(c:XCl K C bm)(c':XCl K C' bm')(X:K.In s.heap)(hx:XRec qx s.heap x C dx tb)(h:Q ((Value.ref C :: bm).contains (.ref C')) s):wpAny M A (excMatches (.ref x) (.ref C')) Q E s:=by
 obtain ⟨nm,q,N,bs,sn,sub,ab,col,dd,k0,k1,k2,k3,k5,hC,_⟩:=c.obj X;obtain ⟨nm',q',N',bs',sn',sub',ab',col',dd',k0',k1',k2',k3',k5',hC',_⟩:=c'.obj X;have hb:=c'.has X;obtain ⟨o,vs,ho,hc,hd,hdt,h1⟩:=hx;obtain ⟨hp,g,d,tk,os⟩:=s;have ty:(⟨hp,g,d,tk,os⟩:Shared).TypeIs (.ref C') "type":=⟨_,hC',rfl⟩;have nt:=tc_notTuple
 cases hbb:(Value.ref C :: bm).contains (.ref C') <;> (
  rw [hbb] at h;unfold excMatches
  repeat (first
   | (with_reducible refine wpAny_loadPart_at ho ?_;rw [hc])
   | with_reducible refine wpAny_loadPart_at hC' ?_
   | (with_reducible refine wpAny_isSubtype_exc hC' ?_;rw [hb])
   | (with_reducible refine wpAny_isSubtype_exc hC ?_;rw [hbb])
   | wp_step)
  exact h)
end
end L2
namespace L2
open PySem PySem.Spec PyProof.Rows PySem.W
variable {qx:Bool}
def Qi (h:Heap)(T:Addr)(fl:Value):Prop:=∃(o:Obj) (ts:Array Value),h.get? T=some o/\o.data = .fields ts/\ts[3]?=some fl
section
variable {M:Model}{A:Around}{E:Value->Shared->Prop}{s:Shared}{env:Env}{outer:List Env}{base:Heap}{L x C:Addr}{dx:Option Addr}{tb:Value}{Q:Unit->Shared->Prop}
theorem JE {hadNext:Bool}{hd:Value}(hfr:A.frames=some (env :: outer))(hl:s.heap.FunFrames base (env :: outer))(hf:env.frame=some L)(hx:XRec qx s.heap x C dx tb)
 (h:∀h' T,s.heap.objs.size<=T->T≠x->XRec qx h' x C dx (.ref T)->Qi h' T (rawInt L)->XKeep (frs (env :: outer)) [x] s.heap h'->Q () { s with heap:=h' }) :
 wpAny M A (do let fo <-frameOf env;let at' <-entryPlaceOf L hadNext;let en <-EntryCells.newEntry hd fo .none (rawInt L) .none at';setField (.ref x) 1 en) Q E s:=by
 obtain ⟨ox,vs,gx,cx,dxe,dtx,tbx,xc⟩:=hx;have v1:1 < vs.size:=(Array.getElem?_eq_some_iff.mp tbx).1;have nfr:x∉frs (env :: outer):=λz=>by
  obtain ⟨_,o2,g2,n2⟩:=hl.mem z;rw [gx] at g2;cases g2
  exact n2 vs dtx
 refine wpAny_bind (wpAny_frameOf_fun hfr hl hf λh1 so=>?_);refine wpAny_bind (wpAny_entryPlaceOf λat' ip=>?_);unfold EntryCells.newEntry newFields;refine wpAny_bind (wpAny_newObj_type ?_ (ip.sizeOk5 _ _ _ _ _));generalize hne:(Obj.mk (Value.type "traceback") none (Data.fields ([hd,Value.ref L,Value.none,rawInt L,Value.none]++if at'.isEmpty=true then List.replicate 6 Value.none else at').toArray) #[])=nob;have dn:nob.data = .fields ([hd,Value.ref L,Value.none,rawInt L,Value.none]++if at'.isEmpty=true then List.replicate 6 Value.none else at').toArray:=by rw [<-hne]
 have gx1:h1.get? x=some ox:=(so.2.1 x nfr).trans gx;have gx2:(h1.push nob).get? x=some ox:=Heap.get?_push_of_some _ gx1;have nex:h1.objs.size≠x:=Nat.ne_of_gt (Heap.lt_size gx1);refine wpAny_setField gx2 dtx v1 ?_;obtain ⟨m1,m2,m3⟩:=EZ dtx (·.setIfInBounds 1 (Value.ref h1.objs.size));have gx3:=Heap.get?_update_self (Obj.mapFields (·.setIfInBounds 1 (Value.ref h1.objs.size))) gx2 (Obj.isFreed_of_fields m1);have gT2:(h1.push nob).get? h1.objs.size=some nob:=Heap.get?_push_size h1 (Obj.isFreed_of_fields dn);have gT3:=(Heap.get?_update_other (h1.push nob) (Obj.mapFields (·.setIfInBounds 1 (Value.ref h1.objs.size))) (Ne.symm nex)).trans gT2;have vx:(vs.setIfInBounds 1 (Value.ref h1.objs.size))[1]?=some (.ref h1.objs.size):=by simp [v1]
 have old:∀b o,b≠x->h1.get? b=some o->((h1.push nob).update x (Obj.mapFields (·.setIfInBounds 1 (Value.ref h1.objs.size)))).get? b=some o:=λb o hb e=>by
  rw [Heap.get?_update_other _ _ (Ne.symm hb)];exact Heap.get?_push_of_some _ e
 refine h _ h1.objs.size (Nat.le_of_eq so.1.symm) nex ⟨_,_,gx3,m2.trans cx,m3.trans dxe,m1,vx,Vs xc⟩ ⟨_,_,gT3,dn,?_⟩ ⟨λb o hb hbf e=>old b o (λz=>hb (by simp [z])) ((so.2.1 b hbf).trans e),λb o hb e=>?_⟩
 ·rw [List.getElem?_toArray];rfl
 ·obtain ⟨sl,e1⟩:=so.2.2 b o e;exact ⟨sl,old b _ (λz=>hb (by simp [z])) e1⟩
end
structure XOn (qx:Bool)(X:Cx)(pins:List (Addr×Obj))(H:Hp)(s:Shared)(x C:Addr)(dx:Option Addr)(T:Option Addr)(fl:Value):Prop where
 hx:H x=some (.ext (F2.XIs qx x C dx))
 nx:X.s₀.heap.objs.size<=x
 rc:XRec qx s.heap x C dx (match T with | some a=>.ref a | none=>.none)
 tb:∀a,T=some a->a≠x/\H a=none/\X.s₀.heap.objs.size<=a/\(a≠X.env.locals/\(∀y c,X.env.cells.lookup y=some c->c≠a)/\∀p∈X.pn++pins,p.1≠a)/\Qi s.heap a fl
 fo:fl = .none\/fl=rawInt X.env.locals
section
variable {M:Model}{A:Around}{Er:Value->Shared->Prop}{X:Cx}{pins:List (Addr×Obj)}{σ:St}{H:Hp}{s:Shared}{x C:Addr}{dx T:Option Addr}{fl:Value}{Q:Unit->Shared->Prop}
theorem DK (fr:Option Addr)(I:Inv X pins σ H s){a:Addr}(o:XOn qx X pins H s x C dx (some a) fl)(hfr:fr=none\/fr=some X.env.locals)
 (k:∀h',Inv X pins σ H { s with heap:=h' }->XOn qx X pins H { s with heap:=h' } x C dx (some a) (fr.elim Value.none λf=>rawInt f)->Q () { s with heap:=h' }):wpAny M A (setFlight (.ref x) fr) Q Er s:=by
 obtain ⟨ox,vs,gx,cx,dxe,dtx,tbx,xc⟩:=id o.rc;obtain ⟨ne,hT,nT,oT,ot,ts,gT,dT,t3⟩:=o.tb a rfl;unfold setFlight;refine wpAny_bind (wpAny_field gx dtx tbx ?_);rw [if_pos (show (Value.ref a != Value.none)=true from rfl)];refine wpAny_setField gT dT (Array.getElem?_eq_some_iff.mp t3).1 ?_;obtain ⟨m1,m2,m3⟩:=EZ dT (·.setIfInBounds 3 (fr.elim Value.none λf=>rawInt f));have gT2:=Heap.get?_update_self (Obj.mapFields (·.setIfInBounds 3 (fr.elim Value.none λf=>rawInt f))) gT (Obj.isFreed_of_fields m1);have oth:∀b,b≠a->(s.heap.update a (Obj.mapFields (·.setIfInBounds 3 (fr.elim Value.none λf=>rawInt f)))).get? b=s.heap.get? b:=λb z=>Heap.get?_update_other _ _ (Ne.symm z);have rc':XRec qx (s.heap.update a (Obj.mapFields (·.setIfInBounds 3 (fr.elim Value.none λf=>rawInt f)))) x C dx (.ref a):=⟨ox,vs,(oth x (Ne.symm ne)).trans gx,cx,dxe,dtx,tbx,xc⟩;refine k _ (I.left o.hx hT o.nx nT (ch:=[a]) ⟨λb u hb _ e=>(oth b (by simpa using hb)).trans e,λb u hb e=>⟨u.slots,(oth b (by simpa using hb)).trans e⟩⟩ (λb hb=>.inr (by simpa using hb)) rc'.is oT.2.1 oT.1 oT.2.2) ⟨o.hx,o.nx,rc',λa' e=>?_,?_⟩
 ·cases e
  exact ⟨ne,hT,nT,oT,_,_,gT2,m1,by rw [Array.getElem?_setIfInBounds_self,if_pos (Array.getElem?_eq_some_iff.mp t3).1]⟩
 ·rcases hfr with rfl | rfl
  ·exact .inl rfl
  ·exact .inr rfl
theorem E2 (hA:A.frames=some X.stack)(I:Inv X pins σ H s)(hs:X.stack=X.env :: X.outer)(hf:X.env.frame=some X.env.locals)(o:XOn qx X pins H s x C dx T fl)
 (k:∀h' a,Inv X pins σ H { s with heap:=h' }->XOn qx X pins H { s with heap:=h' } x C dx (some a) (rawInt X.env.locals)->Q () { s with heap:=h' }):wpAny M A (noteFrame (.ref x) X.env) Q Er s:=by
 obtain ⟨ox,vs,gx,cx,dxe,dtx,tbx,xc⟩:=id o.rc;have fin:∀(s1:Shared) (hh:∃h1,s1 = { s with heap:=h1 }) (ch:List Addr) (h':Heap) (a:Addr),Inv X pins σ H s1->s1.heap.objs.size<=a->a≠x->XRec qx h' x C dx (.ref a)->Qi h' a (rawInt X.env.locals)->XKeep (frs (X.env :: X.outer)) [x] s1.heap h'->Q () { s1 with heap:=h' }:=by
  rintro s1 ⟨h1,rfl⟩ ch h' a I1 l1 l2 l3 l4 l5;obtain ⟨o1,o2,o3⟩:=I1.newT l1;have J:=I1.left o.hx (I1.hok.fresh l1) o.nx (Nat.le_trans I1.sz l1) (ch:=[x]) (hs ▸ l5) (λb hb=>.inl (by simpa using hb)) l3.is o2 o1 o3;exact k h' a J ⟨o.hx,o.nx,l3,λa' e=>by cases e;exact ⟨l2,I1.hok.fresh l1,Nat.le_trans I1.sz l1,⟨o1,o2,o3⟩,l4⟩,.inr rfl⟩
 unfold noteFrame;simp only [hf];refine wpAny_bind (wpAny_field gx dtx tbx ?_)
 cases T with
 | none=>
   rw [if_neg (by decide)];exact JE (hA.trans (congrArg some hs)) (hs ▸ I.stack) hf o.rc λh' a l1 l2 l3 l4 l5=>fin s ⟨s.heap,rfl⟩ [] h' a I l1 l2 l3 l4 l5
 | some T₀=>
   obtain ⟨ne,hT,nT,oT,ot,ts,gT,dT,t3⟩:=o.tb T₀ rfl;rw [if_pos (show (Value.ref T₀ != Value.none)=true from rfl)];refine wpAny_bind (wpAny_field gT dT t3 ?_);rcases o.fo with rfl | rfl
   ·rw [if_neg (show ¬((Value.none == rawInt X.env.locals)=true) from by simp [rawInt])];refine wpAny_bind (wpAny_setField gT dT (Array.getElem?_eq_some_iff.mp t3).1 ?_);have oth:∀b,b≠T₀->(s.heap.update T₀ (Obj.mapFields (·.setIfInBounds 3 Value.none))).get? b=s.heap.get? b:=λb z=>Heap.get?_update_other _ _ (Ne.symm z);have rc':XRec qx (s.heap.update T₀ (Obj.mapFields (·.setIfInBounds 3 Value.none))) x C dx (.ref T₀):=⟨ox,vs,(oth x (Ne.symm ne)).trans gx,cx,dxe,dtx,tbx,xc⟩;have J:=I.left o.hx hT o.nx nT (ch:=[T₀]) ⟨λb u hb _ e=>(oth b (by simpa using hb)).trans e,λb u hb e=>⟨u.slots,(oth b (by simpa using hb)).trans e⟩⟩ (λb hb=>.inr (by simpa using hb)) rc'.is oT.2.1 oT.1 oT.2.2;exact JE (s:={ s with heap:=s.heap.update T₀ (Obj.mapFields (·.setIfInBounds 3 Value.none)) }) (hA.trans (congrArg some hs)) (hs ▸ J.stack) hf rc' λh' a l1 l2 l3 l4 l5=>fin _ ⟨_,rfl⟩ [] h' a J l1 l2 l3 l4 l5
   ·rw [if_pos (show (rawInt X.env.locals == rawInt X.env.locals)=true from by first | (simp;done) | exact beq_self_eq_true _)];exact wpAny_pure (k s.heap T₀ I ⟨o.hx,o.nx,o.rc,o.tb,.inr rfl⟩)
end
def XE (qx:Bool)(X:Cx)(E:St->XK):Value->Shared->Prop:=λe s=>∃pins σ H x C dx T fl,e = .ref x/\Inv X pins σ H s/\XOn qx X pins H s x C dx T fl/\E σ (.ref x) dx H
def Cc (CX:CXT)(X:Cx)(E:St->XK):Prop:=∀(pins:List (Addr×Obj)) (σ:St) (H:Hp) (s:Shared) (e:Value) (s':Shared),Inv X pins σ H s->CX X.stack H s (E σ) e s'->X.xe e s'
section
variable {M:Model}{X:Cx}{E:St->XK}
theorem XE.own (hs:X.stack=X.env :: X.outer)(hf:X.env.frame=some X.env.locals):PassesOwn M X.A X.env (XE qx X E):=by
 rintro e s ⟨pins,σ,H,x,C,dx,T,fl,rfl,I,o,q⟩;refine E2 I.ok.frames I hs hf o λh' a I' o'=>?_;obtain ⟨ox,vs,gx,cx,dxe,dtx,tbx,xc⟩:=id o'.rc;unfold cameBackBy;refine wpAny_bind (wpAny_field gx dtx tbx ?_);rw [if_neg (show ¬((Value.ref a == Value.none)=true) from by intro z;cases z)]
 rw [hf];exact DK _ I' o' (.inr rfl) λh'' I'' o''=>⟨pins,σ,H,x,C,dx,some a,_,rfl,I'',o'',q⟩
theorem XE.pass:Cc (CX1 qx X.prog X.w) (X.wish (XE qx X E)) E:=by
 intro pins σ H s e s' I q;obtain ⟨x,C,dx,T,H',rfl,J,hx,nx,nT,ne,hT,r,tb,q⟩:=I.unwish.raised q;exact ⟨pins,σ,H',x,C,dx,some T,.none,rfl,J,⟨hx,Nat.le_trans I.sz nx,r,λa e=>by cases e;exact ⟨ne,hT,Nat.le_trans I.sz nT,I.unwish.newT nT,tb⟩,.inl rfl⟩,q⟩
end
section
variable {P:Program}{w:World}{K:PySem.W.Frag}{mg:Str->Option Value}{base:Heap}
abbrev cxX (qx:Bool)(P:Program)(w:World)(K:PySem.W.Frag)(mg:Str->Option Value)(base:Heap)(N:List Str)(qual:Str)(scope:Scope)(f:Addr)(cd:Value)(A:Around)(outer:List Env)(s:Shared)(H:Hp)(E:XK):Cx:=
 (Dh (CX1 qx P w) P w K mg base N qual scope f cd A outer s H E).wish (XE qx (Dh (CX1 qx P w) P w K mg base N qual scope f cd A outer s H E) λ_=>E)
theorem XE.leaves {N:List Str}{qual:Str}{scope:Scope}{f:Addr}{cd:Value}{A:Around}{outer:List Env}{s₀:Shared}{H₀:Hp}{E:XK}{e:Value}{s:Shared}
 (h:XE qx (Dh (CX1 qx P w) P w K mg base N qual scope f cd A outer s₀ H₀ E) (λ_=>E) e s):(Dh (CX1 qx P w) P w K mg base N qual scope f cd A outer s₀ H₀ E).xe e s:=by
 obtain ⟨pins,σ,H,x,C,dx,T,fl,rfl,I,o,q⟩:=h;refine wpAny_bind (E2 I.ok.frames I rfl rfl o λh' a I' o'=>?_);refine DK none I' o' (.inl rfl) λh'' I'' o''=>?_;obtain ⟨ne,hT,nT,oT,tb⟩:=o''.tb a rfl;exact ⟨x,C,dx,a,H,rfl,I''.os,I''.bare,I''.base,I''.hok,o''.hx,o''.nx,nT,ne,hT,o''.rc,tb,q⟩
theorem Fun.okX {x qual:Str}{st:Stmt}{f:Addr}{fd:FuncData}{N ps:List Str}{k:Nat}{sp:Sp}(F:Fun K x qual st f fd)(S:FnScope N ps (Ao st))(len:∀vs H Q E,sp vs H Q E->vs.length=ps.length)
 (hbody:∀(cdv:Value) (A:Around) (outer:List Env) (s:Shared) (H:Hp) (vs:List V) (Q:VK) (E:XK),Room k (A.deeper (envOfC qual (Ao st) s.heap.objs.size f cdv))->sp vs H Q E->
   ∃t,PSs (cxX qx P w K mg base N qual (Ao st) f cdv A outer s H E) (Bj st) t/\t { nx:=λ_ H'=>Q .non H',rt:=Q } (start N vs) H):FnOk P w K mg base (CX1 qx P w) (k + 1) f fd ps sp:=by
 obtain ⟨oc,od,kV,doc,pm,an,cdv,ct,osl,rfl,lk,hcd⟩:=F.ex;refine Sn lk hcd S len λA outer s H vs Q E hr hsp=>?_;obtain ⟨t,h,q⟩:=hbody cdv A outer s H vs Q E hr hsp;exact ⟨t,λpins s1 σ H1 D I hw=>wpAny_mono (h pins s1 σ H1 D (I.wish _) hw) (λ_ _ q=>q.unwish) λ_ _ z=>z.leaves,q⟩
end
section
variable {X:Cx}{CX:CXT}{k:Nat}{f:Addr}{fd:FuncData}{ps:List Str}{sp:Sp}{E:St->XK}{x:Str}{p pos:Pos}{e:Expr}{es:List Expr}{t:TA}
def Xd (sp:Sp)(E:St->XK)(t:TA):TE:=λσ H Q=>t σ H λvs H1=>sp vs H1 Q (E σ)
theorem Rg (F:FnOk X.prog X.w X.K X.mg X.base CX k f fd ps sp)(hr:Room k X.A)(hg:Gl X x)(hm:X.mg x=some (.ref f))(hk:PySem.W.keepIn X.K (.ref f)=true)(hb:Binds X.K fd ps [])(hx:Cc CX X E)
 (ha:PA X (e :: es) t) (hdb:(x == ("__debug__" : Str))=false:=by decide) (he:starEach (e :: es) X.env=(false,eval e X.env) :: starEach es X.env:=by rfl) (hpl:(backTo pos (starEach es X.env)).any (·.1)=false:=by rfl) :
 PE X (.Call (.Name x p) (e :: es) [] pos) (Xd sp E t):=by
 intro pins s σ H Q I h;refine wpAny_Call_Name_kw (CI I hg hm ?_ hdb);refine PySem.W.callWith_K (h₀:=X.base) I.ok.mod.kin hk (thn (ha pos pins s σ H _ I h) λus s1 z9=>?_) he hpl;obtain ⟨vs,H1,I1,r,q⟩:=z9;refine ⟨I1.kIn,?_⟩;have hl:(us++[]).length=ps.length:=by rw [List.append_nil,<-r.length];exact F.len _ _ _ _ q
 refine wpAny_call (codeAny_mono (F.run X.A X.stack s1 H1 ⟨us,[]⟩ us vs Q (E σ) hr I1.env0 (by have:=hb s1 us I1.kIn hl;rwa [List.append_nil] at this) r q) λr s' hq=>?_)
 cases r with
 | error e=>exact hx pins σ H1 s1 e s' I1 hq
 | ok fl=>
   cases fl with
   | ret u=>exact I1.after hq
   | next=>exact False.elim hq
   | brk=>exact False.elim hq
   | cont=>exact False.elim hq
end
end L2
namespace L2
open PySem PySem.Spec PyProof.Rows PySem.W
variable {qx:Bool}
def PM (qx:Bool)(X:Cx)(e:Expr)(C:Addr)(t:St->Hp->(Addr->Option Addr->Hp->Prop)->Prop):Prop:=
 ∀(pins:List (Addr×Obj)) (s:Shared) (σ:St) (H:Hp) (Q:Addr->Option Addr->Hp->Prop),Inv X pins σ H s->t σ H Q->
  wpAny (model X.prog X.w) X.A (eval e X.env) (λv s1=>∃x dx H1,v = .ref x/\Inv X pins σ H1 s1/\H1 x=some (.ext (F2.XIs qx x C dx))/\X.s₀.heap.objs.size<=x/\XRec true s1.heap x C dx .none/\Q x dx H1) X.xe s
def Fv (qx:Bool)(X:Cx)(E:St->XK):Prop:=∀(pins:List (Addr×Obj)) (σ:St) (H:Hp) (s:Shared) (x C:Addr) (dx:Option Addr),Inv X pins σ H s->XOn qx X pins H s x C dx none .none->E σ (.ref x) dx H->X.xe (.ref x) s
theorem XE.raises {X:Cx}{E:St->XK}:Fv qx (X.wish (XE qx X E)) E:=λpins σ H s x C dx I o q=>⟨pins,σ,H,x,C,dx,none,.none,rfl,I.unwish,⟨o.hx,o.nx,o.rc,o.tb,o.fo⟩,q⟩
theorem Le {X:Cx}{e:Expr}{C:Addr}{bm:List Value}{t:St->Hp->(Addr->Option Addr->Hp->Prop)->Prop}{E:St->XK}{pos:Pos}(hc:X.calm=true)(c:XCl X.K C bm)(hx:Fv qx X E)(h:PM qx X e C t)
 (ho:evalOpt (some e) X.env=some (eval e X.env):=by rfl):PS X (.Raise (some e) none pos) (λ_ σ H=>t σ H λx dx H1=>E σ (.ref x) dx H1):=by
 intro pins s σ H D I q;rw [arm_exec_Raise,ho];refine wpAny_bind (wpAny_standAt ?_);refine Rv (qx:=true) c (I.ok.hd hc) ?_;refine wpAny_bind (wpAny_mono (h pins s σ H _ I q) (λv s1 z9=>?_) λ_ _ z=>z);obtain ⟨x,dx,H1,e1,I1,hx1,nx,r,q1⟩:=z9;subst e1;refine wpAny_bind (wpAny_standAt (wpAny_pure ⟨x,dx,rfl,I1.kIn,r,hx pins σ H1 s1 x C dx I1 ⟨hx1,nx,r.to,(λa e=>by cases e),.inl rfl⟩ q1⟩))
theorem NN {K:PySem.W.Frag}{h:Heap}{N:Addr}{m:Str->Option Value}{n:Str}(X:K.In h)(G:h.Ns N m)(e:nsIn K N n=some none):m n=none:=by
 obtain ⟨o,es,ep,ho,hd,_,hf⟩:=G;unfold nsIn at e
 split at e
 ·next c d es' n' sl q=>
  have z:=X _ _ q;rw [ho] at z
  cases z
  cases hd
  split at e
  ·cases e
  ·next he=>rw [<-hf];unfold nsFind findBy;rw [<-Array.find?_toList,he];rfl
 ·cases e
section
variable {prog:Program}{w:World}{A:Around}{E:Value->Shared->Prop}{h:Heap}{g:Array GenState}{d:Drawn}{t:Nat}{os:OsState}{Q:Value->Shared->Prop}
variable {nm q:Str}{C N:Addr}{bs bm bmB:List Value}{hdct:Bool}{sn:List Str}{sub:List Value}{ab:Bool}{col:Option Bool}{dd:Option Addr}{k0 k1 k2 k3 k5:Option Value}{B newId initId:String}{mN:Str->Option Value}
theorem O9 (F:ExcBaseFacts B newId initId bmB)(T:OwnTail h bmB bm){us:List Value}(hC:h.get? C=some (excClassObj nm q C N bs bm hdct sn sub ab col dd k0 k1 k2 k3 k5 newId))(hn:h.Ns N mN)(hni:mN "__init__" = none)(hus:us.length<=sizeLine)
 (hq:∀h' tp,(∀b o,h.get? b=some o->h'.get? b=some o)->h'.get? (h.objs.size + 1)=some (excObj C tp)->Q (.ref (h.objs.size + 1)) ⟨h',g,d,t,os⟩) :
 wpAny (model prog w) A (call (.ref C) us) Q E ⟨h,g,d,t,os⟩:=by
 have c1:=tc_lookup;have c2:=tc_bind (.ref C);have ty:(⟨h,g,d,t,os⟩:Shared).TypeIs (.ref C) "type":=⟨_,hC,rfl⟩;refine wpAny_call (codeAny_of_tree ?_);show wpAny _ _ (callAny (.ref C) _) _ _ _
 repeat (any_goals (first
  | assumption
  | with_reducible refine wpAny_loadPart_at hC ?_
  | wp_step))
 refine ⟨rfl,codeAny_call_builtin_at (Code.quiet_builtin _ (by decide +kernel)) entry_typeCall (wpAny_check_type_call_sub hC ?_)⟩
 repeat (first
  | with_reducible refine wpAny_loadPart_at hC ?_
  | with_reducible refine wpAny_madeBy_exc hC ?_
  | wp_step)
 refine codeAny_call_builtin_code (Code.quiet_builtin _ F.quiet) (wpAny_check_new_subT F T hC (codeAny_exc_new_subT F T hC ?_ hus))
 change wpAny _ _ _ _ _ (Shared.mk (Dp h C us) g d t os)
 have kp:∀b o,h.get? b=some o->(Dp h C us).get? b=some o:=λb o e=>Heap.get?_push_of_some _ (Heap.get?_push_of_some _ e);have he:(Dp h C us).get? (h.objs.size + 1)=some { cls:=.ref C,data:=.fields #[.ref h.objs.size,.none,.none,.none,.bool false,.none] }:=by heap_get
 have n1:(Dp h C us).Ns N mN:=hn.keeps kp;have cC:(Value.ref C :: bm).contains (.ref C)=true:=by simp
 unfold isInstance
 repeat (first
  | with_reducible refine wpAny_loadPart_at he ?_
  | (with_reducible refine wpAny_isSubtype_exc (kp _ _ hC) ?_;rw [cC])
  | wp_step)
 show wpAny _ _ (typeLookup (.ref C) _) _ _ _;refine wpAny_typeLookup_tail (kp _ _ hC) n1 (T.keeps kp) F.mroIs F.init.lookup ?_;rw [hni];refine wpAny_holding (wpAny_bind (wpAny_of_eq (F.init.bind _) (wpAny_bind (wpAny_call (codeAny_call_builtin F.init.plain F.initEntry (wpAny_check_init_subT F (T.keeps kp) (kp _ _ hC) he rfl ?_))))))
 wp_walk
 refine hq _ ((Dp h C us).objs.size) (λb o hb=>?_) ?_
 ·rw [Heap.get?_update_other _ _ (Nat.ne_of_gt (Nat.lt_succ_of_lt (Heap.lt_size hb)))];exact Heap.get?_push_of_some _ (kp b o hb)
 ·rw [Heap.get?_update_self _ (Heap.get?_push_of_some _ he) rfl];rfl
end
section
variable {X:Cx}{k:Nat}{f C P:Addr}{fd:FuncData}{a:Str}{ps:List Str}{n:Str}{p pos:Pos}{e:Expr}{es:List Expr}
theorem Uq {t:TA}{bm:List Value}{cd:ClassData}(c:XCl X.K C bm)(hk:keepIn X.K (.ref C)=true)(hcd:clsIn X.K C=some cd)(hni:nsIn X.K cd.ns "__init__" = some none)(hg:Gl X n)(hm:X.mg n=some (.ref C))(ha:PA X (e :: es) t)
 (hdb:(n == ("__debug__" : Str))=false:=by decide) (h1:starEach (e :: es) X.env=(false,eval e X.env) :: starEach es X.env:=by rfl) (hpl:(backTo pos (starEach es X.env)).any (·.1)=false:=by rfl) :
 PM qx X (.Call (.Name n p) (e :: es) [] pos) C (λσ H Q=>t σ H λvs H1=>vs.length<=1000/\∀x,H1 x=none->Q x none (upd H1 x (.ext (F2.XIs qx x C none)))):=by
 intro pins s σ H Q I h;refine wpAny_Call_Name_kw (CI I hg hm ?_ hdb);refine PySem.W.callWith_K (h₀:=X.base) I.ok.mod.kin hk (thn (ha pos pins s σ H _ I h) λus s1 z9=>?_) h1 hpl;obtain ⟨vs,H1,I1,r,hl,q⟩:=z9;refine ⟨I1.kIn,?_⟩;obtain ⟨nm,q',N,bs,sn,sub,ab,col,dd,k0,k1,k2,k3,k5,hC,hN⟩:=c.obj I1.kIn;have hni':s1.heap.nsMap N "__init__" = none:=by
  unfold clsIn at hcd
  split at hcd
  ·next l=>
   cases hcd
   have z:=I1.kIn _ _ l;rw [hC] at z
   cases z
   exact NN I1.kIn hN hni
  ·cases hcd
 obtain ⟨hh,g,d,tk,os⟩:=s1;refine O9 PySem.F.excBase_ValueError (c.tail I1.kIn) hC hN hni' (by show us.length<=sizeLine;rw [<-r.length];exact Nat.le_trans hl (by decide)) λh' tp kp ht=>?_;have xr:XRec true h' (hh.objs.size + 1) C none .none:=⟨_,_,ht,rfl,rfl,rfl,rfl,λ_=>⟨rfl,by show 4 < 6;decide⟩⟩;exact ⟨_,none,_,rfl,I1.laid (h':=h') (t':=tk) kp (Nat.le_succ _) (Ih xr.to.is),Aj,Nat.le_trans I1.sz (Nat.le_succ _),xr,q _ (I1.hok.fresh (Nat.le_succ _))⟩
end
end L2
namespace L2
open PySem PySem.Spec PyProof.Rows PySem.W
variable {qx:Bool}
abbrev Cx.mark (X:Cx)(x:Addr):Cx:={ X with A:=X.A.mark (some (.ref x)),calm:=false,xe:=λ_ _=>False }
section
variable {X:Cx}{pins:List (Addr×Obj)}{σ:St}{H:Hp}{s:Shared}{D:Ends}
theorem Inv.mark (I:Inv X pins σ H s)(x:Addr):Inv (X.mark x) pins σ H s:=
 ⟨⟨I.ok.mod,I.ok.kind,I.ok.glob,I.ok.blt,I.ok.above,I.ok.inj,I.ok.has,I.ok.cab,(λz=>by cases z),I.ok.frames,I.ok.stk,I.ok.exf,I.ok.bs,I.ok.bsz,I.ok.noex,I.ok.exfs,I.ok.funs,I.ok.frf⟩,I.os,I.bare,I.base,I.loc,I.cell,I.free,I.freeC,I.pin,I.hok,I.len⟩
theorem Inv.unmark {x:Addr}(J:X.Ok)(I:Inv (X.mark x) pins σ H s):Inv X pins σ H s:=⟨J,I.os,I.bare,I.base,I.loc,I.cell,I.free,I.freeC,I.pin,I.hok,I.len⟩
theorem Inv.repin {pn' pins':List (Addr×Obj)}{xe:Value->Shared->Prop}(I:Inv X pins σ H s)(h:∀p∈pn'++pins',p∈X.pn++pins):Inv { X with pn:=pn',xe:=xe } pins' σ H s:=
 ⟨⟨I.ok.mod,I.ok.kind,I.ok.glob,I.ok.blt,I.ok.above,I.ok.inj,I.ok.has,I.ok.cab,I.ok.hd,I.ok.frames,I.ok.stk,I.ok.exf,I.ok.bs,I.ok.bsz,I.ok.noex,I.ok.exfs,I.ok.funs,I.ok.frf⟩,I.os,I.bare,I.base,I.loc,I.cell,I.free,I.freeC,λp hp=>I.pin p (h p hp),I.hok,I.len⟩
theorem SP.unmark {x:Addr}(J:X.Ok){f:Flow}(h:SP (X.mark x) pins D f s):SP X pins D f s:=by
 cases f with
 | next=>obtain ⟨σ',H',I,q⟩:=h;exact ⟨σ',H',I.unmark J,q⟩
 | brk=>obtain ⟨σ',H',I,q⟩:=h;exact ⟨σ',H',I.unmark J,q⟩
 | cont=>obtain ⟨σ',H',I,q⟩:=h;exact ⟨σ',H',I.unmark J,q⟩
 | ret u=>obtain ⟨v,σ',H',I,r,q⟩:=h;exact ⟨v,σ',H',I.unmark J,r,q⟩
theorem F3 {M:Model}{A:Around}{E:Value->Shared->Prop}{i:Nat}{n:Str}{pos:Pos}{Q:Unit->Shared->Prop}(I:Inv X pins σ H s)(hN:X.N.Nodup)(hi:X.N[i]?=some n)(hk:X.env.scope.names.lookup n=some .local)
 (h:∀s',Inv X pins (σ.set i none) H s'->Q () s'):wpAny M A (do bindName X.env n .none;unbindBehindTheSuite X.env n pos) Q E s:=by
 refine wpAny_bind (wpAny_bindName (E8 (v:=.non) I hN hi (.inl hk) rfl (λs1 I1=>?_) (.inr hk)));unfold unbindBehindTheSuite;have hiσ:i < σ.length:=by rw [I.len];exact (List.getElem?_eq_some_iff.mp hi).1
 obtain ⟨m,hn,hl⟩:=id I1.loc;have hcls:(X.env.scope.kind == .class || (X.env.scope.kind == .module && X.env.locals != X.env.globals))=false:=by rw [I.ok.kind];rfl
 obtain ⟨u0,_,lk⟩:=hl i n .non hi (by rw [List.getElem?_set_self hiσ]) (.inl hk);have hv:m n=some u0:=by
  rcases lk with ⟨_,e⟩ | ⟨k,_⟩
  ·exact e
  ·have k:X.env.scope.names.lookup n=some .cell\/X.env.scope.names.lookup n=some .free:=k;rw [hk] at k;rcases k with k | k <;> cases k
 refine wpAny_onRaise (wpAny_unbindName_local hk hn hv hcls λh' u hn' hs=>?_);have cne:=I1.cne;have tracked:HOk X.prog X.w H h':=λb ob e=>by
  refine (I1.hok b ob e).stay (λc w' hc q=>(hs.2 c ?_).trans q) (λ_ q=>q) λ_ _ q=>q;rintro rfl;rcases hc with rfl | hc
  ·rw [I1.free] at e;cases e
  ·rw [I1.free] at hc;cases hc
 have far:∀b o,X.s₀.heap.get? b=some o->b≠X.env.locals:=λb o e=>Nat.ne_of_lt (Nat.lt_of_lt_of_le (Heap.lt_size e) I1.ok.above);refine h _ ⟨I1.ok,I1.os,I1.bare,⟨λb o e n hb hx=>?_,λb o e n hb hx=>?_,I1.base.free,λb o e hx=>?_,I1.base.tups,I1.base.frzs,I1.base.tbls⟩,⟨_,hn',λj y v' e1 e2 e3=>?_⟩,λy c e=>?_,I1.free,I1.freeC,λp hp=>?_,tracked,by simpa using I.len⟩
 ·exact (hs.2 b (far b o e)).trans (I1.base.keep b o e n hb hx)
 ·obtain ⟨sl,e1⟩:=I1.base.slot b o e n hb hx;exact ⟨sl,(hs.2 b (far b o e)).trans e1⟩
 ·obtain ⟨o',e1⟩:=I1.base.there b o e hx;exact ⟨o',(hs.2 b (far b o e)).trans e1⟩
 ·by_cases hj:j=i
  ·subst hj;rw [List.getElem?_set_self hiσ] at e2
   cases e2
  ·rw [List.getElem?_set_ne (Ne.symm hj)] at e2;obtain ⟨u',r',q⟩:=hl j y v' e1 (by rw [List.getElem?_set_ne (Ne.symm hj)];exact e2) e3;refine ⟨u',r',?_⟩;rcases q with ⟨k,e⟩ | ⟨k,c,e,z⟩
   ·refine .inl ⟨k,?_⟩;have:y≠n:=λe=>hj (FX hN e1 (e ▸ hi));simp [this,e]
   ·exact .inr ⟨k,c,e,z.sameBut hs (cne y c e)⟩
 ·obtain ⟨w',z⟩:=I1.cell y c e;exact ⟨w',z.sameBut hs (cne y c e)⟩
 ·obtain ⟨e,n,ne,nf,d⟩:=I1.pin p hp;exact ⟨(hs.2 p.1 ne).trans e,n,ne,nf,d⟩
end
def PH (qx:Bool)(X:Cx)(hs:List ExceptHandler)(th:Addr->Addr->Option Addr->TS):Prop:=∀(pins:List (Addr×Obj)) (s:Shared) (σ:St) (H:Hp) (x C:Addr) (dx:Option Addr) (T:Addr) (D:Ends),Inv X pins σ H s->XOn qx X pins H s x C dx (some T) .none->th x C dx D σ H->
 wpAny (model X.prog X.w) X.A (handleBy (.ref x) X.env hs) (SP X pins D) X.xe s
noncomputable def Ends.unset (D:Ends)(i:Nat):Ends:={ nx:=λσ H=>D.nx (σ.set i none) H,rt:=D.rt,bk:=λσ H=>D.bk (σ.set i none) H,ct:=λσ H=>D.ct (σ.set i none) H }
section
variable {X:Cx}{n v:Str}{C':Addr}{bm':List Value}{p pos:Pos}{b₀:Stmt}{suite:List Stmt}{rest:List ExceptHandler}{ts:Addr->TS}{tr:Addr->Addr->Option Addr->TS}{i:Nat}
def ZG (K:PySem.W.Frag)(C':Addr)(i:Nat)(ts:Addr->TS)(tr:Addr->Addr->Option Addr->TS):Addr->Addr->Option Addr->TS:=λx C dx D σ H=>∃bm,XCl K C bm/\
 if (Value.ref C :: bm).contains (.ref C')=true then ts x (D.unset i) (σ.set i (some (.ref x))) H else tr x C dx D σ H
theorem X8 (hg:Gl X n)(hm:X.mg n=some (.ref C'))(c':XCl X.K C' bm')(hN:X.N.Nodup)(hi:X.N[i]?=some v)(hl:X.env.scope.names.lookup v=some .local)(hb:∀x,PSs (X.mark x) (b₀ :: suite) (ts x))(hr:PH qx X rest tr)
 (hdb:(n == ("__debug__" : Str))=false:=by decide):PH qx X (.ExceptHandler (some (.Name n p)) (some v) (b₀ :: suite) pos :: rest) (ZG X.K C' i ts tr):=by
 intro pins s σ H x C dx T D I o ⟨bm,c,q⟩;have Im:=I.mark x;refine wpAny_handleBy_cons (codeAny_handlers_test (CI Im hg hm ?_ hdb)) (by intro z;cases z)
 refine Hw c c' I.kIn o.rc ?_
 cases hc:(Value.ref C :: bm).contains (.ref C') with
 | false=>
   rw [hc,if_neg (by decide)] at q;exact hr pins s σ H x C dx T D I o q
 | true=>
   rw [hc,if_pos rfl] at q;refine codeAny_handlers_suite_as ?_;refine DK none I o (.inl rfl) λh1 I1 o1=>?_;refine E8 (v:=.ref x) I1 hN hi (.inl hl) rfl (λs2 I2=>?_) (.inr hl);refine wpAny_mono (hb x pins s2 _ H _ (I2.mark x) q) (λf s3 z=>?_) λ_ _ z=>z.elim;show wpAny _ _ _ _ _ _;have J:=I.ok
   cases f with
   | next=>obtain ⟨σ',H',I',q'⟩:=z;exact F3 (I'.unmark J) hN hi hl λs4 I4=>⟨_,H',I4,q'⟩
   | brk=>obtain ⟨σ',H',I',q'⟩:=z;exact F3 (I'.unmark J) hN hi hl λs4 I4=>⟨_,H',I4,q'⟩
   | cont=>obtain ⟨σ',H',I',q'⟩:=z;exact F3 (I'.unmark J) hN hi hl λs4 I4=>⟨_,H',I4,q'⟩
   | ret u=>obtain ⟨w,σ',H',I',r,q'⟩:=z;exact F3 (I'.unmark J) hN hi hl λs4 I4=>⟨w,_,H',I4,r,q'⟩
def ZH (K:PySem.W.Frag)(C':Addr)(ts:TS)(tr:Addr->Addr->Option Addr->TS):Addr->Addr->Option Addr->TS:=λx C dx D σ H=>∃bm,XCl K C bm/\
 if (Value.ref C :: bm).contains (.ref C')=true then ts D σ H else tr x C dx D σ H
theorem X9 {ts:TS}(hg:Gl X n)(hm:X.mg n=some (.ref C'))(c':XCl X.K C' bm')(hb:∀x,PSs (X.mark x) (b₀ :: suite) ts)(hr:PH qx X rest tr)
 (hdb:(n == ("__debug__" : Str))=false:=by decide):PH qx X (.ExceptHandler (some (.Name n p)) none (b₀ :: suite) pos :: rest) (ZH X.K C' ts tr):=by
 intro pins s σ H x C dx T D I o ⟨bm,c,q⟩;have Im:=I.mark x;refine wpAny_handleBy_cons (codeAny_handlers_test (CI Im hg hm ?_ hdb)) (by intro z;cases z)
 refine Hw c c' I.kIn o.rc ?_
 cases hc:(Value.ref C :: bm).contains (.ref C') with
 | false=>
   rw [hc,if_neg (by decide)] at q;exact hr pins s σ H x C dx T D I o q
 | true=>
   rw [hc,if_pos rfl] at q;refine codeAny_handlers_suite ?_;refine DK none I o (.inl rfl) λh1 I1 o1=>?_;exact wpAny_mono (hb x pins _ _ H _ (I1.mark x) q) (λf s3 z=>z.unmark I.ok) λ_ _ z=>z.elim
theorem WL {body:List Stmt}{h₀:ExceptHandler}{hs:List ExceptHandler}{tb:(St->XK)->TS}{th:Addr->Addr->Option Addr->TS}(h1:X.stack=X.env :: X.outer)(h2:X.env.frame=some X.env.locals)
 (hb:∀(pn:List (Addr×Obj)) (E:St->XK),PSs { X with pn:=pn,xe:=XE qx { X with pn:=pn } E } body (tb E)) (hh:PH qx X (h₀ :: hs) th) :
 PS X (.Try body (h₀ :: hs) [] [] pos) (λD σ H=>tb (λσ' v dx H'=>∀x C,v = .ref x->H' x=some (.ext (F2.XIs qx x C dx))->(∃h,F2.XIs qx x C dx h)->th x C dx D σ' H') D σ H):=by
 intro pins s σ H D I q;refine wpAny_Try_except ?_;refine wpAny_mono (hb (X.pn++pins) _ [] s σ H D (I.repin λp hp=>by simpa using hp) q) (λf s1 z=>?_) λe s1 z=>?_
 ·have back:∀{σ':St} {H':Hp},Inv { X with pn:=X.pn++pins,xe:=XE qx { X with pn:=X.pn++pins } (λσ' v dx H'=>∀x C,v = .ref x->H' x=some (.ext (F2.XIs qx x C dx))->(∃h,F2.XIs qx x C dx h)->th x C dx D σ' H') } [] σ' H' s1->Inv X pins σ' H' s1:=λJ=>J.repin (X:={ X with pn:=X.pn++pins,xe:=_ }) (pn':=X.pn) (pins':=pins) (xe:=X.xe) λp hp=>by simpa using hp
  cases f with
  | next=>obtain ⟨σ',H',J,q'⟩:=z;exact wpAny_execs_nil ⟨σ',H',back J,q'⟩
  | brk=>obtain ⟨σ',H',J,q'⟩:=z;exact ⟨σ',H',back J,q'⟩
  | cont=>obtain ⟨σ',H',J,q'⟩:=z;exact ⟨σ',H',back J,q'⟩
  | ret u=>obtain ⟨w,σ',H',J,r,q'⟩:=z;exact ⟨w,σ',H',back J,r,q'⟩
 ·obtain ⟨pins',σ',H',x,C,dx,T,fl,rfl,J,o,q'⟩:=z;have J1:Inv X pins σ' H' s1:=J.repin (X:={ X with pn:=X.pn++pins }) (pn':=X.pn) (pins':=pins) (xe:=X.xe) λp hp=>by
   simp only [List.mem_append] at hp ⊢;exact .inl hp
  have o1:XOn qx X pins H' s1 x C dx T fl:=⟨o.hx,o.nx,o.rc,λa e=>by
   obtain ⟨z1,z2,z3,⟨y1,y2,y3⟩,z5⟩:=o.tb a e;exact ⟨z1,z2,z3,⟨y1,y2,λp hp=>y3 p (by simp only [List.mem_append] at hp ⊢;exact .inl hp)⟩,z5⟩,o.fo⟩
  refine E2 J1.ok.frames J1 h1 h2 o1 λh' a I' o'=>DK none I' o' (.inl rfl) λh'' I'' o''=>?_;exact hh pins _ σ' H' x C dx a D I'' o'' (q' x C rfl o.hx ⟨_,o.rc.is⟩)
end
end L2
namespace F2
open PySem L2 PySem.Spec
variable {qx:Bool}
noncomputable def AY:D->Bool
 | .exc _ _=>true
 | _=>false
def exE (E:XK)(v:V)(H:Hp):Prop:=∀x dx,v = .ref x->E (.ref x) dx H
section
variable (K:PySem.W.Frag)
inductive RX (E:L2.St->XK)(f:M D)(σ:L2.St)(H:Hp)(Q:VK):Prop where
 | mk (Oo:Addr->Prop) (c:Cf) (t:T) (fi:FInv K Oo c t σ H) (r:D) (t':T) (e:f t=some (r,t')) (k:∀v H' c',FInv K Oo c' t' σ H'->Stp Oo c H c' H'->Rep K c' H' v r->if AY r=true then exE (E σ) v H' else Q v H'):RX E f σ H Q
def μX (E:XK):Cf->Hp->D->(V->Hp->Prop)->Prop:=λc H r rt=>∀v,Rep K c H v r->if AY r=true then exE E v H else rt v H
inductive RSX (E:L2.St->XK)(f:M Out)(D:Ends)(σ:L2.St)(H:Hp):Prop where
 | mk (Oo:Addr->Prop) (c:Cf) (t:T) (fi:FInv K Oo c t σ H) (o:Out) (t':T) (e:f t=some (o,t')) (k:∀σ' H' c',FInv K Oo c' t' σ' H'->Stp Oo c H c' H'->
 match (generalizing:=false) o with
 | .next=>D.nx σ' H'
 | .brk=>D.bk σ' H'
 | .cont=>D.ct σ' H'
 | .ret r=>∀v,Rep K c' H' v r->if AY r=true then exE (E σ') v H' else D.rt v H'):RSX E f D σ H
inductive spX (f:Fn)(vs:List V)(H:Hp)(Q:VK)(E:XK):Prop where
 | mk (c:Cf) (ds:List D) (S:List Ob) (si:SInv K c S H) (rs:Reps K c H vs ds) (r:D) (S':List Ob) (e:f ds S=some (r,S')) (k:∀v H' c',SInv K c' S' H'->Stp c.O c H c' H'->(∀b,c'.O b↔c.O b)->Rep K c' H' v r->if AY r=true then exE E v H' else Q v H'):spX f vs H Q E
end
def aU (g:Fn):Fn:=λds S=>match g ds S with
 | some (r,S')=>if AY r=true then none else some (r,S')
 | none=>none
variable {x:Str}{fa:Addr}{fd:FuncData}
section
variable {P:Program}{w:World}{K:PySem.W.Frag}{mg:Str->Option Value}{base:Heap}
theorem Me {qual:Str}{st:Stmt}{N ps:List Str}{k n m:Nat}{g:M Out}(e1:ps.length=n)(e2:N.length=m)(F:Fun K x qual st fa fd)(S:FnScope N ps (Ao st))
 (hb:∀(cdv:Value) (A:Around) (outer:List Env) (s:Shared) (H:Hp) (E:XK),Room k (A.deeper (PyProof.Rows.envOfC qual (Ao st) s.heap.objs.size fa cdv))->
   Cc (CX1 qx P w) (cxX qx P w K mg base N qual (Ao st) fa cdv A outer s H E) (λ_=>E)->Fv qx (cxX qx P w K mg base N qual (Ao st) fa cdv A outer s H E) (λ_=>E)->
   PassesOwn (model P w) (cxX qx P w K mg base N qual (Ao st) fa cdv A outer s H E).A (cxX qx P w K mg base N qual (Ao st) fa cdv A outer s H E).env (cxX qx P w K mg base N qual (Ao st) fa cdv A outer s H E).xe->
   PSs (cxX qx P w K mg base N qual (Ao st) fa cdv A outer s H E) (Bj st) (RSg K (μX K E) g)):FnOk P w K mg base (CX1 qx P w) (k + 1) fa fd ps (spX K (fnOf n m g)):=by
 subst e1 e2;have hlen:∀{ds:List D} {S:List Ob} {z:D×List Ob},fnOf ps.length N.length g ds S=some z->ds.length=ps.length:=λ{ds S z} h=>by
  unfold fnOf at h
  split at h
  ·next h1=>exact h1
  ·cases h
 refine F.okX S (λvs H Q E h=>?_) (λcdv A outer s H vs Q E hr h=>?_)
 ·obtain ⟨c,ds,S,si,rs,r,S',e,_⟩:=h;rw [rs.length];exact hlen e
 obtain ⟨c,ds,S0,si,rs,r,S',e,kk⟩:=h;refine ⟨RSg K (μX K E) g,hb cdv A outer s H E hr XE.pass XE.raises (XE.own rfl rfl),?_⟩;have hl:=hlen e;unfold fnOf at e;rw [if_pos hl] at e
 cases eg:g ⟨env0 N.length ds,S0⟩ with
 | none=>rw [eg] at e;cases e
 | some p=>
   obtain ⟨o,t⟩:=p;rw [eg] at e;refine ⟨c.O,c,_,Ik si rs,o,t,eg,λσ' H' c' f' s'=>?_⟩;obtain ⟨si',ext'⟩:=f'.leave;have st':Stp c.O c H ⟨c'.ι,c.O⟩ H':=⟨s'.ext.trans ext',s'.oo⟩
   cases o with
   | next=>cases e;exact kk .non H' _ si' st' (λ_=>Iff.rfl) .non
   | ret d=>cases e;exact λv rv=>kk v H' _ si' st' (λ_=>Iff.rfl) (rv.mono ext')
   | brk=>cases e
   | cont=>cases e
theorem MJ {ps:List Str}{k:Nat}{f g:Fn}(e:f=g)(h:FnOk P w K mg base (CX1 qx P w) k fa fd ps (spX K g)):FnOk P w K mg base (CX1 qx P w) k fa fd ps (spX K f):=by rw [e];exact h
end
variable {f g:M D}{r:D}
section
variable {X:Cx}{e a b:Expr}{es:List Expr}{pos:Pos}{E:L2.St->XK}{st:Stmt}
theorem GX {E:XK}{f:M Out}(h:PS X st (RSX X.K (λ_=>E) f)):PS X st (RSg X.K (μX X.K E) f):=A8 h λD σ H z9=>by
 obtain ⟨Oo,c,t,fi,o,t',eq,k⟩:=z9;refine ⟨Oo,c,t,fi,o,t',eq,λσ' H' c' f' s'=>?_⟩;have q:=k σ' H' c' f' s'
 cases o <;> exact q
theorem Mm {k:Nat}{ps:List Str}{g:Fn}{f:M (List D)}{p:Pos}(F:FnOk X.prog X.w X.K X.mg X.base (CX1 qx X.prog X.w) k fa fd ps (spX X.K g))(hr:Room k X.A)(hg:Gl X x)(hm:X.mg x=some (.ref fa))(hk:PySem.W.keepIn X.K (.ref fa)=true)(hb:Binds X.K fd ps [])
 (hx:Cc (CX1 qx X.prog X.w) X E) (ha:PA X (e :: es) (RA X.K f)) (hdb:(x == ("__debug__" : Str))=false:=by decide) (h1:A1 e=false:=by rfl) (h2:AU es=true:=by rfl) :
 PE X (.Call (.Name x p) (e :: es) [] pos) (RX X.K E (Af g f)):=
 AD (Rg F hr hg hm hk hb hx ha hdb (AX h1) (AK h2).1) λσ H Q z9=>by
  obtain ⟨Oo,c,t,fi,r,t',eq,kk⟩:=z9;obtain ⟨ds,t1,e1,eq⟩:=Ag eq;obtain ⟨S',e2,rfl⟩:=Gc eq;refine ⟨Oo,c,t,fi,ds,t1,e1,λvs H1 c1 f1 s1 rvs=>?_⟩;refine ⟨c1,ds,t1.S,f1.s,rvs,r,S',e2,λv H' c' si st ho rv=>?_⟩;obtain ⟨f2,s2⟩:=f1.after si st ho;exact kk v H' c' f2 (s1.trans s2) rv
def nxD (f:M D):M D:=bnd f λd=>if AY d=true then fail else ret d
theorem K7 {t t':T}(h:nxD f t=some (r,t')):f t=some (r,t')/\AY r=false:=by
 obtain ⟨d,t1,e1,h⟩:=Ag h
 by_cases hx:AY d=true
 ·rw [if_pos hx] at h;cases h
 ·rw [if_neg hx] at h;cases h;exact ⟨e1,by simpa using hx⟩
theorem OV {A B:Prop}(h:AY r=false)(q:if AY r=true then A else B):B:=by rw [if_neg (by rw [h];decide)] at q;exact q
def IT (g:M D)(h:D->M D):M D:=bnd g λy=>if AY y=true then ret y else nxD (h y)
theorem RX.bind {K:PySem.W.Frag}{h:D->M D}{σ:L2.St}{H:Hp}{Q:VK}{Oo:Addr->Prop}{c:Cf}{t t':T}(fi:FInv K Oo c t σ H)(eq:IT g h t=some (r,t'))
 (k:∀v H' c',FInv K Oo c' t' σ H'->Stp Oo c H c' H'->Rep K c' H' v r->if AY r=true then exE (E σ) v H' else Q v H') {R:V->Hp->Prop}
 (s:∀y dy t1 H1 c1,FInv K Oo c1 t1 σ H1->Stp Oo c H c1 H1->Rep K c1 H1 y dy->h dy t1=some (r,t')->(∀v H' c',FInv K Oo c' t' σ H'->Stp Oo c1 H1 c' H'->Rep K c' H' v r->Q v H')->R y H1):RX K E g σ H R:=by
 obtain ⟨dy,t1,e1,eq⟩:=Ag eq;refine ⟨Oo,c,t,fi,dy,t1,e1,λy H1 c1 f1 s1 ry=>?_⟩
 by_cases hx:AY dy=true
 ·rw [if_pos hx] at eq ⊢
  cases eq
  have:=k y H1 c1 f1 s1 ry;rw [if_pos hx] at this;exact this
 ·rw [if_neg hx] at eq ⊢;obtain ⟨e2,e3⟩:=K7 eq;exact s y dy t1 H1 c1 f1 s1 ry e2 λv H' c' f' s' rv=>OV e3 (k v H' c' f' (s1.trans s') rv)
def GO (f g:M D)(h:D->D->M D):M D:=bnd f λx=>IT g λy=>h x y
theorem RX.two {K:PySem.W.Frag}{h:D->D->M D}{R:R2}(s:AZ K R h){σ:L2.St}{H:Hp}{Q:VK}(q:RX K E (GO f g h) σ H Q):tOp R (RE K f) (RX K E g) σ H Q:=by
 obtain ⟨Oo,c,t,fi,r,t',eq,k⟩:=q;obtain ⟨dx,t1,e1,eq⟩:=Ag eq;refine ⟨Oo,c,t,fi,dx,t1,e1,λx H1 c1 f1 s1 rx=>?_⟩;exact RX.bind f1 eq (λv H' c' f' s' rv=>k v H' c' f' (s1.trans s') rv) λy dy t2 H2 c2 f2 s2 ry e2 kk=>s f2 (rx.mono s2.ext) ry e2 kk
theorem XY {op:Operator}{R:R2}{h:D->D->M D}(ho:OpR X (binaryOp op) R)(s:AZ X.K R h)(ha:PE X a (RE X.K f))(hb:PE X b (RX X.K E g)):PE X (.BinOp a op b pos) (RX X.K E (GO f g h)):=
 AD (NT ho ha hb) λ_ _ _ q=>RX.two s q
def aL (f g:M D)(h:D->D->M D):M D:=IT f λx=>bnd g λy=>h x y
def aD (g:Fn)(f:M D):M D:=IT f λd t=>match g [d] t.S with
 | some (r,S')=>some (r,{ t with S:=S' })
 | none=>none
theorem Je (h:PE X e (RX X.K E f)):PS X (.Return (some e) pos) (RSX X.K E (Au f)):=
 A8 (Lf h) λD σ H z9=>by
  obtain ⟨Oo,c,t,fi,o,t',eq,k⟩:=z9;obtain ⟨d,t1,e1,eq⟩:=Ag eq
  cases eq
  exact ⟨Oo,c,t,fi,d,_,e1,λv H1 c1 f1 s1 rv=>k σ H1 c1 f1 s1 v rv⟩
def C5 (i:Nat)(f:M D):M Out:=bnd f λd=>if AY d=true then ret (.ret d) else bnd (Al i d) λ_=>ret .next
theorem Mj {i:Nat}{pos':Pos}(hN:X.N.Nodup)(hi:X.N[i]?=some x)(hx:Loc X.env.scope x)(he:PE X e (RX X.K E f))(hs:swapsWith e (some (.Name x pos')) pos.line X.env=pure false:=by rfl)(hf:X.fn x=true\/X.env.scope.names.lookup x=some .local:=by walk_at "h") :
 PS X (.Assign [.Name x pos'] e pos) (RSX X.K E (C5 i f)):=A8 (Lg hN hi hx he hs hf) λD σ H z9=>by
 obtain ⟨Oo,c,t,fi,o,t',eq,k⟩:=z9;obtain ⟨d,t1,e1,eq⟩:=Ag eq;refine ⟨Oo,c,t,fi,d,t1,e1,λv H1 c1 f1 s1 rv=>?_⟩
 by_cases hx:AY d=true
 ·rw [if_pos hx] at eq ⊢
  cases eq
  have:=k σ H1 c1 f1 s1 v rv;rw [if_pos hx] at this;exact this
 ·rw [if_neg hx] at eq ⊢
  cases eq
  exact k _ H1 c1 (f1.set rv) s1
def Ig (f:M D):M Out:=bnd f λd=>if AY d=true then ret (.ret d) else ret .next
theorem QI (h:PE X e (RX X.K E f))(hs:swapsWith e none pos.line X.env=pure false:=by rfl):PS X (.Expr e pos) (RSX X.K E (Ig f)):=
 A8 (Ji h hs) λD σ H z9=>by
  obtain ⟨Oo,c,t,fi,o,t',eq,k⟩:=z9;obtain ⟨d,t1,e1,eq⟩:=Ag eq;refine ⟨Oo,c,t,fi,d,t1,e1,λv H1 c1 f1 s1 rv=>?_⟩
  by_cases hx:AY d=true
  ·rw [if_pos hx] at eq ⊢
   cases eq
   have:=k σ H1 c1 f1 s1 v rv;rw [if_pos hx] at this;exact this
  ·rw [if_neg hx] at eq ⊢
   cases eq
   exact k σ H1 c1 f1 s1
def aQ (f:M D)(g:D->M Unit):M Out:=bnd f λd=>if AY d=true then ret (.ret d) else bnd (g d) λ_=>ret .next
theorem QL {f:M Out}(h:PS X st (RSX X.K E f)):PSs X [st] (RSX X.K E f):=GU h
end
end F2
namespace L2
open PySem PySem.Spec PyProof.Rows PySem.W PySem.Builtin PySem.Builtin.ObjectAttr
structure XGet (K:PySem.W.Frag)(C:Addr):Prop where
 ga:findIn K (.ref C) "__getattribute__" = some (some (.builtin "BaseException.__getattribute__"))
 gt:findIn K (.ref C) "__getattr__" = some none
 mb:mroIn K C (.type "BaseException")=some true
 mo:mroIn K C (.type "object")=some true
 hd:hasDictIn K C=true
section
variable {prog:Program}{w:World}{A:Around}{E:Value->Shared->Prop}{s:Shared}{K:PySem.W.Frag}{x C:Addr}{ox:Obj}{od:Option Obj}{name:Str}{tk:Tok}{Q:Value->Shared->Prop}{R:Result->Shared->Prop}
theorem OE {fill expr:Bool}(X:K.In s.heap)(I:InstAt s.heap x ox C od)(g:XGet K C)
 (h:codeAny (model prog w) A (.call (.builtin "BaseException.__getattribute__") ⟨[.ref x,.str name tk],[]⟩) (λr s'=>match r with | .ok (.ret v)=>wpAny (model prog w) A (handedOut v) Q E s' | _=>False) s) :
 wpAny (model prog w) A (getAttrBy (.ref x) (.str name tk) fill expr) Q E s:=by
 have L0:=I.type (M:=model prog w);have L1:=looks_findIn (M:=model prog w) X g.ga;have L2:=looks_findIn (M:=model prog w) X g.gt;have ne:(onTheHeap (Value.ref C) && Value.builtin "BaseException.__getattribute__" == Value.builtin "object.__getattribute__")=false:=by
  rw [show (Value.builtin "BaseException.__getattribute__" == Value.builtin "object.__getattribute__")=false from by decide +kernel];rfl
 unfold getAttrBy;refine wpAny_holding (wpAny_bind (L0.here (wpAny_bind (L1.here ?_))));show wpAny _ _ (if (onTheHeap (Value.ref C) && Value.builtin "BaseException.__getattribute__" == Value.builtin "object.__getattribute__")=true then _ else _) _ _ _;rw [if_neg (by rw [ne];decide)];unfold getAttrByItsOwn hookBefore;rw [if_pos (show onTheHeap (Value.ref C)=true from rfl)];refine wpAny_bind (L2.here (wpAny_bind (wpAny_attempt (wpAny_holding ?_))));unfold callGetattribute;rw [if_neg (show ¬((expr && onTheHeap (Value.builtin "BaseException.__getattribute__"))=true) from by cases expr <;> decide)];unfold boundAndCalled;refine wpAny_bind (wpAny_of_eq (PySem.F.excAttr_ValueError.ga.bind _) (wpAny_call (codeAny_mono h λr s' z=>?_)))
 cases r with
 | error e=>exact z.elim
 | ok f=>cases f <;> first | exact z | exact z.elim
theorem QM (X:K.In s.heap)(I:InstAt s.heap x ox C od)(g:XGet K C)
 (h:wpAny (model prog w) A.in1 («object.__getattribute__» ⟨[.ref x,.str name tk],[]⟩) (λfin s'=>match fin with | .done f=>R (.ok f) s' | .again c'=>c'.quiet=true/\codeAny (model prog w) A c' R s') (λe s'=>R (.error e) s') s) :
 codeAny (model prog w) A (.call (.builtin "BaseException.__getattribute__") ⟨[.ref x,.str name tk],[]⟩) R s:=by
 have ob:Looks (model prog w) s.heap (isInstance (.ref x) (.type "BaseException")) true:=I.type.andThen (looks_mroIn X g.mb);refine codeAny_call_builtin PySem.F.excAttr_ValueError.ga.plain PySem.F.entry_bexc_ga (@check_slot (model prog w) _ _ s "BaseException.__getattribute__" "BaseException" "__getattribute__" (.ref x) [.str name tk] [] _ (by decide +kernel) (by decide +kernel) ob (PySem.F.args_bexc_ga (.ref x) (.str name tk)) h)
theorem QN {v:Value}(X:K.In s.heap)(I:InstAt s.heap x ox C od)(g:XGet K C)(hf:findObj K C od name=some (.value v))(h:R (.ok (.ret v)) s) :
 codeAny (model prog w) A (.call (.builtin "BaseException.__getattribute__") ⟨[.ref x,.str name tk],[]⟩) R s:=by
 refine QM X I g ?_;have L0:=I.type (M:=model prog w);have L1:=looks_find (M:=model prog w) X I hf;refine wpAny_bind (wpAny_pure (wpAny_bind (wpAny_pure (wpAny_bind (L0.here (wpAny_bind (L1.here ?_)))))));exact wpAny_pure h
end
end L2
namespace L2
open PySem PySem.Spec PyProof.Rows PySem.W
end L2
namespace F2
open PySem L2 PySem.Spec PySem.W
variable {qx:Bool}
abbrev A5:List Str:=["Short", "Broken"]
structure XM (K:PySem.W.Frag)(mg:Str->Option Value)(P:Addr)(ca:Str->Addr):Prop where
 pm:mg "ParleyError" = some (.ref P)
 pc:XCl K P VE
 ns:∀n∈A5,nsIn K mainGlobals n=some (some (.ref (ca n)))
 ms:∀n∈A5,mg n=some (.ref (ca n))
 cl:∀n∈A5,XCl K (ca n) (.ref P :: VE)
 inj:∀n∈A5,∀m∈A5,ca n=ca m->n=m
 np:∀n∈A5,ca n≠P
 kp:∀n∈A5,keepIn K (.ref (ca n))=true
 gt:∀n∈A5,XGet K (ca n)
 gc:∀n∈A5,findIn K (.ref (ca n)) "__class__" = some (some (.builtin "object.__class__"))
 na:∀n∈A5,findIn K (.ref (ca n)) "at" = some none
 nd:∀n∈A5,findIn K (.ref (ca n)) "side" = some none
noncomputable def DX (n m:Str):Bool:=m == "ParleyError" || m == "ValueError" || n == m
theorem Gf {a b:Addr}{r:List Value}:(Value.ref a :: r).contains (.ref b)=(a == b || r.contains (.ref b)):=by
 rw [List.contains_cons]
 congr 1
 by_cases h:a=b
 ·subst h;simp
 ·rw [beq_eq_false_iff_ne.mpr h,beq_eq_false_iff_ne.mpr (λz:Value.ref b=Value.ref a=>h (Value.ref.inj z).symm)]
theorem Vj {b:Addr}:VE.contains (.ref b)=false:=rfl
section
variable {K:PySem.W.Frag}{mg:Str->Option Value}{P:Addr}{ca:Str->Addr}
theorem XM.subE (x:XM K mg P ca){n m:Str}(hn:n∈A5)(hm:m∈A5):(Value.ref (ca n) :: .ref P :: VE).contains (.ref (ca m))=DX n m:=by
 rw [Gf,Gf,Vj,beq_eq_false_iff_ne.mpr (Ne.symm (x.np m hm)),Bool.or_false,Bool.or_false];have h1:(m == ("ParleyError" : Str))=false/\(m == ("ValueError" : Str))=false:=by
  simp only [A5,List.mem_cons,List.not_mem_nil,or_false] at hm;rcases hm with rfl | rfl <;> exact ⟨by decide,by decide⟩
 unfold DX;rw [h1.1,h1.2,Bool.false_or,Bool.false_or]
 by_cases h:n=m
 ·subst h;rw [beq_self_eq_true,beq_self_eq_true]
 ·rw [beq_eq_false_iff_ne.mpr h,beq_eq_false_iff_ne.mpr λz=>h (x.inj n hn m hm z)]
theorem XM.of (x:XM K mg P ca){n:Str}{C:Addr}(hn:n∈A5)(h:nsIn K mainGlobals n=some (some (.ref C))):C=ca n:=by
 rw [x.ns n hn] at h;injection h with h;injection h with h;injection h with h
 exact h.symm
end
theorem Vc {q1 q2:Bool}{x C C':Addr}{dx dx':Option Addr}(h:XIs q1 x C dx=XIs q2 x C' dx')(e:∃h,XIs q1 x C dx h):C=C'/\dx=dx':=by
 obtain ⟨hh,o,vs,e1,e2,e3,e4⟩:=e;have q:XIs q2 x C' dx' hh:=by rw [<-h];exact ⟨o,vs,e1,e2,e3,e4⟩
 obtain ⟨o',vs',q1,q2,q3,q4⟩:=q;rw [e1] at q1;cases q1
 rw [e2] at q2;cases q2
 exact ⟨rfl,e3.symm.trans q3⟩
section
variable {X:Cx}{e:Expr}{es:List Expr}{pos p pos2:Pos}{E:L2.St->XK}{P:Addr}{ca:Str->Addr}
def aG (n:Str)(f:M (List D)):M Out:=bnd f λds=>match ds with
 | [d]=>ret (.ret (.exc n [d]))
 | _=>fail
def XN0 (K:PySem.W.Frag)(C:Addr):Prop:=∃cd,clsIn K C=some cd/\nsIn K cd.ns "__init__" = some none
def GB (n:Str)(f:M (List D)):M Out:=bnd f λds=>if ds.length<=1000 then ret (.ret (.exc n [])) else fail
theorem OO {n:Str}{f:M (List D)}(x:XM X.K X.mg P ca)(hn:n∈A5)(hf:Ht n=[])(xn:XN0 X.K (ca n))(hc:X.calm=true)(hx:Fv qx X E)(hg:Gl X n)(ha:PA X (e :: es) (RA X.K f))
 (hdb:(n == ("__debug__" : Str))=false:=by decide) (h1:A1 e=false:=by rfl) (h2:AU es=true:=by rfl):PS X (.Raise (some (.Call (.Name n p) (e :: es) [] pos)) none pos2) (RSX X.K E (GB n f)):=by
 obtain ⟨cd,hcd,hni⟩:=xn;refine A8 (Le hc (x.cl n hn) hx (Uq (x.cl n hn) (x.kp n hn) hcd hni hg (x.ms _ hn) ha hdb (AX h1) (AK h2).1)) λD σ H z9=>?_;obtain ⟨Oo,c,t,fi,o,t',eq,k⟩:=z9;obtain ⟨ds,t1,e1,eq⟩:=Ag eq;refine ⟨Oo,c,t,fi,ds,t1,e1,λvs H1 c1 f1 s1 rvs=>?_⟩
 split at eq
 ·next hl=>
  cases eq
  refine ⟨by rw [rvs.length];exact hl,λy hy=>?_⟩;have f3:=f1.laid (o:=.ext (XIs qx y (ca n) none)) hy;exact k σ _ c1 f3 (s1.trans (f1.stp_laid hy)) (.ref y) (.exc (x.ns _ hn) Aj (f1.s.free hy) (vs:=[]) rfl .nil) y none rfl
 ·cases eq
end
section
variable {X:Cx}{pos p:Pos}{P:Addr}{ca:Str->Addr}{μ:Cf->Hp->D->(V->Hp->Prop)->Prop}
inductive RH (K:PySem.W.Frag)(ca:Str->Addr)(μ:Cf->Hp->D->(V->Hp->Prop)->Prop)(h:D->M Out)(x C:Addr)(dx:Option Addr)(E:Ends)(σ:L2.St)(H:Hp):Prop where
 | mk (Oo:Addr->Prop) (c:Cf) (t:T) (n:Str) (ds:List D) (fi:FInv K Oo c t σ H) (hn:n∈A5) (hC:C=ca n) (rp:Rep K c H (.ref x) (.exc n ds)) (o:Out) (t':T) (e:h (.exc n ds) t=some (o,t')) (k:∀σ' H' c',FInv K Oo c' t' σ' H'->Stp Oo c H c' H'->
   match (generalizing:=false) o with
   | .next=>E.nx σ' H'
   | .brk=>E.bk σ' H'
   | .cont=>E.ct σ' H'
   | .ret r=>μ c' H' r E.rt):RH K ca μ h x C dx E σ H
noncomputable def unE (i:Nat)(t:T):T:={ t with env:=t.env.set i none }
theorem FInv.unset {K:PySem.W.Frag}{Oo:Addr->Prop}{c:Cf}{t:T}{σ:L2.St}{H:Hp}(f:FInv K Oo c t σ H)(i:Nat):FInv K Oo c (unE i t) (σ.set i none) H:=by
 have neq:∀{j:Nat} {x:Sl},(t.env.set i none)[j]?=some (some x)->j≠i/\t.env[j]?=some (some x):=λ{j x} q=>by
  by_cases h:j=i
  ·subst h;rw [List.getElem?_set] at q
   split at q
   ·split at q
    ·injection q with q;cases q
    ·cases q
   ·next h1=>exact absurd rfl h1
  ·rw [List.getElem?_set_ne (Ne.symm h)] at q;exact ⟨h,q⟩
 refine ⟨f.s,by simp [unE,f.len],f.sub,λj e q=>?_,λj ds q=>?_,λj k ds es a q1 q2 q3 q4=>?_⟩
 ·obtain ⟨h,q⟩:=neq q;obtain ⟨u,h1,h2⟩:=f.val j e q;exact ⟨u,by rw [List.getElem?_set_ne (Ne.symm h)];exact h1,h2⟩
 ·obtain ⟨h,q⟩:=neq q;obtain ⟨a,vs,h1,h2⟩:=f.own j ds q;exact ⟨a,vs,by rw [List.getElem?_set_ne (Ne.symm h)];exact h1,h2⟩
 ·obtain ⟨h,q1⟩:=neq q1;obtain ⟨h',q2⟩:=neq q2;rw [List.getElem?_set_ne (Ne.symm h)] at q3;rw [List.getElem?_set_ne (Ne.symm h')] at q4;exact f.inj j k ds es a q1 q2 q3 q4
def hAs (n':Str)(i:Nat)(s:M Out)(r:D->M Out):D->M Out:=λe t=>match e with
 | .exc n ds=>if DX n n'=true then (match s { t with env:=t.env.set i (some (.val (.exc n ds))) } with
   | some (o,t2)=>some (o,unE i t2)
   | none=>none) else r (.exc n ds) t
 | _=>none
def hNo (n':Str)(s:M Out)(r:D->M Out):D->M Out:=λe t=>match e with
 | .exc n ds=>if DX n n'=true then s t else r (.exc n ds) t
 | _=>none
noncomputable def Ny:D->M Out:=λ_ _=>none
theorem VN:PH qx X [] (RH X.K ca μ Ny):=by
 rintro _ _ _ _ _ _ _ _ _ _ _ ⟨_,_,_,_,_,_,_,_,_,_,_,e,_⟩
 cases e
theorem XS {n' v:Str}{C':Addr}{bm':List Value}{i:Nat}{b₀:Stmt}{suite:List Stmt}{rest:List ExceptHandler}{s:M Out}{r:D->M Out}(x:XM X.K X.mg P ca)(hg:Gl X n')(hm:X.mg n'=some (.ref C'))(c':XCl X.K C' bm')(hs:∀n∈A5,(Value.ref (ca n) :: .ref P :: VE).contains (.ref C')=DX n n')
 (hN:X.N.Nodup) (hi:X.N[i]?=some v) (hl:X.env.scope.names.lookup v=some .local) (hb:∀x,PSs (X.mark x) (b₀ :: suite) (RSg X.K μ s)) (hr:PH qx X rest (RH X.K ca μ r)) (hdb:(n' == ("__debug__" : Str))=false:=by decide) :
 PH qx X (.ExceptHandler (some (.Name n' p)) (some v) (b₀ :: suite) pos :: rest) (RH X.K ca μ (hAs n' i s r)):=by
 intro pins s0 σ H y C dx T D I o q;refine X8 hg hm c' hN hi hl hb hr hdb pins s0 σ H y C dx T D I o ?_;obtain ⟨Oo,c,t,n,ds,fi,hn,rfl,rv,o1,t',eq,k⟩:=q;refine ⟨_,x.cl n hn,?_⟩;rw [hs n hn];unfold hAs at eq;dsimp only at eq
 by_cases hb':DX n n'=true
 ·rw [if_pos hb'] at eq ⊢
  cases e1:s { t with env:=t.env.set i (some (.val (.exc n ds))) } with
  | none=>rw [e1] at eq;cases eq
  | some z=>
    obtain ⟨o2,t2⟩:=z;rw [e1] at eq
    cases eq
    refine ⟨Oo,c,_,fi.set rv,o1,t2,e1,λσ' H' c2 f2 s2=>?_⟩;have:=k _ H' c2 (f2.unset i) s2
    cases o1 <;> exact this
 ·rw [if_neg hb'] at eq ⊢;exact ⟨Oo,c,t,n,ds,fi,hn,rfl,rv,o1,t',eq,k⟩
theorem Sm {n':Str}{C':Addr}{bm':List Value}{b₀:Stmt}{suite:List Stmt}{rest:List ExceptHandler}{s:M Out}{r:D->M Out}(x:XM X.K X.mg P ca)(hg:Gl X n')(hm:X.mg n'=some (.ref C'))(c':XCl X.K C' bm')(hs:∀n∈A5,(Value.ref (ca n) :: .ref P :: VE).contains (.ref C')=DX n n')
 (hb:∀x,PSs (X.mark x) (b₀ :: suite) (RSg X.K μ s)) (hr:PH qx X rest (RH X.K ca μ r)) (hdb:(n' == ("__debug__" : Str))=false:=by decide) :
 PH qx X (.ExceptHandler (some (.Name n' p)) none (b₀ :: suite) pos :: rest) (RH X.K ca μ (hNo n' s r)):=by
 intro pins s0 σ H y C dx T D I o q;refine X9 hg hm c' hb hr hdb pins s0 σ H y C dx T D I o ?_;obtain ⟨Oo,c,t,n,ds,fi,hn,rfl,rv,o1,t',eq,k⟩:=q;refine ⟨_,x.cl n hn,?_⟩;rw [hs n hn];unfold hNo at eq;dsimp only at eq
 by_cases hb':DX n n'=true
 ·rw [if_pos hb'] at eq ⊢;exact ⟨Oo,c,t,fi,o1,t',eq,λσ' H' c2 f2 s2=>by
   have:=k _ H' c2 f2 s2
   cases o1 <;> exact this⟩
 ·rw [if_neg hb'] at eq ⊢;exact ⟨Oo,c,t,n,ds,fi,hn,rfl,rv,o1,t',eq,k⟩
noncomputable def DY (b:M Out)(h:D->M Out):M Out:=λt=>match b t with
 | some (.ret (.exc n ds),t1)=>if n∈A5 then h (.exc n ds) t1 else none
 | z=>z
theorem OR {body:List Stmt}{h₀:ExceptHandler}{hs:List ExceptHandler}{b:M Out}{h:D->M Out}(x:XM X.K X.mg P ca)(hμ:∀c H r rt,AY r=false->(∀v,Rep X.K c H v r->rt v H)=μ c H r rt)(h1:X.stack=X.env :: X.outer)(h2:X.env.frame=some X.env.locals)
 (hb:∀(pn:List (Addr×Obj)) (E:L2.St->XK),Cc (CX1 qx X.prog X.w) { X with pn:=pn,xe:=XE qx { X with pn:=pn } E } E->PSs { X with pn:=pn,xe:=XE qx { X with pn:=pn } E } body (RSX X.K E b)) (hh:PH qx X (h₀ :: hs) (RH X.K ca μ h)):PS X (.Try body (h₀ :: hs) [] [] pos) (RSg X.K μ (DY b h)):=
 A8 (WL h1 h2 (λpn E=>hb pn E (XE.pass (X:={ X with pn:=pn }))) hh) λD σ H z9=>by
  obtain ⟨Oo,c,t,fi,o,t',eq,k⟩:=z9;unfold DY at eq
  cases e1:b t with
  | none=>rw [e1] at eq;cases eq
  | some z=>
    obtain ⟨o1,t1⟩:=z;rw [e1] at eq;refine ⟨Oo,c,t,fi,o1,t1,e1,λσ1 H1 c1 f1 s1=>?_⟩
    cases o1 with
    | next=>cases eq;exact k σ1 H1 c1 f1 s1
    | brk=>cases eq;exact k σ1 H1 c1 f1 s1
    | cont=>cases eq;exact k σ1 H1 c1 f1 s1
    | ret r=>
      intro v rv
      cases hx:AY r with
      | false=>
        rw [if_neg (by decide)];have eq':some (Out.ret r,t1)=some (o,t'):=by cases r <;> first | exact eq | cases hx
        cases eq'
        have q:=k σ1 H1 c1 f1 s1;have q:μ c1 H1 r D.rt:=q;rw [<-hμ _ _ _ _ hx] at q;exact q v rv
      | true=>
        rw [if_pos rfl];intro y dx hv y' C hy' hC hex
        cases rv with
        | @exc q0 x0 C0 dx0 n vs ds g hx0 hA fl rs=>
          cases hv
          cases hy'
          dsimp only at eq
          split at eq
          ·next hn=>
           rw [hx0] at hC;injection hC with hC;injection hC with hC
           obtain ⟨e2,e3⟩:=Vc hC.symm hex;have:=x.of hn g;exact ⟨Oo,c1,t1,n,ds,f1,hn,e2.trans this,.exc g hx0 hA fl rs,o,t',eq,λσ' H' c' f' s'=>k σ' H' c' f' (s1.trans s')⟩
          ·cases eq
        | _=>cases hx
end
end F2
namespace F2
open PySem L2 PySem.Spec PySem.W
variable {qx:Bool}
def aT (n:Str):D->M D
 | .exc m _=>if m∈A5 then ret (.bl (DX m n)) else fail
 | .non=>ret (.bl false)
 | .bl _=>ret (.bl false)
 | .int _=>ret (.bl false)
 | .str _=>ret (.bl false)
 | .lst _=>ret (.bl false)
 | .tup _=>ret (.bl false)
 | .dic=>ret (.bl false)
 | _=>fail
section
variable {X:Cx}{P:Addr}{ca:Str->Addr}{a:Expr}{f:M D}{p pos q:Pos}
def FI (nm:Str):D->M D
 | .exc n ds=>if n∈A5 then (match ((Ht n).zip ds).lookup nm with
   | some d=>ret d
   | none=>fail) else fail
 | _=>fail
theorem Hk {K:PySem.W.Frag}{c:Cf}{H:Hp}{nm:Str}{d:D}:∀{ns:List Str} {vs:List V} {ds:List D},Reps K c H vs ds->(ns.zip ds).lookup nm=some d->∃v,(ns.zip vs).lookup nm=some v/\Rep K c H v d
 | [],_,_,_,e=>by cases e
 | _ :: _,_,_,.nil,e=>by cases e
 | n :: ns,_,_,.cons (v:=v0) (d:=d0) r rs,e=>by
   by_cases h:nm=n
   ·subst h;simp only [List.zip_cons_cons,List.lookup,beq_self_eq_true,Option.some.injEq] at e ⊢;subst e;exact ⟨v0,rfl,r⟩
   ·have hb:(nm == n)=false:=beq_eq_false_iff_ne.mpr h;simp only [List.zip_cons_cons,List.lookup,hb] at e ⊢;exact Hk rs e
theorem OG {nm:Str}(x:XM X.K X.mg P ca)(hno:∀n∈A5,findIn X.K (.ref (ca n)) nm=some none)(ha:PE X a (RE X.K f))(hb:attributeBase a nm X.env (eval a X.env)=eval a X.env):PE X (.Attribute a nm pos) (RE X.K (bnd f (FI nm))):=by
 intro pins s σ H Q I h;obtain ⟨Oo,c0,t,fi,r,t',eq,k⟩:=h;obtain ⟨d,t1,e1,eq⟩:=Ag eq;refine L4 hb (thn (ha pins s σ H (λv H1=>∃c1,FInv X.K Oo c1 t1 σ H1/\Stp Oo c0 H c1 H1/\Rep X.K c1 H1 v d) I ⟨Oo,c0,t,fi,d,t1,e1,λv H1 c1 f1 s1 rv=>⟨c1,f1,s1,rv⟩⟩) λu s1 z9=>?_);obtain ⟨v,H1,I1,rx,c1,f1,st1,rv⟩:=z9
 cases rv with
 | @exc q0 x0 C0 dx0 m vs ds g hx0 hA fl rs=>
   cases (show u=Value.ref x0 from rx)
   unfold FI at eq;dsimp only at eq
   split at eq
   ·next hm=>
    have hc:=x.of hm g;subst hc
    cases el:((Ht m).zip ds).lookup nm with
    | none=>rw [el] at eq;cases eq
    | some d'=>
      rw [el] at eq
      cases eq
      obtain ⟨v',l1,r1⟩:=Hk rs el
      cases dx0 with
      | none=>
        have fl:vs=[]:=fl;subst fl;simp at l1
      | some dd=>
        have hdd:H1 dd=some (.xd ((Ht m).zip vs)):=fl.1;obtain ⟨o,vs0,q1,q2,q3,q4,_⟩:=(I1.hok x0 _ hx0).1;have nc:notCls o=true:=by unfold notCls;rw [q4]
        obtain ⟨mA,nA,rA⟩:=(show ObjOk X.prog X.w H1 s1.heap dd (.xd ((Ht m).zip vs)) from I1.hok dd _ hdd);obtain ⟨od,ho,hl⟩:=Gp nA;obtain ⟨u',hu,ru⟩:=RelO.some_of (v:=v') (o:=mA nm) (by rw [<-l1];exact rA nm);have IA:InstAt s1.heap x0 o (ca m) (some od):=⟨q1,q2,nc,by rw [q3];exact ho⟩;unfold getAttr;refine wpAny_bind (wpAny_mkText ?_);refine OE (s:={ s1 with toks:=s1.toks + 1 }) I1.kIn IA (x.gt m hm) (QN I1.kIn IA (x.gt m hm) (findObj_own (x.gt m hm).hd (hno m hm) rfl (by rw [hl,hu])) ?_);exact handed_on (JH ru) ⟨v',H1,I1.tok _,ru,k v' H1 c1 f1 st1 r1⟩
   ·cases eq
 | _=>cases eq
end
end F2
namespace F2
open PySem L2 PySem.Spec PySem.W
variable {qx:Bool}
def Of (K:PySem.W.Frag)(P c:Addr):Bool:=Kf K c (.ref P :: VE) && keepIn K (.ref c) && findIn K (.ref c) "__getattribute__" == some (some (.builtin "BaseException.__getattribute__")) && findIn K (.ref c) "__getattr__" == some none && mroIn K c (.type "BaseException") == some true
 && mroIn K c (.type "object") == some true && hasDictIn K c && findIn K (.ref c) "__class__" == some (some (.builtin "object.__class__")) && findIn K (.ref c) "at" == some none && findIn K (.ref c) "side" == some none
structure XOne (K:PySem.W.Frag)(P c:Addr):Prop where
 cl:XCl K c (.ref P :: VE)
 kp:keepIn K (.ref c)=true
 gt:XGet K c
 gc:findIn K (.ref c) "__class__" = some (some (.builtin "object.__class__"))
 na:findIn K (.ref c) "at" = some none
 nd:findIn K (.ref c) "side" = some none
variable {K:PySem.W.Frag}
theorem MY {P c:Addr}(h:Of K P c=true):XOne K P c:=by
 unfold Of at h;simp only [Bool.and_eq_true,beq_iff_eq] at h;obtain ⟨⟨⟨⟨⟨⟨⟨⟨⟨h1,h2⟩,h3⟩,h4⟩,h5⟩,h6⟩,h7⟩,h8⟩,h9⟩,h10⟩:=h;exact ⟨.of_in h1,h2,⟨h3,h4,h5,h6,h7⟩,h8,h9,h10⟩
noncomputable def Ku (c1 c2:Addr):Str->Addr:=λn=>if n = "Short" then c1 else c2
theorem Cd {Q:Str->Prop}(h1:Q "Short")(h2:Q "Broken"):∀n∈A5,Q n:=by
 intro n hn;simp only [A5,List.mem_cons,List.not_mem_nil,or_false] at hn;rcases hn with rfl | rfl <;> assumption
def Oe (K:PySem.W.Frag)(P:Addr)(cs:List Addr):Bool:=Kf K P VE && cs.all (Of K P)
theorem Y8 {h:Heap}{mg:Str->Option Value}{P c1 c2:Addr}(X:K.In h)(G:h.Ns mainGlobals mg)(p:nsIn K mainGlobals "ParleyError" = some (some (.ref P)))(a1:nsIn K mainGlobals "Short" = some (some (.ref c1)))(a2:nsIn K mainGlobals "Broken" = some (some (.ref c2)))(q:Oe K P [c1,c2]=true)(nd:[P,c1,c2].Nodup):XM K mg P (Ku c1 c2):=by
 unfold Oe at q;simp only [List.all_cons,List.all_nil,Bool.and_true,Bool.and_eq_true] at q;obtain ⟨q0,q1,q2⟩:=q;have o1:=MY q1;have o2:=MY q2;have inj:∀n∈A5,∀m∈A5,Ku c1 c2 n=Ku c1 c2 m->n=m:=by
  simp only [List.nodup_cons,List.mem_cons,List.not_mem_nil,or_false,not_or,List.nodup_nil,and_true] at nd;obtain ⟨⟨n1,n2⟩,m12,_⟩:=nd;have h1:Ku c1 c2 "Short" = c1:=rfl;have h2:Ku c1 c2 "Broken" = c2:=rfl;refine Cd ?_ ?_ <;> refine Cd ?_ ?_ <;> intro e <;> first | rfl | (exfalso;rw [h1] at e) | (exfalso;rw [h2] at e)
  all_goals (first | rw [h1] at e | rw [h2] at e)
  all_goals (first | contradiction | (have e:=e.symm;contradiction))
 refine ⟨mg_of X G p,.of_in q0,Cd a1 a2,Cd (mg_of X G a1) (mg_of X G a2),Cd o1.cl o2.cl,inj,?_,
  Cd o1.kp o2.kp,Cd o1.gt o2.gt,Cd o1.gc o2.gc,Cd o1.na o2.na,Cd o1.nd o2.nd⟩
 simp only [List.nodup_cons,List.mem_cons,List.not_mem_nil,or_false,not_or] at nd;obtain ⟨⟨n1,n2⟩,_⟩:=nd;exact Cd (Ne.symm n1) (Ne.symm n2)
noncomputable def CD (s:Stmt)(k:Nat):Stmt:=match s with
 | .ClassDef _ _ _ body _ _ _ _ _ _ _=>body.getD k (.Pass ⟨0,0,0,0⟩)
 | _=>.Pass ⟨0,0,0,0⟩
noncomputable def KQ (K:PySem.W.Frag)(C f:Addr):Bool:=match clsIn K C with
 | some cd=>nsIn K cd.ns "__init__" == some (some (.ref f))
 | none=>false
noncomputable def K4 (K:PySem.W.Frag)(C:Addr):Bool:=match clsIn K C with
 | some cd=>nsIn K cd.ns "__init__" == some none
 | none=>false
theorem XC {C:Addr}(h:K4 K C=true):XN0 K C:=by
 unfold K4 at h
 split at h
 ·next cd e=>exact ⟨cd,e,beq_iff_eq.mp h⟩
 ·cases h
end F2
namespace F2
open PySem L2 PySem.Spec PySem.W
inductive Kd where
 | pl | fr | ex | er
abbrev okK (k:Kd)(P:Program)(w:World)(K:PySem.W.Frag)(mg:Str->Option Value)(base:Heap)(n:Nat)(fa:Addr)(fd:FuncData)(ps:List Str)(f:Fn):Prop:=match k with
 | .pl=>FnOk P w K mg base CX0 n fa fd ps (spF K f)
 | .fr=>FnOk P w K mg base CX0 n fa fd ps (spFF K f)
 | .ex=>FnOk P w K mg base (CX1 true P w) n fa fd ps (spX K f)
 | .er=>FnOk P w K mg base (CX1 false P w) n fa fd ps (spX K f)
section
variable {X:Cx}{e a b:Expr}{pos:Pos}{f g:M D}
theorem Mi {E:XK}(h:PE X e (RE X.K f)):PS X (.Return (some e) pos) (RSg X.K (μX X.K E) (Au (nxD f))):=
 A8 (Lf h) λD σ H z9=>by
  obtain ⟨Oo,c,t,fi,o,t',eq,k⟩:=z9;obtain ⟨d,t1,e1,eq⟩:=Ag eq
  cases eq
  obtain ⟨e2,e3⟩:=K7 e1;exact ⟨Oo,c,t,fi,d,_,e2,λv H1 c1 f1 s1 rv=>OV e3 (k σ H1 c1 f1 s1 v rv)⟩
end
theorem Wi {K:PySem.W.Frag}:∀(c:Cf) (H:Hp) (r:D) (rt:V->Hp->Prop),AY r=false->(∀v,Rep K c H v r->rt v H)=μR K c H r rt:=λ_ _ _ _ _=>rfl
theorem Wj {K:PySem.W.Frag}{E:XK}:∀(c:Cf) (H:Hp) (r:D) (rt:V->Hp->Prop),AY r=false->(∀v,Rep K c H v r->rt v H)=μX K E c H r rt:=λc H r rt h=>by
 unfold μX;rw [h];rfl
variable {qx:Bool}
section
variable {X:Cx}{P:Addr}{ca:Str->Addr}{a:Expr}{es:List Expr}{f:M D}{p pos q:Pos}{i:Nat}{ns:List Str}
end
end F2
namespace F2
open PySem L2 PySem.Spec SeqAt
end F2
namespace L2
open PySem PySem.Spec PyProof.Rows PySem.W PySem.Builtin PySem.Builtin.ObjectAttr
variable {qx:Bool}
section
variable {prog:Program}{w:World}{A:Around}{s:Shared}{K:PySem.W.Frag}{x C P dx:Addr}{ox:Obj}{od:Option Obj}{R:Result->Shared->Prop}{name:Str}{v:Value}{tk:Tok}{cd:ClassData}
theorem Rf (X:K.In s.heap)(I:InstAt s.heap x ox C od)(hc:clsIn K C=some cd)(hmr:cd.mro=Fd C P)(ha:findIn K (.ref C) name=some none)
 (h:wpAny (model prog w) A.in1 (storeInOwnDict (.ref x) (.ref C) (.str name tk) name v false) (λfin s'=>match fin with | .done f=>R (.ok f) s' | .again c'=>c'.quiet=true/\codeAny (model prog w) A c' R s') (λe s'=>R (.error e) s') s) :
 codeAny (model prog w) A (.call (.builtin "object.__setattr__") ⟨[.ref x,.str name tk,v],[]⟩) R s:=by
 have SF:=PySem.F.store_object;have ob:Looks (model prog w) s.heap (isInstance (.ref x) (.type "object")) true:=I.type.andThen (looks_mroIn X (by unfold mroIn;rw [hc,Option.bind_some,hmr];rfl));refine codeAny_call_builtin SF.slot.plain SF.entry (@check_slot (model prog w) _ _ s "object.__setattr__" "object" "__setattr__" (.ref x) [.str name tk,v] [] _ SF.kind SF.split ob (SF.args (.ref x) (.str name tk) v) ?_);have mr:Looks (model prog w) s.heap (mroOf (.ref C)) (Fd C P):=by rw [<-hmr];exact (looks_clsIn X hc).andThen .now
 rw [osa_eq,refuse_eq];refine wpAny_bind (wpAny_bind (I.type.here (wpAny_bind (mr.here ?_))));rw [ID];refine wpAny_pure (wpAny_bind (I.type.here (wpAny_bind ((looks_findIn X ha).here ?_))));exact wpAny_bind (wpAny_pure h)
theorem RU {E:Value->Shared->Prop}{Q:Unit->Shared->Prop}{m:Str->Option Value}{a:Str}{oD:Obj}(X:K.In s.heap)(hx:s.heap.get? x=some ox)(hcl:ox.cls = .ref C)(hno:notCls ox=true)(hod:ox.dict=some dx)(hdx:s.heap.get? dx=some oD)(n1:s.heap.Ns1 dx m)(hm:PySem.Within m [a])(hs:findIn K (.ref C) "__setattr__" = some (some (.builtin "object.__setattr__")))(hc:clsIn K C=some cd)(hmr:cd.mro=Fd C P)(hd:cd.hasDict=true)(ha:findIn K (.ref C) name=some none)
 (h:∀h',(∀b o,b≠dx->s.heap.get? b=some o->h'.get? b=some o)->h'.Ns1 dx (λy=>if y=name then some v else m y)->Q () { s with heap:=h',toks:=s.toks + 2 }) :
 wpAny (model prog w) A (setAttr (.ref x) name v) Q E s:=by
 have I:InstAt s.heap x ox C (some oD):=⟨hx,hcl,hno,by rw [hod];exact hdx⟩;refine set_plain X I hs (Rf (s:={ s with toks:=s.toks + 1 }) X I hc hmr ha ?_);refine wpAny_bind (wpAny_pure (wpAny_bind (wpAny_bind (wpAny_loadPart (s:={ s with toks:=s.toks + 1 }) hx ?_))));rw [hod,hcl];refine wpAny_bind (Looks.here (s:={ s with toks:=s.toks + 1 }) (looks_clsIn X hc) ?_);rw [hd,if_neg (by decide)];refine wpAny_pure ?_;refine wpAny_bind (wpAny_pure (wpAny_bind ?_));refine wpAny_nsSet1 n1 λh' n2 sb=>?_;obtain ⟨oD,esD,epD,hoD,hdD,hcD⟩:=n2.count (PySem.Within.cons name v hm);refine wpAny_bind (wpAny_lookBehind hoD (by rw [hdD];exact pastItsLine_dict (Nat.le_trans hcD (by show 2<=_;decide))) ?_);exact wpAny_pure (h h' (λb o hb e=>(sb.2 b hb).trans e) n2)
end
def ZD (K:PySem.W.Frag)(P:Addr)(ta tv:TE)(f1 f:Str):TS:=λD σ H=>tv σ H λy H1=>ta σ H1 λx H2=>∃a C tp dx y1,x = .ref a/\H2 a=some (Fl a C tp dx)/\H2 dx=some (.xd [(f1,y1)])/\dx≠a/\XAt K C P f/\D.nx σ (upd H2 dx (.xd [(f1,y1),(f,y)]))
theorem PB {X:Cx}{P:Addr}{o value:Expr}{ta tv:TE}{f1 f:Str}{pos' pos:Pos}(hf:f1≠f)(ha:PE X o ta)(hv:PE X value tv)(hs:swapsWith value (some (.Attribute o f pos')) pos.line X.env=pure false):PS X (.Assign [.Attribute o f pos'] value pos) (ZD X.K P ta tv f1 f):=by
 intro pins s σ H D I h;refine plainObj_wpAny_Assign_Attribute (thn (hv pins s σ H _ I h) λu s1 ⟨y,H1,I1,ry,q⟩=>thn (ha pins s1 σ H1 _ I1 q) λov s2 z9=>?_) hs;obtain ⟨x,H2,I2,rx,a,C,tp,dx,y1,ex,ea,ed,ne,c,q2⟩:=z9;subst ex;obtain rfl:ov=Value.ref a:=rx;obtain ⟨cd,c1,c2,c3⟩:=c.cl.cls;have hx:s2.heap.get? a=some { excObj C tp with dict:=some dx }:=(I2.hok a _ ea).1;obtain ⟨m,n1,rm⟩:=(show ObjOk X.prog X.w H2 s2.heap dx (.xd [(f1,y1)]) from I2.hok dx _ ed);obtain ⟨oD,ho,_⟩:=Gp n1;have hw:PySem.Within m [f1]:=λg hg=>by
  by_cases e:g=f1
  ·simp [e]
  ·exfalso;have z:=rm g;have hgb:(g == f1)=false:=beq_eq_false_iff_ne.mpr e;simp only [List.lookup,hgb] at z
   cases hm:m g with
   | none=>exact hg hm
   | some u=>rw [hm] at z;exact z
 refine RU I2.kIn hx rfl rfl rfl ho n1 hw c.set c1 c2 c3 c.no λh' k n=>?_;have na:∀b u,s2.heap.get? b=some u->H2 b=none->b≠dx:=λb u _ z w'=>by rw [w',ed] at z;cases z
 refine ⟨σ,_,I2.un (h':=h') (t':=s2.toks + 2) ⟨λb u e1 e2 _ _=>k b u (na b u e1 e2) e1,λb u e1 e2 _ _=>⟨u.slots,k b u (na b u e1 e2) e1⟩,λb u e1 e2 _=>?_,λb u e1 _=>?_,λb xs e1=>?_,λb o' u e1=>?_,λb ps e1=>⟨#[],?_⟩⟩ λb u e1=>?_,q2⟩
 ·rw [Ai (na b u e1 e2)];exact e2
 ·by_cases hb:b=dx
  ·subst hb;obtain ⟨od',es,ep,e,_⟩:=n;exact ⟨_,e⟩
  ·exact ⟨_,k b u hb e1⟩
 ·rw [Ai (λz=>by rw [z,ed] at e1;cases e1)];exact e1
 ·rw [Ai (λz=>by rw [z,ed] at e1;cases e1)];exact e1
 ·rw [Ai (λz=>by rw [z,ed] at e1;cases e1),e1];simp
 ·by_cases hb:b=dx
  ·subst hb;rw [Aj] at e1;cases e1
   refine ⟨_,n,λg=>?_⟩
   by_cases hg:g=f
   ·subst hg;have hgb:(g == f1)=false:=beq_eq_false_iff_ne.mpr (Ne.symm hf);simp only [List.lookup,hgb,beq_self_eq_true,if_true];exact ry
   ·have hgb:(g == f)=false:=beq_eq_false_iff_ne.mpr hg;have z:=rm g
    by_cases hg1:g=f1
    ·subst hg1;simp only [List.lookup,beq_self_eq_true] at z;simp only [List.lookup,beq_self_eq_true,if_neg hg];exact z
    ·have hgb1:(g == f1)=false:=beq_eq_false_iff_ne.mpr hg1;simp only [List.lookup,hgb1] at z;simp only [List.lookup,hgb,hgb1,if_neg hg];exact z
  ·rw [Ai hb] at e1;refine (I2.hok b u e1).stay (λz v hz q=>k z v ?_ q) (λz q=>?_) λz xs q=>?_
   ·rcases hz with rfl | hz
    ·exact hb
    ·intro w';rw [w',ed] at hz;cases hz
   ·rw [Ai (λz=>by rw [z,ed] at q;cases q)];exact q
   ·rw [Ai (λz=>by rw [z,ed] at q;cases q)];exact q
def GD (K:PySem.W.Frag)(P:Addr)(a b:Str):Sp:=λvs H Q _=>∃x C tp v u,vs=[.ref x,v,u]/\H x=some (exO x C tp)/\XAt K C P a/\XAt K C P b/\∀dx,H dx=none->dx≠x->Q .non (upd (upd H dx (.xd [(a,v),(b,u)])) x (Fl x C tp dx))
section
variable {X:Cx}{k:Nat}{f C P:Addr}{fd:FuncData}{pins:List (Addr×Obj)}{σ:St}{H:Hp}{s:Shared}{Q:Value->Shared->Prop}{us:List Value}{vs:List V}{a b:Str}{ps:List Str}{v v2:V}{u u2:Value}
theorem NZ (M:XMk X.K C P f)(ha:XAt X.K C P a)(hab:XAt X.K C P b)(F:FnOk X.prog X.w X.K X.mg X.base CX0 k f fd ps (GD X.K P a b))(hr:Room (k + 1) X.A)(hb:Binds X.K fd ps [])(I:Inv X pins σ H s)(r:RelV v u)(rr:RelV v2 u2)
 (h:∀s' x dx,Inv X pins σ (upd (upd H dx (.xd [(a,v),(b,v2)])) x (.ext (F2.XIs qx x C (some dx)))) s'->H x=none->H dx=none->dx≠x->s.heap.objs.size<=x->XRec true s'.heap x C (some dx) .none->Q (.ref x) s'):wpAny (model X.prog X.w) X.A (call (.ref C) [u,u2]) Q X.xe s:=by
 obtain ⟨nm,q,N,bs,sn,sub,ab,col,dd,k0,k1,k2,k3,k5,hC,hN⟩:=M.cl.obj I.kIn;have hni:s.heap.nsMap N "__init__" = some (.ref f):=by
  obtain ⟨cd,c1,c2⟩:=M.init;refine IB I.kIn hN ?_;unfold clsIn at c1
  split at c1
  ·next l=>
   cases c1
   have z:=I.kIn _ _ l;rw [hC] at z
   cases z
   exact c2
  ·cases c1
 have I1:Inv X pins σ (upd H (s.heap.objs.size + 1) (exO (s.heap.objs.size + 1) C s.heap.objs.size)) { s with heap:=Dp s.heap C [u,u2] }:=by
  refine I.laid (t':=s.toks) (λb o e=>Heap.get?_push_of_some _ (Heap.get?_push_of_some _ e)) (Nat.le_succ _) (OD ?_);show ((s.heap.push _).push _).get? _=_
  heap_get
 have hx0:=I.hok.fresh (Nat.le_succ s.heap.objs.size);have r2:Vals [V.ref (s.heap.objs.size + 1),v,v2] [Value.ref (s.heap.objs.size + 1),u,u2]:=.cons rfl (.cons r (.cons rr .nil));have hsp:GD X.K P a b [V.ref (s.heap.objs.size + 1),v,v2] (upd H (s.heap.objs.size + 1) (exO (s.heap.objs.size + 1) C s.heap.objs.size))
  (λw' H'=>w' = .non/\∃dx,H dx=none/\dx≠s.heap.objs.size + 1/\H'=upd (upd H dx (.xd [(a,v),(b,v2)])) (s.heap.objs.size + 1) (Fl (s.heap.objs.size + 1) C s.heap.objs.size dx)) E0:=by
  refine ⟨_,C,s.heap.objs.size,v,v2,rfl,Aj,ha,hab,λdx h1 h2=>⟨rfl,dx,by rw [Ai h2] at h1;exact h1,h2,?_⟩⟩
  funext b
  by_cases e1:b=s.heap.objs.size + 1
  ·subst e1;rw [Aj,Aj]
  ·by_cases e2:b=dx
   ·subst e2;rw [Ai e1,Ai e1,Aj,Aj]
   ·rw [Ai e1,Ai e1,Ai e2,Ai e2,Ai e1]
 have hl:([Value.ref (s.heap.objs.size + 1),u,u2]++[]).length=ps.length:=by
  have e:=F.len _ _ _ _ hsp;simpa using e
 obtain ⟨hh,g,d,t,os⟩:=s;refine wpAny_call (KY PySem.F.excBase_ValueError (M.cl.tail I.kIn) hC hN hni ((bind_fn I.kIn _ (beq_iff_eq.mp M.fn))) (by show 2<=sizeLine;decide) ?_);refine codeAny_mono (F.run _ X.stack _ _ ⟨[Value.ref (hh.objs.size + 1),u,u2],[]⟩ [Value.ref (hh.objs.size + 1),u,u2] _ _ E0 (hr.make C [u,u2] []) (I1.env0.make C [u,u2] []) (by have:=hb _ [Value.ref (hh.objs.size + 1),u,u2] I1.kIn hl;simpa using this) r2 hsp) λr s' hq'=>?_
 cases r with
 | error e=>exact hq'.elim
 | ok fl=>
   cases fl with
   | ret w'=>
     obtain ⟨v',H',I3,rv,rfl,dx,d1,d2,rfl⟩:=I1.after hq';refine ⟨rv,?_⟩;have hx:=(I3.hok (hh.objs.size + 1) _ Aj).1;have hx:s'.heap.get? (hh.objs.size + 1)=some { excObj C hh.objs.size with dict:=some dx }:=hx;have xr:XRec true s'.heap (hh.objs.size + 1) C (some dx) .none:=⟨_,_,hx,rfl,rfl,rfl,rfl,λ_=>⟨rfl,by show 4 < 6;decide⟩⟩;have I4:=I3.write (x:=hh.objs.size + 1) (e:=hh.objs.size + 1) (o:=.ext (F2.XIs qx (hh.objs.size + 1) C (some dx))) (h':=s'.heap) (t':=s'.toks) (by rw [Aj];trivial) (.inl rfl) (λ_ _ _ z=>z) ⟨_,hx⟩ (Ih xr.to.is);rw [MT] at I4;exact h s' (hh.objs.size + 1) dx I4 hx0 d1 d2 (Nat.le_succ _) xr
   | next=>exact False.elim hq'
   | brk=>exact False.elim hq'
   | cont=>exact False.elim hq'
end
section
variable {X:Cx}{k:Nat}{f C P:Addr}{fd:FuncData}{a b:Str}{ps:List Str}{n:Str}{p pos:Pos}{e e':Expr}
theorem WI {t:TA}(M:XMk X.K C P f)(ha:XAt X.K C P a)(hab:XAt X.K C P b)(F:FnOk X.prog X.w X.K X.mg X.base CX0 k f fd ps (GD X.K P a b))(hr:Room (k + 1) X.A)(hb:Binds X.K fd ps [])(hg:Gl X n)(hm:X.mg n=some (.ref C))(hA:PA X [e,e'] t)
 (hdb:(n == ("__debug__" : Str))=false:=by decide) (h1:starEach [e,e'] X.env=(false,eval e X.env) :: starEach [e'] X.env:=by rfl) (hpl:(backTo pos (starEach [e'] X.env)).any (·.1)=false:=by rfl) :
 PM qx X (.Call (.Name n p) [e,e'] [] pos) C (λσ H Q=>t σ H λvs H1=>∃v u,vs=[v,u]/\∀x dx,H1 x=none->H1 dx=none->dx≠x->Q x (some dx) (upd (upd H1 dx (.xd [(a,v),(b,u)])) x (.ext (F2.XIs qx x C (some dx))))):=by
 intro pins s σ H Q I h;refine wpAny_Call_Name_kw (CI I hg hm ?_ hdb);refine PySem.W.callWith_K (h₀:=X.base) I.ok.mod.kin M.kp (thn (hA pos pins s σ H _ I h) λus s1 z9=>?_) h1 hpl;obtain ⟨vs,H1,I1,r,v,u,ev,q⟩:=z9;refine ⟨I1.kIn,?_⟩;subst ev
 cases r with
 | cons r0 rs=>
   cases rs with
   | cons r1 rs=>
     cases rs
     exact NZ M ha hab F hr hb I1 r0 r1 λs' x dx I' hx hdx ne nx rc=>⟨x,some dx,_,rfl,I',Aj,Nat.le_trans I1.sz nx,rc,q x dx hx hdx ne⟩
end
end L2
namespace F2
open PySem L2 PySem.Spec PySem.W
variable {qx:Bool}
section
variable {X:Cx}{e e':Expr}{pos p pos2:Pos}{E:L2.St->XK}{P:Addr}{ca:Str->Addr}
def XN2 (prog:Program)(w:World)(K:PySem.W.Frag)(mg:Str->Option Value)(base:Heap)(C P:Addr):Prop:=
 ∃(f:Addr) (fd:FuncData) (ps:List Str),XMk K C P f/\XAt K C P "at"/\XAt K C P "side"/\Binds K fd ps []/\FnOk prog w K mg base CX0 1 f fd ps (GD K P "at" "side")
def Cm (n:Str)(f:M (List D)):M Out:=bnd f λds=>match ds with
 | [d,d']=>ret (.ret (.exc n [d,d']))
 | _=>fail
theorem OP {f:M (List D)}(x:XM X.K X.mg P ca)(xn:XN2 X.prog X.w X.K X.mg X.base (ca "Broken") P)(hr:L2.Room 2 X.A)(hc:X.calm=true)(hx:Fv qx X E)(hg:Gl X "Broken")(ha:PA X [e,e'] (RA X.K f))
 (h1:A1 e=false:=by rfl) (h2:AU [e']=true:=by rfl):PS X (.Raise (some (.Call (.Name "Broken" p) [e,e'] [] pos)) none pos2) (RSX X.K E (Cm "Broken" f)):=by
 obtain ⟨fa,fd,ps,M,A,A2,B,F⟩:=xn;have hn:("Broken" : Str)∈A5:=by decide
 refine A8 (Le hc M.cl hx (WI M A A2 F hr B hg (x.ms _ hn) ha (by decide) (AX h1) (AK h2).1)) λD σ H z9=>?_;obtain ⟨Oo,c,t,fi,o,t',eq,k⟩:=z9;obtain ⟨ds,t1,e1,eq⟩:=Ag eq;refine ⟨Oo,c,t,fi,ds,t1,e1,λvs H1 c1 f1 s1 rvs=>?_⟩;rcases ds with _ | ⟨d,_ | ⟨d',_ | ⟨_,_⟩⟩⟩
 ·cases eq
 ·cases eq
 ·cases rvs with
  | @cons v0 _ _ _ rv r=>
  cases r with
  | @cons v1 _ _ _ rv1 r=>
  cases r
  cases eq
  refine ⟨_,_,rfl,λy dx hy hdx ne=>?_⟩;have f2:=f1.laid (o:=.xd [("at",v0),("side",v1)]) hdx;have hy2:upd H1 dx (.xd [("at",v0),("side",v1)]) y=none:=by rw [Ai (Ne.symm ne)];exact hy
  have f3:=f2.laid (o:=.ext (XIs qx y (ca "Broken") (some dx))) hy2;have ex:=(f1.stp_laid (o:=.xd [("at",v0),("side",v1)]) hdx).ext.trans (f2.stp_laid (o:=.ext (XIs qx y (ca "Broken") (some dx))) hy2).ext;have s3:=s1.trans ((f1.stp_laid (o:=.xd [("at",v0),("side",v1)]) hdx).trans (f2.stp_laid (o:=.ext (XIs qx y (ca "Broken") (some dx))) hy2));refine k σ _ c1 f3 s3 (.ref y) (.exc (x.ns _ hn) Aj (f2.s.free hy2) ?_ (.cons (rv.mono ex) (.cons (rv1.mono ex) .nil))) y (some dx) rfl;exact ⟨by rw [Ai ne,Aj];rfl,f1.s.free hdx⟩
 ·cases eq
end
def XF2 (K:PySem.W.Frag)(C P:Addr)(qual:Str)(st:Stmt):Prop:=∃(f:Addr) (fd:FuncData),XMk K C P f/\XAt K C P "at"/\XAt K C P "side"/\Binds K fd ["self", "at", "side"] []/\Fun K "__init__" qual st f fd
theorem XB {K:PySem.W.Frag}{C P f:Addr}{qual:Str}{st:Stmt}{od an:Option Addr}{sl:Array (Option Value)}{oc kV dc pm cd ct:Value}(o:XOne K P C)(i:KQ K C f=true)(hf:isFn K (.ref f)=true)(hs:findIn K (.ref C) "__setattr__" = some (some (.builtin "object.__setattr__")))
 (l:K.lookup f=some ⟨oc,od,.func (PySem.W.fnOf "__init__" qual (DG st) (Bj st) (Ao st) .none kV dc pm an cd ct),sl⟩) (c:codeIn K cd qual=true) (k:keepIn K (.ref f)=true)
 (hb:∀(kV doc pm:Value) (an:Option Addr) (cdv ct:Value) (us:List Value),us.length=3->bindArgs (PySem.W.fnOf "__init__" qual (DG st) (Bj st) (Ao st) .none kV doc pm an cdv ct) ⟨us,[]⟩=pure ((["self", "at", "side"]:List Str).zip us)):XF2 K C P qual st:=by
 refine ⟨f,_,⟨o.cl,?_,hf,o.kp⟩,⟨o.cl,hs,o.na⟩,⟨o.cl,hs,o.nd⟩,(Fy (st:=st) l c k).binds (ps:=["self", "at", "side"]) hb,Fy (st:=st) l c k⟩;unfold KQ at i
 split at i
 ·next cd' e=>exact ⟨cd',e,beq_iff_eq.mp i⟩
 ·cases i
theorem QS {prog:Program}{w:World}{K:PySem.W.Frag}{mg:Str->Option Value}{base:Heap}{C P:Addr}{qual:Str}{st:Stmt}{p1 p2 p3 p4 p5 p6 p7 p8:Pos}(hbd:Bj st=[.Assign [.Attribute (.Name "self" p1) "at" p2] (.Name "at" p3) p4,.Assign [.Attribute (.Name "self" p5) "side" p6] (.Name "side" p7) p8])(S:FnScope ["self", "at", "side"] ["self", "at", "side"] (Ao st))
 (s1:(Ao st).names.lookup ("self" : Str)=some NameKind.local) (s2:(Ao st).names.lookup ("at" : Str)=some NameKind.local) (s3:(Ao st).names.lookup ("side" : Str)=some NameKind.local) (x:XF2 K C P qual st):XN2 prog w K mg base C P:=by
 obtain ⟨f,fd,M,A,A2,B,F⟩:=x;refine ⟨f,fd,_,M,A,A2,B,F.ok (k:=0) S (λvs H Q E h=>?_) λcdv A' outer s H vs Q E hr h=>?_⟩
 ·obtain ⟨y,C',tp,v,u,rfl,_⟩:=h;rfl
 ·rw [hbd];refine ⟨_,Hz (Sw (P:=P) (B2 (i:=0) rfl (.inl s1) (by decide) (by decide)) (B2 (i:=1) rfl (.inl s2) (by decide) (by decide)) rfl) (GU (PB (P:=P) (f1:="at") (by decide) (B2 (i:=0) rfl (.inl s1) (by decide) (by decide)) (B2 (i:=2) rfl (.inl s3) (by decide) (by decide)) rfl)),?_⟩;obtain ⟨y,C',tp,v,u,rfl,hy,ha,ha2,k⟩:=h;refine ⟨v,rfl,.ref y,rfl,y,C',tp,rfl,hy,ha,λdx h1 h2=>⟨u,rfl,.ref y,rfl,y,C',tp,dx,v,rfl,Aj,by rw [Ai h2,Aj],h2,ha2,?_⟩⟩;have z:=k dx h1 h2;have e:upd (upd (upd H dx (.xd [("at",v)])) y (Fl y C' tp dx)) dx (.xd [("at",v),("side",u)])=upd (upd H dx (.xd [("at",v),("side",u)])) y (Fl y C' tp dx):=by
   funext b
   by_cases e1:b=dx
   ·subst e1;rw [Aj,Ai h2,Aj]
   ·by_cases e2:b=y
    ·subst e2;rw [Ai e1,Aj,Aj]
    ·rw [Ai e1,Ai e2,Ai e1,Ai e2,Ai e1]
  rw [e];exact z
end F2
namespace L2
open PySem PySem.Spec PyProof.Rows PySem.W
end L2
namespace F2
open PySem L2 PySem.Spec
section
variable {X:Cx}{a b:Expr}{pos:Pos}
end
end F2
namespace L2
open PySem PySem.Spec PyProof.Rows PySem.W
theorem JR:entryFor table "proto.unchain" = some Builtin.«proto.unchain»:=entryFor_of_tree (by kernel_rfl)
section
variable {prog:Program}{w:World}{A:Around}{E:Value->Shared->Prop}{env:Env}{K:PySem.W.Frag}{C:Addr}{bm:List Value}{s:Shared}
theorem N6 {x y:Addr}{ox:Obj}{vx:Array Value}{Q:Value->Shared->Prop}(gx:s.heap.get? x=some ox)(dx:ox.data = .fields vx)(x2:vx[2]?=some .none)(h:Q .none s) :
 wpAny (model prog w) A (runValue (.builtin "proto.unchain" ⟨[.ref y,.ref x,.ref x,.bool false],[]⟩)) Q E s:=by
 refine runValue_entry JR ?_;unfold Builtin.«proto.unchain»;refine wpAny_bind (wpAny_field gx dx x2 ?_);rw [if_pos (by decide)];refine wpAny_bind (wpAny_pure (wpAny_pure ⟨_,rfl,h⟩))
theorem Rw {t c0:Sem Value}{x:Addr}{Q:Flow->Shared->Prop}(c:XCl K C bm)(hh:A.handled=some (.ref x))
 (hc0:∀(s:Shared) (Q:Value->Shared->Prop) (E:Value->Shared->Prop),Q Value.none s->wpAny (model prog w) A c0 Q E s)
 (h:wpAny (model prog w) A t (λv s1=>∃y dy ox vx,v = .ref y/\y≠x/\K.In s1.heap/\XRec true s1.heap y C dy .none/\s1.heap.get? x=some ox/\ox.data = .fields vx/\vx[2]?=some .none/\
   ∀h',XRec false h' y C dy .none->(∀b,b≠y->h'.get? b=s1.heap.get? b)->E v { s1 with heap:=h' }) E s):wpAny (model prog w) A (raiseStmt env (some t) (some c0)) Q E s:=by
 unfold raiseStmt;refine wpAny_bind (wpAny_mono h (λv s1 q=>?_) λ_ _ z=>z);obtain ⟨y,dy,ox,vx,rfl,ne,X,⟨o,vs,hx,hc,hd,hdt,h1,h2⟩,gx,dx,x2,hE⟩:=q;obtain ⟨h2,h4⟩:=h2 rfl;obtain ⟨nm,q,N,bs,sn,sub,ab,col,dd,k0,k1,k2,k3,k5,hC,_⟩:=c.obj X;have hb:=c.has X;obtain ⟨hp,g,d,tk,os⟩:=s1;refine wpAny_bind (wpAny_holding (hc0 _ _ _ (wpAny_bind (wpAny_pure ?_))))
 repeat (first
  | (with_reducible refine wpAny_loadPart_at hx ?_;rw [hc])
  | with_reducible refine wpAny_loadPart_at hC ?_
  | (with_reducible refine wpAny_isSubtype_exc hC ?_;rw [hb])
  | with_reducible refine wpAny_field hx hdt h1 ?_
  | wp_step)
 have nC:C≠y:=by
  rintro rfl;rw [hC] at hx
  cases hx
  cases hdt
 rw [hdt];show wpAny _ _ (if 3 < vs.size then _ else _) _ _ _;rw [if_pos (Nat.lt_of_succ_lt h4)];refine wpAny_update hx ?_;obtain ⟨m1,m2,m3⟩:=EZ hdt (·.setIfInBounds 3 Value.none);have hx1:=Heap.get?_update_self (Obj.mapFields (·.setIfInBounds 3 Value.none)) hx (Obj.isFreed_of_fields m1);refine wpAny_bind (wpAny_setField hx1 m1 (by rw [Array.size_setIfInBounds];exact h4) ?_);obtain ⟨n1,n2,n3⟩:=EZ m1 (·.setIfInBounds 4 (Value.bool true));have hx2:=Heap.get?_update_self (Obj.mapFields (·.setIfInBounds 4 (Value.bool true))) hx1 (Obj.isFreed_of_fields n1);have oth:∀b,b≠y->((hp.update y (Obj.mapFields (·.setIfInBounds 3 Value.none))).update y (Obj.mapFields (·.setIfInBounds 4 (Value.bool true)))).get? b=hp.get? b:=λb z=>by
  rw [Heap.get?_update_other _ _ (Ne.symm z),Heap.get?_update_other _ _ (Ne.symm z)]
 have hC2:=(oth C nC).trans hC;have gx2:=(oth x (Ne.symm ne)).trans gx;have hc2:=n2.trans (m2.trans hc);have hd2:=n3.trans (m3.trans hd);have t1:((vs.setIfInBounds 3 Value.none).setIfInBounds 4 (Value.bool true))[1]?=some .none:=by
  rw [Array.getElem?_setIfInBounds_ne (by decide),Array.getElem?_setIfInBounds_ne (by decide)];exact h1
 have t4:2 < ((vs.setIfInBounds 3 Value.none).setIfInBounds 4 (Value.bool true)).size:=by
  rw [Array.size_setIfInBounds,Array.size_setIfInBounds];lia
 show wpAny (model prog w) A _ Q E ⟨(hp.update y (Obj.mapFields (·.setIfInBounds 3 Value.none))).update y (Obj.mapFields (·.setIfInBounds 4 (Value.bool true))),g,d,tk,os⟩;generalize (hp.update y (Obj.mapFields (·.setIfInBounds 3 Value.none))).update y (Obj.mapFields (·.setIfInBounds 4 (Value.bool true)))=h3 at hx2 oth hC2 gx2;generalize ((o.mapFields (·.setIfInBounds 3 Value.none)).mapFields (·.setIfInBounds 4 (Value.bool true)))=o2 at hx2 hc2 hd2 n1;generalize ((vs.setIfInBounds 3 Value.none).setIfInBounds 4 (Value.bool true))=vs2 at n1 t1 t4;clear hx1 m1 m2 m3 n2 n3
 repeat (first
  | (with_reducible refine wpAny_loadPart_at hx2 ?_;rw [hc2])
  | with_reducible refine wpAny_loadPart_at hC2 ?_
  | (with_reducible refine wpAny_isSubtype_exc hC2 ?_;rw [hb])
  | with_reducible refine wpAny_field hx2 n1 t1 ?_
  | wp_step)
 unfold raiseNew;refine wpAny_bind (wpAny_handled ?_);rw [hh];dsimp only;rw [if_pos (by simpa using Ne.symm ne)];refine wpAny_bind (wpAny_holding (N6 gx2 dx x2 (wpAny_bind ?_)));obtain ⟨z1,z2,z3⟩:=EZ n1 (·.setIfInBounds 2 (Value.ref x));refine wpAny_setField hx2 n1 t4 ?_;have hx3:=Heap.get?_update_self (Obj.mapFields (·.setIfInBounds 2 (Value.ref x))) hx2 (Obj.isFreed_of_fields z1);refine wpAny_throw (hE _ ⟨_,_,hx3,z2.trans hc2,z3.trans hd2,z1,?_,λz=>by cases z⟩ λb hb'=>?_)
 ·rw [Array.getElem?_setIfInBounds_ne (by decide)];exact t1
 ·rw [Heap.get?_update_other _ _ (Ne.symm hb')];exact oth b hb'
end
section
variable {X:Cx}{pins:List (Addr×Obj)}{σ:St}{H:Hp}{s s':Shared}{qx:Bool}{x C:Addr}{dx T:Option Addr}{fl:Value}
theorem XOn.keep (I:Inv X pins σ H s)(o:XOn qx X pins H s x C dx T fl)(k:∀b,b≠X.env.locals->(∀z c,X.env.cells.lookup z=some c->c≠b)->s'.heap.get? b=s.heap.get? b):XOn qx X pins H s' x C dx T fl:=by
 obtain ⟨ox,vs,gx,cx,dxe,dtx,tbx,xc⟩:=id o.rc;have nl:x≠X.env.locals:=λz=>by have:=o.hx;rw [z,I.free] at this;cases this
 have nc:∀z c,X.env.cells.lookup z=some c->c≠x:=λz c e w=>by
  have:=o.hx;rw [<-w,I.freeC z c e] at this
  cases this
 refine ⟨o.hx,o.nx,⟨ox,vs,(k x nl nc).trans gx,cx,dxe,dtx,tbx,xc⟩,λa e=>?_,o.fo⟩;obtain ⟨z1,z2,z3,⟨y1,y2,y3⟩,ot,ts,gT,dT,t3⟩:=o.tb a e;exact ⟨z1,z2,z3,⟨y1,y2,y3⟩,ot,ts,(k a y1 y2).trans gT,dT,t3⟩
theorem P7 {M:Model}{A:Around}{E:Value->Shared->Prop}{i:Nat}{n:Str}{pos:Pos}{Q:Unit->Shared->Prop}(I:Inv X pins σ H s)(hN:X.N.Nodup)(hi:X.N[i]?=some n)(hk:X.env.scope.names.lookup n=some .local)
 (h:∀s',Inv X pins (σ.set i none) H s'->(∀b,b≠X.env.locals->(∀z c,X.env.cells.lookup z=some c->c≠b)->s'.heap.get? b=s.heap.get? b)->Q () s'):wpAny M A (do bindName X.env n .none;unbindBehindTheSuite X.env n pos) Q E s:=by
 refine wpAny_bind (wpAny_bindName (GF (v:=.non) I hN hi (.inl hk) rfl (λs1 I1 sb1=>?_) (.inr hk)));obtain ⟨a1,sb1,ha1⟩:=sb1;unfold unbindBehindTheSuite;have hiσ:i < σ.length:=by rw [I.len];exact (List.getElem?_eq_some_iff.mp hi).1
 obtain ⟨m,hn,hl⟩:=id I1.loc;have hcls:(X.env.scope.kind == .class || (X.env.scope.kind == .module && X.env.locals != X.env.globals))=false:=by rw [I.ok.kind];rfl
 obtain ⟨u0,_,lk⟩:=hl i n .non hi (by rw [List.getElem?_set_self hiσ]) (.inl hk);have hv:m n=some u0:=by
  rcases lk with ⟨_,e⟩ | ⟨k,_⟩
  ·exact e
  ·have k:X.env.scope.names.lookup n=some .cell\/X.env.scope.names.lookup n=some .free:=k;rw [hk] at k;rcases k with k | k <;> cases k
 refine wpAny_onRaise (wpAny_unbindName_local hk hn hv hcls λh' u hn' hs=>?_);have cne:=I1.cne;have tracked:HOk X.prog X.w H h':=λb ob e=>by
  refine (I1.hok b ob e).stay (λc w' hc q=>(hs.2 c ?_).trans q) (λ_ q=>q) λ_ _ q=>q;rintro rfl;rcases hc with rfl | hc
  ·rw [I1.free] at e;cases e
  ·rw [I1.free] at hc;cases hc
 have far:∀b o,X.s₀.heap.get? b=some o->b≠X.env.locals:=λb o e=>Nat.ne_of_lt (Nat.lt_of_lt_of_le (Heap.lt_size e) I1.ok.above);refine h _ ⟨I1.ok,I1.os,I1.bare,⟨λb o e n hb hx=>?_,λb o e n hb hx=>?_,I1.base.free,λb o e hx=>?_,I1.base.tups,I1.base.frzs,I1.base.tbls⟩,⟨_,hn',λj y v' e1 e2 e3=>?_⟩,λy c e=>?_,I1.free,I1.freeC,λp hp=>?_,tracked,by simpa using I.len⟩ λb hb hc=>?_
 ·exact (hs.2 b (far b o e)).trans (I1.base.keep b o e n hb hx)
 ·obtain ⟨sl,e1⟩:=I1.base.slot b o e n hb hx;exact ⟨sl,(hs.2 b (far b o e)).trans e1⟩
 ·obtain ⟨o',e1⟩:=I1.base.there b o e hx;exact ⟨o',(hs.2 b (far b o e)).trans e1⟩
 ·by_cases hj:j=i
  ·subst hj;rw [List.getElem?_set_self hiσ] at e2
   cases e2
  ·rw [List.getElem?_set_ne (Ne.symm hj)] at e2;obtain ⟨u',r',q⟩:=hl j y v' e1 (by rw [List.getElem?_set_ne (Ne.symm hj)];exact e2) e3;refine ⟨u',r',?_⟩;rcases q with ⟨k,e⟩ | ⟨k,c,e,z⟩
   ·refine .inl ⟨k,?_⟩;have:y≠n:=λe=>hj (FX hN e1 (e ▸ hi));simp [this,e]
   ·exact .inr ⟨k,c,e,z.sameBut hs (cne y c e)⟩
 ·obtain ⟨w',z⟩:=I1.cell y c e;exact ⟨w',z.sameBut hs (cne y c e)⟩
 ·obtain ⟨e,n,ne,nf,d⟩:=I1.pin p hp;exact ⟨(hs.2 p.1 ne).trans e,n,ne,nf,d⟩
 ·rw [hs.2 b hb];refine sb1.2 b ?_;rintro rfl;rcases ha1 with z | z
  ·exact hb z
  ·exact hc _ _ z rfl
end
def GJ (X:Cx)(E:St->XK):Prop:=∀(pins:List (Addr×Obj)) (σ:St) (H:Hp) (s:Shared) (x C:Addr) (dx T:Option Addr) (fl:Value),Inv X pins σ H s->XOn false X pins H s x C dx T fl->E σ (.ref x) dx H->X.xe (.ref x) s
theorem XE.raisesT {X:Cx}{E:St->XK}:GJ (X.wish (XE false X E)) E:=λpins σ H s x C dx T fl I o q=>⟨pins,σ,H,x,C,dx,T,fl,rfl,I.unwish,⟨o.hx,o.nx,o.rc,o.tb,o.fo⟩,q⟩
section
variable {X:Cx}{n v:Str}{C' C2:Addr}{bm' bm2:List Value}{p pos p2:Pos}{e cN:Expr}{rest:List ExceptHandler}{t:St->Hp->(Addr->Option Addr->Hp->Prop)->Prop}{tr:Addr->Addr->Option Addr->TS}{i:Nat}{E:St->XK}
def ZI (K:PySem.W.Frag)(C':Addr)(i:Nat)(t:St->Hp->(Addr->Option Addr->Hp->Prop)->Prop)(E:St->XK)(tr:Addr->Addr->Option Addr->TS):Addr->Addr->Option Addr->TS:=λx C dx D σ H=>∃bm,XCl K C bm/\
 if (Value.ref C :: bm).contains (.ref C')=true then t (σ.set i (some (.ref x))) H (λy dy H1=>y≠x/\H1 x=some (.ext (F2.XIs true x C dx))/\E ((σ.set i (some (.ref x))).set i none) (.ref y) dy H1) else tr x C dx D σ H
theorem Ya (h1:X.stack=X.env :: X.outer)(h2:X.env.frame=some X.env.locals)(hg:Gl X n)(hm:X.mg n=some (.ref C'))(c':XCl X.K C' bm')(hN:X.N.Nodup)(hi:X.N[i]?=some v)(hl:X.env.scope.names.lookup v=some .local)
 (c2:XCl X.K C2 bm2) (hp:∀x,PM false (X.mark x) e C2 t) (hx:GJ X E)
 (hz:∀(A:Around) (s:Shared) (Q:Value->Shared->Prop) (E:Value->Shared->Prop),Q Value.none s->wpAny (model X.prog X.w) A (eval cN X.env) Q E s)
 (hr:PH true X rest tr) (hdb:(n == ("__debug__" : Str))=false:=by decide):PH true X (.ExceptHandler (some (.Name n p)) (some v) [.Raise (some e) (some cN) p2] pos :: rest) (ZI X.K C' i t E tr):=by
 intro pins s σ H x C dx T D I o ⟨bm,c,q⟩;have Im:=I.mark x;refine wpAny_handleBy_cons (codeAny_handlers_test (CI Im hg hm ?_ hdb)) (by intro z;cases z)
 refine Hw c c' I.kIn o.rc ?_
 cases hc:(Value.ref C :: bm).contains (.ref C') with
 | false=>
   rw [hc,if_neg (by decide)] at q;exact hr pins s σ H x C dx T D I o q
 | true=>
   rw [hc,if_pos rfl] at q;refine codeAny_handlers_suite_as ?_;refine DK none I o (.inl rfl) λh1' I1 o1=>?_;refine E8 (v:=.ref x) I1 hN hi (.inl hl) rfl (λs2 I2=>?_) (.inr hl);refine wpAny_execs_cons ?_;rw [arm_exec_Raise];refine wpAny_bind (wpAny_standAt ?_);refine Rw (x:=x) c2 rfl (λs Q E h=>wpAny_bind (hz _ _ _ _ (wpAny_bind (wpAny_standAt (wpAny_pure h))))) ?_;refine wpAny_bind (wpAny_mono (hp x pins s2 _ H _ (I2.mark x) q) (λw' s3 z9=>?_) λ_ _ z=>z.elim);obtain ⟨y,dy,H1,e1,I3,hy,ny,r,ne,hxx,q1⟩:=z9;subst e1;have J3:=I3.unmark I.ok;obtain ⟨ox,vx,gx,_,_,dtx,xc⟩:=(I3.hok x _ hxx).1;refine wpAny_bind (wpAny_standAt (wpAny_pure ⟨y,dy,ox,vx,rfl,ne,I3.kIn,r,gx,dtx,(xc rfl).1,λh' r' kp=>?_⟩));obtain ⟨o1',o2',o3'⟩:=J3.newT (Nat.le_refl _);have J4:=J3.left hy (J3.hok.fresh (Nat.le_refl _)) ny (Nat.le_trans J3.sz (Nat.le_refl _)) (ch:=[y]) (h':=h') ⟨λb u hb _ e=>(kp b (by simpa using hb)).trans e,λb u hb e=>⟨u.slots,(kp b (by simpa using hb)).trans e⟩⟩ (λb hb=>.inl (by simpa using hb)) r'.is o2' o1' o3';have o4:XOn false X pins H1 { s3 with heap:=h' } y C2 dy none .none:=⟨hy,ny,r',(λa e=>by cases e),.inl rfl⟩;refine E2 I3.ok.frames J4 h1 h2 o4 λh5 a J5 o5=>?_;refine P7 J5 hN hi hl λs6 J6 k6=>?_;have o6:=o5.keep J5 k6;obtain ⟨oy,vy,gy,_,_,dty,tby,_⟩:=id o6.rc;unfold PySem.passOn;refine wpAny_bind (wpAny_field gy dty tby ?_);rw [if_neg (show ¬((Value.ref a == Value.none)=true) from by intro z;cases z)]
   rw [h2];refine wpAny_bind (DK (some X.env.locals) J6 o6 (.inr rfl) λh7 J7 o7=>wpAny_throw ?_);refine E2 I3.ok.frames J7 h1 h2 o7 λh8 a8 J8 o8=>?_;obtain ⟨oz,vz,gz,_,_,dtz,tbz,_⟩:=id o8.rc;show cameBackBy _ _ _ _ _ _;unfold cameBackBy;refine wpAny_bind (wpAny_field gz dtz tbz ?_);rw [if_neg (show ¬((Value.ref a8 == Value.none)=true) from by intro z;cases z)]
   rw [h2];exact DK (some X.env.locals) J8 o8 (.inr rfl) λh9 J9 o9=>hx pins _ H1 _ y C2 dy _ _ J9 o9 q1
end
structure FnOkH (P:Program)(w:World)(K:PySem.W.Frag)(mg:Str->Option Value)(base:Heap)(CX:CXT)(k:Nat)(f:Addr)(fd:FuncData)(ps:List Str)(sp:Sp):Prop where
 len:∀vs H Q E,sp vs H Q E->vs.length=ps.length
 run:∀(z:Addr) (A:Around) (outer:List Env) (s:Shared) (H:Hp) (args:Args) (us:List Value) (vs:List V) (Q:VK) (E:XK),Room k A->Env0 P w K mg base A outer s H->BindsTo s fd args (ps.zip us)->Vals vs us->sp vs H Q E->
  codeAny (model P w) (A.mark (some (.ref z))) (.call (.ref f) args) (CR CX outer P w H s Q E) s
theorem VP {CX:CXT}{P:Program}{w:World}{K:PySem.W.Frag}{mg:Str->Option Value}{base:Heap}{k:Nat}{f:Addr}{name qual:Str}{params:Arguments}{body:List Stmt}{scope:Scope}{dV kV doc pm cdv ct oc:Value}{an od:Option Addr}
 {osl:Array (Option Value)} {N ps:List Str} {sp:Sp} (lk:K.lookup f=some ⟨oc,od,.func (PySem.W.fnOf name qual params body scope dV kV doc pm an cdv ct),osl⟩) (hcd:PySem.W.codeIn K cdv qual=true) (S:FnScope N ps scope)
 (len:∀vs H Q E,sp vs H Q E->vs.length=ps.length)
 (hbody:∀(z:Addr) (A:Around) (outer:List Env) (s:Shared) (H:Hp) (vs:List V) (Q:VK) (E:XK),Room k (A.deeper (envOfC qual scope s.heap.objs.size f cdv))->sp vs H Q E->
   ∃t,PSs ((Dh CX P w K mg base N qual scope f cdv A outer s H E).mark z) body t/\t { nx:=λ_ H'=>Q .non H',rt:=Q } (start N vs) H) :
 FnOkH P w K mg base CX (k + 1) f (PySem.W.fnOf name qual params body scope dV kV doc pm an cdv ct) ps sp:=by
 refine ⟨len,λz A outer s H args us vs Q E hr e0 hb r hsp=>?_⟩;have hl:=len _ _ _ _ hsp;have KX:K.In s.heap:=e0.mod.kin.keeps λb o e=>(e0.bs b o e).1;have lim:s.heap.NoLimit:=e0.mod.nolimit.keeps λb o e=>(e0.bs b o e).1;have hkind:∀y∈ps.zip us,scope.names.lookup y.1=some .local\/(scope.names.lookup y.1=some .cell/\((cellsFrom (s.heap.objs.size + 1) scope.names []).lookup y.1).isSome=true):=λz9 hy=>by
  obtain ⟨n,v⟩:=z9;rcases S.par n (List.of_mem_zip hy).1 with q | q
  ·exact .inl q
  ·exact .inr ⟨q,PySem.W.cellsFrom_some _ _ _ (.inl q)⟩
 refine codeAny_call_function (A:=A.mark (some (.ref z))) hr.depth (KX _ _ lk) rfl S.co S.gen rfl (PySem.W.codeRec_of KX hcd) (hb _ _ _ _ ?_);refine wpAny_newFunctionEnv_cells S.kind hkind λenv he s1 x=>?_;subst he;refine ⟨lim.keeps x.toInCall.keep,codeAny_func ?_⟩;obtain ⟨t,ht,hq⟩:=hbody z A outer s H vs Q E (hr.deeper _) hsp;have I:Inv (Dh CX P w K mg base N qual scope f cdv A outer s H E) [] (start N vs) H s1:=JI S hr.hd e0 hl r x;refine wpAny_mono (ht [] s1 (start N vs) H _ (I.mark z) hq) (λfl s' hs=>?_) λe s' hs=>hs.elim;have fin:∀{σ':St} {H':Hp} {v:V} {u:Value},Inv ((Dh CX P w K mg base N qual scope f cdv A outer s H E).mark z) [] σ' H' s'->RelV v u->Q v H'->CE outer P w H s Q u s':=
  λ{σ' H' v u} J rv q=>⟨v,H',J.os,J.bare,J.base,J.hok,rv,q⟩
 cases fl with
 | ret u=>
   obtain ⟨v,σ',H',J,rv,q⟩:=hs;exact fin J rv q
 | next=>
   obtain ⟨σ',H',J,q⟩:=hs;exact fin (v:=V.non) (u:=Value.none) J rfl q
 | brk=>
   obtain ⟨_,_,_,q⟩:=hs;exact False.elim q
 | cont=>
   obtain ⟨_,_,_,q⟩:=hs;exact False.elim q
theorem Fun.okH {P:Program}{w:World}{K:PySem.W.Frag}{mg:Str->Option Value}{base:Heap}{x qual:Str}{st:Stmt}{f:Addr}{fd:FuncData}{N ps:List Str}{k:Nat}{sp:Sp}(F:Fun K x qual st f fd)(S:FnScope N ps (Ao st))(len:∀vs H Q E,sp vs H Q E->vs.length=ps.length)
 (hbody:∀(cdv:Value) (z:Addr) (A:Around) (outer:List Env) (s:Shared) (H:Hp) (vs:List V) (Q:VK) (E:XK),Room k (A.deeper (envOfC qual (Ao st) s.heap.objs.size f cdv))->sp vs H Q E->
   ∃t,PSs ((Dh CX0 P w K mg base N qual (Ao st) f cdv A outer s H E).mark z) (Bj st) t/\t { nx:=λ_ H'=>Q .non H',rt:=Q } (start N vs) H):FnOkH P w K mg base CX0 (k + 1) f fd ps sp:=by
 obtain ⟨oc,od,kV,doc,pm,an,cdv,ct,osl,rfl,lk,hcd⟩:=F.ex;exact VP lk hcd S len λz A outer s H vs Q E hr hsp=>hbody cdv z A outer s H vs Q E hr hsp
section
variable {qx:Bool}{X:Cx}{k:Nat}{f C P:Addr}{fd:FuncData}{pins:List (Addr×Obj)}{σ:St}{H:Hp}{s:Shared}{Q:Value->Shared->Prop}{us:List Value}{vs:List V}{a b:Str}{ps:List Str}{v v2:V}{u u2:Value}{n:Str}{p pos:Pos}{e e':Expr}
theorem LV {z:Addr}(M:XMk X.K C P f)(ha:XAt X.K C P a)(hab:XAt X.K C P b)(F:FnOkH X.prog X.w X.K X.mg X.base CX0 k f fd ps (GD X.K P a b))(hr:Room (k + 1) X.A)(hb:Binds X.K fd ps [])(I:Inv (X.mark z) pins σ H s)(r:RelV v u)(rr:RelV v2 u2)
 (h:∀s' x dx,Inv (X.mark z) pins σ (upd (upd H dx (.xd [(a,v),(b,v2)])) x (.ext (F2.XIs qx x C (some dx)))) s'->H x=none->H dx=none->dx≠x->s.heap.objs.size<=x->XRec true s'.heap x C (some dx) .none->Q (.ref x) s'):wpAny (model X.prog X.w) (X.mark z).A (call (.ref C) [u,u2]) Q (X.mark z).xe s:=by
 obtain ⟨nm,q,N,bs,sn,sub,ab,col,dd,k0,k1,k2,k3,k5,hC,hN⟩:=M.cl.obj I.kIn;have hni:s.heap.nsMap N "__init__" = some (.ref f):=by
  obtain ⟨cd,c1,c2⟩:=M.init;refine IB I.kIn hN ?_;unfold clsIn at c1
  split at c1
  ·next l=>
   cases c1
   have z:=I.kIn _ _ l;rw [hC] at z
   cases z
   exact c2
  ·cases c1
 have I1:Inv (X.mark z) pins σ (upd H (s.heap.objs.size + 1) (exO (s.heap.objs.size + 1) C s.heap.objs.size)) { s with heap:=Dp s.heap C [u,u2] }:=by
  refine I.laid (t':=s.toks) (λb o e=>Heap.get?_push_of_some _ (Heap.get?_push_of_some _ e)) (Nat.le_succ _) (OD ?_);show ((s.heap.push _).push _).get? _=_
  heap_get
 have hx0:=I.hok.fresh (Nat.le_succ s.heap.objs.size);have r2:Vals [V.ref (s.heap.objs.size + 1),v,v2] [Value.ref (s.heap.objs.size + 1),u,u2]:=.cons rfl (.cons r (.cons rr .nil));have hsp:GD X.K P a b [V.ref (s.heap.objs.size + 1),v,v2] (upd H (s.heap.objs.size + 1) (exO (s.heap.objs.size + 1) C s.heap.objs.size))
  (λw' H'=>w' = .non/\∃dx,H dx=none/\dx≠s.heap.objs.size + 1/\H'=upd (upd H dx (.xd [(a,v),(b,v2)])) (s.heap.objs.size + 1) (Fl (s.heap.objs.size + 1) C s.heap.objs.size dx)) E0:=by
  refine ⟨_,C,s.heap.objs.size,v,v2,rfl,Aj,ha,hab,λdx h1 h2=>⟨rfl,dx,by rw [Ai h2] at h1;exact h1,h2,?_⟩⟩
  funext b
  by_cases e1:b=s.heap.objs.size + 1
  ·subst e1;rw [Aj,Aj]
  ·by_cases e2:b=dx
   ·subst e2;rw [Ai e1,Ai e1,Aj,Aj]
   ·rw [Ai e1,Ai e1,Ai e2,Ai e2,Ai e1]
 have hl:([Value.ref (s.heap.objs.size + 1),u,u2]++[]).length=ps.length:=by
  have e:=F.len _ _ _ _ hsp;simpa using e
 obtain ⟨hh,g,d,t,os⟩:=s;refine wpAny_call (KY PySem.F.excBase_ValueError (M.cl.tail I.kIn) hC hN hni ((bind_fn I.kIn _ (beq_iff_eq.mp M.fn))) (by show 2<=sizeLine;decide) ?_);refine codeAny_mono (F.run z _ X.stack _ _ ⟨[Value.ref (hh.objs.size + 1),u,u2],[]⟩ [Value.ref (hh.objs.size + 1),u,u2] _ _ E0 (hr.make C [u,u2] []) (Env0.make (A:=X.A) ⟨I1.env0.frames,I1.env0.mod,I1.env0.bs,I1.env0.bsz,I1.env0.funs,I1.env0.frf,I1.env0.hok,I1.env0.bare⟩ C [u,u2] []) (by have:=hb _ [Value.ref (hh.objs.size + 1),u,u2] I1.kIn hl;simpa using this) r2 hsp) λr s' hq'=>?_
 cases r with
 | error e=>exact hq'.elim
 | ok fl=>
   cases fl with
   | ret w'=>
     obtain ⟨v',H',I3,rv,rfl,dx,d1,d2,rfl⟩:=I1.after hq';refine ⟨rv,?_⟩;have hx:=(I3.hok (hh.objs.size + 1) _ Aj).1;have hx:s'.heap.get? (hh.objs.size + 1)=some { excObj C hh.objs.size with dict:=some dx }:=hx;have xr:XRec true s'.heap (hh.objs.size + 1) C (some dx) .none:=⟨_,_,hx,rfl,rfl,rfl,rfl,λ_=>⟨rfl,by show 4 < 6;decide⟩⟩;have I4:=I3.write (x:=hh.objs.size + 1) (e:=hh.objs.size + 1) (o:=.ext (F2.XIs qx (hh.objs.size + 1) C (some dx))) (h':=s'.heap) (t':=s'.toks) (by rw [Aj];trivial) (.inl rfl) (λ_ _ _ z=>z) ⟨_,hx⟩ (Ih xr.to.is);rw [MT] at I4;exact h s' (hh.objs.size + 1) dx I4 hx0 d1 d2 (Nat.le_succ _) xr
   | next=>exact False.elim hq'
   | brk=>exact False.elim hq'
   | cont=>exact False.elim hq'
theorem Ur {z:Addr}{t:TA}(M:XMk X.K C P f)(ha:XAt X.K C P a)(hab:XAt X.K C P b)(F:FnOkH X.prog X.w X.K X.mg X.base CX0 k f fd ps (GD X.K P a b))(hr:Room (k + 1) X.A)(hb:Binds X.K fd ps [])(hg:Gl (X.mark z) n)(hm:X.mg n=some (.ref C))(hA:PA (X.mark z) [e,e'] t)
 (hdb:(n == ("__debug__" : Str))=false:=by decide) (h1:starEach [e,e'] X.env=(false,eval e X.env) :: starEach [e'] X.env:=by rfl) (hpl:(backTo pos (starEach [e'] X.env)).any (·.1)=false:=by rfl) :
 PM qx (X.mark z) (.Call (.Name n p) [e,e'] [] pos) C (λσ H Q=>t σ H λvs H1=>∃v u,vs=[v,u]/\∀x dx,H1 x=none->H1 dx=none->dx≠x->Q x (some dx) (upd (upd H1 dx (.xd [(a,v),(b,u)])) x (.ext (F2.XIs qx x C (some dx))))):=by
 intro pins s σ H Q I h;refine wpAny_Call_Name_kw (CI I hg hm ?_ hdb);refine PySem.W.callWith_K (h₀:=X.base) I.ok.mod.kin M.kp (thn (hA pos pins s σ H _ I h) λus s1 z9=>?_) h1 hpl;obtain ⟨vs,H1,I1,r,v,u,ev,q⟩:=z9;refine ⟨I1.kIn,?_⟩;subst ev
 cases r with
 | cons r0 rs=>
   cases rs with
   | cons r1 rs=>
     cases rs
     exact LV (X:=X) (z:=z) M ha hab F hr hb I1 r0 r1 λs' x dx I' hx hdx ne nx rc=>⟨x,some dx,_,rfl,I',Aj,Nat.le_trans I1.sz nx,rc,q x dx hx hdx ne⟩
end
end L2
namespace F2
open PySem L2 PySem.Spec PySem.W
section
variable {X:Cx}{pos p p2 p3 p4:Pos}{P:Addr}{ca:Str->Addr}{E:XK}{e e' cN:Expr}
def Qh (prog:Program)(w:World)(K:PySem.W.Frag)(mg:Str->Option Value)(base:Heap)(C P:Addr):Prop:=
 ∃(f:Addr) (fd:FuncData) (ps:List Str),XMk K C P f/\XAt K C P "at"/\XAt K C P "side"/\Binds K fd ps []/\FnOkH prog w K mg base CX0 1 f fd ps (GD K P "at" "side")
theorem XT {n' v:Str}{C':Addr}{bm':List Value}{i:Nat}{rest:List ExceptHandler}{f:M (List D)}{r:D->M Out}(x:XM X.K X.mg P ca)(xn:Qh X.prog X.w X.K X.mg X.base (ca "Broken") P)(h1:X.stack=X.env :: X.outer)(h2:X.env.frame=some X.env.locals)(hr:L2.Room 2 X.A)
 (hg:Gl X n') (hm:X.mg n'=some (.ref C')) (c':XCl X.K C' bm') (hs:∀n∈A5,(Value.ref (ca n) :: .ref P :: VE).contains (.ref C')=DX n n')
 (hN:X.N.Nodup) (hi:X.N[i]?=some v) (hl:X.env.scope.names.lookup v=some .local) (hx:GJ X (λ_=>E)) (hgB:Gl X "Broken") (ha:∀x,PA (X.mark x) [e,e'] (RA X.K f))
 (hz:∀(A:Around) (s:Shared) (Q:Value->Shared->Prop) (E:Value->Shared->Prop),Q Value.none s->wpAny (model X.prog X.w) A (eval cN X.env) Q E s)
 (hrest:PH true X rest (RH X.K ca (μX X.K E) r)) (hdb:(n' == ("__debug__" : Str))=false:=by decide) (hs1:A1 e=false:=by rfl) (hs2:AU [e']=true:=by rfl) :
 PH true X (.ExceptHandler (some (.Name n' p)) (some v) [.Raise (some (.Call (.Name "Broken" p3) [e,e'] [] p4)) (some cN) p2] pos :: rest) (RH X.K ca (μX X.K E) (hAs n' i (Cm "Broken" f) r)):=by
 obtain ⟨fa,fd,ps,M,A,A2,B,F⟩:=xn;have hnB:("Broken" : Str)∈A5:=by decide
 intro pins s0 σ H y C dx T D I o q;refine Ya h1 h2 hg hm c' hN hi hl M.cl (λz=>Ur M A A2 F hr B hgB (x.ms _ hnB) (ha z) (by decide) (AX hs1) (AK hs2).1) hx hz hrest hdb pins s0 σ H y C dx T D I o ?_;obtain ⟨Oo,c,t,n,ds,fi,hn,rfl,rv,o1,t',eq,k⟩:=q;refine ⟨_,x.cl n hn,?_⟩;rw [hs n hn];unfold hAs at eq;dsimp only at eq
 by_cases hb':DX n n'=true
 ·rw [if_pos hb'] at eq ⊢
  cases e1:Cm "Broken" f { t with env:=t.env.set i (some (.val (.exc n ds))) } with
  | none=>rw [e1] at eq;cases eq
  | some z=>
    obtain ⟨o2,t2⟩:=z;rw [e1] at eq
    cases eq
    obtain ⟨es,t1,e2,e1⟩:=Ag e1;have hny:¬c.A y:=by cases rv with | exc _ _ hA _ _=>exact hA
    refine ⟨Oo,c,_,fi.set rv,es,t1,e2,λvs H1 c1 f1 s1 rvs=>?_⟩;rcases es with _ | ⟨d,_ | ⟨d',_ | ⟨_,_⟩⟩⟩
    ·cases e1
    ·cases e1
    ·cases rvs with
     | @cons v0 _ _ _ r0 rs=>
     cases rs with
     | @cons v1 _ _ _ r1 rs=>
     cases rs
     cases e1
     refine ⟨_,_,rfl,λu du hu hdu ne=>?_⟩;have hy1:H1 y=some (.ext (XIs true y (ca n) dx)):=s1.ext.keep _ _ o.hx hny;have nyu:y≠u:=λz=>by rw [z,hu] at hy1;cases hy1
     have nyd:y≠du:=λz=>by rw [z,hdu] at hy1;cases hy1
     have f2:=f1.laid (o:=.xd [("at",v0),("side",v1)]) hdu;have hu2:upd H1 du (.xd [("at",v0),("side",v1)]) u=none:=by rw [Ai (Ne.symm ne)];exact hu
     have f3:=f2.laid (o:=.ext (XIs false u (ca "Broken") (some du))) hu2;have ex:=(f1.stp_laid (o:=.xd [("at",v0),("side",v1)]) hdu).ext.trans (f2.stp_laid (o:=.ext (XIs false u (ca "Broken") (some du))) hu2).ext;have s3:=s1.trans ((f1.stp_laid (o:=.xd [("at",v0),("side",v1)]) hdu).trans (f2.stp_laid (o:=.ext (XIs false u (ca "Broken") (some du))) hu2));refine ⟨Ne.symm nyu,by rw [Ai nyu,Ai nyd];exact hy1,?_⟩;refine k _ _ c1 (f3.unset i) s3 (.ref u) (.exc (x.ns _ hnB) Aj (f2.s.free hu2) ?_ (.cons (r0.mono ex) (.cons (r1.mono ex) .nil))) u (some du) rfl;exact ⟨by rw [Ai ne,Aj];rfl,f1.s.free hdu⟩
    ·cases e1
 ·rw [if_neg hb'] at eq ⊢;exact ⟨Oo,c,t,n,ds,fi,hn,rfl,rv,o1,t',eq,k⟩
end
theorem OW {prog:Program}{w:World}{K:PySem.W.Frag}{mg:Str->Option Value}{base:Heap}{C P:Addr}{qual:Str}{st:Stmt}{p1 p2 p3 p4 p5 p6 p7 p8:Pos}(hbd:Bj st=[.Assign [.Attribute (.Name "self" p1) "at" p2] (.Name "at" p3) p4,.Assign [.Attribute (.Name "self" p5) "side" p6] (.Name "side" p7) p8])(S:FnScope ["self", "at", "side"] ["self", "at", "side"] (Ao st))
 (s1:(Ao st).names.lookup ("self" : Str)=some NameKind.local) (s2:(Ao st).names.lookup ("at" : Str)=some NameKind.local) (s3:(Ao st).names.lookup ("side" : Str)=some NameKind.local) (x:XF2 K C P qual st):Qh prog w K mg base C P:=by
 obtain ⟨f,fd,M,A,A2,B,F⟩:=x;refine ⟨f,fd,_,M,A,A2,B,F.okH (k:=0) S (λvs H Q E h=>?_) λcdv z A' outer s H vs Q E hr h=>?_⟩
 ·obtain ⟨y,C',tp,v,u,rfl,_⟩:=h;rfl
 ·rw [hbd];refine ⟨_,Hz (Sw (P:=P) (B2 (i:=0) rfl (.inl s1) (by decide) (by decide)) (B2 (i:=1) rfl (.inl s2) (by decide) (by decide)) rfl) (GU (PB (P:=P) (f1:="at") (by decide) (B2 (i:=0) rfl (.inl s1) (by decide) (by decide)) (B2 (i:=2) rfl (.inl s3) (by decide) (by decide)) rfl)),?_⟩;obtain ⟨y,C',tp,v,u,rfl,hy,ha,ha2,k⟩:=h;refine ⟨v,rfl,.ref y,rfl,y,C',tp,rfl,hy,ha,λdx h1 h2=>⟨u,rfl,.ref y,rfl,y,C',tp,dx,v,rfl,Aj,by rw [Ai h2,Aj],h2,ha2,?_⟩⟩;have z:=k dx h1 h2;have e:upd (upd (upd H dx (.xd [("at",v)])) y (Fl y C' tp dx)) dx (.xd [("at",v),("side",u)])=upd (upd H dx (.xd [("at",v),("side",u)])) y (Fl y C' tp dx):=by
   funext b
   by_cases e1:b=dx
   ·subst e1;rw [Aj,Ai h2,Aj]
   ·by_cases e2:b=y
    ·subst e2;rw [Ai e1,Aj,Aj]
    ·rw [Ai e1,Ai e2,Ai e1,Ai e2,Ai e1]
  rw [e];exact z
end F2
namespace L2
open PySem PySem.Spec PyProof.Rows
section
variable {prog:Program}{w:World}{A:Around}{E:Value->Shared->Prop}{s:Shared}
variable {I:Addr}{fp wr:List Addr}{G:Array GenState->Array GenState->Prop}{n:Nat}{P:Nat->Value->Prop}{St:Nat->Shared->Prop}
def aA (prog:Program)(w:World)(h:Heap)(no:List Addr)(k:Key)(x v:Value):Prop:=∃(p:Addr) (o:Obj) (kv:Value) (q:Nat),v = .ref p/\p∉no/\h.get? p=some o/\o.cls = .type "tuple"/\o.data = .seq #[kv,x] q/\(Cl prog w).is k kv=true
end
section
variable {X:Cx}
end
end L2
namespace F2
open PySem L2 PySem.Spec PyProof.Rows
section
variable {X:Cx}{pos:Pos}{e:Expr}
end
end F2
namespace L2
open PySem PySem.Spec PyProof.Rows
section
variable {X:Cx}
end
end L2
namespace F2
open PySem L2 PySem.Spec PyProof.Rows
section
variable {K:PySem.W.Frag}
end
section
variable {X:Cx}{pos:Pos}{e:Expr}
end
end F2
namespace F2
open PySem L2 PySem.Spec PySem.W
theorem Th {P:Program}{w:World}{K:PySem.W.Frag}{mg:Str->Option Value}{base:Heap}{x qual:Str}{st:Stmt}{fa:Addr}{fd:FuncData}{N ps:List Str}{k n m:Nat}{g:M Out}(e1:ps.length=n)(e2:N.length=m)(F:Fun K x qual st fa fd)(S:FnScope N ps (Ao st))
 (hb:∀(cdv:Value) (A:Around) (outer:List Env) (s:Shared) (H:Hp) (E:XK),L2.Room k (A.deeper (PyProof.Rows.envOfC qual (Ao st) s.heap.objs.size fa cdv))->
   Cc (CX1 false P w) (cxX false P w K mg base N qual (Ao st) fa cdv A outer s H E) (λ_=>E)->Fv false (cxX false P w K mg base N qual (Ao st) fa cdv A outer s H E) (λ_=>E)->
   PassesOwn (model P w) (cxX false P w K mg base N qual (Ao st) fa cdv A outer s H E).A (cxX false P w K mg base N qual (Ao st) fa cdv A outer s H E).env (cxX false P w K mg base N qual (Ao st) fa cdv A outer s H E).xe->
   GJ (cxX false P w K mg base N qual (Ao st) fa cdv A outer s H E) (λ_=>E)->
   PSs (cxX false P w K mg base N qual (Ao st) fa cdv A outer s H E) (Bj st) (RSg K (μX K E) g)):FnOk P w K mg base (CX1 false P w) (k + 1) fa fd ps (spX K (fnOf n m g)):=
 Me e1 e2 F S λcdv A outer s H E hr h1 h2 h3=>hb cdv A outer s H E hr h1 h2 h3 XE.raisesT
theorem Tx {M:Model}{env:Env}{j:Nat}{pos:Pos}:∀(A:Around) (s:Shared) (Q:Value->Shared->Prop) (E:Value->Shared->Prop),Q Value.none s->wpAny M A (eval (.Constant .none j pos) env) Q E s:=λA s Q E h=>wpAny_pure h
section
variable {X:Cx}
end
def CM (K:PySem.W.Frag):Prop:=∀n∈I9,∀C,nsIn K mainGlobals n=some (some (.ref C))->Cls K C/\∀f∈atN,NoAttr K C f
noncomputable def E4 (f:Str)(v:D):List (Str×D)->List (Str×D)
 | []=>[(f,v)]
 | (g,x) :: r=>if g=f then (g,v) :: r else (g,x) :: E4 f v r
section
variable {K:PySem.W.Frag}{c:Cf}{H:Hp}
theorem FldR.len:∀{us:List (Str×V)} {fs:List (Str×D)},FldR K c H us fs->us.length=fs.length
 | _,_,.nil=>rfl
 | _,_,.cons _ t=>by rw [List.length_cons,List.length_cons,FldR.len t]
theorem FldR.look {f:Str}{d:D}:∀{us:List (Str×V)} {fs:List (Str×D)},FldR K c H us fs->fs.lookup f=some d->∃v,us.lookup f=some v/\Rep K c H v d
 | _,_,.nil,e=>by cases e
 | (g,x) :: us,(g',y) :: fs,.cons ⟨h1,h2⟩ t,e=>by
   have h1:g=g':=h1;subst h1
   by_cases q:(f == g)=true
   ·simp only [List.lookup,q] at e ⊢
    cases e
    exact ⟨_,rfl,h2⟩
   ·have q:(f == g)=false:=by simpa using q
    simp only [List.lookup,q] at e ⊢;exact FldR.look t e
theorem FldR.none {f:Str}:∀{us:List (Str×V)} {fs:List (Str×D)},FldR K c H us fs->(∀p∈fs,p.1≠f)->us.lookup f=none
 | _,_,.nil,_=>rfl
 | (g,x) :: us,(g',y) :: fs,.cons ⟨h1,h2⟩ t,e=>by
   have h1:g=g':=h1;subst h1;have q:(f == g)=false:=by
    have:=e (g,y) (.head _);simpa using λz:f=g=>this z.symm
   simp only [List.lookup,q];exact FldR.none t λp hp=>e p (.tail _ hp)
theorem FldR.put {f:Str}{v:V}{d:D}(r:Rep K c H v d):∀{us:List (Str×V)} {fs:List (Str×D)},FldR K c H us fs->FldR K c H (Cv f v us) (E4 f d fs)
 | _,_,.nil=>.cons ⟨rfl,r⟩ .nil
 | (g,x) :: us,(g',y) :: fs,.cons ⟨h1,h2⟩ t=>by
   have h1:g=g':=h1;subst h1;show FldR K c H (if g=f then (g,v) :: us else (g,x) :: Cv f v us) (if g=f then (g,d) :: fs else (g,y) :: E4 f d fs)
   by_cases q:g=f
   ·rw [if_pos q,if_pos q];exact .cons ⟨rfl,r⟩ t
   ·rw [if_neg q,if_neg q];exact .cons ⟨rfl,h2⟩ (FldR.put r t)
theorem FldR.mono {c':Cf}{H':Hp}(e:Ext c H c' H'){us:List (Str×V)}{fs:List (Str×D)}(h:FldR K c H us fs):FldR K c' H' us fs:=Paired.mapP h λ_ _ z=>⟨z.1,z.2.mono e⟩
theorem MG {f:Str}{v:D}(hf:f∈atN):∀{fs:List (Str×D)},(∀p∈fs,p.1∈atN)->∀p∈E4 f v fs,p.1∈atN
 | [],_=>λp hp=>by rw [show E4 f v []=[(f,v)] from rfl,List.mem_singleton] at hp;subst hp;exact hf
 | (g,x) :: r,h=>λp hp=>by
   rw [show E4 f v ((g,x) :: r)=(if g=f then (g,v) :: r else (g,x) :: E4 f v r) from rfl] at hp
   split at hp
   ·rcases List.mem_cons.mp hp with e | e
    ·subst e;exact h (g,x) (.head _)
    ·exact h p (.tail _ e)
   ·rcases List.mem_cons.mp hp with e | e
    ·subst e;exact h (g,x) (.head _)
    ·exact MG hf (λp hp=>h p (.tail _ hp)) p e
end
noncomputable def EV {α:Type}(d:D)(h:Nat->Str->List (Str×D)->M α):M α:=λt=>match d with
 | .obj k=>match t.S[k]? with
   | some (.ins n fs)=>h k n fs t
   | _=>none
 | _=>none
theorem Gk {α:Type}{d:D}{h:Nat->Str->List (Str×D)->M α}{t:T}{z:α×T}(e:EV d h t=some z):∃k n fs,d = .obj k/\t.S[k]?=some (.ins n fs)/\h k n fs t=some z:=by
 cases d with
 | obj k=>
   rw [show EV (.obj k) h t=(match t.S[k]? with | some (.ins n fs)=>h k n fs t | _=>none) from rfl] at e
   cases es:t.S[k]? with
   | none=>rw [es] at e;cases e
   | some o=>
     rw [es] at e
     cases o with
     | ins n fs=>exact ⟨k,n,fs,rfl,es,e⟩
     | _=>cases e
 | _=>cases e
def CJ (f:Str)(a:M D):M D:=bnd a λd=>EV d λ_ _ fs t=>(fs.lookup f).map λv=>(v,t)
def Ek (f:Str)(gv ga:M D):M Out:=bnd gv λv=>bnd ga λd=>EV d λk n fs t=>if fs.length < 1000 then some (.next,{ t with S:=t.S.set k (.ins n (E4 f v fs)) }) else none
def JZ (n:Str)(g:Fn)(f:M (List D)):M D:=bnd f λds t=>match g (.obj t.S.length :: ds) (t.S++[.ins n []]) with
 | some (.non,S')=>some (.obj t.S.length,{ t with S:=S' })
 | _=>none
def Da (n:Str)(g:Fn)(o:M D)(f:M (List D)):M D:=bnd o λd=>EV d λ_ n' _=>if n'=n then bnd f λds t=>match g (d :: ds) t.S with
 | some (r,S')=>some (r,{ t with S:=S' })
 | none=>none else fail
theorem GV {K:PySem.W.Frag}{c:Cf}{H:Hp}{v:V}{k:Nat}(h:Rep K c H v (.obj k)):∃a,v = .ref a/\c.ι[k]?=some a:=by
 cases h with
 | obj e=>exact ⟨_,rfl,e⟩
end F2
namespace L2
open PySem PySem.Spec PySem.W PyProof.Rows
section
variable {X:Cx}{CX:CXT}{k:Nat}{f C:Addr}{fd:FuncData}{ps:List Str}{sp:Sp}{E:St->XK}{x m:Str}{p pos apos:Pos}{e o:Expr}{es:List Expr}{ta:TE}{t:TA}
theorem Uz {pins:List (Addr×Obj)}{σ:St}{H:Hp}{s:Shared}{Q:VK}{us:List Value}{vs:List V}(F:FnOk X.prog X.w X.K X.mg X.base CX k f fd ps sp)(hr:Room k X.A)(hb:Binds X.K fd ps [])(hx:Cc CX X E)
 (I:Inv X pins σ H s) (r:Vals vs us) (h:sp vs H Q (E σ)):wpAny (model X.prog X.w) X.A (call (.ref f) us) (EP X pins σ Q) X.xe s:=by
 have hl:(us++[]).length=ps.length:=by rw [List.append_nil,<-r.length];exact F.len _ _ _ _ h
 refine wpAny_call (codeAny_mono (F.run X.A X.stack s H ⟨us,[]⟩ us vs Q (E σ) hr I.env0 (by have:=hb s us I.kIn hl;rwa [List.append_nil] at this) r h) λr s' hq=>?_)
 cases r with
 | error e=>exact hx pins σ H s e s' I hq
 | ok fl=>
   cases fl with
   | ret u=>exact I.after hq
   | next=>exact False.elim hq
   | brk=>exact False.elim hq
   | cont=>exact False.elim hq
def Xf (C:Addr)(m:Str)(sp:Sp)(E:St->XK)(ta:TE)(t:TA):TE:=λσ H Q=>ta σ H λx H1=>∃a dx fs,x = .ref a/\H1 a=some (.ins C dx fs)/\fs.lookup m=none/\
 t σ H1 λvs H2=>sp (x :: vs) H2 Q (E σ)
abbrev Hl (X:Cx)(o:Expr)(m:Str)(es:List Expr)(apos pos:Pos)(pl:Sem Bool):Prop:=eval (.Call (.Attribute o m apos) es [] pos) X.env=(do
 let ov <-eval o X.env
 standAt apos.atName
 let (f,first) <-holding [ov] (getMethod ov m pl)
 callWith pos f first (backTo pos (starEach es X.env)) (backToKw pos (keywordEach [] X.env)))
theorem Rj {pl:Sem Bool}(he:PE X o ta)(c:Cls X.K C)(hm:Meth X.K C m f)(F:FnOk X.prog X.w X.K X.mg X.base CX k f fd ps sp)(hr:Room k X.A)(hb:Binds X.K fd ps [])(hx:Cc CX X E)(ha:PA X (e :: es) t)
 (hst:starEach (e :: es) X.env=(false,eval e X.env) :: starEach es X.env) (hpl:(backTo pos (starEach es X.env)).any (·.1)=false) (ht:Hl X o m (e :: es) apos pos pl) :
 PE X (.Call (.Attribute o m apos) (e :: es) [] pos) (Xf C m sp E ta t):=by
 intro pins s σ H Q I h;refine PySem.W.methodCall_KW (pl:=pl) (thn (he pins s σ H _ I h) λu s1 z9=>?_) ht;obtain ⟨x,H1,I1,rx,a,dx,fs,ex,ea,l,q⟩:=z9;subst ex;obtain rfl:u=Value.ref a:=rx;refine Iq I1 ea c hm l ?_;refine PySem.W.callWith_K (first:=[.ref a]) (h₀:=X.base) I.ok.mod.kin hm.kp (thn (ha pos pins s1 σ H1 _ I1 q) λus s2 z9=>?_) hst hpl;obtain ⟨vs,H2,I2,r,q2⟩:=z9;refine ⟨I2.kIn,?_⟩;exact Uz (us:=.ref a :: us) (vs:=.ref a :: vs) F hr hb hx I2 (.cons rfl r) q2
structure ByCls (K:PySem.W.Frag)(C:Addr)(m:Str)(f:Addr):Prop where
 ga:specialIn K (.ref C) "__getattribute__" = some (some (.builtin "type.__getattribute__"))
 rd:readsIn K C (.type "type")=true
 at_:(match findCls K (.ref C) (.type "type") m with | some (.val (.ref g))=>g == f | _=>false)=true
 kp:keepIn K (.ref f)=true
end
end L2
namespace F2
open PySem L2 PySem.Spec PySem.W
variable {n:Str}{h:Fn}
section
variable {X:Cx}{e o a value:Expr}{es:List Expr}{pos pos' apos p:Pos}{f:Str}{g gv ga:M D}{fl:M (List D)}{C:Addr}
theorem Vz (cm:CM X.K)(hf:f∈atN)(he:PE X e (RE X.K g))(hb:attributeBase e f X.env (eval e X.env)=eval e X.env):PE X (.Attribute e f pos) (RE X.K (CJ f g)):=
 AD (WA he hb) λσ H Q z9=>by
  obtain ⟨Oo,c,t,fi,r,t',eq,kk⟩:=z9;obtain ⟨d,t1,e1,eq⟩:=Ag eq;obtain ⟨k,n,fs,rfl,es,eq⟩:=Gk eq;obtain ⟨y,e2,e3⟩:=Option.map_eq_some_iff.mp eq
  cases e3
  refine ⟨Oo,c,t,fi,.obj k,_,e1,λv H1 c1 f1 s1 rv=>?_⟩;obtain ⟨b,rfl,hk⟩:=GV rv;obtain ⟨⟨hn,hat⟩,C,dx,us,g1,g2,g3⟩:=f1.s.obs k b _ hk es;obtain ⟨w,l1,l2⟩:=g3.look e2;exact ⟨b,C,dx,us,w,rfl,g2,(cm n hn C g1).1,(cm n hn C g1).2 f hf,l1,kk w H1 c1 f1 s1 l2⟩
theorem VS {μ:Cf->Hp->D->(V->Hp->Prop)->Prop}(cm:CM X.K)(hf:f∈atN)(ha:PE X o (RE X.K ga))(hv:PE X value (RE X.K gv))(hs:swapsWith value (some (.Attribute o f pos')) pos.line X.env=pure false:=by rfl) :
 PS X (.Assign [.Attribute o f pos'] value pos) (RSg X.K μ (Ek f gv ga)):=
 A8 (WJ ha hv hs) λD σ H z9=>by
  obtain ⟨Oo,c,t,fi,r,t',eq,kk⟩:=z9;obtain ⟨d,t1,e1,eq⟩:=Ag eq;obtain ⟨d2,t2,e2,eq⟩:=Ag eq;obtain ⟨k,n,fs,rfl,es,eq⟩:=Gk eq
  split at eq
  ·next hl=>
   cases eq
   refine ⟨Oo,c,t,fi,d,t1,e1,λv H1 c1 f1 s1 rv=>⟨Oo,c1,t1,f1,.obj k,t2,e2,λx H2 c2 f2 s2 rx=>?_⟩⟩;obtain ⟨b,rfl,hk⟩:=GV rx;obtain ⟨⟨hn,hat⟩,C,dx,us,g1,g2,g3⟩:=f2.s.obs k b _ hk es;refine ⟨b,C,dx,us,rfl,g2,(cm n hn C g1).1,(cm n hn C g1).2 f hf,by rw [g3.len];exact hl,?_⟩;obtain ⟨f3,s3⟩:=f2.wrObj (o:=.ins n (E4 f d fs)) (u:=.ins C dx (Cv f v us)) hk λc' H' ext hu=>⟨⟨hn,MG hf hat⟩,C,dx,_,g1,hu,(FldR.put (rv.mono s2.ext) g3).mono ext⟩;exact kk σ _ c2 f3 ((s1.trans s2).trans s3)
  ·cases eq
theorem Pa {ds:List D}{t:T}{r:D}{t':T}(e:(match h (.obj t.S.length :: ds) (t.S++[.ins n []]) with | some (.non,S')=>some (.obj t.S.length,{ t with S:=S' }) | _=>none:Option (D×T))=some (r,t')) :
 ∃S',h (.obj t.S.length :: ds) (t.S++[.ins n []])=some (.non,S')/\r = .obj t.S.length/\t' = { t with S:=S' }:=by
 split at e
 ·next S' q=>cases e;exact ⟨S',q,rfl,rfl⟩
 ·cases e
theorem Ta {k:Nat}{fa:Addr}{fd:FuncData}{ps:List Str}(hn:n∈I9)(hC:nsIn X.K mainGlobals n=some (some (.ref C)))(M:Mk X.K C fa)(F:FnOk X.prog X.w X.K X.mg X.base CX0 k fa fd ps (spF X.K h))(hr:Room (k + 1) X.A)(hg:Gl X n)(hm:X.mg n=some (.ref C))(hb:Binds X.K fd ps [])
 (ha:PA X (e :: es) (RA X.K fl)) (hdb:(n == ("__debug__" : Str))=false:=by decide) (h1:A1 e=false:=by rfl) (h2:AU es=true:=by rfl):PE X (.Call (.Name n p) (e :: es) [] pos) (RE X.K (JZ n h fl)):=
 AD (Uj M F hr hg hm hb .nil NS ha hdb (AX h1) (AK h2).1) λσ H Q z9=>by
  obtain ⟨Oo,c,t,fi,r,t',eq,kk⟩:=z9;obtain ⟨ds,t1,e1,eq⟩:=Ag eq;obtain ⟨S',e2,rfl,rfl⟩:=Pa eq;refine ⟨Oo,c,t,fi,ds,t1,e1,λvs H1 c1 f1 s1 rvs x dx hx hdx ne=>?_⟩;rw [List.append_nil];have f2:=f1.laid (p:=dx) (o:=.own x) hdx;have s2:=f1.stp_laid (p:=dx) (o:=.own x) hdx;have hx2:upd H1 dx (.own x) x=none:=by rw [Ai (Ne.symm ne)];exact hx
  obtain ⟨c3,f3,s3,e3⟩:=f2.newObj (o:=.ins n []) (u:=.ins C dx []) hx2 λc' H' ext hu=>⟨⟨hn,λp hp=>by cases hp⟩,C,dx,[],hC,hu,.nil⟩;refine ⟨c3,.obj t1.S.length :: ds,_,f3.s,.cons (.obj e3) ((rvs.mono s2.ext).mono s3.ext),.non,S',e2,λv H' c' si st ho rv=>?_⟩;obtain ⟨f4,s4⟩:=f3.after si st ho
  cases rv
  exact ⟨rfl,kk _ H' c' f4 ((s1.trans s2).trans (s3.trans s4)) (.obj (st.ext.io _ _ e3))⟩
structure MAt (K:PySem.W.Frag)(n m:Str)(C fa:Addr):Prop where
 cl:n∈I9
 at_:nsIn K mainGlobals n=some (some (.ref C))
 me:Meth K C m fa
 na:m∉atN
theorem JJ {d:D}{t:T}{r:D}{t':T}(e:EV d (λ_ n' _=>if n'=n then bnd fl λds t=>match h (d :: ds) t.S with | some (r,S')=>some (r,{ t with S:=S' }) | none=>none else fail) t=some (r,t')) :
 ∃k fs ds t1 S',d = .obj k/\t.S[k]?=some (.ins n fs)/\fl t=some (ds,t1)/\h (d :: ds) t1.S=some (r,S')/\t' = { t1 with S:=S' }:=by
 obtain ⟨k,n',fs,rfl,es,q⟩:=Gk e
 by_cases hn:n'=n
 ·subst hn;rw [if_pos rfl] at q;obtain ⟨ds,t1,e1,q⟩:=Ag q;obtain ⟨S',e2,rfl⟩:=Gc q;exact ⟨k,fs,ds,t1,S',rfl,es,e1,e2,rfl⟩
 ·rw [if_neg hn] at q;cases q
section
variable {k:Nat}{fa:Addr}{fd:FuncData}{ps:List Str}{h:Fn}{n m:Str}{qx:Bool}{E:L2.St->XK}
theorem Mc {pl:Sem Bool}(cm:CM X.K)(ma:MAt X.K n m C fa)(F:FnOk X.prog X.w X.K X.mg X.base CX0 k fa fd ps (spF X.K h))(hr:Room k X.A)(hb:Binds X.K fd ps [])(he:PE X o (RE X.K g))(ha:PA X (e :: es) (RA X.K fl))
 (h1:A1 e=false:=by rfl) (h2:AU es=true:=by rfl) (ht:Hl X o m (e :: es) apos pos pl:=by rfl):PE X (.Call (.Attribute o m apos) (e :: es) [] pos) (RE X.K (Da n h g fl)):=
 AD (Uk (pl:=pl) he (cm n ma.cl C ma.at_).1 ma.me F hr hb .nil NS ha (AX h1) (AK h2).1 ht) λσ H Q z9=>by
  obtain ⟨Oo,c,t,fi,r,t',eq,kk⟩:=z9;obtain ⟨d,t1,e1,eq⟩:=Ag eq;obtain ⟨j,fs,ds,t2,S',rfl,es,e2,e3,rfl⟩:=JJ eq;refine ⟨Oo,c,t,fi,.obj j,t1,e1,λv H1 c1 f1 s1 rv=>?_⟩;obtain ⟨b,rfl,hk⟩:=GV rv;obtain ⟨⟨_,hat⟩,C',dx,us,g1,g2,g3⟩:=f1.s.obs j b _ hk es;rw [ma.at_] at g1
  cases g1
  refine ⟨b,dx,us,rfl,g2,g3.none λp hp z=>ma.na (z ▸ hat p hp),Oo,c1,t1,f1,ds,t2,e2,λvs H2 c2 f2 s2 rvs=>?_⟩;show spF X.K h (V.ref b :: (vs++[])) H2 Q E0;rw [List.append_nil];refine ⟨c2,.obj j :: ds,t2.S,f2.s,.cons (.obj (s2.ext.io _ _ hk)) rvs,r,S',e3,λv H' c' si st ho rv=>?_⟩;obtain ⟨f3,s3⟩:=f2.after si st ho;exact kk v H' c' f3 ((s1.trans s2).trans s3) rv
theorem To {pl:Sem Bool}(cm:CM X.K)(ma:MAt X.K n m C fa)(F:FnOk X.prog X.w X.K X.mg X.base (CX1 qx X.prog X.w) k fa fd ps (spX X.K h))(hr:Room k X.A)(hb:Binds X.K fd ps [])(hx:Cc (CX1 qx X.prog X.w) X E)(he:PE X o (RE X.K g))(ha:PA X (e :: es) (RA X.K fl))
 (h1:A1 e=false:=by rfl) (h2:AU es=true:=by rfl) (ht:Hl X o m (e :: es) apos pos pl:=by rfl):PE X (.Call (.Attribute o m apos) (e :: es) [] pos) (RX X.K E (Da n h g fl)):=
 AD (Rj (pl:=pl) he (cm n ma.cl C ma.at_).1 ma.me F hr hb hx ha (AX h1) (AK h2).1 ht) λσ H Q z9=>by
  obtain ⟨Oo,c,t,fi,r,t',eq,kk⟩:=z9;obtain ⟨d,t1,e1,eq⟩:=Ag eq;obtain ⟨j,fs,ds,t2,S',rfl,es,e2,e3,rfl⟩:=JJ eq;refine ⟨Oo,c,t,fi,.obj j,t1,e1,λv H1 c1 f1 s1 rv=>?_⟩;obtain ⟨b,rfl,hk⟩:=GV rv;obtain ⟨⟨_,hat⟩,C',dx,us,g1,g2,g3⟩:=f1.s.obs j b _ hk es;rw [ma.at_] at g1
  cases g1
  refine ⟨b,dx,us,rfl,g2,g3.none λp hp z=>ma.na (z ▸ hat p hp),Oo,c1,t1,f1,ds,t2,e2,λvs H2 c2 f2 s2 rvs=>?_⟩;refine ⟨c2,.obj j :: ds,t2.S,f2.s,.cons (.obj (s2.ext.io _ _ hk)) rvs,r,S',e3,λv H' c' si st ho rv=>?_⟩;obtain ⟨f3,s3⟩:=f2.after si st ho;exact kk v H' c' f3 ((s1.trans s2).trans s3) rv
end
end
variable {K:PySem.W.Frag}
theorem Wo {k:Kd}{P:Program}{w:World}{mg:Str->Option Value}{base:Heap}{n:Nat}{fa:Addr}{fd:FuncData}{ps:List Str}{f:Fn}(h:okK k P w K mg base n fa fd ps f):okK k P w K mg base (n + 1) fa fd ps f:=by
 cases k <;> exact FnOk.mono h (Nat.le_succ _)
def Nl (K:PySem.W.Frag)(C:Addr):Bool:=plainGet K C Str.empty && hasDictIn K C && plainOver K C && findIn K (.ref C) "__setattr__" == some (some (.builtin "object.__setattr__")) && atN.all λf=>findIn K (.ref C) f == some none
theorem SR {C:Addr}(h:Nl K C=true):Cls K C/\∀f∈atN,NoAttr K C f:=by
 unfold Nl at h;simp only [Bool.and_eq_true,beq_iff_eq,List.all_eq_true] at h;obtain ⟨⟨⟨⟨a,b⟩,c⟩,d⟩,e⟩:=h;exact ⟨⟨a,b,c,d⟩,λf hf=>e f hf⟩
theorem XG (h:∀n∈I9,nsIn K mainGlobals n=some none\/∃C,nsIn K mainGlobals n=some (some (.ref C))/\Nl K C=true):CM K:=λn hn C e=>by
 rcases h n hn with q | ⟨C',q,b⟩
 ·rw [e] at q;cases q
 ·rw [e] at q;cases q;exact SR b
noncomputable def NG (K:PySem.W.Frag)(C:Addr):Bool:=makesIn K C && keepIn K (.ref C)
theorem X3 {C f:Addr}(h:NG K C=true)(i:findIn K (.ref C) "__init__" = some (some (.ref f)))(hf:isFn K (.ref f)=true):Mk K C f:=by
 unfold NG at h;simp only [Bool.and_eq_true] at h;exact ⟨h.1,i,hf,h.2⟩
end F2
namespace F2
open PySem L2 PySem.Spec PyProof.Rows
section
variable {K:PySem.W.Frag}
def HE:D->Option Int->Option Int->M D
 | .obj k,lo,hi=>λt=>match t.S[k]? with
   | some (.lst ds)=>some (.lst (BZ ds lo hi),t)
   | _=>none
 | x,lo,hi=>Dk x lo hi
theorem RQ:M8 K (Ru K) HE:=λ{Oo c t σ H x dx r lo hi t' Q} f rx eq k=>by
 unfold HE at eq
 split at eq
 ·next kk=>
  cases rx with
  | @obj a kk h1=>
    split at eq
    ·next ds es=>
     cases eq
     obtain ⟨vs,g1,g2⟩:=f.s.obs kk a _ h1 es;exact .inl (.inl ⟨a,vs,rfl,SqL.of g1,λq hq=>k _ _ c (f.laid hq) (f.stp_laid hq) (.lst Aj (f.s.free hq) ((F0 g2 lo hi).mono (Ext.laid f.s hq)))⟩)
    ·cases eq
 ·exact MP f rx eq k
end
abbrev Gd:=Option (Nat×List D)
def Gon (g:Gd)(S:List Ob):Prop:=∀k xs,g=some (k,xs)->S[k]?=some (.lst xs)
def chk (g:Gd):M Unit:=λt=>@ite _ (Gon g t.S) (Classical.propDecidable _) (some ((),t)) none
theorem Ky {g:Gd}{t t':T}{u:Unit}(h:chk g t=some (u,t')):Gon g t.S/\t'=t:=by
 unfold chk at h
 split at h
 ·next q=>cases h;exact ⟨q,rfl⟩
 ·cases h
theorem Ox {g:Gd}{t:T}(h:Gon g t.S):chk g t=some ((),t):=by unfold chk;rw [if_pos h]
def compG (g:Gd)(st:D->M Unit)(tst:M Bool)(elt:M D):List D->M (List D)
 | []=>bnd (chk g) λ_=>ret []
 | d :: r=>bnd (chk g) λ_=>bnd (st d) λ_=>bnd tst λk=>if k=true then bnd elt λx=>bnd (compG g st tst elt r) λxs=>ret (x :: xs) else compG g st tst elt r
def DQ (n:Nat)(fr:List Nat)(f:M (Gd×List D))(st:D->M Unit)(tst:M Bool)(elt:M D):M (List D):=bnd f λp t=>match compG p.1 st tst elt p.2 ⟨cenv n fr t.env,t.S⟩ with
 | some (xs,t')=>if xs.length<=LIM then some (xs,{ t with S:=t'.S }) else none
 | none=>none
structure ItOk3 (K:PySem.W.Frag)(J:It)(g:Gd)(c:Cf)(H:Hp)(ds:List D):Prop where
 go:∀c' H' S' (i:Nat),Ext c H c' H'->SInv K c' S' H'->Gon g S'->i < ds.length->J.go i H'
 yld:∀c' H' S' (i:Nat) x H'' d,Ext c H c' H'->SInv K c' S' H'->Gon g S'->ds[i]?=some d->J.yld i H' x H''->∃p vs es,x = .ref p/\H' p=none/\H''=upd H' p (.tup vs)/\d = .tup es/\Reps K c' H' vs es
 stop:∀c' H' S',Ext c H c' H'->SInv K c' S' H'->Gon g S'->J.stop ds.length H'
inductive RI3 (K:PySem.W.Frag)(f:M (Gd×List D))(σ:L2.St)(H:Hp)(R:It->Hp->Prop):Prop where
 | mk (Oo:Addr->Prop) (c:Cf) (t:T) (fi:FInv K Oo c t σ H) (p:Gd×List D) (t':T) (e:f t=some (p,t')) (k:∀J H' c',FInv K Oo c' t' σ H'->Stp Oo c H c' H'->ItOk3 K J p.1 c' H' p.2->R J H'):RI3 K f σ H R
section
variable {X:Cx}{e a b tg iter elt:Expr}{ifs:List Expr}{pos:Pos}{scope:Scope}{N':List Str}{n:Nat}{fr:List Nat}{st:D->M Unit}{tst:M Bool}{el:M D}
end
structure ItOkG (K:PySem.W.Frag)(J:It)(g:Gd)(c:Cf)(H:Hp)(ds:List D):Prop where
 go:∀c' H' S' (i:Nat),Ext c H c' H'->SInv K c' S' H'->Gon g S'->i < ds.length->J.go i H'
 yld:∀c' H' S' (i:Nat) x H'' d,Ext c H c' H'->SInv K c' S' H'->Gon g S'->ds[i]?=some d->J.yld i H' x H''->H''=H'/\Rep K c' H' x d
 stop:∀c' H' S',Ext c H c' H'->SInv K c' S' H'->Gon g S'->J.stop ds.length H'
theorem ItOk.toG {K:PySem.W.Frag}{J:It}{g:Gd}{c:Cf}{H:Hp}{ds:List D}(h:ItOk K J c H ds):ItOkG K J g c H ds:=
 ⟨λc' H' _ i e _ _=>h.go c' H' i e,λc' H' _ i x H'' d e _ _=>h.yld c' H' i x H'' d e,λc' H' _ e _ _=>h.stop c' H' e⟩
def RIG (K:PySem.W.Frag)(f:M (Gd×List D)):TI:=λσ H R=>∃Oo c t,FInv K Oo c t σ H/\∃p t',f t=some (p,t')/\∀J H' c',FInv K Oo c' t' σ H'->Stp Oo c H c' H'->ItOkG K J p.1 c' H' p.2->R J H'
theorem RF.compG {K:PySem.W.Frag}{n:Nat}{fr:List Nat}{f:M (Gd×List D)}{st:D->M Unit}{tst:M Bool}{elt:M D}{σ:L2.St}{H:Hp}{Q:VK}(q:RF K (DQ n fr f st tst elt) σ H Q):Kc (RIG K f) (RG K st) (RT K tst) (RE K elt) (Ep n fr) σ H Q:=by
 obtain ⟨Oo,c,t,fi,xs,t',eq,k⟩:=q;obtain ⟨pg,t1,e1,eq⟩:=Ag eq;refine ⟨Oo,c,t,fi,pg,t1,e1,λJ H1 c1 f1 s1 it=>?_⟩;obtain ⟨g,ds⟩:=pg;dsimp only at eq it
 cases e3:F2.compG g st tst elt ds ⟨cenv n fr t1.env,t1.S⟩ with
 | none=>rw [e3] at eq;cases eq
 | some p=>
   obtain ⟨ys,t3⟩:=p;rw [e3] at eq;dsimp only at eq
   split at eq
   case isFalse=>cases eq
   next hl=>
   cases eq
   refine ⟨λi m acc σ' H'=>m=ds.length - i/\i<=ds.length/\∃c' t2 zs rest,FInv K c1.O c' t2 σ' H'/\Stp c1.O c1 H1 c' H'/\Reps K c' H' acc zs/\F2.compG g st tst elt (ds.drop i) t2=some (rest,t3)/\xs=zs++rest,
    ⟨_,rfl,Nat.zero_le _,c1,_,[],xs,Ij f1,.refl,.nil,by rw [List.drop_zero];exact e3,rfl⟩,?_⟩
   rintro i m acc σ' H' ⟨rfl,hi,c',t2,zs,rest,f2,s2,ra,e2,ez⟩;have hacc:acc.length<=sizeLine:=by
    have:zs.length<=xs.length:=by rw [ez,List.length_append];exact Nat.le_add_right _ _
    rw [ra.length];exact Nat.le_trans this (Nat.le_trans hl CA)
   refine ⟨hacc,?_⟩
   by_cases hlt:i < ds.length
   ·rw [List.drop_eq_getElem_cons hlt] at e2;unfold F2.compG at e2;obtain ⟨u0,t0,e0,e2⟩:=Ag e2;obtain ⟨hon,ht0⟩:=Ky e0;rw [ht0] at e2;clear e0 ht0;refine .inr ⟨it.go c' H' _ i s2.ext f2.s hon hlt,λx H'' hy=>?_⟩;obtain ⟨rfl,rx⟩:=it.yld c' H' _ i x H'' _ s2.ext f2.s hon (List.getElem?_eq_getElem hlt) hy;obtain ⟨u,t4,e4,e2⟩:=Ag e2;obtain ⟨kb,t5,e5,e2⟩:=Ag e2;refine ⟨c1.O,c',t2,_,f2,rx,t4,e4,λσ3 H3 c3 f3 s3=>⟨c1.O,c3,t4,f3,kb,t5,e5,λH4 c4 f4 s4=>?_⟩⟩
    cases kb with
    | false=>
      rw [if_neg Bool.false_ne_true] at e2 ⊢;exact ⟨ds.length - (i + 1),by lia,rfl,hlt,c4,t5,zs,rest,f4,(s2.trans s3).trans s4,ra.mono (s3.trans s4).ext,e2,ez⟩
    | true=>
      rw [if_pos rfl] at e2 ⊢;obtain ⟨x6,t6,e6,e2⟩:=Ag e2;obtain ⟨r7,t7,e7,e2⟩:=Ag e2
      cases e2
      refine ⟨c1.O,c4,t5,f4,x6,t6,e6,λv H5 c5 f5 s5 rv=>?_⟩;exact ⟨ds.length - (i + 1),by lia,rfl,hlt,c5,t6,zs++[x6],r7,f5,((s2.trans s3).trans s4).trans s5,(ra.mono ((s3.trans s4).trans s5).ext).append (.cons rv .nil),e7,by rw [ez,List.append_assoc];rfl⟩
   ·have hi':i=ds.length:=by lia
    subst hi';rw [List.drop_length] at e2;unfold F2.compG at e2;obtain ⟨u0,t0,e0,e2⟩:=Ag e2;obtain ⟨hon,ht0⟩:=Ky e0;rw [ht0] at e2;clear e0 ht0
    cases e2
    refine .inl ⟨it.stop c' H' _ s2.ext f2.s hon,λp hp _=>?_⟩;obtain ⟨si,ext⟩:=f2.leave;obtain ⟨f6,s6⟩:=f1.after si ⟨s2.ext.trans ext,s2.oo⟩ (λ_=>Iff.rfl);rw [List.append_nil] at ez;subst ez;exact k p acc H' _ f6 (s1.trans s6) (ra.mono ext) hp
def Gn:D->M (Gd×List D)
 | .obj k=>λt=>match t.S[k]? with
   | some (.lst ds)=>some ((some (k,ds),ds),t)
   | _=>none
 | d=>bnd (Dm d) λds=>ret (none,ds)
def Ja (f:M D):M (Gd×List D):=bnd f Gn
theorem ItOkG.lst {K:PySem.W.Frag}{g:Gd}{c:Cf}{H:Hp}{p:Addr}{ds:List D}(r:∀c' H' S',Ext c H c' H'->SInv K c' S' H'->Gon g S'->∃vs,SqL K H' p vs/\Reps K c' H' vs ds):ItOkG K (Itl K p) g c H ds:=by
 refine ⟨λc' H' S' i ex si on hi=>?_,λc' H' S' i x H'' d ex si on hd hy=>?_,λc' H' S' ex si on=>?_⟩
 ·obtain ⟨vs,h1,h2⟩:=r c' H' S' ex si on;obtain ⟨v,e,_⟩:=h2.at (List.getElem?_eq_getElem hi);exact ⟨vs,v,h1,e⟩
 ·obtain ⟨vs,h1,h2⟩:=r c' H' S' ex si on;obtain ⟨rfl,hx⟩:=hy;exact ⟨rfl,h2.get (hx vs h1) hd⟩
 ·obtain ⟨vs,h1,h2⟩:=r c' H' S' ex si on;exact ⟨vs,h1,by rw [h2.length];exact Nat.le_refl _⟩
section
variable {X:Cx}{e a b tg iter elt:Expr}{ifs:List Expr}{pos:Pos}{scope:Scope}{N':List Str}{n:Nat}{fr:List Nat}{st:D->M Unit}{tst:M Bool}{el:M D}
theorem QE {f:M (Gd×List D)}(O:CmpOk X scope N' (Ep n fr))(hc:X.calm=true)(hi:PI X tg iter (RIG X.K f))
 (hg:∀cl C s2 H2 fp,PG (Bv X N' scope cl C s2 H2 fp) tg (RG X.K st)) (ht:∀cl C s2 H2 fp,PIf (Bv X N' scope cl C s2 H2 fp) ifs (RT X.K tst)) (he:∀cl C s2 H2 fp,PE (Bv X N' scope cl C s2 H2 fp) elt (RE X.K el))
 (hs:∀x,foldedSetIterable iter X.env x=pure x:=by intro _;rfl):PE X (.ListComp elt [⟨tg,iter,ifs,0⟩] scope pos) (RF X.K (DQ n fr f st tst el)):=
 AD (MB O hc hi hg ht he hs) λ_ _ _ q=>RF.compG q
theorem Td {f:M D}(h:PE X e (RE X.K f)):PI X tg e (RIG X.K (Ja f)):=
 HN (Pv h) λσ H R z=>by
  obtain ⟨Oo,c,t,fi,ds,t',eq,k⟩:=z;obtain ⟨d,t1,e1,eq⟩:=Ag eq;refine ⟨Oo,c,t,fi,d,t1,e1,λv H1 c1 f1 s1 rv=>?_⟩
  cases rv with
  | @obj a kk hk=>
    unfold Gn at eq;dsimp only at eq
    split at eq
    ·next es hS=>
     cases eq
     obtain ⟨ws,g1,g3⟩:=f1.s.obs kk a _ hk hS;refine .inl ⟨a,rfl,⟨ws,SqL.of g1⟩,k _ H1 c1 f1 s1 (ItOkG.lst λc' H' S' ex si on=>?_)⟩;obtain ⟨us,q1,q2⟩:=si.obs kk a _ (ex.io _ _ hk) (on kk es rfl);exact ⟨us,SqL.of q1,q2⟩
    ·cases eq
  | @lst p vs ds' h1 h2 h3=>
    cases eq
    exact .inl ⟨p,rfl,⟨vs,SqL.of h1⟩,k _ H1 c1 f1 s1 (ItOk.toG (ItOk.lst λc' H' ex=>⟨vs,SqL.of (ex.keep _ _ h1 h2),h3.mono ex⟩))⟩
  | @scr p ns h1=>
    cases eq
    exact .inl ⟨p,rfl,⟨_,h1.sq⟩,k _ H1 c1 f1 s1 (ItOk.toG (ItOk.lst λc' H' ex=>⟨_,(h1.mono ex).sq,Reps.ints ns⟩))⟩
  | @tup p vs ds' h1 h2 h3=>
    cases eq
    exact .inr (.inl ⟨p,rfl,⟨vs,SqT.of h1⟩,k _ H1 c1 f1 s1 (ItOk.toG (ItOk.tup λc' H' ex=>⟨vs,SqT.of (ex.keep _ _ h1 h2),h3.mono ex⟩))⟩)
  | str x=>
    cases eq
    exact .inr (.inr ⟨x,rfl,k _ H1 c1 f1 s1 (ItOk.toG ItOk.str)⟩)
  | _=>cases eq
end
noncomputable def Bw (S:List Ob):Nat->D->D
 | 0,d=>d
 | n + 1,.obj k=>match S[k]? with
   | some (.lst ds)=>.lst (ds.map (Bw S n))
   | _=>.obj k
 | n + 1,.tup ds=>.tup (ds.map (Bw S n))
 | n + 1,.lst ds=>.lst (ds.map (Bw S n))
 | _ + 1,d=>d
def eqO (g:Bool->Bool)(x y:D):M D:=λt=>if (A7 (Bw t.S 16 x) && A7 (Bw t.S 16 y))=true then (eqN EQD (Bw t.S 16 x) (Bw t.S 16 y)).map λb=>(.bl (g b),t) else none
theorem HB {K:PySem.W.Frag}{c:Cf}{S:List Ob}{H:Hp}(s:SInv K c S H):∀(n:Nat) {v:V} {d:D},Rep K c H v d->A7 (Bw S n d)=true->Rep K c0 H v (Bw S n d)
 | 0,v,d,r,p=>Dn r (by simpa only [Bw] using p)
 | n + 1,v,d,r,p=>by
   have row:∀{vs:List V} {ds:List D},Reps K c H vs ds->E3 (ds.map (Bw S n))=true->Reps K c0 H vs (ds.map (Bw S n)):=by
    intro vs ds q
    induction ds generalizing vs with
    | nil=>intro _;cases q;exact .nil
    | cons d ds ih=>
      intro p
      cases q with
      | cons a b=>
        rw [List.map_cons,E3,Bool.and_eq_true] at p;exact .cons (HB s n a p.1) (ih b p.2)
   cases r with
   | @obj a k hk=>
     unfold Bw at p ⊢
     split
     ·next ds e=>
      rw [e] at p;obtain ⟨vs,h1,h2⟩:=s.obs k a _ hk e;exact .lst h1 (FJ _) (row h2 (by simpa [A7] using p))
     ·next h=>
      split at p
      ·next ds e=>exact absurd e (h ds)
      ·simp [A7] at p
   | tup h m q=>rw [Bw] at p ⊢;exact .tup h (FJ _) (row q (by simpa only [A7] using p))
   | lst h m q=>rw [Bw] at p ⊢;exact .lst h (FJ _) (row q (by simpa only [A7] using p))
   | non=>exact .non
   | bl b=>exact .bl b
   | int b=>exact .int b
   | str b=>exact .str b
   | ty b=>exact .ty b
   | scr h=>exact Dn (c:=c) (.scr h) p
   | dic h n=>exact Dn (.dic h n) p
   | exc a b n f q=>exact Dn (.exc a b n f q) p
theorem MM {K:PySem.W.Frag}{g:Bool->Bool}:AZ K (Jj K g) (eqO g):=λ{Oo c t σ H x y dx dy r t' Q} f rx ry eq k=>by
 unfold eqO at eq
 split at eq
 ·next hp=>
  rw [Bool.and_eq_true] at hp;obtain ⟨b,e1,e2⟩:=Option.map_eq_some_iff.mp eq
  cases e2
  exact ⟨c0,_,_,b,HB f.s 16 rx hp.1,HB f.s 16 ry hp.2,e1,k _ H c f .refl (.bl (g b))⟩
 ·cases eq
def aR:List D->M D
 | [d,.tup [.ty m1,.ty m2]]=>λt=>match d with
   | .obj k=>match t.S[k]? with
     | some (.lst _)=>match Gm "list" m1,Gm "list" m2 with
       | some b1,some b2=>some (.bl (b1 || b2),t)
       | _,_=>none
     | _=>none
   | d=>match tyD d with
     | some n=>match Gm n m1,Gm n m2 with
       | some b1,some b2=>some (.bl (b1 || b2),t)
       | _,_=>none
     | none=>none
 | _=>fail
end F2
namespace L2
open PySem PySem.Spec PyProof.Rows
section
variable {X:Cx}{k:Nat}{f l I S:Addr}{fd:FuncData}{ps:List Str}{sp:Sp}{pins:List (Addr×Obj)}{σ:St}{H:Hp}{s:Shared}{Q:VK}{oS oI oS' oI':Obj}{h':Heap}{t':Nat}
end
end L2
namespace F2
open PySem L2 PySem.Spec PySem.W
section
variable {K:PySem.W.Frag}{g:Fn}
end
end F2
namespace F2
open PySem L2 PySem.Spec PyProof.Rows
section
variable {X:Cx}{e:Expr}{pos:Pos}
end
section
variable {X:Cx}{e elt tg iter:Expr}{pos:Pos}{scope:Scope}{N':List Str}{ifs:List Expr}{n:Nat}{fr:List Nat}{f:M (List D)}{st:D->M Unit}{tst:M Bool}{el:M D}
end
section
variable {X:Cx}{e:Expr}
end
end F2
namespace L2
open PySem PySem.Spec PyProof.Rows
section
variable {X:Cx}{e el eu ek:Expr}{p2 pos:Pos}{te:TE}{tl tu tk:TO}
end
end L2
namespace F2
open PySem L2 PySem.Spec
end F2
namespace F2
open PySem L2 PySem.Spec PyProof.Rows
section
variable {X:Cx}{elt tg iter:Expr}{pos:Pos}{scope:Scope}{N':List Str}{ifs:List Expr}{n:Nat}{fr:List Nat}{st:D->M Unit}{tst:M Bool}{el:M D}
theorem QJ {f:M (Gd×List D)}{μ:Cf->Hp->D->(V->Hp->Prop)->Prop}{i:Nat}{y:Str}{py spos:Pos}(O:CmpOk X scope N' (Ep n fr))(hc:X.calm=true)(hN:X.N.Nodup)(hiN:X.N[i]?=some y)(hx:X.env.scope.names.lookup y=some .local)(hi:PI X tg iter (RIG X.K f))
 (hg:∀cl C s2 H2 fp,PG (Bv X N' scope cl C s2 H2 fp) tg (RG X.K st)) (ht:∀cl C s2 H2 fp,PIf (Bv X N' scope cl C s2 H2 fp) ifs (RT X.K tst)) (he:∀cl C s2 H2 fp,PE (Bv X N' scope cl C s2 H2 fp) elt (RE X.K el))
 (hsw:swapsWith (.ListComp elt [⟨tg,iter,ifs,0⟩] scope pos) (some (.Name y py)) spos.line X.env=pure true:=by rfl)
 (hs:∀x,foldedSetIterable iter X.env x=pure x:=by intro _;rfl):PS X (.Assign [.Name y py] (.ListComp elt [⟨tg,iter,ifs,0⟩] scope pos) spos) (RSg X.K μ (Ap i (Av (DQ n fr f st tst el)))):=
 A8 (MD O hc hN hiN hx hi hg ht he hsw hs) λE σ H q=>RF.compG (RF.ofPure (RS.set q))
end
end F2
namespace LW
open PySem L2 F2
def Gq:M Out:=
 (Au (FM (ET (fC (.int 32)) (Ab 0) (fC (.int 126)) leA leA) (Ac (Ab 0) (fC (.int 37)) (eqS λb=>!b))))
def Hv:M Out:=
 (Au (Ac (Ac (Ab 0) (fC (.int 0)) ixD) (fC (.str "end")) (eqS id)))
def Ev:M Out:=
 (Au (Ac (Ac (fUn (Ab 0) HV) (fC (.int 7)) AB) (fC (.int 8)) EB))
def Gu:M Out:=
 (Au (Ac (Ab 0) (Ac (fC (.int 8)) (Ab 1) Ex) LA))
def EX:M Out:=
 (Ah (Ap 1 (fC (.int 0)))
 (Ah (FE (Ak (Ac (Ab 0) (fC (.int 0)) gtA))
   (Ah (Ap 0 (Ac (Ab 0) (fC (.int 256)) EB))
 (Ap 1 (Ac (Ab 1) (fC (.int 1)) AB))))
 (Au (Ab 1))))
def CN (IW Ks Kr Kt IX:Fn):M Out:=
 (Ah (Ap 3 (Ac (Ab 0) (fC (.int 0)) ixD))
 (Ah (ifS (Ak (Ac (Ab 3) (fC (.str "nothing")) (eqS id)))
   (Au (nxD (AL (Aa (fC .non) (Aa (Ab 2) Ad)))))
   Aw)
 (Ah (ifS (Ak (Ac (Ab 3) (fC (.str "number")) (eqS id)))
   (Au (Af IX (Aa (Ab 0) (Aa (Ab 1) (Aa (Ab 2) Ad)))))
   Aw)
 (Ah (ifS (Ak (Ac (Ab 3) (fC (.str "text")) (eqS id)))
   (Au (Af Kt (Aa (Ab 0) (Aa (Ab 1) (Aa (Ab 2) Ad)))))
   Aw)
 (Ah (ifS (Ak (Ac (Ab 3) (fC (.str "list")) (eqS id)))
   (Au (Af Kr (Aa (Ab 0) (Aa (Ab 1) (Aa (Ab 2) Ad)))))
   Aw)
 (Ah (ifS (Ak (Ac (Ab 3) (fC (.str "pair")) (eqS id)))
   (Au (Af Ks (Aa (Ab 0) (Aa (Ab 1) (Aa (Ab 2) Ad)))))
   Aw)
 (Au (Af IW (Aa (Ab 0) (Aa (Ab 1) (Aa (Ab 2) Ad)))))))))))
def EW:M Out:=
 (Ah (ifS (Ak (Ac (Ab 1) (fB (Aa (Ab 0) Ad) AF) geA))
   (GB "Short" (Aa (fC (.str "the bytes end within a value")) Ad))
   Aw)
 (Au (nxD (Ac (Ab 0) (Ab 1) ixD))))
def DS (DO:Fn):M Out:=
 (Ah (C5 3 (Af DO (Aa (Ab 1) (Aa (Ab 2) Ad))))
 (Ah (ifS (Ak (Ac (Ab 3) (Ab 0) gtA))
   (Cm "Broken" (Aa (Ab 2) (Aa (fC .non) Ad)))
   Aw)
 (Au (nxD (Ab 3)))))
def Cu (Nh DO IY:Fn):M Out:=
 (Ah (Ap 3 (Ac (Ac (Ab 0) (fC (.int 2)) ixD) (Ac (Ab 0) (fC (.int 1)) ixD) BK))
 (Ah (Ap 4 (Af IY (Aa (Ab 3) Ad)))
 (Ah (Ap 5 (fC (.int 0)))
 (Ah (Ci (Bm (Aa (Ab 4) Ad)) (Al 6)
   (Ah (C5 5 (GO (Ac (Ab 5) (fC (.int 256)) Ex) (Af DO (Aa (Ab 1) (Aa (Ac (Ab 2) (Ab 6) AB) Ad))) AB))
 (ifS (Ak (Ac (Ab 5) (Af Nh (Aa (Ab 3) (Aa (Ac (Ac (Ab 4) (fC (.int 1)) BK) (Ab 6) BK) Ad))) gtA))
   (Cm "Broken" (Aa (Ac (Ab 2) (Ab 6) AB) (Aa (fC .non) Ad)))
   Aw)))
 (Au (nxD (AL (Aa (Ac (Ac (Ab 0) (fC (.int 1)) ixD) (Ab 5) AB) (Aa (Ac (Ab 2) (Ab 4) AB) Ad)))))))))
def De (Ni CB:Fn):M Out:=
 (Ah (C5 3 (Af CB (Aa (Ac (Ab 0) (fC (.int 1)) ixD) (Aa (Ab 1) (Aa (Ab 2) Ad)))))
 (Ah (Ap 4 (Ac (Ab 2) (fC (.int 1)) AB))
 (Ah (Ap 5 (fC (.str "")))
 (Ah (Ci (Bm (Aa (Ab 3) Ad)) (Al 6)
   (C5 5 (GO (Ab 5) (Af Ni (Aa (Ab 1) (Aa (Ac (Ab 4) (Ab 6) AB) Ad))) AB)))
 (Au (nxD (AL (Aa (Ab 5) (Aa (Ac (Ab 4) (Ab 3) AB) Ad)))))))))
def EY (Ng DO:Fn):M Out:=
 (Ah (C5 2 (Af DO (Aa (Ab 0) (Aa (Ab 1) Ad))))
 (Ah (ifS (D1 (Ak (Af Ng (Aa (Ab 2) Ad))))
   (Cm "Broken" (Aa (Ab 1) (Aa (fC .non) Ad)))
   Aw)
 (Au (nxD (Ac (fC (.str " !\"#$ &'()*+,-./0123456789:;<=>?@ABCDEFGHIJKLMNOPQRSTUVWXYZ[\\]^_`abcdefghijklmnopqrstuvwxyz{|}~")) (Ac (Ab 2) (fC (.int 32)) BK) ixD)))))
def Dc (Br CB:Fn):M Out:=
 (Ah (C5 3 (Af CB (Aa (Ac (Ab 0) (fC (.int 2)) ixD) (Aa (Ab 1) (Aa (Ab 2) Ad)))))
 (Ah (Ap 4 (Ac (Ab 2) (fC (.int 1)) AB))
 (Ah (B9 5 (AI Ad))
 (Ah (Ci (Bm (Aa (Ab 3) Ad)) (Al 6)
   (Ah (C5 7 (Af Br (Aa (Ac (Ab 0) (fC (.int 1)) ixD) (Aa (Ab 1) (Aa (Ab 4) Ad)))))
 (Ah (ownM 5 BR (Aa (Ac (Ab 7) (fC (.int 0)) ixD) Ad))
 (Ap 4 (Ac (Ab 7) (fC (.int 1)) ixD)))))
 (Au (nxD (AL (Aa (Ab 5) (Aa (Ab 4) Ad)))))))))
def Dd (Br:Fn):M Out:=
 (Ah (C5 3 (Af Br (Aa (Ac (Ab 0) (fC (.int 1)) ixD) (Aa (Ab 1) (Aa (Ab 2) Ad)))))
 (Ah (C5 4 (Af Br (Aa (Ac (Ab 0) (fC (.int 2)) ixD) (Aa (Ab 1) (Aa (Ac (Ab 3) (fC (.int 1)) ixD) Ad)))))
 (Au (nxD (AL (Aa (AL (Aa (Ac (Ab 3) (fC (.int 0)) ixD) (Aa (Ac (Ab 4) (fC (.int 0)) ixD) Ad))) (Aa (Ac (Ab 4) (fC (.int 1)) ixD) Ad)))))))
def Ct (Br CB:Fn):M Out:=
 (Ah (C5 3 (Af CB (Aa (Ac (fB (Aa (Ac (Ab 0) (fC (.int 1)) ixD) Ad) AF) (fC (.int 1)) BK) (Aa (Ab 1) (Aa (Ab 2) Ad)))))
 (Ah (C5 4 (Af Br (Aa (Ac (Ac (Ab 0) (fC (.int 1)) ixD) (Ab 3) ixD) (Aa (Ab 1) (Aa (Ac (Ab 2) (fC (.int 1)) AB) Ad)))))
 (Au (nxD (AL (Aa (AL (Aa (fC (.str "of")) (Aa (Ab 3) (Aa (Ac (Ab 4) (fC (.int 0)) ixD) Ad)))) (Aa (Ac (Ab 4) (fC (.int 1)) ixD) Ad)))))))
def D4 (Br:Fn):M Out:=
 (Ah (ifS (Ak (Ac (Ab 2) (fB (Aa (Ab 1) Ad) AF) geA))
   (Au (nxD (fC .non)))
   Aw)
 (Ah (ifS (Ak (Ac (Ac (Ab 1) (Ab 2) ixD) (fB (Aa (Ac (Ab 0) (fC (.int 1)) ixD) Ad) AF) geA))
   (Cm "Broken" (Aa (Ab 2) (Aa (Ac (Ab 0) (fC (.int 0)) ixD) Ad)))
   Aw)
 (Ah (Ap 3 (Ac (Ac (Ab 0) (fC (.int 1)) ixD) (Ac (Ab 1) (Ab 2) ixD) ixD))
 (Ah (DY (C5 4 (Af Br (Aa (Ac (Ab 3) (fC (.int 1)) ixD) (Aa (Ab 1) (Aa (Ac (Ab 2) (fC (.int 1)) AB) Ad))))) (hNo "Short" (Au (nxD (fC .non))) (hAs "Broken" 5 (Cm "Broken" (Aa (bnd (Ab 5) (FI "at")) (Aa (Ac (Ab 0) (fC (.int 0)) ixD) Ad))) Ny)))
 (Au (nxD (AL (Aa (AL (Aa (Ac (Ab 0) (fC (.int 0)) ixD) (Aa (Ac (Ab 3) (fC (.int 0)) ixD) (Aa (Ac (Ab 4) (fC (.int 0)) ixD) Ad)))) (Aa (Ac (Ab 3) (fC (.int 2)) ixD) (Aa (Ac (Ab 4) (fC (.int 1)) ixD) Ad))))))))))
def D5 (BW DF FK:Fn):M Out:=
 (Ah (Ap 3 (JZ "Listener" FK (Aa (Ab 0) (Aa (Ab 1) (Aa (Ab 2) Ad)))))
 (Ah (FE (fOr (Ak (Da "Listener" DF (Ab 3) (Aa (fC (.str "left")) Ad))) (Ak (Da "Listener" DF (Ab 3) (Aa (fC (.str "right")) Ad))))
   Aw)
 (Ah (Ig (Da "Listener" BW (Ab 3) (Aa (fC (.str "left")) Ad)))
 (Ah (Ig (Da "Listener" BW (Ab 3) (Aa (fC (.str "right")) Ad)))
 (Au (nxD (AL (Aa (CJ "heard" (Ab 3)) (Aa (AL (Aa (Ac (CJ "places" (Ab 3)) (fC (.str "left")) AO) (Aa (Ac (CJ "places" (Ab 3)) (fC (.str "right")) AO) Ad))) Ad)))))))))
def Cs:M Out:=
 (Ah (Ap 2 (fC (.int 0)))
 (Ah (ifS (Ak (Ac (Ab 1) (fB (Aa (Ab 0) Ad) AF) ltA))
   (Ap 2 (Ac (Ab 0) (Ab 1) ixD))
   Aw)
 (Au (EA [("rest",(Ab 2)),("digits",(Jb (Ac (Ab 1) (fB (Aa (Ab 0) Ad) AF) geA) (Ac (Ab 2) (Ac (fC (.int 10)) (fC (.int 18)) GA) geA))),("count",(Ab 1))]))))
def CL:M Out:=
 (Ah (ifS (Ak (Ac (Ab 0) (fC (.str "digits")) AO))
   (Ah (Ap 2 (Ac (Ac (Ab 0) (fC (.str "rest")) AO) (Ab 1) DW))
 (Ah (A4 (Ac (Ac (Ab 0) (fC (.str "rest")) AO) (Ab 1) GP) (Ec (Ab 0) (fC (.str "rest"))))
 (Au (Ab 2))))
   Aw)
 (Ah (A4 (Ac (Ac (Ab 0) (fC (.str "count")) AO) (fC (.int 1)) AB) (Ec (Ab 0) (fC (.str "count"))))
 (Ah (Ap 3 (Ac (Ac (Ac (Ac (Ab 0) (fC (.str "rest")) AO) (fC (.int 999999999989)) DW) (Ac (fC (.int 480007)) (Ac (Ab 0) (fC (.str "count")) AO) Hx) AB) (fC (.int 999999999989)) DW))
 (Ah (Ap 3 (Ac (Ac (Ab 3) (Ab 3) Hx) (fC (.int 1000000000039)) DW))
 (Ah (Ap 3 (Ac (Ac (Ac (Ab 3) (fC (.int 290027)) AB) (Ab 3) Hx) (fC (.int 999999999961)) DW))
 (Au (Ac (Ac (Ab 3) (fC (.int 7)) GP) (Ab 1) DW)))))))
def A3 (Ae AN:Fn):M Out:=
 (Ah (Ap 2 (Af Ae (Aa (Ab 0) (Aa (Ac (fC (.int 3)) (Ac (fC (.int 3)) (fB (Aa (Ac (Ab 1) (fC (.int 0)) gtA) Ad) FT) Ex) AB) Ad))))
 (Ah (ifS (Ak (Ac (Ab 2) (fC (.int 0)) (eqS id)))
   (Au (AL (Aa (fC (.str "nothing")) Ad)))
   Aw)
 (Ah (ifS (Ak (Ac (Ab 2) (fC (.int 1)) (eqS id)))
   (Ah (Ap 3 (Ac (Av (AI (Aa (fC (.int 0)) (Aa (Ac (Af Ae (Aa (Ab 0) (Aa (fC (.int 9)) Ad))) (fC (.int 4)) BK) (Aa (Ac (Af Ae (Aa (Ab 0) (Aa (Ac (fC (.int 10)) (fC (.int 16)) GA) Ad))) (Ac (fC (.int 10)) (fC (.int 15)) GA) BK) Ad))))) (Af Ae (Aa (Ab 0) (Aa (fC (.int 3)) Ad))) ixD))
 (Au (AL (Aa (fC (.str "number")) (Aa (Ab 3) (Aa (Ac (Ab 3) (Ac (Av (AI (Aa (fC (.int 0)) (Aa (fC (.int 1)) (Aa (fC (.int 200)) (Aa (fC (.int 255)) (Aa (fC (.int 256)) (Aa (fC (.int 70000)) (Aa (Af Ae (Aa (Ab 0) (Aa (Ac (fC (.int 10)) (fC (.int 16)) GA) Ad))) Ad))))))))) (Af Ae (Aa (Ab 0) (Aa (fC (.int 7)) Ad))) ixD) AB) Ad))))))
   Aw)
 (Ah (ifS (Ak (Ac (Ab 2) (fC (.int 2)) (eqS id)))
   (Au (AL (Aa (fC (.str "text")) (Aa (Ac (Av (AI (Aa (fC (.int 0)) (Aa (fC (.int 1)) (Aa (fC (.int 5)) (Aa (fC (.int 250)) Ad)))))) (Af Ae (Aa (Ab 0) (Aa (fC (.int 4)) Ad))) ixD) Ad))))
   Aw)
 (Ah (ifS (Ak (Ac (Ab 2) (fC (.int 3)) (eqS id)))
   (Ah (Ap 4 (Af AN (Aa (Ab 0) (Aa (Ac (Ab 1) (fC (.int 1)) BK) Ad))))
 (Ah (ifS (Ak (Ac (Ac (Ab 4) (fC (.int 0)) ixD) (fC (.str "list")) (eqS id)))
   (Ap 4 (AL (Aa (fC (.str "list")) (Aa (Ac (Ab 4) (fC (.int 1)) ixD) (Aa (fB (Aa (Ac (Ab 4) (fC (.int 2)) ixD) (Aa (fC (.int 6)) Ad)) Ew) Ad)))))
   Aw)
 (Au (AL (Aa (fC (.str "list")) (Aa (Ab 4) (Aa (Ac (Av (AI (Aa (fC (.int 0)) (Aa (fC (.int 2)) (Aa (fC (.int 6)) (Aa (fC (.int 250)) Ad)))))) (Af Ae (Aa (Ab 0) (Aa (fC (.int 4)) Ad))) ixD) Ad)))))))
   Aw)
 (Ah (ifS (Ak (Ac (Ab 2) (fC (.int 4)) (eqS id)))
   (Au (AL (Aa (fC (.str "pair")) (Aa (Af AN (Aa (Ab 0) (Aa (Ac (Ab 1) (fC (.int 1)) BK) Ad))) (Aa (Af AN (Aa (Ab 0) (Aa (Ac (Ab 1) (fC (.int 1)) BK) Ad))) Ad)))))
   Aw)
 (Au (AL (Aa (fC (.str "choice")) (Aa (fB (Aa (Av (AM 1 [0,1] (Bm (Aa (Ac (fC (.int 1)) (Af Ae (Aa (Ab 0) (Aa (fC (.int 3)) Ad))) AB) Ad)) (Al 0) Bc (Af AN (Aa (Ab 1) (Aa (Ac (Ab 2) (fC (.int 1)) BK) Ad))))) Ad) Jr) Ad))))))))))
def DB (Bq Ae:Fn):M Out:=
 (Ah (Ap 2 (Ac (Ab 1) (fC (.int 0)) ixD))
 (Ah (ifS (Ak (Ac (Ab 2) (fC (.str "nothing")) (eqS id)))
   (Au (fC .non))
   Aw)
 (Ah (ifS (Ak (Ac (Ab 2) (fC (.str "number")) (eqS id)))
   (Au (Ac (Av (AI (Aa (Ac (Ab 1) (fC (.int 1)) ixD) (Aa (Ac (Ab 1) (fC (.int 2)) ixD) (Aa (Ac (Ac (Ab 1) (fC (.int 1)) ixD) (Af Ae (Aa (Ab 0) (Aa (Ac (Ac (Ac (Ab 1) (fC (.int 2)) ixD) (Ac (Ab 1) (fC (.int 1)) ixD) BK) (fC (.int 1)) AB) Ad))) AB) Ad))))) (Af Ae (Aa (Ab 0) (Aa (fC (.int 3)) Ad))) ixD))
   Aw)
 (Ah (ifS (Ak (Ac (Ab 2) (fC (.str "text")) (eqS id)))
   (Ah (Ap 3 (Ac (Av (AI (Aa (Af Ae (Aa (Ab 0) (Aa (fC (.int 7)) Ad))) (Aa (fC (.int 249)) Ad)))) (fB (Aa (Ac (Af Ae (Aa (Ab 0) (Aa (fC (.int 24)) Ad))) (fC (.int 1)) (eqS id)) Ad) FT) ixD))
 (Ah (Ap 4 (fC (.str " !\"#$&'()*+,-./0123456789:;<=>?@ABCDEFGHIJKLMNOPQRSTUVWXYZ[\\]^_`abcdefghijklmnopqrstuvwxyz{|}~")))
 (Au (joinM (fC (.str "")) (Aa (Av (AM 1 [4,0] (Bm (Aa (fB (Aa (Ac (Ab 1) (fC (.int 1)) ixD) (Aa (Ab 3) Ad)) Ew) Ad)) (Al 0) Bc (Ac (Ab 1) (Af Ae (Aa (Ab 2) (Aa (fC (.int 94)) Ad))) ixD))) Ad)))))
   Aw)
 (Ah (ifS (Ak (Ac (Ab 2) (fC (.str "list")) (eqS id)))
   (Au (Av (AM 1 [0,1] (Bm (Aa (fB (Aa (Ac (Ab 1) (fC (.int 2)) ixD) (Aa (Af Ae (Aa (Ab 0) (Aa (fC (.int 4)) Ad))) Ad)) Ew) Ad)) (Al 0) Bc (Af Bq (Aa (Ab 1) (Aa (Ac (Ab 2) (fC (.int 1)) ixD) Ad))))))
   Aw)
 (Ah (ifS (Ak (Ac (Ab 2) (fC (.str "pair")) (eqS id)))
   (Au (AL (Aa (Af Bq (Aa (Ab 0) (Aa (Ac (Ab 1) (fC (.int 1)) ixD) Ad))) (Aa (Af Bq (Aa (Ab 0) (Aa (Ac (Ab 1) (fC (.int 2)) ixD) Ad))) Ad))))
   Aw)
 (Ah (Ap 5 (Af Ae (Aa (Ab 0) (Aa (fB (Aa (Ac (Ab 1) (fC (.int 1)) ixD) Ad) AF) Ad))))
 (Au (AL (Aa (fC (.str "of")) (Aa (Ab 5) (Aa (Af Bq (Aa (Ab 0) (Aa (Ac (Ac (Ab 1) (fC (.int 1)) ixD) (Ab 5) ixD) Ad))) Ad))))))))))))
def Dy (AG Ko:Fn):M Out:=
 (Ah (Ap 2 (Ac (Ab 0) (fC (.int 0)) ixD))
 (Ah (ifS (Ak (Ac (Ab 2) (fC (.str "nothing")) (eqS id)))
   (Au (Av (AI Ad)))
   Aw)
 (Ah (ifS (Ak (Ac (Ab 2) (fC (.str "number")) (eqS id)))
   (Ah (Ap 3 (Ac (Ab 1) (Ac (Ab 0) (fC (.int 1)) ixD) BK))
 (Ah (Ap 4 (Av (AI Ad)))
 (Ah (Ci (Bm (Aa (Af Ko (Aa (Ac (Ac (Ab 0) (fC (.int 2)) ixD) (Ac (Ab 0) (fC (.int 1)) ixD) BK) Ad)) Ad)) (Al 5)
   (Ah (Ap 4 (Ac (Av (AI (Aa (Ac (Ab 3) (fC (.int 256)) DW) Ad))) (Ab 4) AB))
 (Ap 3 (Ac (Ab 3) (fC (.int 256)) EB))))
 (Au (Ab 4)))))
   Aw)
 (Ah (ifS (Ak (Ac (Ab 2) (fC (.str "text")) (eqS id)))
   (Au (Ac (Av (AI (Aa (fB (Aa (Ab 1) Ad) AF) Ad))) (Av (AM 1 [] (Dt (Ab 1)) (Al 0) Bc (fB (Aa (Ab 0) Ad) Jh))) AB))
   Aw)
 (Ah (ifS (Ak (Ac (Ab 2) (fC (.str "list")) (eqS id)))
   (Ah (Ap 4 (Av (AI (Aa (fB (Aa (Ab 1) Ad) AF) Ad))))
 (Ah (Ci (Dt (Ab 1)) (Al 6)
   (Ap 4 (Ac (Ab 4) (Af AG (Aa (Ac (Ab 0) (fC (.int 1)) ixD) (Aa (Ab 6) Ad))) AB)))
 (Au (Ab 4))))
   Aw)
 (Ah (ifS (Ak (Ac (Ab 2) (fC (.str "pair")) (eqS id)))
   (Au (Ac (Af AG (Aa (Ac (Ab 0) (fC (.int 1)) ixD) (Aa (Ac (Ab 1) (fC (.int 0)) ixD) Ad))) (Af AG (Aa (Ac (Ab 0) (fC (.int 2)) ixD) (Aa (Ac (Ab 1) (fC (.int 1)) ixD) Ad))) AB))
   Aw)
 (Au (Ac (Av (AI (Aa (Ac (Ab 1) (fC (.int 1)) ixD) Ad))) (Af AG (Aa (Ac (Ac (Ab 0) (fC (.int 1)) ixD) (Ac (Ab 1) (fC (.int 1)) ixD) ixD) (Aa (Ac (Ab 1) (fC (.int 2)) ixD) Ad))) AB))))))))
def C4 (Ae AN AT:Fn):M Out:=
 (Ah (Ap 3 (Av (AI (Aa (fC (.str "a")) (Aa (fC (.str "ab")) (Aa (fC (.str "b")) (Aa (fC (.str "ba")) (Aa (fC (.str "abc")) (Aa (fC (.str "zz")) (Aa (fC (.str "hello")) (Aa (fC (.str "x")) (Aa (fC (.str "quit")) (Aa (fC (.str "go")) (Aa (fC (.str "abcdefgh")) (Aa (fC (.str "c")) (Aa (fC (.str "no")) (Aa (fC (.str "abcdefgi")) Ad)))))))))))))))))
 (Ah (B9 4 (AI Ad))
 (Ah (Ci (Bm (Aa (Ab 2) Ad)) (Al 5)
   (Ah (Ap 6 (Af AT (Aa (Ab 0) (Aa (Ac (Ab 1) (Ab 5) AB) Ad))))
 (ifS (CV (Ak (Ac (Af Ae (Aa (Ab 6) (Aa (fC (.int 6)) Ad))) (fC (.int 1)) (eqS id))) (fOr (Ak (Ac (Ab 5) (fC (.int 0)) gtA)) (Ak (Ac (Af Ae (Aa (Ab 6) (Aa (fC (.int 4)) Ad))) (fC (.int 1)) (eqS id)))))
   (ownM 4 BR (Aa (AL (Aa (fC (.str "end")) Ad)) Ad))
   (Ah (Ap 7 (Ac (Av (AI (Aa (fC (.str "left")) (Aa (fC (.str "right")) Ad)))) (Af Ae (Aa (Ab 6) (Aa (fC (.int 2)) Ad))) ixD))
 (Ah (Ap 8 (Af Ae (Aa (Ab 6) (Aa (fC (.int 14)) Ad))))
 (Ah (B9 9 (AI Ad))
 (Ah (Ci (Bm (Aa (Ac (Av (AI (Aa (fC (.int 1)) (Aa (fC (.int 2)) (Aa (fC (.int 3)) (Aa (fC (.int 9)) Ad)))))) (Af Ae (Aa (Ab 6) (Aa (fC (.int 4)) Ad))) ixD) Ad)) (Al 10)
   (Ah (Ap 11 (Ac (Av (AI (Aa (fB (Aa (Ac (Ab 2) (fC (.int 1)) BK) (Aa (Ac (Ab 5) (fC (.int 1)) AB) Ad)) Ew) (Aa (Af Ae (Aa (Ab 6) (Aa (Ab 2) Ad))) Ad)))) (Af Ae (Aa (Ab 6) (Aa (fC (.int 2)) Ad))) ixD))
 (ownM 9 BR (Aa (AL (Aa (Ac (Ab 3) (Ac (Ac (Ab 8) (Ac (fC (.int 3)) (Ab 10) Ex) AB) (fC (.int 14)) DW) ixD) (Aa (Af AN (Aa (Ab 6) (Aa (Af Ae (Aa (Ab 6) (Aa (fC (.int 3)) Ad))) Ad))) (Aa (Ab 11) Ad)))) Ad))))
 (ownM 4 BR (Aa (AL (Aa (Ab 7) (Aa (Ab 9) Ad))) Ad)))))))))
 (Au (Ab 4)))))
def Dz (Ae HY AT:Fn):M Out:=
 (Ah (Ap 1 (Af AT (Aa (Ab 0) (Aa (fC (.int 0)) Ad))))
 (Ah (Ap 2 (Ac (fC (.int 1)) (Af Ae (Aa (Ab 1) (Aa (fC (.int 9)) Ad))) AB))
 (Ah (Ap 3 (fB (Aa (fC (.int 30)) (Aa (Ac (fC (.int 36)) (Ab 2) EB) Ad)) Ew))
 (Au (Av (AM 1 [0,3,1] (Bm (Aa (Ab 2) Ad)) (Al 0) Bc (Af HY (Aa (Ab 1) (Aa (Ac (fC (.int 2)) (Ac (Ab 2) (Ab 0) Ex) AB) (Aa (Ac (fC (.int 1)) (Af Ae (Aa (Ab 3) (Aa (Ab 2) Ad))) AB) Ad))))))))))
def DU (AG Bq Ae AT:Fn):M Out:=
 (Ah (B9 3 (bnd (Av (AI (Aa (fC (.int 0)) Ad))) λx=>bnd (fB (Aa (Ab 1) Ad) AF) λy=>Lm x y))
 (Ah (B9 4 (AI Ad))
 (Ah (Ap 5 (fC (.int 1500)))
 (Ah (Ci (FO (Aa (Ab 2) (Aa (fB (Aa (fC (.int 63)) (Aa (fB (Aa (Ab 0) Ad) AF) Ad)) Ew) Ad))) (Al 6)
   (Ah (Ap 7 (Af AT (Aa (Ab 0) (Aa (Ab 6) Ad))))
 (Ah (Ap 8 (Af Ae (Aa (Ab 7) (Aa (fB (Aa (Ab 1) Ad) AF) Ad))))
 (ifS (Ak (Ac (fB (Aa (Ac (Ac (Ab 1) (Ab 8) ixD) (CW 3 (Ab 8)) ixD) Ad) AF) (fC (.int 1)) gtA))
   (Ah (A4 (Ac (Ac (Ab 1) (Ab 8) ixD) (CW 3 (Ab 8)) ixD) (unS 2 (Ar (Al 9) (Ar (Al 10) Bl))))
 (Ah (A4 (Ac (Ab 10) (Af Ae (Aa (Ab 7) (Aa (fB (Aa (Ab 10) Ad) AF) Ad))) ixD) (unS 3 (Ar (Al 11) (Ar (Al 12) (Ar (Al 13) Bl)))))
 (Ah (Ap 14 (Af Bq (Aa (Ab 7) (Aa (Ab 12) Ad))))
 (ifS (Ak (Ac (Ac (fC (.int 2)) (fB (Aa (Af AG (Aa (Ab 12) (Aa (Ab 14) Ad))) Ad) AF) AB) (Ab 5) leA))
   (Ah (Ap 5 (Ac (Ac (Ab 5) (fC (.int 2)) BK) (fB (Aa (Af AG (Aa (Ab 12) (Aa (Ab 14) Ad))) Ad) AF) BK))
 (Ah (ownM 4 BR (Aa (AL (Aa (Ab 8) (Aa (Ab 9) (Aa (Ab 11) (Aa (Ab 14) Ad))))) Ad))
 (A4 (Ab 13) (B4 3 (Ab 8)))))
   Aw))))
   Aw))))
 (Au (Ab 4))))))
def DT (AG:Fn):M Out:=
 (Ah (Ap 2 (EA [("left",(Av (AI Ad))),("right",(Av (AI Ad)))]))
 (Ah (B9 3 (bnd (Av (AI (Aa (fC (.int 0)) Ad))) λx=>bnd (fB (Aa (Ab 0) Ad) AF) λy=>Lm x y))
 (Ah (Ci (Dt (Ab 1)) (unS 4 (Ar (Al 4) (Ar (Al 5) (Ar (Al 6) (Ar (Al 7) Bl)))))
   (Ah (Ap 8 (Ac (Ac (Ac (Ab 0) (Ab 4) ixD) (CW 3 (Ab 4)) ixD) (fC (.int 1)) ixD))
 (Ah (Ap 9 (idxM (Av (AM 1 [] (Dt (Ab 8)) (Al 0) Bc (Ac (Ab 0) (fC (.int 0)) ixD))) (Aa (Ab 6) Ad)))
 (Ah (A4 (Ac (Ac (Ac (Ab 2) (Ab 5) AO) (Av (AI (Aa (Ab 4) (Aa (Ab 9) Ad)))) AB) (Af AG (Aa (Ac (Ac (Ab 8) (Ab 9) ixD) (fC (.int 1)) ixD) (Aa (Ab 7) Ad))) AB) (Ec (Ab 2) (Ab 5)))
 (A4 (Ac (Ac (Ab 8) (Ab 9) ixD) (fC (.int 2)) ixD) (B4 3 (Ab 4)))))))
 (Au (Ab 2)))))
def DV (H9:Fn):M Out:=
 (Ah (Ap 3 (fC .non))
 (Ah (Ap 4 (fC .non))
 (Ah (DY (C5 3 (Af H9 (Aa (Ab 0) (Aa (Av (fBF (Aa (Ab 1) Ad) Dx)) (Aa (Av (fBF (Aa (Ab 2) Ad) Dx)) Ad))))) (hAs "Broken" 5 (Ap 4 (AL (Aa (bnd (Ab 5) (FI "side")) (Aa (bnd (Ab 5) (FI "at")) Ad)))) Ny))
 (Au (AL (Aa (Ab 3) (Aa (Ab 4) Ad)))))))
def Et:M Out:=
 (Au (Ac (Av (AI (Aa (fC (.str "left")) (Aa (fC (.str "right")) Ad)))) (fB (Aa (Ac (Ab 0) (fC (.str "left")) (eqS id)) Ad) FT) ixD))
def D3 (En:Fn):M Out:=
 (Ah (B9 1 (AI Ad))
 (Ah (Ci (Dt (Ab 0)) (Al 2)
   (ownM 1 BR (Aa (Av (AM 1 [] (Dt (Ab 2)) (Al 0) Bc (fIf (Ak (Ac (fB (Aa (Ab 0) Ad) AF) (fC (.int 1)) gtA)) (AL (Aa (Af En (Aa (Ac (Ab 0) (fC (.int 0)) ixD) Ad)) (Aa (Av (fBF (Aa (Ac (Ab 0) (fC (.int 1)) ixD) Ad) Dx)) Ad))) (Ab 0)))) Ad)))
 (Au (Ab 1))))
def DA (En IV A0:Fn):M Out:=
 (Ah (A4 (Af A0 (Aa (Ab 0) (Aa (Ab 1) (Aa (Ab 2) Ad)))) (unS 2 (Ar (Al 3) (Ar (Al 4) Bl))))
 (Ah (A4 (Af A0 (Aa (Af IV (Aa (Ab 0) Ad)) (Aa (Ab 2) (Aa (Ab 1) Ad)))) (unS 2 (Ar (Al 5) (Ar (Al 6) Bl))))
 (Ah (ifS (fOr (Ak (Ac (Ab 3) (fC .non) isC)) (Ak (Ac (Ab 5) (fC .non) isC)))
   (Au (FM (Ac (Ab 3) (fC .non) isC) (Ac (Ab 5) (fC .non) isC)))
   Aw)
 (Ah (Ap 7 (Av (DQ 1 [] (Ja (Ac (Ab 5) (fC (.int 0)) ixD)) (Al 0) Bc (Av (DQ 3 [] (Ja (Ab 0)) (unS 3 (Ar (Al 0) (Ar (Al 1) (Ar (Al 2) Bl)))) Bc (AL (Aa (Af En (Aa (Ab 0) Ad)) (Aa (Ab 1) (Aa (Ab 2) Ad)))))))))
 (Au (Ac (Ab 3) (AL (Aa (Ab 7) (Aa (No (Ac (Ab 5) (fC (.int 1)) ixD) (Db (fUn (fC (.int 1)) NK))) Ad))) (eqO id)))))))
def D2:M Out:=
 (Au (Ac (Av (AM 1 [0,1] (Bm (Aa (fB (Aa (Ab 1) Ad) AF) Ad)) (Al 0) (Ak (Ac (fSl (Ac (Ab 2) (Ab 0) ixD) fNo (Db (fB (Aa (Ac (Ab 1) (Ab 0) ixD) Ad) AF)) HE) (Ac (Ab 1) (Ab 0) ixD) (eqO λb=>!b))) (Ab 0))) (Av (AI Ad)) (eqS id)))
def Fm (D0 A0 Ae:Fn):M Out:=
 (Ah (A4 (Af A0 (Aa (Ab 0) (Aa (Ab 1) (Aa (Ab 2) Ad)))) (unS 2 (Ar (Al 4) (Ar (Al 5) Bl))))
 (Ah (Ci (Bm (Aa (fC (.int 4)) Ad)) (Al 6)
   (Ah (Ap 7 (fSl (Ab 1) fNo (Db (Af Ae (Aa (Ab 3) (Aa (Ac (fB (Aa (Ab 1) Ad) AF) (fC (.int 1)) AB) Ad)))) Dk))
 (Ah (Ap 8 (fSl (Ab 2) fNo (Db (Af Ae (Aa (Ab 3) (Aa (Ac (fB (Aa (Ab 2) Ad) AF) (fC (.int 1)) AB) Ad)))) Dk))
 (Ah (A4 (Af A0 (Aa (Ab 0) (Aa (Ab 7) (Aa (Ab 8) Ad)))) (unS 2 (Ar (Al 9) (Ar (Al 10) Bl))))
 (Ah (ifS (CV (Ak (Ac (Ab 5) (fC .non) isC)) (fOr (Ak (Ac (Ab 10) (fC .non) Eh)) (D1 (Ak (Af D0 (Aa (Ac (Ab 9) (fC (.int 0)) ixD) (Aa (Ac (Ab 4) (fC (.int 0)) ixD) Ad)))))))
   (Au (fC (.bl false)))
   Aw)
 (ifS (CV (Ak (Ac (Ab 5) (fC .non) isC)) (fOr (Ak (Ac (Ac (Ac (Ab 9) (fC (.int 1)) ixD) (fC (.int 0)) ixD) (Ac (Ac (Ab 4) (fC (.int 1)) ixD) (fC (.int 0)) ixD) gtA)) (Ak (Ac (Ac (Ac (Ab 9) (fC (.int 1)) ixD) (fC (.int 1)) ixD) (Ac (Ac (Ab 4) (fC (.int 1)) ixD) (fC (.int 1)) ixD) gtA))))
   (Au (fC (.bl false)))
   Aw))))))
 (Au (fC (.bl true)))))
def Eu (A0 Ae:Fn):M Out:=
 (Ah (A4 (Af A0 (Aa (Ab 0) (Aa (Ab 1) (Aa (Ab 2) Ad)))) (unS 2 (Ar (Al 4) (Ar (Al 5) Bl))))
 (Ah (ifS (Ak (Ac (Ab 5) (fC .non) isC))
   (Au (fC (.bl true)))
   Aw)
 (Ah (A4 (Ab 5) (unS 2 (Ar (Al 6) (Ar (Al 7) Bl))))
 (Ah (Ap 8 (EA [("left",(Ab 1)),("right",(Ab 2))]))
 (Ah (ifS (Ak (Ac (Ab 7) (fB (Aa (Ac (Ab 8) (Ab 6) AO) Ad) AF) geA))
   (Au (fC (.bl false)))
   Aw)
 (Ah (A4 (fSl (Ac (Ab 8) (Ab 6) AO) fNo (Db (Ab 7)) Dk) (Ec (Ab 8) (Ab 6)))
 (Ah (ifS (Ak (Ac (Ac (Af A0 (Aa (Ab 0) (Aa (Ac (Ab 8) (fC (.str "left")) AO) (Aa (Ac (Ab 8) (fC (.str "right")) AO) Ad)))) (fC (.int 1)) ixD) (Ab 5) (eqS id)))
   (Au (fC (.bl false)))
   Aw)
 (Ah (Ap 9 (Av (AM 1 [3] (Bm (Aa (Af Ae (Aa (Ab 3) (Aa (fC (.int 9)) Ad))) Ad)) (Al 0) Bc (Af Ae (Aa (Ab 1) (Aa (fC (.int 256)) Ad))))))
 (Ah (A4 (Ac (fSl (Ac (Av (AI (Aa (Ab 1) (Aa (Ab 2) Ad)))) (fB (Aa (Ac (Ab 6) (fC (.str "right")) (eqS id)) Ad) FT) ixD) fNo (Db (Ac (Ab 7) (fC (.int 1)) AB)) Dk) (Ab 9) AB) (Ec (Ab 8) (Ab 6)))
 (Au (Ac (Ac (Af A0 (Aa (Ab 0) (Aa (Ac (Ab 8) (fC (.str "left")) AO) (Aa (Ac (Ab 8) (fC (.str "right")) AO) Ad)))) (fC (.int 1)) ixD) (Ab 5) (eqS id))))))))))))
def Gs (ER Ds Fk Eo Ae AT Kq Kn:Fn):M Out:=
 (Ah (Ap 1 (Af ER (Aa (Ab 0) Ad)))
 (Ah (Ap 2 (Af Kn (Aa (Ab 1) (Aa (Af Kq (Aa (Ab 0) (Aa (Ab 1) (Aa (fC (.int 38)) Ad)))) Ad))))
 (Ah (Ap 3 (Af AT (Aa (Ab 0) (Aa (fC (.int 1)) Ad))))
 (Ah (Ci (Bm (Aa (fC (.int 4)) Ad)) (Al 4)
   (Ah (B9 5 (fBF (Aa (Ac (Ab 2) (fC (.str "left")) AO) Ad) Dx))
 (Ah (B9 6 (fBF (Aa (Ac (Ab 2) (fC (.str "right")) AO) Ad) Dx))
 (Ah (Ap 7 (Af Ae (Aa (Ab 3) (Aa (fC (.int 4)) Ad))))
 (Ah (ifS (CV (Ak (Ac (Ab 7) (fC (.int 1)) (eqS id))) (Ak (Cg 5 (λb=>!b) (Av (AI Ad)))))
   (A4 (Af Ae (Aa (Ab 3) (Aa (fC (.int 256)) Ad))) (B4 5 (Af Ae (Aa (Ab 3) (Aa (Ch 5) Ad)))))
   Aw)
 (Ah (ifS (CV (Ak (Ac (Ab 7) (fC (.int 2)) (eqS id))) (Ak (Cg 6 (λb=>!b) (Av (AI Ad)))))
   (A4 (Af Ae (Aa (Ab 3) (Aa (fC (.int 256)) Ad))) (B4 6 (Af Ae (Aa (Ab 3) (Aa (Ch 6) Ad)))))
   Aw)
 (Ah (ifS (Ak (Ac (Ab 7) (fC (.int 3)) (eqS id)))
   (B9 5 (bnd (Ab 5) λx=>bnd (Av (AM 1 [3] (Bm (Aa (Af Ae (Aa (Ab 3) (Aa (fC (.int 9)) Ad))) Ad)) (Al 0) Bc (Af Ae (Aa (Ab 1) (Aa (fC (.int 256)) Ad))))) λy=>Ho x y))
   Aw)
 (Ah (ifS (fOr (D1 (Ak (Af Fk (Aa (Ab 1) (Aa (Ab 5) (Aa (Ab 6) (Aa (Ab 3) Ad))))))) (D1 (Ak (Af Eo (Aa (Ab 1) (Aa (Ab 5) (Aa (Ab 6) (Aa (Ab 3) Ad))))))))
   (Au (fC (.bl false)))
   Aw)
 (ifS (D1 (Ak (Af Ds (Aa (Ab 1) (Aa (Ab 5) (Aa (Ab 6) Ad))))))
   (Au (fC (.bl false)))
   Aw)))))))))
 (Au (Ac (Ab 1) (Af ER (Aa (Ab 0) Ad)) (eqS id)))))))
def Di:M Out:=
 (Ah (Ek "grammars" (Ab 1) (Ab 0))
 (Ah (Ek "wires" (EA [("left",(Ab 2)),("right",(Ab 3))]) (Ab 0))
 (Ah (Ek "places" (EA [("left",(fC (.int 0))),("right",(fC (.int 0)))]) (Ab 0))
 (Ah (Ek "standings" (FN (AM 1 [] (Dt (Ab 1)) (Al 0) Bc (fC (.int 0)))) (Ab 0))
 (Ek "heard" (FN (AM 1 [] (Dt (Ab 1)) (Al 0) Bc (FN (AI Ad)))) (Ab 0))))))
def Cr (CK:Fn):M Out:=
 (Ah (Ap 2 (Ac (CJ "places" (Ab 0)) (Ab 1) AO))
 (Ah (Ap 3 (Da "Listener" CK (Ab 0) (Aa (Ab 1) Ad)))
 (Ah (FE (Ak (Ac (Ab 3) (fC .non) Eh))
   (Ah (Ap 4 (Ac (Ac (CJ "wires" (Ab 0)) (Ab 1) AO) (Ac (CJ "places" (Ab 0)) (Ab 1) AO) ixD))
 (Ah (GM (objM BR (Ac (CJ "heard" (Ab 0)) (Ab 4) ixD) (Aa (Ac (Ab 3) (fC (.int 0)) ixD) Ad)))
 (Ah (A4 (Ac (Ab 3) (fC (.int 1)) ixD) (stD (CJ "standings" (Ab 0)) (Ab 4)))
 (Ah (A4 (Ac (Ab 3) (fC (.int 2)) ixD) (Ec (CJ "places" (Ab 0)) (Ab 1)))
 (Ap 3 (Da "Listener" CK (Ab 0) (Aa (Ab 1) Ad))))))))
 (Au (Ac (Ac (CJ "places" (Ab 0)) (Ab 1) AO) (Ab 2) gtA)))))
abbrev BT (BW:Fn):M Out:=
 (DY (Au (Da "Listener" BW (Ab 0) (Aa (Ab 1) Ad))) (hNo "Broken" (Au (fC .non)) Ny))
def C3 (HZ Ot:Fn):M Out:=
 (Ah (Ap 2 (Ac (CJ "wires" (Ab 0)) (Ab 1) AO))
 (Ah (Ap 3 (Ac (CJ "places" (Ab 0)) (Ab 1) AO))
 (Ah (ifS (Ak (Ac (Ab 3) (fB (Aa (Ab 2) Ad) AF) geA))
   (Au (nxD (fC .non)))
   Aw)
 (Ah (ifS (Ak (Ac (Ac (Ab 2) (Ab 3) ixD) (fB (Aa (CJ "grammars" (Ab 0)) Ad) AF) geA))
   (Cm "Broken" (Aa (Ab 3) (Aa (Ab 1) Ad)))
   Aw)
 (Ah (Ap 4 (Ac (Ac (CJ "grammars" (Ab 0)) (Ac (Ab 2) (Ab 3) ixD) ixD) (Ac (CJ "standings" (Ab 0)) (Ac (Ab 2) (Ab 3) ixD) ixD) ixD))
 (Ah (ifS (Ak (Af Ot (Aa (Ab 4) Ad)))
   (Cm "Broken" (Aa (Ab 3) (Aa (Ab 1) Ad)))
   Aw)
 (Ah (ifS (Ak (Ac (Ac (Ab 4) (fC (.int 0)) ixD) (Ab 1) (eqS λb=>!b)))
   (Au (nxD (fC .non)))
   Aw)
 (Au (Af HZ (Aa (Ab 4) (Aa (Ab 2) (Aa (Ac (Ab 3) (fC (.int 1)) AB) Ad))))))))))))
end LW
namespace F2
open PySem L2
def W {α:Type}(m:M α)(t:T)(P:α->T->Prop):Prop:=∃a t',m t=some (a,t')/\P a t'
def Wf (g:Fn)(ds:List D)(S:List Ob)(P:D->List Ob->Prop):Prop:=∃r S',g ds S=some (r,S')/\P r S'
theorem W.mono {α:Type}{m:M α}{t:T}{P Q:α->T->Prop}(h:W m t P)(i:∀a t',P a t'->Q a t'):W m t Q:=by
 obtain ⟨a,t',e,p⟩:=h;exact ⟨a,t',e,i a t' p⟩
theorem Wf.mono {g:Fn}{ds:List D}{S:List Ob}{P Q:D->List Ob->Prop}(h:Wf g ds S P)(i:∀r S',P r S'->Q r S'):Wf g ds S Q:=by
 obtain ⟨a,t',e,p⟩:=h;exact ⟨a,t',e,i a t' p⟩
section
variable {α β:Type}
theorem Ay {m:M α}{t:T}{P:α->T->Prop}{a:α}{t':T}(e:m t=some (a,t')):W m t P↔P a t':=by
 constructor
 ·rintro ⟨a',t1,e',p⟩;rw [e] at e';cases e';exact p
 ·exact λp=>⟨a,t',e,p⟩
theorem CQ {m:M α}{t:T}{P:α->T->Prop}(e:m t=none):W m t P↔False:=by
 constructor
 ·rintro ⟨a',t1,e',p⟩;rw [e] at e';cases e'
 ·exact False.elim
@[simp] theorem W_ret {a:α} {t:T} {P:α->T->Prop}:W (ret a) t P↔P a t:=Ay rfl
@[simp] theorem W_fail {t:T} {P:α->T->Prop}:W (fail:M α) t P↔False:=CQ rfl
@[simp] theorem W_bnd {f:M α} {g:α->M β} {t:T} {P:β->T->Prop}:W (bnd f g) t P↔W f t λa t1=>W (g a) t1 P:=by
 constructor
 ·rintro ⟨b,t',e,p⟩;obtain ⟨a,t1,e1,e2⟩:=Ag e;exact ⟨a,t1,e1,b,t',e2,p⟩
 ·rintro ⟨a,t1,e1,b,t',e2,p⟩;exact ⟨b,t',by unfold bnd;rw [e1];exact e2,p⟩
@[simp] theorem Sf {c:Prop} [Decidable c] {f g:M α} {t:T} {P:α->T->Prop}:W (if c then f else g) t P↔if c then W f t P else W g t P:=by split <;> rfl
@[simp] theorem aJ {n:Nat} {a:α} {t:T} {P:α->T->Prop}:W (lim n a) t P↔n<=LIM/\P a t:=by
 unfold lim;constructor
 ·rintro ⟨a',t',e,p⟩
  split at e
  ·cases e;exact ⟨by assumption,p⟩
  ·cases e
 ·rintro ⟨h,p⟩;exact ⟨a,t,by simp only [h,if_true],p⟩
end
variable {t:T}{env:List (Option Sl)}{S:List Ob}
@[simp] theorem W_fC {d:D} {P:D->T->Prop}:W (fC d) t P↔P d t:=Ay rfl
@[simp] theorem Om {i:Nat} {P:D->T->Prop}:W (Ab i) t P↔match t.env[i]? with
 | some (some (.val d))=>P d t
 | some (some (.own ds))=>P (.lst ds) ⟨t.env.set i (some (.val (.lst ds))),t.S⟩
 | _=>False:=by
 cases e:t.env[i]? with
 | none=>exact CQ (by unfold Ab;simp [e])
 | some o=>
   cases o with
   | none=>exact CQ (by unfold Ab;simp [e])
   | some sl=>
     cases sl with
     | val d=>exact Ay (by unfold Ab;simp [e])
     | own ds=>exact Ay (by unfold Ab;simp [e])
@[simp] theorem W_fBin {f g:M D} {h:D->D->M D} {P:D->T->Prop}:W (Ac f g h) t P↔W f t λx t1=>W g t1 λy t2=>W (h x y) t2 P:=by simp [Ac]
@[simp] theorem W_fUn {f:M D} {h:D->M D} {P:D->T->Prop}:W (fUn f h) t P↔W f t λx t1=>W (h x) t1 P:=by simp [fUn]
@[simp] theorem W_toB {b:Bool} {P:Bool->T->Prop}:W (toB (.bl b)) t P↔P b t:=Ay rfl
@[simp] theorem W_fTst {f:M D} {P:Bool->T->Prop}:W (Ak f) t P↔W f t λx t1=>W (toB x) t1 P:=by simp [Ak]
@[simp] theorem W_fChain {f g w:M D} {h h':D->D->M D} {P:D->T->Prop}:W (ET f g w h h') t P↔W f t λx t1=>W g t1 λy t2=>W (h x y) t2 λk t3=>W (toB k) t3 λk t4=>if k=true then W w t4 λz t5=>W (h' y z) t5 P else P (.bl false) t4:=by
 simp [ET]
@[simp] theorem W_fAnd {f g:M Bool} {P:Bool->T->Prop}:W (CV f g) t P↔W f t λk t1=>if k=true then W g t1 P else P false t1:=by simp [CV]
@[simp] theorem W_fOr {f g:M Bool} {P:Bool->T->Prop}:W (fOr f g) t P↔W f t λk t1=>if k=true then P true t1 else W g t1 P:=by simp [fOr]
@[simp] theorem W_fNot {f:M Bool} {P:Bool->T->Prop}:W (D1 f) t P↔W f t λk t1=>P (!k) t1:=by simp [D1]
@[simp] theorem W_fAndV {f g:M D} {P:D->T->Prop}:W (FM f g) t P↔W f t λx t1=>W (toB x) t1 λk t2=>if k=true then W g t2 P else P (.bl false) t2:=by simp [FM]
@[simp] theorem W_fOrV {f g:M D} {P:D->T->Prop}:W (Jb f g) t P↔W f t λx t1=>W (toB x) t1 λk t2=>if k=true then P (.bl true) t2 else W g t2 P:=by simp [Jb]
@[simp] theorem ay {f:M D} {P:D->T->Prop}:W (Sg f) t P↔W f t λx t1=>W (toB x) t1 λk t2=>P (.bl (!k)) t2:=by simp [Sg]
@[simp] theorem W_fIf {f:M Bool} {g h:M D} {P:D->T->Prop}:W (fIf f g h) t P↔W f t λk t1=>if k=true then W g t1 P else W h t1 P:=by simp [fIf]
@[simp] theorem W_fNil {P:List D->T->Prop}:W Ad t P↔P [] t:=Ay rfl
@[simp] theorem W_fCons {f:M D} {g:M (List D)} {P:List D->T->Prop}:W (Aa f g) t P↔W f t λd t1=>W g t1 λds t2=>P (d :: ds) t2:=by simp [Aa]
@[simp] theorem W_fTup {f:M (List D)} {P:D->T->Prop}:W (AL f) t P↔W f t λds t1=>ds.length<=LIM/\P (.tup ds) t1:=by simp [AL]
@[simp] theorem W_fLst {f:M (List D)} {P:List D->T->Prop}:W (AI f) t P↔W f t λds t1=>ds.length<=LIM/\P ds t1:=by simp [AI]
@[simp] theorem W_fPure {f:M (List D)} {P:D->T->Prop}:W (Av f) t P↔W f t λds t1=>P (.lst ds) t1:=by simp [Av]
@[simp] theorem W_newOb {o:Ob} {P:D->T->Prop}:W (NL o) t P↔P (.obj t.S.length) ⟨t.env,t.S++[o]⟩:=Ay rfl
@[simp] theorem Vk {f:M (List D)} {P:D->T->Prop}:W (FN f) t P↔W f t λds t1=>W (NL (.lst ds)) t1 P:=by simp [FN]
@[simp] theorem W_fCall {g:Fn} {f:M (List D)} {P:D->T->Prop}:W (Af g f) t P↔W f t λds t1=>Wf g ds t1.S λr S'=>P r ⟨t1.env,S'⟩:=by
 unfold Af;rw [W_bnd];constructor
 ·rintro ⟨ds,t1,e1,r,t',e2,p⟩;refine ⟨ds,t1,e1,?_⟩;dsimp only at e2
  cases e:g ds t1.S with
  | none=>rw [e] at e2;cases e2
  | some z=>obtain ⟨r',S'⟩:=z;rw [e] at e2;cases e2;exact ⟨r,_,e,p⟩
 ·rintro ⟨ds,t1,e1,r,S',e2,p⟩;exact ⟨ds,t1,e1,r,_,by simp only [e2],p⟩
@[simp] theorem W_fB {f:M (List D)} {h:List D->M D} {P:D->T->Prop}:W (fB f h) t P↔W f t λds t1=>W (h ds) t1 P:=by simp [fB]
@[simp] theorem W_fBF {f:M (List D)} {h:List D->M (List D)} {P:List D->T->Prop}:W (fBF f h) t P↔W f t λds t1=>W (h ds) t1 P:=by simp [fBF]
@[simp] theorem W_seqS {f g:M Out} {P:Out->T->Prop}:W (Ah f g) t P↔W f t λo t1=>match o with
 | .next=>W g t1 P
 | .brk=>P .brk t1
 | .cont=>P .cont t1
 | .ret d=>P (.ret d) t1:=by
 unfold Ah;constructor
 ·rintro ⟨o,t',e,p⟩;dsimp only at e
  cases e1:f t with
  | none=>rw [e1] at e;cases e
  | some z=>
    obtain ⟨o1,t1⟩:=z;rw [e1] at e;refine ⟨o1,t1,e1,?_⟩
    cases o1 with
    | next=>exact ⟨o,t',e,p⟩
    | brk=>cases e;exact p
    | cont=>cases e;exact p
    | ret d=>cases e;exact p
 ·rintro ⟨o,t1,e,p⟩
  cases o with
  | next=>obtain ⟨o,t',e',p⟩:=p;exact ⟨o,t',by simp only [e];exact e',p⟩
  | brk=>exact ⟨_,_,by simp only [e],p⟩
  | cont=>exact ⟨_,_,by simp only [e],p⟩
  | ret d=>exact ⟨_,_,by simp only [e],p⟩
@[simp] theorem W_skipS {P:Out->T->Prop}:W Aw t P↔P .next t:=Ay rfl
@[simp] theorem W_retS {f:M D} {P:Out->T->Prop}:W (Au f) t P↔W f t λd t1=>P (.ret d) t1:=by simp [Au]
@[simp] theorem W_dropS {f:M D} {P:Out->T->Prop}:W (GM f) t P↔W f t λd t1=>P .next t1:=by simp [GM]
@[simp] theorem W_ifS {f:M Bool} {g h:M Out} {P:Out->T->Prop}:W (ifS f g h) t P↔W f t λk t1=>if k=true then W g t1 P else W h t1 P:=by simp [ifS]
@[simp] theorem W_putV {i:Nat} {d:D} {P:Unit->T->Prop}:W (Al i d) t P↔P () ⟨t.env.set i (some (.val d)),t.S⟩:=Ay rfl
@[simp] theorem W_setS {i:Nat} {f:M D} {P:Out->T->Prop}:W (Ap i f) t P↔W f t λd t1=>P .next ⟨t1.env.set i (some (.val d)),t1.S⟩:=by
 simp only [Ap,W_bnd,W_ret,W_putV]
@[simp] theorem W_ownS {i:Nat} {f:M (List D)} {P:Out->T->Prop}:W (B9 i f) t P↔W f t λds t1=>P .next ⟨t1.env.set i (some (.own ds)),t1.S⟩:=by
 unfold B9;rw [W_bnd];have:∀(ds:List D) (t1:T),W (λt:T=>some (Out.next,({ t with env:=t.env.set i (some (.own ds)) }:T))) t1 P↔P .next ⟨t1.env.set i (some (.own ds)),t1.S⟩:=λds t1=>Ay rfl;simp only [this]
@[simp] theorem W_asgS {f:M D} {g:D->M Unit} {P:Out->T->Prop}:W (A4 f g) t P↔W f t λd t1=>W (g d) t1 λ_ t2=>P .next t2:=by simp [A4]
@[simp] theorem W_putNil {P:Unit->T->Prop}:W (Bl []) t P↔P () t:=Ay rfl
@[simp] theorem W_putCons {f:D->M Unit} {g:List D->M Unit} {d:D} {ds:List D} {P:Unit->T->Prop}:W (Ar f g (d :: ds)) t P↔W (f d) t λ_ t1=>W (g ds) t1 P:=by simp [Ar]
@[simp] theorem Zb {n:Nat} {g:List D->M Unit} {ds:List D} {P:Unit->T->Prop}:W (unS n g (.lst ds)) t P↔ds.length=n/\W (g ds) t P:=by
 unfold unS;simp only [Sf,W_fail];split <;> simp [*]
@[simp] theorem W_unS_tup {n:Nat} {g:List D->M Unit} {ds:List D} {P:Unit->T->Prop}:W (unS n g (.tup ds)) t P↔ds.length=n/\W (g ds) t P:=by
 unfold unS;simp only [Sf,W_fail];split <;> simp [*]
@[simp] theorem W_forS {f:M (List D)} {st:D->M Unit} {b:M Out} {P:Out->T->Prop}:W (Ci f st b) t P↔W f t λds t1=>W (BL st b ds) t1 P:=by simp [Ci]
@[simp] theorem W_forL_nil {st:D->M Unit} {b:M Out} {P:Out->T->Prop}:W (BL st b []) t P↔P .next t:=Ay rfl
theorem B6 {st:D->M Unit}{b:M Out}{d:D}{r:List D}{P:Out->T->Prop}:W (BL st b (d :: r)) t P↔W (st d) t λ_ t1=>W b t1 λo t2=>match o with
 | .next=>W (BL st b r) t2 P
 | .cont=>W (BL st b r) t2 P
 | .brk=>P .next t2
 | .ret x=>P (.ret x) t2:=by
 constructor
 ·rintro ⟨o,t',e,p⟩;unfold BL at e
  cases e1:st d t with
  | none=>rw [e1] at e;cases e
  | some z=>
    obtain ⟨u,t1⟩:=z;rw [e1] at e
    try dsimp only at e
    refine ⟨u,t1,e1,?_⟩
    cases e2:b t1 with
    | none=>rw [e2] at e;cases e
    | some z=>
      obtain ⟨o2,t2⟩:=z;rw [e2] at e
      try dsimp only at e
      refine ⟨o2,t2,e2,?_⟩
      cases o2 with
      | next=>exact ⟨o,t',e,p⟩
      | cont=>exact ⟨o,t',e,p⟩
      | brk=>cases e;exact p
      | ret x=>cases e;exact p
 ·rintro ⟨u,t1,e1,o,t2,e2,p⟩
  cases o with
  | next=>obtain ⟨o,t',e',p⟩:=p;exact ⟨o,t',by unfold BL;simp only [e1,e2];exact e',p⟩
  | cont=>obtain ⟨o,t',e',p⟩:=p;exact ⟨o,t',by unfold BL;simp only [e1,e2];exact e',p⟩
  | brk=>exact ⟨_,_,by unfold BL;simp only [e1,e2],p⟩
  | ret x=>exact ⟨_,_,by unfold BL;simp only [e1,e2],p⟩
theorem Fc {st:D->M Unit}{b:M Out}{P:Out->T->Prop}(I:List D->T->Prop):∀(ds:List D) (t:T),I ds t->
 (∀d r t,I (d :: r) t->d∈ds->W (st d) t λ_ t1=>W b t1 λo t2=>match o with
   | .next=>I r t2
   | .cont=>I r t2
   | .brk=>P .next t2
   | .ret x=>P (.ret x) t2)->(∀t,I [] t->P .next t)->W (BL st b ds) t P
 | [],t,h,_,fin=>W_forL_nil.mpr (fin t h)
 | d :: r,t,h,turn,fin=>by
   rw [B6];refine (turn d r t h List.mem_cons_self).mono λ_ t1 h1=>h1.mono λo t2 h2=>?_
   cases o with
   | next=>exact Fc I r t2 h2 (λd' r' t' h' m=>turn d' r' t' h' (List.mem_cons_of_mem _ m)) fin
   | cont=>exact Fc I r t2 h2 (λd' r' t' h' m=>turn d' r' t' h' (List.mem_cons_of_mem _ m)) fin
   | brk=>exact h2
   | ret x=>exact h2
@[simp] theorem W_fComp {n:Nat} {fr:List Nat} {f:M (List D)} {st:D->M Unit} {tst:M Bool} {elt:M D} {P:List D->T->Prop}:W (AM n fr f st tst elt) t P↔W f t λds t1=>W (Bf st tst elt ds) ⟨cenv n fr t1.env,t1.S⟩ λxs t'=>xs.length<=LIM/\P xs ⟨t1.env,t'.S⟩:=by
 unfold AM;rw [W_bnd];constructor
 ·rintro ⟨ds,t1,e1,xs,t',e2,p⟩;refine ⟨ds,t1,e1,?_⟩;dsimp only at e2
  cases e:Bf st tst elt ds ⟨cenv n fr t1.env,t1.S⟩ with
  | none=>rw [e] at e2;cases e2
  | some z=>
    obtain ⟨ys,t3⟩:=z;rw [e] at e2;dsimp only at e2
    split at e2
    ·cases e2;exact ⟨_,_,e,by assumption,p⟩
    ·cases e2
 ·rintro ⟨ds,t1,e1,xs,t',e2,h,p⟩;exact ⟨ds,t1,e1,xs,_,by simp only [e2,h,if_true],p⟩
@[simp] theorem W_compL_nil {st:D->M Unit} {tst:M Bool} {elt:M D} {P:List D->T->Prop}:W (Bf st tst elt []) t P↔P [] t:=Ay rfl
theorem A9 {st:D->M Unit}{tst:M Bool}{elt:M D}{d:D}{r:List D}{P:List D->T->Prop}:W (Bf st tst elt (d :: r)) t P↔W (st d) t λ_ t1=>W tst t1 λk t2=>
 if k=true then W elt t2 λx t3=>W (Bf st tst elt r) t3 λxs t4=>P (x :: xs) t4 else W (Bf st tst elt r) t2 P:=by
 rw [Bf];simp
theorem F9 {st:D->M Unit}{tst:M Bool}{elt:M D}{P:List D->T->Prop}(I:List D->List D->T->Prop):∀(ds:List D) (acc:List D) (t:T),I acc ds t->
 (∀acc d r t,I acc (d :: r) t->d∈ds->W (st d) t λ_ t1=>W tst t1 λk t2=>if k=true then W elt t2 λx t3=>I (acc++[x]) r t3 else I acc r t2)->
 (∀acc t,I acc [] t->P acc t)->W (Bf st tst elt ds) t λxs t'=>P (acc++xs) t'
 | [],acc,t,h,_,fin=>W_compL_nil.mpr (by rw [List.append_nil];exact fin acc t h)
 | d :: r,acc,t,h,turn,fin=>by
   rw [A9];have turn':∀acc d' r' t',I acc (d' :: r') t'->d'∈r->_:=λacc d' r' t' h' m=>turn acc d' r' t' h' (List.mem_cons_of_mem _ m);refine (turn acc d r t h List.mem_cons_self).mono λ_ t1 h1=>h1.mono λk t2 h2=>?_
   cases k with
   | true=>
     rw [if_pos rfl] at h2 ⊢;refine h2.mono λx t3 h3=>(F9 I r (acc++[x]) t3 h3 turn' fin).mono λxs t4 h4=>?_;rw [List.append_assoc] at h4;exact h4
   | false=>
     rw [if_neg Bool.false_ne_true] at h2 ⊢;exact F9 I r acc t2 h2 turn' fin
theorem Ax {n m:Nat}{g:M Out}{ds:List D}{P:D->List Ob->Prop}(h:ds.length=n)(w:W g ⟨env0 m ds,S⟩ λo t=>match o with
 | .ret r=>P r t.S
 | .next=>P .non t.S
 | _=>False):Wf (fnOf n m g) ds S P:=by
 obtain ⟨o,t,e,p⟩:=w
 cases o with
 | ret r=>exact ⟨r,t.S,by unfold fnOf;rw [if_pos h,e],p⟩
 | next=>exact ⟨.non,t.S,by unfold fnOf;rw [if_pos h,e],p⟩
 | brk=>exact p.elim
 | cont=>exact p.elim
@[simp] theorem W_tTru {P:Bool->T->Prop}:W Bc t P↔P true t:=Ay rfl
@[simp] theorem aB {P:D->T->Prop}:W Zp t P↔P .dic t:=Ay rfl
end F2
namespace F2
open PySem L2
variable {t:T}{P:D->T->Prop}
theorem HU {α β:Type}{o:Option β}{g:β->α×T}{Q:α->T->Prop}{m:M α}(e:m t=o.map g):W m t Q↔∃b,o=some b/\Q (g b).1 (g b).2:=by
 constructor
 ·rintro ⟨a,t',e',p⟩;rw [e] at e';obtain ⟨b,h1,h2⟩:=Option.map_eq_some_iff.mp e';exact ⟨b,h1,by rw [h2];exact p⟩
 ·rintro ⟨b,h,p⟩;exact ⟨_,_,by rw [e,h];rfl,p⟩
theorem Qg {α:Type}{c:Prop}[Decidable c]{z:α×T}{Q:α->T->Prop}{m:M α}(e:m t=if c then some z else none):W m t Q↔c/\Q z.1 z.2:=by
 constructor
 ·rintro ⟨a,t',e',p⟩;rw [e] at e'
  split at e'
  ·cases e';exact ⟨by assumption,p⟩
  ·cases e'
 ·rintro ⟨h,p⟩;exact ⟨_,_,by rw [e,if_pos h],p⟩
theorem Kj {α β:Type}{o:Option β}(f:β->α){Q:α->T->Prop}{m:M α}(e:m t=o.map λb=>(f b,t)):W m t Q↔∃b,o=some b/\Q (f b) t:=HU (g:=λb=>(f b,t)) e
theorem HS {α:Type}{c:Prop}[Decidable c]{a:α}{Q:α->T->Prop}{m:M α}(e:m t=if c then some (a,t) else none):W m t Q↔c/\Q a t:=Qg (z:=(a,t)) e
@[simp] theorem W_ix_tup {ds:List D} {i:Int}:W (ixD (.tup ds) (.int i)) t P↔∃d,atI ds i=some d/\P d t:=Kj id rfl
@[simp] theorem W_ix_lst {ds:List D} {i:Int}:W (ixD (.lst ds) (.int i)) t P↔∃d,atI ds i=some d/\P d t:=Kj id rfl
@[simp] theorem W_ix_scr {ns:List Int} {i:Int}:W (ixD (.scr ns) (.int i)) t P↔∃n,atI ns i=some n/\P (.int n) t:=Kj D.int rfl
@[simp] theorem W_ix_str {x:Str} {i:Int}:W (ixD (.str x) (.int i)) t P↔x.length<=LIM/\∃n,atI x.cps.toList i=some n/\P (.str ⟨#[n]⟩) t:=by
 by_cases h:x.length<=LIM
 ·have:ixD (.str x) (.int i) t=(atI x.cps.toList i).map λn=>(.str ⟨#[n]⟩,t):=by simp only [ixD,h,if_true]
  rw [HU this];simp [h]
 ·rw [CQ (by simp only [ixD,h,if_false])];simp [h]
@[simp] theorem W_ix_obj {k:Nat} {i:Int}:W (ixD (.obj k) (.int i)) t P↔∃ds,t.S[k]?=some (.lst ds)/\∃d,atI ds i=some d/\P d t:=by
 cases e:t.S[k]? with
 | none=>rw [CQ (by simp only [ixD,e])];simp
 | some o=>
   cases o with
   | dct _ | ins _ _=>rw [CQ (by simp only [ixD,e])];simp
   | lst ds=>
     have:ixD (.obj k) (.int i) t=(atI ds i).map λd=>(d,t):=by simp only [ixD,e]
     rw [HU this];simp
@[simp] theorem JX {α:Type} {a:α} {r:List α}:atI (a :: r) 0=some a:=by simp [atI,ixN]
@[simp] theorem Nb {α:Type} {a b:α} {r:List α}:atI (a :: b :: r) 1=some b:=by
 have:(1:Int) < ((a :: b :: r).length:Nat):=by simp;lia
 simp only [atI,ixN,this,if_true,show (0:Int)<=1 by decide];rfl
@[simp] theorem Nc {α:Type} {a b c:α} {r:List α}:atI (a :: b :: c :: r) 2=some c:=by
 have:(2:Int) < ((a :: b :: c :: r).length:Nat):=by simp;lia
 simp only [atI,ixN,this,if_true,show (0:Int)<=2 by decide];rfl
theorem LZ {α:Type}{xs:List α}{i:Int}(h0:0<=i)(h1:i < xs.length):∃d,atI xs i=some d/\d∈xs/\xs[i.toNat]?=some d:=by
 have hl:i.toNat < xs.length:=by lia
 refine ⟨xs[i.toNat],?_,List.getElem_mem hl,List.getElem?_eq_getElem hl⟩;simp [atI,ixN,h0,h1,hl]
@[simp] theorem W_len_lst {ds:List D}:W (AF [.lst ds]) t P↔P (.int ds.length) t:=Ay rfl
@[simp] theorem W_len_tup {ds:List D}:W (AF [.tup ds]) t P↔P (.int ds.length) t:=Ay rfl
@[simp] theorem W_len_scr {ds:List Int}:W (AF [.scr ds]) t P↔P (.int ds.length) t:=Ay rfl
@[simp] theorem W_len_str {x:Str}:W (AF [.str x]) t P↔x.length<=LIM/\P (.int x.length) t:=by simp [AF]
@[simp] theorem W_len_obj {k:Nat}:W (AF [.obj k]) t P↔∃ds,t.S[k]?=some (.lst ds)/\P (.int ds.length) t:=by
 cases e:t.S[k]? with
 | none=>rw [CQ (by simp only [AF,e])];simp
 | some o=>
   cases o with
   | dct _ | ins _ _=>rw [CQ (by simp only [AF,e])];simp
   | lst ds=>rw [Ay (a:=.int ds.length) (t':=t) (by simp only [AF,e])];simp
@[simp] theorem aI {d:D} {m:String}:W (KR [d,.ty m]) t P↔∃n,tyD d=some n/\∃b,Gm n m=some b/\P (.bl b) t:=by
 cases e:tyD d with
 | none=>rw [CQ (by simp only [KR,e])];simp
 | some n=>
   have:KR [d,.ty m] t=(Gm n m).map λb=>(.bl b,t):=by simp only [KR,e]
   rw [HU this];simp
noncomputable def FV:D->Bool
 | .non=>true
 | _=>false
noncomputable def Zx (b:Bool):D->Bool
 | .bl c=>c == b
 | _=>false
@[simp] theorem W_is_non {x:D}:W (isC x .non) t P↔P (.bl (FV x)) t:=Ay (by cases x <;> rfl)
@[simp] theorem az {x:D} {b:Bool}:W (isC x (.bl b)) t P↔P (.bl (Zx b x)) t:=Ay (by cases x <;> rfl)
@[simp] theorem W_isNot {x y:D}:W (Eh x y) t P↔W (isC x y) t λd t1=>W (toB d) t1 λb t2=>P (.bl (!b)) t2:=by
 unfold Eh;rw [W_bnd];constructor
 ·exact λh=>h.mono λd t1 h1=>by
   cases d with
   | bl b=>simpa using h1
   | _=>exact (W_fail.mp h1).elim
 ·exact λh=>h.mono λd t1 h1=>by
   cases d with
   | bl b=>simpa using h1
   | _=>obtain ⟨_,_,e,_⟩:=h1;cases e
@[simp] theorem W_add_int {i j:Int}:W (AB (.int i) (.int j)) t P↔P (.int (i + j)) t:=Ay rfl
@[simp] theorem W_sub_int {i j:Int}:W (BK (.int i) (.int j)) t P↔P (.int (i - j)) t:=Ay rfl
@[simp] theorem W_lt_int {i j:Int}:W (ltA (.int i) (.int j)) t P↔P (.bl (decide (i < j))) t:=Ay rfl
@[simp] theorem W_le_int {i j:Int}:W (leA (.int i) (.int j)) t P↔P (.bl (decide (i<=j))) t:=Ay rfl
@[simp] theorem W_gt_int {i j:Int}:W (gtA (.int i) (.int j)) t P↔P (.bl (decide (j < i))) t:=Ay rfl
@[simp] theorem W_ge_int {i j:Int}:W (geA (.int i) (.int j)) t P↔P (.bl (decide (j<=i))) t:=Ay rfl
@[simp] theorem Zg {i j:Str}:W (ltA (.str i) (.str j)) t P↔P (.bl (decide (i.cps.toList < j.cps.toList))) t:=Ay rfl
@[simp] theorem Zd {i j:Str}:W (gtA (.str i) (.str j)) t P↔P (.bl (decide (j.cps.toList < i.cps.toList))) t:=Ay rfl
@[simp] theorem W_neg {i:Int}:W (NK (.int i)) t P↔P (.int (-i)) t:=Ay rfl
@[simp] theorem W_fdiv {i j:Int}:W (EB (.int i) (.int j)) t P↔(0 < j/\j < 1073741824)/\P (.int (i / j)) t:=by
 rw [Qg (m:=EB (.int i) (.int j)) (c:=JY i j=true) (z:=(.int (i / j),t)) rfl];simp [JY]
@[simp] theorem W_mod {i j:Int}:W (DW (.int i) (.int j)) t P↔0 < j/\P (.int (i % j)) t:=by
 rw [Qg (m:=DW (.int i) (.int j)) (c:=decide (0 < j)=true) (z:=(.int (i % j),t)) rfl];simp
@[simp] theorem W_pow {i j:Int}:W (GA (.int i) (.int j)) t P↔Ka i j=true/\P (.int (i ^ j.toNat)) t:=HS rfl
@[simp] theorem W_mul_int {i j:Int}:W (Ex (.int i) (.int j)) t P↔EF i j=true/\P (.int (i * j)) t:=HS rfl
theorem Df {i j:Int}(h1 : -18446744073709551616 < i)(h2:i < 18446744073709551616):EF i j=true:=by simp [EF,h1,h2]
theorem TW {i j:Int}(h1 : -18446744073709551616 < j)(h2:j < 18446744073709551616):EF i j=true:=by simp [EF,h1,h2]
theorem D8 {k:Int}(h1 : -4611686018427387904<=k)(h2:k < 4611686018427387904):BE k=true:=by simp [BE,h1,h2]
@[simp] theorem W_add_str {x y:Str}:W (AB (.str x) (.str y)) t P↔x.length + y.length<=LIM/\P (.str (x++y)) t:=by
 have:AB (.str x) (.str y)=lim (x.length + y.length) (.str (x++y)):=rfl;rw [this];simp
@[simp] theorem W_add_lst {x y:List D}:W (AB (.lst x) (.lst y)) t P↔x.length + y.length<=LIM/\P (.lst (x++y)) t:=by
 have:AB (.lst x) (.lst y)=lim (x.length + y.length) (.lst (x++y)):=rfl;rw [this];simp
@[simp] theorem W_cat {x y:List D} {Q:List D->T->Prop}:W (Ho (.lst x) (.lst y)) t Q↔x.length + y.length<=LIM/\Q (x++y) t:=by
 have:Ho (.lst x) (.lst y)=lim (x.length + y.length) (x++y):=rfl;rw [this];simp
@[simp] theorem aH {i:Int}:W (Zk [.int i]) t P↔P (.int (if i < 0 then -i else i)) t:=Ay rfl
@[simp] theorem W_min {i j:Int}:W (Ew [.int i,.int j]) t P↔P (.int (if j < i then j else i)) t:=Ay rfl
@[simp] theorem aK {i j:Int}:W (Zz [.int i,.int j]) t P↔P (.int (if j > i then j else i)) t:=Ay rfl
@[simp] theorem Y9 {i:Int}:W (FT [.int i]) t P↔P (.int i) t:=Ay rfl
@[simp] theorem W_int_bl {b:Bool}:W (FT [.bl b]) t P↔P (.int (if b then 1 else 0)) t:=Ay rfl
@[simp] theorem W_ord {x:Str}:W (Jh [.str x]) t P↔x.length=1/\P (.int (x.cps.getD 0 0:Nat)) t:=HS rfl
@[simp] theorem W_tup_lst {ds:List D}:W (Jr [.lst ds]) t P↔P (.tup ds) t:=Ay rfl
@[simp] theorem W_lst_lst {ds:List D} {Q:List D->T->Prop}:W (Dx [.lst ds]) t Q↔Q ds t:=Ay rfl
@[simp] theorem Za {ds:List D} {Q:List D->T->Prop}:W (Dx [.tup ds]) t Q↔Q ds t:=Ay rfl
@[simp] theorem W_eq_str {g:Bool->Bool} {x y:Str}:W (eqS g (.str x) (.str y)) t P↔P (.bl (g (x == y))) t:=Ay rfl
@[simp] theorem W_eq_int {g:Bool->Bool} {x y:Int}:W (eqS g (.int x) (.int y)) t P↔P (.bl (g (x == y))) t:=Ay rfl
@[simp] theorem ax {g:Bool->Bool} {x y:Bool}:W (eqS g (.bl x) (.bl y)) t P↔P (.bl (g (x == y))) t:=Ay rfl
@[simp] theorem W_eq_nil {g:Bool->Bool} {x:List D}:W (eqS g (.lst x) (.lst [])) t P↔P (.bl (g x.isEmpty)) t:=by
 refine Ay ?_
 cases x <;> rfl
theorem Gv {a b:String}:Str.ofString a=Str.ofString b↔a=b:=by
 constructor
 ·intro h;rw [Str.ofString_eq_toList,Str.ofString_eq_toList] at h;injection h with h
  have h:=congrArg Array.toList h;simp only at h;have hinj:∀xs ys:List Char,xs.map Char.toNat=ys.map Char.toNat->xs=ys:=by
   intro xs
   induction xs with
   | nil=>intro ys h;cases ys with | nil=>rfl | cons _ _=>simp at h
   | cons x xs ih=>
     intro ys h
     cases ys with
     | nil=>simp at h
     | cons y ys=>
       simp only [List.map_cons,List.cons.injEq] at h;rw [ih ys h.2,Char.toNat_inj.mp h.1]
  exact String.toList_inj.mp (hinj _ _ (by simpa using h))
 ·exact λh=>by rw [h]
@[simp] theorem Wn {a b:String}:(Str.ofString a == Str.ofString b)=(a == b):=by
 rw [Bool.eq_iff_iff,beq_iff_eq,beq_iff_eq,Gv]
@[simp] theorem W_sl_lst {ds:List D} {lo hi:Option Int}:W (Dk (.lst ds) lo hi) t P↔P (.lst (BZ ds lo hi)) t:=Ay rfl
@[simp] theorem Zh {ds:List Int} {lo hi:Option Int}:W (Dk (.scr ds) lo hi) t P↔P (.lst ((BZ ds lo hi).map .int)) t:=Ay rfl
@[simp] theorem Zi {x:Str} {lo hi:Option Int}:W (Dk (.str x) lo hi) t P↔x.length<=LIM/\P (.str (Txt.slice x lo hi)) t:=by
 have:Dk (.str x) lo hi=lim x.length (.str (Txt.slice x lo hi)):=rfl;rw [this];simp
@[simp] theorem Zj {ds:List D} {lo hi:Option Int}:W (Dk (.tup ds) lo hi) t P↔P (.tup (BZ ds lo hi)) t:=Ay rfl
@[simp] theorem W_fSl {f:M D} {l u:M (Option Int)} {h:D->Option Int->Option Int->M D}:W (fSl f l u h) t P↔W f t λx t1=>W l t1 λlo t2=>W u t2 λhi t3=>W (h x lo hi) t3 P:=by simp [fSl]
@[simp] theorem W_fNo {Q:Option Int->T->Prop}:W fNo t Q↔Q none t:=Ay rfl
@[simp] theorem W_asI {i:Int} {Q:Option Int->T->Prop}:W (asI (.int i)) t Q↔Q (some i) t:=Ay rfl
@[simp] theorem W_fPart {f:M D} {Q:Option Int->T->Prop}:W (Db f) t Q↔W f t λx t1=>W (asI x) t1 Q:=by simp [Db]
@[simp] theorem W_fItA {f:M D} {Q:List D->T->Prop}:W (Dt f) t Q↔W f t λx t1=>W (Dm x) t1 Q:=by simp [Dt]
@[simp] theorem W_it_lst {ds:List D} {Q:List D->T->Prop}:W (Dm (.lst ds)) t Q↔Q ds t:=Ay rfl
@[simp] theorem Zf {ds:List D} {Q:List D->T->Prop}:W (Dm (.tup ds)) t Q↔Q ds t:=Ay rfl
@[simp] theorem Ze {ds:List Int} {Q:List D->T->Prop}:W (Dm (.scr ds)) t Q↔Q (ds.map .int) t:=Ay rfl
@[simp] theorem W_it_str {x:Str} {Q:List D->T->Prop}:W (Dm (.str x)) t Q↔Q (x.cps.toList.map λc=>.str ⟨#[c]⟩) t:=Ay rfl
@[simp] theorem W_fRng1 {f:M (List D)} {Q:List D->T->Prop}:W (Bm f) t Q↔W f t λx t1=>W (Jm x) t1 Q:=by simp [Bm]
@[simp] theorem W_fRng2 {f:M (List D)} {Q:List D->T->Prop}:W (FO f) t Q↔W f t λx t1=>W (Jn x) t1 Q:=by simp [FO]
@[simp] theorem W_rng1 {j:Int} {Q:List D->T->Prop}:W (Jm [.int j]) t Q↔BE j=true/\Q (AJ 0 j.toNat) t:=HS rfl
@[simp] theorem W_rng2 {i j:Int} {Q:List D->T->Prop}:W (Jn [.int i,.int j]) t Q↔(BE i && BE j)=true/\Q (AJ i (j - i).toNat) t:=HS rfl
@[simp] theorem W_ownM {i:Nat} {h:List D->List D->Option (List D)} {g:M (List D)} {Q:Out->T->Prop}:W (ownM i h g) t Q↔(∃xs,t.env[i]?=some (some (.own xs)))/\W g t λds t1=>∃xs,t1.env[i]?=some (some (.own xs))/\∃ys,h xs ds=some ys/\Q .next ⟨t1.env.set i (some (.own ys)),t1.S⟩:=by
 constructor
 ·rintro ⟨o,t',e,p⟩;unfold ownM at e
  split at e
  ·next xs e0=>
   refine ⟨⟨xs,e0⟩,?_⟩;obtain ⟨ds,t1,e1,e⟩:=Ag e;refine ⟨ds,t1,e1,?_⟩
   split at e
   ·next ys e2=>
    obtain ⟨zs,e3,e4⟩:=Option.map_eq_some_iff.mp e
    cases e4
    exact ⟨ys,e2,zs,e3,p⟩
   ·cases e
  ·cases e
 ·rintro ⟨⟨xs,e0⟩,ds,t1,e1,ys,e2,zs,e3,p⟩;exact ⟨_,_,by unfold ownM bnd;simp only [e0,e1,e2,e3,Option.map_some],p⟩
@[simp] theorem app1_one {xs:List D} {d:D} {ys:List D}:BR xs [d]=some ys↔xs.length < LIM/\xs++[d]=ys:=by
 unfold BR;split <;> simp [*]
@[simp] theorem W_stD {f g:M D} {d:D} {Q:Unit->T->Prop}:W (stD f g d) t Q↔W f t λo t1=>W g t1 λi t2=>W (Fr o i d) t2 Q:=by simp [stD]
@[simp] theorem W_stOb {k:Nat} {j:Int} {d:D} {Q:Unit->T->Prop}:W (Fr (.obj k) (.int j) d) t Q↔∃xs,t.S[k]?=some (.lst xs)/\∃n,ixN xs.length j=some n/\Q () ⟨t.env,t.S.set k (.lst (xs.set n d))⟩:=by
 cases e:t.S[k]? with
 | none=>rw [CQ (by simp only [Fr,e])];simp
 | some o=>
   cases o with
   | dct _ | ins _ _=>rw [CQ (by simp only [Fr,e])];simp
   | lst ds=>
     have:Fr (.obj k) (.int j) d t=(ixN ds.length j).map λn=>((),{ t with S:=t.S.set k (.lst (ds.set n d)) }):=by simp only [Fr,e]
     rw [HU this];simp
end F2
namespace F2
open PySem L2
variable {t:T}{P:D->T->Prop}{Q:List D->T->Prop}{R:Out->T->Prop}{B:Bool->T->Prop}{U:Unit->T->Prop}
def Es (k:Bool)(A B:Prop):Prop:=if k=true then A else B
theorem Du {k:Bool}{A B:Prop}(h:k=true)(a:A):Es k A B:=by unfold Es;rw [if_pos h];exact a
theorem B0 {k:Bool}{A B:Prop}(h:k=false)(b:B):Es k A B:=by unfold Es;rw [if_neg (by rw [h];exact Bool.false_ne_true)];exact b
theorem V8 {k:Bool}{A B:Prop}(a:k=true->A)(b:k=false->B):Es k A B:=by cases h:k with
 | true=>exact Du rfl (a h)
 | false=>exact B0 rfl (b h)
def HD (g:M Out)(R:Out->T->Prop)(o:Out)(t1:T):Prop:=match o with
 | .next=>W g t1 R
 | o=>R o t1
variable {t1:T}
theorem B3 {g:M Out}(h:W g t1 R):HD g R .next t1:=h
theorem Lw {g:M Out}{d:D}(h:R (.ret d) t1):HD g R (.ret d) t1:=h
theorem N9 {f g:M Out}(h:W f t (HD g R)):W (Ah f g) t R:=W_seqS.mpr (h.mono λo t1 h1=>by cases o <;> exact h1)
theorem Y1 (h:R .next t):W Aw t R:=W_skipS.mpr h
variable {f:M D}
theorem ak (h:W f t λd t1=>R (.ret d) t1):W (Au f) t R:=W_retS.mpr h
theorem YH (h:W f t λd t1=>R .next t1):W (GM f) t R:=W_dropS.mpr h
theorem wIf {f:M Bool}{g h:M Out}(w:W f t λk t1=>Es k (W g t1 R) (W h t1 R)):W (ifS f g h) t R:=W_ifS.mpr w
theorem al {i:Nat}(h:W f t λd t1=>R .next ⟨t1.env.set i (some (.val d)),t1.S⟩):W (Ap i f) t R:=W_setS.mpr h
theorem ai {i:Nat}{f:M (List D)}(h:W f t λd t1=>R .next ⟨t1.env.set i (some (.own d)),t1.S⟩):W (B9 i f) t R:=W_ownS.mpr h
theorem ZW {g:D->M Unit}(h:W f t λd t1=>W (g d) t1 λ_ t2=>R .next t2):W (A4 f g) t R:=W_asgS.mpr h
theorem ZY {f:M (List D)}{st:D->M Unit}{b:M Out}(h:W f t λds t1=>W (BL st b ds) t1 R):W (Ci f st b) t R:=W_forS.mpr h
theorem wC {d:D}(h:P d t):W (fC d) t P:=W_fC.mpr h
theorem Ea {i:Nat}{d:D}(e:t.env[i]?=some (some (.val d)))(h:P d t):W (Ab i) t P:=by rw [Om,e];exact h
variable {ds:List D}
theorem Y5 {i:Nat}(e:t.env[i]?=some (some (.own ds)))(h:P (.lst ds) ⟨t.env.set i (some (.val (.lst ds))),t.S⟩):W (Ab i) t P:=by rw [Om,e];exact h
variable {g:M D}
theorem Js {h:D->D->M D}(w:W f t λx t1=>W g t1 λy t2=>W (h x y) t2 P):W (Ac f g h) t P:=W_fBin.mpr w
theorem wUn {h:D->M D}(w:W f t λx t1=>W (h x) t1 P):W (fUn f h) t P:=W_fUn.mpr w
theorem Ca {α β:Type}{f:M α}{g:α->M β}{K:β->T->Prop}(w:W f t λx t1=>W (g x) t1 K):W (bnd f g) t K:=W_bnd.mpr w
theorem Oa {b:Bool}(h:B b t):W (toB (.bl b)) t B:=W_toB.mpr h
theorem Oc (h:W f t λx t1=>W (toB x) t1 B):W (Ak f) t B:=W_fTst.mpr h
theorem Xl {w:M D}{h h':D->D->M D}(q:W f t λx t1=>W g t1 λy t2=>W (h x y) t2 λk t3=>W (toB k) t3 λk t4=>Es k (W w t4 λz t5=>W (h' y z) t5 P) (P (.bl false) t4)):W (ET f g w h h') t P:=W_fChain.mpr q
theorem ZS {f g:M Bool}(h:W f t λk t1=>Es k (W g t1 B) (B false t1)):W (CV f g) t B:=W_fAnd.mpr h
theorem wOr {f g:M Bool}(h:W f t λk t1=>Es k (B true t1) (W g t1 B)):W (fOr f g) t B:=W_fOr.mpr h
theorem af {f:M Bool}(h:W f t λk t1=>B (!k) t1):W (D1 f) t B:=W_fNot.mpr h
theorem YB (h:W f t λx t1=>W (toB x) t1 λk t2=>Es k (W g t2 P) (P (.bl false) t2)):W (FM f g) t P:=W_fAndV.mpr h
theorem R8 (h:W f t λx t1=>W (toB x) t1 λk t2=>Es k (P (.bl true) t2) (W g t2 P)):W (Jb f g) t P:=W_fOrV.mpr h
theorem Z4 {f:M Bool}{h:M D}(w:W f t λk t1=>Es k (W g t1 P) (W h t1 P)):W (fIf f g h) t P:=W_fIf.mpr w
theorem HJ (h:Q [] t):W Ad t Q:=W_fNil.mpr h
theorem Dq {g:M (List D)}(h:W f t λd t1=>W g t1 λds t2=>Q (d :: ds) t2):W (Aa f g) t Q:=W_fCons.mpr h
def FW (n:Nat)(A:Prop):Prop:=n<=LIM/\A
variable {n:Nat}
theorem Bn {A:Prop}(h:n<=LIM)(a:A):FW n A:=⟨h,a⟩
theorem ar {f:M (List D)}(h:W f t λds t1=>FW ds.length (P (.tup ds) t1)):W (AL f) t P:=W_fTup.mpr h
theorem aa {f:M (List D)}(h:W f t λds t1=>FW ds.length (Q ds t1)):W (AI f) t Q:=W_fLst.mpr h
theorem YX {f:M (List D)}(h:W f t λds t1=>P (.lst ds) t1):W (Av f) t P:=W_fPure.mpr h
theorem ag {f:M (List D)}(h:W f t λds t1=>P (.obj t1.S.length) ⟨t1.env,t1.S++[.lst ds]⟩):W (FN f) t P:=by rw [Vk];exact h.mono λds t1 h=>W_newOb.mpr h
theorem IK {g:Fn}{f:M (List D)}(h:W f t λds t1=>Wf g ds t1.S λr S'=>P r ⟨t1.env,S'⟩):W (Af g f) t P:=W_fCall.mpr h
theorem wB {f:M (List D)}{h:List D->M D}(w:W f t λds t1=>W (h ds) t1 P):W (fB f h) t P:=W_fB.mpr w
theorem wBF {f:M (List D)}{h:List D->M (List D)}(w:W f t λds t1=>W (h ds) t1 Q):W (fBF f h) t Q:=W_fBF.mpr w
theorem C8 {i:Nat}{d:D}(h:U () ⟨t.env.set i (some (.val d)),t.S⟩):W (Al i d) t U:=W_putV.mpr h
theorem U5 (h:U () t):W (Bl []) t U:=W_putNil.mpr h
theorem R9 {f:D->M Unit}{g:List D->M Unit}{d:D}(h:W (f d) t λ_ t1=>W (g ds) t1 U):W (Ar f g (d :: ds)) t U:=W_putCons.mpr h
theorem au {g:List D->M Unit}(e:ds.length=n)(h:W (g ds) t U):W (unS n g (.tup ds)) t U:=W_unS_tup.mpr ⟨e,h⟩
theorem YG {fr:List Nat}{f:M (List D)}{st:D->M Unit}{tst:M Bool}{elt:M D}(h:W f t λds t1=>W (Bf st tst elt ds) ⟨cenv n fr t1.env,t1.S⟩ λxs t'=>FW xs.length (Q xs ⟨t1.env,t'.S⟩)):W (AM n fr f st tst elt) t Q:=W_fComp.mpr h
theorem Ez (h:B true t):W Bc t B:=W_tTru.mpr h
variable {i:Int}
theorem Jt {d:D}(e:atI ds i=some d)(h:P d t):W (ixD (.tup ds) (.int i)) t P:=W_ix_tup.mpr ⟨d,e,h⟩
theorem Be {d:D}(e:atI ds i=some d)(h:P d t):W (ixD (.lst ds) (.int i)) t P:=W_ix_lst.mpr ⟨d,e,h⟩
theorem YM (h:P (.int ds.length) t):W (AF [.lst ds]) t P:=W_len_lst.mpr h
theorem YQ (h:P (.int ds.length) t):W (AF [.tup ds]) t P:=W_len_tup.mpr h
theorem YN {ds:List Int}(h:P (.int ds.length) t):W (AF [.scr ds]) t P:=W_len_scr.mpr h
variable {x:Str}
theorem YO (e:x.length<=LIM)(h:P (.int x.length) t):W (AF [.str x]) t P:=W_len_str.mpr ⟨e,h⟩
theorem Z5 {x:D}(h:P (.bl (FV x)) t):W (isC x .non) t P:=W_is_non.mpr h
theorem Xt {x y:D}(h:W (isC x y) t λd t1=>W (toB d) t1 λb t2=>P (.bl (!b)) t2):W (Eh x y) t P:=W_isNot.mpr h
variable {j:Int}
theorem Yy (h:P (.int (i + j)) t):W (AB (.int i) (.int j)) t P:=W_add_int.mpr h
theorem Y2 (h:P (.int (i - j)) t):W (BK (.int i) (.int j)) t P:=W_sub_int.mpr h
theorem ac (h:P (.bl (decide (i < j))) t):W (ltA (.int i) (.int j)) t P:=W_lt_int.mpr h
theorem Z9 (h:P (.bl (decide (i<=j))) t):W (leA (.int i) (.int j)) t P:=W_le_int.mpr h
theorem Z0 (h:P (.bl (decide (j < i))) t):W (gtA (.int i) (.int j)) t P:=W_gt_int.mpr h
theorem ZZ (h:P (.bl (decide (j<=i))) t):W (geA (.int i) (.int j)) t P:=W_ge_int.mpr h
theorem ae (h:P (.int (-i)) t):W (NK (.int i)) t P:=W_neg.mpr h
theorem Xm (h1:0 < j)(h2:j < 1073741824)(h:P (.int (i / j)) t):W (EB (.int i) (.int j)) t P:=W_fdiv.mpr ⟨⟨h1,h2⟩,h⟩
theorem R7 (h1:0 < j)(h:P (.int (i % j)) t):W (DW (.int i) (.int j)) t P:=W_mod.mpr ⟨h1,h⟩
theorem aj (h1:Ka i j=true)(h:P (.int (i ^ j.toNat)) t):W (GA (.int i) (.int j)) t P:=W_pow.mpr ⟨h1,h⟩
theorem Ee (h1:EF i j=true)(h:P (.int (i * j)) t):W (Ex (.int i) (.int j)) t P:=W_mul_int.mpr ⟨h1,h⟩
theorem YA {y:Str}(h:FW (x.length + y.length) (P (.str (x++y)) t)):W (AB (.str x) (.str y)) t P:=W_add_str.mpr h
theorem Yz {x y:List D}(h:FW (x.length + y.length) (P (.lst (x++y)) t)):W (AB (.lst x) (.lst y)) t P:=W_add_lst.mpr h
theorem ZX {x y:List D}(h:FW (x.length + y.length) (Q (x++y) t)):W (Ho (.lst x) (.lst y)) t Q:=W_cat.mpr h
theorem ad (h:P (.int (if j < i then j else i)) t):W (Ew [.int i,.int j]) t P:=W_min.mpr h
theorem YJ {i:Bool}(h:P (.int (if i then 1 else 0)) t):W (FT [.bl i]) t P:=W_int_bl.mpr h
theorem ah (e:x.length=1)(h:P (.int (x.cps.getD 0 0:Nat)) t):W (Jh [.str x]) t P:=W_ord.mpr ⟨e,h⟩
theorem Y3 (h:P (.tup ds) t):W (Jr [.lst ds]) t P:=W_tup_lst.mpr h
theorem YR (h:Q ds t):W (Dx [.lst ds]) t Q:=W_lst_lst.mpr h
theorem R6 {g:Bool->Bool}{y:Str}(h:P (.bl (g (x == y))) t):W (eqS g (.str x) (.str y)) t P:=W_eq_str.mpr h
theorem Xp {g:Bool->Bool}{x y:Int}(h:P (.bl (g (x == y))) t):W (eqS g (.int x) (.int y)) t P:=W_eq_int.mpr h
theorem Xq {g:Bool->Bool}{x:List D}(h:P (.bl (g x.isEmpty)) t):W (eqS g (.lst x) (.lst [])) t P:=W_eq_nil.mpr h
theorem ao {lo hi:Option Int}(h:P (.lst (BZ ds lo hi)) t):W (Dk (.lst ds) lo hi) t P:=W_sl_lst.mpr h
theorem wSl {l u:M (Option Int)}{h:D->Option Int->Option Int->M D}(w:W f t λx t1=>W l t1 λlo t2=>W u t2 λhi t3=>W (h x lo hi) t3 P):W (fSl f l u h) t P:=W_fSl.mpr w
variable {K:Option Int->T->Prop}
theorem wNo (h:K none t):W fNo t K:=W_fNo.mpr h
theorem ZV (h:K (some i) t):W (asI (.int i)) t K:=W_asI.mpr h
theorem YW (h:W f t λx t1=>W (asI x) t1 K):W (Db f) t K:=W_fPart.mpr h
theorem Z6 (h:W f t λx t1=>W (Dm x) t1 Q):W (Dt f) t Q:=W_fItA.mpr h
theorem Z7 (h:Q ds t):W (Dm (.lst ds)) t Q:=W_it_lst.mpr h
theorem Z8 (h:Q (x.cps.toList.map λc=>.str ⟨#[c]⟩) t):W (Dm (.str x)) t Q:=W_it_str.mpr h
theorem YY {f:M (List D)}(h:W f t λx t1=>W (Jm x) t1 Q):W (Bm f) t Q:=W_fRng1.mpr h
theorem YZ {f:M (List D)}(h:W f t λx t1=>W (Jn x) t1 Q):W (FO f) t Q:=W_fRng2.mpr h
theorem DZ (e:BE j=true)(h:Q (AJ 0 j.toNat) t):W (Jm [.int j]) t Q:=W_rng1.mpr ⟨e,h⟩
theorem Xw (e:(BE i && BE j)=true)(h:Q (AJ i (j - i).toNat) t):W (Jn [.int i,.int j]) t Q:=W_rng2.mpr ⟨e,h⟩
theorem YV {i:Nat}{xs:List D}{h:List D->List D->Option (List D)}{g:M (List D)}(e:t.env[i]?=some (some (.own xs)))(w:W g t λds t1=>∃xs,t1.env[i]?=some (some (.own xs))/\∃ys,h xs ds=some ys/\R .next ⟨t1.env.set i (some (.own ys)),t1.S⟩):W (ownM i h g) t R:=W_ownM.mpr ⟨⟨xs,e⟩,w⟩
theorem ZU {i:Nat}{xs:List D}{d:D}{A:List D->Prop}(e:t1.env[i]?=some (some (.own xs)))(w:FW (xs.length + 1) (A (xs++[d]))):∃xs,t1.env[i]?=some (some (.own xs))/\∃ys,BR xs [d]=some ys/\A ys:=
 ⟨xs,e,_,app1_one.mpr ⟨w.1,rfl⟩,w.2⟩
theorem ap {d:D}(h:W f t λo t1=>W g t1 λi t2=>W (Fr o i d) t2 U):W (stD f g d) t U:=W_stD.mpr h
end F2
namespace F2
open PySem L2
variable {i:Nat}{g:Fn}{d':D}
section
variable {t:T}{P:D->T->Prop}{B:Bool->T->Prop}{Q:List D->T->Prop}
theorem Y4 {n:Int}{ds:List D}{d:D}(e:t.env[i]?=some (some (.val (.tup ds))))(a:atI ds n=some d)(h:P d t):W (Ac (Ab i) (fC (.int n)) ixD) t P:=Js (Ea e (wC (Jt a h)))
theorem YL {x y:Str}{ds:List D}{g:Bool->Bool}(e:t.env[i]?=some (some (.val (.tup (.str y :: ds)))))(h:B (g (y == x)) t):W (Ak (Ac (Ac (Ab i) (fC (.int 0)) ixD) (fC (.str x)) (eqS g))) t B:=Oc (Js (Js (Ea e (wC (Jt JX (wC (R6 (Oa h))))))))
theorem XA {x y:Str}{g:Bool->Bool}(e:t.env[i]?=some (some (.val (.str y))))(h:B (g (y == x)) t):W (Ak (Ac (Ab i) (fC (.str x)) (eqS g))) t B:=Oc (Js (Ea e (wC (R6 (Oa h)))))
theorem Xz {x y:Int}{g:Bool->Bool}(e:t.env[i]?=some (some (.val (.int y))))(h:B (g (y == x)) t):W (Ak (Ac (Ab i) (fC (.int x)) (eqS g))) t B:=Oc (Js (Ea e (wC (Xp (Oa h)))))
theorem U1 {d:D}(e:t.env[i]?=some (some (.val d)))(h:Wf g [d] t.S λr S'=>P r ⟨t.env,S'⟩):W (Af g (Aa (Ab i) Ad)) t P:=IK (Dq (Ea e (HJ h)))
theorem U2 {j:Nat}{d:D}(e:t.env[i]?=some (some (.val d)))(e':t.env[j]?=some (some (.val d')))(h:Wf g [d,d'] t.S λr S'=>P r ⟨t.env,S'⟩):W (Af g (Aa (Ab i) (Aa (Ab j) Ad))) t P:=IK (Dq (Ea e (Dq (Ea e' (HJ h)))))
theorem U4 {d:D}(e:t.env[i]?=some (some (.val d)))(h:Wf g [d,d'] t.S λr S'=>P r ⟨t.env,S'⟩):W (Af g (Aa (Ab i) (Aa (fC d') Ad))) t P:=IK (Dq (Ea e (Dq (wC (HJ h)))))
theorem U3 {j k:Nat}{d d'':D}(e:t.env[i]?=some (some (.val d)))(e':t.env[j]?=some (some (.val d')))(e'':t.env[k]?=some (some (.val d'')))(h:Wf g [d,d',d''] t.S λr S'=>P r ⟨t.env,S'⟩):W (Af g (Aa (Ab i) (Aa (Ab j) (Aa (Ab k) Ad)))) t P:=IK (Dq (Ea e (Dq (Ea e' (Dq (Ea e'' (HJ h)))))))
end
end F2
set_option maxHeartbeats 4000000
namespace LW
open PySem L2 F2
local macro_rules | `(tactic| clear 31 $t*)=>`(tactic| with_reducible first $[| refine $t ?_]*)
local macro_rules | `(tactic| clear 32 $t*)=>`(tactic| ((with_reducible first $[| refine' $t ?wv ?_]*);(case wv=>exact rfl)))
local macro_rules | `(tactic| clear 33 $t*)=>`(tactic| ((with_reducible first $[| refine' $t ?wv ?_]*);(case wv=>decide)))
local macro_rules | `(tactic| walk_at "w1")=>`(tactic| first
 | clear 32 YL | ((with_reducible refine' Y4 ?wv ?wu ?_);(case wv=>exact rfl);(case wu=>first | exact rfl | exact JX | exact Nb | exact Nc)) | clear 32 XA | clear 32 Xz
 | clear 32 U1 | ((with_reducible refine' U2 ?wv ?wu ?_);(case wv=>exact rfl);(case wu=>exact rfl)) | clear 32 U4 | ((with_reducible refine' U3 ?wv ?wu ?wt ?_);(case wv=>exact rfl);(case wu=>exact rfl);(case wt=>exact rfl))
 | clear 31 N9 B3 Lw al Js wC
 | clear 32 Ea | clear 31 Dq HJ wIf Oc Oa ak IK
 | ((with_reducible refine' Jt ?wv ?_);(case wv=>first | exact rfl | exact JX | exact Nb | exact Nc)) | ((with_reducible refine' Be ?wv ?_);(case wv=>first | exact rfl | exact JX | exact Nb | exact Nc)) | clear 31 R6 Xp wEqB Yy Y2
 | clear 31 Y1 wB wBF YX ar aa | ((with_reducible refine Bn ?wv ?_);(case wv=>exact Nat.le_of_ble_eq_true rfl)) | clear 31 ag ZW ZY
 | clear 32 Du | clear 32 B0 | clear 31 ZS wOr af YB R8 wNotV Z4 Xl
 | clear 32 Y5 | clear 31 wUn ae Z5 wIsB Xt
 | clear 31 ac Z9 Z0 ZZ wLtS wGtS
 | clear 31 YM YQ YN | ((with_reducible refine' wIsi ?wv ?wu ?_);(case wv=>exact rfl);(case wu=>exact rfl))
 | clear 33 aj | ((with_reducible refine Xm ?wv ?wu ?_);(case wv=>decide);(case wu=>decide)) | clear 33 R7
 | clear 31 wAbs ad wMax wInt YJ Y3 YR wLstT
 | clear 31 YA Yz ZX Xq
 | clear 31 wSl wNo YW ZV ao wSlR wSlS wSlT
 | clear 31 Z6 Z7 wItT wItR Z8 YY YZ | clear 33 DZ | clear 33 Xw
 | clear 31 C8 U5 R9 | clear 32 wUnL | clear 32 au | clear 31 YG Ez wDic ai Ca YH
 | clear 32 YV | clear 32 ZU | clear 31 ap)
local macro_rules | `(tactic| right)=>`(tactic| repeat (walk_at "w1"))
structure DeckAt (k c:Nat)(S:List Ob):Prop where
 ne:k≠c
 at_:∃(cells:List Int) (par pos:Int),S[k]?=some (.lst [.obj c,.int par,.int pos])/\S[c]?=some (.lst (cells.map .int))/\cells≠[]/\0<=pos
def aO (k c:Nat)(S S':List Ob):Prop:=S'.length=S.length/\∀j:Nat,j≠k->j≠c->S'[j]?=S[j]?
variable {n:Nat}
theorem BQ {i:Int}(h0:0<=i)(h1:i < n):ixN n i=some i.toNat:=by simp [ixN,h0,h1]
variable {S:List Ob}{o:Ob}
theorem Tq {k:Nat}{o':Ob}(h:S[k]?=some o):(S.set k o')[k]?=some o':=by
 obtain ⟨hl,_⟩:=List.getElem?_eq_some_iff.mp h;exact List.getElem?_set_self hl
inductive Sh where
 | nothing | number (lo hi:Int) | text (m:Int) | list (s:Sh) (m:Int) | pair (s r:Sh) | choice (ss:List Sh)
mutual
noncomputable def Sh.d:Sh->D
 | .nothing=>.tup [.str "nothing"]
 | .number lo hi=>.tup [.str "number",.int lo,.int hi]
 | .text m=>.tup [.str "text",.int m]
 | .list s m=>.tup [.str "list",s.d,.int m]
 | .pair s r=>.tup [.str "pair",s.d,r.d]
 | .choice ss=>.tup [.str "choice",.tup (shD ss)]
noncomputable def shD:List Sh->List D
 | []=>[]
 | s :: r=>s.d :: shD r
end
mutual
noncomputable def Sh.depth:Sh->Nat
 | .nothing=>1
 | .number _ _=>1
 | .text _=>1
 | .list s _=>s.depth + 1
 | .pair s r=>max s.depth r.depth + 1
 | .choice ss=>EH ss + 1
noncomputable def EH:List Sh->Nat
 | []=>0
 | s :: r=>max s.depth (EH r)
end
theorem FC:∀ss:List Sh,(shD ss).length=ss.length
 | []=>rfl
 | s :: r=>by simp [shD,FC r]
theorem G0:∀(ss:List Sh) (k:Nat),(shD ss)[k]?=(ss[k]?).map Sh.d
 | [],k=>by simp [shD]
 | s :: r,0=>by simp [shD]
 | s :: r,k + 1=>by simp [shD,G0 r k]
theorem DL:∀(ss:List Sh) (k:Nat) (s:Sh),ss[k]?=some s->s.depth<=EH ss
 | [],k,s,h=>by simp at h
 | s :: r,0,s',h=>by simp at h;subst h;simp [EH];lia
 | s :: r,k + 1,s',h=>by
   have:=DL r k s' (by simpa using h);simp [EH];lia
theorem Sh.depth_pos (s:Sh):1<=s.depth:=by cases s <;> simp [Sh.depth]
noncomputable def BJ (n:Nat):Bool:=decide (32<=n) && decide (n<=126) && decide (n≠37)
noncomputable def V3:Str->Bool:=λo=>o == ("of" : Str)
mutual
def AA:Sh->D->Bool
 | .nothing,d=>FV d
 | .number lo hi,d=>match d with
   | .int i=>decide (lo<=i) && decide (i<=hi)
   | _=>false
 | .text m,d=>match d with
   | .str x=>decide ((x.length:Int)<=m) && x.cps.toList.all BJ
   | _=>false
 | .list s m,d=>match d with
   | .lst ds=>decide ((ds.length:Int)<=m) && ds.all λe=>AA s e
   | _=>false
 | .pair s r,d=>match d with
   | .tup [a,b]=>AA s a && AA r b
   | _=>false
 | .choice ss,d=>match d with
   | .tup [.str o,.int k,x]=>V3 o && (decide (0<=k) && decide (k < ss.length)) && Il ss k.toNat x
   | _=>false
def Il:List Sh->Nat->D->Bool
 | [],_,_=>false
 | s :: _,0,d=>AA s d
 | _ :: r,k + 1,d=>Il r k d
end
theorem DH:∀(ss:List Sh) (k:Nat) (s:Sh) (d:D),ss[k]?=some s->Il ss k d=AA s d
 | [],k,s,d,h=>by simp at h
 | s :: r,0,s',d,h=>by simp at h;subst h;simp [Il]
 | s :: r,k + 1,s',d,h=>by rw [Il];exact DH r k s' d (by simpa using h)
mutual
noncomputable def okD:D->Bool
 | .str x=>decide (x.length<=90000)
 | .tup xs=>oks xs
 | .lst xs=>oks xs
 | .obj _=>false
 | .scr _=>false
 | .exc _ _=>false
 | .ty _=>false
 | _=>true
noncomputable def oks:List D->Bool
 | []=>true
 | d :: r=>okD d && oks r
end
abbrev Pure1 (f:Fn)(ds:List D)(r:D):Prop:=∀S,Wf f ds S λv S'=>v=r/\S'=S
variable {ds:List D}{r:D}
theorem Pure1.use {f:Fn}(h:Pure1 f ds r){S:List Ob}{P:D->List Ob->Prop}(p:P r S):Wf f ds S P:=(h S).mono λ_ _ ⟨e1,e2⟩=>by subst e1 e2;exact p
def Kh (f:Fn):Prop:=∀n:Nat,Pure1 f [.int n] (.bl (BJ n))
theorem Nz:Kh (fnOf 1 1 Gq):=by
 intro n S;refine Ax rfl ?_;unfold Gq;right;have c1:decide ((32:Int)<=n)=decide (32<=n):=decide_eq_decide.mpr (by lia);have c2:decide ((n:Int)<=126)=decide (n<=126):=decide_eq_decide.mpr (by lia);have c3:(!((n:Int) == 37))=decide (n≠37):=by
  by_cases h:n=37
  ·subst h;rfl
  ·have:¬((n:Int)=37):=by lia
   simp [h,this]
 rw [c1];refine V8 (λe=>?_) λe=>?_
 ·right;rw [c2];refine V8 (λe'=>?_) λe'=>?_
  ·right;exact ⟨by simp only [BJ,e,e',c3,Bool.true_and],rfl⟩
  ·exact ⟨by simp only [BJ,e,e',Bool.false_and,Bool.and_false],rfl⟩
 ·right;exact ⟨by simp only [BJ,e,Bool.false_and],rfl⟩
theorem Fe (x:Str):x.length=x.cps.toList.length:=by simp [Str.length]
theorem Ju (x y:Str):(x++y).cps.toList=x.cps.toList++y.cps.toList:=by
 show (x.cps++y.cps).toList=_;simp
variable {elt:M D}
theorem Ol {f:D->D}{fr:List (Option Sl)}{z:Option Sl}(h:∀d∈ds,W elt ⟨some (.val d) :: fr,S⟩ λx t'=>x=f d/\t'=⟨some (.val d) :: fr,S⟩) :
 W (Bf (Al 0) Bc elt ds) ⟨z :: fr,S⟩ λxs t'=>xs=ds.map f/\t'.S=S:=by
 refine (F9 (P:=λxs t'=>xs=ds.map f/\t'.S=S) (λacc r t=>acc++r.map f=ds.map f/\∃z,t=⟨z :: fr,S⟩) ds [] _ ⟨rfl,z,rfl⟩ ?_ ?_).mono λxs t' h=>h
 ·rintro acc d r t ⟨h1,z,rfl⟩ hm;refine C8 (Ez ?_);rw [if_pos rfl];refine (h d hm).mono λx t' z9=>?_;obtain ⟨e1,e2⟩:=z9;subst e1 e2;exact ⟨by rw [List.append_assoc];exact h1,_,rfl⟩
 ·rintro acc t ⟨h1,z,rfl⟩;exact ⟨by simpa using h1,rfl⟩
mutual
noncomputable def sz:D->Nat
 | .tup xs=>szs xs + 1
 | .lst xs=>szs xs + 1
 | _=>1
noncomputable def szs:List D->Nat
 | []=>0
 | d :: r=>sz d + szs r
end
theorem UU {x y:Str}(h:x.cps.toList=y.cps.toList):x=y:=by
 cases x;cases y
 congr
 exact Array.toList_inj.mp h
mutual
noncomputable def wf:Sh->Bool
 | .nothing=>true
 | .number lo hi=>decide (-1000000000000000000 < lo) && decide (lo<=hi) && decide (hi < 1000000000000000000)
 | .text m=>decide (0<=m) && decide (m<=250)
 | .list s m=>decide (0<=m) && decide (m<=250) && wf s
 | .pair s r=>wf s && wf r
 | .choice ss=>decide (1<=ss.length) && decide (ss.length<=9) && wfs ss
noncomputable def wfs:List Sh->Bool
 | []=>true
 | s :: r=>wf s && wfs r
end
mutual
noncomputable def cnt:Sh->Nat
 | .list s _=>cnt s + 1
 | .pair s r=>cnt s + cnt r + 1
 | .choice ss=>Vr ss + 1
 | _=>1
noncomputable def Vr:List Sh->Nat
 | []=>0
 | s :: r=>cnt s + Vr r
end
theorem Eb:∀{ss:List Sh},wfs ss=true->∀s∈ss,wf s=true
 | x :: r,h,s,m=>by
   rw [wfs,Bool.and_eq_true] at h;rcases List.mem_cons.mp m with z | z
   ·subst z;exact h.1
   ·exact Eb h.2 s z
theorem Qa:∀{ss:List Sh},(∀s∈ss,wf s=true)->wfs ss=true
 | [],_=>rfl
 | x :: r,h=>by rw [wfs,h x List.mem_cons_self,Qa λs m=>h s (List.mem_cons_of_mem _ m)];rfl
theorem Ly:∀ss:List Sh,shD ss=ss.map Sh.d
 | []=>rfl
 | s :: r=>by rw [shD,Ly r];rfl
theorem GC:∀{ss:List Sh} {s:Sh},s∈ss->s.depth<=EH ss
 | x :: r,s,m=>by
   rw [EH];rcases List.mem_cons.mp m with z | z
   ·subst z;lia
   ·have:=GC z;lia
variable {xs:List D}
theorem Gy {i:Int}(h0:0<=i)(h1:i < xs.length){p:D->Prop}(h:∀d∈xs,p d):∃d,atI xs i=some d/\p d:=by
 obtain ⟨d,e,m,_⟩:=LZ h0 h1;exact ⟨d,e,h d m⟩
def M0 (k c l:Nat)(S S':List Ob):Prop:=S'.length=S.length/\∀j:Nat,j≠k->j≠c->j≠l->S'[j]?=S[j]?
noncomputable def N1 (deep:Int):Int:=if deep < 2 then 0 else 2 * deep + 4
def bd (deep x:Int):Int:=if deep < 2 then 1 else max x 1 + N1 deep - (if deep + 1<=x then 1 else 0)
def tb (deep y i:Int):Int:=if deep=2 then i else if i=0 then 0 else y + N1 (deep - 1) + i - 1 - (if deep<=y then 1 else 0)
structure ShapeRes (k c l:Nat)(S:List Ob)(deep x:Int)(s:Sh)(S':List Ob):Prop where
 w:wf s=true
 dep:(s.depth:Int)<=max deep 1
 lft:S'[l]?=some (.lst [.int (x - cnt s)])
 one:x<=1->cnt s=1
 few:(cnt s:Int)<=max x 1 + N1 deep
 deck:DeckAt k c S'
 kp:M0 k c l S S'
 few2:(cnt s:Int)<=bd deep x
def signs94:Str:=" !\"#$&'()*+,-./0123456789:;<=>?@ABCDEFGHIJKLMNOPQRSTUVWXYZ[\\]^_`abcdefghijklmnopqrstuvwxyz{|}~"
theorem RW {i:Int}(h0:0<=i)(h1:i < 94):∃n,atI signs94.cps.toList i=some n/\BJ n=true:=by
 have hl:signs94.cps.toList.length=94:=by decide +kernel
 have ha:signs94.cps.toList.all BJ=true:=by decide +kernel
 obtain ⟨n,e,m,_⟩:=LZ (xs:=signs94.cps.toList) h0 (by rw [hl];exact h1);exact ⟨n,e,List.all_eq_true.mp ha n m⟩
structure Sep (ks:List (Nat×Nat)):Prop where
 sep:∀p∈ks,∀q∈ks,p=q\/(q.1≠p.1/\q.1≠p.2/\q.2≠p.1/\q.2≠p.2)
mutual
noncomputable def dpt:D->Nat
 | .lst ds=>Qv ds + 1
 | .tup ds=>Qv ds + 1
 | _=>1
noncomputable def Qv:List D->Nat
 | []=>0
 | d :: r=>max (dpt d) (Qv r)
end
mutual
noncomputable def smD:D->Bool
 | .str x=>decide (x.length<=300)
 | .int i=>decide (-1000000000000000000000000 < i) && decide (i < 1000000000000000000000000)
 | .tup xs=>decide (xs.length<=300) && sms xs
 | .lst xs=>decide (xs.length<=300) && sms xs
 | .obj _=>false
 | .scr _=>false
 | .ty _=>false
 | .exc _ _=>false
 | _=>true
noncomputable def sms:List D->Bool
 | []=>true
 | d :: r=>smD d && sms r
end
theorem Eg {f:D->D->Option Bool}:∀{xs:List D},(∀d∈xs,f d d=some true)->CT f xs xs=some true
 | [],_=>rfl
 | x :: r,h=>by
   rw [CT,h x List.mem_cons_self,Eg λd m=>h d (List.mem_cons_of_mem _ m)];rfl
theorem Lz:∀{ss:List Sh} {d:D},d∈shD ss->∃s∈ss,d=s.d
 | s :: r,d,h=>by
   rw [shD] at h;rcases List.mem_cons.mp h with rfl | h
   ·exact ⟨s,List.mem_cons_self,rfl⟩
   ·obtain ⟨s',h1,h2⟩:=Lz h;exact ⟨s',List.mem_cons_of_mem _ h1,h2⟩
variable {f:M D}{t:T}{P:D->T->Prop}
theorem YK {g:M (List D)}(h:W f t λo t1=>W g t1 λas t2=>∃z ds ys,o = .str z/\as=[.lst ds]/\E9 ds=some ys/\(z.length<=8/\ys.length<=1048576)/\P (.str (Txt.join z ys)) t2):W (joinM f g) t P:=by
 refine Ca (h.mono λo t1 h1=>Ca (h1.mono λas t2 h2=>?_));obtain ⟨z,ds,ys,rfl,rfl,e,hl,p⟩:=h2;refine ⟨_,_,?_,p⟩;simp only [e];rw [if_pos hl]
theorem GG:∀ns:List Nat,E9 (ns.map λn=>D.str ⟨#[n]⟩)=some (ns.map λn=>(⟨#[n]⟩:Str))
 | []=>rfl
 | n :: r=>by
   rw [List.map_cons,E9,if_pos (Nat.le_of_ble_eq_true rfl),GG r];rfl
theorem Ir:∀(ns:List Nat) (acc:Array Nat),((ns.map λn=>(⟨#[n]⟩:Str)).foldl (λacc p=>acc++(Str.ofString "").cps++p.cps) acc).toList=acc.toList++ns
 | [],acc=>by simp
 | n :: r,acc=>by
   have e:(Str.ofString "").cps=#[]:=by decide +kernel
   rw [List.map_cons,List.foldl_cons,Ir r,e];simp
theorem Iv (ns:List Nat):(Txt.join (Str.ofString "") (ns.map λn=>(⟨#[n]⟩:Str))).cps.toList=ns:=by
 show (List.foldl (λ(acc:Array Nat) (p:Str)=>acc++(Str.ofString "").cps++p.cps) (((ns.map λn=>(⟨#[n]⟩:Str)).headD Str.empty).cps) ((ns.map λn=>(⟨#[n]⟩:Str)).drop 1)).toList=ns
 cases ns with
 | nil=>rfl
 | cons n r=>
   rw [List.map_cons,List.drop_one,List.tail_cons,Ir];rfl
structure ValueRes (k c l:Nat)(S:List Ob)(s:Sh)(r:D)(S':List Ob):Prop where
 fit:AA s r=true
 lft:∃a b:Int,S'[l]?=some (.lst [.int a,.int b])
 deck:DeckAt k c S'
 kp:M0 k c l S S'
theorem YE {i:Int}(h:P (.int (Builtin.Int.intBits i:Nat)) t):W (HV (.int i)) t P:=⟨_,_,rfl,h⟩
theorem am {i j:Int}(h0:0<=j)(h:P (.int (i / 2 ^ j.toNat)) t):W (LA (.int i) (.int j)) t P:=⟨_,_,by simp [LA,i2C,h0],h⟩
theorem EO {f:M Bool}{b:M Out}{P:Out->T->Prop}(I:Nat->T->Prop)(turn:∀n t,I n t->W f t λk t1=>match k with
 | true=>∃m,n=m + 1/\W b t1 λo t2=>match o with
   | .next=>I m t2
   | .cont=>I m t2
   | .brk=>P .next t2
   | .ret x=>P (.ret x) t2
 | false=>P .next t1):∀(fuel n:Nat) (t:T),n < fuel->I n t->W (CF f b fuel) t P
 | 0,n,t,h,_=>absurd h (Nat.not_lt_zero _)
 | fuel + 1,n,t,h,i=>by
   obtain ⟨k,t1,e1,p⟩:=turn n t i
   cases k with
   | false=>exact ⟨_,_,by simp only [CF,e1],p⟩
   | true=>
     obtain ⟨m,rfl,o,t2,e2,p⟩:=p
     cases o with
     | next=>obtain ⟨o,t',e',p⟩:=EO I turn fuel m t2 (by lia) p;exact ⟨o,t',by simp only [CF,e1,e2];exact e',p⟩
     | cont=>obtain ⟨o,t',e',p⟩:=EO I turn fuel m t2 (by lia) p;exact ⟨o,t',by simp only [CF,e1,e2];exact e',p⟩
     | brk=>exact ⟨_,_,by simp only [CF,e1,e2],p⟩
     | ret x=>exact ⟨_,_,by simp only [CF,e1,e2],p⟩
noncomputable def wid (n:Nat):Nat:=if n=0 then 0 else n.log2 / 8 + 1
theorem O5 (h:2<=n):n.log2=(n / 2).log2 + 1:=by rw [Nat.log2_def,if_pos h]
theorem Q2 (h:n < 2):n.log2=0:=by rw [Nat.log2_def,if_neg (by lia)]
theorem KU:∀(k:Nat) {n:Nat},2 ^ k<=n->n.log2=(n / 2 ^ k).log2 + k
 | 0,n,_=>by rw [Nat.pow_zero,Nat.div_one,Nat.add_zero]
 | k + 1,n,h=>by
   have h2:2 ^ k * 2<=n:=by rw [<-Nat.pow_succ];exact h
   have h3:2<=n / 2 ^ k:=(Nat.le_div_iff_mul_le (Nat.pow_pos (by decide))).mpr (by rw [Nat.mul_comm];exact h2);rw [KU k (Nat.le_trans (Nat.le_mul_of_pos_right _ (by decide)) h2),O5 h3,Nat.div_div_eq_div_mul,<-Nat.pow_succ,Nat.add_assoc,Nat.add_comm 1 k]
theorem Q0 (h:256<=n):n.log2=(n / 256).log2 + 8:=KU 8 h
theorem Q1 (h:n < 256):n.log2 < 8:=by
 by_cases z:n=0
 ·subst z;rw [Q2 (by lia)];lia
 ·exact (Nat.log2_lt z).mpr h
theorem HK (h:0 < n):wid n=wid (n / 256) + 1:=by
 unfold wid;rw [if_neg (by lia)]
 by_cases z:n < 256
 ·have:=Q1 z;rw [if_pos (by lia)];lia
 ·rw [if_neg (by lia),Q0 (by lia)];lia
theorem GI:∀(k n:Nat),n < 256 ^ k->wid n<=k
 | 0,n,h=>by
   have:n=0:=by simpa using h
   subst this;decide
 | k + 1,n,h=>by
   by_cases z:n=0
   ·subst z;exact Nat.zero_le _
   ·rw [HK (by lia)];have:=GI k (n / 256) (Nat.div_lt_of_lt_mul (by rw [Nat.pow_succ] at h;lia));lia
theorem Ql (n:Nat):((Builtin.Int.intBits (n:Int):Nat) + 7) / 8=wid n:=by
 unfold Builtin.Int.intBits wid
 by_cases z:n=0
 ·subst z;rfl
 ·have:((n:Int) == 0)=false:=by simp;exact z
  rw [this,if_neg (by simp),if_neg z,Int.natAbs_natCast];lia
noncomputable def nb:Nat->Nat->List D
 | 0,_=>[]
 | w + 1,n=>nb w (n / 256)++[.int ((n % 256:Nat):Int)]
theorem K3:∀w n,(nb w n).length=w
 | 0,n=>rfl
 | w + 1,n=>by rw [nb,List.length_append,K3];rfl
mutual
def AE:Sh->D->List D
 | .nothing,_=>[]
 | .number lo hi,d=>match d with
   | .int i=>nb (wid (hi - lo).toNat) (i - lo).toNat
   | _=>[]
 | .text _,d=>match d with
   | .str x=>.int (x.length:Nat) :: x.cps.toList.map λn=>D.int (n:Nat)
   | _=>[]
 | .list s _,d=>match d with
   | .lst ds=>.int (ds.length:Nat) :: (ds.map λd=>AE s d).flatten
   | _=>[]
 | .pair s r,d=>match d with
   | .tup [a,b]=>AE s a++AE r b
   | _=>[]
 | .choice ss,d=>match d with
   | .tup [_,.int k,x]=>.int k :: HW ss k.toNat x
   | _=>[]
def HW:List Sh->Nat->D->List D
 | [],_,_=>[]
 | s :: _,0,d=>AE s d
 | _ :: r,k + 1,d=>HW r k d
end
theorem Ef:∀(ss:List Sh) (k:Nat) (s:Sh) (d:D),ss[k]?=some s->HW ss k d=AE s d
 | [],k,s,d,h=>by simp at h
 | s :: r,0,s',d,h=>by simp at h;subst h;simp [HW]
 | s :: r,k + 1,s',d,h=>by rw [HW];exact Ef r k s' d (by simpa using h)
def DE (f:Fn)(n:Nat):Prop:=∀(s:Sh),s.depth<=n->wf s=true->∀d,AA s d=true->(AE s d).length<=LIM->Pure1 f [s.d,d] (.lst (AE s d))
def HL (f:Fn):Prop:=∀(n j:Nat),j<=1000->Pure1 f [.int n,.int j] (.int ((n / 2 ^ (8 * j):Nat):Int))
theorem TC:HL (fnOf 2 2 Gu):=by
 intro n j hj S;refine Ax rfl ?_;unfold Gu;right;refine Ee (Df (by decide) (by decide)) ?_;refine am (by lia) ?_;refine ⟨?_,rfl⟩;have:(8 * (j:Int)).toNat=8 * j:=by lia
 rw [this];simp
def GK (f:Fn):Prop:=∀n:Nat,n < 256 ^ 9->Pure1 f [.int n] (.int (wid n:Nat))
theorem Sa:GK (fnOf 1 1 Ev):=by
 intro n _ S;refine Ax rfl ?_;unfold Ev;right;refine YE ?_;right;refine ⟨?_,rfl⟩;rw [<-Ql];simp
theorem TM:GK (fnOf 1 2 EX):=by
 intro n hb S;have hn:wid n < FF:=Nat.lt_of_le_of_lt (GI 9 n hb) (by decide);refine Ax rfl ?_;unfold EX;right;refine EO (λk t=>∃m:Nat,k=wid m/\t=⟨[some (.val (.int m)),some (.val (.int ((wid n - wid m:Nat):Int)))],S⟩/\wid m<=wid n) ?_ FF (wid n) _ hn ⟨n,rfl,by rw [Nat.sub_self];rfl,Nat.le_refl _⟩;rintro k t ⟨m,rfl,rfl,hm⟩;right
 by_cases z:0 < m
 ·rw [decide_eq_true (by lia:(0:Int) < m)];refine ⟨_,HK z,?_⟩;have:=HK z;right;refine ⟨m / 256,rfl,?_,by lia⟩;have e:((wid n - wid (m / 256):Nat):Int)=((wid n - wid m:Nat):Int) + 1:=by lia
  rw [e];rfl
 ·have:m=0:=by lia
  subst this;rw [decide_eq_false (by lia)];right;exact ⟨by simp [wid],rfl⟩
variable {lo hi:Int}
theorem MQ (h:wf (.number lo hi)=true):(hi - lo).toNat < 256 ^ 9:=by
 simp only [wf,Bool.and_eq_true,decide_eq_true_eq] at h;have:(256:Nat) ^ 9=4722366482869645213696:=by decide
 lia
theorem IE (a:Int)(n:Nat):(AJ a n).length=n:=by simp [AJ]
variable {j:Nat}
theorem Jk {a:Int}{d:D}{r:List D}(e:d :: r=(AJ a n).drop j):d = .int (a + j)/\r=(AJ a n).drop (j + 1)/\j < n:=by
 have hj:j < (AJ a n).length:=by
  rcases Nat.lt_or_ge j (AJ a n).length with h | h
  ·exact h
  ·rw [List.drop_eq_nil_of_le h] at e;cases e
 rw [List.drop_eq_getElem_cons hj] at e;injection e with e1 e2
 rw [IE] at hj;refine ⟨?_,e2,hj⟩;rw [e1];simp [AJ]
noncomputable def sgs:Str:=" !\"#$ &'()*+,-./0123456789:;<=>?@ABCDEFGHIJKLMNOPQRSTUVWXYZ[\\]^_`abcdefghijklmnopqrstuvwxyz{|}~"
variable {c:Nat}
theorem W9 (h:BJ c=true):atI sgs.cps.toList ((c:Int) - 32)=some c:=by
 have hl:sgs.cps.toList.length=95:=by decide +kernel
 have hall:(List.range 127).all (λc=>!BJ c || decide (sgs.cps.toList[c - 32]?=some c))=true:=by decide +kernel
 have h':=h;simp only [BJ,Bool.and_eq_true,decide_eq_true_eq] at h';have:=List.all_eq_true.mp hall c (List.mem_range.mpr (by lia));rw [h,Bool.not_true,Bool.false_or,decide_eq_true_eq] at this;rw [show ((c:Int) - 32)=((c - 32:Nat):Int) by lia];exact IS this
variable {h:D->M Out}{i:Nat}{n':Str}
section
variable {t:T}{P:D->T->Prop}{R:Out->T->Prop}
def R1 (h:D->M Out)(R:Out->T->Prop)(o:Out)(t1:T):Prop:=match o with
 | .ret (.exc n ds)=>n∈A5/\W (h (.exc n ds)) t1 R
 | o=>R o t1
theorem aq {b:M Out}(w:W b t (R1 h R)):W (DY b h) t R:=by
 obtain ⟨o,t1,e,q⟩:=w;have rest:∀d,AY d=false->o = .ret d->W (DY b h) t R:=λd hd ho=>by
  subst ho;refine ⟨.ret d,t1,?_,?_⟩
  ·unfold DY;rw [e];cases d <;> first | rfl | cases hd
  ·cases d <;> first | exact q | cases hd
 cases o with
 | next=>exact ⟨.next,t1,by unfold DY;rw [e],q⟩
 | brk=>exact ⟨.brk,t1,by unfold DY;rw [e],q⟩
 | cont=>exact ⟨.cont,t1,by unfold DY;rw [e],q⟩
 | ret d=>
   cases d with
   | exc n ds=>
     obtain ⟨hn,o2,t2,e2,q2⟩:=q;exact ⟨o2,t2,by unfold DY;rw [e];dsimp only;rw [if_pos hn,e2],q2⟩
   | _=>exact rest _ rfl rfl
theorem P5 {t1:T}(q:R .next t1):R1 h R .next t1:=q
theorem UY {n:Str}{t1:T}(e:n∈A5)(q:W (h (.exc n ds)) t1 R):R1 h R (.ret (.exc n ds)) t1:=⟨e,q⟩
def xK (d:D)(A B:Prop):Prop:=if AY d=true then A else B
theorem Y7 {d:D}{A B:Prop}(e:AY d=false)(b:B):xK d A B:=by unfold xK;rw [if_neg (by rw [e];decide)];exact b
theorem Y6 {d:D}{A B:Prop}(e:AY d=true)(a:A):xK d A B:=by unfold xK;rw [if_pos e];exact a
theorem Y0 (w:W f t λd t1=>xK d (R (.ret d) t1) (R .next ⟨t1.env.set i (some (.val d)),t1.S⟩)):W (C5 i f) t R:=by
 refine Ca (w.mono λd t1 q=>?_);unfold xK at q
 split at q
 ·next h=>rw [if_pos h];exact ⟨_,_,rfl,q⟩
 ·next h=>rw [if_neg h];exact ⟨_,_,rfl,q⟩
theorem Xn (w:W f t λd t1=>xK d (R (.ret d) t1) (R .next t1)):W (Ig f) t R:=by
 refine Ca (w.mono λd t1 q=>?_);unfold xK at q
 split at q
 ·next h=>rw [if_pos h];exact ⟨_,_,rfl,q⟩
 ·next h=>rw [if_neg h];exact ⟨_,_,rfl,q⟩
theorem wNx (w:W f t λd t1=>AY d=false/\P d t1):W (nxD f) t P:=by
 refine Ca (w.mono λd t1 z9=>?_);obtain ⟨h,q⟩:=z9;rw [if_neg (by rw [h];decide)];exact ⟨_,_,rfl,q⟩
theorem YF {g:M D}{h:D->M D}(w:W g t λy t1=>xK y (P y t1) (W (h y) t1 λd t2=>AY d=false/\P d t2)):W (IT g h) t P:=by
 refine Ca (w.mono λy t1 q=>?_);unfold xK at q
 split at q
 ·next z=>rw [if_pos z];exact ⟨_,_,rfl,q⟩
 ·next z=>rw [if_neg z];exact wNx q
theorem YD {g:M D}{h:D->D->M D}(w:W f t λx t1=>W (IT g (h x)) t1 P):W (GO f g h) t P:=Ca w
theorem U6 {n:Str}{f:M (List D)}(w:W f t λds t1=>ds.length<=1000/\R (.ret (.exc n [])) t1):W (GB n f) t R:=
 Ca (w.mono λds t1 ⟨e,q⟩=>by rw [if_pos e];exact ⟨_,_,rfl,q⟩)
theorem U7 {n:Str}(w:W f t λ_ t1=>R (.ret (.exc n [])) t1):W (GB n (Aa f Ad)) t R:=U6 (Dq (w.mono λd t1 q=>HJ ⟨by show 1<=1000;decide,q⟩))
theorem Z1 {n:Str}{s:M Out}{r:D->M Out}(e:DX n n'=true)(w:W s { t with env:=t.env.set i (some (.val (.exc n ds))) } λo t2=>R o (unE i t2)):W (hAs n' i s r (.exc n ds)) t R:=by
 obtain ⟨o,t2,e1,q⟩:=w;exact ⟨o,unE i t2,by unfold hAs;dsimp only;rw [if_pos e,e1],q⟩
theorem Z2 {n:Str}{s:M Out}{r:D->M Out}(e:DX n n'=true)(w:W s t R):W (hNo n' s r (.exc n ds)) t R:=by
 obtain ⟨o,t2,e1,q⟩:=w;exact ⟨o,t2,by unfold hNo;dsimp only;rw [if_pos e,e1],q⟩
theorem YI {n:Str}{s:M Out}{r:D->M Out}(e:DX n n'=false)(w:W (r (.exc n ds)) t R):W (hNo n' s r (.exc n ds)) t R:=by
 obtain ⟨o,t2,e1,q⟩:=w;exact ⟨o,t2,by unfold hNo;dsimp only;rw [if_neg (by rw [e];decide),e1],q⟩
theorem YC {m n:Str}{d:D}(e:m∈A5)(l:((Ht m).zip ds).lookup n=some d)(q:P d t):W (FI n (.exc m ds)) t P:=⟨_,_,by unfold FI;dsimp only;rw [if_pos e,l];rfl,q⟩
end
theorem Hb {n:Str}{g:M D}{R:Out->T->Prop}(w:W f t λa t1=>W g t1 λb t2=>R (.ret (.exc n [a,b])) t2):W (Cm n (Aa f (Aa g Ad))) t R:=
 Ca (Dq (w.mono λa t1 q=>Dq (q.mono λb t2 q=>HJ ⟨_,_,rfl,q⟩)))
local macro_rules | `(tactic| walk_at "x1")=>`(tactic| first
 | walk_at "w1"
 | clear 31 aq Y0 Xn wAsgX wNx YD wBinY YF wCallY P5
 | clear 33 UY | clear 32 Y7 | clear 32 Y6
 | clear 31 wRaiseT U7 | clear 33 Z1 | clear 33 wHAsN | clear 33 Z2 | clear 33 YI
 | clear 33 wIsiX | clear 31 wIsiXN | ((with_reducible refine' YC ?wv ?wu ?_);(case wv=>decide);(case wu=>exact rfl)))
local macro_rules | `(tactic| left)=>`(tactic| repeat (walk_at "x1"))
inductive Rd where
 | done (v:D)
 | need (ok:Nat->Bool) (nx:Nat->Rd)
inductive RR where
 | told (v:D) (a:Nat)
 | short
 | broken (a:Nat)
noncomputable def Rd.run:Rd->List Nat->Nat->RR
 | .done v,_,a=>.told v a
 | .need ok nx,w,a=>match w[a]? with
   | none=>.short
   | some b=>if ok b=true then (nx b).run w (a + 1) else .broken a
noncomputable def Rd.bnd:Rd->(D->Rd)->Rd
 | .done v,k=>k v
 | .need ok nx,k=>.need ok λb=>(nx b).bnd k
def RR.thn (r:RR)(w:List Nat)(k:D->Rd):RR:=match r with
 | .told v a=>(k v).run w a
 | .short=>.short
 | .broken a=>.broken a
variable {w:List Nat}
theorem A6 {ok:Nat->Bool}{nx:Nat->Rd}{a:Nat}(h:w[a]?=none):(Rd.need ok nx).run w a = .short:=by rw [Rd.run,h]
theorem AW {ok:Nat->Bool}{nx:Nat->Rd}{a b:Nat}(h:w[a]?=some b):(Rd.need ok nx).run w a=if ok b=true then (nx b).run w (a + 1) else .broken a:=by rw [Rd.run,h]
theorem DJ (k:D->Rd)(w:List Nat):∀(p:Rd) (a:Nat),(p.bnd k).run w a=(p.run w a).thn w k:=by
 intro p
 induction p with
 | done v=>intro a;rfl
 | need ok nx ih=>
   intro a;rw [Rd.bnd]
   cases h:w[a]? with
   | none=>rw [A6 h,A6 h];rfl
   | some b=>
     rw [AW h,AW h]
     by_cases q:ok b=true
     ·rw [if_pos q,if_pos q];exact ih b (a + 1)
     ·rw [if_neg q,if_neg q];rfl
variable {v:D}
theorem Dg {b:Nat}:∀(p:Rd) (a:Nat),a<=w.length->p.run w a = .told v b->a<=b/\b<=w.length:=by
 intro p
 induction p with
 | done v'=>intro a ha h;cases h;exact ⟨Nat.le_refl _,ha⟩
 | need ok nx ih=>
   intro a ha h
   cases e:w[a]? with
   | none=>rw [A6 e] at h;cases h
   | some c=>
     rw [AW e] at h;have hl:=(List.getElem?_eq_some_iff.mp e).1
     by_cases q:ok c=true
     ·rw [if_pos q] at h;have:=ih c (a + 1) hl h;lia
     ·rw [if_neg q] at h;cases h
theorem Gb {k:Nat}:∀(p:Rd) (a:Nat),p.run w a = .broken k->a<=k/\k < w.length:=by
 intro p
 induction p with
 | done v'=>intro a h;cases h
 | need ok nx ih=>
   intro a h
   cases e:w[a]? with
   | none=>rw [A6 e] at h;cases h
   | some c=>
     rw [AW e] at h;have hl:=(List.getElem?_eq_some_iff.mp e).1
     by_cases q:ok c=true
     ·rw [if_pos q] at h;have:=ih c (a + 1) h;lia
     ·rw [if_neg q] at h;cases h;lia
def Rd.good:Rd->Prop
 | .done _=>True
 | .need ok nx=>(ok 0=true\/ok 32=true)/\∀b,ok b=true->(nx b).good
noncomputable def Fq (lo:Int)(M:Nat):Nat->Nat->Rd
 | 0,x=>.done (.int (lo + x))
 | r + 1,x=>.need (λb=>decide (x * 256 + b<=M / 2 ^ (8 * r))) λb=>Fq lo M r (x * 256 + b)
def FY:Nat->List Nat->Rd
 | 0,cs=>.done (.str ⟨cs.toArray⟩)
 | n + 1,cs=>.need BJ λc=>FY n (cs++[c])
def Fp (p:Rd):Nat->List D->Rd
 | 0,ds=>.done (.lst ds)
 | n + 1,ds=>p.bnd λv=>Fp p n (ds++[v])
def pSh:Nat->Sh->Rd
 | 0,_=>.done .non
 | _ + 1,.nothing=>.done .non
 | _ + 1,.number lo hi=>Fq lo (hi - lo).toNat (wid (hi - lo).toNat) 0
 | _ + 1,.text q=>.need (λb=>decide ((b:Int)<=q)) λb=>FY b []
 | n + 1,.list s q=>.need (λb=>decide ((b:Int)<=q)) λb=>Fp (pSh n s) b []
 | n + 1,.pair s r=>(pSh n s).bnd λv=>(pSh n r).bnd λu=>.done (.tup [v,u])
 | n + 1,.choice ss=>.need (λb=>decide (b < ss.length)) λb=>(pSh n (ss.getD b .nothing)).bnd λv=>.done (.tup [.str "of",.int b,v])
mutual
noncomputable def plD:D->Bool
 | .lst xs=>pls xs
 | .tup xs=>pls xs
 | .obj _=>false
 | .scr _=>false
 | .ty _=>false
 | .exc _ _=>false
 | .dic=>false
 | _=>true
noncomputable def pls:List D->Bool
 | []=>true
 | d :: r=>plD d && pls r
end
theorem Qs {k:Int}(h0:0<=k)(h1:k<=xs.length):BZ xs none (some k)=xs.take k.toNat:=by
 have:HT.sIx xs.length xs.length (some k)=k.toNat:=by simp only [HT.sIx];rw [if_neg (by lia)];lia
 unfold BZ;rw [this];simp [HT.sIx]
noncomputable def pos (i:Int):Int:=if 0 < i then i else 0
structure ValueRes2 (k c l:Nat)(S:List Ob)(s:Sh)(a b:Int)(r:D)(S':List Ob):Prop where
 fit:AA s r=true
 lft:∃a' b':Int,S'[l]?=some (.lst [.int a',.int b'])/\((AE s r).length:Int)<=9 * (a - a') + (pos b - pos b')/\pos b'<=pos b/\1<=a - a'/\a - a'<=cnt s + (14 * (s.depth:Int)) * pos a
 deck:DeckAt k c S'
 kp:M0 k c l S S'
mutual
noncomputable def szE:D->Nat
 | .lst xs=>1 + R0 xs
 | .tup xs=>1 + R0 xs
 | _=>1
noncomputable def R0:List D->Nat
 | []=>0
 | d :: r=>szE d + R0 r
end
structure VOk (s:Sh)(v:D):Prop where
 fit:AA s v=true
 len:(AE s v).length<=14809
local macro_rules | `(tactic| walk_at "y1")=>`(tactic| first | walk_at "x1" | clear 31 Hb)
local macro_rules | `(tactic| symm)=>`(tactic| repeat (walk_at "y1"))
noncomputable def wD (w:List Nat):List D:=w.map λ(n:Nat)=>D.int (n:Int)
theorem Bd (w:List Nat):(wD w).length=w.length:=by unfold wD;rw [List.length_map]
theorem IL {a b:Nat}(h:w[a]?=some b):(wD w)[a]?=some (.int (b:Int)):=by unfold wD;rw [List.getElem?_map,h];rfl
abbrev exS:D:=.exc "Short" []
abbrev exB (a:Nat):D:=.exc "Broken" [.int (a:Int),.non]
noncomputable def rrD:RR->D
 | .told v b=>.tup [v,.int (b:Int)]
 | .short=>exS
 | .broken a=>exB a
noncomputable def byX:Option Nat->D
 | none=>exS
 | some b=>.int (b:Int)
noncomputable def upX (m:Int)(a:Nat):Option Nat->D
 | none=>exS
 | some b=>if (b:Int)<=m then .int (b:Int) else exB a
def sgX (a:Nat):Option Nat->D
 | none=>exS
 | some c=>if BJ c=true then .str ⟨#[c]⟩ else exB a
def BX (f:Fn):Prop:=∀(w:List Nat) (a:Nat),Pure1 f [.lst (wD w),.int (a:Int)] (byX w[a]?)
theorem XF:BX (fnOf 2 2 EW):=by
 intro w a S;refine Ax rfl ?_;unfold EW;have hl:=Bd w
 cases h:w[a]? with
 | none=>
   have:=List.getElem?_eq_none_iff.mp h;symm;refine Du (decide_eq_true (by lia)) ?_;symm;exact ⟨rfl,rfl⟩
 | some b=>
   obtain ⟨hj,_⟩:=List.getElem?_eq_some_iff.mp h;symm;refine B0 (decide_eq_false (by lia)) ?_;symm;refine Be (IS (IL h)) ?_;exact ⟨rfl,rfl,rfl⟩
def UX (f:Fn):Prop:=∀(m:Int) (w:List Nat) (a:Nat),Pure1 f [.int m,.lst (wD w),.int (a:Int)] (upX m a w[a]?)
theorem Yv {c:Fn}(hc:BX c):UX (fnOf 3 4 (DS c)):=by
 intro m w a S;refine Ax rfl ?_;unfold DS;have hb:=hc w a
 cases h:w[a]? with
 | none=>
   rw [h,byX] at hb;symm;refine hb.use ?_;symm;exact ⟨rfl,rfl⟩
 | some b=>
   rw [h,byX] at hb;symm;refine hb.use ?_;symm;rw [upX]
   by_cases q:(b:Int)<=m
   ·rw [if_pos q];refine B0 (decide_eq_false (by lia)) ?_;symm;exact ⟨rfl,rfl,rfl⟩
   ·rw [if_neg q];refine Du (decide_eq_true (by lia)) ?_;symm;exact ⟨rfl,rfl⟩
def SX (f:Fn):Prop:=∀(w:List Nat) (a:Nat),Pure1 f [.lst (wD w),.int (a:Int)] (sgX a w[a]?)
variable {cb:Fn}
theorem Yl {cs:Fn}(hs:Kh cs)(hb:BX cb):SX (fnOf 2 3 (EY cs cb)):=by
 intro w a S;refine Ax rfl ?_;unfold EY;have hb:=hb w a
 cases h:w[a]? with
 | none=>
   rw [h,byX] at hb;symm;refine hb.use ?_;symm;exact ⟨rfl,rfl⟩
 | some c=>
   rw [h,byX] at hb;symm;refine hb.use ?_;symm;refine (hs c).use ?_;rw [sgX]
   by_cases q:BJ c=true
   ·rw [if_pos q,q];symm;refine W_ix_str.mpr ⟨by decide +kernel,c,W9 q,?_⟩;exact ⟨rfl,rfl,rfl⟩
   ·have q':BJ c=false:=by simpa using q
    rw [if_neg q,q'];symm;exact ⟨rfl,rfl⟩
variable {cl:Fn}
theorem Yh {cw:Fn}(hl:HL cl)(hb:BX cb)(hw:GK cw){lo hi:Int}(hwf:wf (.number lo hi)=true)(w:List Nat)(a:Nat):Pure1 (fnOf 3 7 (Cu cl cb cw)) [(Sh.number lo hi).d,.lst (wD w),.int (a:Int)] (rrD ((Fq lo (hi - lo).toNat (wid (hi - lo).toNat) 0).run w a)):=by
 intro S;have hsp:=MQ hwf;have hwd:=GI 9 _ hsp;refine Ax rfl ?_;unfold Cu;rw [Sh.d];have em:hi - lo=(((hi - lo).toNat:Nat):Int):=by
  simp only [wf,Bool.and_eq_true,decide_eq_true_eq] at hwf;lia
 have hww:=λS P p=>(hw (hi - lo).toNat hsp).use (S:=S) (P:=P) p;rw [<-em] at hww;generalize (hi - lo).toNat=M at *;generalize hW:wid M=n at *;symm;refine hww _ _ ?_;rw [em];symm;refine DZ (D8 (by lia) (by lia)) ?_;refine Fc (λr t=>∃(j x:Nat) (e6:Option Sl),j<=n/\r=(AJ 0 ((n:Nat):Int).toNat).drop j/\(Fq lo M n 0).run w a=(Fq lo M (n - j) x).run w (a + j)/\t=⟨[some (.val (.tup [.str "number",.int lo,.int hi])),some (.val (.lst (wD w))),some (.val (.int a)),some (.val (.int M)),some (.val (.int n)),some (.val (.int x)),e6],S⟩) _ _ ⟨0,0,none,Nat.zero_le _,rfl,rfl,rfl⟩ ?_ ?_
 ·rintro d r t ⟨j,x,e6,hj,hr,hrun,rfl⟩ _;obtain ⟨rfl,hr',hjn⟩:=Jk hr;rw [Int.toNat_natCast] at hjn;rw [Int.zero_add];obtain ⟨e,he⟩:∃e,n - j=e + 1:=⟨n - j - 1,by lia⟩;rw [he,Fq] at hrun;have hby:=hb w (a + j);symm;refine Ee (TW (by decide) (by decide)) ?_;symm;rw [show ((a:Int) + (j:Int))=((a + j:Nat):Int) by lia]
  cases h:w[a + j]? with
  | none=>
    rw [h,byX] at hby;rw [A6 h] at hrun;refine hby.use ?_;symm;exact ⟨by rw [hrun];rfl,rfl⟩
  | some b=>
    rw [h,byX] at hby;rw [AW h] at hrun;refine hby.use ?_;symm;refine ⟨rfl,?_⟩;symm;rw [show ((n:Int) - 1 - (j:Int))=((e:Nat):Int) by lia,show ((x:Int) * 256 + (b:Int))=((x * 256 + b:Nat):Int) by lia];refine (hl M e (by lia)).use ?_;symm
    by_cases q:x * 256 + b<=M / 2 ^ (8 * e)
    ·rw [if_pos (decide_eq_true q)] at hrun;refine B0 (decide_eq_false (by lia)) ?_;symm;exact ⟨j + 1,x * 256 + b,_,hjn,hr',by rw [show n - (j + 1)=e by lia,hrun,Nat.add_assoc],rfl⟩
    ·rw [if_neg (by rw [decide_eq_true_eq];exact q)] at hrun;refine Du (decide_eq_true (by lia)) ?_;symm;exact ⟨by rw [hrun];rfl,rfl⟩
 ·rintro t ⟨j,x,e6,hj,hr,hrun,rfl⟩;have hj':j=n:=by
   have:=congrArg List.length hr;rw [List.length_nil,List.length_drop,IE,Int.toNat_natCast] at this;lia
  subst hj';rw [Nat.sub_self,Fq,Rd.run] at hrun;symm;exact ⟨rfl,by rw [hrun];rfl,rfl⟩
variable {cu:Fn}
theorem W3 {ca:Fn}(ha:SX ca)(hu:UX cu){q:Int}(hwf:wf (.text q)=true)(n:Nat)(w:List Nat)(a:Nat):Pure1 (fnOf 3 7 (De ca cu)) [(Sh.text q).d,.lst (wD w),.int (a:Int)] (rrD ((pSh (n + 1) (.text q)).run w a)):=by
 intro S;have hL:LIM=100000:=rfl;refine Ax rfl ?_;unfold De;rw [Sh.d,pSh];simp only [wf,Bool.and_eq_true,decide_eq_true_eq] at hwf;have hup:=hu q w a;symm
 cases h:w[a]? with
 | none=>
   rw [h,upX] at hup;rw [A6 h];refine hup.use ?_;symm;exact ⟨rfl,rfl⟩
 | some b=>
   rw [h,upX] at hup;rw [AW h]
   by_cases hb:(b:Int)<=q
   ·rw [if_pos hb] at hup;rw [if_pos (decide_eq_true hb)];refine hup.use ?_;symm;refine DZ (D8 (by lia) (by lia)) ?_;refine Fc (λr t=>∃(j:Nat) (y:Str) (e6:Option Sl),j<=b/\r=(AJ 0 ((b:Nat):Int).toNat).drop j/\y.cps.toList.length=j/\(FY b []).run w (a + 1)=(FY (b - j) y.cps.toList).run w (a + 1 + j)/\t=⟨[some (.val (.tup [.str "text",.int q])),some (.val (.lst (wD w))),some (.val (.int a)),some (.val (.int b)),some (.val (.int ((a:Int) + 1))),some (.val (.str y)),e6],S⟩) _ _ ⟨0,Str.ofString "",none,Nat.zero_le _,rfl,by decide +kernel,by rw [Nat.sub_zero,Nat.add_zero,show (Str.ofString "").cps.toList=[] by decide +kernel],rfl⟩ ?_ ?_
    ·rintro d r t ⟨j,y,e6,hj,hr,hyl,hrun,rfl⟩ _;obtain ⟨rfl,hr',hjn⟩:=Jk hr;rw [Int.toNat_natCast] at hjn;rw [Int.zero_add];obtain ⟨e,he⟩:∃e,b - j=e + 1:=⟨b - j - 1,by lia⟩;rw [he,FY] at hrun;have hsg:=ha w (a + 1 + j);symm;rw [show ((a:Int) + 1 + (j:Int))=((a + 1 + j:Nat):Int) by lia]
     cases h2:w[a + 1 + j]? with
     | none=>
       rw [h2,sgX] at hsg;rw [A6 h2] at hrun;refine hsg.use ?_;symm;exact ⟨by rw [hrun];rfl,rfl⟩
     | some c=>
       rw [h2,sgX] at hsg;rw [AW h2] at hrun
       by_cases hc:BJ c=true
       ·rw [if_pos hc] at hsg hrun;refine hsg.use ?_;symm;refine Bn (by rw [Fe y,hyl,hL];show j + 1<=_;lia) ?_;refine ⟨rfl,?_⟩;symm;refine ⟨j + 1,_,_,hjn,hr',?_,?_,rfl⟩
        ·rw [Ju,List.length_append,hyl];rfl
        ·rw [hrun,Ju,show b - (j + 1)=e by lia,Nat.add_assoc (a + 1)]
       ·rw [if_neg hc] at hsg hrun;refine hsg.use ?_;symm;exact ⟨by rw [hrun];rfl,rfl⟩
    ·rintro t ⟨j,y,e6,hj,hr,hyl,hrun,rfl⟩;have hj':j=b:=by
      have:=congrArg List.length hr;rw [List.length_nil,List.length_drop,IE,Int.toNat_natCast] at this;lia
     subst hj';rw [Nat.sub_self,FY,Rd.run] at hrun;have ey:(⟨y.cps.toList.toArray⟩:Str)=y:=UU (by simp);rw [ey] at hrun;symm;refine ⟨rfl,?_,rfl⟩;rw [hrun,rrD,show ((a:Int) + 1 + (j:Int))=((a + 1 + j:Nat):Int) by lia]
   ·rw [if_neg hb] at hup;rw [if_neg (by rw [decide_eq_true_eq];exact hb)];refine hup.use ?_;symm;exact ⟨rfl,rfl⟩
def RX (c:Fn)(s:Sh)(p:Rd):Prop:=∀(w:List Nat) (a:Nat),a<=w.length->Pure1 c [s.d,.lst (wD w),.int (a:Int)] (rrD (p.run w a))
variable {q:Int}
theorem W0 {c:Fn}{s:Sh}{p:Rd}(hu:UX cu)(hq2:q<=250)(hc:RX c s p)(w:List Nat)(a:Nat):Pure1 (fnOf 3 8 (Dc c cu)) [(Sh.list s q).d,.lst (wD w),.int (a:Int)] (rrD ((Rd.need (λb=>decide ((b:Int)<=q)) λb=>Fp p b []).run w a)):=by
 intro S;have hL:LIM=100000:=rfl;refine Ax rfl ?_;unfold Dc;rw [Sh.d];have hup:=hu q w a;symm
 cases h:w[a]? with
 | none=>
   rw [h,upX] at hup;rw [A6 h];refine hup.use ?_;symm;exact ⟨rfl,rfl⟩
 | some b=>
   have hal:=(List.getElem?_eq_some_iff.mp h).1;rw [h,upX] at hup;rw [AW h]
   by_cases hb:(b:Int)<=q
   ·rw [if_pos hb] at hup;rw [if_pos (decide_eq_true hb)];refine hup.use ?_;symm;refine DZ (D8 (by lia) (by lia)) ?_;refine Fc (λr t=>∃(j a':Nat) (ds:List D) (e6 e7:Option Sl),j<=b/\r=(AJ 0 ((b:Nat):Int).toNat).drop j/\ds.length=j/\a'<=w.length/\(Fp p b []).run w (a + 1)=(Fp p (b - j) ds).run w a'/\t=⟨[some (.val (.tup [.str "list",s.d,.int q])),some (.val (.lst (wD w))),some (.val (.int a)),some (.val (.int b)),some (.val (.int (a':Int))),some (.own ds),e6,e7],S⟩) _ _ ⟨0,a + 1,[],none,none,Nat.zero_le _,rfl,rfl,hal,rfl,rfl⟩ ?_ ?_
    ·rintro d r t ⟨j,a',ds,e6,e7,hj,hr,hdl,ha',hrun,rfl⟩ _;obtain ⟨rfl,hr',hjn⟩:=Jk hr;rw [Int.toNat_natCast] at hjn;obtain ⟨e,he⟩:∃e,b - j=e + 1:=⟨b - j - 1,by lia⟩;rw [he,Fp,DJ] at hrun;have hcc:=hc w a' ha'
     cases h2:p.run w a' with
     | short=>
       rw [h2] at hrun hcc;symm;refine hcc.use ?_;rw [rrD];symm;exact ⟨by rw [hrun];rfl,rfl⟩
     | broken k=>
       rw [h2] at hrun hcc;symm;refine hcc.use ?_;rw [rrD];symm;exact ⟨by rw [hrun];rfl,rfl⟩
     | told v a2=>
       have hle:=Dg p a' ha' h2;rw [h2] at hrun hcc;symm;refine hcc.use ?_;rw [rrD];symm;refine Bn (by rw [hdl,hL];lia) ?_;symm;exact ⟨j + 1,a2,ds++[v],_,_,hjn,hr',by rw [List.length_append,hdl];rfl,hle.2,by rw [hrun,show b - (j + 1)=e by lia];rfl,rfl⟩
    ·rintro t ⟨j,a',ds,e6,e7,hj,hr,hdl,ha',hrun,rfl⟩;have hj':j=b:=by
      have:=congrArg List.length hr;rw [List.length_nil,List.length_drop,IE,Int.toNat_natCast] at this;lia
     subst hj';rw [Nat.sub_self,Fp,Rd.run] at hrun;symm;exact ⟨rfl,by rw [hrun];rfl,rfl⟩
   ·rw [if_neg hb] at hup;rw [if_neg (by rw [decide_eq_true_eq];exact hb)];refine hup.use ?_;symm;exact ⟨rfl,rfl⟩
theorem W1 {c:Fn}{s r:Sh}{p p':Rd}(hs:RX c s p)(hr:RX c r p')(w:List Nat)(a:Nat)(ha:a<=w.length):Pure1 (fnOf 3 5 (Dd c)) [(Sh.pair s r).d,.lst (wD w),.int (a:Int)] (rrD ((p.bnd λv=>p'.bnd λu=>.done (.tup [v,u])).run w a)):=by
 intro S;refine Ax rfl ?_;unfold Dd;rw [Sh.d,DJ];have h1:=hs w a ha
 cases e1:p.run w a with
 | short=>
   rw [e1] at h1;symm;refine h1.use ?_;rw [rrD];symm;exact ⟨rfl,rfl⟩
 | broken k=>
   rw [e1] at h1;symm;refine h1.use ?_;rw [rrD];symm;exact ⟨rfl,rfl⟩
 | told v a'=>
   have hle:=Dg p a ha e1;rw [e1] at h1;have h2:=hr w a' hle.2;rw [RR.thn,DJ];symm;refine h1.use ?_;rw [rrD];symm;refine h2.use ?_
   cases e2:p'.run w a' with
   | short=>rw [rrD];symm;exact ⟨rfl,rfl⟩
   | broken k=>rw [rrD];symm;exact ⟨rfl,rfl⟩
   | told u a2=>rw [rrD];symm;exact ⟨rfl,rfl,rfl⟩
variable {ss:List Sh}
theorem Rx {c:Fn}{p:Nat->Rd}(hu:UX cu)(hc:∀(k:Nat) (h:k < ss.length),RX c ss[k] (p k))(w:List Nat)(a:Nat):Pure1 (fnOf 3 5 (Ct c cu)) [(Sh.choice ss).d,.lst (wD w),.int (a:Int)] (rrD ((Rd.need (λb=>decide (b < ss.length)) λb=>(p b).bnd λv=>.done (.tup [.str "of",.int b,v])).run w a)):=by
 intro S;refine Ax rfl ?_;unfold Ct;rw [Sh.d];have hup:=hu ((ss.length:Int) - 1) w a;symm;rw [FC];refine hup.use ?_
 cases h:w[a]? with
 | none=>
   rw [A6 h,upX];symm;exact ⟨rfl,rfl⟩
 | some b=>
   have hal:=(List.getElem?_eq_some_iff.mp h).1;rw [AW h,upX]
   by_cases hb:b < ss.length
   ·rw [if_pos (show (b:Int)<=(ss.length:Int) - 1 by lia),if_pos (decide_eq_true hb),DJ];have e0:ss[b]?=some ss[b]:=List.getElem?_eq_getElem hb;have hsd:atI (shD ss) (b:Int)=some ss[b].d:=IS (by rw [G0,e0];rfl);have h2:=hc b hb w (a + 1) hal;symm;refine Jt hsd ?_;symm;rw [show ((a:Int) + 1)=((a + 1:Nat):Int) by lia];refine h2.use ?_
    cases e2:(p b).run w (a + 1) with
    | short=>rw [rrD];symm;exact ⟨rfl,rfl⟩
    | broken k=>rw [rrD];symm;exact ⟨rfl,rfl⟩
    | told u a2=>rw [rrD];symm;exact ⟨rfl,rfl,rfl⟩
   ·rw [if_neg (show ¬(b:Int)<=(ss.length:Int) - 1 by lia),if_neg (by rw [decide_eq_true_eq];exact hb)];symm;exact ⟨rfl,rfl⟩
def HR (f:Fn)(n:Nat):Prop:=∀s:Sh,s.depth<=n->wf s=true->RX f s (pSh n s)
variable {cc ct cn:Fn}
theorem Ry {cp:Fn}(hn:∀lo hi,wf (.number lo hi)=true->RX cn (.number lo hi) (pSh (n + 1) (.number lo hi)))(ht:∀q,wf (.text q)=true->RX ct (.text q) (pSh (n + 1) (.text q)))
 (hl:∀s q,q<=250->s.depth<=n->wf s=true->RX cl (.list s q) (pSh (n + 1) (.list s q))) (hp:∀s r,s.depth<=n->r.depth<=n->wf s=true->wf r=true->RX cp (.pair s r) (pSh (n + 1) (.pair s r)))
 (hc:∀ss:List Sh,(∀(k:Nat) (h:k < ss.length),ss[k].depth<=n/\wf ss[k]=true)->RX cc (.choice ss) (pSh (n + 1) (.choice ss))):HR (fnOf 3 4 (CN cc cp cl ct cn)) (n + 1):=by
 intro s hs hwf w a ha S;refine Ax rfl ?_;unfold CN
 cases s with
 | nothing=>
   rw [Sh.d,pSh,Rd.run,rrD];symm;exact ⟨rfl,rfl,rfl⟩
 | number lo hi=>
   have h:=hn lo hi hwf w a ha;rw [Sh.d] at h ⊢;symm;exact h.use ⟨rfl,rfl⟩
 | text q=>
   have h:=ht q hwf w a ha;rw [Sh.d] at h ⊢;symm;exact h.use ⟨rfl,rfl⟩
 | list s q=>
   simp only [wf,Bool.and_eq_true,decide_eq_true_eq] at hwf;rw [Sh.depth] at hs;have h:=hl s q hwf.1.2 (by lia) hwf.2 w a ha;rw [Sh.d] at h ⊢;symm;exact h.use ⟨rfl,rfl⟩
 | pair s r=>
   simp only [wf,Bool.and_eq_true] at hwf;rw [Sh.depth] at hs;have h:=hp s r (by lia) (by lia) hwf.1 hwf.2 w a ha;rw [Sh.d] at h ⊢;symm;exact h.use ⟨rfl,rfl⟩
 | choice ss=>
   simp only [wf,Bool.and_eq_true,decide_eq_true_eq] at hwf;rw [Sh.depth] at hs;have h:=hc ss (λk hk=>⟨Nat.le_trans (DL ss _ _ (List.getElem?_eq_getElem hk)) (by lia),Eb hwf.2 _ (List.getElem_mem hk)⟩) w a ha;rw [Sh.d] at h ⊢;symm;exact h.use ⟨rfl,rfl⟩
theorem PD {c ca cl' cw cp:Fn}(e1:cc=fnOf 3 5 (Ct c cu))(e2:cp=fnOf 3 5 (Dd c))(e3:cl=fnOf 3 8 (Dc c cu))(e4:ct=fnOf 3 7 (De ca cu))(e5:cn=fnOf 3 7 (Cu cl' cb cw))
 (hu:UX cu) (ha:SX ca) (hl':HL cl') (hb:BX cb) (hw:GK cw) (hc:HR c n):HR (fnOf 3 4 (CN cc cp cl ct cn)) (n + 1):=by
 subst e1 e2 e3 e4 e5;refine Ry (λlo hi h w a _=>?_) (λq h w a _=>W3 ha hu h n w a) (λs q h2 hd h w a _=>?_) (λs r d1 d2 w1 w2 w a ha=>?_) λss h w a _=>?_
 ·rw [pSh];exact Yh hl' hb hw h w a
 ·rw [pSh];exact W0 hu h2 (hc s hd h) w a
 ·rw [pSh];exact W1 (hc s d1 w1) (hc r d2 w2) w a ha
 ·rw [pSh];refine Rx hu (p:=λb=>pSh n (ss.getD b .nothing)) (λk hk=>?_) w a;show RX c ss[k] (pSh n (ss.getD k .nothing));rw [List.getD_eq_getElem?_getD,List.getElem?_eq_getElem hk,Option.getD_some];exact hc _ (h k hk).1 (h k hk).2
noncomputable def seg (w:List Nat)(a b:Nat):List Nat:=(w.drop a).take (b - a)
theorem F1 (w:List Nat)(a:Nat):seg w a a=[]:=by unfold seg;rw [Nat.sub_self,List.take_zero]
variable {x:Nat}
theorem E6 {a b:Nat}(h:w[a]?=some x)(hb:a + 1<=b):seg w a b=x :: seg w (a + 1) b:=by
 obtain ⟨hl,e⟩:=List.getElem?_eq_some_iff.mp h;unfold seg;rw [List.drop_eq_getElem_cons hl,e,show b - a=(b - (a + 1)) + 1 by lia,List.take_succ_cons]
theorem MK {a b:Nat}(h1:a<=c)(h2:c<=b):seg w a b=seg w a c++seg w c b:=by
 unfold seg;rw [show b - a=(c - a) + (b - c) by lia,List.take_add,List.drop_drop,show a + (c - a)=c by lia]
theorem LL (x y:List Nat):wD (x++y)=wD x++wD y:=by unfold wD;rw [List.map_append]
theorem G6 (x:Nat)(y:List Nat):wD (x :: y) = .int (x:Int) :: wD y:=rfl
theorem Mw:∀(r y:Nat),nb (r + 1) y = .int ((y / 256 ^ r % 256:Nat):Int) :: nb r y
 | 0,y=>by rw [nb,nb,nb,Nat.pow_zero,Nat.div_one];rfl
 | r + 1,y=>by
   rw [show nb (r + 1 + 1) y=nb (r + 1) (y / 256)++[.int ((y % 256:Nat):Int)] from rfl,Mw r (y / 256),List.cons_append,show nb (r + 1) y=nb r (y / 256)++[.int ((y % 256:Nat):Int)] from rfl,Nat.div_div_eq_div_mul,show 256 * 256 ^ r=256 ^ (r + 1) by rw [Nat.pow_succ,Nat.mul_comm]]
theorem K5 {lo:Int}{M:Nat}{w:List Nat}(hw:∀x∈w,x < 256){v:D}{b:Nat}:∀(r x a:Nat),(Fq lo M r x).run w a = .told v b->∃y:Nat,v = .int (lo + y)/\y / 256 ^ r=x/\(x<=M / 2 ^ (8 * r)->y<=M)/\nb r y=wD (seg w a b)/\b=a + r
 | 0,x,a,h=>by
   rw [Fq,Rd.run] at h
   cases h
   exact ⟨x,rfl,by rw [Nat.pow_zero,Nat.div_one],(λh=>by rw [Nat.mul_zero,Nat.pow_zero,Nat.div_one] at h;exact h),by rw [F1,nb];rfl,rfl⟩
 | r + 1,x,a,h=>by
   rw [Fq] at h
   cases e:w[a]? with
   | none=>rw [A6 e] at h;cases h
   | some c=>
     rw [AW e] at h;have hc:=hw c (List.mem_of_getElem? e)
     by_cases q:x * 256 + c<=M / 2 ^ (8 * r)
     ·rw [if_pos (decide_eq_true q)] at h;obtain ⟨y,h1,h2,h3,h4,h5⟩:=K5 hw r _ _ h;refine ⟨y,h1,?_,λ_=>h3 q,?_,by lia⟩
      ·rw [Nat.pow_succ,<-Nat.div_div_eq_div_mul,h2];lia
      ·rw [Mw,h2,E6 e (by lia),G6,h4]
       congr 3
       lia
     ·rw [if_neg (by rw [decide_eq_true_eq];exact q)] at h;cases h
theorem LB {w:List Nat}{v:D}{b:Nat}:∀(n:Nat) (cs:List Nat) (a:Nat),(FY n cs).run w a = .told v b->v = .str ⟨(cs++seg w a b).toArray⟩/\(seg w a b).length=n/\(∀c∈seg w a b,BJ c=true)/\b=a + n
 | 0,cs,a,h=>by
   rw [FY,Rd.run] at h
   cases h
   rw [F1,List.append_nil];exact ⟨rfl,rfl,(λc z=>nomatch z),rfl⟩
 | n + 1,cs,a,h=>by
   rw [FY] at h
   cases e:w[a]? with
   | none=>rw [A6 e] at h;cases h
   | some c=>
     rw [AW e] at h
     by_cases q:BJ c=true
     ·rw [if_pos q] at h;obtain ⟨h1,h2,h3,h4⟩:=LB n _ _ h;rw [E6 e (by lia)];refine ⟨by rw [h1,List.append_assoc];rfl,by rw [List.length_cons,h2],λx hx=>?_,by lia⟩;rcases List.mem_cons.mp hx with rfl | hx
      ·exact q
      ·exact h3 x hx
     ·rw [if_neg q] at h;cases h
theorem KW {w:List Nat}{s:Sh}{p:Rd}(hp:∀(a b:Nat) (v:D),a<=w.length->p.run w a = .told v b->AA s v=true/\AE s v=wD (seg w a b)){v:D}{b:Nat}:∀(n:Nat) (ds:List D) (a:Nat),a<=w.length->(Fp p n ds).run w a = .told v b->∃es,v = .lst (ds++es)/\es.length=n/\(∀e∈es,AA s e=true)/\(es.map λd=>AE s d).flatten=wD (seg w a b)/\a<=b
 | 0,ds,a,_,h=>by
   rw [Fp,Rd.run] at h
   cases h
   exact ⟨[],by rw [List.append_nil],rfl,(λe z=>nomatch z),by rw [F1];rfl,Nat.le_refl _⟩
 | n + 1,ds,a,ha,h=>by
   rw [Fp,DJ] at h
   cases e:p.run w a with
   | short=>rw [e] at h;cases h
   | broken k=>rw [e] at h;cases h
   | told u a'=>
     rw [e,RR.thn] at h;have hle:=Dg p a ha e;have hu:=hp a a' u ha e;obtain ⟨es,h1,h2,h3,h4,h5⟩:=KW hp n _ _ hle.2 h;refine ⟨u :: es,by rw [h1,List.append_assoc];rfl,by rw [List.length_cons,h2],λx hx=>?_,?_,by lia⟩
     ·rcases List.mem_cons.mp hx with rfl | hx
      ·exact hu.1
      ·exact h3 x hx
     ·rw [List.map_cons,List.flatten_cons,h4,hu.2,MK hle.1 h5,LL]
theorem Lr:∀(n:Nat) (s:Sh),s.depth<=n->wf s=true->∀(w:List Nat),(∀x∈w,x < 256)->∀(a b:Nat) (v:D),a<=w.length->(pSh n s).run w a = .told v b->AA s v=true/\AE s v=wD (seg w a b)
 | 0,s,hs,_,_,_,_,_,_,_,_=>absurd s.depth_pos (by lia)
 | n + 1,s,hs,hwf,w,hw,a,b,v,ha,h=>by
   cases s with
   | nothing=>
     rw [pSh,Rd.run] at h
     cases h
     rw [F1,AE];exact ⟨by simp [AA,FV],rfl⟩
   | number lo hi=>
     rw [pSh] at h;obtain ⟨y,rfl,_,h3,h4,_⟩:=K5 hw _ _ _ h;have hy:=h3 (Nat.zero_le _);simp only [wf,Bool.and_eq_true,decide_eq_true_eq] at hwf;refine ⟨?_,?_⟩
     ·simp only [AA,Bool.and_eq_true,decide_eq_true_eq];lia
     ·rw [AE,<-h4,show (lo + (y:Int) - lo).toNat=y by lia]
   | text q=>
     rw [pSh] at h
     cases e:w[a]? with
     | none=>rw [A6 e] at h;cases h
     | some c=>
       rw [AW e] at h
       by_cases hc:(c:Int)<=q
       ·rw [if_pos (decide_eq_true hc)] at h;obtain ⟨rfl,h2,h3,h4⟩:=LB _ _ _ h;rw [List.nil_append];have hl:(⟨(seg w (a + 1) b).toArray⟩:Str).length=c:=by rw [Fe];exact h2
        refine ⟨?_,?_⟩
        ·simp only [AA,Bool.and_eq_true,decide_eq_true_eq,List.all_eq_true];exact ⟨by rw [hl];exact hc,h3⟩
        ·rw [AE,hl,E6 e (by lia),G6];rfl
       ·rw [if_neg (by rw [decide_eq_true_eq];exact hc)] at h;cases h
   | list s q=>
     simp only [wf,Bool.and_eq_true,decide_eq_true_eq] at hwf;rw [Sh.depth] at hs;rw [pSh] at h
     cases e:w[a]? with
     | none=>rw [A6 e] at h;cases h
     | some c=>
       have hal:=(List.getElem?_eq_some_iff.mp e).1;rw [AW e] at h
       by_cases hc:(c:Int)<=q
       ·rw [if_pos (decide_eq_true hc)] at h;obtain ⟨es,rfl,h2,h3,h4,h5⟩:=KW (λa b v=>Lr n s (by lia) hwf.2 w hw a b v) _ _ _ hal h;rw [List.nil_append];refine ⟨?_,?_⟩
        ·rw [AA,Bool.and_eq_true,decide_eq_true_eq,List.all_eq_true];exact ⟨by rw [h2];exact hc,h3⟩
        ·rw [AE,h4,h2,E6 e h5,G6]
       ·rw [if_neg (by rw [decide_eq_true_eq];exact hc)] at h;cases h
   | pair s r=>
     simp only [wf,Bool.and_eq_true] at hwf;rw [Sh.depth] at hs;rw [pSh,DJ] at h
     cases e:(pSh n s).run w a with
     | short=>rw [e] at h;cases h
     | broken k=>rw [e] at h;cases h
     | told u a'=>
       rw [e,RR.thn,DJ] at h;have l1:=Dg _ a ha e;have i1:=Lr n s (by lia) hwf.1 w hw a a' u ha e
       cases e2:(pSh n r).run w a' with
       | short=>rw [e2] at h;cases h
       | broken k=>rw [e2] at h;cases h
       | told u2 a2=>
         rw [e2] at h;have l2:=Dg _ a' l1.2 e2;have i2:=Lr n r (by lia) hwf.2 w hw a' a2 u2 l1.2 e2
         cases h
         refine ⟨?_,?_⟩
         ·simp only [AA,Bool.and_eq_true];exact ⟨i1.1,i2.1⟩
         ·rw [AE,i1.2,i2.2,MK l1.1 l2.1,LL]
   | choice ss=>
     simp only [wf,Bool.and_eq_true,decide_eq_true_eq] at hwf;rw [Sh.depth] at hs;rw [pSh] at h
     cases e:w[a]? with
     | none=>rw [A6 e] at h;cases h
     | some c=>
       have hal:=(List.getElem?_eq_some_iff.mp e).1;rw [AW e] at h
       by_cases hc:c < ss.length
       ·rw [if_pos (decide_eq_true hc),DJ] at h;have e0:ss[c]?=some ss[c]:=List.getElem?_eq_getElem hc;rw [List.getD_eq_getElem?_getD,e0,Option.getD_some] at h
        cases e2:(pSh n ss[c]).run w (a + 1) with
        | short=>rw [e2] at h;cases h
        | broken k=>rw [e2] at h;cases h
        | told u a2=>
          rw [e2] at h;have l1:=Dg _ (a + 1) hal e2;have i1:=Lr n ss[c] (Nat.le_trans (DL ss _ _ e0) (by lia)) (Eb hwf.2 _ (List.getElem_mem hc)) w hw (a + 1) a2 u hal e2
          cases h
          refine ⟨?_,?_⟩
          ·simp only [AA,Bool.and_eq_true,decide_eq_true_eq];refine ⟨⟨rfl,by lia,by lia⟩,?_⟩;rw [Int.toNat_natCast,DH ss _ _ _ e0];exact i1.1
          ·rw [AE,Int.toNat_natCast,Ef ss _ _ _ e0,i1.2,E6 e l1.1,G6]
       ·rw [if_neg (by rw [decide_eq_true_eq];exact hc)] at h;cases h
theorem Bg {x:Str}{kvs:List (Key×D)}{d:D}(e:t.S[n]?=some (.dct kvs))(e2:BM kvs (.inr x)=some d)(h:P d t):W (AO (.obj n) (.str x)) t P:=
 ⟨d,t,by simp only [AO,e,e2];rfl,h⟩
variable {U:Unit->T->Prop}
theorem LP {g:M D}{d:D}(h:W f t λo t1=>W g t1 λi t2=>W (FD o i d) t2 U):W (Ec f g d) t U:=Ca (h.mono λo t1 h1=>Ca h1)
theorem D9 {x:Str}{d:D}{kvs:List (Key×D)}(e:t.S[n]?=some (.dct kvs))(hl:kvs.length < LIM)(h:U () ⟨t.env,t.S.set n (.dct (Bx kvs (.inr x) d))⟩):W (FD (.obj n) (.str x) d) t U:=
 ⟨(),_,by simp only [FD,e,if_pos hl],h⟩
theorem LN {g:M D}{xs0:List D}(e:t.env[i]?=some (some (.own xs0)))(h:W g t λj t1=>∃n xs d,j = .int n/\t1.env[i]?=some (some (.own xs))/\atI xs n=some d/\P d t1):W (CW i g) t P:=by
 obtain ⟨j,t1,e1,n,xs,d,rfl,e2,e3,p⟩:=h;refine ⟨d,t1,?_,p⟩;unfold CW;simp only [e];show bnd g _ t=_;unfold bnd;simp only [e1,e2,e3];rfl
theorem IM {g:M D}{d:D}{xs0:List D}(e:t.env[i]?=some (some (.own xs0)))(h:W g t λj t1=>∃n xs k,j = .int n/\t1.env[i]?=some (some (.own xs))/\ixN xs.length n=some k/\U () { t1 with env:=t1.env.set i (some (.own (xs.set k d))) }):W (B4 i g d) t U:=by
 obtain ⟨j,t1,e1,n,xs,k,rfl,e2,e3,p⟩:=h;refine ⟨(),_,?_,p⟩;unfold B4;simp only [e];show bnd g _ t=_;unfold bnd;simp only [e1,e2,e3];rfl
theorem N7 {l:List (Str×M D)}(h:W (Dl l) ⟨t.env,t.S++[.dct []]⟩ λps t1=>t1.S[t.S.length]?=some (.dct [])/\ps.length<=15/\P (.obj t.S.length) ⟨t1.env,t1.S.set t.S.length (.dct (EK ps))⟩):W (EA l) t P:=by
 obtain ⟨ps,t1,e1,e2,e3,p⟩:=h;refine ⟨_,_,?_,p⟩;unfold EA bnd;simp only [e1];unfold GL;simp only [e2,if_pos e3]
theorem GH {Q:List (Key×D)->T->Prop}(h:Q [] t):W (Dl []) t Q:=⟨_,_,rfl,h⟩
theorem B5 {k:Str}{r:List (Str×M D)}{Q:List (Key×D)->T->Prop}(h:W f t λd t1=>W (Dl r) t1 λps t2=>Q ((.inr k,d) :: ps) t2):W (Dl ((k,f) :: r)) t Q:=
 Ca (h.mono λd t1 h1=>Ca (h1.mono λps t2 h2=>⟨_,_,rfl,h2⟩))
structure St where
 rest:Int
 mixed:Bool
 turn:Int
noncomputable def St.ob (s:St):Ob:=.dct [(.inr (Str.ofString "rest"),.int s.rest),(.inr (Str.ofString "mixed"),.bl s.mixed),(.inr (Str.ofString "turn"),.int s.turn)]
noncomputable def take (s:St)(m:Int):Int×St:=
 if s.mixed=false then (s.rest % m,⟨s.rest / m,s.mixed,s.turn⟩)
 else
  let stir:=(s.rest % 2147483579 + 70001 * (s.turn + 1)) % 2147483579
  let rest:=(stir * stir % 2147483563 * 50021 + 7) % 2147483579
  (rest / 5 % m,⟨rest,s.mixed,s.turn + 1⟩)
theorem D7 (a:Int)(n:Nat):(AJ a n).length=n:=by simp [AJ]
inductive GS where
 | fin
 | st (side:Str) (ws:List (Str×Sh×Int))
def wdD (w:Str×Sh×Int):D:=.tup [.str w.1,w.2.1.d,.int w.2.2]
def GS.d:GS->D
 | .fin=>.tup [.str (Str.ofString "end")]
 | .st side ws=>.tup [.str side,.lst (ws.map wdD)]
noncomputable def GS.isFin:GS->Bool
 | .fin=>true
 | _=>false
structure WOk (n:Int)(w:Str×Sh×Int):Prop where
 ok:wf w.2.1=true
 dep:w.2.1.depth<=3
 lo:0<=w.2.2
 hi:w.2.2 < n
 nm:w.1.length<=90000
inductive GSOk (n:Int):GS->Prop
 | fin:GSOk n .fin
 | st {side:Str} {ws:List (Str×Sh×Int)}:(side=Str.ofString "left"\/side=Str.ofString "right")->0 < ws.length->ws.length<=9->(ws.map (·.1)).Nodup->(∀w∈ws,WOk n w)->GSOk n (.st side ws)
structure GOk (g:List GS):Prop where
 ne:0 < g.length
 le:g.length<=30
 all:∀x∈g,GSOk g.length x
def IP (f:Fn):Prop:=∀(n:Int) (x:GS),GSOk n x->Pure1 f [x.d] (.bl x.isFin)
theorem OY:IP (fnOf 1 1 Hv):=by
 intro n x hx S;refine Ax rfl ?_;unfold Hv
 cases hx with
 | fin=>
   rw [GS.d];right;exact ⟨by simp [GS.isFin],rfl⟩
 | st hs _ _ _ _=>
   rw [GS.d];right;refine ⟨?_,rfl⟩;rcases hs with rfl | rfl <;> simp [GS.isFin]
def GS.words:GS->D
 | .fin=>.tup []
 | .st _ ws=>.lst (ws.map wdD)
noncomputable def GS.ws:GS->List (Str×Sh×Int)
 | .fin=>[]
 | .st _ ws=>ws
variable {α:Type}
theorem KG {p:α->Bool}{l:List α}(h:∀i (hi:i < l.length),i < j->p l[i]=false){x:α}(hx:l[j]?=some x)(hp:p x=true):l.findIdx? p=some j:=by
 obtain ⟨hj,e⟩:=List.getElem?_eq_some_iff.mp hx;rw [List.findIdx?_eq_some_iff_getElem];exact ⟨hj,by rw [e];exact hp,λi hi=>by simpa using h i (by lia) hi⟩
theorem C9 {x:Str}:eqN n (.str x) (.str x)=some true:=by
 cases n <;> (show some (x == x)=some true;rw [beq_self_eq_true])
theorem GN {x:Int}:eqN n (.int x) (.int x)=some true:=by
 cases n <;> (show some (x == x)=some true;rw [beq_self_eq_true])
theorem CG (h:∀x∈xs,eqN n x x=some true):eqN (n + 1) (.tup xs) (.tup xs)=some true:=by
 rw [eqN,Eg h];simp
theorem SU (h:∀x∈xs,eqN n x x=some true):eqN (n + 1) (.lst xs) (.lst xs)=some true:=by
 rw [eqN,if_pos rfl,Eg h]
theorem Gh:∀(n:Nat) (s:Sh),s.depth<=n->∀m,2 * n<=m->eqN m s.d s.d=some true
 | 0,s,h,_,_=>absurd s.depth_pos (by lia)
 | n + 1,s,h,m,hm=>by
   obtain ⟨m,rfl⟩:∃k,m=k + 2:=Nat.exists_eq_add_of_le' (by lia)
   cases s with
   | nothing=>rw [Sh.d];exact CG (by simp [C9])
   | number lo hi=>rw [Sh.d];exact CG (by simp [C9,GN])
   | text q=>rw [Sh.d];exact CG (by simp [C9,GN])
   | list s q=>
     rw [Sh.depth] at h;have:=Gh n s (by lia) (m + 1) (by lia);rw [Sh.d];exact CG (by simp [C9,GN,this])
   | pair s r=>
     rw [Sh.depth] at h;have h1:=Gh n s (by lia) (m + 1) (by lia);have h2:=Gh n r (by lia) (m + 1) (by lia);rw [Sh.d];exact CG (by simp [C9,h1,h2])
   | choice ss=>
     rw [Sh.depth] at h;have h1:eqN (m + 1) (.tup (shD ss)) (.tup (shD ss))=some true:=CG λx hx=>by
      obtain ⟨s,hs,rfl⟩:=Lz hx;exact Gh n s (Nat.le_trans (GC hs) (by lia)) m (by lia)
     rw [Sh.d];exact CG (by simp [C9,h1])
theorem Vw {n:Int}{x:GS}(h:GSOk n x){m:Nat}(hm:9<=m):eqN m x.d x.d=some true:=by
 obtain ⟨m,rfl⟩:∃k,m=k + 3:=Nat.exists_eq_add_of_le' (by lia)
 cases h with
 | fin=>rw [GS.d];exact CG (by simp [C9])
 | @st side ws h1 h2 h3 h4 h5=>
   have hw:eqN (m + 2) (.lst (ws.map wdD)) (.lst (ws.map wdD))=some true:=SU λx hx=>by
    obtain ⟨w,hw,rfl⟩:=List.mem_map.mp hx;unfold wdD;exact CG (by simp [C9,GN,Gh 3 w.2.1 (h5 w hw).dep m (by lia)])
   rw [GS.d];exact CG (by simp [C9,hw])
noncomputable def GS.side:GS->Str
 | .fin=>Str.ofString "end"
 | .st s _=>s
noncomputable def AS (g:List GS)(q:Nat):GS:=g.getD q .fin
def B1 (g:List GS)(q p:Nat):Str×Sh×Int:=(AS g q).ws.getD p (Str.ofString "",.nothing,0)
def CO (g:List GS)(q p:Nat):Nat:=(B1 g q p).2.2.toNat
def ZA (g:List GS)(q p:Nat)(v:D):D:=.tup [.str (AS g q).side,.str (B1 g q p).1,v]
abbrev Mv:=Nat×D
def Iw (g:List GS):Nat->List Mv->Nat
 | q,[]=>q
 | q,(p,_) :: r=>Iw g (CO g q p) r
def Ss (g:List GS):Nat->List Mv->List D
 | _,[]=>[]
 | q,(p,v) :: r=>ZA g q p v :: Ss g (CO g q p) r
structure MvOk (g:List GS)(q:Nat)(p:Nat)(v:D):Prop where
 lt:q < g.length
 pl:p < (AS g q).ws.length
 fit:AA (B1 g q p).2.1 v=true
def okQ (g:List GS):Nat->List Mv->Prop
 | _,[]=>True
 | q,(p,v) :: r=>MvOk g q p v/\okQ g (CO g q p) r
variable {g:List GS}
theorem Jf (h:GOk g){q:Nat}(hq:q < g.length):GSOk g.length (AS g q):=by
 unfold AS;rw [List.getD_eq_getElem?_getD,List.getElem?_eq_getElem hq];exact h.all _ (List.getElem_mem hq)
theorem Hu {q:Nat}(hq:q < g.length):atI (g.map GS.d) q=some (AS g q).d:=by
 unfold atI;rw [BQ (by lia) (by rw [List.length_map];lia)];show (g.map GS.d)[(q:Int).toNat]?=_;unfold AS;rw [Int.toNat_natCast,List.getElem?_map,List.getD_eq_getElem?_getD,List.getElem?_eq_getElem hq];rfl
variable {p:Nat}
theorem N2 {q:Nat}(hp:p < (AS g q).ws.length):∃side ws,AS g q = .st side ws/\p < ws.length/\ws[p]?=some (B1 g q p):=by
 unfold B1
 cases e:AS g q with
 | fin=>rw [e] at hp;simp [GS.ws] at hp
 | st side ws=>
   rw [e] at hp;have hp:p < ws.length:=hp;refine ⟨side,ws,rfl,hp,?_⟩;show ws[p]?=some (ws.getD p _);rw [List.getD_eq_getElem?_getD,List.getElem?_eq_getElem hp];rfl
theorem IN {ws:List (Str×Sh×Int)}{w:Str×Sh×Int}(e:ws[p]?=some w):atI (ws.map wdD) p=some (wdD w):=by
 obtain ⟨hp,_⟩:=List.getElem?_eq_some_iff.mp e;unfold atI;rw [BQ (by lia) (by rw [List.length_map];lia)];show (ws.map wdD)[(p:Int).toNat]?=_;rw [Int.toNat_natCast,List.getElem?_map,e];rfl
theorem Od (h:GOk g){q p:Nat}(hq:q < g.length)(hp:p < (AS g q).ws.length):WOk g.length (B1 g q p):=by
 obtain ⟨side,ws,e,hp',e2⟩:=N2 hp;have:=Jf h hq;rw [e] at this
 cases this with
 | st _ _ _ _ h5=>exact h5 _ (List.mem_of_getElem? e2)
theorem Nu {ws:List (Str×Sh×Int)}(nd:(ws.map (·.1)).Nodup){p:Nat}{w:Str×Sh×Int}(e:ws[p]?=some w):(ws.findIdx? λx=>x.1 == w.1)=some p:=by
 obtain ⟨hp,ep⟩:=List.getElem?_eq_some_iff.mp e;refine KG (λi hi hip=>?_) e (by simp);rw [<-ep];have hne:¬ws[i].1=ws[p].1:=λz=>by
  have h1:i < (ws.map (·.1)).length:=by rw [List.length_map];exact hi
  have h2:p < (ws.map (·.1)).length:=by rw [List.length_map];exact hp
  have:(ws.map (·.1))[i]=(ws.map (·.1))[p]:=by rw [List.getElem_map,List.getElem_map];exact z
  have:=(List.getElem_inj nd).mp this;lia
 simpa using hne
abbrev kR:Key:=.inr (Str.ofString "rest")
abbrev kM:Key:=.inr (Str.ofString "mixed")
abbrev kC:Key:=.inr (Str.ofString "count")
abbrev Yb (a b c:D):List (Key×D):=[(kR,a),(kM,b),(kC,c)]
def Room (k r:Nat)(S:List Ob):Prop:=∃(a c:Int) (b:Bool),S[k]?=some (.dct (Yb (.int a) (.bl b) (.int c)))/\0<=c/\c + r<=1000000000000000000000000000000
theorem N8 {i j:Int}(h1:i.natAbs < 2 ^ 512)(h2:j.natAbs < 2 ^ 512)(h:P (.int (i * j)) t):W (Hx (.int i) (.int j)) t P:=
 ⟨_,_,by simp only [Hx,i2C,K2,decide_eq_true h1,decide_eq_true h2];rfl,h⟩
theorem SI {i j:Int}(h1:0 < j)(h2:j < 18446744073709551616)(h:P (.int (i / j)) t):W (GP (.int i) (.int j)) t P:=
 ⟨_,_,by simp only [GP,i2C,KB,decide_eq_true h1,decide_eq_true h2];rfl,h⟩
theorem Iy {i:Int}(h0:0<=i)(h:i < 10000000000000000000000000000000000000000000000000000000000000000000000000000000):i.natAbs < 2 ^ 512:=by
 have:(10000000000000000000000000000000000000000000000000000000000000000000000000000000:Nat)<=2 ^ 512:=by decide
 lia
theorem AH {k:Nat}{o':Ob}(h:S[k]?=some o):(S.set k o')[k]?=some o':=Tq h
theorem Bi {x:Ob}:(S++[x])[S.length]?=some x:=by simp
noncomputable def cs:Nat->Nat
 | 0=>10
 | d + 1=>10 + 3 * cs d
theorem XH (d:Nat):10<=cs d:=by cases d <;> simp [cs]
variable {m:Nat}
theorem El (h:n<=m)(hm:m<=1000:=by decide):BE (n:Int)=true:=D8 (by lia) (by lia)
theorem KS {l:List α}{x:α}(h:l.length + (m + 1)=n):(l++[x]).length + m=n:=by rw [List.length_append,<-h];simp only [List.length_cons,List.length_nil];lia
theorem TN {l:List α}{x:α}{p:α->Prop}(h:∀y∈l,p y)(hx:p x):∀y∈l++[x],p y:=λy hy=>by
 rcases List.mem_append.mp hy with h' | h'
 ·exact h y h'
 ·rw [List.mem_singleton] at h';subst h';exact hx
theorem O3 {a:Nat}(h:a<=n)(hn:n<=100000:=by decide):a<=LIM:=Nat.le_trans h hn
theorem Zm (h:∀x∈ss,x.depth<=n):(Sh.choice ss).depth<=n + 1:=by
 rw [Sh.depth];refine Nat.succ_le_succ ?_
 induction ss with
 | nil=>rw [EH];exact Nat.zero_le _
 | cons x r ih=>rw [EH];exact Nat.max_le.mpr ⟨h x List.mem_cons_self,ih λy m=>h y (List.mem_cons_of_mem _ m)⟩
structure Drawn (k r:Nat)(dp:Nat)(v:D)(S':List Ob):Prop where
 ex:∃s:Sh,v=s.d/\s.depth<=dp/\wf s=true
 pool:Room k r S'
theorem Zo {s:Sh}(h:(Sh.list s q).depth<=m + 1):s.depth<=m:=by rw [Sh.depth] at h;exact Nat.le_of_succ_le_succ h
theorem Vu {a b:Sh}(h:(Sh.pair a b).depth<=m + 1):a.depth<=m/\b.depth<=m:=by rw [Sh.depth] at h;lia
theorem Zn (h:(Sh.choice ss).depth<=m + 1):∀x∈ss,x.depth<=m:=λx hx=>by rw [Sh.depth] at h;exact Nat.le_trans (GC hx) (Nat.le_of_succ_le_succ h)
theorem Yi {k:Nat}(h:k < ss.length):atI (shD ss) (k:Int)=some (ss[k]).d:=by
 unfold atI;rw [BQ (by lia) (by rw [FC];lia)];show (shD ss)[(k:Int).toNat]?=_;rw [Int.toNat_natCast,G0,List.getElem?_eq_getElem h];rfl
noncomputable def vB:Nat->Nat
 | 0=>10
 | m + 1=>10 + vB m * 3
theorem Tg {A v b l:Nat}(h:A + b * (l + 1)<=c)(hv:v<=b):A + v + b * l<=c:=by rw [Nat.mul_succ] at h;lia
theorem Wl (h:wf (.number lo hi)=true):lo<=hi/\0 < hi - lo + 1/\hi - lo + 1 < 4611686018427387904/\wid (hi - lo).toNat<=8:=by
 simp only [wf,Bool.and_eq_true,decide_eq_true_eq] at h;refine ⟨by lia,by lia,by lia,GI 8 _ ?_⟩;have:(256:Nat) ^ 8=18446744073709551616:=by decide
 lia
theorem T0 {g:Int}(z0:0<=g)(z1:g < hi - lo + 1):lo<=lo + g/\lo + g<=hi:=by lia
theorem Sq {g:Int}(c:Nat)(g0:0<=g)(q0:0<=q)(g1:g < (c:Int) + 1):∃m:Nat,(if g < q then g else q)=m/\m<=c/\(m:Int)<=q:=⟨(if g < q then g else q).toNat,by split <;> lia⟩
structure Val (k r:Nat)(s:Sh)(c:Nat)(v:D)(S':List Ob):Prop where
 fit:AA s v=true
 len:(AE s v).length<=c
 pool:Room k r S'
def okB (g:List GS):Nat->List Mv->Prop
 | _,[]=>True
 | q,(p,v) :: r=>(AE (B1 g q p).2.1 v).length<=400/\okB g (CO g q p) r
structure TOk (g:List GS)(mv:List Mv):Prop where
 ok:okQ g 0 mv
 bd:okB g 0 mv
 len:mv.length<=60
theorem YU {k:Nat}{h:List D->List D->Option (List D)}{g:M (List D)}(w:W f t λo t1=>o = .obj k/\∃xs0,t1.S[k]?=some (.lst xs0)/\W g t1 λds t2=>∃xs ys,t2.S[k]?=some (.lst xs)/\h xs ds=some ys/\P .non ⟨t2.env,t2.S.set k (.lst ys)⟩):W (objM h f g) t P:=by
 unfold objM;refine W_bnd.mpr (w.mono λo t1 z9=>?_);obtain ⟨e,xs0,e1,w⟩:=z9;subst e;obtain ⟨ds,t2,e2,xs,ys,e3,e4,p⟩:=w;refine ⟨_,_,?_,p⟩;simp only [e1,bnd,e2,e3,e4];rfl
def F4 (g:List GS)(sd:Str):Nat->List Mv->List D
 | _,[]=>[]
 | q,(p,v) :: r=>(if (AS g q).side=sd then .int p :: AE (B1 g q p).2.1 v else [])++F4 g sd (CO g q p) r
abbrev kL:Key:=.inr (Str.ofString "left")
abbrev kRt:Key:=.inr (Str.ofString "right")
theorem kLR:¬kL=kRt:=by intro h;injection h with h;rw [Gv] at h;exact absurd h (by decide)
theorem kRL:¬kRt=kL:=λh=>kLR h.symm
theorem sLR:¬Str.ofString "left" = Str.ofString "right":=λh=>kLR (congrArg Sum.inr h)
variable {a b:D}
theorem TH:BM [(kL,a),(kRt,b)] kL=some a:=by simp [BM,List.find?_cons]
theorem TJ:BM [(kL,a),(kRt,b)] kRt=some b:=by
 unfold BM;rw [List.find?_cons,show decide (kL=kRt)=false from decide_eq_false kLR];simp [List.find?_cons]
theorem Q3:EK [(kL,a),(kRt,b)]=[(kL,a),(kRt,b)]:=by
 unfold EK;simp only [List.foldl_cons,List.foldl_nil];have e1:Bx [] kL a=[(kL,a)]:=by simp [Bx]
 rw [e1];unfold Bx;rw [if_neg (by simp only [List.any_cons,List.any_nil,Bool.or_false,decide_eq_true_eq];exact kLR)];rfl
theorem TK {d:D}:Bx [(kL,a),(kRt,b)] kL d=[(kL,d),(kRt,b)]:=by
 unfold Bx;rw [if_pos (by simp)];simp only [List.map_cons,List.map_nil,if_true,if_neg kRL]
theorem TL {d:D}:Bx [(kL,a),(kRt,b)] kRt d=[(kL,a),(kRt,d)]:=by
 unfold Bx;rw [if_pos (by simp)];simp only [List.map_cons,List.map_nil,if_true,if_neg kLR]
abbrev sL:Str:=Str.ofString "left"
abbrev sR:Str:=Str.ofString "right"
structure Wr (K A B:Nat)(S:List Ob)(xs ys:List D):Prop where
 k:S[K]?=some (.dct [(kL,.obj A),(kRt,.obj B)])
 a:S[A]?=some (.lst xs)
 b:S[B]?=some (.lst ys)
 ab:A≠B
 ka:K≠A
 kb:K≠B
def FrO (F:List (Nat×Ob))(k:Nat)(S:List Ob):Prop:=∀p∈F,p.1≠k/\S[p.1]?=some p.2
def aN (F:List (Nat×Ob))(S:List Ob):Prop:=∀p∈F,S[p.1]?=some p.2
def XD (F:List (Nat×Ob))(k r:Nat)(S:List Ob):Prop:=Room k r S/\FrO F k S
structure ValF (F:List (Nat×Ob))(k r:Nat)(s:Sh)(c:Nat)(v:D)(S':List Ob):Prop where
 fit:AA s v=true
 len:(AE s v).length<=c
 pool:XD F k r S'
noncomputable def GS.sd:GS->Str
 | .fin=>Str.ofString "end"
 | .st s _=>s
inductive Odd (x:GS):D->Prop
 | non:Odd x .non
 | lst {ds:List D}:Odd x (.lst ds)
 | two {a b:D}:Odd x (.tup [a,b])
 | four {a b c d:D}:Odd x (.tup [a,b,c,d])
 | sideN {b c:D}:Odd x (.tup [.non,b,c])
 | side {s:Str} {b c:D}:¬s=x.sd->Odd x (.tup [.str s,b,c])
 | nmN {s:Str} {c:D}:Odd x (.tup [.str s,.non,c])
 | nmI {s:Str} {i:Int} {c:D}:Odd x (.tup [.str s,.int i,c])
 | nm {s nm:Str} {c:D}:(x.ws.findIdx? λw=>w.1 == nm)=none->Odd x (.tup [.str s,.str nm,c])
 | val {s nm:Str} {c:D} {p:Nat} {w:Str×Sh×Int}:(x.ws.findIdx? λw=>w.1 == nm)=some p->x.ws[p]?=some w->okD c=true->AA w.2.1 c=false->Odd x (.tup [.str s,.str nm,c])
def Rq (n:Nat)(d:D):Prop:=∀m,n<=m->eqN m d d=some true
theorem PJ {i:Int}:Rq n (.int i):=λm _=>by cases m <;> (show some (i == i)=some true;rw [beq_self_eq_true])
theorem PL {i:Str}:Rq n (.str i):=λm _=>by cases m <;> (show some (i == i)=some true;rw [beq_self_eq_true])
theorem PK:Rq n .non:=λm _=>by cases m <;> rfl
theorem W2 (h:∀x∈xs,Rq n x):Rq (n + 1) (.tup xs):=λm hm=>by
 obtain ⟨k,rfl⟩:∃k,m=k + 1:=Nat.exists_eq_add_of_le' (by lia);have e:CT (eqN k) xs xs=some true:=Eg λx hx=>h x hx k (by lia);rw [eqN,e];simp
theorem Lp (h:∀x∈xs,Rq n x):Rq (n + 1) (.lst xs):=λm hm=>by
 obtain ⟨k,rfl⟩:∃k,m=k + 1:=Nat.exists_eq_add_of_le' (by lia);rw [eqN,if_pos rfl];exact Eg λx hx=>h x hx k (by lia)
def mB:Nat->Nat
 | 0=>0
 | m + 1=>10 + vB m * 2 + mB m * 2
structure Mis (n:Nat)(s:Sh)(v:D):Prop where
 ok:okD v=true
 no:AA s v=false
 rq:Rq n v
structure Fit (n:Nat)(s:Sh)(v:D):Prop where
 ok:okD v=true
 fit:AA s v=true
 rq:Rq n v
def Gr (S S':List Ob):Prop:=S.length<=S'.length/\∀i,i < S.length->S'[i]?=S[i]?
theorem Gr.refl:Gr S S:=⟨Nat.le_refl _,λ_ _=>rfl⟩
theorem Gr.trans {S S1 S2:List Ob}(a:Gr S S1)(b:Gr S1 S2):Gr S S2:=⟨Nat.le_trans a.1 b.1,λi h=>(b.2 i (Nat.lt_of_lt_of_le h a.1)).trans (a.2 i h)⟩
theorem Gr.app {ex:List Ob}:Gr S (S++ex):=⟨by rw [List.length_append];lia,λi h=>List.getElem?_append_left h⟩
variable {S':List Ob}
theorem Gr.get {k:Nat}(a:Gr S S')(h:S[k]?=some o):S'[k]?=some o:=by rw [a.2 k (List.getElem?_eq_some_iff.mp h).1];exact h
abbrev lr (a b:D):List (Key×D):=[(kL,a),(kRt,b)]
abbrev dW (l r:List Nat):List (Key×D):=lr (.lst (wD l)) (.lst (wD r))
abbrev dP (a b:Nat):List (Key×D):=lr (.int a) (.int b)
noncomputable def onS {α:Type}(s:Str)(a b:α):α:=if s=sL then a else b
theorem Wd {s:Str}(h:s=sL\/s=sR):BM (lr a b) (.inr s)=some (onS s a b):=by
 unfold onS;rcases h with rfl | rfl
 ·rw [if_pos rfl];exact TH
 ·rw [if_neg (Ne.symm sLR)];exact TJ
theorem O6 {s:Str}{d:D}(h:s=sL\/s=sR):Bx (lr a b) (.inr s) d=lr (onS s d a) (onS s b d):=by
 unfold onS;rcases h with rfl | rfl
 ·rw [if_pos rfl,if_pos rfl];exact TK
 ·rw [if_neg (Ne.symm sLR),if_neg (Ne.symm sLR)];exact TL
inductive Sr where
 | stop
 | brk (k:Nat) (s:Str)
 | next (m:D) (h a b:Nat)
def Bh (side:Str)(ws:List (Str×Sh×Int))(w:List Nat)(p:Nat):RR×Nat:=match w[p]? with
 | none=>(.short,0)
 | some c=>match ws[c]? with
   | none=>(.broken p,0)
   | some wd=>((pSh 3 wd.2.1).run w (p + 1),c)
def D6 (side:Str)(ws:List (Str×Sh×Int))(w:List Nat)(p:Nat):D:=match Bh side ws w p with
 | (.short,_)=>.non
 | (.broken k,_)=>.exc "Broken" [.int k,.str side]
 | (.told v e,c)=>.tup [.tup [.str side,.str (ws.getD c (Str.ofString "",.nothing,0)).1,v],.int (ws.getD c (Str.ofString "",.nothing,0)).2.2,.int e]
def Yj (g:List GS)(wl wr:List Nat)(h a b:Nat):Sr:=match AS g h with
 | .fin=>.stop
 | .st side ws=>match Bh side ws (onS side wl wr) (onS side a b) with
   | (.short,_)=>.stop
   | (.broken k,_)=>.brk k side
   | (.told v e,c)=>.next (.tup [.str side,.str (ws.getD c (Str.ofString "",.nothing,0)).1,v]) (ws.getD c (Str.ofString "",.nothing,0)).2.2.toNat (onS side e a) (onS side b e)
def Qc (f:Fn):Prop:=∀(n:Int) (side:Str) (ws:List (Str×Sh×Int)) (w:List Nat) (p:Nat),GSOk n (.st side ws)->p<=w.length->w.length<=50000->Pure1 f [(GS.st side ws).d,.lst (wD w),.int p] (D6 side ws w p)
theorem Wg {c:Fn}(hc:HR c 3):Qc (fnOf 3 6 (D4 c)):=by
 intro n side ws w p hgs hp hwl S;have hlw:=Bd w
 cases hgs with
 | @st _ _ hs1 hs2 hs3 hs4 hs5=>
 refine Ax rfl ?_;unfold D4;rw [GS.d]
 cases hb:w[p]? with
 | none=>
   have hpl:¬p < w.length:=by rw [List.getElem?_eq_none_iff] at hb;lia
   rw [show D6 side ws w p = .non by unfold D6 Bh;rw [hb]];symm;rw [hlw];refine Du (by simp;lia) ?_;symm;refine ⟨rfl,?_⟩;symm;exact ⟨rfl,rfl⟩
 | some cc=>
   obtain ⟨hpl,_⟩:=List.getElem?_eq_some_iff.mp hb;have hix:atI (wD w) (p:Int)=some (.int (cc:Int)):=by
    unfold atI;rw [BQ (by lia) (by rw [hlw];lia)];show (wD w)[(p:Int).toNat]?=_;rw [Int.toNat_natCast];exact IL hb
   symm;rw [hlw];refine B0 (by simp;lia) ?_;symm;refine Be hix ?_;symm;rw [List.length_map]
   cases hw:ws[cc]? with
   | none=>
     have hcl:¬cc < ws.length:=by rw [List.getElem?_eq_none_iff] at hw;lia
     rw [show D6 side ws w p = .exc "Broken" [.int p,.str side] by unfold D6 Bh;simp only [hb,hw]];refine Du (by simp;lia) ?_;symm;exact ⟨rfl,rfl⟩
   | some wd=>
     obtain ⟨hcl,_⟩:=List.getElem?_eq_some_iff.mp hw;have hwo:=hs5 wd (List.mem_of_getElem? hw);have hgd:ws.getD cc (Str.ofString "",.nothing,0)=wd:=by rw [List.getD_eq_getElem?_getD,hw];rfl
     have hrd:=hc wd.2.1 hwo.dep hwo.ok w (p + 1) hpl;refine B0 (by simp;lia) ?_;symm;refine Be hix ?_;symm;refine Be (IN hw) ?_;unfold wdD;dsimp only;symm
     cases e:(pSh 3 wd.2.1).run w (p + 1) with
     | told v b=>
       rw [show D6 side ws w p = .tup [.tup [.str side,.str wd.1,v],.int wd.2.2,.int b] by unfold D6 Bh;simp only [hb,hw,e,hgd]];rw [e,rrD] at hrd;refine hrd.use ?_;symm;exact ⟨rfl,rfl,rfl⟩
     | short=>
       rw [show D6 side ws w p = .non by unfold D6 Bh;simp only [hb,hw,e]];rw [e,rrD] at hrd;refine hrd.use ?_;symm;refine ⟨rfl,?_⟩;symm;exact ⟨rfl,rfl⟩
     | broken k=>
       rw [show D6 side ws w p = .exc "Broken" [.int k,.str side] by unfold D6 Bh;simp only [hb,hw,e]];rw [e,rrD] at hrd;refine hrd.use ?_;symm;exact ⟨rfl,rfl⟩
abbrev Rs:=List D×Nat×Nat×Nat×Option (Nat×Str)
def Ke (g:List GS)(wl wr:List Nat):Nat->Nat->Nat->Nat->List D->Rs
 | 0,h,a,b,t=>(t,h,a,b,none)
 | f + 1,h,a,b,t=>match Yj g wl wr h a b with
   | .stop=>(t,h,a,b,none)
   | .brk k s=>(t,h,a,b,some (k,s))
   | .next m h' a' b'=>Ke g wl wr f h' a' b' (t++[m])
structure Pl (g:List GS)(wl wr:List Nat)(h a b:Nat):Prop where
 h:h < g.length
 a:a<=wl.length
 b:b<=wr.length
def PureS (S:List Ob)(f:Fn)(ds:List D)(r:D):Prop:=Wf f ds S λr' S'=>r'=r/\S'=S
theorem PureS.use {f:Fn}(h:PureS S f ds r){P:D->List Ob->Prop}(p:P r S):Wf f ds S P:=h.mono λ_ _ ⟨e1,e2⟩=>by subst e1 e2;exact p
def isB (l:List D):Prop:=∀d∈l,∃x:Nat,d = .int (x:Int)/\x < 256
theorem OX:∀{l:List D},isB l->∃w:List Nat,l=wD w/\∀x∈w,x < 256
 | [],_=>⟨[],rfl,λx z=>nomatch z⟩
 | d :: r,h=>by
   obtain ⟨x,rfl,hx⟩:=h d List.mem_cons_self;obtain ⟨w,rfl,hw⟩:=OX λd m=>h d (List.mem_cons_of_mem _ m);refine ⟨x :: w,rfl,λy hy=>?_⟩;rcases List.mem_cons.mp hy with rfl | hy
   ·exact hx
   ·exact hw y hy
theorem Mn {a b:List D}(ha:isB a)(hb:isB b):isB (a++b):=λd h=>(List.mem_append.mp h).elim (ha d) (hb d)
theorem FU {b:List D}(hx:x < 256)(hb:isB b):isB (.int (x:Int) :: b):=λd h=>by
 rcases List.mem_cons.mp h with rfl | h
 ·exact ⟨x,rfl,hx⟩
 ·exact hb d h
theorem Pg:∀(w n:Nat),isB (nb w n)
 | 0,n=>λd h=>nomatch h
 | w + 1,n=>Mn (Pg w _) (FU (Nat.mod_lt _ (by decide)) λd h=>nomatch h)
theorem EQ:∀(n:Nat) (s:Sh),s.depth<=n->wf s=true->∀v,AA s v=true->isB (AE s v)
 | 0,s,h,_,_,_=>absurd s.depth_pos (by lia)
 | n + 1,s,hs,hw,v,hf=>by
   cases s with
   | nothing=>rw [AE];exact λd h=>nomatch h
   | number lo hi=>
     cases v <;> simp [AA] at hf
     rw [AE];exact Pg _ _
   | text q=>
     simp only [wf,Bool.and_eq_true,decide_eq_true_eq] at hw
     cases v <;> simp only [AA,Bool.false_eq_true] at hf
     rename_i x;simp only [Bool.and_eq_true,decide_eq_true_eq,List.all_eq_true] at hf;rw [AE];refine FU (by lia) λd h=>?_;obtain ⟨c,hc,rfl⟩:=List.mem_map.mp h;have:=hf.2 c hc;simp only [BJ,Bool.and_eq_true,decide_eq_true_eq] at this;exact ⟨c,rfl,by lia⟩
   | list s q=>
     simp only [wf,Bool.and_eq_true,decide_eq_true_eq] at hw;rw [Sh.depth] at hs
     cases v <;> simp only [AA,Bool.false_eq_true] at hf
     rename_i ds;simp only [Bool.and_eq_true,decide_eq_true_eq,List.all_eq_true] at hf;rw [AE];refine FU (by lia) λd h=>?_;obtain ⟨l,hl,hd⟩:=List.mem_flatten.mp h;obtain ⟨e,he,rfl⟩:=List.mem_map.mp hl;exact EQ n s (by lia) hw.2 e (hf.2 e he) d hd
   | pair s r=>
     simp only [wf,Bool.and_eq_true] at hw;rw [Sh.depth] at hs;unfold AA at hf
     split at hf
     ·rw [Bool.and_eq_true] at hf;rw [AE];exact Mn (EQ n s (by lia) hw.1 _ hf.1) (EQ n r (by lia) hw.2 _ hf.2)
     ·cases hf
   | choice ss=>
     simp only [wf,Bool.and_eq_true,decide_eq_true_eq] at hw;rw [Sh.depth] at hs;unfold AA at hf
     split at hf
     ·next o k x=>
      simp only [Bool.and_eq_true,decide_eq_true_eq] at hf;obtain ⟨j,rfl⟩:=Int.eq_ofNat_of_zero_le hf.1.2.1;have hj:j < ss.length:=by have:=hf.1.2.2;lia
      have e1:ss[j]?=some ss[j]:=List.getElem?_eq_getElem hj;have h2:=hf.2;rw [Int.toNat_natCast,DH ss _ _ _ e1] at h2;rw [AE,Int.toNat_natCast,Ef ss _ _ _ e1];exact FU (by lia) (EQ n _ (Nat.le_trans (DL ss _ _ e1) (by lia)) (Eb hw.2 _ (List.getElem_mem hj)) x h2)
     ·cases hf
theorem Z3 {g:M (List D)}(h:W f t λo t1=>W g t1 λas t2=>∃ds y j,o = .lst ds/\as=[y]/\(FQ y=true/\ds.all FQ=true)/\KP (toV y) (ds.map toV)=some j/\P (.int (j:Nat)) t2):W (idxM f g) t P:=by
 obtain ⟨o,t1,e1,as,t2,e2,ds,y,j,rfl,rfl,hf,hj,p⟩:=h;refine ⟨_,_,?_,p⟩;simp only [idxM,bnd,e1,e2,if_pos hf,hj]
theorem OU {ws:List (Str×Sh×Int)}(nd:(ws.map (·.1)).Nodup){p:Nat}{w:Str×Sh×Int}(e:ws[p]?=some w):KP (toV (.str w.1)) ((ws.map λw=>D.str w.1).map toV)=some p:=by
 unfold KP;rw [List.map_map,List.findIdx?_map];rw [<-Nu nd e]
 congr 1
theorem Nv {ws:List (Str×Sh×Int)}:(ws.map λw=>D.str w.1).all FQ=true:=by
 rw [List.all_map,List.all_eq_true];intro w _;rfl
theorem M9 {l:List α}{ι f:α->D}{fr:List (Option Sl)}{z:Option Sl}(h:∀a∈l,W elt ⟨some (.val (ι a)) :: fr,S⟩ λx t'=>x=f a/\t'=⟨some (.val (ι a)) :: fr,S⟩) :
 W (Bf (Al 0) Bc elt (l.map ι)) ⟨z :: fr,S⟩ λxs t'=>xs=l.map f/\t'.S=S:=by
 induction l generalizing z with
 | nil=>exact W_compL_nil.mpr ⟨rfl,rfl⟩
 | cons a r ih=>
   rw [List.map_cons,A9];refine C8 (Ez ?_);rw [if_pos rfl];refine (h a List.mem_cons_self).mono λx t' z9=>?_;obtain ⟨e1,e2⟩:=z9;subst e1 e2;refine (ih (z:=some (.val (ι a))) λb hb=>h b (List.mem_cons_of_mem _ hb)).mono λxs t' z9=>?_;obtain ⟨e1,e2⟩:=z9;subst e1;exact ⟨rfl,e2⟩
def B256 (w:List Nat):Prop:=∀x∈w,x < 256
theorem B256.app {a b:List Nat}(h:B256 a)(h2:B256 b):B256 (a++b):=λx hx=>(List.mem_append.mp hx).elim (h x) (h2 x)
structure Mvs (g:List GS)(wl wr:List Nat)(mv:List Mv)(h a b:Nat)(t:List D):Prop where
 t:t=Ss g 0 mv
 ok:okQ g 0 mv
 h:Iw g 0 mv=h
 a:F4 g sL 0 mv=wD (wl.take a)
 b:F4 g sR 0 mv=wD (wr.take b)
def Agr (c:Nat)(w w2:List Nat):Prop:=∀i,i < c->w2[i]?=w[i]?
variable {w2:List Nat}
theorem Agr.mono {d:Nat}(h:Agr c w w2)(e:d<=c):Agr d w w2:=λi hi=>h i (Nat.lt_of_lt_of_le hi e)
theorem Qj:Agr c w w:=λ_ _=>rfl
theorem SK {m:List Nat}(h:c<=w.length):Agr c w (w.take c++m):=λi hi=>by
 rw [List.getElem?_append_left (by rw [List.length_take];lia),List.getElem?_take,if_pos hi]
theorem QZ {b:Nat}(hw:Agr c w w2):∀(p:Rd) (a:Nat),p.run w a = .told v b->b<=c->p.run w2 a = .told v b:=by
 intro p
 induction p with
 | done v'=>intro a h _;exact h
 | need ok nx ih=>
   intro a h hb
   cases e:w[a]? with
   | none=>rw [A6 e] at h;cases h
   | some x=>
     rw [AW e] at h;have hl:=(List.getElem?_eq_some_iff.mp e).1
     by_cases q:ok x=true
     ·rw [if_pos q] at h;have hlt:a < c:=by have:=(Dg _ (a + 1) hl h).1;lia
      rw [AW ((hw a hlt).trans e),if_pos q];exact ih x (a + 1) h hb
     ·rw [if_neg q] at h;cases h
theorem ND {k:Nat}(hw:Agr c w w2):∀(p:Rd) (a:Nat),p.run w a = .broken k->k < c->p.run w2 a = .broken k:=by
 intro p
 induction p with
 | done v'=>intro a h _;cases h
 | need ok nx ih=>
   intro a h hk
   cases e:w[a]? with
   | none=>rw [A6 e] at h;cases h
   | some x=>
     have hak:=(Gb _ _ h).1;rw [AW e] at h;rw [AW ((hw a (by lia)).trans e)]
     by_cases q:ok x=true
     ·rw [if_pos q] at h ⊢;exact ih x (a + 1) h hk
     ·rw [if_neg q] at h ⊢;exact h
variable {e:Nat}
theorem Pc {side:Str}{ws:List (Str×Sh×Int)}(hw:Agr c w w2)(h:Bh side ws w p=(.told v e,x))(he:e<=c):Bh side ws w2 p=(.told v e,x):=by
 unfold Bh at h ⊢
 cases hb:w[p]? with
 | none=>rw [hb] at h;cases h
 | some y=>
   rw [hb] at h;dsimp only at h;obtain ⟨hpl,_⟩:=List.getElem?_eq_some_iff.mp hb
   cases hws:ws[y]? with
   | none=>rw [hws] at h;cases h
   | some wd=>
     rw [hws] at h;injection h with h1 h2
     have hlt:p < c:=by have:=(Dg _ _ hpl h1).1;lia
     rw [(hw p hlt).trans hb];dsimp only;rw [hws];dsimp only;rw [QZ hw _ _ h1 he,h2]
theorem LS {side:Str}{ws:List (Str×Sh×Int)}{k:Nat}(hw:Agr c w w2)(h:Bh side ws w p=(.broken k,x))(hk:k < c):Bh side ws w2 p=(.broken k,x):=by
 unfold Bh at h ⊢
 cases hb:w[p]? with
 | none=>rw [hb] at h;cases h
 | some y=>
   rw [hb] at h;dsimp only at h
   cases hws:ws[y]? with
   | none=>
     rw [hws] at h;injection h with h1 h2
     injection h1 with h1
     subst h1;rw [(hw p hk).trans hb];dsimp only;rw [hws,h2]
   | some wd=>
     rw [hws] at h;injection h with h1 h2
     have hlt:p < c:=by have:=(Gb _ _ h1).1;lia
     rw [(hw p hlt).trans hb];dsimp only;rw [hws];dsimp only;rw [ND hw _ _ h1 hk,h2]
abbrev Fu (wl wr:List Nat):Nat:=wl.length + wr.length + 1
def Rch (g:List GS)(vl vr:List Nat)(tk:List D)(h a b:Nat):Prop:=Pl g vl vr h a b/\∀xl xr:List Nat,Ke g (vl++xl) (vr++xr) (Fu (vl++xl) (vr++xr)) 0 0 0 []=Ke g (vl++xl) (vr++xr) (Fu (vl++xl) (vr++xr)) h a b tk
def Fed (g:List GS)(vl vr:List Nat)(tk:List D)(h a b:Nat)(fl:D):Prop:=Rch g vl vr tk h a b/\match Ke g vl vr (Fu vl vr) 0 0 0 [] with
 | (t',h',a',b',none)=>tk=t'/\h=h'/\a=a'/\b=b'/\fl = .non
 | (_,_,_,_,some (k,s))=>fl = .tup [.int (k:Nat),.str s]
inductive NR where
 | stop
 | brk (k:Nat)
 | msg (k:Nat) (m:D) (th e:Nat)
def nxR (gs:List (List GS))(w:List Nat)(side:Str)(p:Nat)(st:List Nat):NR:=match w[p]? with
 | none=>.stop
 | some k=>match gs[k]? with
   | none=>.brk p
   | some g=>match AS g (st.getD k 0) with
     | .fin=>.brk p
     | .st s ws=>if s=side then match Bh side ws w (p + 1) with
        | (.short,_)=>.stop
        | (.broken j,_)=>.brk j
        | (.told v e,c)=>.msg k (.tup [.str side,.str (ws.getD c (Str.ofString "",.nothing,0)).1,v]) (ws.getD c (Str.ofString "",.nothing,0)).2.2.toNat e
       else .stop
variable {gs:List (List GS)}{th:Nat}
theorem Ei {side:Str}{st:List Nat}{k:Nat}{m:D}(h:nxR gs w side p st = .msg k m th e):∃g ws v c,w[p]?=some k/\gs[k]?=some g/\AS g (st.getD k 0) = .st side ws/\Bh side ws w (p + 1)=(.told v e,c)/\m = .tup [.str side,.str (ws.getD c (Str.ofString "",.nothing,0)).1,v]/\th=(ws.getD c (Str.ofString "",.nothing,0)).2.2.toNat:=by
 unfold nxR at h
 cases e1:w[p]? with
 | none=>rw [e1] at h;cases h
 | some k'=>
   rw [e1] at h;dsimp only at h
   cases e2:gs[k']? with
   | none=>rw [e2] at h;cases h
   | some g=>
     rw [e2] at h;dsimp only at h
     cases e3:AS g (st.getD k' 0) with
     | fin=>rw [e3] at h;cases h
     | st s ws=>
       rw [e3] at h;dsimp only at h
       by_cases q:s=side
       ·rw [if_pos q] at h;subst q
        cases e4:Bh s ws w (p + 1) with
        | mk r c=>
          rw [e4] at h
          cases r with
          | short=>cases h
          | broken j=>cases h
          | told v b=>cases h;exact ⟨g,ws,v,c,rfl,e2,e3,e4,rfl,rfl⟩
       ·rw [if_neg q] at h;cases h
theorem Pj {side:Str}{st:List Nat}(h:nxR gs w side p st = .brk j):∃k,w[p]?=some k/\(gs[k]?=none/\j=p\/∃g,gs[k]?=some g/\(AS g (st.getD k 0) = .fin/\j=p\/∃ws c,AS g (st.getD k 0) = .st side ws/\Bh side ws w (p + 1)=(.broken j,c))):=by
 unfold nxR at h
 cases e1:w[p]? with
 | none=>rw [e1] at h;cases h
 | some k'=>
   rw [e1] at h;dsimp only at h;refine ⟨k',rfl,?_⟩
   cases e2:gs[k']? with
   | none=>rw [e2] at h;cases h;exact .inl ⟨rfl,rfl⟩
   | some g=>
     rw [e2] at h;dsimp only at h;refine .inr ⟨g,rfl,?_⟩
     cases e3:AS g (st.getD k' 0) with
     | fin=>rw [e3] at h;cases h;exact .inl ⟨rfl,rfl⟩
     | st s ws=>
       rw [e3] at h;dsimp only at h
       by_cases q:s=side
       ·rw [if_pos q] at h;subst q
        cases e4:Bh s ws w (p + 1) with
        | mk r c=>
          rw [e4] at h
          cases r with
          | short=>cases h
          | broken j=>cases h;exact .inr ⟨ws,c,rfl,e4⟩
          | told v b=>cases h
       ·rw [if_neg q] at h;cases h
theorem Mu {side:Str}{ws:List (Str×Sh×Int)}(h:Bh side ws w p=(.told v e,x)):p + 1<=e/\e<=w.length:=by
 unfold Bh at h
 cases hb:w[p]? with
 | none=>rw [hb] at h;cases h
 | some y=>
   rw [hb] at h;dsimp only at h;obtain ⟨hpl,_⟩:=List.getElem?_eq_some_iff.mp hb
   cases hws:ws[y]? with
   | none=>rw [hws] at h;cases h
   | some wd=>
     rw [hws] at h;injection h with h1 h2
     exact Dg _ _ hpl h1
theorem TR {side:Str}{ws:List (Str×Sh×Int)}(h:Bh side ws w p=(.broken j,x)):p<=j/\j < w.length:=by
 unfold Bh at h
 cases hb:w[p]? with
 | none=>rw [hb] at h;cases h
 | some y=>
   rw [hb] at h;dsimp only at h;obtain ⟨hpl,_⟩:=List.getElem?_eq_some_iff.mp hb
   cases hws:ws[y]? with
   | none=>rw [hws] at h;cases h;exact ⟨Nat.le_refl _,hpl⟩
   | some wd=>
     rw [hws] at h;injection h with h1 h2
     have:=Gb _ _ h1;lia
theorem Fg {side:Str}{st:List Nat}{k:Nat}{m:D}(h:nxR gs w side p st = .msg k m th e):p + 2<=e/\e<=w.length:=by
 obtain ⟨g,ws,v,c,_,_,_,h4,_,_⟩:=Ei h;have:=Mu h4;lia
theorem Ff {side:Str}{st:List Nat}(h:nxR gs w side p st = .brk j):p<=j/\j < w.length:=by
 obtain ⟨k,h1,⟨_,rfl⟩ | ⟨g,_,⟨_,rfl⟩ | ⟨ws,c,_,h4⟩⟩⟩:=Pj h
 ·exact ⟨Nat.le_refl _,(List.getElem?_eq_some_iff.mp h1).1⟩
 ·exact ⟨Nat.le_refl _,(List.getElem?_eq_some_iff.mp h1).1⟩
 ·have:=TR h4;lia
theorem NO {side:Str}{st:List Nat}{k:Nat}{m:D}(h:nxR gs w side p st = .msg k m th e)(a:Agr c w w2)(he:e<=c):nxR gs w2 side p st = .msg k m th e:=by
 obtain ⟨g,ws,v,x,h1,h2,h3,h4,rfl,rfl⟩:=Ei h;have:=Mu h4;unfold nxR;rw [(a p (by lia)).trans h1];dsimp only;rw [h2];dsimp only;rw [h3];dsimp only;rw [if_pos rfl,Pc a h4 he]
theorem IC {side:Str}{st:List Nat}(h:nxR gs w side p st = .brk j)(a:Agr c w w2)(hj:j < c):nxR gs w2 side p st = .brk j:=by
 have hle:=Ff h;obtain ⟨k,h1,h2⟩:=Pj h;unfold nxR;rw [(a p (by lia)).trans h1];dsimp only;rcases h2 with ⟨h2,rfl⟩ | ⟨g,h2,⟨h3,rfl⟩ | ⟨ws,x,h3,h4⟩⟩
 ·rw [h2]
 ·rw [h2];dsimp only;rw [h3]
 ·rw [h2];dsimp only;rw [h3];dsimp only;rw [if_pos rfl,LS a h4 hj]
def sd (s:Bool):Str:=if s=true then sL else sR
theorem Lu:∀{s t:Bool},sd s=sd t->s=t:=by
 intro s t h
 cases s <;> cases t <;> first | rfl | (exact absurd h (by decide))
structure Ls where
 p:Bool->Nat
 st:List Nat
 hd:List (List D)
def Ls.nx (σ:Ls)(gs:List (List GS))(w:Bool->List Nat)(s:Bool):NR:=nxR gs (w s) (sd s) (σ.p s) σ.st
def Ls.go (σ:Ls)(s:Bool)(k:Nat)(m:D)(th e:Nat):Ls:=⟨λx=>if x=s then e else σ.p x,σ.st.set k th,σ.hd.set k (σ.hd.getD k []++[m])⟩
def Stp (gs:List (List GS))(w:Bool->List Nat)(σ:Ls)(s:Bool)(τ:Ls):Prop:=∃k m th e,σ.nx gs w s = .msg k m th e/\τ=σ.go s k m th e
inductive Run (gs:List (List GS))(w:Bool->List Nat):Ls->Ls->Prop
 | refl (σ:Ls):Run gs w σ σ
 | step {σ τ ρ:Ls} {s:Bool}:Stp gs w σ s τ->Run gs w τ ρ->Run gs w σ ρ
variable {σ τ ρ:Ls}{s:Bool}
section
variable {gs:List (List GS)}{w:Bool->List Nat}
theorem Run.trans (a:Run gs w σ τ)(b:Run gs w τ ρ):Run gs w σ ρ:=by
 induction a with
 | refl=>exact b
 | step s _ ih=>exact .step s (ih b)
theorem Run.one (h:Stp gs w σ s τ):Run gs w σ τ:=.step h (.refl _)
theorem BO {l:List α}{a d:α}(h:i≠j):(l.set i a).getD j d=l.getD j d:=by
 rw [List.getD_eq_getElem?_getD,List.getElem?_set_ne h,List.getD_eq_getElem?_getD]
theorem Hy {t:Bool}{k:Nat}{m:D}(h:σ.nx gs w s = .msg k m th e)(ht:t≠s)(hn:σ.nx gs w t≠.stop):(σ.go s k m th e).nx gs w t=σ.nx gs w t:=by
 obtain ⟨g,ws,v,c,h1,h2,h3,_⟩:=Ei h;unfold Ls.nx at hn ⊢;have hp:(σ.go s k m th e).p t=σ.p t:=if_neg ht;rw [hp];unfold nxR at hn ⊢
 cases e1:(w t)[σ.p t]? with
 | none=>rfl
 | some k'=>
   rw [e1] at hn;dsimp only at hn ⊢
   cases e2:gs[k']? with
   | none=>rfl
   | some g'=>
     rw [e2] at hn;dsimp only at hn ⊢
     by_cases q:k'=k
     ·subst q;rw [h2] at e2
      cases e2
      rw [h3] at hn;dsimp only at hn;rw [if_neg λz=>ht (Lu z).symm] at hn;exact absurd rfl hn
     ·rw [show (σ.go s k m th e).st.getD k' 0=σ.st.getD k' 0 from BO λz=>q z.symm]
theorem Oq {t:Bool}(hb:σ.nx gs w t = .brk j)(r:Run gs w σ τ):τ.nx gs w t = .brk j:=by
 induction r with
 | refl=>exact hb
 | @step σ τ ρ s h _ ih=>
   obtain ⟨k,m,th,e,h1,rfl⟩:=h;have ht:t≠s:=λz=>by subst z;rw [hb] at h1;cases h1
   exact ih (by rw [Hy h1 ht (by rw [hb];exact λz=>by cases z),hb])
theorem ST {t:Bool}(a:Stp gs w σ s τ)(b:Stp gs w σ t ρ)(hst:s≠t):∃υ,Stp gs w τ t υ/\Stp gs w ρ s υ:=by
 obtain ⟨k,m,th,e,h1,rfl⟩:=a;obtain ⟨k',m',th',e',h2,rfl⟩:=b;have n1:=Hy h1 (Ne.symm hst) (by rw [h2];exact λz=>by cases z);have n2:=Hy h2 hst (by rw [h1];exact λz=>by cases z);have hk:k≠k':=by
  intro z;subst z;obtain ⟨g,ws,_,_,_,g2,g3,_⟩:=Ei h1;obtain ⟨g',ws',_,_,_,g2',g3',_⟩:=Ei h2;rw [g2] at g2'
  cases g2'
  rw [g3] at g3';injection g3' with q _
  exact hst (Lu q)
 refine ⟨_,⟨k',m',th',e',n1.trans h2,rfl⟩,k,m,th,e,n2.trans h1,?_⟩;unfold Ls.go;dsimp only;rw [List.set_comm _ _ hk,BO hk,BO (Ne.symm hk),List.set_comm _ _ hk]
 congr 1
 funext x
 by_cases q:x=s
 ·subst q;rw [if_neg hst,if_pos rfl,if_pos rfl]
 ·rw [if_neg q,if_neg q]
def NF (gs:List (List GS))(w:Bool->List Nat)(σ:Ls):Prop:=∀s k m th e,σ.nx gs w s≠.msg k m th e
theorem Yk (a:Stp gs w σ s τ)(r:Run gs w σ ρ)(n:NF gs w ρ):Run gs w τ ρ:=by
 induction r generalizing τ s with
 | refl=>obtain ⟨k,m,th,e,h1,_⟩:=a;exact absurd h1 (n _ _ _ _ _)
 | @step σ υ ρ t h r ih=>
   by_cases q:s=t
   ·subst q;obtain ⟨k,m,th,e,h1,rfl⟩:=a;obtain ⟨k',m',th',e',h2,rfl⟩:=h;rw [h1] at h2
    cases h2
    exact r
   ·obtain ⟨x,h1,h2⟩:=ST a h q;exact .step h1 (ih h2 n)
theorem Xj (a:Run gs w σ τ)(r:Run gs w σ ρ)(n:NF gs w ρ):Run gs w τ ρ:=by
 induction a with
 | refl=>exact r
 | step h _ ih=>exact ih (Yk h r n)
theorem Run.nf (r:Run gs w σ τ)(n:NF gs w σ):σ=τ:=by
 cases r with
 | refl=>rfl
 | step h _=>obtain ⟨k,m,th,e,h1,_⟩:=h;exact absurd h1 (n _ _ _ _ _)
theorem Su (a:Run gs w σ τ)(r:Run gs w σ ρ)(m:NF gs w τ)(n:NF gs w ρ):τ=ρ:=(Xj a r n).nf m
def Pre (l l':List (List D)):Prop:=l.length=l'.length/\∀k,∃x,l'.getD k []=l.getD k []++x
theorem Pre.refl {l:List (List D)}:Pre l l:=⟨rfl,λk=>⟨[],(List.append_nil _).symm⟩⟩
theorem Run.grow (r:Run gs w σ τ):(∀s,σ.p s<=τ.p s)/\Pre σ.hd τ.hd/\σ.st.length=τ.st.length:=by
 induction r with
 | refl=>exact ⟨λ_=>Nat.le_refl _,.refl,rfl⟩
 | @step σ τ ρ s h _ ih=>
   obtain ⟨k,m,th,e,h1,rfl⟩:=h;have hle:=Fg h1;refine ⟨λt=>?_,⟨?_,λj=>?_⟩,?_⟩
   ·have:=ih.1 t
    by_cases q:t=s
    ·subst q;have h2:(σ.go t k m th e).p t=e:=if_pos rfl;lia
    ·have h2:(σ.go s k m th e).p t=σ.p t:=if_neg q;lia
   ·rw [<-ih.2.1.1];exact (List.length_set ..).symm
   ·obtain ⟨x,hx⟩:=ih.2.1.2 j;rw [hx]
    by_cases q:k=j
    ·subst q
     by_cases hk:k < σ.hd.length
     ·refine ⟨[m]++x,?_⟩;show (σ.hd.set k (σ.hd.getD k []++[m])).getD k []++x=_;rw [List.getD_eq_getElem?_getD,List.getElem?_set_self hk,Option.getD_some,List.append_assoc]
     ·refine ⟨x,?_⟩;show (σ.hd.set k (σ.hd.getD k []++[m])).getD k []++x=_;rw [List.set_eq_of_length_le (by lia)]
    ·refine ⟨x,?_⟩;show (σ.hd.set k (σ.hd.getD k []++[m])).getD j []++x=_;rw [BO q]
   ·rw [<-ih.2.2];exact (List.length_set ..).symm
theorem Run.loc {v:Bool->List Nat}(r:Run gs w σ τ)(a:∀s,Agr (τ.p s) (w s) (v s)):Run gs v σ τ:=by
 induction r with
 | refl=>exact .refl _
 | @step σ τ ρ s h r ih=>
   obtain ⟨k,m,th,e,h1,rfl⟩:=h;have h2:(σ.go s k m th e).p s=e:=if_pos rfl;have h3:=r.grow.1 s;exact .step ⟨k,m,th,e,NO h1 (a s) (by lia),rfl⟩ (ih a)
theorem Run.inn (r:Run gs w σ τ)(h:∀s,σ.p s<=(w s).length):∀s,τ.p s<=(w s).length:=by
 induction r with
 | refl=>exact h
 | @step σ τ ρ s h' r ih=>
   obtain ⟨k,m,th,e,h1,rfl⟩:=h';refine ih λt=>?_
   by_cases q:t=s
   ·subst q;have h2:(σ.go t k m th e).p t=e:=if_pos rfl;have:=Fg h1;lia
   ·have h2:(σ.go s k m th e).p t=σ.p t:=if_neg q;rw [h2];exact h t
end
def oth (s:Str):Str:=if s=sL then sR else sL
theorem Ej (s:Bool):oth (sd s)=sd (!s):=by cases s <;> rfl
theorem Ue {a b:Str}(ha:a=sL\/a=sR)(hb:b=sL\/b=sR)(h:oth a=oth b):a=b:=by
 rcases ha with rfl | rfl <;> rcases hb with rfl | rfl <;> first | rfl | exact absurd h (by decide)
theorem Kb (s:Bool):sd s=sL\/sd s=sR:=by cases s <;> first | exact .inl rfl | exact .inr rfl
def Ed:GS->GS
 | .fin=>.fin
 | .st s ws=>.st (oth s) ws
def BY (gs:List (List GS)):List (List GS):=gs.map λg=>g.map Ed
def BN:D->D
 | .tup [.str s,n,v]=>.tup [.str (oth s),n,v]
 | d=>d
def Q7:NR->NR
 | .msg k m th e=>.msg k (BN m) th e
 | x=>x
def mir (σ:Ls):Ls:=⟨λs=>σ.p (!s),σ.st,σ.hd.map λl=>l.map BN⟩
theorem QP (g:List GS)(q:Nat):AS (g.map Ed) q=Ed (AS g q):=by
 unfold AS;rw [List.getD_eq_getElem?_getD,List.getElem?_map,List.getD_eq_getElem?_getD]
 cases g[q]? <;> rfl
theorem OS (hg:GOk g){q:Nat}{s:Str}{ws:List (Str×Sh×Int)}(h:AS g q = .st s ws):s=sL\/s=sR:=by
 unfold AS at h;rw [List.getD_eq_getElem?_getD] at h
 cases e:g[q]? with
 | none=>rw [e] at h;cases h
 | some x=>
   rw [e,Option.getD_some] at h;subst h;have:=hg.all _ (List.mem_of_getElem? e)
   cases this with
   | st a _ _ _ _=>exact a
theorem Pb (s t:Str)(ws:List (Str×Sh×Int))(w:List Nat)(p:Nat):Bh s ws w p=Bh t ws w p:=rfl
theorem Wm (hg:∀g∈gs,GOk g)(w:List Nat)(s:Bool)(p:Nat)(st:List Nat):nxR (BY gs) w (sd (!s)) p st=Q7 (nxR gs w (sd s) p st):=by
 unfold nxR BY
 cases e1:w[p]? with
 | none=>rfl
 | some k=>
   dsimp only;rw [List.getElem?_map]
   cases e2:gs[k]? with
   | none=>rfl
   | some g=>
     rw [Option.map_some];dsimp only;rw [QP]
     cases e3:AS g (st.getD k 0) with
     | fin=>rfl
     | st x ws=>
       rw [Ed];dsimp only;have hx:=OS (hg g (List.mem_of_getElem? e2)) e3
       by_cases q:x=sd s
       ·subst q;rw [Ej,if_pos rfl,if_pos rfl,Pb (sd (!s)) (sd s)]
        cases e4:Bh (sd s) ws w (p + 1) with
        | mk r c=>
          cases r with
          | short=>rfl
          | broken j=>rfl
          | told v b=>
            dsimp only;rw [Q7,BN,Ej]
       ·rw [if_neg q,if_neg λz=>q (Ue hx (Kb s) (by rw [z,Ej]))];rfl
section
variable {gs:List (List GS)}{w:Bool->List Nat}
theorem GR (hg:∀g∈gs,GOk g)(σ:Ls)(s:Bool):(mir σ).nx (BY gs) (λs=>w (!s)) (!s)=Q7 (σ.nx gs w s):=by
 unfold Ls.nx;have h:(mir σ).p (!s)=σ.p s:=by show σ.p (!(!s))=σ.p s;rw [Bool.not_not]
 dsimp only;rw [h,Bool.not_not];exact Wm hg (w s) s (σ.p s) σ.st
theorem VZ (σ:Ls)(s:Bool)(k:Nat)(m:D)(th e:Nat):mir (σ.go s k m th e)=(mir σ).go (!s) k (BN m) th e:=by
 unfold mir Ls.go;dsimp only;rw [List.map_set,List.map_append];have h:(σ.hd.map λl=>l.map BN).getD k []=(σ.hd.getD k []).map BN:=by
  rw [List.getD_eq_getElem?_getD,List.getElem?_map,List.getD_eq_getElem?_getD]
  cases σ.hd[k]? <;> rfl
 rw [h]
 congr 1
 funext x
 by_cases q:x = !s
 ·subst q;rw [Bool.not_not,if_pos rfl,if_pos rfl]
 ·rw [if_neg q,if_neg λz=>q (by rw [<-z,Bool.not_not])]
theorem UA (hg:∀g∈gs,GOk g){σ τ:Ls}(r:Run gs w σ τ):Run (BY gs) (λs=>w (!s)) (mir σ) (mir τ):=by
 induction r with
 | refl=>exact .refl _
 | @step σ τ ρ s h _ ih=>
   obtain ⟨k,m,th,e,h1,rfl⟩:=h;refine .step (s:=!s) ⟨k,BN m,th,e,?_,VZ σ s k m th e⟩ ih;rw [GR hg,h1];rfl
theorem Wk (hg:∀g∈gs,GOk g){σ:Ls}(n:NF gs w σ):NF (BY gs) (λs=>w (!s)) (mir σ):=by
 intro s k m th e h;have h2:=GR (w:=w) hg σ (!s);rw [Bool.not_not,h] at h2
 cases h3:σ.nx gs w (!s) with
 | stop=>rw [h3] at h2;cases h2
 | brk j=>rw [h3] at h2;cases h2
 | msg=>exact n _ _ _ _ _ h3
end
def ls0 (gs:List (List GS)):Ls:=⟨λ_=>0,gs.map λ_=>0,gs.map λ_=>[]⟩
def End (gs:List (List GS))(w:Bool->List Nat)(σ:Ls):Prop:=Run gs w (ls0 gs) σ/\NF gs w σ
def Hn:NR->Option Nat
 | .brk j=>some j
 | _=>none
def AR (gs:List (List GS))(w:Bool->List Nat)(σ:Ls):Option (Bool×Nat):=match Hn (σ.nx gs w true) with
 | some j=>some (true,j)
 | none=>(Hn (σ.nx gs w false)).map λj=>(false,j)
section
variable {gs:List (List GS)}{w:Bool->List Nat}
theorem FP (h:AR gs w σ=none)(s:Bool)(j:Nat):σ.nx gs w s≠.brk j:=by
 unfold AR at h;intro z
 cases s with
 | true=>rw [z] at h;cases h
 | false=>
   rw [z] at h
   cases e:Hn (σ.nx gs w true) with
   | none=>rw [e] at h;cases h
   | some i=>rw [e] at h;cases h
theorem Hs (h:∀s j,σ.nx gs w s≠.brk j):AR gs w σ=none:=by
 have q:∀s,Hn (σ.nx gs w s)=none:=λs=>by
  cases e:σ.nx gs w s with
  | brk j=>exact absurd e (h s j)
  | _=>rfl
 unfold AR;rw [q,q];rfl
theorem JA {x:NR}(h:Hn x=some j):x = .brk j:=by
 cases x <;> cases h
 rfl
theorem Ii (h:AR gs w σ=some (s,j)):σ.nx gs w s = .brk j/\(s=false->∀i,σ.nx gs w true≠.brk i):=by
 unfold AR at h
 cases e:Hn (σ.nx gs w true) with
 | some i=>rw [e] at h;cases h;exact ⟨JA e,λz=>nomatch z⟩
 | none=>
   rw [e] at h;dsimp only at h
   cases e2:Hn (σ.nx gs w false) with
   | none=>rw [e2] at h;cases h
   | some i=>
     rw [e2] at h
     cases h
     exact ⟨JA e2,λ_ i z=>by rw [z] at e;cases e⟩
theorem End.inn {σ:Ls}(h:End gs w σ)(s:Bool):σ.p s<=(w s).length:=h.1.inn (λ_=>Nat.zero_le _) s
theorem SS {v:Bool->List Nat}(a:∀s,Agr (v s).length (v s) (w s))(h:End gs w σ)(k:End gs v τ):Run gs w τ σ/\(AR gs w σ=none->AR gs v τ=none):=by
 have r:Run gs w τ σ:=Xj (k.1.loc λs=>(a s).mono (k.inn s)) h.1 h.2;refine ⟨r,λq=>Hs λs j z=>?_⟩;have z2:τ.nx gs w s = .brk j:=IC z (a s) (Ff z).2;exact FP q s j (Oq z2 r)
theorem RY {v:Bool->List Nat}(h:End gs w σ)(q:AR gs w σ=some (s,j))(a:Agr (j + 1) (w s) (v s))(b:∀t,t≠s->v t=w t)(k:End gs v τ):AR gs v τ=some (s,j):=by
 obtain ⟨q1,q2⟩:=Ii q;have hj:=Ff q1;have r:Run gs v (ls0 gs) σ:=h.1.loc λt=>by
  by_cases z:t=s
  ·subst z;exact a.mono (by have:σ.p t<=j:=hj.1;lia)
  ·rw [b t z];exact Qj
 have e1:σ.nx gs v s = .brk j:=IC q1 a (Nat.lt_succ_self _);have e2:∀t,t≠s->σ.nx gs v t=σ.nx gs w t:=λt z=>by unfold Ls.nx;rw [b t z]
 have n:NF gs v σ:=λt k m th e z=>by
  by_cases y:t=s
  ·subst y;rw [e1] at z;cases z
  ·rw [e2 t y] at z;exact h.2 _ _ _ _ _ z
 have:τ=σ:=Su k.1 r k.2 n;subst this;unfold AR
 cases s with
 | true=>rw [e1];rfl
 | false=>
   rw [e1,e2 true (by decide)]
   cases e:τ.nx gs w true with
   | brk i=>exact absurd e (q2 rfl i)
   | _=>rfl
theorem KD (q:AR gs w σ=some (s,j)):j < (w s).length:=(Ff (Ii q).1).2
theorem TQ (hg:∀g∈gs,GOk g){σ τ:Ls}(h:End gs w σ)(k:End (BY gs) (λs=>w (!s)) τ):τ=mir σ/\(AR gs w σ=none↔AR (BY gs) (λs=>w (!s)) τ=none):=by
 have e0:mir (ls0 gs)=ls0 (BY gs):=by
  unfold mir ls0 BY;dsimp only;rw [List.map_map,List.map_map,List.map_map];rfl
 have r:=UA hg h.1;rw [e0] at r;have e:τ=mir σ:=Su k.1 r k.2 (Wk hg h.2);subst e;refine ⟨rfl,λq=>Hs λs j z=>?_,λq=>Hs λs j z=>?_⟩
 ·have h2:=GR (w:=w) hg σ (!s);rw [Bool.not_not,z] at h2
  cases h3:σ.nx gs w (!s) with
  | stop=>rw [h3] at h2;cases h2
  | brk i=>exact FP q _ _ h3
  | msg=>rw [h3] at h2;cases h2
 ·have h2:=GR (w:=w) hg σ s;rw [z] at h2;exact FP q _ _ h2
end
section
variable {f:Str}{t:T}{P:D->T->Prop}{O:Out->T->Prop}{k:Nat}{n:Str}{fs:List (Str×D)}{v:D}
def QG (f:Str)(d:D):M D:=EV d λ_ _ fs t=>(fs.lookup f).map λv=>(v,t)
def Jp (f:Str)(v d:D):M Out:=EV d λk n fs t=>if fs.length < 1000 then some (.next,{ t with S:=t.S.set k (.ins n (E4 f v fs)) }) else none
theorem Xs {a:M D}(h:W a t λd t1=>W (QG f d) t1 P):W (CJ f a) t P:=Ca h
theorem Cb (e:t.S[k]?=some (.ins n fs))(l:fs.lookup f=some v)(h:P v t):W (QG f (.obj k)) t P:=⟨_,_,by simp only [QG,EV,e,l];rfl,h⟩
theorem MX {gv ga:M D}(h:W gv t λv t1=>W ga t1 λd t2=>W (Jp f v d) t2 O):W (Ek f gv ga) t O:=Ca (h.mono λ_ _ z=>Ca z)
theorem Fa (e:t.S[k]?=some (.ins n fs))(l:fs.length < 1000)(h:O .next ⟨t.env,t.S.set k (.ins n (E4 f v fs))⟩):W (Jp f v (.obj k)) t O:=⟨_,_,by simp only [Jp,EV,e,if_pos l],h⟩
theorem YS {g:Fn}{fl:M (List D)}(h:W fl t λds t1=>Wf g (.obj t1.S.length :: ds) (t1.S++[.ins n []]) λr S'=>r = .non/\P (.obj t1.S.length) ⟨t1.env,S'⟩):W (JZ n g fl) t P:=
 Ca (h.mono λds t1 ⟨r,S',e,e2,p⟩=>by subst e2;exact ⟨_,_,by simp only [e],p⟩)
theorem YT {g:Fn}{o:M D}{fl:M (List D)}(h:W o t λd t1=>∃k fs,d = .obj k/\t1.S[k]?=some (.ins n fs)/\W fl t1 λds t2=>Wf g (d :: ds) t2.S λr S'=>P r ⟨t2.env,S'⟩):W (Da n g o fl) t P:=by
 refine Ca (h.mono λd t1 z=>?_);obtain ⟨k,fs,e1,e2,w⟩:=z;subst e1;obtain ⟨ds,t2,w1,r,S',w2,p⟩:=w;refine ⟨r,_,?_,p⟩;simp only [EV,e2,if_pos,bnd,w1,w2]
end
local macro_rules | `(tactic| walk_at "y1")=>`(tactic| first | walk_at "x1" | clear 31 Hb Xs MX wDisp0 LP)
abbrev rdF (g:List GS)(h W P:Nat):List (Str×D):=[("grammar",.lst (g.map GS.d)),("standing",.int (h:Nat)),("wires",.obj W),("places",.obj P)]
structure Rdr (n0:Nat)(S:List Ob)(k:Nat)(g:List GS)(vl vr:List Nat)(h a b W P l r:Nat):Prop where
 k0:n0<=k
 l0:n0<=l
 r0:n0<=r
 ne:l≠r
 k:S[k]?=some (.ins "Reader" (rdF g h W P))
 w:S[W]?=some (.dct (lr (.obj l) (.obj r)))
 p:S[P]?=some (.dct (dP a b))
 l:S[l]?=some (.lst (wD vl))
 r:S[r]?=some (.lst (wD vr))
def Low (n0:Nat)(S S':List Ob):Prop:=n0<=S'.length/\∀i,i < n0->S'[i]?=S[i]?
theorem Low.refl {n0:Nat}(h:n0<=S.length):Low n0 S S:=⟨h,λ_ _=>rfl⟩
theorem Low.trans {n0:Nat}{S S1 S2:List Ob}(a:Low n0 S S1)(b:Low n0 S1 S2):Low n0 S S2:=⟨b.1,λi h=>(b.2 i h).trans (a.2 i h)⟩
theorem Low.set {n0 k:Nat}{S S1:List Ob}{o:Ob}(a:Low n0 S S1)(h:n0<=k):Low n0 S (S1.set k o):=⟨by rw [List.length_set];exact a.1,λi hi=>by rw [List.getElem?_set_ne (by lia)];exact a.2 i hi⟩
variable {u:Ob}
theorem An (h:S[i]?=some u)(n:j≠i):(S.set j o)[i]?=some u:=by rw [List.getElem?_set_ne n];exact h
theorem AV (h:S[i]?=some o)(h':S[j]?=some u)(n:o≠u):i≠j:=λe=>by subst e;rw [h] at h';exact n (Option.some.inj h')
def Kp (k:Nat)(S S':List Ob):Prop:=S.length<=S'.length/\∀i,i < S.length->i≠k->S'[i]?=S[i]?
theorem Kp.refl {k:Nat}:Kp k S S:=⟨Nat.le_refl _,λ_ _ _=>rfl⟩
theorem Kp.setk {k:Nat}(a:Kp k S S'):Kp k S (S'.set k o):=⟨by rw [List.length_set];exact a.1,λi h n=>by rw [List.getElem?_set_ne (Ne.symm n)];exact a.2 i h n⟩
theorem Kp.set {k j:Nat}{S S':List Ob}{o:Ob}(a:Kp k S S')(h:S.length<=j):Kp k S (S'.set j o):=⟨by rw [List.length_set];exact a.1,λi hi n=>by rw [List.getElem?_set_ne (by lia)];exact a.2 i hi n⟩
theorem Kp.app {k:Nat}(a:Kp k S S'):Kp k S (S'++[o]):=⟨by rw [List.length_append];exact Nat.le_trans a.1 (Nat.le_add_right _ _),λi hi n=>by rw [List.getElem?_append_left (Nat.lt_of_lt_of_le hi a.1)];exact a.2 i hi n⟩
theorem BP (h:S[i]?=some u):(S++[o])[i]?=some u:=by rw [List.getElem?_append_left (List.getElem?_eq_some_iff.mp h).1];exact h
theorem Cj (h:S[i]?=some u):i < S.length:=(List.getElem?_eq_some_iff.mp h).1
local macro_rules | `(tactic| walk_at "y1")=>`(tactic| first | walk_at "x1" | clear 31 Hb Xs MX wDisp0 LP YT YS)
def gsD (gs:List (List GS)):D:=.lst (gs.map λg=>.lst (g.map GS.d))
abbrev liF (gs:List (List GS))(W P N H:Nat):List (Str×D):=[("grammars",gsD gs),("wires",.obj W),("places",.obj P),("standings",.obj N),("heard",.obj H)]
def nD (l:List Nat):List D:=l.map λn=>.int (n:Nat)
structure Lis (n0:Nat)(S:List Ob)(gs:List (List GS))(w:Bool->List Nat)(σ:Ls)(k W P N H:Nat)(hs:List Nat):Prop where
 ik:S[k]?=some (.ins "Listener" (liF gs W P N H))
 iw:S[W]?=some (.dct (dW (w true) (w false)))
 ip:S[P]?=some (.dct (dP (σ.p true) (σ.p false)))
 it:S[N]?=some (.lst (nD σ.st))
 ih:S[H]?=some (.lst (hs.map .obj))
 hl:hs.length=gs.length
 hh:∀(i h:Nat),hs[i]?=some h->S[h]?=some (.lst (σ.hd.getD i []))
 nd:hs.Nodup
 nN:N∉hs
 nH:H∉hs
 ne:N≠H
 lP:n0<=P
 lN:n0<=N
 lh:∀h∈hs,n0<=h
 ls:σ.st.length=gs.length
 lo:∀(i:Nat) (g:List GS),gs[i]?=some g->σ.st.getD i 0 < g.length
 ld:σ.hd.length=gs.length
 fw:∀i,2 * (σ.hd.getD i []).length<=σ.p true + σ.p false
theorem lrF (F:Bool->D)(s:Bool):BM (lr (F true) (F false)) (.inr (sd s))=some (F s):=by
 rw [Wd (Kb s)]
 cases s <;> rfl
def nrD (s:Bool):NR->D
 | .stop=>.non
 | .brk j=>.exc "Broken" [.int (j:Nat),.str (sd s)]
 | .msg _ m th e=>.tup [m,.int (th:Nat),.int (e:Nat)]
theorem Rb {x:Str}{st:List Nat}(h:w[p]?=none):nxR gs w x p st = .stop:=by unfold nxR;rw [h]
theorem T4 {x:Str}{k:Nat}{st:List Nat}(h:w[p]?=some k)(h2:gs[k]?=none):nxR gs w x p st = .brk p:=by unfold nxR;rw [h];dsimp only;rw [h2]
theorem T1 {x:Str}{k:Nat}{st:List Nat}(h:w[p]?=some k)(h2:gs[k]?=some g)(h3:AS g (st.getD k 0) = .fin):nxR gs w x p st = .brk p:=by unfold nxR;rw [h];dsimp only;rw [h2];dsimp only;rw [h3]
theorem T3 {x y:Str}{ws:List (Str×Sh×Int)}{k:Nat}{st:List Nat}(h:w[p]?=some k)(h2:gs[k]?=some g)(h3:AS g (st.getD k 0) = .st y ws)(n:y≠x):nxR gs w x p st = .stop:=by unfold nxR;rw [h];dsimp only;rw [h2];dsimp only;rw [h3];dsimp only;rw [if_neg n]
theorem T2 {ws:List (Str×Sh×Int)}{k:Nat}{st:List Nat}(h:w[p]?=some k)(h2:gs[k]?=some g)(h3:AS g (st.getD k 0) = .st (sd s) ws)(hn:∀c v e,Bh (sd s) ws w (p + 1)=(.told v e,c)->0<=(ws.getD c (Str.ofString "",.nothing,0)).2.2):nrD s (nxR gs w (sd s) p st)=D6 (sd s) ws w (p + 1):=by
 unfold nxR D6;rw [h];dsimp only;rw [h2];dsimp only;rw [h3];dsimp only;rw [if_pos rfl]
 cases e4:Bh (sd s) ws w (p + 1) with
 | mk r c=>
   cases r with
   | short=>rfl
   | broken j=>rfl
   | told v b=>
     dsimp only;rw [nrD,Int.toNat_of_nonneg (hn c v b e4)]
theorem Mt {side:Str}{ws:List (Str×Sh×Int)}(h:Bh side ws w p=(.told v e,x)):x < ws.length:=by
 unfold Bh at h
 cases hb:w[p]? with
 | none=>rw [hb] at h;cases h
 | some y=>
   rw [hb] at h;dsimp only at h
   cases hws:ws[y]? with
   | none=>rw [hws] at h;cases h
   | some wd=>
     rw [hws] at h;injection h with h1 h2
     subst h2;exact (List.getElem?_eq_some_iff.mp hws).1
theorem MS {n:Int}{side:Str}{ws:List (Str×Sh×Int)}(h:GSOk n (.st side ws)){c:Nat}(hc:c < ws.length):0<=(ws.getD c (Str.ofString "",.nothing,0)).2.2/\(ws.getD c (Str.ofString "",.nothing,0)).2.2 < n:=by
 cases h with
 | @st _ _ hs1 hs2 hs3 hs4 hs5=>
   have:=hs5 _ (List.getElem_mem hc);rw [List.getD_eq_getElem?_getD,List.getElem?_eq_getElem hc,Option.getD_some];exact ⟨this.lo,this.hi⟩
def Ok2 (gs:List (List GS))(w:Bool->List Nat):Prop:=(∀g∈gs,GOk g)/\gs.length<=9/\∀s,(w s).length<=25000
def HM (f:Fn):Prop:=∀(n0:Nat) (S:List Ob) (gs:List (List GS)) (w:Bool->List Nat) (σ:Ls) (k W P N H:Nat) (hs:List Nat) (s:Bool),Ok2 gs w->(∀s,σ.p s<=(w s).length)->Lis n0 S gs w σ k W P N H hs->PureS S f [.obj k,.str (sd s)] (nrD s (σ.nx gs w s))
theorem Dr {d:D}(h:ds[i]?=some d):atI ds (i:Int)=some d:=by
 unfold atI;rw [BQ (by lia) (by have:=(List.getElem?_eq_some_iff.mp h).1;lia)];show ds[(i:Int).toNat]?=_;rw [Int.toNat_natCast];exact h
theorem Pe {l:List Nat}(h:i < l.length):(nD l)[i]?=some (.int ((l.getD i 0:Nat):Int)):=by
 unfold nD;rw [List.getElem?_map,List.getElem?_eq_getElem h,List.getD_eq_getElem?_getD,List.getElem?_eq_getElem h];rfl
theorem LM {k:Nat}{d:D}(e:t.S[k]?=some (.lst ds))(h:ds[i]?=some d)(p:P d t):F2.W (ixD (.obj k) (.int (i:Int))) t P:=W_ix_obj.mpr ⟨ds,e,d,Dr h,p⟩
variable {cm:Fn}
theorem NM {ce:Fn}(hm:Qc cm)(he:IP ce):HM (fnOf 2 5 (C3 cm ce)):=by
 intro n0 S gs w σ k W P N H hs s ⟨hg,hgl,hw⟩ hp R;have hws:=hw s;have hps:=hp s;refine Ax rfl ?_;unfold C3;symm;refine Cb R.ik rfl ?_;symm;refine Bg R.iw (lrF (λs=>.lst (wD (w s))) s) ?_;symm;refine Cb R.ik rfl ?_;symm;refine Bg R.ip (lrF (λs=>.int (σ.p s:Nat)) s) ?_;symm;rw [Bd];unfold Ls.nx
 cases hb:(w s)[σ.p s]? with
 | none=>
   have hpl:¬σ.p s < (w s).length:=by rw [List.getElem?_eq_none_iff] at hb;lia
   rw [Rb hb];refine Du (by simp;lia) ?_;symm;refine ⟨rfl,?_⟩;symm;exact ⟨rfl,rfl⟩
 | some j=>
   obtain ⟨hpl,_⟩:=List.getElem?_eq_some_iff.mp hb;have hix:atI (wD (w s)) (σ.p s:Int)=some (.int (j:Int)):=Dr (IL hb);refine B0 (by simp;lia) ?_;symm;refine Be hix ?_;symm;refine Cb R.ik rfl ?_;unfold gsD;symm;rw [List.length_map]
   cases h2:gs[j]? with
   | none=>
     have hcl:¬j < gs.length:=by rw [List.getElem?_eq_none_iff] at h2;lia
     rw [T4 hb h2];refine Du (by simp;lia) ?_;symm;exact ⟨rfl,rfl⟩
   | some g=>
     obtain ⟨hjl,_⟩:=List.getElem?_eq_some_iff.mp h2;have hgo:=hg g (List.mem_of_getElem? h2);have hlo:=R.lo j g h2;have hgx:g[σ.st.getD j 0]?=some (AS g (σ.st.getD j 0)):=by unfold AS;rw [List.getD_eq_getElem?_getD (l:=g),List.getElem?_eq_getElem hlo];rfl
     have hso:=hgo.all _ (List.mem_of_getElem? hgx);refine B0 (by simp;lia) ?_;symm;refine Cb R.ik rfl ?_;unfold gsD;symm;refine Be hix ?_;symm;refine Be (Dr (d:=.lst (g.map GS.d)) (by rw [List.getElem?_map,h2];rfl)) ?_;symm;refine Cb R.ik rfl ?_;symm;refine Be hix ?_;symm;refine LM R.it (Pe (by rw [R.ls];exact hjl)) ?_;symm;refine Be (Dr (d:=(AS g (σ.st.getD j 0)).d) (by rw [List.getElem?_map,hgx];rfl)) ?_;symm;refine (he _ _ hso).use ?_;symm
     cases h3:AS g (σ.st.getD j 0) with
     | fin=>
       rw [T1 hb h2 h3];refine Du rfl ?_;symm;exact ⟨rfl,rfl⟩
     | st y ws=>
       rw [h3] at hso;refine B0 rfl ?_;rw [GS.d];symm
       by_cases q:y=sd s
       ·subst q;have hm':=hm _ _ ws (w s) (σ.p s + 1) hso hpl (by lia);rw [T2 hb h2 h3 (λc v e z=>(MS hso (Mt z)).1)];refine B0 (by simp) ?_;symm;exact hm'.use ⟨rfl,rfl⟩
       ·rw [T3 hb h2 h3 q];refine Du (by simp [q]) ?_;symm;refine ⟨rfl,?_⟩;symm;exact ⟨rfl,rfl⟩
def nwD:NR->D
 | .msg _ m th e=>.tup [m,.int (th:Nat),.int (e:Nat)]
 | _=>.non
def M6 (f:Fn):Prop:=∀(n0:Nat) (S:List Ob) (gs:List (List GS)) (w:Bool->List Nat) (σ:Ls) (k W P N H:Nat) (hs:List Nat) (s:Bool),Ok2 gs w->(∀s,σ.p s<=(w s).length)->Lis n0 S gs w σ k W P N H hs->PureS S f [.obj k,.str (sd s)] (nwD (σ.nx gs w s))
theorem Ph {c:Fn}(hc:HM c):M6 (fnOf 2 2 (BT c)):=by
 intro n0 S gs w σ k W P N H hs s hok hp R;refine Ax rfl ?_;unfold BT;symm;refine ⟨k,_,rfl,R.ik,?_⟩;symm;have h:=hc n0 S gs w σ k W P N H hs s hok hp R
 cases e:σ.nx gs w s with
 | stop=>
   rw [e] at h;refine h.use ?_;symm;exact ⟨rfl,rfl⟩
 | brk j=>
   rw [e] at h;refine h.use ?_;symm;refine ⟨by decide,?_⟩;symm;exact ⟨rfl,rfl⟩
 | msg a b c d=>
   rw [e] at h;refine h.use ?_;symm;exact ⟨rfl,rfl⟩
theorem Xy {k:Nat}{d:D}(e:t.S[k]?=some (.lst xs))(hn:n < xs.length)(h:U () ⟨t.env,t.S.set k (.lst (xs.set n d))⟩):F2.W (Fr (.obj k) (.int (n:Int)) d) t U:=W_stOb.mpr ⟨xs,e,n,by rw [BQ (by lia) (by lia),Int.toNat_natCast],h⟩
theorem Do {l:List α}{a d:α}(h:i < l.length):(l.set i a).getD i d=a:=by
 rw [List.getD_eq_getElem?_getD,List.getElem?_set_self h,Option.getD_some]
section
variable {n0:Nat}{S:List Ob}{gs:List (List GS)}{w:Bool->List Nat}{σ:Ls}{k W P N H:Nat}{hs:List Nat}
theorem Vt (p:Bool->Nat)(s:Bool)(e:Nat):Bx (dP (p true) (p false)) (.inr (sd s)) (.int (e:Nat))=dP (if true=s then e else p true) (if false=s then e else p false):=by
 rw [O6 (Kb s)]
 cases s <;> rfl
theorem Lis.go (R:Lis n0 S gs w σ k W P N H hs)(hg:∀g∈gs,GOk g){s:Bool}{kk th e h:Nat}{m:D}(q:σ.nx gs w s = .msg kk m th e)(hk:hs[kk]?=some h) :
 Lis n0 (((S.set h (.lst (σ.hd.getD kk []++[m]))).set N (.lst ((nD σ.st).set kk (.int (th:Nat))))).set P (.dct (dP (if true=s then e else σ.p true) (if false=s then e else σ.p false)))) gs w (σ.go s kk m th e) k W P N H hs:=by
 obtain ⟨g,ws,v,c,_,h2,h3,h4,_,rfl⟩:=Ei q;have hle:=Fg q;have hS:=R.hh kk h hk;have hm:h∈hs:=List.mem_of_getElem? hk;have hkl:kk < gs.length:=(List.getElem?_eq_some_iff.mp h2).1;have nk:h≠k:=AV hS R.ik (by simp);have nW:h≠W:=AV hS R.iw (by simp);have nP:h≠P:=AV hS R.ip (by simp);have nN:h≠N:=λz=>R.nN (by rw [<-z];exact hm);have nH:h≠H:=λz=>R.nH (by rw [<-z];exact hm);have Nk:N≠k:=AV R.it R.ik (by simp);have NW:N≠W:=AV R.it R.iw (by simp);have NP:N≠P:=AV R.it R.ip (by simp);have Pk:P≠k:=AV R.ip R.ik (by simp);have PW:P≠W:=AV R.ip R.iw (by simp);have PH:P≠H:=AV R.ip R.ih (by simp);refine ⟨An (An (An R.ik nk) Nk) Pk,An (An (An R.iw nW) NW) PW,AH (An (An R.ip nP) NP),?_,An (An (An R.ih nH) R.ne) PH,R.hl,λi h' hi=>?_,R.nd,R.nN,R.nH,R.ne,R.lP,R.lN,R.lh,?_,λi g' hg'=>?_,?_,λi=>?_⟩
 ·have e1:(nD σ.st).set kk (.int ((((ws.getD c (Str.ofString "",.nothing,0)).2.2.toNat:Nat)):Int))=nD (σ.go s kk m ((ws.getD c (Str.ofString "",.nothing,0)).2.2.toNat) e).st:=by
   unfold nD Ls.go;rw [List.map_set]
  rw [e1];exact An (AH (An R.it nN)) (Ne.symm NP)
 ·have hp':P≠h':=AV R.ip (R.hh i h' hi) (by simp);have hn':N≠h':=λz=>R.nN (by rw [z];exact List.mem_of_getElem? hi);refine An (An ?_ hn') hp'
  by_cases z:i=kk
  ·subst z;rw [hk] at hi
   cases hi
   show _=some (Ob.lst ((σ.hd.set i (σ.hd.getD i []++[m])).getD i []));rw [Do (by rw [R.ld];exact hkl)];exact AH hS
  ·have hne:h≠h':=λy=>z (by
    subst y;exact (List.getElem?_inj (List.getElem?_eq_some_iff.mp hi).1 R.nd).mp (by rw [hi,hk]))
   show _=some (Ob.lst ((σ.hd.set kk (σ.hd.getD kk []++[m])).getD i []));rw [BO λy=>z y.symm];exact An (R.hh i h' hi) hne
 ·show (σ.st.set kk _).length=_;rw [List.length_set];exact R.ls
 ·show (σ.st.set kk _).getD i 0 < _
  by_cases z:kk=i
  ·subst z;rw [h2] at hg'
   cases hg'
   have hso:=(hg g (List.mem_of_getElem? h2)).all (.st (sd s) ws) (by
    have hlo:=R.lo kk g h2;rw [<-h3];unfold AS;rw [List.getD_eq_getElem?_getD (l:=g),List.getElem?_eq_getElem hlo];exact List.getElem_mem hlo)
   have:=MS hso (Mt h4);rw [Do (by rw [R.ls];exact hkl)];lia
  ·rw [BO z];exact R.lo i g' hg'
 ·show (σ.hd.set kk _).length=_;rw [List.length_set];exact R.ld
 ·show 2 * ((σ.hd.set kk (σ.hd.getD kk []++[m])).getD i []).length<=(if true=s then e else σ.p true) + (if false=s then e else σ.p false);have hsum:σ.p true + σ.p false + 2<=(if true=s then e else σ.p true) + (if false=s then e else σ.p false):=by
   cases s with
   | true=>rw [if_pos rfl,if_neg (by decide)];have:σ.p true + 2<=e:=hle.1;lia
   | false=>rw [if_neg (by decide),if_pos rfl];have:σ.p false + 2<=e:=hle.1;lia
  have:=R.fw i
  by_cases z:kk=i
  ·subst z;rw [Do (by rw [R.ld];exact hkl),List.length_append];show 2 * (_ + 1)<=_;lia
  ·rw [BO z];lia
end
def Hm (f:Fn):Prop:=∀(n0:Nat) (S:List Ob) (gs:List (List GS)) (w:Bool->List Nat) (σ:Ls) (k W P N H:Nat) (hs:List Nat) (s:Bool),Ok2 gs w->(∀s,σ.p s<=(w s).length)->n0<=S.length->Lis n0 S gs w σ k W P N H hs->
 Wf f [.obj k,.str (sd s)] S λr S'=>Low n0 S S'/\∃τ,Run gs w σ τ/\(∀a b c d,τ.nx gs w s≠.msg a b c d)/\Lis n0 S' gs w τ k W P N H hs/\(r = .bl true/\σ.p s < τ.p s\/r = .bl false/\τ=σ)
theorem Lk {c:Fn}(hc:M6 c):Hm (fnOf 2 5 (Cr c)):=by
 intro n0 S gs w σ k W P N H hs s hok hp hn0 R;have hL:LIM=100000:=rfl;refine Ax rfl ?_;unfold Cr;symm;refine Cb R.ik rfl ?_;symm;refine Bg R.ip (lrF (λs=>.int (σ.p s:Nat)) s) ?_;symm;refine ⟨k,_,rfl,R.ik,?_⟩;symm;refine (hc n0 S gs w σ k W P N H hs s hok hp R).use ?_;symm;refine EO (λn t=>∃τ S' e4,t=⟨[some (.val (.obj k)),some (.val (.str (sd s))),some (.val (.int (σ.p s:Nat))),some (.val (nwD (τ.nx gs w s))),e4],S'⟩/\Run gs w σ τ/\Lis n0 S' gs w τ k W P N H hs/\Low n0 S S'/\(w s).length<=n + τ.p s/\(τ=σ\/σ.p s < τ.p s)) ?_ FF (w s).length _ (by have:=hok.2.2 s;show _ < 1000000;lia) ⟨σ,S,none,rfl,.refl _,R,.refl hn0,by lia,.inl rfl⟩;rintro n t ⟨τ,S',e4,rfl,r,R',L,hn,ho⟩;have hp':=r.inn hp
 cases q:τ.nx gs w s with
 | msg kk m th e=>
   obtain ⟨g,ws,v,cc,h1,h2,h3,h4,_,_⟩:=Ei q;have hle:=Fg q;have hkl:kk < gs.length:=(List.getElem?_eq_some_iff.mp h2).1;obtain ⟨h,hk⟩:∃h,hs[kk]?=some h:=⟨_,List.getElem?_eq_getElem (by rw [R'.hl];exact hkl)⟩;have hS:=R'.hh kk h hk;have hm:h∈hs:=List.mem_of_getElem? hk;have R2:=R'.go hok.1 q hk;have nk:h≠k:=AV hS R'.ik (by simp);have nP:h≠P:=AV hS R'.ip (by simp);have nN:h≠N:=λz=>R'.nN (by rw [<-z];exact hm);have Nk:N≠k:=AV R'.it R'.ik (by simp);have NP:N≠P:=AV R'.it R'.ip (by simp);rw [nwD];symm;refine ⟨n - 1,by have:τ.p s + 2<=e:=hle.1;lia,?_⟩;symm;refine Cb R'.ik rfl ?_;symm;refine Bg R'.iw (lrF (λs=>.lst (wD (w s))) s) ?_;symm;refine Cb R'.ik rfl ?_;symm;refine Bg R'.ip (lrF (λs=>.int (τ.p s:Nat)) s) ?_;symm;refine Be (Dr (IL h1)) ?_;symm;refine YU (k:=h) ?_;symm;refine Cb R'.ik rfl ?_;symm;refine LM R'.ih (i:=kk) (d:=.obj h) (by rw [List.getElem?_map,hk];rfl) ?_;refine ⟨rfl,_,hS,?_⟩;symm;refine ⟨_,τ.hd.getD kk []++[m],hS,?_,?_⟩
   ·have h5:=R'.fw kk;have h6:=hp' true;have h7:=hp' false;have h8:=hok.2.2 true;have h9:=hok.2.2 false;simp only [BR];rw [if_pos (by rw [hL];lia)]
   symm;refine Cb (An R'.ik nk) rfl ?_;symm;refine Xy (An R'.it nN) (by unfold nD;rw [List.length_map,R'.ls];exact hkl) ?_;symm;refine Cb (An (An R'.ik nk) Nk) rfl ?_;symm;refine D9 (An (An R'.ip nP) NP) (by show 2 < 100000;decide) ?_;rw [Vt];symm;refine ⟨k,_,rfl,R2.ik,?_⟩;symm;have st:Stp gs w τ s (τ.go s kk m th e):=⟨kk,m,th,e,q,rfl⟩;have r2:Run gs w σ (τ.go s kk m th e):=r.trans (.one st);have pe:(τ.go s kk m th e).p s=e:=if_pos rfl;refine (hc n0 _ gs w _ k W P N H hs s hok (r2.inn hp) R2).use ?_;symm;refine ⟨τ.go s kk m th e,_,_,rfl,r2,R2,((L.set (R'.lh h hm)).set R'.lN).set R'.lP,by rw [pe];have:τ.p s + 2<=e:=hle.1;lia,.inr (by rw [pe];have:=r.grow.1 s;have:τ.p s + 2<=e:=hle.1;lia)⟩
 | stop=>
   rw [show nwD _=D.non from rfl];symm;rw [show (!FV D.non)=false from rfl];dsimp only;symm;refine Cb R'.ik rfl ?_;symm;refine Bg R'.ip (lrF (λs=>.int (τ.p s:Nat)) s) ?_;symm;refine ⟨L,τ,r,(λa b c d z=>by rw [q] at z;cases z),R',?_⟩
   rcases ho with rfl | ho
   ·exact .inr ⟨by rw [decide_eq_false (by lia)],rfl⟩
   ·exact .inl ⟨by rw [decide_eq_true (by lia)],ho⟩
 | brk j=>
   rw [show nwD _=D.non from rfl];symm;rw [show (!FV D.non)=false from rfl];dsimp only;symm;refine Cb R'.ik rfl ?_;symm;refine Bg R'.ip (lrF (λs=>.int (τ.p s:Nat)) s) ?_;symm;refine ⟨L,τ,r,(λa b c d z=>by rw [q] at z;cases z),R',?_⟩
   rcases ho with rfl | ho
   ·exact .inr ⟨by rw [decide_eq_false (by lia)],rfl⟩
   ·exact .inl ⟨by rw [decide_eq_true (by lia)],ho⟩
theorem Ic {α:Type}(ι:α->D):∀(xs:List α) (S:List Ob) (z:Option Sl),F2.W (Bf (Al 0) Bc (FN (AI Ad)) (xs.map ι)) ⟨[z],S⟩ λr t'=>r=((List.range' S.length xs.length).map D.obj)/\t'.S=S++List.replicate xs.length (.lst [])
 | [],S,z=>W_compL_nil.mpr ⟨rfl,(List.append_nil _).symm⟩
 | a :: r,S,z=>by
   rw [List.map_cons,A9];refine C8 (Ez ?_);rw [if_pos rfl];symm;refine (Ic ι r _ _).mono λxs t' z9=>?_;obtain ⟨e1,e2⟩:=z9;subst e1;refine ⟨?_,?_⟩
   ·rw [List.length_append,List.length_cons (as:=r),List.range'_succ,List.map_cons];rfl
   ·rw [e2,List.append_assoc,List.length_cons,List.replicate_succ];rfl
theorem JD {α:Type}(ι:α->D):∀(xs:List α) (S:List Ob) (z:Option Sl),F2.W (Bf (Al 0) Bc (fC (.int 0)) (xs.map ι)) ⟨[z],S⟩ λr t'=>r=nD (xs.map λ_=>0)/\t'.S=S
 | [],S,z=>W_compL_nil.mpr ⟨rfl,rfl⟩
 | a :: r,S,z=>by
   rw [List.map_cons,A9];refine C8 (Ez ?_);rw [if_pos rfl];symm;refine (JD ι r _ _).mono λxs t' z9=>?_;obtain ⟨e1,e2⟩:=z9;subst e1;exact ⟨rfl,e2⟩
theorem Ha {g:M D}(h:F2.W f ⟨t.env,t.S++[.dct []]⟩ λa t1=>F2.W g t1 λb t2=>t2.S[t.S.length]?=some (.dct [])/\P (.obj t.S.length) ⟨t2.env,t2.S.set t.S.length (.dct (lr a b))⟩):F2.W (EA [("left",f),("right",g)]) t P:=by
 refine N7 (B5 (h.mono λa t1 h1=>B5 (h1.mono λb t2 h2=>GH ⟨h2.1,by show 2<=15;decide,?_⟩)));rw [show EK [(Sum.inr (Str.ofString "left"),a),(Sum.inr (Str.ofString "right"),b)]=lr a b from Q3];exact h2.2
def M3 (f:Fn):Prop:=∀(S:List Ob) (k:Nat) (gs:List (List GS)) (w:Bool->List Nat),Ok2 gs w->S[k]?=some (.ins "Listener" [])->Wf f [.obj k,gsD gs,.lst (wD (w true)),.lst (wD (w false))] S λq S'=>q = .non/\Kp k S S'/\∃W P N H hs,Lis k S' gs w (ls0 gs) k W P N H hs
theorem FG {x:List Ob}(h:S[i]?=some u):(S++x)[i]?=some u:=by rw [List.getElem?_append_left (Cj h)];exact h
theorem Kp.appL {k:Nat}{x:List Ob}(a:Kp k S S'):Kp k S (S'++x):=⟨by rw [List.length_append];exact Nat.le_trans a.1 (Nat.le_add_right _ _),λi hi n=>by rw [List.getElem?_append_left (Nat.lt_of_lt_of_le hi a.1)];exact a.2 i hi n⟩
theorem QY:M3 (fnOf 4 4 Di):=by
 intro S k gs w ⟨hg,hgl,hw⟩ hk;have hL:LIM=100000:=rfl;have hkl:=Cj hk;refine Ax rfl ?_;unfold Di;symm;refine Fa hk (by show 0 < 1000;decide) ?_;have k1:Kp k S (S.set k (.ins "Listener" [("grammars",gsD gs)])):=Kp.refl.setk;have g1:(S.set k (.ins "Listener" [("grammars",gsD gs)]))[k]?=some (.ins "Listener" [("grammars",gsD gs)]):=AH hk;show HD _ _ Out.next ⟨_,S.set k (.ins "Listener" [("grammars",gsD gs)])⟩;generalize S.set k (.ins "Listener" [("grammars",gsD gs)])=S1 at k1 g1 ⊢;have n1:=Cj g1;symm;refine Ha ?_;symm;refine ⟨Bi,?_⟩;symm;have a1:((S1++[Ob.dct []]).set S1.length (.dct (dW (w true) (w false))))[k]?=some (.ins "Listener" [("grammars",gsD gs)]):=An (BP g1) (by lia);refine Fa a1 (by show 1 < 1000;decide) ?_;obtain ⟨W,hW⟩:∃W,W=S1.length:=⟨_,rfl⟩;rw [<-hW] at a1 ⊢;have w2:(((S1++[Ob.dct []]).set W (.dct (dW (w true) (w false)))).set k (.ins "Listener" [("grammars",gsD gs),("wires",.obj W)]))[W]?=some (.dct (dW (w true) (w false))):=An (by rw [hW];exact AH Bi) (by lia);have g2:(((S1++[Ob.dct []]).set W (.dct (dW (w true) (w false)))).set k (.ins "Listener" [("grammars",gsD gs),("wires",.obj W)]))[k]?=some (.ins "Listener" [("grammars",gsD gs),("wires",.obj W)]):=AH a1;have k2:Kp k S (((S1++[Ob.dct []]).set W (.dct (dW (w true) (w false)))).set k (.ins "Listener" [("grammars",gsD gs),("wires",.obj W)])):=(k1.app.set (by have:=k1.1;lia)).setk;show HD _ _ Out.next ⟨_,((S1++[Ob.dct []]).set W (.dct (dW (w true) (w false)))).set k (.ins "Listener" [("grammars",gsD gs),("wires",.obj W)])⟩;generalize ((S1++[Ob.dct []]).set W (.dct (dW (w true) (w false)))).set k (.ins "Listener" [("grammars",gsD gs),("wires",.obj W)])=S2 at w2 g2 k2 ⊢;have n2:=Cj w2;clear a1;symm;refine Ha ?_;symm;refine ⟨Bi,?_⟩;symm;have n2k:=Cj g2;have a2:((S2++[Ob.dct []]).set S2.length (.dct (dP 0 0)))[k]?=some (.ins "Listener" [("grammars",gsD gs),("wires",.obj W)]):=An (BP g2) (by lia);refine Fa a2 (by show 2 < 1000;decide) ?_;obtain ⟨P,hP⟩:∃P,P=S2.length:=⟨_,rfl⟩;rw [<-hP] at a2 ⊢;have p3:(((S2++[Ob.dct []]).set P (.dct (dP 0 0))).set k (.ins "Listener" [("grammars",gsD gs),("wires",.obj W),("places",.obj P)]))[P]?=some (.dct (dP 0 0)):=An (by rw [hP];exact AH Bi) (by lia);have w3:(((S2++[Ob.dct []]).set P (.dct (dP 0 0))).set k (.ins "Listener" [("grammars",gsD gs),("wires",.obj W),("places",.obj P)]))[W]?=some (.dct (dW (w true) (w false))):=An (An (BP w2) (by lia)) (by lia);have g3:(((S2++[Ob.dct []]).set P (.dct (dP 0 0))).set k (.ins "Listener" [("grammars",gsD gs),("wires",.obj W),("places",.obj P)]))[k]?=some (.ins "Listener" [("grammars",gsD gs),("wires",.obj W),("places",.obj P)]):=AH a2;have k3:Kp k S (((S2++[Ob.dct []]).set P (.dct (dP 0 0))).set k (.ins "Listener" [("grammars",gsD gs),("wires",.obj W),("places",.obj P)])):=(k2.app.set (by have:=k2.1;lia)).setk;show HD _ _ Out.next ⟨_,((S2++[Ob.dct []]).set P (.dct (dP 0 0))).set k (.ins "Listener" [("grammars",gsD gs),("wires",.obj W),("places",.obj P)])⟩;generalize ((S2++[Ob.dct []]).set P (.dct (dP 0 0))).set k (.ins "Listener" [("grammars",gsD gs),("wires",.obj W),("places",.obj P)])=S3 at p3 w3 g3 k3 ⊢;have n3:=Cj p3;clear a2;unfold gsD;symm;refine (JD (λg:List GS=>D.lst (g.map GS.d)) gs S3 _).mono λr t' z9=>?_;obtain ⟨e1,e2⟩:=z9;subst e1;obtain ⟨ev,S3'⟩:=t';have e2:S3'=S3:=e2;subst e2;have n3k:=Cj g3;symm;refine Bn (by unfold nD;rw [List.length_map,List.length_map,hL];lia) ?_;symm;obtain ⟨Z,hZ⟩:∃Z,Z=nD (gs.map λ_=>0):=⟨_,rfl⟩;rw [<-hZ];have a3:(S3'++[Ob.lst Z])[k]?=some (.ins "Listener" [("grammars",gsD gs),("wires",.obj W),("places",.obj P)]):=BP g3;refine Fa a3 (by show 3 < 1000;decide) ?_;obtain ⟨N,hN⟩:∃N,N=S3'.length:=⟨_,rfl⟩;have t4:((S3'++[Ob.lst Z]).set k (.ins "Listener" [("grammars",gsD gs),("wires",.obj W),("places",.obj P),("standings",.obj N)]))[N]?=some (.lst Z):=An (by rw [hN];exact Bi) (by lia);have p4:((S3'++[Ob.lst Z]).set k (.ins "Listener" [("grammars",gsD gs),("wires",.obj W),("places",.obj P),("standings",.obj N)]))[P]?=some (.dct (dP 0 0)):=An (BP p3) (by lia);have w4:((S3'++[Ob.lst Z]).set k (.ins "Listener" [("grammars",gsD gs),("wires",.obj W),("places",.obj P),("standings",.obj N)]))[W]?=some (.dct (dW (w true) (w false))):=An (BP w3) (by lia);have g4:((S3'++[Ob.lst Z]).set k (.ins "Listener" [("grammars",gsD gs),("wires",.obj W),("places",.obj P),("standings",.obj N)]))[k]?=some (.ins "Listener" [("grammars",gsD gs),("wires",.obj W),("places",.obj P),("standings",.obj N)]):=AH a3;have k4:Kp k S ((S3'++[Ob.lst Z]).set k (.ins "Listener" [("grammars",gsD gs),("wires",.obj W),("places",.obj P),("standings",.obj N)])):=k3.app.setk;show HD _ _ Out.next ⟨[some (.val (.obj k)),some (.val (gsD gs)),some (.val (.lst (wD (w true)))),some (.val (.lst (wD (w false))))],(S3'++[Ob.lst Z]).set k (.ins "Listener" [("grammars",gsD gs),("wires",.obj W),("places",.obj P),("standings",.obj S3'.length)])⟩;rw [<-hN];generalize (S3'++[Ob.lst Z]).set k (.ins "Listener" [("grammars",gsD gs),("wires",.obj W),("places",.obj P),("standings",.obj N)])=S4 at t4 p4 w4 g4 k4 ⊢;have n4:=Cj t4;have n4k:=Cj g4;clear a3;unfold gsD;symm;refine (Ic (λg:List GS=>D.lst (g.map GS.d)) gs S4 _).mono λr t' z9=>?_;obtain ⟨e1,e2⟩:=z9;subst e1;obtain ⟨ev,S5⟩:=t';have e2:S5=S4++List.replicate gs.length (.lst []):=e2;symm;refine Bn (by rw [List.length_map,List.length_range',hL];lia) ?_;symm;have g5:S5[k]?=some (.ins "Listener" [("grammars",gsD gs),("wires",.obj W),("places",.obj P),("standings",.obj N)]):=by rw [e2];exact FG g4
 have l5:S5.length=S4.length + gs.length:=by rw [e2,List.length_append,List.length_replicate]
 refine Fa (BP g5) (by show 4 < 1000;decide) ?_;have hk4:=k4.1;refine ⟨rfl,by rw [e2];exact k4.appL.app.setk,W,P,N,S5.length,List.range' S4.length gs.length,?_⟩;show Lis k ((S5++[Ob.lst ((List.range' S4.length gs.length).map D.obj)]).set k (.ins "Listener" (liF gs W P N S5.length))) gs w (ls0 gs) k W P N S5.length (List.range' S4.length gs.length);have hin:∀h,h∈List.range' S4.length gs.length->S4.length<=h/\h < S4.length + gs.length:=λh z=>by rw [List.mem_range'_1] at z;exact z
 refine ⟨AH (BP g5),?_,?_,?_,An Bi (by lia),List.length_range',λi h hi=>?_,List.nodup_range',λz=>by have:=hin _ z;lia,λz=>by have:=hin _ z;lia,by lia,by lia,by lia,λh z=>by have:=hin h z;lia,List.length_map ..,λi g z=>?_,List.length_map ..,λi=>?_⟩
 ·rw [e2];exact An (BP (FG w4)) (by lia)
 ·rw [e2];exact An (BP (FG p4)) (by lia)
 ·rw [e2];exact An (BP (FG (by rw [t4,hZ];rfl))) (by lia)
 ·obtain ⟨hl,hv⟩:=List.getElem?_eq_some_iff.mp hi;rw [List.length_range'] at hl;rw [List.getElem_range'] at hv;have hv:h=S4.length + i:=by lia
  subst hv;have e0:(ls0 gs).hd.getD i []=[]:=by
   show (gs.map λ_=>[]).getD i []=[];rw [List.getD_eq_getElem?_getD,List.getElem?_map]
   cases gs[i]? <;> rfl
  rw [e0];refine An (BP ?_) (by lia);rw [e2,List.getElem?_append_right (by lia),show S4.length + i - S4.length=i by lia,List.getElem?_replicate,if_pos hl]
 ·have e0:(ls0 gs).st.getD i 0=0:=by
   show (gs.map λ_=>0).getD i 0=0;rw [List.getD_eq_getElem?_getD,List.getElem?_map]
   cases gs[i]? <;> rfl
  rw [e0];exact (hg g (List.mem_of_getElem? z)).ne
 ·have e0:(ls0 gs).hd.getD i []=[]:=by
   show (gs.map λ_=>[]).getD i []=[];rw [List.getD_eq_getElem?_getD,List.getElem?_map]
   cases gs[i]? <;> rfl
  rw [e0];exact Nat.zero_le _
structure HrdAt (S:List Ob)(H:Nat)(hs:List Nat)(hd:List (List D)):Prop where
 ih:S[H]?=some (.lst (hs.map .obj))
 hl:hs.length=hd.length
 hh:∀(i h:Nat),hs[i]?=some h->S[h]?=some (.lst (hd.getD i []))
def bsD (gs:List (List GS))(w:Bool->List Nat)(σ:Ls)(r:D)(S':List Ob):Prop:=match AR gs w σ with
 | some (s,j)=>r = .exc "Broken" [.int (j:Nat),.str (sd s)]
 | none=>∃H hs,r = .tup [.obj H,.tup [.int (σ.p true:Nat),.int (σ.p false:Nat)]]/\HrdAt S' H hs σ.hd
def Kg (f:Fn):Prop:=∀(S:List Ob) (gs:List (List GS)) (w:Bool->List Nat),Ok2 gs w->Wf f [gsD gs,.lst (wD (w true)),.lst (wD (w false))] S λr S'=>Gr S S'/\∃σ,End gs w σ/\σ.hd.length=gs.length/\(∀i,2 * (σ.hd.getD i []).length<=σ.p true + σ.p false)/\bsD gs w σ r S'
theorem On {cr ci:Fn}(hn:HM cn)(hr:Hm cr)(hi:M3 ci):Kg (fnOf 3 4 (D5 cn cr ci)):=by
 intro S gs w hok;have hL:LIM=100000:=rfl;refine Ax rfl ?_;unfold D5;symm;refine (hi _ S.length gs w hok Bi).mono λr S1 z9=>?_;obtain ⟨e,K,W,P,N,H,hs,R⟩:=z9;refine ⟨e,?_⟩;have G1:Gr S S1:=⟨by have:=K.1;rw [List.length_append] at this;lia,λi h=>by rw [K.2 i (by rw [List.length_append];lia) (by lia)];exact List.getElem?_append_left h⟩;have hn0:S.length<=S1.length:=G1.1;symm;refine EO (λn t=>∃τ S',t=⟨[some (.val (gsD gs)),some (.val (.lst (wD (w true)))),some (.val (.lst (wD (w false)))),some (.val (.obj S.length))],S'⟩/\Run gs w (ls0 gs) τ/\Lis S.length S' gs w τ S.length W P N H hs/\Low S.length S1 S'/\(w true).length + (w false).length<=n + τ.p true + τ.p false) ?_ FF ((w true).length + (w false).length) _ (by have:=hok.2.2 true;have:=hok.2.2 false;show _ < 1000000;lia) ⟨ls0 gs,S1,rfl,.refl _,R,.refl hn0,by lia⟩;rintro n t ⟨τ,S',rfl,r,R',L,hm⟩;have hp':∀s,τ.p s<=(w s).length:=r.inn λ_=>Nat.zero_le _;symm;refine ⟨S.length,_,rfl,R'.ik,?_⟩;symm;refine (hr S.length S' gs w τ S.length W P N H hs true hok hp' L.1 R').mono λq S2 z9=>?_;obtain ⟨L2,τ2,r2,x2,R2,o2⟩:=z9;rcases o2 with ⟨rfl,lt⟩ | ⟨rfl,rfl⟩
 ·symm;have h1:=r2.grow.1 false;have h2:=(r.trans r2).inn (λ_=>Nat.zero_le _) true;refine ⟨n - 1,by have:=hp' true;have:=hp' false;lia,?_⟩;symm;exact ⟨τ2,S2,rfl,r.trans r2,R2,L.trans L2,by lia⟩
 ·symm;refine ⟨S.length,_,rfl,R2.ik,?_⟩;symm;refine (hr S.length S2 gs w τ2 S.length W P N H hs false hok hp' L2.1 R2).mono λq S3 z9=>?_;obtain ⟨L3,τ3,r3,x3,R3,o3⟩:=z9;rcases o3 with ⟨rfl,lt⟩ | ⟨rfl,rfl⟩
  ·symm;have h1:=r3.grow.1 true;refine ⟨n - 1,by have:=hp' true;have:=hp' false;have:=(r.trans r3).inn (λ_=>Nat.zero_le _) false;lia,?_⟩;symm;exact ⟨τ3,S3,rfl,r.trans r3,R3,(L.trans L2).trans L3,by lia⟩
  ·symm;have hE:End gs w τ3:=⟨r,λs=>by cases s;exact x3;exact x2⟩;have hG:Gr S S3:=⟨L3.1,λi h=>(((L.trans L2).trans L3).2 i h).trans (G1.2 i h)⟩;have hfw:=R3.fw;refine ⟨S.length,_,rfl,R3.ik,?_⟩;symm;refine (hn S.length S3 gs w τ3 S.length W P N H hs true hok hp' R3).use ?_
   cases e1:τ3.nx gs w true with
   | msg a b c d=>exact absurd e1 (x2 a b c d)
   | brk j=>
     rw [nrD];symm;refine ⟨hG,τ3,hE,R3.ld,hfw,?_⟩;unfold bsD AR;rw [e1];rfl
   | stop=>
     rw [nrD];symm;refine ⟨S.length,_,rfl,R3.ik,?_⟩;symm;refine (hn S.length S3 gs w τ3 S.length W P N H hs false hok hp' R3).use ?_
     cases e2:τ3.nx gs w false with
     | msg a b c d=>exact absurd e2 (x3 a b c d)
     | brk j=>
       rw [nrD];symm;refine ⟨hG,τ3,hE,R3.ld,hfw,?_⟩;unfold bsD AR;rw [e1,e2];rfl
     | stop=>
       rw [nrD];symm;refine Cb R3.ik rfl ?_;symm;refine Cb R3.ik rfl ?_;symm;refine Bg R3.ip (lrF (λs=>.int (τ3.p s:Nat)) true) ?_;symm;refine Cb R3.ik rfl ?_;symm;refine Bg R3.ip (lrF (λs=>.int (τ3.p s:Nat)) false) ?_;symm;refine ⟨rfl,?_⟩;symm;refine ⟨hG,τ3,hE,R3.ld,hfw,?_⟩;unfold bsD AR;rw [e1,e2];exact ⟨H,hs,rfl,R3.ih,by rw [R3.hl,R3.ld],R3.hh⟩
def At (w:List Nat)(a:Nat)(xs:List D):Prop:=∃p q,wD w=p++(xs++q)/\p.length=a
def Gw (S S':List Ob):Prop:=S.length<=S'.length/\∀i,i < S.length->S'[i]?=S[i]?
mutual
inductive Ow (S:List Ob):D->D->List Nat->Prop
 | non:Ow S .non .non []
 | int (i:Int):Ow S (.int i) (.int i) []
 | str (x:Str):Ow S (.str x) (.str x) []
 | tup {ds vs:List D} {fp:List Nat}:Ows S ds vs fp->Ow S (.tup ds) (.tup vs) fp
 | obj {k:Nat} {ds vs:List D} {fp:List Nat}:S[k]?=some (.lst ds)->Ows S ds vs fp->k∉fp->Ow S (.obj k) (.lst vs) (k :: fp)
inductive Ows (S:List Ob):List D->List D->List Nat->Prop
 | nil:Ows S [] [] []
 | cons {d v:D} {fp fp':List Nat} {ds vs:List D}:Ow S d v fp->Ows S ds vs fp'->(∀k∈fp,k∉fp')->Ows S (d :: ds) (v :: vs) (fp++fp')
end
variable {tst:M Bool}
theorem He {g:Gd}{st:D->M Unit}{P:List D->T->Prop}(h:Gon g t.S)(q:P [] t):W (compG g st tst elt []) t P:=by
 unfold compG;exact W_bnd.mpr ⟨_,_,Ox h,W_ret.mpr q⟩
theorem Ga {g:Gd}{st:D->M Unit}{d:D}{r:List D}{P:List D->T->Prop}(h:Gon g t.S)(q:W (st d) t λ_ t1=>W tst t1 λk t2=>
 if k=true then W elt t2 λx t3=>W (compG g st tst elt r) t3 λxs t4=>P (x :: xs) t4 else W (compG g st tst elt r) t2 P):W (compG g st tst elt (d :: r)) t P:=by
 rw [compG];refine W_bnd.mpr ⟨_,_,Ox h,W_bnd.mpr (q.mono λ_ t1 q=>W_bnd.mpr (q.mono λk t2 q=>?_))⟩
 split
 ·next hk=>
  rw [if_pos hk] at q;exact W_bnd.mpr (q.mono λx t3 q=>W_bnd.mpr (q.mono λxs t4 q=>W_ret.mpr q))
 ·next hk=>
  rw [if_neg hk] at q;exact q
theorem P8 {fr:List Nat}{f:M (Gd×List D)}{st:D->M Unit}{P:List D->T->Prop}(h:W f t λp t1=>W (compG p.1 st tst elt p.2) ⟨cenv n fr t1.env,t1.S⟩ λxs t2=>FW xs.length (P xs { t1 with S:=t2.S })):W (DQ n fr f st tst elt) t P:=by
 refine W_bnd.mpr (h.mono λp t1 h=>?_);obtain ⟨xs,t2,e,l,q⟩:=h;refine ⟨xs,_,?_,q⟩;simp only [e,if_pos l]
theorem KN {k:Nat}(h:S[k]?=some (.lst xs)):Gon (some (k,xs)) S:=λ_ _ z=>by cases z;exact h
def prt (g:List GS)(mv:List Mv)(i:Nat):List D:=match mv[i]? with
 | some (p,v)=>.int (p:Int) :: AE (B1 g (Iw g 0 (mv.take i)) p).2.1 v
 | none=>[]
structure Due (g:List GS)(mv:List Mv)(rl rr k:Nat):Prop where
 le:k<=mv.length
 a:(F4 g sL 0 (mv.take k)).length<=rl
 b:(F4 g sR 0 (mv.take k)).length<=rr
 z:k=mv.length\/(k < mv.length/\onS (AS g (Iw g 0 (mv.take k))).side rl rr < onS (AS g (Iw g 0 (mv.take k))).side (F4 g sL 0 (mv.take k)).length (F4 g sR 0 (mv.take k)).length + (prt g mv k).length)
theorem G9 (w:List Nat)(r:Nat):wD (w.take r)=(wD w).take r:=by unfold wD;rw [List.map_take]
noncomputable def nvO:Nat->D->Bool
 | _,.non=>true
 | _,.int _=>true
 | _,.str _=>true
 | n + 1,.lst xs=>decide (xs.length<=1000) && xs.all (nvO n)
 | n + 1,.tup xs=>decide (xs.length<=1000) && xs.all (nvO n)
 | _,_=>false
theorem EU:∀(n:Nat) (s:Sh),s.depth<=n->wf s=true->∀v,AA s v=true->nvO n v=true
 | 0,s,h,_,_,_=>absurd s.depth_pos (by lia)
 | n + 1,s,hs,hw,v,hf=>by
   cases s with
   | nothing=>cases v <;> simp [AA,FV] at hf;rfl
   | number lo hi=>cases v <;> simp [AA] at hf;rfl
   | text q=>cases v <;> simp only [AA,Bool.false_eq_true] at hf;rfl
   | list s q=>
     simp only [wf,Bool.and_eq_true,decide_eq_true_eq] at hw;rw [Sh.depth] at hs
     cases v <;> simp only [AA,Bool.false_eq_true] at hf
     rename_i ds;simp only [Bool.and_eq_true,decide_eq_true_eq,List.all_eq_true] at hf;rw [nvO,Bool.and_eq_true,decide_eq_true_eq,List.all_eq_true];exact ⟨by lia,λd hd=>EU n s (by lia) hw.2 d (hf.2 d hd)⟩
   | pair s r=>
     simp only [wf,Bool.and_eq_true] at hw;rw [Sh.depth] at hs;unfold AA at hf
     split at hf
     ·rw [Bool.and_eq_true] at hf;have h1:=EU n s (by lia) hw.1 _ hf.1;have h2:=EU n r (by lia) hw.2 _ hf.2;simp [nvO,h1,h2]
     ·cases hf
   | choice ss=>
     simp only [wf,Bool.and_eq_true,decide_eq_true_eq] at hw;rw [Sh.depth] at hs;unfold AA at hf
     split at hf
     ·next o k x=>
      simp only [Bool.and_eq_true,decide_eq_true_eq] at hf;obtain ⟨j,rfl⟩:=Int.eq_ofNat_of_zero_le hf.1.2.1;have hj:j < ss.length:=by have:=hf.1.2.2;lia
      have e1:ss[j]?=some ss[j]:=List.getElem?_eq_getElem hj;have h2:=hf.2;rw [Int.toNat_natCast,DH ss _ _ _ e1] at h2;have h3:=EU n _ (Nat.le_trans (DL ss _ _ e1) (by lia)) (Eb hw.2 _ (List.getElem_mem hj)) x h2;have g1:∀o:Str,nvO n (.str o)=true:=λo=>by cases n <;> rfl
      have g2:∀i:Int,nvO n (.int i)=true:=λo=>by cases n <;> rfl
      simp [nvO,h3,g1,g2]
     ·cases hf
theorem K6:∀(n:Nat) (v:D),nvO n v=true->nvO (n + 1) v=true
 | 0,v,h=>by cases v <;> first | rfl | (simp [nvO] at h;done)
 | n + 1,v,h=>by
   cases v <;> first | rfl | (simp [nvO] at h;done) | skip
   all_goals
    rw [nvO,Bool.and_eq_true,List.all_eq_true] at h;rw [nvO,Bool.and_eq_true,List.all_eq_true];exact ⟨h.1,λd hd=>K6 n d (h.2 d hd)⟩
theorem EL {n:Nat}{v:D}(h:nvO n v=true):∀m,nvO (n + m) v=true
 | 0=>h
 | m + 1=>K6 _ _ (EL h m)
theorem MF:∀{xs:List D},(∀x∈xs,A7 x=true)->E3 xs=true
 | [],_=>rfl
 | x :: r,h=>by rw [E3,h x List.mem_cons_self,MF λy m=>h y (List.mem_cons_of_mem _ m)];rfl
theorem Lh:∀(n:Nat) (v:D),nvO n v=true->A7 v=true
 | 0,v,h=>by cases v <;> first | rfl | (simp [nvO] at h;done)
 | n + 1,v,h=>by
   cases v <;> first | rfl | (simp [nvO] at h;done) | skip
   all_goals
    rw [nvO,Bool.and_eq_true,List.all_eq_true] at h;rw [A7];exact MF λx hx=>Lh n x (h.2 x hx)
theorem Lq:∀(n:Nat) (v:D),nvO n v=true->Rq n v
 | 0,v,h=>by cases v <;> first | exact PK | exact PJ | exact PL | (simp [nvO] at h;done)
 | n + 1,v,h=>by
   cases v <;> first | exact PK | exact PJ | exact PL | (simp [nvO] at h;done) | skip
   ·rw [nvO,Bool.and_eq_true,List.all_eq_true] at h;exact W2 λx hx=>Lq n x (h.2 x hx)
   ·rw [nvO,Bool.and_eq_true,List.all_eq_true] at h;exact Lp λx hx=>Lq n x (h.2 x hx)
theorem GW {S:List Ob}:∀(n:Nat) (v:D),nvO n v=true->Bw S n v=v
 | 0,v,h=>by cases v <;> first | rfl | (simp [nvO] at h;done)
 | n + 1,v,h=>by
   cases v <;> first | rfl | (simp [nvO] at h;done) | skip
   all_goals
    rw [nvO,Bool.and_eq_true,List.all_eq_true] at h;rw [Bw]
    congr 1
    rw [List.map_congr_left λx hx=>GW n x (h.2 x hx),List.map_id']
theorem Xr {g:Bool->Bool}{x y d:D}(hx:Bw t.S 16 x=d)(hy:Bw t.S 16 y=d)(hn:nvO 16 d=true)(h:P (.bl (g true)) t):W (eqO g x y) t P:=
 ⟨_,_,by unfold eqO;rw [hx,hy,Lh 16 d hn,Lq 16 d hn EQD (by decide)];rfl,h⟩
local macro_rules | `(tactic| walk_at "y1")=>`(tactic| first | walk_at "x1" | clear 32 wIsiP | ((with_reducible refine' wIsi2 ?wv ?wu ?wt ?ws ?_);(case wv=>exact rfl);(case wu=>exact rfl);(case wt=>exact rfl);(case ws=>exact rfl)))
theorem Xu {P:Gd×List D->T->Prop}(h:W f t λd t1=>W (Gn d) t1 P):W (Ja f) t P:=W_bnd.mpr h
theorem SJ {k:Nat}{P:Gd×List D->T->Prop}(e:t.S[k]?=some (.lst ds))(h:P (some (k,ds),ds) t):W (Gn (.obj k)) t P:=⟨_,_,by simp only [Gn,e],h⟩
def ltD (gs:List (List GS))(w:Bool->List Nat)(σ:Ls)(r:D)(S':List Ob):Prop:=match AR gs w σ with
 | some (s,j)=>r = .tup [.non,.tup [.str (sd s),.int (j:Nat)]]
 | none=>∃H hs,r = .tup [.tup [.obj H,.tup [.int (σ.p true:Nat),.int (σ.p false:Nat)]],.non]/\HrdAt S' H hs σ.hd
def EN (f:Fn):Prop:=∀(S:List Ob) (gs:List (List GS)) (w:Bool->List Nat),Ok2 gs w->Wf f [gsD gs,.lst (wD (w true)),.lst (wD (w false))] S λr S'=>Gr S S'/\∃σ,End gs w σ/\σ.hd.length=gs.length/\(∀i,2 * (σ.hd.getD i []).length<=σ.p true + σ.p false)/\ltD gs w σ r S'
theorem O7 {c:Fn}(hc:Kg c):EN (fnOf 3 6 (DV c)):=by
 intro S gs w hok;have hL:LIM=100000:=rfl;have h1:=hok.2.2 true;have h2:=hok.2.2 false;refine Ax rfl ?_;unfold DV;symm;refine (hc S gs w hok).mono λr S1 z9=>?_;obtain ⟨hG,σ,hE,hl,hf,hr⟩:=z9;unfold bsD at hr
 cases e:AR gs w σ with
 | none=>
   rw [e] at hr;obtain ⟨H,hs,rfl,hH⟩:=hr;symm;refine ⟨hG,σ,hE,hl,hf,?_⟩;unfold ltD;rw [e];exact ⟨H,hs,rfl,hH⟩
 | some x=>
   obtain ⟨s,j⟩:=x;rw [e] at hr;have hr:r = .exc "Broken" [.int (j:Nat),.str (sd s)]:=hr;subst hr;symm;refine ⟨hG,σ,hE,hl,hf,?_⟩;unfold ltD;rw [e]
def F7 (f:Fn):Prop:=∀s:Bool,Pure1 f [.str (sd s)] (.str (sd (!s)))
theorem Ud:F7 (fnOf 1 1 Et):=by
 intro s S;refine Ax rfl ?_;unfold Et
 cases s <;> (symm;exact ⟨rfl,rfl⟩)
theorem UZ {n:Int}{x:GS}(h:GSOk n x):GSOk n (Ed x):=by
 cases h with
 | fin=>exact .fin
 | st h1 h2 h3 h4 h5=>
   refine .st ?_ h2 h3 h4 h5;rcases h1 with rfl | rfl
   ·exact .inr rfl
   ·exact .inl rfl
theorem R4 (h:GOk g):GOk (g.map Ed):=⟨by rw [List.length_map];exact h.ne,by rw [List.length_map];exact h.le,λx hx=>by
 obtain ⟨y,hy,rfl⟩:=List.mem_map.mp hx;rw [List.length_map];exact UZ (h.all y hy)⟩
theorem K8 {w:Bool->List Nat}(h:Ok2 gs w):Ok2 (BY gs) λs=>w (!s):=⟨λg hg=>by
 obtain ⟨y,hy,rfl⟩:=List.mem_map.mp hg;exact R4 (h.1 y hy),by unfold BY;rw [List.length_map];exact h.2.1,λs=>h.2.2 (!s)⟩
theorem JC {c:Fn}(hc:F7 c){n:Int}(S:List Ob):∀(l:List GS) (z:Option Sl),(∀x∈l,GSOk n x)->F2.W (Bf (Al 0) Bc (fIf (Ak (Ac (fB (Aa (Ab 0) Ad) AF) (fC (D.int 1)) gtA)) (AL (Aa (Af c (Aa (Ac (Ab 0) (fC (D.int 0)) ixD) Ad)) (Aa (Av (fBF (Aa (Ac (Ab 0) (fC (D.int 1)) ixD) Ad) Dx)) Ad))) (Ab 0)) (l.map GS.d)) ⟨[z],S⟩ λr t'=>r=(l.map Ed).map GS.d/\t'.S=S
 | [],z,_=>W_compL_nil.mpr ⟨rfl,rfl⟩
 | x :: r,z,h=>by
   have hL:LIM=100000:=rfl;have hx:=h x List.mem_cons_self;have ih:=λz=>JC hc S r z λy hy=>h y (List.mem_cons_of_mem _ hy);rw [List.map_cons,A9];refine C8 (Ez ?_);rw [if_pos rfl]
   cases hx with
   | fin=>
     rw [GS.d];symm;refine (ih _).mono λxs t' z9=>?_;obtain ⟨e1,e2⟩:=z9;subst e1;exact ⟨rfl,e2⟩
   | @st side ws h1 h2 h3 h4 h5=>
     rw [GS.d];symm;obtain ⟨b,rfl⟩:∃b,side=sd b:=by
      rcases h1 with rfl | rfl
      ·exact ⟨true,rfl⟩
      ·exact ⟨false,rfl⟩
     refine (hc b).use ?_;symm;refine (ih _).mono λxs t' z9=>?_;obtain ⟨e1,e2⟩:=z9;subst e1;refine ⟨?_,e2⟩;rw [List.map_cons,List.map_cons,Ed,GS.d,Ej]
theorem KJ {c:Fn}(hc:F7 c)(S:List Ob)(a:Option Sl):∀(gs:List (List GS)) (xs:List D) (z:Option Sl),(∀g∈gs,GOk g)->xs.length + gs.length<=9->F2.W (BL (Al 2) (ownM 1 BR (Aa (Av (AM 1 [] (Dt (Ab 2)) (Al 0) Bc (fIf (Ak (Ac (fB (Aa (Ab 0) Ad) AF) (fC (D.int 1)) gtA)) (AL (Aa (Af c (Aa (Ac (Ab 0) (fC (D.int 0)) ixD) Ad)) (Aa (Av (fBF (Aa (Ac (Ab 0) (fC (D.int 1)) ixD) Ad) Dx)) Ad))) (Ab 0)))) Ad)) (gs.map λg=>D.lst (g.map GS.d))) ⟨[a,some (.own xs),z],S⟩ λo t=>o = .next/\∃z',t=⟨[a,some (.own (xs++gs.map λg=>D.lst ((g.map Ed).map GS.d))),z'],S⟩
 | [],xs,z,_,_=>W_forL_nil.mpr ⟨rfl,z,by rw [List.map_nil,List.append_nil]⟩
 | g :: r,xs,z,h,hl=>by
   have hL:LIM=100000:=rfl;have hg:=h g List.mem_cons_self;have hgl:=hg.le;rw [List.length_cons] at hl;rw [List.map_cons,B6];symm;refine (JC hc S g _ hg.all).mono λr1 t' z9=>?_;obtain ⟨e1,e2⟩:=z9;subst e1;obtain ⟨ev,S1⟩:=t';have e2:S1=S:=e2;subst e2;symm;refine Bn (by rw [List.length_map,List.length_map,hL];lia) ?_;symm;refine ⟨by rw [hL];lia,?_⟩;symm;refine (KJ hc S1 a r (xs++[D.lst ((g.map Ed).map GS.d)]) _ (λy hy=>h y (List.mem_cons_of_mem _ hy)) (by rw [List.length_append];show _ + 1 + _<=9;lia)).mono λo t z9=>?_;obtain ⟨e1,z',e2⟩:=z9;refine ⟨e1,z',?_⟩;rw [e2,List.append_assoc];rfl
def M5 (f:Fn):Prop:=∀gs:List (List GS),(∀g∈gs,GOk g)->gs.length<=9->Pure1 f [gsD gs] (gsD (BY gs))
theorem O8 {c:Fn}(hc:F7 c):M5 (fnOf 1 3 (D3 c)):=by
 intro gs hg hl S;refine Ax rfl ?_;unfold D3 gsD;symm;refine (KJ hc S _ gs [] none hg (by rw [List.length_nil];lia)).mono λo t z9=>?_;obtain ⟨e1,z',e2⟩:=z9;subst e1 e2;symm;refine ⟨?_,rfl⟩;rw [List.nil_append];unfold BY;rw [List.map_map];rfl
def MgOk (m:D):Prop:=∃s n v,m = .tup [.str (sd s),.str n,v]/\nvO 3 v=true
theorem MgOk.nv {m:D}(h:MgOk m):nvO 4 m=true:=by
 obtain ⟨s,n,v,rfl,h⟩:=h;rw [nvO,Bool.and_eq_true,List.all_eq_true];refine ⟨rfl,λx hx=>?_⟩;rcases List.mem_cons.mp hx with rfl | hx
 ·rfl
 rcases List.mem_cons.mp hx with rfl | hx
 ·rfl
 rw [List.mem_singleton.mp hx];exact h
theorem MgOk.mir2 {m:D}(h:MgOk m):BN (BN m)=m:=by
 obtain ⟨s,n,v,rfl,_⟩:=h;rw [BN,BN,Ej,Ej,Bool.not_not]
theorem MgOk.mir {m:D}(h:MgOk m):MgOk (BN m):=by
 obtain ⟨s,n,v,rfl,h⟩:=h;rw [BN,Ej];exact ⟨_,_,_,rfl,h⟩
theorem We {n:Int}{side:Str}{ws:List (Str×Sh×Int)}(hb:B256 w)(hs:GSOk n (.st side ws))(h:Bh side ws w p=(.told v e,c)):nvO 3 v=true:=by
 unfold Bh at h
 cases hx:w[p]? with
 | none=>rw [hx] at h;cases h
 | some y=>
   rw [hx] at h;dsimp only at h;obtain ⟨hpl,_⟩:=List.getElem?_eq_some_iff.mp hx
   cases hws:ws[y]? with
   | none=>rw [hws] at h;cases h
   | some wd=>
     rw [hws] at h;injection h with h1 h2
     cases hs with
     | @st _ _ hs1 hs2 hs3 hs4 hs5=>
       have hw:=hs5 wd (List.mem_of_getElem? hws);exact EU 3 _ hw.dep hw.ok v (Lr 3 _ hw.dep hw.ok w hb _ _ v hpl h1).1
def AllMg (l:List (List D)):Prop:=∀i,∀m∈l.getD i [],MgOk m
section
variable {gs:List (List GS)}{w:Bool->List Nat}
theorem RD (hg:∀g∈gs,GOk g)(hb:∀s,B256 (w s)){σ τ:Ls}(r:Run gs w σ τ)(h:AllMg σ.hd):AllMg τ.hd:=by
 induction r with
 | refl=>exact h
 | @step σ τ ρ s h' r ih=>
   obtain ⟨k,m,th,e,h1,rfl⟩:=h';refine ih λi x hx=>?_;obtain ⟨g,ws,v,c,_,h2,h3,h4,rfl,_⟩:=Ei h1
   by_cases z:k=i
   ·subst z
    by_cases hk:k < σ.hd.length
    ·have hx:x∈σ.hd.getD k []++[D.tup [.str (sd s),.str (ws.getD c (Str.ofString "",.nothing,0)).1,v]]:=by
      have:=Do (a:=σ.hd.getD k []++[D.tup [.str (sd s),.str (ws.getD c (Str.ofString "",.nothing,0)).1,v]]) (d:=[]) hk;rw [<-this];exact hx
     rcases List.mem_append.mp hx with hx | hx
     ·exact h k x hx
     ·rw [List.mem_singleton.mp hx];refine ⟨s,_,v,rfl,We (hb s) ((hg g (List.mem_of_getElem? h2)).all (.st (sd s) ws) ?_) h4⟩;unfold AS at h3;rw [List.getD_eq_getElem?_getD] at h3
      cases e5:g[σ.st.getD k 0]? with
      | none=>rw [e5] at h3;cases h3
      | some y=>rw [e5,Option.getD_some] at h3;rw [<-h3];exact List.mem_of_getElem? e5
    ·have e0:(σ.go s k (.tup [.str (sd s),.str (ws.getD c (Str.ofString "",.nothing,0)).1,v]) th e).hd=σ.hd:=List.set_eq_of_length_le (by lia);rw [e0] at hx;exact h k x hx
   ·have e0:(σ.go s k (.tup [.str (sd s),.str (ws.getD c (Str.ofString "",.nothing,0)).1,v]) th e).hd.getD i []=σ.hd.getD i []:=BO z;rw [e0] at hx;exact h i x hx
theorem End.msgs (hg:∀g∈gs,GOk g)(hb:∀s,B256 (w s))(h:End gs w σ):AllMg σ.hd:=RD hg hb h.1 λi m hm=>by
 have e0:(ls0 gs).hd.getD i []=[]:=by
  show (gs.map λ_=>[]).getD i []=[];rw [List.getD_eq_getElem?_getD,List.getElem?_map]
  cases gs[i]? <;> rfl
 rw [e0] at hm
 cases hm
end
variable {H:Nat}{hs:List Nat}{hd:List (List D)}
theorem HrdAt.pairs (h:HrdAt S H hs hd):∃ps:List (Nat×List D),hs.map D.obj=ps.map (λp=>D.obj p.1)/\hd=ps.map (·.2)/\∀p∈ps,S[p.1]?=some (.lst p.2):=by
 refine ⟨hs.zip hd,?_,?_,λp hp=>?_⟩
 ·have:=congrArg (List.map D.obj) (List.map_fst_zip (l₁:=hs) (l₂:=hd) (by rw [h.hl];exact Nat.le_refl _));rw [<-this,List.map_map];rfl
 ·exact (List.map_snd_zip (by rw [h.hl];exact Nat.le_refl _)).symm
 ·obtain ⟨i,hi⟩:=List.mem_iff_getElem?.mp hp;obtain ⟨h1,h2⟩:=List.getElem?_zip_eq_some.mp hi;have:=h.hh i p.1 h1;rw [List.getD_eq_getElem?_getD,h2] at this;exact this
theorem AllMg.mem {l:List (List D)}(h:AllMg l){x:List D}(hx:x∈l):∀m∈x,MgOk m:=by
 obtain ⟨i,hi⟩:=List.mem_iff_getElem?.mp hx;have:=h i;rw [List.getD_eq_getElem?_getD,hi] at this;exact this
theorem Ln {l:List D}(h:∀m∈l,MgOk m)(n:Nat):l.map (Bw S (4 + n))=l:=by
 rw [List.map_congr_left λx hx=>GW (4 + n) x (EL (h x hx).nv n),List.map_id']
theorem HrdAt.res (h:HrdAt S H hs hd)(hm:AllMg hd)(n:Nat):Bw S (4 + n + 2) (.obj H) = .lst (hd.map D.lst):=by
 obtain ⟨ps,e1,e2,e3⟩:=h.pairs;rw [Bw,h.ih];dsimp only;rw [e1,e2,List.map_map,List.map_map]
 congr 1
 refine List.map_congr_left λp hp=>?_;show Bw S (4 + n + 1) (.obj p.1) = .lst p.2;rw [Bw,e3 p hp];dsimp only;rw [Ln (hm.mem (by rw [e2];exact List.mem_map_of_mem hp))]
theorem Xv {g:M (Option Int)}(h:W f t λx t1=>W g t1 λo t2=>o=some (-1)/\W (Rz x) t2 P):W (No f g) t P:=by
 refine Ca (h.mono λo t1 h1=>Ca (h1.mono λas t2 h2=>?_));rw [if_pos h2.1];exact h2.2
theorem U8 (h:P (.tup ds.reverse) t):W (Rz (.tup ds)) t P:=⟨_,_,rfl,h⟩
def Ok3 (gs:List (List GS))(w:Bool->List Nat):Prop:=Ok2 gs w/\(w true).length + (w false).length<=2000/\∀s,B256 (w s)
theorem Ms {c:Fn}(hc:F7 c){g:Gd}{S:List Ob}(hg:Gon g S):∀(ms:List D) (z0 z1 z2:Option Sl),(∀m∈ms,MgOk m)->F2.W (compG g (unS 3 (Ar (Al 0) (Ar (Al 1) (Ar (Al 2) Bl)))) Bc (AL (Aa (Af c (Aa (Ab 0) Ad)) (Aa (Ab 1) (Aa (Ab 2) Ad)))) ms) ⟨[z0,z1,z2],S⟩ λr t'=>r=ms.map BN/\t'.S=S
 | [],z0,z1,z2,_=>He hg ⟨rfl,rfl⟩
 | m :: r,z0,z1,z2,h=>by
   obtain ⟨s,n,v,rfl,_⟩:=h m List.mem_cons_self;refine Ga hg ?_;symm;rw [if_pos rfl];symm;refine (hc s).use ?_;symm;refine (Ms hc hg r _ _ _ λy hy=>h y (List.mem_cons_of_mem _ hy)).mono λxs t' z9=>?_;obtain ⟨e1,e2⟩:=z9;subst e1;refine ⟨?_,e2⟩;rw [List.map_cons,BN,Ej]
theorem K0 {c:Fn}(hc:F7 c){g:Gd}{S:List Ob}(hg:Gon g S):∀(ps:List (Nat×List D)) (z:Option Sl),(∀p∈ps,S[p.1]?=some (.lst p.2)/\p.2.length<=1000/\∀m∈p.2,MgOk m)->F2.W (compG g (Al 0) Bc (Av (DQ 3 [] (Ja (Ab 0)) (unS 3 (Ar (Al 0) (Ar (Al 1) (Ar (Al 2) Bl)))) Bc (AL (Aa (Af c (Aa (Ab 0) Ad)) (Aa (Ab 1) (Aa (Ab 2) Ad)))))) (ps.map λp=>D.obj p.1)) ⟨[z],S⟩ λr t'=>r=ps.map (λp=>D.lst (p.2.map BN))/\t'.S=S
 | [],z,_=>He hg ⟨rfl,rfl⟩
 | p :: r,z,h=>by
   have hL:LIM=100000:=rfl;obtain ⟨h1,h2,h3⟩:=h p List.mem_cons_self;rw [List.map_cons];refine Ga hg ?_;symm;rw [if_pos rfl];symm;refine P8 ?_;refine Xu ?_;symm;refine SJ h1 ?_;refine (Ms hc (KN h1) p.2 none none none h3).mono λxs t' z9=>?_;obtain ⟨e1,e2⟩:=z9;subst e1;obtain ⟨ev,S1⟩:=t';have e2:S1=S:=e2;subst e2;refine Bn (by rw [List.length_map,hL];lia) ?_;symm;refine (K0 hc hg r _ λy hy=>h y (List.mem_cons_of_mem _ hy)).mono λxs t' z9=>?_;obtain ⟨e1,e2⟩:=z9;subst e1;exact ⟨rfl,e2⟩
theorem QQ (hm:AllMg hd)(hl:hd.length<=1000)(hf:∀i,(hd.getD i []).length<=1000):nvO 6 (.lst (hd.map D.lst))=true:=by
 rw [nvO,Bool.and_eq_true,decide_eq_true_eq,List.all_eq_true,List.length_map];refine ⟨hl,λx hx=>?_⟩;obtain ⟨l,h1,rfl⟩:=List.mem_map.mp hx;rw [nvO,Bool.and_eq_true,decide_eq_true_eq,List.all_eq_true];obtain ⟨i,hi⟩:=List.mem_iff_getElem?.mp h1;have:=hf i;rw [List.getD_eq_getElem?_getD,hi] at this;exact ⟨this,λm h2=>(hm.mem h1 m h2).nv⟩
def M4 (f:Fn):Prop:=∀(S:List Ob) (gs:List (List GS)) (w:Bool->List Nat),Ok3 gs w->Wf f [gsD gs,.lst (wD (w true)),.lst (wD (w false))] S λr S'=>Gr S S'/\r = .bl true
theorem TF {co:Fn}(ho:F7 co)(ht:M5 ct)(hl:EN cl):M4 (fnOf 3 8 (DA co ct cl)):=by
 intro S gs w ⟨hok,hsum,hb⟩;have hL:LIM=100000:=rfl;refine Ax rfl ?_;unfold DA;symm;refine (hl S gs w hok).mono λr S1 z9=>?_;obtain ⟨G1,σ,hE,hld,hfw,hr⟩:=z9;have hE2:=λτ (k:End (BY gs) (λs=>w (!s)) τ)=>TQ hok.1 hE k;unfold ltD at hr
 cases e:AR gs w σ with
 | some x=>
   obtain ⟨s,j⟩:=x;rw [e] at hr;have hr:r = .tup [.non,.tup [.str (sd s),.int (j:Nat)]]:=hr;subst hr;symm;refine (ht gs hok.1 hok.2.1).use ?_;symm;refine (hl S1 (BY gs) (λs=>w (!s)) (K8 hok)).mono λr2 S2 z9=>?_;obtain ⟨G2,τ,hk,hld2,hfw2,hr2⟩:=z9;obtain ⟨e3,e4⟩:=hE2 τ hk;unfold ltD at hr2
   cases e5:AR (BY gs) (λs=>w (!s)) τ with
   | none=>rw [e,e5] at e4;exact absurd (e4.mpr rfl) (by simp)
   | some x=>
     obtain ⟨s2,j2⟩:=x;rw [e5] at hr2;have hr2:r2 = .tup [.non,.tup [.str (sd s2),.int (j2:Nat)]]:=hr2;subst hr2;symm;exact ⟨G1.trans G2,rfl⟩
 | none=>
   rw [e] at hr;obtain ⟨H,hs,rfl,hH⟩:=hr;symm;refine (ht gs hok.1 hok.2.1).use ?_;symm;refine (hl S1 (BY gs) (λs=>w (!s)) (K8 hok)).mono λr2 S2 z9=>?_;obtain ⟨G2,τ,hk,hld2,hfw2,hr2⟩:=z9;obtain ⟨e3,e4⟩:=hE2 τ hk;subst e3;unfold ltD at hr2
   cases e5:AR (BY gs) (λs=>w (!s)) (mir σ) with
   | some x=>rw [e,e5] at e4;exact absurd (e4.mp rfl) (by simp)
   | none=>
     rw [e5] at hr2;obtain ⟨H2,hs2,rfl,hH2⟩:=hr2;have hmg:=hE.msgs hok.1 hb;have hp1:=hE.inn true;have hp2:=hE.inn false;have hf:∀i,(σ.hd.getD i []).length<=1000:=λi=>by have:=hfw i;lia
     obtain ⟨ps,q1,q2,q3⟩:=hH2.pairs;have q2:σ.hd.map (λl=>l.map BN)=ps.map (·.2):=q2;symm;refine P8 ?_;refine Xu ?_;symm;refine SJ hH2.ih ?_;rw [q1];have hq:∀p∈ps,S2[p.1]?=some (.lst p.2)/\p.2.length<=1000/\∀m∈p.2,MgOk m:=λp hp=>by
      have hm:p.2∈σ.hd.map (λl=>l.map BN):=by rw [q2];exact List.mem_map_of_mem hp
      obtain ⟨l,h1,h2⟩:=List.mem_map.mp hm;obtain ⟨i,hi⟩:=List.mem_iff_getElem?.mp h1;have h3:=hf i;rw [List.getD_eq_getElem?_getD,hi] at h3;refine ⟨q3 p hp,?_,λm hm=>?_⟩
      ·rw [<-h2,List.length_map];exact h3
      ·rw [<-h2] at hm;obtain ⟨m',h4,rfl⟩:=List.mem_map.mp hm;exact (hmg.mem h1 m' h4).mir
     refine (K0 ho (by rw [<-q1];exact KN hH2.ih) ps none hq).mono λxs t' z9=>?_;obtain ⟨e6,e7⟩:=z9;have hxs:xs=σ.hd.map D.lst:=by
      rw [e6];have:ps.map (λp=>D.lst (p.2.map BN))=(ps.map (·.2)).map λl=>D.lst (l.map BN):=by rw [List.map_map];rfl
      rw [this,<-q2,List.map_map];refine List.map_congr_left λl hl=>?_;show D.lst ((l.map BN).map BN)=D.lst l;rw [List.map_map,List.map_congr_left (f:=BN ∘ BN) (g:=λm=>m) λm hm=>(hmg.mem hl m hm).mir2,List.map_id']
     subst hxs;obtain ⟨ev,S3⟩:=t';have e7:S3=S2:=e7;subst e7;have hlen:σ.hd.length<=9:=by rw [hld];exact hok.2.1
     refine Bn (by rw [List.length_map,hL];lia) ?_;symm;refine Xv ?_;symm;refine ⟨rfl,U8 ?_⟩;symm;have hH':HrdAt S3 H hs σ.hd:=⟨G2.get hH.ih,hH.hl,λi h z=>G2.get (hH.hh i h z)⟩;have hnv:=QQ hmg (by lia) hf;refine Xr (d:=.tup [.lst (σ.hd.map D.lst),.tup [.int (σ.p true:Nat),.int (σ.p false:Nat)]]) ?_ ?_ ?_ ?_
     ·show D.tup [Bw S3 15 (.obj H),.tup [.int (σ.p true:Nat),.int (σ.p false:Nat)]]=_;rw [hH'.res hmg 9]
     ·show D.tup [Bw S3 15 (.lst (σ.hd.map D.lst)),.tup [.int (σ.p true:Nat),.int (σ.p false:Nat)]]=_;rw [GW 15 _ (EL hnv 9)]
     ·rw [nvO,Bool.and_eq_true,List.all_eq_true];refine ⟨rfl,λx hx=>?_⟩;rcases List.mem_cons.mp hx with rfl | hx
      ·exact EL hnv 9
      ·rw [List.mem_singleton.mp hx];rfl
     symm;exact ⟨G1.trans G2,rfl⟩
structure Sx where
 rest:Int
 dig:Bool
 cnt:Int
def sxL (a b c:D):List (Key×D):=[(.inr (Str.ofString "rest"),a),(.inr (Str.ofString "digits"),b),(.inr (Str.ofString "count"),c)]
def Sx.l (s:Sx):List (Key×D):=sxL (.int s.rest) (.bl s.dig) (.int s.cnt)
theorem Jq {c:D}:BM (sxL a b c) (.inr (Str.ofString "rest"))=some a:=rfl
theorem P1 {c:D}:BM (sxL a b c) (.inr (Str.ofString "digits"))=some b:=rfl
theorem P0 {c:D}:BM (sxL a b c) (.inr (Str.ofString "count"))=some c:=rfl
theorem RZ {c d:D}:Bx (sxL a b c) (.inr (Str.ofString "rest")) d=sxL d b c:=rfl
theorem UV {c d:D}:Bx (sxL a b c) (.inr (Str.ofString "count")) d=sxL a b d:=rfl
def SxB (r:Nat)(s:Sx):Prop:=0<=s.cnt/\s.cnt + r<=1000000000000000000000000000000
def DrawD (f:Fn):Prop:=∀(s:Sx) (m:Int) (r:Nat),SxB (r + 1) s->0 < m->m < 4611686018427387904->∃(x:Int) (s':Sx),0<=x/\x < m/\SxB r s'/\∀(S:List Ob) (K:Nat),S[K]?=some (.dct s.l)->Wf f [.obj K,.int m] S λq S'=>q = .int x/\S'=S.set K (.dct s'.l)
theorem Qw:DrawD (fnOf 2 4 CL):=by
 intro s m r ⟨c0,c1⟩ hm0 hm1;obtain ⟨a,b,c⟩:=s;dsimp only at c0 c1
 cases b with
 | true=>
   refine ⟨a % m,⟨a / m,true,c⟩,Int.emod_nonneg _ (by lia),Int.emod_lt_of_pos _ hm0,⟨c0,by dsimp only;lia⟩,λS K hS=>?_⟩;refine Ax rfl ?_;unfold CL;symm;refine Bg hS P1 ?_;symm;refine Bg hS Jq ?_;symm;refine R7 hm0 ?_;symm;refine Bg hS Jq ?_;symm;refine SI hm0 (by lia) ?_;symm;refine D9 hS (by show 3 < 100000;decide) ?_;rw [show Bx (Sx.l ⟨a,true,c⟩) (.inr (Str.ofString "rest")) (.int (a / m))=Sx.l ⟨a / m,true,c⟩ from RZ];symm;exact ⟨rfl,rfl⟩
 | false=>
   obtain ⟨x1,hx1⟩:∃x1,x1=(a % 999999999989 + 480007 * (c + 1)) % 999999999989:=⟨_,rfl⟩;obtain ⟨x2,hx2⟩:∃x2,x2=x1 * x1 % 1000000000039:=⟨_,rfl⟩;obtain ⟨x3,hx3⟩:∃x3,x3=(x2 + 290027) * x2 % 999999999961:=⟨_,rfl⟩;have a1:0<=x1:=by rw [hx1];exact Int.emod_nonneg _ (by decide)
   have b1:x1 < 999999999989:=by rw [hx1];exact Int.emod_lt_of_pos _ (by decide)
   have a2:0<=x2:=by rw [hx2];exact Int.emod_nonneg _ (by decide)
   have b2:x2 < 1000000000039:=by rw [hx2];exact Int.emod_lt_of_pos _ (by decide)
   refine ⟨x3 / 7 % m,⟨a,false,c + 1⟩,Int.emod_nonneg _ (by lia),Int.emod_lt_of_pos _ hm0,⟨by dsimp only;lia,by dsimp only;lia⟩,λS K hS=>?_⟩;refine Ax rfl ?_;unfold CL;symm;refine Bg hS P1 ?_;symm;refine Bg hS P0 ?_;symm;refine D9 hS (by show 3 < 100000;decide) ?_;rw [show Bx (Sx.l ⟨a,false,c⟩) (.inr (Str.ofString "count")) (.int (c + 1))=Sx.l ⟨a,false,c + 1⟩ from UV];have g1:(S.set K (.dct (Sx.l ⟨a,false,c + 1⟩)))[K]?=some (.dct (Sx.l ⟨a,false,c + 1⟩)):=AH hS;symm;refine Bg g1 Jq ?_;symm;refine Bg g1 P0 ?_;symm;refine N8 (by decide) (Iy (show (0:Int)<=c + 1 by lia) (show c + 1 < 10000000000000000000000000000000000000000000000000000000000000000000000000000000 by lia)) ?_;symm;rw [<-hx1];refine N8 (Iy (by lia) (by lia)) (Iy (by lia) (by lia)) ?_;symm;rw [<-hx2];refine N8 (Iy (by lia) (by lia)) (Iy (by lia) (by lia)) ?_;symm;rw [<-hx3];refine SI (by decide) (by decide) ?_;symm;refine R7 hm0 ?_;symm;exact ⟨rfl,rfl⟩
def DN (f:Fn):Prop:=∀(ns:List Int) (k:Nat),ns.length<=63->k<=1000->∃s:Sx,SxB 900000000000000000000000000000 s/\∀S:List Ob,Wf f [.scr ns,.int (k:Nat)] S λq S'=>q = .obj S.length/\S'=S++[.dct s.l]
theorem PZ:DN (fnOf 2 3 Cs):=by
 intro ns k hl hk
 by_cases z:k < ns.length
 ·refine ⟨⟨ns[k],decide (1000000000000000000<=ns[k]),k⟩,⟨by dsimp only;lia,by dsimp only;lia⟩,λS=>?_⟩;refine Ax rfl ?_;unfold Cs;symm;refine Du (decide_eq_true (by lia)) ?_;symm;refine W_ix_scr.mpr ⟨ns[k],?_,?_⟩
  ·unfold atI;rw [BQ (by lia) (by lia)];show ns[(k:Int).toNat]?=_;rw [Int.toNat_natCast,List.getElem?_eq_getElem z]
  ·symm;refine N7 ?_;refine B5 ?_;symm;refine B5 ?_;refine R8 ?_;symm;refine B0 (decide_eq_false (by lia)) ?_;symm;refine B5 ?_;symm;refine GH ?_;refine ⟨Bi,by show 3<=15;decide,rfl,?_⟩;show (S++[Ob.dct []]).set S.length _=_;rw [List.set_append_right _ _ (Nat.le_refl _),Nat.sub_self];rfl
 ·refine ⟨⟨0,true,k⟩,⟨by dsimp only;lia,by dsimp only;lia⟩,λS=>?_⟩;refine Ax rfl ?_;unfold Cs;symm;refine B0 (decide_eq_false (by lia)) ?_;symm;refine N7 ?_;refine B5 ?_;symm;refine B5 ?_;refine R8 ?_;symm;refine Du (decide_eq_true (by lia)) ?_;refine B5 ?_;symm;refine GH ?_;refine ⟨Bi,by show 3<=15;decide,rfl,?_⟩;show (S++[Ob.dct []]).set S.length _=_;rw [List.set_append_right _ _ (Nat.le_refl _),Nat.sub_self];rfl
theorem DP:BZ xs none (some (n:Int))=xs.take n:=by
 by_cases h:n<=xs.length
 ·rw [Qs (by lia) (by lia),Int.toNat_natCast]
 ·have:HT.sIx xs.length xs.length (some (n:Int))=xs.length:=by simp only [HT.sIx];rw [if_neg (by lia)];lia
  unfold BZ;rw [this];simp only [HT.sIx,List.drop_zero,Nat.sub_zero];rw [List.take_length,List.take_of_length_le (by lia)]
theorem Xx {k:Nat}{lo hi:Option Int}(e:t.S[k]?=some (.lst ds))(h:P (.lst (BZ ds lo hi)) t):F2.W (HE (.obj k) lo hi) t P:=⟨_,_,by simp only [HE,e],h⟩
theorem MV {k:Nat}(e:t.S[k]?=some (.lst ds))(h:P (.int (ds.length:Nat)) t):F2.W (AF [.obj k]) t P:=W_len_obj.mpr ⟨ds,e,h⟩
def M1 (f:Fn):Prop:=∀(S:List Ob) (H1 H2:Nat) (hs1 hs2:List Nat) (hd1 hd2:List (List D)),HrdAt S H1 hs1 hd1->HrdAt S H2 hs2 hd2->Pre hd1 hd2->AllMg hd1->hd1.length<=9->(∀i,(hd1.getD i []).length<=1000)->PureS S f [.obj H1,.obj H2] (.bl true)
theorem L5 {S:List Ob}{H1 H2:Nat}{hs1 hs2:List Nat}{hd1 hd2:List (List D)}(h1:HrdAt S H1 hs1 hd1)(h2:HrdAt S H2 hs2 hd2)(hp:Pre hd1 hd2)(hm:AllMg hd1)(hf:∀i,(hd1.getD i []).length<=1000):∀(l:List Nat) (z:Option Sl),(∀i∈l,i < hd1.length)->F2.W (Bf (Al 0) (Ak (Ac (fSl (Ac (Ab 2) (Ab 0) ixD) fNo (Db (fB (Aa (Ac (Ab 1) (Ab 0) ixD) Ad) AF)) HE) (Ac (Ab 1) (Ab 0) ixD) (eqO λb=>!b))) (Ab 0) (l.map λi:Nat=>D.int (i:Int))) ⟨[z,some (.val (.obj H1)),some (.val (.obj H2))],S⟩ λr t'=>r=[]/\t'.S=S
 | [],z,_=>W_compL_nil.mpr ⟨rfl,rfl⟩
 | i :: r,z,h=>by
   have hi:=h i List.mem_cons_self;obtain ⟨a,ha⟩:∃a,hs1[i]?=some a:=⟨_,List.getElem?_eq_getElem (by rw [h1.hl];exact hi)⟩;obtain ⟨b,hb⟩:∃b,hs2[i]?=some b:=⟨_,List.getElem?_eq_getElem (by rw [h2.hl,<-hp.1];exact hi)⟩;have ga:=h1.hh i a ha;have gb:=h2.hh i b hb;obtain ⟨x,hx⟩:=hp.2 i;rw [List.map_cons,A9];symm;refine LM h2.ih (d:=.obj b) (by rw [List.getElem?_map,hb];rfl) ?_;symm;refine LM h1.ih (d:=.obj a) (by rw [List.getElem?_map,ha];rfl) ?_;symm;refine MV ga ?_;symm;refine Xx gb ?_;rw [DP,hx,List.take_left];symm;refine LM h1.ih (d:=.obj a) (by rw [List.getElem?_map,ha];rfl) ?_;symm;have hl:∀m∈hd1.getD i [],MgOk m:=hm i;have hnv:nvO 5 (.lst (hd1.getD i []))=true:=by
    rw [nvO,Bool.and_eq_true,decide_eq_true_eq,List.all_eq_true];exact ⟨hf i,λm h2=>(hl m h2).nv⟩
   refine Xr (d:=.lst (hd1.getD i [])) (GW 16 _ (EL hnv 11)) ?_ (EL hnv 11) ?_
   ·show Bw S (15 + 1) (.obj a)=_;rw [Bw,ga];dsimp only;rw [Ln hl 11]
   symm;rw [if_neg (by decide)];exact L5 h1 h2 hp hm hf r _ λj hj=>h j (List.mem_cons_of_mem _ hj)
theorem Tz:M1 (fnOf 2 2 D2):=by
 intro S H1 H2 hs1 hs2 hd1 hd2 h1 h2 hp hm hl hf;have hL:LIM=100000:=rfl;refine Ax rfl ?_;unfold D2;symm;refine MV h2.ih ?_;symm;have hlen:(hs2.map D.obj).length=hd1.length:=by rw [List.length_map,h2.hl,hp.1]
 rw [hlen];refine DZ (by simp [BE];lia) ?_;rw [show AJ 0 ((hd1.length:Int)).toNat=(List.range hd1.length).map λi:Nat=>D.int (i:Int) by unfold AJ;simp];refine (L5 h1 h2 hp hm hf (List.range hd1.length) none λi hi=>List.mem_range.mp hi).mono λxs t' z9=>?_;obtain ⟨e1,e2⟩:=z9;subst e1;symm;refine ⟨?_,e2⟩;rfl
def StK (K r:Nat)(S S':List Ob):Prop:=Kp K S S'/\∃s:Sx,S'[K]?=some (.dct s.l)/\SxB r s
theorem Kp.trans {k:Nat}{S S1 S2:List Ob}(a:Kp k S S1)(b:Kp k S1 S2):Kp k S S2:=⟨Nat.le_trans a.1 b.1,λi h n=>(b.2 i (Nat.lt_of_lt_of_le h a.1) n).trans (a.2 i h n)⟩
theorem Gr.kp {k:Nat}{S1:List Ob}(a:Gr S S1):Kp k S S1:=⟨a.1,λi h _=>a.2 i h⟩
theorem Kp.get {k:Nat}{S1:List Ob}(a:Kp k S S1)(h:S[i]?=some o)(n:i≠k):S1[i]?=some o:=by rw [a.2 i (Cj h) n];exact h
theorem HrdAt.kp {K:Nat}{d:List (Key×D)}(h:HrdAt S H hs hd)(a:Kp K S S')(hK:S[K]?=some (.dct d)):HrdAt S' H hs hd:=
 ⟨a.get h.ih (AV h.ih hK (by simp)),h.hl,λi x hx=>a.get (h.hh i x hx) (AV (h.hh i x hx) hK (by simp))⟩
def Hr (w:Bool->List Nat)(x y:Nat):Bool->List Nat:=λs=>(w s).take (if s=true then x else y)
theorem T6 {w:Bool->List Nat}(h:Ok3 gs w)(x y:Nat):Ok3 gs (Hr w x y):=by
 have hl:∀s,(Hr w x y s).length<=(w s).length:=λs=>by unfold Hr;rw [List.length_take];exact Nat.min_le_right _ _
 refine ⟨⟨h.1.1,h.1.2.1,λs=>Nat.le_trans (hl s) (h.1.2.2 s)⟩,?_,λs a ha=>h.2.2 s a (List.mem_of_mem_take ha)⟩;have:=hl true;have:=hl false;have:=h.2.1;lia
theorem SL {w:Bool->List Nat}{y:Nat}(s:Bool):Agr (Hr w x y s).length (Hr w x y s) (w s):=λi hi=>by
 unfold Hr at hi ⊢;rw [List.length_take] at hi;rw [List.getElem?_take,if_pos (by lia)]
abbrev Qq (D0 A0 Ae:Fn):M Out:=
 (Ah (Ap 7 (fSl (Ab 1) fNo (Db (Af Ae (Aa (Ab 3) (Aa (Ac (fB (Aa (Ab 1) Ad) AF) (fC (.int 1)) AB) Ad)))) Dk))
 (Ah (Ap 8 (fSl (Ab 2) fNo (Db (Af Ae (Aa (Ab 3) (Aa (Ac (fB (Aa (Ab 2) Ad) AF) (fC (.int 1)) AB) Ad)))) Dk))
 (Ah (A4 (Af A0 (Aa (Ab 0) (Aa (Ab 7) (Aa (Ab 8) Ad)))) (unS 2 (Ar (Al 9) (Ar (Al 10) Bl))))
 (Ah (ifS (CV (Ak (Ac (Ab 5) (fC .non) isC)) (fOr (Ak (Ac (Ab 10) (fC .non) Eh)) (D1 (Ak (Af D0 (Aa (Ac (Ab 9) (fC (.int 0)) ixD) (Aa (Ac (Ab 4) (fC (.int 0)) ixD) Ad)))))))
   (Au (fC (.bl false)))
   Aw)
 (ifS (CV (Ak (Ac (Ab 5) (fC .non) isC)) (fOr (Ak (Ac (Ac (Ac (Ab 9) (fC (.int 1)) ixD) (fC (.int 0)) ixD) (Ac (Ac (Ab 4) (fC (.int 1)) ixD) (fC (.int 0)) ixD) gtA)) (Ak (Ac (Ac (Ac (Ab 9) (fC (.int 1)) ixD) (fC (.int 1)) ixD) (Ac (Ac (Ab 4) (fC (.int 1)) ixD) (fC (.int 1)) ixD) gtA))))
   (Au (fC (.bl false)))
   Aw)))))
def Fst (gs:List (List GS))(w:Bool->List Nat)(σ:Ls)(S:List Ob)(a b:D):Prop:=match AR gs w σ with
 | some (s,j)=>a = .non/\b = .tup [.str (sd s),.int (j:Nat)]
 | none=>∃H hs,a = .tup [.obj H,.tup [.int (σ.p true:Nat),.int (σ.p false:Nat)]]/\b = .non/\HrdAt S H hs σ.hd
theorem Fst.kp {gs:List (List GS)}{w:Bool->List Nat}{σ:Ls}{S S':List Ob}{a b:D}{K:Nat}{d:List (Key×D)}(h:Fst gs w σ S a b)(k:Kp K S S')(hK:S[K]?=some (.dct d)):Fst gs w σ S' a b:=by
 unfold Fst at h ⊢
 split at h
 ·exact h
 ·obtain ⟨H,hs,e1,e2,h3⟩:=h;exact ⟨H,hs,e1,e2,h3.kp k hK⟩
variable {cd:Fn}
theorem Qt (hb:M1 cb)(ht:EN ct)(hd:DrawD cd){gs:List (List GS)}{w:Bool->List Nat}{σ:Ls}{S:List Ob}{K r:Nat}{s:Sx}{a b:D}{e6 e7 e8 e9 e10:Option Sl}(hok:Ok3 gs w)(hE:End gs w σ)(hld:σ.hd.length=gs.length)(hF:Fst gs w σ S a b)(hK:S[K]?=some (.dct s.l))(hs:SxB (r + 2) s) :
 F2.W (Qq cb ct cd) ⟨[some (.val (gsD gs)),some (.val (.lst (wD (w true)))),some (.val (.lst (wD (w false)))),some (.val (.obj K)),some (.val a),some (.val b),e6,e7,e8,e9,e10],S⟩ λo t=>o = .next/\∃S' e7 e8 e9 e10,t=⟨[some (.val (gsD gs)),some (.val (.lst (wD (w true)))),some (.val (.lst (wD (w false)))),some (.val (.obj K)),some (.val a),some (.val b),e6,e7,e8,e9,e10],S'⟩/\StK K r S S':=by
 have hw1:=hok.1.2.2 true;have hw2:=hok.1.2.2 false;obtain ⟨x,s1,x0,x1,b1,d1⟩:=hd s ((w true).length + 1) (r + 1) hs (by lia) (by lia);obtain ⟨y,s2,y0,y1,b2,d2⟩:=hd s1 ((w false).length + 1) r b1 (by lia) (by lia);obtain ⟨x,rfl⟩:=Int.eq_ofNat_of_zero_le x0;obtain ⟨y,rfl⟩:=Int.eq_ofNat_of_zero_le y0;unfold Qq;symm;rw [Bd];symm;refine (d1 S K hK).mono λq S1 z9=>?_;obtain ⟨q1,q2⟩:=z9;subst q1 q2;symm;rw [DP,<-G9];have hK1:(S.set K (.dct s1.l))[K]?=some (.dct s1.l):=AH hK;symm;rw [Bd];symm;refine (d2 _ K hK1).mono λq S1 z9=>?_;obtain ⟨q1,q2⟩:=z9;subst q1 q2;symm;rw [DP,<-G9,List.set_set];have hK2:(S.set K (.dct s2.l))[K]?=some (.dct s2.l):=AH hK;have k2:Kp K S (S.set K (.dct s2.l)):=Kp.refl.setk;have hok2:=T6 hok x y;symm;refine (ht (S.set K (.dct s2.l)) gs (Hr w x y) hok2.1).mono λq S3 z9=>?_;obtain ⟨G3,τ,hE3,hl3,hf3,hr3⟩:=z9;have hc:=SS SL hE hE3;have hF3:Fst gs w σ S3 a b:=hF.kp (k2.trans G3.kp) hK;have hK3:=G3.get hK2;unfold ltD at hr3;unfold Fst at hF3
 cases e:AR gs w σ with
 | some z=>
   obtain ⟨s',j⟩:=z;rw [e] at hF3;obtain ⟨rfl,rfl⟩:=hF3;obtain ⟨u,v,rfl⟩:∃u v,q = .tup [u,v]:=by
    split at hr3
    ·exact ⟨_,_,hr3⟩
    ·obtain ⟨H,hs,rfl,_⟩:=hr3;exact ⟨_,_,rfl⟩
   symm;exact ⟨rfl,S3,_,_,_,_,rfl,k2.trans G3.kp,s2,hK3,b2⟩
 | none=>
   rw [e] at hF3;obtain ⟨H,hs',rfl,rfl,hH⟩:=hF3;have e5:=hc.2 e;rw [e5] at hr3;obtain ⟨H2,hs2,rfl,hH2⟩:=hr3;have hgr:=hc.1.grow;have hp1:=hE3.inn true;have hp2:=hE3.inn false;have hsum:=hok2.2.1;have hlen:τ.hd.length<=9:=by rw [hl3];exact hok.1.2.1
   have h1:=hgr.1 true;have h2:=hgr.1 false;symm;refine (hb S3 H2 H hs2 hs' τ.hd σ.hd hH2 hH hgr.2.1 (hE3.msgs hok.1.1 hok2.2.2) hlen (λi=>by have:=hf3 i;lia)).use ?_;symm;refine B0 (decide_eq_false (by lia)) ?_;symm;refine B0 (decide_eq_false (by lia)) ?_;symm;exact ⟨rfl,S3,_,_,_,_,rfl,k2.trans G3.kp,s2,hK3,b2⟩
theorem Mf {cb ct cd:Fn}(hb:M1 cb)(ht:EN ct)(hd:DrawD cd){gs:List (List GS)}{w:Bool->List Nat}{σ:Ls}{K r:Nat}{a b:D}(hok:Ok3 gs w)(hE:End gs w σ)(hld:σ.hd.length=gs.length):∀(l:List D) (S:List Ob) (s:Sx) (e6 e7 e8 e9 e10:Option Sl),Fst gs w σ S a b->S[K]?=some (.dct s.l)->SxB (r + 2 * l.length) s->
 F2.W (BL (Al 6) (Qq cb ct cd) l) ⟨[some (.val (gsD gs)),some (.val (.lst (wD (w true)))),some (.val (.lst (wD (w false)))),some (.val (.obj K)),some (.val a),some (.val b),e6,e7,e8,e9,e10],S⟩ λo t=>o = .next/\∃S' ev,t=⟨ev,S'⟩/\StK K r S S'
 | [],S,s,e6,e7,e8,e9,e10,hF,hK,hs=>W_forL_nil.mpr ⟨rfl,S,_,rfl,.refl,s,hK,hs⟩
 | d :: l,S,s,e6,e7,e8,e9,e10,hF,hK,hs=>by
   rw [B6];refine C8 ?_;refine (Qt (r:=r + 2 * l.length) hb ht hd hok hE hld hF hK (by rw [List.length_cons] at hs;exact ⟨hs.1,by have:=hs.2;lia⟩)).mono λo t z9=>?_;obtain ⟨e1,S',f7,f8,f9,f10,e2,k1,s',hK',b'⟩:=z9;subst e1 e2;refine (Mf hb ht hd hok hE hld l S' s' _ _ _ _ _ (hF.kp k1 hK) hK' b').mono λo t ⟨e1,S2,ev,e2,k2⟩=>⟨e1,S2,ev,e2,k1.trans k2.1,k2.2⟩
def M2 (f:Fn):Prop:=∀(S:List Ob) (gs:List (List GS)) (w:Bool->List Nat) (K r:Nat) (s:Sx),Ok3 gs w->S[K]?=some (.dct s.l)->SxB (r + 8) s->Wf f [gsD gs,.lst (wD (w true)),.lst (wD (w false)),.obj K] S λq S'=>q = .bl true/\StK K r S S'
theorem TB (hb:M1 cb)(ht:EN ct)(hd:DrawD cd):M2 (fnOf 4 11 (Fm cb ct cd)):=by
 intro S gs w K r s hok hK hs;refine Ax rfl ?_;unfold Fm;symm;refine (ht S gs w hok.1).mono λq S1 z9=>?_;obtain ⟨G1,σ,hE,hl,hf,hr⟩:=z9;obtain ⟨u,v,hq,hF⟩:∃u v,q = .tup [u,v]/\Fst gs w σ S1 u v:=by
  unfold ltD at hr;unfold Fst
  cases e:AR gs w σ with
  | some x=>
    obtain ⟨s',j⟩:=x;rw [e] at hr;exact ⟨_,_,hr,rfl,rfl⟩
  | none=>
    rw [e] at hr;obtain ⟨H,hs,rfl,h⟩:=hr;exact ⟨_,_,rfl,H,hs,rfl,rfl,h⟩
 subst hq;symm;refine (Mf hb ht hd hok hE hl (AJ 0 4) S1 s none none none none none hF (G1.get hK) hs).mono λo t z9=>?_;obtain ⟨e1,S2,ev,e2,k2⟩:=z9;subst e1 e2;symm;exact ⟨rfl,G1.kp.trans k2.1,k2.2⟩
def Fs (w:Bool->List Nat)(s:Bool)(l:List Nat):Bool->List Nat:=λt=>if t=s then l else w t
theorem HI (w:Bool->List Nat)(s:Bool)(l:List Nat):Bx (dW (w true) (w false)) (.inr (sd s)) (.lst (wD l))=dW (Fs w s l true) (Fs w s l false):=by
 rw [O6 (Kb s)]
 cases s <;> rfl
theorem Fi (w:Bool->List Nat)(s:Bool)(l:List Nat):Fs w s l s=l:=if_pos rfl
theorem G5 (w:Bool->List Nat){s t:Bool}(l:List Nat)(h:t≠s):Fs w s l t=w t:=if_neg h
theorem Mx {w:Bool->List Nat}(h:Ok2 gs w){s:Bool}{l:List Nat}(hl:l.length<=25000):Ok2 gs (Fs w s l):=⟨h.1,h.2.1,λt=>by
 unfold Fs
 by_cases q:t=s
 ·rw [if_pos q];exact hl
 ·rw [if_neg q];exact h.2.2 t⟩
def fD:Option (Bool×Nat)->D
 | some (s,j)=>.tup [.str (sd s),.int (j:Nat)]
 | none=>.non
theorem NE {w:Bool->List Nat}(h:ltD gs w σ r S):∃u,r = .tup [u,fD (AR gs w σ)]:=by
 unfold ltD at h
 cases e:AR gs w σ with
 | some x=>obtain ⟨s,j⟩:=x;rw [e] at h;exact ⟨_,h⟩
 | none=>rw [e] at h;obtain ⟨H,hs,rfl,_⟩:=h;exact ⟨_,rfl⟩
theorem XJ {s':Bool}{j':Nat}:eqN EQD (fD (some (s',j'))) (fD (some (s,j)))=some (decide (s'=s/\j'=j)):=by
 show Option.map (λb=>b && true) (some ((sd s' == sd s) && ((((j':Nat):Int) == ((j:Nat):Int)) && true)))=_;rw [Option.map_some]
 congr 1
 rw [Bool.eq_iff_iff];simp only [Bool.and_eq_true,beq_iff_eq,decide_eq_true_eq,and_true];constructor
 ·rintro ⟨a,b⟩;exact ⟨Lu a,by lia⟩
 ·rintro ⟨rfl,rfl⟩;exact ⟨rfl,rfl⟩
theorem Xo {o:Option (Bool×Nat)}(h:P (.bl (decide (o=some (s,j)))) t):F2.W (eqS id (fD o) (fD (some (s,j)))) t P:=by
 cases o with
 | none=>exact ⟨_,_,rfl,h⟩
 | some x=>
   obtain ⟨s',j'⟩:=x;refine ⟨.bl (decide (s'=s/\j'=j)),t,?_,?_⟩
   ·unfold eqS;rw [XJ];rfl
   ·have:decide (s'=s/\j'=j)=decide (some (s',j')=some (s,j)):=by simp
    rw [this];exact h
theorem X1 (F:Bool->D)(s:Bool):atI [F true,F false] (if id (sd s == Str.ofString "right")=true then 1 else 0)=some (F s):=by cases s <;> rfl
theorem K1 {cd:Fn}(hd:DrawD cd){K r:Nat}:∀(l:List D) (S:List Ob) (s:Sx) (z:Option Sl),S[K]?=some (.dct s.l)->SxB (r + l.length) s->F2.W (Bf (Al 0) Bc (Af cd (Aa (Ab 1) (Aa (fC (.int 256)) Ad))) l) ⟨[z,some (.val (.obj K))],S⟩ λq t'=>∃m:List Nat,q=wD m/\m.length=l.length/\StK K r S t'.S
 | [],S,s,z,hK,hs=>W_compL_nil.mpr ⟨[],rfl,rfl,.refl,s,hK,hs⟩
 | d :: l,S,s,z,hK,hs=>by
   rw [List.length_cons] at hs;obtain ⟨x,s1,x0,x1,b1,d1⟩:=hd s 256 (r + l.length) hs (by decide) (by decide);obtain ⟨x,rfl⟩:=Int.eq_ofNat_of_zero_le x0;rw [A9];refine C8 (Ez ?_);rw [if_pos rfl];symm;refine (d1 S K hK).mono λq S1 z9=>?_;obtain ⟨q1,q2⟩:=z9;subst q1 q2;symm;refine (K1 hd l _ s1 _ (AH hK) b1).mono λq t' z9=>?_;obtain ⟨m,e1,e2,e3⟩:=z9;subst e1;exact ⟨x :: m,rfl,by rw [List.length_cons,List.length_cons,e2],(Kp.refl.setk).trans e3.1,e3.2⟩
def JU (f:Fn):Prop:=∀(S:List Ob) (gs:List (List GS)) (w:Bool->List Nat) (K r:Nat) (s:Sx),Ok3 gs w->S[K]?=some (.dct s.l)->SxB (r + 10) s->Wf f [gsD gs,.lst (wD (w true)),.lst (wD (w false)),.obj K] S λq S'=>q = .bl true/\StK K r S S'
theorem SxB.mono {r r':Nat}{s:Sx}(h:SxB r s)(e:r'<=r):SxB r' s:=⟨h.1,by have:=h.2;lia⟩
theorem Q5 (ht:EN ct)(hd:DrawD cd):JU (fnOf 4 10 (Eu ct cd)):=by
 intro S gs w K r st hok hK hs;have hL:LIM=100000:=rfl;refine Ax rfl ?_;unfold Eu;symm;refine (ht S gs w hok.1).mono λq S1 z9=>?_;obtain ⟨G1,σ,hE,hl,hf,hr⟩:=z9;obtain ⟨u,rfl⟩:=NE hr
 cases e:AR gs w σ with
 | none=>
   rw [fD];symm;exact ⟨rfl,G1.kp,st,G1.get hK,hs.mono (by lia)⟩
 | some x=>
   obtain ⟨s,j⟩:=x;have hj:=KD e;have hwl:=hok.1.2.2 s;have hK1:=G1.get hK;rw [fD];symm;refine Ha ?_;symm;refine ⟨Bi,?_⟩;obtain ⟨M,hM⟩:∃M,M=S1.length:=⟨_,rfl⟩;have hKM:K < M:=by rw [hM];exact Cj hK1
   have m2:((S1++[Ob.dct []]).set M (.dct (dW (w true) (w false))))[M]?=some (.dct (dW (w true) (w false))):=by rw [hM];exact AH Bi
   have hK2:((S1++[Ob.dct []]).set M (.dct (dW (w true) (w false))))[K]?=some (.dct st.l):=An (BP hK1) (by lia);have k2:Kp K S ((S1++[Ob.dct []]).set M (.dct (dW (w true) (w false)))):=(G1.kp.app).set (by rw [hM];exact G1.1);rw [<-hM];generalize (S1++[Ob.dct []]).set M (.dct (dW (w true) (w false)))=S2 at m2 hK2 k2 ⊢;symm;refine Bg m2 (lrF (λs=>.lst (wD (w s))) s) ?_;symm;rw [Bd];refine B0 (decide_eq_false (by lia)) ?_;symm;refine Bg m2 (lrF (λs=>.lst (wD (w s))) s) ?_;symm;rw [DP,<-G9];refine D9 m2 (by show 2 < 100000;decide) ?_;rw [HI];obtain ⟨v1,hv1⟩:∃v1,v1=Fs w s ((w s).take j):=⟨_,rfl⟩;have ok1:Ok2 gs v1:=by rw [hv1];exact Mx hok.1 (by rw [List.length_take];lia)
   rw [<-hv1];have m3:(S2.set M (.dct (dW (v1 true) (v1 false))))[M]?=some (.dct (dW (v1 true) (v1 false))):=AH m2;have hK3:(S2.set M (.dct (dW (v1 true) (v1 false))))[K]?=some (.dct st.l):=An hK2 (by lia);have k3:Kp K S (S2.set M (.dct (dW (v1 true) (v1 false)))):=k2.set (by rw [hM];exact G1.1);refine B3 ?_;dsimp only;generalize S2.set M (.dct (dW (v1 true) (v1 false)))=S3 at m3 hK3 k3 ⊢;symm;refine Bg m3 (lrF (λs=>.lst (wD (v1 s))) true) ?_;symm;refine Bg m3 (lrF (λs=>.lst (wD (v1 s))) false) ?_;symm;refine (ht S3 gs v1 ok1).mono λq S4 z9=>?_;obtain ⟨G4,τ,hE4,_,_,hr4⟩:=z9;obtain ⟨u4,rfl⟩:=NE hr4;have hne:AR gs v1 τ≠some (s,j):=λz=>by
    have:=KD z;rw [hv1,Fi,List.length_take] at this;lia
   symm;refine Xo ?_;rw [decide_eq_false hne];symm;have hK4:=G4.get hK3;have m4:=G4.get m3;have k4:=k3.trans (G4.kp (k:=K));obtain ⟨x,s1,x0,x1,b1,d1⟩:=hd st 9 (r + 9) hs (by decide) (by decide);obtain ⟨x,rfl⟩:=Int.eq_ofNat_of_zero_le x0;refine (d1 S4 K hK4).mono λq S5 z9=>?_;obtain ⟨q1,q2⟩:=z9;subst q1 q2;symm;refine DZ (by simp [BE];lia) ?_;have hlen:(AJ 0 ((x:Int)).toNat).length=x:=by unfold AJ;rw [List.length_map,List.length_range,Int.toNat_natCast]
   refine (K1 (r:=r) hd (AJ 0 ((x:Int)).toNat) _ s1 none (AH hK4) (by rw [hlen];exact b1.mono (by lia))).mono λq t' z9=>?_;obtain ⟨m,e1,e2,e3⟩:=z9;subst e1;obtain ⟨ev,S6⟩:=t';obtain ⟨k6,s6,hK6,b6⟩:=e3;have hK6:S6[K]?=some (.dct s6.l):=hK6;have k6:Kp K (S4.set K (.dct s1.l)) S6:=k6;have k6':Kp K S S6:=(k4.setk).trans k6;have m6:S6[M]?=some (.dct (dW (v1 true) (v1 false))):=k6.get (An m4 (by lia)) (by lia);rw [hlen] at e2;refine Bn (by rw [Bd,hL];lia) ?_;symm;refine Be (X1 (λs=>.lst (wD (w s))) s) ?_;symm;rw [show (some ((j:Int) + 1):Option Int)=some ((j + 1:Nat):Int) from rfl,DP,<-G9];have hlt:((w s).take (j + 1)).length=j + 1:=by rw [List.length_take];lia
   symm;refine Bn (by rw [Bd,Bd,hlt,hL];lia) ?_;rw [<-LL];symm;refine D9 m6 (by show 2 < 100000;decide) ?_;rw [HI];obtain ⟨v2,hv2⟩:∃v2,v2=Fs v1 s ((w s).take (j + 1)++m):=⟨_,rfl⟩;have ok2:Ok2 gs v2:=by rw [hv2];exact Mx ok1 (by rw [List.length_append,hlt];have:=hok.2.1;have:(w s).length<=2000:=by { cases s <;> lia };lia)
   rw [<-hv2];have m7:(S6.set M (.dct (dW (v2 true) (v2 false))))[M]?=some (.dct (dW (v2 true) (v2 false))):=AH m6;have hK7:(S6.set M (.dct (dW (v2 true) (v2 false))))[K]?=some (.dct s6.l):=An hK6 (by lia);have k7:Kp K S (S6.set M (.dct (dW (v2 true) (v2 false)))):=k6'.set (by rw [hM];exact G1.1);refine B3 ?_;dsimp only;generalize S6.set M (.dct (dW (v2 true) (v2 false)))=S7 at m7 hK7 k7 ⊢;symm;refine Bg m7 (lrF (λs=>.lst (wD (v2 s))) true) ?_;symm;refine Bg m7 (lrF (λs=>.lst (wD (v2 s))) false) ?_;symm;refine (ht S7 gs v2 ok2).mono λq S8 z9=>?_;obtain ⟨G8,υ,hE8,_,_,hr8⟩:=z9;obtain ⟨u8,rfl⟩:=NE hr8;have heq:AR gs v2 υ=some (s,j):=by
    refine RY hE e ?_ (λt z=>?_) hE8
    ·rw [hv2,Fi];exact SK (by lia)
    ·rw [hv2,G5 _ _ z,hv1,G5 _ _ z]
   symm;refine Xo ?_;rw [decide_eq_true heq];symm;exact ⟨rfl,k7.trans G8.kp,s6,G8.get hK7,b6⟩
def Dw (f:Fn)(as:List D)(s:Sx)(v:D)(s':Sx):Prop:=∀(S:List Ob) (K:Nat),K < S.length->Wf f (.obj K :: as) (S.set K (.dct s.l)) λq S'=>q=v/\S'=S.set K (.dct s'.l)
theorem Dw.use {f:Fn}{as:List D}{s s':Sx}(h:Dw f as s v s'){S:List Ob}{K:Nat}(hK:K < S.length){P:D->List Ob->Prop}(p:P v (S.set K (.dct s'.l))):Wf f (.obj K :: as) (S.set K (.dct s.l)) P:=(h S K hK).mono λq S' ⟨e1,e2⟩=>by subst e1 e2;exact p
def Fb (f:Fn):Prop:=∀(s:Sx) (m:Int) (r:Nat),SxB (r + 1) s->0 < m->m < 4611686018427387904->∃(x:Int) (s':Sx),0<=x/\x < m/\SxB r s'/\Dw f [.int m] s (.int x) s'
theorem KC {f:Fn}(h:DrawD f):Fb f:=λs m r hs h0 h1=>by
 obtain ⟨x,s',x0,x1,b,d⟩:=h s m r hs h0 h1;refine ⟨x,s',x0,x1,b,λS K hK=>?_⟩;refine (d _ K (List.getElem?_set_self hK)).mono λq S' ⟨e1,e2⟩=>⟨e1,?_⟩;rw [e2,List.set_set]
def CP (f:Fn)(n:Nat):Prop:=∀(d:Nat) (s:Sx) (r:Nat),d < n->SxB (r + cs d) s->∃(sh:Sh) (s':Sx),sh.depth<=d + 1/\wf sh=true/\SxB r s'/\Dw f [.int (d:Nat)] s sh.d s'
def IZ:Sh->Sh
 | .list s q=>.list s (if 6 < q then 6 else q)
 | .nothing=>.nothing
 | .number a b=>.number a b
 | .text m=>.text m
 | .pair a b=>.pair a b
 | .choice ss=>.choice ss
theorem Nj (s:Sh):(IZ s).depth=s.depth:=by cases s <;> rfl
theorem SQ {s:Sh}(h:wf s=true):wf (IZ s)=true:=by
 cases s with
 | list s q=>
   rw [IZ];simp only [wf,Bool.and_eq_true,decide_eq_true_eq] at h ⊢;refine ⟨⟨?_,?_⟩,h.2⟩ <;> (split <;> lia)
 | _=>exact h
theorem IF {cr:Fn}{n e:Nat}(hr:CP cr n)(he:e < n):∀(m:Nat) (s:Sx) (r:Nat),SxB (r + m * cs e) s->∃(ss:List Sh) (s':Sx),ss.length=m/\(∀x∈ss,x.depth<=e + 1/\wf x=true)/\SxB r s'/\∀(l:List D) (S:List Ob) (K:Nat) (z:Option Sl),l.length=m->K < S.length->F2.W (Bf (Al 0) Bc (Af cr (Aa (Ab 1) (Aa (Ac (Ab 2) (fC (.int 1)) BK) Ad))) l) ⟨[z,some (.val (.obj K)),some (.val (.int ((e + 1:Nat):Int)))],S.set K (.dct s.l)⟩ λq t'=>q=ss.map Sh.d/\t'.S=S.set K (.dct s'.l)
 | 0,s,r,hs=>⟨[],s,rfl,(λ_ h=>nomatch h),hs.mono (by lia),λl S K z hl hK=>by
   have:l=[]:=List.eq_nil_of_length_eq_zero hl;subst this;exact W_compL_nil.mpr ⟨rfl,rfl⟩⟩
 | m + 1,s,r,hs=>by
   obtain ⟨sh,s1,h1,h2,b1,d1⟩:=hr e s (r + m * cs e) he (hs.mono (by rw [Nat.succ_mul];lia));obtain ⟨ss,s2,g1,g2,b2,d2⟩:=IF hr he m s1 r b1;refine ⟨sh :: ss,s2,by rw [List.length_cons,g1],λx hx=>?_,b2,λl S K z hl hK=>?_⟩
   ·rcases List.mem_cons.mp hx with rfl | hx
    ·exact ⟨h1,h2⟩
    ·exact g2 x hx
   cases l with
   | nil=>cases hl
   | cons d l=>
     rw [A9];refine C8 (Ez ?_);rw [if_pos rfl];symm;rw [show ((e + 1:Nat):Int) - 1=(e:Nat) by lia];refine d1.use hK ?_;symm;refine (d2 l S K _ (Nat.succ.inj hl) hK).mono λq t' z9=>?_;obtain ⟨e1,e2⟩:=z9;subst e1;exact ⟨rfl,e2⟩
theorem PY {cr:Fn}(ht:Fb ct)(hr:n=0\/CP cr n):CP (fnOf 2 5 (A3 ct cr)) (n + 1):=by
 intro d s r hd p0;have hcs:=XH d;obtain ⟨i,s1,i0,i1,b1,d1⟩:=ht s (if d=0 then 3 else 6) (r + (cs d - 1)) (p0.mono (by lia)) (by split <;> decide) (by split <;> decide);have hm:(3:Int) + 3 * (if decide ((0:Int) < (d:Int))=true then 1 else 0)=if d=0 then 3 else 6:=by
  by_cases z:d=0
  ·subst z;rfl
  ·rw [if_neg z,if_pos (decide_eq_true (by lia))];rfl
 by_cases k0:i=0
 ·subst k0;refine ⟨.nothing,s1,by show 1<=_;lia,rfl,b1.mono (by lia),λS K hK=>?_⟩;refine Ax rfl ?_;unfold A3;symm;refine Ee (Df (by decide) (by decide)) ?_;symm;rw [hm];refine d1.use hK ?_;symm;exact ⟨by rw [Sh.d],rfl⟩
 by_cases k1:i=1
 ·subst k1;obtain ⟨a,s2,a0,a1,b2,d2⟩:=ht s1 9 (r + 8) (b1.mono (by lia)) (by decide) (by decide);obtain ⟨b,s3,c0,c1,b3,d3⟩:=ht s2 10000000000000000 (r + 7) b2 (by decide) (by decide);obtain ⟨g,s4,z0,z1,b4,d4⟩:=ht s3 3 (r + 6) b3 (by decide) (by decide);obtain ⟨x,s5,x0,x1,b5,d5⟩:=ht s4 10000000000000000 (r + 5) b4 (by decide) (by decide);obtain ⟨h,s6,h0,h1,b6,d6⟩:=ht s5 7 (r + 4) b5 (by decide) (by decide);obtain ⟨dd,ed,lo,rfl,l0,l1⟩:=Gy (xs:=[D.int 0,D.int (a - 4),D.int (b - 1000000000000000)]) z0 (by simpa using z1) (p:=λd=>∃m:Int,d = .int m/\-1000000000000000<=m/\m<=10000000000000000) (by
   simp only [List.forall_mem_cons];exact ⟨⟨_,rfl,by decide,by decide⟩,⟨_,rfl,by lia,by lia⟩,⟨_,rfl,by lia,by lia⟩,λ_ z=>nomatch z⟩)
  obtain ⟨dd,ed2,hi,rfl,m0,m1⟩:=Gy (xs:=[D.int 0,D.int 1,D.int 200,D.int 255,D.int 256,D.int 70000,D.int x]) h0 (by simpa using h1) (p:=λd=>∃m:Int,d = .int m/\0<=m/\m<=10000000000000000) (by
   simp only [List.forall_mem_cons];exact ⟨⟨_,rfl,by decide,by decide⟩,⟨_,rfl,by decide,by decide⟩,⟨_,rfl,by decide,by decide⟩,⟨_,rfl,by decide,by decide⟩,⟨_,rfl,by decide,by decide⟩,⟨_,rfl,by decide,by decide⟩,⟨_,rfl,by lia,by lia⟩,λ_ z=>nomatch z⟩)
  refine ⟨.number lo (lo + hi),s6,by show 1<=_;lia,?_,b6.mono (by lia),λS K hK=>?_⟩
  ·simp only [wf,Bool.and_eq_true,decide_eq_true_eq];lia
  refine Ax rfl ?_;unfold A3;symm;refine Ee (Df (by decide) (by decide)) ?_;symm;rw [hm];refine d1.use hK ?_;symm;refine d2.use hK ?_;symm;refine d3.use hK ?_;symm;refine d4.use hK ?_;have e15:(10:Int) ^ (15:Int).toNat=1000000000000000:=by decide
  rw [e15];refine Be ed ?_;symm;refine d5.use hK ?_;symm;refine d6.use hK ?_;refine Be ed2 ?_;symm;exact ⟨by rw [Sh.d],rfl⟩
 by_cases k2:i=2
 ·subst k2;obtain ⟨g,s2,z0,z1,b2,d2⟩:=ht s1 4 (r + 8) (b1.mono (by lia)) (by decide) (by decide);obtain ⟨dd,ed,m,rfl,m0,m1⟩:=Gy (xs:=[D.int 0,D.int 1,D.int 5,D.int 250]) z0 (by simpa using z1) (p:=λd=>∃m:Int,d = .int m/\0<=m/\m<=250) (by
   simp only [List.forall_mem_cons];exact ⟨⟨_,rfl,by decide,by decide⟩,⟨_,rfl,by decide,by decide⟩,⟨_,rfl,by decide,by decide⟩,⟨_,rfl,by decide,by decide⟩,λ_ z=>nomatch z⟩)
  refine ⟨.text m,s2,by show 1<=_;lia,?_,b2.mono (by lia),λS K hK=>?_⟩
  ·simp only [wf,Bool.and_eq_true,decide_eq_true_eq];exact ⟨m0,m1⟩
  refine Ax rfl ?_;unfold A3;symm;refine Ee (Df (by decide) (by decide)) ?_;symm;rw [hm];refine d1.use hK ?_;symm;refine d2.use hK ?_;refine Be ed ?_;symm;exact ⟨by rw [Sh.d],rfl⟩
 obtain ⟨e,rfl⟩:∃e,d=e + 1:=⟨d - 1,by
  have:¬d=0:=λz=>by rw [if_pos z] at i1;lia
  lia⟩
 rw [if_neg (show ¬e + 1=0 by lia)] at i1 d1 hm;have hrr:CP cr n:=hr.resolve_left (by lia);have hen:e < n:=by lia
 have hce:cs (e + 1)=10 + 3 * cs e:=rfl;have he1:((e + 1:Nat):Int) - 1=(e:Nat):=by lia
 by_cases k3:i=3
 ·subst k3;obtain ⟨sh,s2,hdp,hwf,b2,d2⟩:=hrr e s1 (r + 5) hen (b1.mono (by lia));obtain ⟨g,s3,z0,z1,b3,d3⟩:=ht s2 4 (r + 4) b2 (by decide) (by decide);obtain ⟨dd,ed,m,rfl,m0,m1⟩:=Gy (xs:=[D.int 0,D.int 2,D.int 6,D.int 250]) z0 (by simpa using z1) (p:=λd=>∃m:Int,d = .int m/\0<=m/\m<=250) (by
   simp only [List.forall_mem_cons];exact ⟨⟨_,rfl,by decide,by decide⟩,⟨_,rfl,by decide,by decide⟩,⟨_,rfl,by decide,by decide⟩,⟨_,rfl,by decide,by decide⟩,λ_ z=>nomatch z⟩)
  refine ⟨.list (IZ sh) m,s3,?_,?_,b3.mono (by lia),λS K hK=>?_⟩
  ·rw [Sh.depth,Nj];lia
  ·simp only [wf,Bool.and_eq_true,decide_eq_true_eq];exact ⟨⟨m0,m1⟩,SQ hwf⟩
  refine Ax rfl ?_;unfold A3;symm;refine Ee (Df (by decide) (by decide)) ?_;symm;rw [hm];refine d1.use hK ?_;symm;rw [he1];refine d2.use hK ?_
  cases sh with
  | list s0 q=>
    rw [Sh.d];symm;refine d3.use hK ?_;refine Be ed ?_;symm;exact ⟨by simp only [IZ,Sh.d],rfl⟩
  | _=>
    rw [Sh.d];symm;refine d3.use hK ?_;refine Be ed ?_;symm;exact ⟨by simp only [IZ,Sh.d],rfl⟩
 by_cases k4:i=4
 ·subst k4;obtain ⟨sh,s2,hdp,hwf,b2,d2⟩:=hrr e s1 (r + cs e) hen (b1.mono (by lia));obtain ⟨sh3,s3,hdp3,hwf3,b3,d3⟩:=hrr e s2 r hen b2;refine ⟨.pair sh sh3,s3,?_,?_,b3,λS K hK=>?_⟩
  ·rw [Sh.depth];lia
  ·simp only [wf,Bool.and_eq_true];exact ⟨hwf,hwf3⟩
  refine Ax rfl ?_;unfold A3;symm;refine Ee (Df (by decide) (by decide)) ?_;symm;rw [hm];refine d1.use hK ?_;symm;rw [he1];refine d2.use hK ?_;symm;rw [he1];refine d3.use hK ?_;symm;exact ⟨by rw [Sh.d],rfl⟩
 have k5:i=5:=by lia
 subst k5;obtain ⟨g,s2,z0,z1,b2,d2⟩:=ht s1 3 (r + 3 * cs e) (b1.mono (by lia)) (by decide) (by decide);obtain ⟨g,rfl⟩:=Int.eq_ofNat_of_zero_le z0;obtain ⟨ss,s3,hsl,hs1,b3,d3⟩:=IF hrr hen (1 + g) s2 r (b2.mono (by have:(1 + g) * cs e<=3 * cs e:=Nat.mul_le_mul_right _ (by lia);lia));refine ⟨.choice ss,s3,?_,?_,b3,λS K hK=>?_⟩
 ·exact Zm λx hx=>(hs1 x hx).1
 ·simp only [wf,Bool.and_eq_true,decide_eq_true_eq];exact ⟨⟨by lia,by lia⟩,Qa λx hx=>(hs1 x hx).2⟩
 refine Ax rfl ?_;unfold A3;symm;refine Ee (Df (by decide) (by decide)) ?_;symm;rw [hm];refine d1.use hK ?_;symm;refine d2.use hK ?_;symm;refine DZ (by simp [BE];lia) ?_;refine (d3 (AJ 0 (1 + (g:Int)).toNat) S K none (by unfold AJ;rw [List.length_map,List.length_range];lia) hK).mono λq t' z9=>?_;obtain ⟨e1,e2⟩:=z9;subst e1;refine Bn (by rw [List.length_map,hsl];show _<=100000;lia) ?_;symm;refine ⟨?_,e2⟩;rw [Sh.d,Ly]
theorem StK.mono {K r r':Nat}{S S1:List Ob}(h:StK K r S S1)(e:r'<=r):StK K r' S S1:=⟨h.1,h.2.imp λs q=>⟨q.1,q.2.mono e⟩⟩
theorem DrawD.use {f:Fn}(h:DrawD f){K r:Nat}{S0 S:List Ob}{m:Int}(many:Int)(d:StK K (r + 1) S0 S){P:D->List Ob->Prop}(p:∀i S',0<=i->i < many->StK K r S0 S'->P (.int i) S')(e:m=many:=by first | rfl | decide)(h1:0 < many:=by decide)(h2:many < 4611686018427387904:=by decide):Wf f [.obj K,.int m] S P:=by
 subst e;obtain ⟨k,s,hK,b⟩:=d;obtain ⟨x,s1,x0,x1,b1,d1⟩:=h s m r b h1 h2;refine (d1 S K hK).mono λq S' z9=>?_;obtain ⟨e1,e2⟩:=z9;subst e1 e2;exact p x _ x0 x1 ⟨k.setk,s1,AH hK,b1⟩
def vC:Nat->Nat
 | 0=>300
 | m + 1=>300 + vC m * 3
structure ValC (K r:Nat)(S0:List Ob)(s:Sh)(c:Nat)(v:D)(S':List Ob):Prop where
 fit:AA s v=true
 len:(AE s v).length<=c
 st:StK K r S0 S'
def Ki (f:Fn)(m:Nat):Prop:=∀(s:Sh) (K r:Nat) (S0 S:List Ob),s.depth<=m->wf s=true->StK K (r + vC m) S0 S->Wf f [.obj K,s.d] S λv S'=>ValC K r S0 s (vC m) v S'
variable {cv:Fn}
theorem U0 (ht:DrawD ct)(hv:m=0\/Ki cv m):Ki (fnOf 2 6 (DB cv ct)) (m + 1):=by
 intro s k r S0 S hd hw p0;have hvm:vC (m + 1)=300 + vC m * 3:=rfl;have rec_:∀{s':Sh} {r':Nat} {S':List Ob} {P:D->List Ob->Prop},s'.depth<=m->wf s'=true->StK k (r' + vC m) S0 S'->(∀v S'',AA s' v=true->(AE s' v).length<=vC m->StK k r' S0 S''->P v S'')->Wf cv [.obj k,s'.d] S' P:=λ{s' r' S' P} h1 h2 q p=>by
  rcases hv with rfl | hv
  ·exact absurd (Nat.lt_of_lt_of_le s'.depth_pos h1) (Nat.not_lt_zero _)
  ·exact (hv s' k r' S0 S' h1 h2 q).mono λv S'' ⟨g1,g2,g3⟩=>p v S'' g1 g2 g3
 refine Ax rfl ?_;unfold DB
 cases s with
 | nothing=>
   rw [Sh.d];symm;exact ⟨by rw [AA];rfl,by rw [AE];exact Nat.zero_le _,p0.mono (by lia)⟩
 | number lo hi=>
   obtain ⟨w0,w1,w2,w3⟩:=Wl hw;rw [Sh.d];symm;refine ht.use (r:=r + 9) (hi - lo + 1) (p0.mono (by lia)) (λg S1 z0 z1 p1=>?_) rfl w1 w2;symm;refine ht.use (r:=r + 8) 3 p1 λi S2 i0 i1 p2=>?_;obtain ⟨d,ed,q,rfl,q0,q1⟩:=Gy (xs:=[D.int lo,D.int hi,D.int (lo + g)]) i0 (by simpa using i1) (p:=λd=>∃m:Int,d = .int m/\lo<=m/\m<=hi) (by
    simp only [List.forall_mem_cons];exact ⟨⟨_,rfl,Int.le_refl _,w0⟩,⟨_,rfl,w0,Int.le_refl _⟩,⟨_,rfl,T0 z0 z1⟩,λ_ z=>nomatch z⟩)
   refine Be ed ?_;exact ⟨by simp only [AA,Bool.and_eq_true,decide_eq_true_eq];exact ⟨q0,q1⟩,by rw [AE,K3];lia,p2.mono (by lia)⟩
 | pair a b=>
   simp only [wf,Bool.and_eq_true] at hw;rw [Sh.d];symm;refine rec_ (r':=r + vC m) (Vu hd).1 hw.1 (p0.mono (by lia)) λv S1 f1 f2 p1=>?_;symm;refine rec_ (Vu hd).2 hw.2 p1 λu S2 g1 g2 p2=>?_;symm;exact ⟨by simp only [AA,f1,g1,Bool.and_self],by rw [AE,List.length_append];lia,p2⟩
 | choice ss=>
   simp only [wf,Bool.and_eq_true,decide_eq_true_eq] at hw;rw [Sh.d];symm;rw [FC];refine ht.use (r:=r + vC m) (ss.length:Int) (p0.mono (by lia)) (λi S1 i0 i1 p1=>?_) rfl (by clear p0;lia) (by clear p0;lia);obtain ⟨j,rfl⟩:=Int.eq_ofNat_of_zero_le i0;have hj:j < ss.length:=Int.ofNat_lt.mp i1;have e1:ss[j]?=some ss[j]:=List.getElem?_eq_getElem hj;symm;refine Jt (Yi hj) ?_;symm;refine rec_ (Zn hd _ (List.getElem_mem hj)) (Eb hw.2 _ (List.getElem_mem hj)) p1 λv S2 f1 f2 p2=>?_;symm;have hof:V3 (Str.ofString "of")=true:=by decide +kernel
   refine ⟨?_,?_,p2⟩
   ·simp only [AA,Bool.and_eq_true,decide_eq_true_eq];exact ⟨⟨hof,i0,i1⟩,by rw [Int.toNat_natCast,DH ss _ _ _ e1];exact f1⟩
   ·rw [AE,Int.toNat_natCast,Ef ss _ _ _ e1,List.length_cons];lia
 | list s q=>
   simp only [wf,Bool.and_eq_true,decide_eq_true_eq] at hw;rw [Sh.d];symm;refine ht.use (r:=r + vC m * 3) 4 (p0.mono (by lia)) λg S1 z0 z1 p1=>?_;symm;obtain ⟨n,en,n2,nq⟩:=Sq 3 z0 hw.1.1 z1;rw [en];have nb2:vC m * n<=vC m * 3:=Nat.mul_le_mul_left _ n2;refine DZ (El n2) ?_;refine (F9 (P:=λxs t'=>(∀x∈xs,AA s x=true)/\xs.length=n/\((xs.map λd=>AE s d).flatten).length<=vC m * 3/\StK k r S0 t'.S) (λacc l t=>∃(S':List Ob) (z:Option Sl),(∀x∈acc,AA s x=true)/\acc.length + l.length=n/\((acc.map λd=>AE s d).flatten).length + vC m * l.length<=vC m * 3/\StK k (r + vC m * l.length) S0 S'/\t=⟨[z,some (.val (.obj k)),some (.val (.tup [.str "list",s.d,.int q]))],S'⟩) _ [] _ ⟨S1,_,by simp,by simp [AJ],by rw [D7,Int.toNat_natCast];exact Nat.le_trans (Nat.le_of_eq (Nat.zero_add _)) nb2,p1.mono (by rw [D7,Int.toNat_natCast];exact Nat.add_le_add_left nb2 _),rfl⟩ ?_ ?_).mono ?_
   ·rintro acc d l t ⟨S',z,h1,h2,h3,h4,rfl⟩ _;rw [List.length_cons] at h2 h3 h4;refine C8 (Ez ?_);rw [if_pos rfl];symm;refine rec_ (r':=r + vC m * l.length) (Zo hd) hw.2 (h4.mono (by rw [Nat.mul_succ];lia)) λv S5 f1 f2 p5=>?_;refine ⟨S5,_,TN h1 f1,KS h2,?_,p5,rfl⟩;rw [List.map_append,List.flatten_append,List.length_append];simp only [List.map_cons,List.map_nil,List.flatten_cons,List.flatten_nil,List.append_nil];exact Tg h3 f2
   ·rintro acc t ⟨S',z,h1,h2,h3,h4,rfl⟩;exact ⟨h1,h2,h3,h4⟩
   ·rintro xs t' ⟨h1,h2,h3,h4⟩;rw [List.nil_append] at h1 h2 h3;subst h2;refine Bn (O3 (n:=3) n2) ?_;refine ⟨?_,by rw [AE,List.length_cons];lia,h4⟩;rw [AA,Bool.and_eq_true,decide_eq_true_eq,List.all_eq_true];exact ⟨nq,h1⟩
 | text q=>
   simp only [wf,Bool.and_eq_true,decide_eq_true_eq] at hw;rw [Sh.d];symm;refine ht.use (r:=r + 298) 7 (p0.mono (by lia)) λg S1 z0 z1 p1=>?_;symm;refine ht.use (r:=r + 297) 24 p1 λg2 S2 y0 y1 p2=>?_;symm;obtain ⟨dd,ed,y,rfl,m0,m1⟩:∃d,atI [D.int g,D.int 249] (if id (g2 == 1)=true then 1 else 0)=some d/\∃y:Int,d = .int y/\0<=y/\y<=249:=by
    by_cases w:id (g2 == 1)=true
    ·rw [if_pos w];exact ⟨_,rfl,_,rfl,by decide,by decide⟩
    ·rw [if_neg w];exact ⟨_,rfl,_,rfl,by lia,by lia⟩
   refine Be ed ?_;symm;refine YK ?_;symm;obtain ⟨n,en,n3,nq⟩:=Sq 249 m0 hw.1 (by lia);rw [en];refine DZ (El n3) ?_;refine (F9 (P:=λxs t'=>∃ns:List Nat,xs=ns.map (λn=>D.str ⟨#[n]⟩)/\ns.all BJ=true/\ns.length=n/\StK k r S0 t'.S) (λacc q t=>∃(ns:List Nat) (S':List Ob) (z:Option Sl),acc=ns.map (λn=>D.str ⟨#[n]⟩)/\ns.all BJ=true/\ns.length + q.length=n/\StK k (r + q.length) S0 S'/\t=⟨[z,some (.val (.str signs94)),some (.val (.obj k))],S'⟩) _ [] _ ⟨[],S2,_,rfl,rfl,by simp [AJ],p2.mono (by rw [D7,Int.toNat_natCast];lia),rfl⟩ ?_ ?_).mono ?_
   ·rintro acc d q t ⟨ns,S',z,rfl,h1,h2,h3,rfl⟩ _;rw [List.length_cons] at h2 h3;refine C8 (Ez ?_);rw [if_pos rfl];symm;refine ht.use (r:=r + q.length) 94 h3 λi S5 i0 i1 p5=>?_;obtain ⟨c,ec,hc⟩:=RW i0 i1;refine W_ix_str.mpr ⟨by decide +kernel,c,ec,?_⟩;refine ⟨ns++[c],S5,_,by rw [List.map_append];rfl,by simp [List.all_append,h1,hc],KS h2,p5,rfl⟩
   ·rintro acc t ⟨ns,S',z,rfl,h1,h2,h3,rfl⟩;exact ⟨ns,rfl,h1,h2,h3⟩
   ·rintro xs t' ⟨ns,e,h1,h2,h3⟩;rw [List.nil_append] at e;subst e h2;refine Bn (O3 (n:=249) (by rw [List.length_map];exact n3)) ?_;symm;refine ⟨_,_,_,rfl,rfl,GG ns,⟨by decide +kernel,by rw [List.length_map];clear p0 p1 p2;lia⟩,?_⟩;refine Lw ?_;refine ⟨?_,?_,h3⟩
    ·rw [AA];simp only [Bool.and_eq_true,decide_eq_true_eq];rw [Fe,Iv];exact ⟨nq,h1⟩
    ·rw [AE,List.length_cons,List.length_map,Iv];lia
def Wy:D->D
 | .str y=>.int (y.cps.getD 0 0:Nat)
 | d=>d
theorem Oy (x:Str):(x.cps.toList.map λc=>D.str ⟨#[c]⟩).map Wy=x.cps.toList.map λn=>D.int (n:Nat):=by
 rw [List.map_map];refine List.map_congr_left λn _=>?_;rfl
theorem NC {c:Fn}(hc:DE c n)(hm:GK cm):DE (fnOf 2 7 (Dy c cm)) (n + 1):=by
 intro s hs hwf d hf hlen S;have hL:LIM=100000:=rfl;refine Ax rfl ?_;unfold Dy
 cases s with
 | nothing=>
   rw [Sh.d];symm;exact ⟨by rw [AE],rfl⟩
 | number lo hi=>
   have hsp:=MQ hwf;have hwd:=GI 9 _ hsp;simp only [wf,Bool.and_eq_true,decide_eq_true_eq] at hwf
   cases d <;> simp [AA] at hf
   rename_i i;rw [Sh.d];have e1:hi - lo=(((hi - lo).toNat:Nat):Int):=by lia
   have e2:i - lo=(((i - lo).toNat:Nat):Int):=by lia
   symm;rw [e1,e2];refine (hm _ hsp).use ?_;symm;refine DZ (D8 (by lia) (by lia)) ?_;refine Fc (λr t=>∃(z:Option Sl) (m:Nat) (acc:List D),t=⟨[some (.val (.tup [.str "number",.int lo,.int hi])),some (.val (.int i)),some (.val (.str "number")),some (.val (.int m)),some (.val (.lst acc)),z,none],S⟩/\nb r.length m++acc=nb (wid (hi - lo).toNat) (i - lo).toNat) _ _ ⟨_,_,_,rfl,by simp [AJ]⟩ ?_ ?_
   ·rintro d r t ⟨z,m,acc,rfl,hacc⟩ _;rw [List.length_cons,nb,List.append_assoc] at hacc;have hl:acc.length < LIM:=by
     have:=congrArg List.length hacc;simp only [List.length_append,List.length_cons,List.length_nil,K3] at this;lia
    symm;refine Bn (by show 1 + acc.length<=100000;rw [hL] at hl;lia) ?_;symm;exact ⟨_,m / 256,_,rfl,hacc⟩
   ·rintro t ⟨z,m,acc,rfl,hacc⟩;rw [List.length_nil,nb,List.nil_append] at hacc;symm;exact ⟨by rw [hacc,AE],rfl⟩
 | text q=>
   simp only [wf,Bool.and_eq_true,decide_eq_true_eq] at hwf
   cases d <;> simp [AA] at hf
   rename_i x;rw [Sh.d];symm;refine YO (by rw [hL];lia) ?_;symm;refine (Ol (f:=Wy) (fr:=[]) ?_).mono ?_
   ·intro d m;obtain ⟨k,hk,rfl⟩:=List.mem_map.mp m;symm;refine ah rfl ?_;exact ⟨rfl,rfl⟩
   ·rintro xs t' ⟨rfl,hS⟩;rw [Oy];have hl:x.cps.toList.length<=250:=by rw [<-Fe];lia
    refine Bn (by rw [List.length_map,hL];lia) ?_;symm;refine Bn (by simp only [List.length_map,List.length_cons,List.length_nil,hL];lia) ?_;symm;exact ⟨by rw [AE];rfl,hS⟩
 | list s q=>
   simp only [wf,Bool.and_eq_true,decide_eq_true_eq] at hwf;rw [Sh.depth] at hs
   cases d <;> simp only [AA,Bool.false_eq_true] at hf
   rename_i ds;rw [Bool.and_eq_true,decide_eq_true_eq,List.all_eq_true] at hf;rw [AE] at hlen ⊢;rw [Sh.d];symm;refine Fc (λr t=>∃(z:Option Sl) (acc:List D),t=⟨[some (.val (.tup [.str "list",s.d,.int q])),some (.val (.lst ds)),some (.val (.str "list")),none,some (.val (.lst acc)),none,z],S⟩/\acc++(r.map λd=>AE s d).flatten = .int (ds.length:Nat) :: (ds.map λd=>AE s d).flatten) _ _ ⟨_,_,rfl,rfl⟩ ?_ ?_
   ·rintro d r t ⟨z,acc,rfl,hacc⟩ m;rw [List.map_cons,List.flatten_cons,<-List.append_assoc] at hacc;have hl:acc.length + (AE s d).length<=LIM:=by
     have:=congrArg List.length hacc;rw [List.length_append,List.length_append] at this;lia
    symm;refine (hc s (by lia) hwf.2 d (hf.2 d m) (by lia)).use ?_;symm;refine Bn hl ?_;exact ⟨_,_,rfl,hacc⟩
   ·rintro t ⟨z,acc,rfl,hacc⟩;rw [List.map_nil,List.flatten_nil,List.append_nil] at hacc;symm;exact ⟨by rw [hacc],rfl⟩
 | pair s r=>
   simp only [wf,Bool.and_eq_true] at hwf;rw [Sh.depth] at hs;unfold AA at hf
   split at hf
   case h_2=>cases hf
   case h_1 a b=>
    rw [Bool.and_eq_true] at hf;rw [AE] at hlen ⊢;rw [List.length_append] at hlen;rw [Sh.d];symm;refine (hc s (by lia) hwf.1 a hf.1 (by lia)).use ?_;symm;refine (hc r (by lia) hwf.2 b hf.2 (by lia)).use ?_;symm;refine Bn (by lia) ?_;symm;exact ⟨rfl,rfl⟩
 | choice ss=>
   simp only [wf,Bool.and_eq_true,decide_eq_true_eq] at hwf;rw [Sh.depth] at hs;unfold AA at hf
   split at hf
   case h_2=>cases hf
   case h_1 o k x=>
    simp only [Bool.and_eq_true,decide_eq_true_eq] at hf;obtain ⟨⟨ho,k0,k1⟩,hf⟩:=hf;have hk:k.toNat < ss.length:=by lia
    have e1:ss[k.toNat]?=some ss[k.toNat]:=List.getElem?_eq_getElem hk;have hl:=FC ss;have e2:atI (shD ss) k=some (ss[k.toNat]).d:=by
     unfold atI;rw [BQ k0 (by lia)];show (shD ss)[k.toNat]?=_;rw [G0,e1];rfl
    rw [DH ss _ _ _ e1] at hf;rw [AE] at hlen ⊢;rw [Ef ss _ _ _ e1] at hlen ⊢;rw [List.length_cons] at hlen;rw [Sh.d];symm;refine Jt e2 ?_;symm;refine (hc _ (Nat.le_trans (DL ss _ _ e1) (by lia)) (Eb hwf.2 _ (List.getElem_mem hk)) x hf (by lia)).use ?_;symm;refine Bn (by simp only [List.length_cons,List.length_nil];lia) ?_;symm;exact ⟨rfl,rfl⟩
def nm14:List Str:=[Str.ofString "a",Str.ofString "ab",Str.ofString "b",Str.ofString "ba",Str.ofString "abc",Str.ofString "zz",Str.ofString "hello",Str.ofString "x",Str.ofString "quit",Str.ofString "go",Str.ofString "abcdefgh",Str.ofString "c",Str.ofString "no",Str.ofString "abcdefgi"]
def Fo (o k:Nat):Str:=nm14.getD ((o + 3 * k) % 14) (Str.ofString "a")
theorem Q9 (o k:Nat):(Fo o k).length<=90000:=by
 have h:∀i:Fin 14,(nm14.getD i.val (Str.ofString "a")).length<=90000:=by decide +kernel
 exact h ⟨(o + 3 * k) % 14,Nat.mod_lt _ (by decide)⟩
theorem TZ {o:Nat}(ho:o < 14)(hm:m<=9):((List.range m).map (Fo o)).Nodup:=by
 have h:∀i:Fin 14,((List.range 9).map (Fo i.val)).Nodup:=by decide +kernel
 have e:(List.range m).map (Fo o)=((List.range 9).map (Fo o)).take m:=by
  rw [<-List.map_take,List.take_range,Nat.min_eq_left hm]
 rw [e];exact (h ⟨o,ho⟩).sublist (List.take_sublist _ _)
theorem TY (o k:Nat):atI (nm14.map D.str) (((o:Int) + 3 * (k:Int)) % 14)=some (.str (Fo o k)):=by
 have e:(((o:Int) + 3 * (k:Int)) % 14)=(((o + 3 * k) % 14:Nat):Int):=by lia
 have hl:(nm14.map D.str).length=14:=by decide
 have hk:(o + 3 * k) % 14 < 14:=Nat.mod_lt _ (by decide);rw [e];unfold atI;rw [BQ (by lia) (by rw [hl];lia)];show (nm14.map D.str)[(((o + 3 * k) % 14:Nat):Int).toNat]?=_;rw [Int.toNat_natCast,List.getElem?_map];unfold Fo;rw [List.getD_eq_getElem?_getD,List.getElem?_eq_getElem (show (o + 3 * k) % 14 < nm14.length from hk)];rfl
def wdB (Ae AN:Fn):M Out:=
 (Ah (Ap 11 (Ac (Av (AI (Aa (fB (Aa (Ac (Ab 2) (fC (.int 1)) BK) (Aa (Ac (Ab 5) (fC (.int 1)) AB) Ad)) Ew) (Aa (Af Ae (Aa (Ab 6) (Aa (Ab 2) Ad))) Ad)))) (Af Ae (Aa (Ab 6) (Aa (fC (.int 2)) Ad))) ixD))
 (ownM 9 BR (Aa (AL (Aa (Ac (Ab 3) (Ac (Ac (Ab 8) (Ac (fC (.int 3)) (Ab 10) Ex) AB) (fC (.int 14)) DW) ixD) (Aa (Af AN (Aa (Ab 6) (Aa (Af Ae (Aa (Ab 6) (Aa (fC (.int 3)) Ad))) Ad))) (Aa (Ab 11) Ad)))) Ad)))
variable {cs0:Fn}
theorem Va (hd:Fb cd)(hs:CP cs0 3){many h:Int}{o k:Nat}(m0:1<=many)(m1:many<=30)(h0:0<=h)(h1:h < many)(hk:k<=9)(s:Sx)(r:Nat)(b:SxB (r + 200) s):∃(w:Str×Sh×Int) (s':Sx),w.1=Fo o k/\WOk many w/\SxB r s'/\∀(a0 a1 a4 a7 e11:Option Sl) (acc:List D) (S:List Ob) (K:Nat),acc.length<=9->K < S.length->
 F2.W (wdB cd cs0) ⟨[a0,a1,some (.val (.int many)),some (.val (.lst (nm14.map D.str))),a4,some (.val (.int h)),some (.val (.obj K)),a7,some (.val (.int (o:Nat))),some (.own acc),some (.val (.int (k:Nat))),e11],S.set K (.dct s.l)⟩ λout t=>out = .next/\∃f11,t=⟨[a0,a1,some (.val (.int many)),some (.val (.lst (nm14.map D.str))),a4,some (.val (.int h)),some (.val (.obj K)),a7,some (.val (.int (o:Nat))),some (.own (acc++[wdD w])),some (.val (.int (k:Nat))),f11],S.set K (.dct s'.l)⟩:=by
 have hL:LIM=100000:=rfl;obtain ⟨x,s1,x0,x1,b1,d1⟩:=hd s many (r + 199) b (by lia) (by lia);obtain ⟨y,s2,y0,y1,b2,d2⟩:=hd s1 2 (r + 198) b1 (by decide) (by decide);obtain ⟨z,s3,z0,z1,b3,d3⟩:=hd s2 3 (r + 197) b2 (by decide) (by decide);obtain ⟨z,rfl⟩:=Int.eq_ofNat_of_zero_le z0;have hz:z < 3:=by lia
 have hcs:cs z<=130:=by
  have:z=0\/z=1\/z=2:=by lia
  rcases this with rfl | rfl | rfl <;> decide
 obtain ⟨sh,s4,g1,g2,b4,d4⟩:=hs z s3 r hz (b3.mono (by lia));obtain ⟨dd,ed,th,rfl,t0,t1⟩:=Gy (xs:=[D.int (if h + 1 < many - 1 then h + 1 else many - 1),D.int x]) y0 (by simpa using y1) (p:=λd=>∃m:Int,d = .int m/\0<=m/\m < many) (by
  simp only [List.forall_mem_cons];exact ⟨⟨_,rfl,by split <;> lia,by split <;> lia⟩,⟨_,rfl,x0,x1⟩,λ_ z=>nomatch z⟩)
 refine ⟨(Fo o k,sh,th),s4,rfl,⟨g2,by dsimp only;lia,t0,t1,Q9 o k⟩,b4,λa0 a1 a4 a7 e11 acc S K hacc hK=>?_⟩;unfold wdB;symm;refine d1.use hK ?_;symm;refine d2.use hK ?_;refine Be ed ?_;symm;refine Ee (Df (by decide) (by decide)) ?_;symm;refine Be (TY o k) ?_;symm;refine d3.use hK ?_;symm;refine d4.use hK ?_;symm;refine Bn (by lia) ?_;exact ⟨rfl,_,rfl⟩
theorem IG {cd cs0:Fn}(hd:Fb cd)(hs:CP cs0 3){many h:Int}{o:Nat}(m0:1<=many)(m1:many<=30)(h0:0<=h)(h1:h < many):∀(l:List Nat) (s:Sx) (r:Nat),(∀k∈l,k<=9)->SxB (r + 200 * l.length) s->∃(ws:List (Str×Sh×Int)) (s':Sx),ws.map (·.1)=l.map (Fo o)/\(∀w∈ws,WOk many w)/\SxB r s'/\∀(a0 a1 a4 a7 e10 e11:Option Sl) (acc:List D) (S:List Ob) (K:Nat),acc.length + l.length<=9->K < S.length->
 F2.W (BL (Al 10) (wdB cd cs0) (l.map λk:Nat=>D.int (k:Int))) ⟨[a0,a1,some (.val (.int many)),some (.val (.lst (nm14.map D.str))),a4,some (.val (.int h)),some (.val (.obj K)),a7,some (.val (.int (o:Nat))),some (.own acc),e10,e11],S.set K (.dct s.l)⟩ λout t=>out = .next/\∃f10 f11,t=⟨[a0,a1,some (.val (.int many)),some (.val (.lst (nm14.map D.str))),a4,some (.val (.int h)),some (.val (.obj K)),a7,some (.val (.int (o:Nat))),some (.own (acc++ws.map wdD)),f10,f11],S.set K (.dct s'.l)⟩
 | [],s,r,hk,b=>⟨[],s,rfl,(λ_ h=>nomatch h),b,λa0 a1 a4 a7 e10 e11 acc S K _ _=>W_forL_nil.mpr ⟨rfl,_,_,by rw [List.map_nil,List.append_nil]⟩⟩
 | k :: l,s,r,hk,b=>by
   rw [List.length_cons] at b;obtain ⟨w,s1,w1,w2,b1,d1⟩:=Va (o:=o) (k:=k) hd hs m0 m1 h0 h1 (hk k List.mem_cons_self) s (r + 200 * l.length) (b.mono (by lia));obtain ⟨ws,s2,g1,g2,b2,d2⟩:=IG (o:=o) hd hs m0 m1 h0 h1 l s1 r (λj hj=>hk j (List.mem_cons_of_mem _ hj)) b1;refine ⟨w :: ws,s2,by rw [List.map_cons,List.map_cons,w1,g1],λx hx=>?_,b2,λa0 a1 a4 a7 e10 e11 acc S K hl hK=>?_⟩
   ·rcases List.mem_cons.mp hx with rfl | hx
    ·exact w2
    ·exact g2 x hx
   rw [List.length_cons] at hl;rw [List.map_cons,B6];refine C8 ?_;refine (d1 a0 a1 a4 a7 e11 acc S K (by lia) hK).mono λout t z9=>?_;obtain ⟨e1,f11,e2⟩:=z9;subst e1 e2;refine (d2 a0 a1 a4 a7 _ _ (acc++[wdD w]) S K (by rw [List.length_append,List.length_singleton];lia) hK).mono λout t z9=>?_;obtain ⟨e1,f10,f11,e2⟩:=z9;refine ⟨e1,f10,f11,?_⟩;rw [e2,List.append_assoc];rfl
def stB (Ae AN:Fn):M Out:=
 (Ah (Ap 7 (Ac (Av (AI (Aa (fC (.str "left")) (Aa (fC (.str "right")) Ad)))) (Af Ae (Aa (Ab 6) (Aa (fC (.int 2)) Ad))) ixD))
 (Ah (Ap 8 (Af Ae (Aa (Ab 6) (Aa (fC (.int 14)) Ad))))
 (Ah (B9 9 (AI Ad))
 (Ah (Ci (Bm (Aa (Ac (Av (AI (Aa (fC (.int 1)) (Aa (fC (.int 2)) (Aa (fC (.int 3)) (Aa (fC (.int 9)) Ad)))))) (Af Ae (Aa (Ab 6) (Aa (fC (.int 4)) Ad))) ixD) Ad)) (Al 10) (wdB Ae AN))
 (ownM 4 BR (Aa (AL (Aa (Ab 7) (Aa (Ab 9) Ad))) Ad))))))
theorem MR (hd:Fb cd)(hs:CP cs0 3){many h:Int}(m0:1<=many)(m1:many<=30)(h0:0<=h)(h1:h < many)(s:Sx)(b:SxB 3000 s):∃(x:GS) (s':Sx),GSOk many x/\∀(a0 a1 e7 e8 e9 e10 e11:Option Sl) (acc:List D) (S:List Ob) (K:Nat),acc.length<=30->K < S.length->
 F2.W (stB cd cs0) ⟨[a0,a1,some (.val (.int many)),some (.val (.lst (nm14.map D.str))),some (.own acc),some (.val (.int h)),some (.val (.obj K)),e7,e8,e9,e10,e11],S.set K (.dct s.l)⟩ λout t=>out = .next/\∃f7 f8 f9 f10 f11,t=⟨[a0,a1,some (.val (.int many)),some (.val (.lst (nm14.map D.str))),some (.own (acc++[x.d])),some (.val (.int h)),some (.val (.obj K)),f7,f8,f9,f10,f11],S.set K (.dct s'.l)⟩:=by
 have hL:LIM=100000:=rfl;obtain ⟨x,s1,x0,x1,b1,d1⟩:=hd s 2 2999 b (by lia) (by lia);obtain ⟨o,s2,o0,o1,b2,d2⟩:=hd s1 14 2998 b1 (by decide) (by decide);obtain ⟨z,s3,z0,z1,b3,d3⟩:=hd s2 4 2997 b2 (by decide) (by decide);obtain ⟨o,rfl⟩:=Int.eq_ofNat_of_zero_le o0;obtain ⟨dd,ed,side,rfl,hside⟩:=Gy (xs:=[D.str (Str.ofString "left"),D.str (Str.ofString "right")]) x0 (by simpa using x1) (p:=λd=>∃m:Str,d = .str m/\(m=Str.ofString "left"\/m=Str.ofString "right")) (by
  simp only [List.forall_mem_cons];exact ⟨⟨_,rfl,.inl rfl⟩,⟨_,rfl,.inr rfl⟩,λ_ z=>nomatch z⟩)
 obtain ⟨dd,ed2,n,rfl,n0,n1⟩:=Gy (xs:=[D.int 1,D.int 2,D.int 3,D.int 9]) z0 (by simpa using z1) (p:=λd=>∃m:Nat,d = .int (m:Nat)/\1<=m/\m<=9) (by
  simp only [List.forall_mem_cons];exact ⟨⟨1,rfl,by decide,by decide⟩,⟨2,rfl,by decide,by decide⟩,⟨3,rfl,by decide,by decide⟩,⟨9,rfl,by decide,by decide⟩,λ_ z=>nomatch z⟩)
 obtain ⟨ws,s4,w1,w2,b4,d4⟩:=IG (o:=o) hd hs m0 m1 h0 h1 (List.range n) s3 0 (λk hk=>by have:=List.mem_range.mp hk;lia) (b3.mono (by rw [List.length_range];lia));have wl:ws.length=n:=by have:=congrArg List.length w1;rwa [List.length_map,List.length_map,List.length_range] at this
 refine ⟨.st side ws,s4,.st hside (by lia) (by lia) (by rw [w1];exact TZ (by lia) n1) w2,λa0 a1 e7 e8 e9 e10 e11 acc S K hacc hK=>?_⟩;unfold stB;symm;refine d1.use hK ?_;refine Be ed ?_;symm;refine d2.use hK ?_;symm;refine d3.use hK ?_;refine Be ed2 ?_;symm;refine DZ (El (m:=9) n1) ?_;rw [show AJ 0 ((n:Int)).toNat=(List.range n).map λi:Nat=>D.int (i:Int) by unfold AJ;simp];refine (d4 a0 a1 _ _ _ _ [] S K (by rw [List.length_range,List.length_nil];lia) hK).mono λout t z9=>?_;obtain ⟨e1,f10,f11,e2⟩:=z9;subst e1 e2;symm;refine Bn (by lia) ?_;exact ⟨rfl,_,_,_,_,_,rfl⟩
theorem C7:S++[o]=(S++[Ob.dct []]).set S.length o:=by
 rw [List.set_append_right _ _ (Nat.le_refl _),Nat.sub_self];rfl
theorem DM:S.length < (S++[o]).length:=by rw [List.length_append,List.length_singleton];lia
theorem Kp.gr70 (K:Kp S.length (S++[o]) S'):Gr S S':=by
 obtain ⟨h1,h2⟩:=K;rw [List.length_append,List.length_singleton] at h1 h2;exact ⟨by lia,λi hi=>by rw [h2 i (by lia) (by lia),List.getElem?_append_left hi]⟩
def gB (Ae AN AT:Fn):M Out:=
 (Ah (Ap 6 (Af AT (Aa (Ab 0) (Aa (Ac (Ab 1) (Ab 5) AB) Ad))))
 (ifS (CV (Ak (Ac (Af Ae (Aa (Ab 6) (Aa (fC (.int 6)) Ad))) (fC (.int 1)) (eqS id))) (fOr (Ak (Ac (Ab 5) (fC (.int 0)) gtA)) (Ak (Ac (Af Ae (Aa (Ab 6) (Aa (fC (.int 4)) Ad))) (fC (.int 1)) (eqS id)))))
   (ownM 4 BR (Aa (AL (Aa (fC (.str "end")) Ad)) Ad))
   (stB Ae AN)))
theorem Tr (hd:Fb cd)(hs:CP cs0 3)(ht:DN ct){ns:List Int}{start many h:Nat}(hn:ns.length<=63)(m0:1<=many)(m1:many<=30)(h1:h < many)(hst:start<=900):∃(x:GS) (s':Sx),GSOk (many:Nat) x/\∀(e6 e7 e8 e9 e10 e11:Option Sl) (acc:List D) (S:List Ob),acc.length<=30->
 F2.W (gB cd cs0 ct) ⟨[some (.val (.scr ns)),some (.val (.int (start:Nat))),some (.val (.int (many:Nat))),some (.val (.lst (nm14.map D.str))),some (.own acc),some (.val (.int (h:Nat))),e6,e7,e8,e9,e10,e11],S⟩ λout t=>out = .next/\∃f6 f7 f8 f9 f10 f11,t=⟨[some (.val (.scr ns)),some (.val (.int (start:Nat))),some (.val (.int (many:Nat))),some (.val (.lst (nm14.map D.str))),some (.own (acc++[x.d])),some (.val (.int (h:Nat))),f6,f7,f8,f9,f10,f11],S++[.dct s'.l]⟩:=by
 have hL:LIM=100000:=rfl;obtain ⟨s,b,d⟩:=ht ns (start + h) hn (by lia);have e0:(start:Int) + (h:Int)=((start + h:Nat):Int):=by lia
 obtain ⟨x,s1,x0,x1,b1,d1⟩:=hd s 6 3001 (b.mono (by lia)) (by decide) (by decide)
 by_cases k1:x=1
 ·subst k1
  by_cases k2:0 < h
  ·refine ⟨.fin,s1,.fin,λe6 e7 e8 e9 e10 e11 acc S hacc=>?_⟩;unfold gB;symm;rw [e0];refine (d S).mono λq S' z9=>?_;obtain ⟨q1,q2⟩:=z9;subst q1 q2;rw [C7 (o:=.dct s.l)];symm;refine d1.use DM ?_;symm;refine Du (decide_eq_true (by lia)) ?_;symm;refine Bn (by lia) ?_;rw [<-C7 (o:=.dct s1.l)];exact ⟨rfl,_,_,_,_,_,_,rfl⟩
  ·have k2:h=0:=by lia
   subst k2;obtain ⟨y,s2,y0,y1,b2,d2⟩:=hd s1 4 3000 b1 (by decide) (by decide)
   by_cases k3:y=1
   ·subst k3;refine ⟨.fin,s2,.fin,λe6 e7 e8 e9 e10 e11 acc S hacc=>?_⟩;unfold gB;symm;rw [e0];refine (d S).mono λq S' z9=>?_;obtain ⟨q1,q2⟩:=z9;subst q1 q2;rw [C7 (o:=.dct s.l)];symm;refine d1.use DM ?_;symm;refine d2.use DM ?_;symm;refine Bn (by lia) ?_;rw [<-C7 (o:=.dct s2.l)];exact ⟨rfl,_,_,_,_,_,_,rfl⟩
   ·obtain ⟨g,s3,g1,d3⟩:=MR hd hs (many:=(many:Nat)) (h:=((0:Nat):Int)) (by lia) (by lia) (by lia) (by lia) s2 b2;refine ⟨g,s3,g1,λe6 e7 e8 e9 e10 e11 acc S hacc=>?_⟩;unfold gB;symm;rw [e0];refine (d S).mono λq S' z9=>?_;obtain ⟨q1,q2⟩:=z9;subst q1 q2;rw [C7 (o:=.dct s.l)];symm;refine d1.use DM ?_;symm;refine d2.use DM ?_;symm;refine B0 (beq_eq_false_iff_ne.mpr k3) ?_;symm;refine (d3 _ _ _ _ _ _ _ acc _ S.length hacc DM).mono λout t z9=>?_;obtain ⟨q1,f7,f8,f9,f10,f11,q2⟩:=z9;subst q1 q2;rw [<-C7 (o:=.dct s3.l)];exact ⟨rfl,_,_,_,_,_,_,rfl⟩
 ·obtain ⟨g,s3,g1,d3⟩:=MR hd hs (many:=(many:Nat)) (h:=(h:Nat)) (by lia) (by lia) (by lia) (by lia) s1 (b1.mono (by lia));refine ⟨g,s3,g1,λe6 e7 e8 e9 e10 e11 acc S hacc=>?_⟩;unfold gB;symm;rw [e0];refine (d S).mono λq S' z9=>?_;obtain ⟨q1,q2⟩:=z9;subst q1 q2;rw [C7 (o:=.dct s.l)];symm;refine d1.use DM ?_;symm;refine B0 (beq_eq_false_iff_ne.mpr k1) ?_;symm;refine (d3 _ _ _ _ _ _ _ acc _ S.length hacc DM).mono λout t z9=>?_;obtain ⟨q1,f7,f8,f9,f10,f11,q2⟩:=z9;subst q1 q2;rw [<-C7 (o:=.dct s3.l)];exact ⟨rfl,_,_,_,_,_,_,rfl⟩
theorem MI {cd cs0 ct:Fn}(hd:Fb cd)(hs:CP cs0 3)(ht:DN ct){ns:List Int}{start many:Nat}(hn:ns.length<=63)(m0:1<=many)(m1:many<=30)(hst:start<=900):∀(l:List Nat),(∀h∈l,h < many)->∃(g:List GS) (os:List Ob),g.length=l.length/\(∀x∈g,GSOk (many:Nat) x)/\∀(e5 e6 e7 e8 e9 e10 e11:Option Sl) (acc:List D) (S:List Ob),acc.length + l.length<=30->
 F2.W (BL (Al 5) (gB cd cs0 ct) (l.map λk:Nat=>D.int (k:Int))) ⟨[some (.val (.scr ns)),some (.val (.int (start:Nat))),some (.val (.int (many:Nat))),some (.val (.lst (nm14.map D.str))),some (.own acc),e5,e6,e7,e8,e9,e10,e11],S⟩ λout t=>out = .next/\∃f5 f6 f7 f8 f9 f10 f11,t=⟨[some (.val (.scr ns)),some (.val (.int (start:Nat))),some (.val (.int (many:Nat))),some (.val (.lst (nm14.map D.str))),some (.own (acc++g.map GS.d)),f5,f6,f7,f8,f9,f10,f11],S++os⟩
 | [],_=>⟨[],[],rfl,(λ_ h=>nomatch h),λe5 e6 e7 e8 e9 e10 e11 acc S _=>W_forL_nil.mpr ⟨rfl,_,_,_,_,_,_,_,by rw [List.map_nil,List.append_nil,List.append_nil]⟩⟩
 | h :: l,hl=>by
   obtain ⟨x,s1,x1,d1⟩:=Tr hd hs ht hn m0 m1 (hl h List.mem_cons_self) hst;obtain ⟨g,os,g1,g2,d2⟩:=MI hd hs ht hn m0 m1 hst l λj hj=>hl j (List.mem_cons_of_mem _ hj);refine ⟨x :: g,.dct s1.l :: os,by rw [List.length_cons,List.length_cons,g1],λy hy=>?_,λe5 e6 e7 e8 e9 e10 e11 acc S hacc=>?_⟩
   ·rcases List.mem_cons.mp hy with rfl | hy
    ·exact x1
    ·exact g2 y hy
   rw [List.length_cons] at hacc;rw [List.map_cons,B6];refine C8 ?_;refine (d1 _ _ _ _ _ _ acc S (by lia)).mono λout t z9=>?_;obtain ⟨q1,f6,f7,f8,f9,f10,f11,q2⟩:=z9;subst q1 q2;refine (d2 _ _ _ _ _ _ _ (acc++[x.d]) (S++[.dct s1.l]) (by rw [List.length_append,List.length_singleton];lia)).mono λout t h2=>?_;obtain ⟨q1,f5,f6,f7,f8,f9,f10,f11,q2⟩:=h2;refine ⟨q1,f5,f6,f7,f8,f9,f10,f11,?_⟩;rw [q2,List.append_assoc,List.append_assoc];rfl
def MZ (f:Fn):Prop:=∀(ns:List Int) (start many:Nat),ns.length<=63->1<=many->many<=30->start<=900->∃(g:List GS) (os:List Ob),GOk g/\∀S:List Ob,Wf f [.scr ns,.int (start:Nat),.int (many:Nat)] S λq S'=>q = .lst (g.map GS.d)/\S'=S++os
theorem Ts (hd:Fb cd)(hs:CP cs0 3)(ht:DN ct):MZ (fnOf 3 12 (C4 cd cs0 ct)):=by
 intro ns start many hn m0 m1 hst;obtain ⟨g,os,g1,g2,d⟩:=MI hd hs ht hn m0 m1 hst (List.range many) λh hh=>List.mem_range.mp hh;rw [List.length_range] at g1;refine ⟨g,os,⟨by lia,by lia,by rw [g1];exact g2⟩,λS=>?_⟩;refine Ax rfl ?_;unfold C4;symm;refine DZ (El (m:=30) m1) ?_;rw [show AJ 0 ((many:Int)).toNat=(List.range many).map λi:Nat=>D.int (i:Int) by unfold AJ;simp];refine (d none none none none none none none [] S (by rw [List.length_range,List.length_nil];lia)).mono λout t z9=>?_;obtain ⟨e1,f5,f6,f7,f8,f9,f10,f11,e2⟩:=z9;subst e1 e2;symm;exact ⟨rfl,rfl⟩
theorem Lo {cd cg:Fn}(hd:DrawD cd)(hg:MZ cg){ns:List Int}{room:Nat}(hn:ns.length<=63)(m0:1<=room)(m1:room<=30):∀(l:List Nat) (s:Sx) (r:Nat),(∀k∈l,k<=8)->SxB (r + l.length) s->∃(gs:List (List GS)) (s':Sx),gs.length=l.length/\(∀g∈gs,GOk g)/\∀(z:Option Sl) (S:List Ob) (K:Nat),S[K]?=some (.dct s.l)->
 F2.W (Bf (Al 0) Bc (Af cg (Aa (Ab 1) (Aa (Ac (fC (.int 2)) (Ac (Ab 2) (Ab 0) Ex) AB) (Aa (Ac (fC (.int 1)) (Af cd (Aa (Ab 3) (Aa (Ab 2) Ad))) AB) Ad)))) (l.map λk:Nat=>D.int (k:Int))) ⟨[z,some (.val (.scr ns)),some (.val (.int (room:Nat))),some (.val (.obj K))],S⟩ λq t'=>q=gs.map (λg=>.lst (g.map GS.d))/\Kp K S t'.S
 | [],s,r,_,b=>⟨[],s,rfl,(λ_ h=>nomatch h),λz S K _=>W_compL_nil.mpr ⟨rfl,.refl⟩⟩
 | k :: l,s,r,hk,b=>by
   rw [List.length_cons] at b;have hk0:=hk k List.mem_cons_self;obtain ⟨x,s1,x0,x1,b1,d1⟩:=hd s (room:Nat) (r + l.length) b (by lia) (by lia);obtain ⟨x,rfl⟩:=Int.eq_ofNat_of_zero_le x0;have hrk:room * k<=240:=Nat.le_trans (Nat.mul_le_mul m1 hk0) (by decide);obtain ⟨g,os,g1,d2⟩:=hg ns (2 + room * k) (1 + x) hn (by lia) (by lia) (by lia);obtain ⟨gs,s2,g2,g3,d3⟩:=Lo hd hg hn m0 m1 l s1 r (λj hj=>hk j (List.mem_cons_of_mem _ hj)) b1;refine ⟨g :: gs,s2,by rw [List.length_cons,List.length_cons,g2],λy hy=>?_,λz S K hK=>?_⟩
   ·rcases List.mem_cons.mp hy with rfl | hy
    ·exact g1
    ·exact g3 y hy
   rw [List.map_cons,A9];refine C8 (Ez ?_);rw [if_pos rfl];symm;refine Ee (Df (by lia) (by lia)) ?_;symm;refine (d1 S K hK).mono λq S' z9=>?_;obtain ⟨q1,q2⟩:=z9;subst q1 q2;symm;rw [show (2:Int) + (room:Int) * (k:Int)=((2 + room * k:Nat):Int) by push_cast;rfl,show (1:Int) + (x:Int)=((1 + x:Nat):Int) by lia];refine (d2 _).mono λq S' z9=>?_;obtain ⟨q1,q2⟩:=z9;subst q1 q2;have hg1:(S.set K (.dct s1.l)++os)[K]?=some (.dct s1.l):=by
    have h1:(S.set K (.dct s1.l))[K]?=some (.dct s1.l):=AH hK;rw [List.getElem?_append_left (Cj h1)];exact h1
   have k1:Kp K S (S.set K (.dct s1.l)++os):=⟨by rw [List.length_append,List.length_set];lia,λi h n=>by
    rw [List.getElem?_append_left (by rw [List.length_set];exact h),List.getElem?_set_ne (Ne.symm n)]⟩
   refine (d3 _ _ K hg1).mono λq t' z9=>?_;obtain ⟨q1,q2⟩:=z9;subst q1;exact ⟨rfl,k1.trans q2⟩
def Qb (f:Fn):Prop:=∀(ns:List Int),ns.length<=63->∃gs:List (List GS),1<=gs.length/\gs.length<=9/\(∀g∈gs,GOk g)/\∀S:List Ob,Wf f [.scr ns] S λq S'=>q=gsD gs/\Gr S S'
theorem Tu {cg:Fn}(hd:DrawD cd)(hg:MZ cg)(ht:DN ct):Qb (fnOf 1 4 (Dz cd cg ct)):=by
 intro ns hn;have hL:LIM=100000:=rfl;obtain ⟨s,b,d⟩:=ht ns 0 hn (by lia);obtain ⟨x,s1,x0,x1,b1,d1⟩:=hd s 9 9 (b.mono (by lia)) (by decide) (by decide);obtain ⟨x,rfl⟩:=Int.eq_ofNat_of_zero_le x0;obtain ⟨room,er,r0,r1⟩:∃room:Nat,(if (36:Int) / (1 + (x:Int)) < 30 then (36:Int) / (1 + (x:Int)) else 30)=(room:Nat)/\1<=room/\room<=30:=by
  have h1:4<=(36:Int) / (1 + (x:Int)):=by
   have:(1 + (x:Int)) * 4<=36:=by lia
   exact (Int.le_ediv_iff_mul_le (by lia)).mpr (by lia)
  split
  ·exact ⟨((36:Int) / (1 + (x:Int))).toNat,by lia,by lia,by lia⟩
  ·exact ⟨30,rfl,by decide,by decide⟩
 obtain ⟨gs,s2,g1,g2,d2⟩:=Lo hd hg hn r0 r1 (List.range (1 + x)) s1 0 (λk hk=>by have:=List.mem_range.mp hk;lia) (b1.mono (by rw [List.length_range];lia));rw [List.length_range] at g1;refine ⟨gs,by lia,by lia,g2,λS=>?_⟩;refine Ax rfl ?_;unfold Dz;symm;refine (d S).mono λq S' z9=>?_;obtain ⟨q1,q2⟩:=z9;subst q1 q2;symm;refine (d1 _ S.length Bi).mono λq S' z9=>?_;obtain ⟨q1,q2⟩:=z9;subst q1 q2;symm;refine Xm (by lia) (by lia) ?_;symm;rw [er];symm;refine DZ (D8 (by lia) (by lia)) ?_;rw [show AJ 0 ((1:Int) + (x:Int)).toNat=(List.range (1 + x)).map λi:Nat=>D.int (i:Int) by unfold AJ;rw [show ((1:Int) + (x:Int)).toNat=1 + x by lia];simp];refine (d2 _ _ S.length (AH Bi)).mono λq t' z9=>?_;obtain ⟨q1,q2⟩:=z9;subst q1;refine Bn (by rw [List.length_map];lia) ?_;symm;exact ⟨rfl,(Kp.refl.setk.trans q2).gr70⟩
local macro_rules | `(tactic| walk_at "y1")=>`(tactic| first | walk_at "x1" | clear 31 Hb LP)
def gAt (gs:List (List GS))(i:Nat):List GS:=gs.getD i []
def hAt (hs:List Nat)(i:Nat):Nat:=hs.getD i 0
def sayD (gs:List (List GS))(hs:List Nat)(i p:Nat)(v:D):D:=.tup [.int (i:Nat),.str (AS (gAt gs i) (hAt hs i)).side,.str (B1 (gAt gs i) (hAt hs i) p).1,v]
def E5 (gs:List (List GS))(hs:List Nat)(i p:Nat)(v:D):Nat:=(AE (B1 (gAt gs i) (hAt hs i) p).2.1 v).length
inductive Said (gs:List (List GS)):List Nat->List D->Nat->Prop
 | nil:Said gs (List.replicate gs.length 0) [] 0
 | snoc {hs:List Nat} {ds:List D} {n i p:Nat} {v:D}:Said gs hs ds n->i < gs.length->MvOk (gAt gs i) (hAt hs i) p v->Said gs (hs.set i (CO (gAt gs i) (hAt hs i) p)) (ds++[sayD gs hs i p v]) (n + (2 + E5 gs hs i p v))
theorem Io (h:∀g∈gs,GOk g){i:Nat}(hi:i < gs.length):GOk (gAt gs i):=by
 unfold gAt;rw [List.getD_eq_getElem?_getD,List.getElem?_eq_getElem hi];exact h _ (List.getElem_mem hi)
theorem KM (hi:i < gs.length):atI (gs.map λg=>D.lst (g.map GS.d)) (i:Int)=some (.lst ((gAt gs i).map GS.d)):=by
 refine Dr ?_;unfold gAt;rw [List.getElem?_map,List.getD_eq_getElem?_getD,List.getElem?_eq_getElem hi];rfl
theorem KO (hi:i < hs.length):atI (nD hs) (i:Int)=some (.int ((hAt hs i:Nat):Int)):=Dr (Pe hi)
theorem Said.len (h:Said gs hs ds n):hs.length=gs.length:=by
 induction h with
 | nil=>rw [List.length_replicate]
 | snoc _ _ _ ih=>rw [List.length_set];exact ih
theorem Said.few (h:Said gs hs ds n):ds.length<=n:=by
 induction h with
 | nil=>exact Nat.zero_le _
 | snoc _ _ _ ih=>rw [List.length_append,List.length_singleton];lia
theorem Tw (hi:i < hs.length):hAt (hs.set i x) j=if j=i then x else hAt hs j:=by
 unfold hAt;rw [List.getD_eq_getElem?_getD,List.getD_eq_getElem?_getD]
 by_cases q:j=i
 ·subst q;rw [if_pos rfl,List.getElem?_set_self hi];rfl
 ·rw [if_neg q,List.getElem?_set_ne (Ne.symm q)]
theorem Said.lt {gs:List (List GS)}(hg:∀g∈gs,GOk g){hs:List Nat}{ds:List D}{n:Nat}(h:Said gs hs ds n):∀i,i < gs.length->hAt hs i < (gAt gs i).length:=by
 induction h with
 | nil=>
   intro i hi;have e:hAt (List.replicate gs.length 0) i=0:=by
    unfold hAt;rw [List.getD_eq_getElem?_getD,List.getElem?_replicate,if_pos hi];rfl
   rw [e];exact (Io hg hi).ne
 | @snoc hs ds n i p v h0 hi hm ih=>
   intro j hj;rw [Tw (by rw [h0.len];exact hi)]
   by_cases q:j=i
   ·subst q;rw [if_pos rfl];have hw:=Od (Io hg hi) hm.lt hm.pl;have h1:=hw.lo;have h2:=hw.hi;unfold CO;lia
   ·rw [if_neg q];exact ih j hj
theorem Pf (hs:List Nat)(i x:Nat):(nD hs).set i (.int (x:Int))=nD (hs.set i x):=by
 unfold nD;rw [List.map_set]
theorem MW {k:Int}{Q:List D->T->Prop}(h1:BE k=true/\xs.length * k.toNat<=LIM)(h:Q (List.replicate k.toNat xs).flatten t):F2.W (Lm (.lst xs) (.int k)) t Q:=⟨_,_,by show (if _ then _ else _)=_;rw [if_pos h1],h⟩
theorem KH (n:Nat):(List.replicate n [D.int 0]).flatten=nD (List.replicate n 0):=by
 unfold nD
 induction n with
 | zero=>rfl
 | succ n ih=>rw [List.replicate_succ,List.flatten_cons,ih,List.replicate_succ];rfl
theorem RB {a:Int}{d:D}(h:d∈AJ a n):∃k:Nat,d = .int (a + k)/\k < n:=by
 unfold AJ at h;obtain ⟨k,hk,rfl⟩:=List.mem_map.mp h;exact ⟨k,rfl,List.mem_range.mp hk⟩
def SD (AG Bq Ae AT:Fn):M Out:=
 (Ah (Ap 7 (Af AT (Aa (Ab 0) (Aa (Ab 6) Ad))))
 (Ah (Ap 8 (Af Ae (Aa (Ab 7) (Aa (fB (Aa (Ab 1) Ad) AF) Ad))))
 (ifS (Ak (Ac (fB (Aa (Ac (Ac (Ab 1) (Ab 8) ixD) (CW 3 (Ab 8)) ixD) Ad) AF) (fC (.int 1)) gtA))
   (Ah (A4 (Ac (Ac (Ab 1) (Ab 8) ixD) (CW 3 (Ab 8)) ixD) (unS 2 (Ar (Al 9) (Ar (Al 10) Bl))))
 (Ah (A4 (Ac (Ab 10) (Af Ae (Aa (Ab 7) (Aa (fB (Aa (Ab 10) Ad) AF) Ad))) ixD) (unS 3 (Ar (Al 11) (Ar (Al 12) (Ar (Al 13) Bl)))))
 (Ah (Ap 14 (Af Bq (Aa (Ab 7) (Aa (Ab 12) Ad))))
 (ifS (Ak (Ac (Ac (fC (.int 2)) (fB (Aa (Af AG (Aa (Ab 12) (Aa (Ab 14) Ad))) Ad) AF) AB) (Ab 5) leA))
   (Ah (Ap 5 (Ac (Ac (Ab 5) (fC (.int 2)) BK) (fB (Aa (Af AG (Aa (Ab 12) (Aa (Ab 14) Ad))) Ad) AF) BK))
 (Ah (ownM 4 BR (Aa (AL (Aa (Ab 8) (Aa (Ab 9) (Aa (Ab 11) (Aa (Ab 14) Ad))))) Ad))
 (A4 (Ab 13) (B4 3 (Ab 8)))))
   Aw))))
   Aw)))
theorem PP (hb:DE cb 3)(hv:Ki cv 3)(hd:DrawD cd)(ht:DN ct){ns:List Int}{gs:List (List GS)}{hs:List Nat}{ds:List D}{n k:Nat}{S:List Ob}{a2 e7 e8 e9 e10 e11 e12 e13 e14:Option Sl}(hn:ns.length<=63)(hk:k<=63)(hg:∀g∈gs,GOk g)(g1:1<=gs.length)(g9:gs.length<=9)(h:Said gs hs ds n)(h15:n<=1500) :
 F2.W (SD cb cv cd ct) ⟨[some (.val (.scr ns)),some (.val (gsD gs)),a2,some (.own (nD hs)),some (.own ds),some (.val (.int (1500 - (n:Int)))),some (.val (.int (k:Nat))),e7,e8,e9,e10,e11,e12,e13,e14],S⟩ λout t=>out = .next/\∃hs' ds' n' S' f6 f7 f8 f9 f10 f11 f12 f13 f14,Said gs hs' ds' n'/\n'<=1500/\Gr S S'/\t=⟨[some (.val (.scr ns)),some (.val (gsD gs)),a2,some (.own (nD hs')),some (.own ds'),some (.val (.int (1500 - (n':Int)))),f6,f7,f8,f9,f10,f11,f12,f13,f14],S'⟩:=by
 have hL:LIM=100000:=rfl;obtain ⟨s,b,d⟩:=ht ns k hn (by lia);have hds:=h.few;have hlen:=h.len;unfold SD gsD;symm;refine (d S).mono λq S' z9=>?_;obtain ⟨q1,q2⟩:=z9;subst q1 q2;have k0:StK S.length 100000 (S++[.dct s.l]) (S++[.dct s.l]):=⟨.refl,s,Bi,b.mono (by lia)⟩;symm;rw [List.length_map];refine hd.use (r:=99999) (gs.length:Nat) k0 (λi S1 i0 i1 k1=>?_) rfl (by lia) (by lia);obtain ⟨i,rfl⟩:=Int.eq_ofNat_of_zero_le i0;have hi:i < gs.length:=by lia
 have hlt:=h.lt hg i hi;have hgo:=Io hg hi;have hgs:=Jf hgo hlt;symm;refine Be (KM hi) ?_;symm;refine LN rfl ?_;symm;refine ⟨_,_,_,rfl,rfl,KO (by lia),?_⟩;refine Be (Hu hlt) ?_;symm
 cases egs:AS (gAt gs i) (hAt hs i) with
 | fin=>
   rw [GS.d];symm;exact ⟨rfl,hs,ds,n,S1,_,_,_,_,_,_,_,_,_,h,h15,k1.1.gr70,rfl⟩
 | st side ws=>
   rw [egs] at hgs;obtain ⟨w0,w9⟩:0 < ws.length/\ws.length<=9:=by
    cases hgs with
    | st _ h2 h3 _ _=>exact ⟨h2,h3⟩
   rw [GS.d];symm;refine Be (KM hi) ?_;symm;refine LN rfl ?_;symm;refine ⟨_,_,_,rfl,rfl,KO (by lia),?_⟩;refine Be (Hu hlt) ?_;rw [egs,GS.d];symm;rw [List.length_map];refine hd.use (r:=99998) (ws.length:Nat) k1 (λp S2 p0 p1 k2=>?_) rfl (by lia) (by lia);obtain ⟨p,rfl⟩:=Int.eq_ofNat_of_zero_le p0;have hp:p < (AS (gAt gs i) (hAt hs i)).ws.length:=by rw [egs];show p < ws.length;lia
   obtain ⟨side',ws',e1,hp',ew⟩:=N2 hp;rw [egs] at e1;injection e1 with e1 e2
   subst e1 e2;have hw:=Od hgo hlt hp;refine Be (IN ew) ?_;unfold wdD;symm;refine (hv _ S.length 10 _ S2 hw.dep hw.ok (k2.mono (by decide))).mono λv S3 hvc=>?_;have hm:MvOk (gAt gs i) (hAt hs i) p v:=⟨hlt,hp,hvc.fit⟩;have hbl:(AE (B1 (gAt gs i) (hAt hs i) p).2.1 v).length<=12000:=hvc.len;have hbb:=hb _ hw.dep hw.ok v hvc.fit (by lia);symm;refine hbb.use ?_;symm
   by_cases hc:2 + (AE (B1 (gAt gs i) (hAt hs i) p).2.1 v).length<=1500 - n
   ·refine Du (decide_eq_true (by lia)) ?_;symm;refine hbb.use ?_;symm;refine Bn (by lia) ?_;symm;refine IM rfl ?_;symm;refine ⟨_,_,i,rfl,rfl,BQ (by lia) (by unfold nD;rw [List.length_map];lia),?_⟩;refine ⟨rfl,_,_,_,S3,some (.val (.int (k:Nat))),some (.val (.obj S.length)),some (.val (.int (i:Nat))),some (.val (.str side)),some (.val (.lst (ws.map wdD))),some (.val (.str (B1 (gAt gs i) (hAt hs i) p).1)),some (.val (B1 (gAt gs i) (hAt hs i) p).2.1.d),some (.val (.int (B1 (gAt gs i) (hAt hs i) p).2.2)),some (.val v),.snoc h hi hm,?_,hvc.st.1.gr70,?_⟩
    ·unfold E5;lia
    ·have e5:(1500:Int) - (n:Int) - 2 - ((AE (B1 (gAt gs i) (hAt hs i) p).2.1 v).length:Int)=1500 - ((n + (2 + E5 gs hs i p v):Nat):Int):=by unfold E5;lia
     have e3:(nD hs).set i (.int (B1 (gAt gs i) (hAt hs i) p).2.2)=nD (hs.set i (CO (gAt gs i) (hAt hs i) p)):=by
      rw [<-Pf];unfold CO
      congr 2
      have:=hw.lo;lia
     have e4:sayD gs hs i p v = .tup [.int (i:Nat),.str side,.str (B1 (gAt gs i) (hAt hs i) p).1,v]:=by unfold sayD;rw [egs];rfl
     rw [<-e5,<-e3,e4];rfl
   ·refine B0 (decide_eq_false (by lia)) ?_;symm;exact ⟨rfl,hs,ds,n,S3,_,_,_,_,_,_,_,_,_,h,h15,hvc.st.1.gr70,rfl⟩
def Se (f:Fn):Prop:=∀(ns:List Int) (gs:List (List GS)) (S:List Ob),ns.length<=63->(∀g∈gs,GOk g)->1<=gs.length->gs.length<=9->Wf f [.scr ns,gsD gs,.int 38] S λq S'=>Gr S S'/\∃hs ds n,q = .lst ds/\Said gs hs ds n/\n<=1500
theorem Q4 (hb:DE cb 3)(hv:Ki cv 3)(hd:DrawD cd)(ht:DN ct):Se (fnOf 3 15 (DU cb cv cd ct)):=by
 intro ns gs S hn hg g1 g9;have hL:LIM=100000:=rfl;refine Ax rfl ?_;unfold DU;symm;unfold gsD;symm;rw [List.length_map];refine MW ⟨El g9,by show 1 * _<=_;lia⟩ ?_;rw [Int.toNat_natCast,KH];symm;obtain ⟨m,hm,hm0⟩:∃m:Nat,(if ((ns.length:Nat):Int) < 63 then ((ns.length:Nat):Int) else 63)=(m:Nat)/\m<=63:=by
  split
  ·exact ⟨ns.length,rfl,by lia⟩
  ·exact ⟨63,rfl,by decide⟩
 rw [hm];refine Xw (by rw [Bool.and_eq_true];exact ⟨by decide,El hm0⟩) ?_;refine Fc (λr t=>∃hs' ds' n' S' f6 f7 f8 f9 f10 f11 f12 f13 f14,Said gs hs' ds' n'/\n'<=1500/\Gr S S'/\t=⟨[some (.val (.scr ns)),some (.val (gsD gs)),some (.val (.int 38)),some (.own (nD hs')),some (.own ds'),some (.val (.int (1500 - (n':Int)))),f6,f7,f8,f9,f10,f11,f12,f13,f14],S'⟩) _ _ ⟨_,_,0,S,none,none,none,none,none,none,none,none,none,.nil,by decide,.refl,rfl⟩ ?_ ?_
 ·rintro d r t ⟨hs,ds,n,S1,f6,f7,f8,f9,f10,f11,f12,f13,f14,h1,h2,h3,rfl⟩ hd0;obtain ⟨k,rfl,hk⟩:=RB hd0;refine C8 ?_;rw [show (38:Int) + (k:Nat)=((38 + k:Nat):Int) by lia];refine (PP hb hv hd ht (k:=38 + k) hn (by lia) hg g1 g9 h1 h2).mono λout t z9=>?_;obtain ⟨e1,hs',ds',n',S',f6,f7,f8,f9,f10,f11,f12,f13,f14,q1,q2,q3,q4⟩:=z9;subst e1;exact ⟨hs',ds',n',S',f6,f7,f8,f9,f10,f11,f12,f13,f14,q1,q2,h3.trans q3,q4⟩
 ·rintro t ⟨hs,ds,n,S1,f6,f7,f8,f9,f10,f11,f12,f13,f14,h1,h2,h3,rfl⟩;symm;exact ⟨h3,hs,ds,n,rfl,h1,h2⟩
inductive SaidF (gs:List (List GS)):List Nat->List D->Nat->List Nat->Prop
 | nil {hs:List Nat}:SaidF gs hs [] 0 hs
 | cons {hs he:List Nat} {ds:List D} {n i p:Nat} {v:D}:hs.length=gs.length->i < gs.length->MvOk (gAt gs i) (hAt hs i) p v->SaidF gs (hs.set i (CO (gAt gs i) (hAt hs i) p)) ds n he->SaidF gs hs (sayD gs hs i p v :: ds) (n + (2 + E5 gs hs i p v)) he
theorem SaidF.snoc {gs:List (List GS)}{hs he:List Nat}{ds:List D}{n i p:Nat}{v:D}(h:SaidF gs hs ds n he)(hl:he.length=gs.length)(hi:i < gs.length)(hm:MvOk (gAt gs i) (hAt he i) p v):SaidF gs hs (ds++[sayD gs he i p v]) (n + (2 + E5 gs he i p v)) (he.set i (CO (gAt gs i) (hAt he i) p)):=by
 induction h with
 | nil=>exact .cons hl hi hm .nil
 | cons h1 h2 h3 _ ih=>
   have:=ih hl hm;rw [List.cons_append,Nat.add_right_comm];exact .cons h1 h2 h3 this
theorem Said.front (h:Said gs hs ds n):SaidF gs (List.replicate gs.length 0) ds n hs:=by
 induction h with
 | nil=>exact .nil
 | snoc h0 hi hm ih=>exact ih.snoc h0.len hi hm
def Nf (AG:Fn):M Out:=
 (Ah (Ap 8 (Ac (Ac (Ac (Ab 0) (Ab 4) ixD) (CW 3 (Ab 4)) ixD) (fC (.int 1)) ixD))
 (Ah (Ap 9 (idxM (Av (AM 1 [] (Dt (Ab 8)) (Al 0) Bc (Ac (Ab 0) (fC (.int 0)) ixD))) (Aa (Ab 6) Ad)))
 (Ah (A4 (Ac (Ac (Ac (Ab 2) (Ab 5) AO) (Av (AI (Aa (Ab 4) (Aa (Ab 9) Ad)))) AB) (Af AG (Aa (Ac (Ac (Ab 8) (Ab 9) ixD) (fC (.int 1)) ixD) (Aa (Ab 7) Ad))) AB) (Ec (Ab 2) (Ab 5)))
 (A4 (Ac (Ac (Ab 8) (Ab 9) ixD) (fC (.int 2)) ixD) (B4 3 (Ab 4))))))
theorem US {n:Int}{side:Str}{ws:List (Str×Sh×Int)}(h:GSOk n (.st side ws)):∃s,side=sd s:=by
 cases h with
 | st h1 _ _ _ _=>exact h1.elim (λz=>⟨true,z⟩) λz=>⟨false,z⟩
theorem Op (hb:DE cb 3){gs:List (List GS)}{hs:List Nat}{n i p K:Nat}{v:D}{w:Bool->List Nat}{S:List Ob}{a1 e4 e5 e6 e7 e8 e9:Option Sl}(hg:∀g∈gs,GOk g)(g9:gs.length<=9)(hlen:hs.length=gs.length)(hi:i < gs.length)(hm:MvOk (gAt gs i) (hAt hs i) p v)(h15:n + (2 + E5 gs hs i p v)<=1500)(hw:(w true).length + (w false).length=n)(hwb:∀s,B256 (w s))(hK:S[K]?=some (.dct (dW (w true) (w false)))) :
 F2.W (unS 4 (Ar (Al 4) (Ar (Al 5) (Ar (Al 6) (Ar (Al 7) Bl)))) (sayD gs hs i p v)) ⟨[some (.val (gsD gs)),a1,some (.val (.obj K)),some (.own (nD hs)),e4,e5,e6,e7,e8,e9],S⟩ λ_ t1=>F2.W (Nf cb) t1 λout t=>out = .next/\∃(f4 f5 f6 f7 f8 f9:Option Sl) (w':Bool->List Nat),(w' true).length + (w' false).length=n + (2 + E5 gs hs i p v)/\(∀s,B256 (w' s))/\t=⟨[some (.val (gsD gs)),a1,some (.val (.obj K)),some (.own (nD (hs.set i (CO (gAt gs i) (hAt hs i) p)))),f4,f5,f6,f7,f8,f9],S.set K (.dct (dW (w' true) (w' false)))⟩:=by
 have hL:LIM=100000:=rfl;have hlt:=hm.lt;have hgo:=Io hg hi;have hgs:=Jf hgo hlt;have hwd:=Od hgo hlt hm.pl;obtain ⟨side,ws,egs,hp,ew⟩:=N2 hm.pl;rw [egs] at hgs;obtain ⟨s,rfl⟩:=US hgs;obtain ⟨nd,h9⟩:(ws.map (·.1)).Nodup/\ws.length<=9:=by
  cases hgs with
  | st _ _ h3 h4 _=>exact ⟨h4,h3⟩
 unfold E5 at h15;obtain ⟨bs,hbs,hb256⟩:=OX (EQ 3 _ hwd.dep hwd.ok v hm.fit);have hbb:=hb _ hwd.dep hwd.ok v hm.fit (by lia);have hbl:bs.length=E5 gs hs i p v:=by unfold E5;rw [hbs,Bd]
 unfold sayD gsD;rw [egs,show (GS.st (sd s) ws).side=sd s from rfl];symm;unfold Nf;symm;refine Be (KM hi) ?_;symm;refine LN rfl ?_;symm;refine ⟨_,_,_,rfl,rfl,KO (by lia),?_⟩;refine Be (Hu hlt) ?_;rw [egs,GS.d];symm;refine Z3 ?_;symm;refine (M9 (f:=λw=>.str w.1) (fr:=[]) ?_).mono ?_
 ·intro w' _;unfold wdD;symm;exact ⟨rfl,rfl⟩
 rintro xs tc ⟨rfl,hS⟩;refine Bn (by rw [List.length_map,hL];lia) ?_;rw [hS];symm;refine ⟨_,_,p,rfl,rfl,⟨rfl,Nv⟩,OU nd ew,?_⟩;symm;refine Bg hK (lrF (λs=>.lst (wD (w s))) s) ?_;have hws:(w s).length<=1500:=by cases s <;> lia
 symm;refine Bn (by rw [Bd];show _ + 2<=_;lia) ?_;symm;refine Be (IN ew) ?_;unfold wdD;symm;refine hbb.use ?_;symm;refine Bn (by rw [List.length_append,Bd,hbs,Bd];show _ + 2 + _<=_;rw [hbs,Bd] at h15;lia) ?_;symm;have ecat:wD (w s)++[D.int (i:Nat),D.int (p:Nat)]++AE (B1 (gAt gs i) (hAt hs i) p).2.1 v=wD (w s++[i,p]++bs):=by
  rw [hbs];unfold wD;rw [List.map_append,List.map_append];rfl
 refine D9 hK (by show 2 < 100000;decide) ?_;rw [ecat,HI];refine B3 ?_;symm;refine Be (IN ew) ?_;unfold wdD;symm;refine IM rfl ?_;symm;refine ⟨_,_,i,rfl,rfl,BQ (by lia) (by unfold nD;rw [List.length_map];lia),?_⟩;have e3:(nD hs).set i (.int (B1 (gAt gs i) (hAt hs i) p).2.2)=nD (hs.set i (CO (gAt gs i) (hAt hs i) p)):=by
  rw [<-Pf];unfold CO
  congr 2
  have:=hwd.lo;lia
 refine ⟨rfl,some (.val (.int (i:Nat))),some (.val (.str (sd s))),some (.val (.str (B1 (gAt gs i) (hAt hs i) p).1)),some (.val v),some (.val (.lst (ws.map wdD))),some (.val (.int (p:Nat))),Fs w s (w s++[i,p]++bs),?_,?_,?_⟩
 ·have e1:(w s++[i,p]++bs).length=(w s).length + 2 + bs.length:=by rw [List.length_append,List.length_append];rfl
  cases s with
  | true=>rw [Fi,G5 _ _ (by decide),e1,hbl];lia
  | false=>rw [Fi,G5 _ _ (by decide),e1,hbl];lia
 ·intro s';unfold Fs
  by_cases q:s'=s
  ·rw [if_pos q];refine ((hwb s).app ?_).app hb256;intro x hx;have hp9:p < 9:=by lia
   rcases List.mem_cons.mp hx with rfl | hx
   ·lia
   ·rw [List.mem_singleton] at hx;lia
  ·rw [if_neg q];exact hwb s'
 ·rw [<-e3];rfl
theorem Qm (hb:DE cb 3){gs:List (List GS)}{a1:Option Sl}{K:Nat}(hg:∀g∈gs,GOk g)(g9:gs.length<=9){hs he:List Nat}{ds:List D}{n:Nat}(h:SaidF gs hs ds n he):∀(w:Bool->List Nat) (S:List Ob) (e4 e5 e6 e7 e8 e9:Option Sl),(w true).length + (w false).length + n<=1500->(∀s,B256 (w s))->S[K]?=some (.dct (dW (w true) (w false)))->
 F2.W (BL (unS 4 (Ar (Al 4) (Ar (Al 5) (Ar (Al 6) (Ar (Al 7) Bl))))) (Nf cb) ds) ⟨[some (.val (gsD gs)),a1,some (.val (.obj K)),some (.own (nD hs)),e4,e5,e6,e7,e8,e9],S⟩ λout t=>out = .next/\∃(ev:List (Option Sl)) (w':Bool->List Nat) (S':List Ob),(w' true).length + (w' false).length<=1500/\(∀s,B256 (w' s))/\Kp K S S'/\S'[K]?=some (.dct (dW (w' true) (w' false)))/\ev[2]?=some (some (.val (.obj K)))/\t=⟨ev,S'⟩:=by
 induction h with
 | nil=>
   intro w S e4 e5 e6 e7 e8 e9 h1 h2 h3;exact W_forL_nil.mpr ⟨rfl,_,w,S,by lia,h2,.refl,h3,rfl,rfl⟩
 | @cons hs he ds n i p v q1 q2 q3 _ ih=>
   intro w S e4 e5 e6 e7 e8 e9 h1 h2 h3;rw [B6];refine (Op hb hg g9 q1 q2 q3 (by lia) rfl h2 h3).mono λ_ t1 z=>z.mono λo t z9=>?_;obtain ⟨z1,f4,f5,f6,f7,f8,f9,w',z2,z3,z4⟩:=z9;subst z1 z4;refine (ih w' _ f4 f5 f6 f7 f8 f9 (by lia) z3 (AH h3)).mono λo t ⟨y1,ev,w2,S2,y2,y3,y4,y5⟩=>⟨y1,ev,w2,S2,y2,y3,(Kp.refl.setk).trans y4,y5⟩
def Sd (f:Fn):Prop:=∀(gs:List (List GS)) (hs:List Nat) (ds:List D) (n:Nat) (S:List Ob),(∀g∈gs,GOk g)->gs.length<=9->Said gs hs ds n->n<=1500->Wf f [gsD gs,.lst ds] S λq S'=>q = .obj S.length/\Gr S S'/\∃w:Bool->List Nat,(w true).length + (w false).length<=1500/\(∀s,B256 (w s))/\S'[S.length]?=some (.dct (dW (w true) (w false)))
theorem QW (hb:DE cb 3):Sd (fnOf 2 10 (DT cb)):=by
 intro gs hs ds n S hg g9 h h15;have hL:LIM=100000:=rfl;refine Ax rfl ?_;unfold DT;symm;refine Ha ?_;symm;refine ⟨Bi,?_⟩;symm;unfold gsD;symm;rw [List.length_map];refine MW ⟨El g9,by show 1 * _<=_;lia⟩ ?_;rw [Int.toNat_natCast,KH];symm;have hK:((S++[Ob.dct []]).set S.length (.dct (lr (.lst []) (.lst []))))[S.length]?=some (.dct (dW [] [])):=AH Bi;refine (Qm hb hg g9 h.front (λ_=>[]) _ _ _ _ _ _ _ (by show 0 + 0 + n<=_;lia) (λ_ x hx=>nomatch hx) hK).mono λo t z9=>?_;obtain ⟨z1,ev,w',S',z2,z3,z4,z5,z6,z7⟩:=z9;subst z1 z7;refine B3 ?_;symm;refine Ea z6 ?_;symm;exact ⟨rfl,(Kp.refl.setk.trans z4).gr70,w',z2,z3,z5⟩
theorem LO {xs:List Nat}(e:t.env[i]?=some (some (.own (wD xs))))(h:F2.W f t λy t1=>y = .lst []/\t1=t/\P (.bl (!decide (xs=[]))) t):F2.W (Cg i (λb=>!b) f) t P:=by
 obtain ⟨y,t1,e1,rfl,rfl,p⟩:=h;have hp:(E3 (wD xs) && A7 (DC t1.S (.lst [])))=true:=by
  rw [Bool.and_eq_true];refine ⟨?_,rfl⟩;clear e e1 p
  induction xs with
  | nil=>rfl
  | cons x xs ih=>exact ih
 have he:eqN EQD (.lst (wD xs)) (DC t1.S (.lst []))=some (decide (xs=[])):=by cases xs <;> rfl
 refine ⟨_,_,?_,p⟩;simp only [Cg,e,bnd,e1];rw [if_pos hp,he];rfl
theorem JP (e:t.env[i]?=some (some (.own xs)))(h:P (.int xs.length) t):F2.W (Ch i) t P:=⟨_,_,by unfold Ch;rw [e],h⟩
theorem P9 (w:List Nat)(i x:Nat):(wD w).set i (.int (x:Int))=wD (w.set i x):=by
 unfold wD;rw [List.map_set]
theorem B256.set {w:List Nat}(h:B256 w){i x:Nat}(hx:x < 256):B256 (w.set i x):=λy hy=>by
 rcases List.mem_or_eq_of_mem_set hy with h1 | rfl
 ·exact h y h1
 ·exact hx
theorem ch1 (hd:DrawD cd){a0 a1 a2 a4 a6:Option Sl}{K r:Nat}{l:List Nat}{kind:Int}{S0 S:List Ob}(h:StK K (r + 2) S0 S)(hl:B256 l)(hll:l.length<=1500) :
 F2.W (ifS (CV (Ak (Ac (Ab 7) (fC (.int 1)) (eqS id))) (Ak (Cg 5 (λb=>!b) (Av (AI Ad)))))
 (A4 (Af cd (Aa (Ab 3) (Aa (fC (.int 256)) Ad))) (B4 5 (Af cd (Aa (Ab 3) (Aa (Ch 5) Ad)))))
 Aw) ⟨[a0,a1,a2,some (.val (.obj K)),a4,some (.own (wD l)),a6,some (.val (.int kind))],S⟩ λo t=>o = .next/\∃l' S',l'.length=l.length/\B256 l'/\StK K r S0 S'/\t=⟨[a0,a1,a2,some (.val (.obj K)),a4,some (.own (wD l')),a6,some (.val (.int kind))],S'⟩:=by
 symm
 by_cases k1:kind=1
 ·subst k1;symm;refine LO rfl ?_;symm;refine ⟨rfl,rfl,?_⟩
  by_cases z:l=[]
  ·subst z;symm;exact ⟨rfl,[],S,rfl,hl,h.mono (by lia),rfl⟩
  ·have hz:0 < l.length:=List.length_pos_iff.mpr z;rw [decide_eq_false z];symm;refine hd.use (r:=r + 1) 256 h λx S1 x0 x1 p1=>?_;obtain ⟨x,rfl⟩:=Int.eq_ofNat_of_zero_le x0;symm;refine IM rfl ?_;symm;refine JP rfl ?_;symm;rw [Bd];refine hd.use (r:=r) (l.length:Nat) p1 (λi S2 i0 i1 p2=>?_) rfl (by lia) (by lia);obtain ⟨i,rfl⟩:=Int.eq_ofNat_of_zero_le i0;refine ⟨_,_,i,rfl,rfl,BQ (by lia) (by rw [Bd];lia),?_⟩;refine ⟨rfl,l.set i x,S2,by rw [List.length_set],hl.set (by lia),p2,?_⟩;rw [<-P9];rfl
 ·refine B0 (beq_eq_false_iff_ne.mpr k1) ?_;symm;exact ⟨rfl,l,S,rfl,hl,h.mono (by lia),rfl⟩
theorem ch2 (hd:DrawD cd){a0 a1 a2 a4 a5:Option Sl}{K r:Nat}{l:List Nat}{kind:Int}{S0 S:List Ob}(h:StK K (r + 2) S0 S)(hl:B256 l)(hll:l.length<=1500) :
 F2.W (ifS (CV (Ak (Ac (Ab 7) (fC (.int 2)) (eqS id))) (Ak (Cg 6 (λb=>!b) (Av (AI Ad)))))
 (A4 (Af cd (Aa (Ab 3) (Aa (fC (.int 256)) Ad))) (B4 6 (Af cd (Aa (Ab 3) (Aa (Ch 6) Ad)))))
 Aw) ⟨[a0,a1,a2,some (.val (.obj K)),a4,a5,some (.own (wD l)),some (.val (.int kind))],S⟩ λo t=>o = .next/\∃l' S',l'.length=l.length/\B256 l'/\StK K r S0 S'/\t=⟨[a0,a1,a2,some (.val (.obj K)),a4,a5,some (.own (wD l')),some (.val (.int kind))],S'⟩:=by
 symm
 by_cases k1:kind=2
 ·subst k1;symm;refine LO rfl ?_;symm;refine ⟨rfl,rfl,?_⟩
  by_cases z:l=[]
  ·subst z;symm;exact ⟨rfl,[],S,rfl,hl,h.mono (by lia),rfl⟩
  ·have hz:0 < l.length:=List.length_pos_iff.mpr z;rw [decide_eq_false z];symm;refine hd.use (r:=r + 1) 256 h λx S1 x0 x1 p1=>?_;obtain ⟨x,rfl⟩:=Int.eq_ofNat_of_zero_le x0;symm;refine IM rfl ?_;symm;refine JP rfl ?_;symm;rw [Bd];refine hd.use (r:=r) (l.length:Nat) p1 (λi S2 i0 i1 p2=>?_) rfl (by lia) (by lia);obtain ⟨i,rfl⟩:=Int.eq_ofNat_of_zero_le i0;refine ⟨_,_,i,rfl,rfl,BQ (by lia) (by rw [Bd];lia),?_⟩;refine ⟨rfl,l.set i x,S2,by rw [List.length_set],hl.set (by lia),p2,?_⟩;rw [<-P9];rfl
 ·refine B0 (beq_eq_false_iff_ne.mpr k1) ?_;symm;exact ⟨rfl,l,S,rfl,hl,h.mono (by lia),rfl⟩
theorem JK {cd:Fn}(hd:DrawD cd){K r:Nat}{S0:List Ob}:∀(l:List D) (S:List Ob) (z:Option Sl),StK K (r + l.length) S0 S->F2.W (Bf (Al 0) Bc (Af cd (Aa (Ab 1) (Aa (fC (.int 256)) Ad))) l) ⟨[z,some (.val (.obj K))],S⟩ λq t'=>∃m:List Nat,q=wD m/\m.length=l.length/\B256 m/\StK K r S0 t'.S
 | [],S,z,h=>W_compL_nil.mpr ⟨[],rfl,rfl,(λ_ h=>nomatch h),h⟩
 | d :: l,S,z,h=>by
   rw [List.length_cons] at h;rw [A9];refine C8 (Ez ?_);rw [if_pos rfl];symm;refine hd.use (r:=r + l.length) 256 h λx S1 x0 x1 p1=>?_;obtain ⟨x,rfl⟩:=Int.eq_ofNat_of_zero_le x0;refine (JK hd l S1 _ p1).mono λq t' z9=>?_;obtain ⟨m,e1,e2,e3,e4⟩:=z9;subst e1;refine ⟨x :: m,rfl,by rw [List.length_cons,List.length_cons,e2],λy hy=>?_,e4⟩;rcases List.mem_cons.mp hy with rfl | hy
   ·lia
   ·exact e3 y hy
theorem ch3 (hd:DrawD cd){a0 a1 a2 a4 a6:Option Sl}{K r:Nat}{l:List Nat}{kind:Int}{S0 S:List Ob}(h:StK K (r + 9) S0 S)(hl:B256 l)(hll:l.length<=1500) :
 F2.W (ifS (Ak (Ac (Ab 7) (fC (.int 3)) (eqS id)))
 (B9 5 (bnd (Ab 5) λx=>bnd (Av (AM 1 [3] (Bm (Aa (Af cd (Aa (Ab 3) (Aa (fC (.int 9)) Ad))) Ad)) (Al 0) Bc (Af cd (Aa (Ab 1) (Aa (fC (.int 256)) Ad))))) λy=>Ho x y))
 Aw) ⟨[a0,a1,a2,some (.val (.obj K)),a4,some (.own (wD l)),a6,some (.val (.int kind))],S⟩ λo t=>o = .next/\∃l' S',l'.length<=l.length + 8/\B256 l'/\StK K r S0 S'/\t=⟨[a0,a1,a2,some (.val (.obj K)),a4,some (.own (wD l')),a6,some (.val (.int kind))],S'⟩:=by
 have hL:LIM=100000:=rfl;symm
 by_cases k1:kind=3
 ·subst k1;symm;refine hd.use (r:=r + 8) 9 h λx S1 x0 x1 p1=>?_;obtain ⟨x,rfl⟩:=Int.eq_ofNat_of_zero_le x0;symm;have hx:x<=8:=by lia
  refine DZ (El hx) ?_;refine (JK hd (r:=r) (S0:=S0) _ S1 none (p1.mono (by rw [D7,Int.toNat_natCast];lia))).mono λq t' z9=>?_;obtain ⟨m,e1,e2,e3,e4⟩:=z9;subst e1;rw [D7,Int.toNat_natCast] at e2;refine Bn (by rw [Bd];lia) ?_;symm;refine Bn (by rw [Bd,Bd];lia) ?_;symm;refine ⟨rfl,l++m,t'.S,by rw [List.length_append];lia,hl.app e3,e4,?_⟩;rw [show wD (l++m)=wD l++wD m by unfold wD;rw [List.map_append]];rfl
 ·refine B0 (beq_eq_false_iff_ne.mpr k1) ?_;symm;exact ⟨rfl,l,S,by lia,hl,h.mono (by lia),rfl⟩
def QT (Ds Fk Eo Ae:Fn):M Out:=
 (Ah (B9 5 (fBF (Aa (Ac (Ab 2) (fC (.str "left")) AO) Ad) Dx))
 (Ah (B9 6 (fBF (Aa (Ac (Ab 2) (fC (.str "right")) AO) Ad) Dx))
 (Ah (Ap 7 (Af Ae (Aa (Ab 3) (Aa (fC (.int 4)) Ad))))
 (Ah (ifS (CV (Ak (Ac (Ab 7) (fC (.int 1)) (eqS id))) (Ak (Cg 5 (λb=>!b) (Av (AI Ad)))))
   (A4 (Af Ae (Aa (Ab 3) (Aa (fC (.int 256)) Ad))) (B4 5 (Af Ae (Aa (Ab 3) (Aa (Ch 5) Ad)))))
   Aw)
 (Ah (ifS (CV (Ak (Ac (Ab 7) (fC (.int 2)) (eqS id))) (Ak (Cg 6 (λb=>!b) (Av (AI Ad)))))
   (A4 (Af Ae (Aa (Ab 3) (Aa (fC (.int 256)) Ad))) (B4 6 (Af Ae (Aa (Ab 3) (Aa (Ch 6) Ad)))))
   Aw)
 (Ah (ifS (Ak (Ac (Ab 7) (fC (.int 3)) (eqS id)))
   (B9 5 (bnd (Ab 5) λx=>bnd (Av (AM 1 [3] (Bm (Aa (Af Ae (Aa (Ab 3) (Aa (fC (.int 9)) Ad))) Ad)) (Al 0) Bc (Af Ae (Aa (Ab 1) (Aa (fC (.int 256)) Ad))))) λy=>Ho x y))
   Aw)
 (Ah (ifS (fOr (D1 (Ak (Af Fk (Aa (Ab 1) (Aa (Ab 5) (Aa (Ab 6) (Aa (Ab 3) Ad))))))) (D1 (Ak (Af Eo (Aa (Ab 1) (Aa (Ab 5) (Aa (Ab 6) (Aa (Ab 3) Ad))))))))
   (Au (fC (.bl false)))
   Aw)
 (ifS (D1 (Ak (Af Ds (Aa (Ab 1) (Aa (Ab 5) (Aa (Ab 6) Ad))))))
   (Au (fC (.bl false)))
   Aw))))))))
theorem Gr.stK {K r:Nat}{S0:List Ob}(h:StK K r S0 S)(g:Gr S S'):StK K r S0 S':=by
 obtain ⟨k,s,hK,b⟩:=h;exact ⟨k.trans g.kp,s,g.get hK,b⟩
theorem QV {cy:Fn}(hm:M4 cm)(hc:M2 cc)(hy:JU cy)(hd:DrawD cd){gs:List (List GS)}{w:Bool->List Nat}{K r W:Nat}{S:List Ob}{a0 a4 e5 e6 e7:Option Sl}(hg:∀g∈gs,GOk g)(g9:gs.length<=9)(hw:(w true).length + (w false).length<=1500)(hwb:∀s,B256 (w s))(hW:S[W]?=some (.dct (dW (w true) (w false))))(h:StK K (r + 32) S S) :
 F2.W (QT cm cc cy cd) ⟨[a0,some (.val (gsD gs)),some (.val (.obj W)),some (.val (.obj K)),a4,e5,e6,e7],S⟩ λo t=>o = .next/\∃f5 f6 f7 S',StK K r S S'/\t=⟨[a0,some (.val (gsD gs)),some (.val (.obj W)),some (.val (.obj K)),a4,f5,f6,f7],S'⟩:=by
 unfold QT;symm;refine Bg hW (lrF (λs=>.lst (wD (w s))) true) ?_;symm;refine Bg hW (lrF (λs=>.lst (wD (w s))) false) ?_;symm;refine hd.use (r:=r + 31) 4 h λkind S1 _ _ p1=>?_;refine B3 ?_;refine N9 ((ch1 hd (r:=r + 29) p1 (hwb true) (by lia)).mono λo t z9=>?_);obtain ⟨e1,l1,S2,c1,b1,p2,e2⟩:=z9;subst e1 e2;refine B3 ?_;refine N9 ((ch2 hd (r:=r + 27) p2 (hwb false) (by lia)).mono λo t z9=>?_);obtain ⟨e1,r1,S3,c2,b2,p3,e2⟩:=z9;subst e1 e2;refine B3 ?_;refine N9 ((ch3 hd (r:=r + 18) p3 b1 (by lia)).mono λo t z9=>?_);obtain ⟨e1,l2,S4,c3,b3,p4,e2⟩:=z9;subst e1 e2;refine B3 ?_;have hok:Ok3 gs (λs=>if s=true then l2 else r1):=by
  refine ⟨⟨hg,g9,λs=>?_⟩,?_,λs=>?_⟩
  ·cases s
   ·show r1.length<=_;lia
   ·show l2.length<=_;lia
  ·show l2.length + r1.length<=_;lia
  ·cases s
   ·exact b2
   ·exact b3
 obtain ⟨k4,s4,hK4,q4⟩:=p4;symm;refine (hc S4 gs _ K (r + 10) s4 hok hK4 q4).mono λq S5 z9=>?_;obtain ⟨e1,p5⟩:=z9;subst e1;obtain ⟨k5,s5,hK5,q5⟩:=p5;symm;refine (hy S5 gs _ K r s5 hok hK5 q5).mono λq S6 z9=>?_;obtain ⟨e1,p6⟩:=z9;subst e1;symm;refine (hm S6 gs _ hok).mono λq S7 z9=>?_;obtain ⟨G7,e1⟩:=z9;subst e1;symm;exact ⟨rfl,_,_,_,S7,(G7.stK ⟨(k4.trans k5).trans p6.1,p6.2⟩),rfl⟩
theorem Mq {cm cc cy cd:Fn}(hm:M4 cm)(hc:M2 cc)(hy:JU cy)(hd:DrawD cd){gs:List (List GS)}{w:Bool->List Nat}{K r W:Nat}{a0:Option Sl}(hne:W≠K)(hg:∀g∈gs,GOk g)(g9:gs.length<=9)(hw:(w true).length + (w false).length<=1500)(hwb:∀s,B256 (w s)):∀(l:List D) (S:List Ob) (e4 e5 e6 e7:Option Sl),S[W]?=some (.dct (dW (w true) (w false)))->StK K (r + 32 * l.length) S S->
 F2.W (BL (Al 4) (QT cm cc cy cd) l) ⟨[a0,some (.val (gsD gs)),some (.val (.obj W)),some (.val (.obj K)),e4,e5,e6,e7],S⟩ λo t=>o = .next/\∃f4 f5 f6 f7 S',t=⟨[a0,some (.val (gsD gs)),some (.val (.obj W)),some (.val (.obj K)),f4,f5,f6,f7],S'⟩
 | [],S,e4,e5,e6,e7,hW,h=>W_forL_nil.mpr ⟨rfl,_,_,_,_,S,rfl⟩
 | d :: l,S,e4,e5,e6,e7,hW,h=>by
   rw [List.length_cons] at h;rw [B6];refine C8 ?_;refine (QV (r:=r + 32 * l.length) hm hc hy hd hg g9 hw hwb hW (h.mono (by lia))).mono λo t z9=>?_;obtain ⟨e1,f5,f6,f7,S',p,e2⟩:=z9;subst e1 e2;exact Mq hm hc hy hd hne hg g9 hw hwb l S' _ _ _ _ (p.1.get hW hne) ⟨.refl,p.2⟩
theorem V0 (hg:∀g∈gs,GOk g):eqN EQD (gsD gs) (gsD gs)=some true:=by
 unfold gsD;refine Lp (n:=10) (λx hx=>?_) 40 (by decide);obtain ⟨g,hg1,rfl⟩:=List.mem_map.mp hx;refine Lp (n:=9) λx hx=>?_;obtain ⟨s,hs,rfl⟩:=List.mem_map.mp hx;exact λm hm=>Vw ((hg g hg1).all s hs) hm
theorem X2 {cg cy csd cbo:Fn}(hgr:Qb cg)(hm:M4 cm)(hc:M2 cc)(hy:JU cy)(hd:DrawD cd)(ht:DN ct)(hs:Se csd)(hb:Sd cbo){ns:List Int}(hn:ns.length<=63):Wf (fnOf 1 8 (Gs cg cm cc cy cd ct csd cbo)) [.scr ns] [] λq _=>q = .bl true:=by
 obtain ⟨gs,g1,g9,hg,hgd⟩:=hgr ns hn;obtain ⟨s,b,hst⟩:=ht ns 1 hn (by lia);refine Ax rfl ?_;unfold Gs;symm;refine (hgd _).mono λq S1 z9=>?_;obtain ⟨e1,G1⟩:=z9;subst e1;symm;refine (hs ns gs S1 hn hg g1 g9).mono λq S2 z9=>?_;obtain ⟨G2,hh,ds,n,e1,hsd,h15⟩:=z9;subst e1;symm;refine (hb gs hh ds n S2 hg g9 hsd h15).mono λq S3 z9=>?_;obtain ⟨e1,G3,w,hw,hwb,hW⟩:=z9;subst e1;symm;refine (hst S3).mono λq S4 z9=>?_;obtain ⟨e1,e2⟩:=z9;subst e1 e2;symm;have hne:S2.length≠S3.length:=by have:=Cj hW;lia
 refine (Mq hm hc hy hd (r:=0) hne hg g9 hw hwb (AJ 0 4) _ _ _ _ _ (Gr.app.get hW) ⟨.refl,s,Bi,b.mono (by rw [D7];show 0 + 32 * 4<=_;lia)⟩).mono λo t z9=>?_;obtain ⟨e1,f4,f5,f6,f7,S5,e2⟩:=z9;subst e1 e2;symm;refine (hgd _).mono λq S6 z9=>?_;obtain ⟨e1,_⟩:=z9;subst e1;symm;refine ⟨_,_,by unfold eqS;rw [V0 hg];rfl,?_⟩;symm;rfl
end LW
set_option maxHeartbeats 4000000
namespace F2
open PySem L2 PySem.Spec PySem.W
theorem Rc {k:Kd}{P:Program}{w:World}{K:PySem.W.Frag}{mg:Str->Option Value}{base:Heap}{n:Nat}{fa:Addr}{fd:FuncData}{ps:List Str}:okK k P w K mg base n fa fd ps (λ_ _=>none):=by
 cases k <;> exact ⟨λvs H Q E h=>(by obtain ⟨c,ds,S,_,_,r,S',e,_⟩:=h;cases e),λA' outer s H args us vs Q E _ _ _ _ h=>(by obtain ⟨c,ds,S,_,_,r,S',e,_⟩:=h;cases e)⟩
theorem us0 {n:Nat}:∀{us:List Value},us.length=n + 1->∃a vs,us=a :: vs/\vs.length=n
 | _ :: _,h=>⟨_,_,rfl,Nat.succ.inj h⟩
variable {us:List Value}
theorem us1 (h:us.length=1):∃a,us=[a]:=by
 obtain ⟨a,vs,rfl,q⟩:=us0 h;exact ⟨a,by rw [List.eq_nil_of_length_eq_zero q]⟩
theorem us2 (h:us.length=2):∃a b,us=[a,b]:=by
 obtain ⟨_,vs,rfl,q⟩:=us0 h;obtain ⟨_,rfl⟩:=us1 q;exact ⟨_,_,rfl⟩
theorem us3 (h:us.length=3):∃a b c,us=[a,b,c]:=by
 obtain ⟨_,vs,rfl,q⟩:=us0 h;obtain ⟨_,_,rfl⟩:=us2 q;exact ⟨_,_,_,rfl⟩
theorem us4 (h:us.length=4):∃a b c d,us=[a,b,c,d]:=by
 obtain ⟨_,vs,rfl,q⟩:=us0 h;obtain ⟨_,_,_,rfl⟩:=us3 q;exact ⟨_,_,_,_,rfl⟩
theorem us5 (h:us.length=5):∃a b c d e,us=[a,b,c,d,e]:=by
 obtain ⟨_,vs,rfl,q⟩:=us0 h;obtain ⟨_,_,_,_,rfl⟩:=us4 q;exact ⟨_,_,_,_,_,rfl⟩
theorem us6 (h:us.length=6):∃a b c d e f,us=[a,b,c,d,e,f]:=by
 obtain ⟨_,vs,rfl,q⟩:=us0 h;obtain ⟨_,_,_,_,_,rfl⟩:=us5 q;exact ⟨_,_,_,_,_,_,rfl⟩
theorem us7 (h:us.length=7):∃a b c d e f g,us=[a,b,c,d,e,f,g]:=by
 obtain ⟨_,vs,rfl,q⟩:=us0 h;obtain ⟨_,_,_,_,_,_,rfl⟩:=us6 q;exact ⟨_,_,_,_,_,_,_,rfl⟩
end F2
namespace K70
open PySem L2 F2 LW
inductive Fx where
 | CZ | DI | BH | C1 | Bb | B7 | Bo | BV | Cz | C6 | Cw | Cy | BU | Bt | Bu | Ba | AQ | BA | BC | Cp | Bp | Bs | Bk | Cq | Co | BB | Bz | BF | By | BS | CY | B8 | law_ | Az | Aq | Am | As
noncomputable def top (i:Nat):Stmt:=PySem.Challenge.pw_wireparley_k70_whole_any_pieces_beside.main.body.getD i (.Pass ⟨0,0,0,0⟩)
noncomputable abbrev nm:Fx->Str
 | .CZ=>"is_sign"
 | .DI=>"is_end"
 | .BH=>"width_up_to"
 | .C1=>"leading"
 | .Bb=>"read_value"
 | .B7=>"byte_at"
 | .Bo=>"byte_up_to"
 | .BV=>"read_number"
 | .Cz=>"read_text"
 | .C6=>"sign_at"
 | .Cw=>"read_list"
 | .Cy=>"read_pair"
 | .BU=>"read_choice"
 | .Bt=>"read_message"
 | .Bu=>"talks_beside"
 | .Ba=>"_law_state"
 | .AQ=>"_law_draw"
 | .BA=>"_law_shape"
 | .BC=>"_law_value"
 | .Cp=>"_law_many"
 | .Bp=>"_law_bytes"
 | .Bs=>"_law_grammar"
 | .Bk=>"_law_grammars"
 | .Cq=>"_law_said"
 | .Co=>"_law_both"
 | .BB=>"_law_told"
 | .Bz=>"_law_other"
 | .BF=>"_law_turned"
 | .By=>"_law_mirrored"
 | .BS=>"_law_begins"
 | .CY=>"_law_cut"
 | .B8=>"_law_stays"
 | .law_=>"law"
 | .Az=>"__init__"
 | .Aq=>"read_wire"
 | .Am=>"next_if_whole"
 | .As=>"next_of"
abbrev ql:Fx->Str
 | .Az=>"Listener.__init__"
 | .Aq=>"Listener.read_wire"
 | .Am=>"Listener.next_if_whole"
 | .As=>"Listener.next_of"
 | x=>nm x
noncomputable abbrev me:Fx->Bool
 | .Az=>true
 | .Aq=>true
 | .Am=>true
 | .As=>true
 | _=>false
noncomputable abbrev ow:Fx->Str
 | .Az=>"Listener"
 | .Aq=>"Listener"
 | .Am=>"Listener"
 | .As=>"Listener"
 | _=>""
abbrev st:Fx->Stmt
 | .CZ=>top 8
 | .DI=>top 10
 | .BH=>top 13
 | .C1=>top 14
 | .Bb=>top 15
 | .B7=>top 16
 | .Bo=>top 17
 | .BV=>top 18
 | .Cz=>top 19
 | .C6=>top 20
 | .Cw=>top 21
 | .Cy=>top 22
 | .BU=>top 23
 | .Bt=>top 25
 | .Bu=>top 27
 | .Ba=>top 30
 | .AQ=>top 31
 | .BA=>top 32
 | .BC=>top 33
 | .Cp=>top 34
 | .Bp=>top 35
 | .Bs=>top 36
 | .Bk=>top 37
 | .Cq=>top 38
 | .Co=>top 39
 | .BB=>top 40
 | .Bz=>top 41
 | .BF=>top 42
 | .By=>top 43
 | .BS=>top 44
 | .CY=>top 45
 | .B8=>top 46
 | .law_=>top 47
 | .Az=>CD (top 28) 0
 | .Aq=>CD (top 28) 1
 | .Am=>CD (top 28) 2
 | .As=>CD (top 28) 3
noncomputable abbrev ps:Fx->List Str
 | .CZ=>["number"]
 | .DI=>["state"]
 | .BH=>["most"]
 | .C1=>["number", "cut"]
 | .Bb=>["s", "wire", "at"]
 | .B7=>["wire", "at"]
 | .Bo=>["most", "wire", "at"]
 | .BV=>["s", "wire", "at"]
 | .Cz=>["s", "wire", "at"]
 | .C6=>["wire", "at"]
 | .Cw=>["s", "wire", "at"]
 | .Cy=>["s", "wire", "at"]
 | .BU=>["s", "wire", "at"]
 | .Bt=>["state", "wire", "at"]
 | .Bu=>["grammars", "left", "right"]
 | .Ba=>["script", "k"]
 | .AQ=>["state", "many"]
 | .BA=>["state", "deep"]
 | .BC=>["state", "s"]
 | .Cp=>["span"]
 | .Bp=>["s", "value"]
 | .Bs=>["script", "start", "many"]
 | .Bk=>["script"]
 | .Cq=>["script", "grammars", "start"]
 | .Co=>["grammars", "said"]
 | .BB=>["grammars", "left", "right"]
 | .Bz=>["side"]
 | .BF=>["grammars"]
 | .By=>["grammars", "left", "right"]
 | .BS=>["talks", "whole"]
 | .CY=>["grammars", "left", "right", "state"]
 | .B8=>["grammars", "left", "right", "state"]
 | .law_=>["script"]
 | .Az=>["self", "grammars", "left", "right"]
 | .Aq=>["self", "side"]
 | .Am=>["self", "side"]
 | .As=>["self", "side"]
noncomputable abbrev ns:Fx->List Str
 | .CZ=>["number"]
 | .DI=>["state"]
 | .BH=>["most"]
 | .C1=>["number", "cut"]
 | .Bb=>["s", "wire", "at", "kind"]
 | .B7=>["wire", "at"]
 | .Bo=>["most", "wire", "at", "byte"]
 | .BV=>["s", "wire", "at", "most", "width", "number", "k"]
 | .Cz=>["s", "wire", "at", "length", "place", "text", "k"]
 | .C6=>["wire", "at", "number"]
 | .Cw=>["s", "wire", "at", "length", "place", "things", "k", "part"]
 | .Cy=>["s", "wire", "at", "first", "second"]
 | .BU=>["s", "wire", "at", "k", "part"]
 | .Bt=>["state", "wire", "at", "word", "read", "e"]
 | .Bu=>["grammars", "left", "right", "listener"]
 | .Ba=>["script", "k", "rest"]
 | .AQ=>["state", "many", "found", "x"]
 | .BA=>["state", "deep", "kind", "low", "inner"]
 | .BC=>["state", "s", "kind", "many", "signs", "k"]
 | .Cp=>["span", "many"]
 | .Bp=>["s", "value", "kind", "rest", "found", "k", "one"]
 | .Bs=>["script", "start", "many", "names", "g", "h", "state", "side", "off", "words", "k", "then"]
 | .Bk=>["script", "state", "many", "room"]
 | .Cq=>["script", "grammars", "start", "here", "said", "room", "k", "state", "number", "side", "words", "name", "shape", "then", "value"]
 | .Co=>["grammars", "said", "wires", "here", "number", "side", "name", "value", "words", "place"]
 | .BB=>["grammars", "left", "right", "told", "fault", "e"]
 | .Bz=>["side"]
 | .BF=>["grammars", "found", "g"]
 | .By=>["grammars", "left", "right", "told", "fault", "other", "wrong", "talks"]
 | .BS=>["talks", "whole"]
 | .CY=>["grammars", "left", "right", "state", "told", "fault", "k", "one", "other", "less", "wrong"]
 | .B8=>["grammars", "left", "right", "state", "told", "fault", "side", "at", "wires", "more"]
 | .law_=>["script", "grammars", "wires", "state", "k", "left", "right", "kind"]
 | .Az=>["self", "grammars", "left", "right"]
 | .Aq=>["self", "side", "start", "read", "k"]
 | .Am=>["self", "side"]
 | .As=>["self", "side", "wire", "at", "state"]
def body (Φ:Fx->Fn):Fx->Fn
 | .CZ=>fnOf 1 1 (Gq)
 | .DI=>fnOf 1 1 (Hv)
 | .BH=>fnOf 1 1 (Ev)
 | .C1=>fnOf 2 2 (Gu)
 | .Bb=>fnOf 3 4 (CN (Φ .BU) (Φ .Cy) (Φ .Cw) (Φ .Cz) (Φ .BV))
 | .B7=>fnOf 2 2 (EW)
 | .Bo=>fnOf 3 4 (DS (Φ .B7))
 | .BV=>fnOf 3 7 (Cu (Φ .C1) (Φ .B7) (Φ .BH))
 | .Cz=>fnOf 3 7 (De (Φ .C6) (Φ .Bo))
 | .C6=>fnOf 2 3 (EY (Φ .CZ) (Φ .B7))
 | .Cw=>fnOf 3 8 (Dc (Φ .Bb) (Φ .Bo))
 | .Cy=>fnOf 3 5 (Dd (Φ .Bb))
 | .BU=>fnOf 3 5 (Ct (Φ .Bb) (Φ .Bo))
 | .Bt=>fnOf 3 6 (D4 (Φ .Bb))
 | .Bu=>fnOf 3 4 (D5 (Φ .As) (Φ .Aq) (Φ .Az))
 | .Ba=>fnOf 2 3 (Cs)
 | .AQ=>fnOf 2 4 (CL)
 | .BA=>fnOf 2 5 (A3 (Φ .AQ) (Φ .BA))
 | .BC=>fnOf 2 6 (DB (Φ .BC) (Φ .AQ))
 | .Cp=>fnOf 1 2 (EX)
 | .Bp=>fnOf 2 7 (Dy (Φ .Bp) (Φ .Cp))
 | .Bs=>fnOf 3 12 (C4 (Φ .AQ) (Φ .BA) (Φ .Ba))
 | .Bk=>fnOf 1 4 (Dz (Φ .AQ) (Φ .Bs) (Φ .Ba))
 | .Cq=>fnOf 3 15 (DU (Φ .Bp) (Φ .BC) (Φ .AQ) (Φ .Ba))
 | .Co=>fnOf 2 10 (DT (Φ .Bp))
 | .BB=>fnOf 3 6 (DV (Φ .Bu))
 | .Bz=>fnOf 1 1 (Et)
 | .BF=>fnOf 1 3 (D3 (Φ .Bz))
 | .By=>fnOf 3 8 (DA (Φ .Bz) (Φ .BF) (Φ .BB))
 | .BS=>fnOf 2 2 (D2)
 | .CY=>fnOf 4 11 (Fm (Φ .BS) (Φ .BB) (Φ .AQ))
 | .B8=>fnOf 4 10 (Eu (Φ .BB) (Φ .AQ))
 | .law_=>fnOf 1 8 (Gs (Φ .Bk) (Φ .By) (Φ .CY) (Φ .B8) (Φ .AQ) (Φ .Ba) (Φ .Cq) (Φ .Co))
 | .Az=>fnOf 4 4 (Di)
 | .Aq=>fnOf 2 5 (Cr (Φ .Am))
 | .Am=>fnOf 2 2 (BT (Φ .As))
 | .As=>fnOf 2 5 (C3 (Φ .Bt) (Φ .DI))
def run:Nat->Fx->Fn
 | 0=>λ_ _ _=>none
 | n + 1=>body (run n)
structure Md (K:PySem.W.Frag)(mg:Str->Option Value)(A:Fx->Addr)(fd:Fx->FuncData):Prop where
 fn:∀x,Fun K (nm x) (ql x) (st x) (A x) (fd x)
 mgs:∀x,me x=false->mg (nm x)=some (.ref (A x))
 bd:∀x,Binds K (fd x) (ps x) []
 cm:CM K
 HX:∃C,PySem.W.nsIn K mainGlobals "Listener" = some (some (.ref C))/\mg "Listener" = some (.ref C)/\Mk K C (A .Az)/\Meth K C "read_wire" (A .Aq)/\Meth K C "next_if_whole" (A .Am)/\Meth K C "next_of" (A .As)
 bN:mg "int" = none
 bI:mg "len" = none
 bE:mg "list" = none
 bM:mg "min" = none
 bO:mg "ord" = none
 bB:mg "range" = none
 bC:mg "tuple" = none
 aY:∃tk,mg "FIRST_SIGN" = some (.int 32 tk)
 aZ:∃tk,mg "LAST_SIGN" = some (.int 126 tk)
 aX:∃tk,mg "PERCENT_SIGN" = some (.int 37 tk)
 b8:∃tk,mg "SIGNS" = some (.str " !\"#$ &'()*+,-./0123456789:;<=>?@ABCDEFGHIJKLMNOPQRSTUVWXYZ[\\]^_`abcdefghijklmnopqrstuvwxyz{|}~" tk)
 xm:∃(P:Addr) (ca:Str->Addr),XM K mg P ca/\XF2 K (ca "Broken") P "Broken.__init__" (CD (top 3) 0)/\∀n∈(["Short"]:List Str),XN0 K (ca n)
noncomputable abbrev kd:Fx->Kd
 | .CZ=>.pl
 | .DI=>.pl
 | .BH=>.pl
 | .C1=>.pl
 | .Bb=>.ex
 | .B7=>.ex
 | .Bo=>.ex
 | .BV=>.ex
 | .Cz=>.ex
 | .C6=>.ex
 | .Cw=>.ex
 | .Cy=>.ex
 | .BU=>.ex
 | .Bt=>.er
 | .Bu=>.er
 | .Ba=>.pl
 | .AQ=>.pl
 | .BA=>.pl
 | .BC=>.pl
 | .Cp=>.pl
 | .Bp=>.pl
 | .Bs=>.pl
 | .Bk=>.pl
 | .Cq=>.pl
 | .Co=>.pl
 | .BB=>.pl
 | .Bz=>.pl
 | .BF=>.pl
 | .By=>.pl
 | .BS=>.pl
 | .CY=>.pl
 | .B8=>.pl
 | .law_=>.pl
 | .Az=>.pl
 | .Aq=>.pl
 | .Am=>.pl
 | .As=>.er
theorem SE:FnScope ["self", "at", "side"] ["self", "at", "side"] (Ao (CD (top 3) 0)):=⟨rfl,rfl,rfl,by decide +kernel,rfl,by decide +kernel,by decide +kernel⟩
section
variable {P:Program}{w:World}{K:PySem.W.Frag}{mg:Str->Option Value}{base:Heap}{A:Fx->Addr}{fd:Fx->FuncData}{n:Nat}
theorem K9 {a:Kd}(k:Kd){P:Program}{w:World}{K:PySem.W.Frag}{mg:Str->Option Value}{base:Heap}{n:Nat}{fa:Addr}{fd:FuncData}{ps:List Str}{f:Fn}(h:okK a P w K mg base n fa fd ps f)(e:a=k):okK k P w K mg base n fa fd ps f:=e ▸ h
section
variable {X:Cx}{A:Fx->Addr}{fd:Fx->FuncData}{n k:Nat}{x:Fx}{s:Str}{e:Expr}{es:List Expr}{f:M (List D)}{p pos:Pos}{E:L2.St->XK}
theorem cP (M:Md X.K X.mg A fd)(ih:∀x,okK (kd x) X.prog X.w X.K X.mg X.base k (A x) (fd x) (ps x) (run n x))(hr:Room k X.A)(ha:PA X (e :: es) (RA X.K f))(hk:kd x = .pl)(hm:me x=false)(hs:nm x=s)(hg:Gl X s)(h1:A1 e=false)(h2:AU es=true)(hd:(s == ("__debug__" : Str))=false):PE X (.Call (.Name s p) (e :: es) [] pos) (RE X.K (Af (run n x) f)):=by subst hs;exact Qy (K9 .pl (ih x) hk) hr hg (M.mgs x hm) (Fun.kp (M.fn x)) (M.bd x) ha hd h1 h2
theorem xer (M:Md X.K X.mg A fd)(ih:∀x,okK (kd x) X.prog X.w X.K X.mg X.base k (A x) (fd x) (ps x) (run n x))(hr:Room k X.A)(hp:Cc (CX1 false X.prog X.w) X E)(ha:PA X (e :: es) (RA X.K f))(hk:kd x = .er)(hm:me x=false)(hs:nm x=s)(hg:Gl X s)(h1:A1 e=false)(h2:AU es=true)(hd:(s == ("__debug__" : Str))=false):PE X (.Call (.Name s p) (e :: es) [] pos) (RX X.K E (Af (run n x) f)):=by subst hs;exact Mm (K9 .er (ih x) hk) hr hg (M.mgs x hm) (Fun.kp (M.fn x)) (M.bd x) hp ha hd h1 h2
theorem xex (M:Md X.K X.mg A fd)(ih:∀x,okK (kd x) X.prog X.w X.K X.mg X.base k (A x) (fd x) (ps x) (run n x))(hr:Room k X.A)(hp:Cc (CX1 true X.prog X.w) X E)(ha:PA X (e :: es) (RA X.K f))(hk:kd x = .ex)(hm:me x=false)(hs:nm x=s)(hg:Gl X s)(h1:A1 e=false)(h2:AU es=true)(hd:(s == ("__debug__" : Str))=false):PE X (.Call (.Name s p) (e :: es) [] pos) (RX X.K E (Af (run n x) f)):=by subst hs;exact Mm (K9 .ex (ih x) hk) hr hg (M.mgs x hm) (Fun.kp (M.fn x)) (M.bd x) hp ha hd h1 h2
end
seal PH PE PA PSs PS PG PT PGs PI PIf PPf PW PO
theorem sc (x:Fx):FnScope (ns x) (ps x) (Ao (st x)):=by
 cases x <;> exact ⟨rfl,rfl,rfl,by decide +kernel,rfl,by decide +kernel,by decide +kernel⟩
local macro_rules | `(tactic| clear 30 $t)=>`(tactic| with_reducible refine (?_ : $t))
seal FF
theorem step (M:Md K mg A fd)(ih0:∀x,okK (kd x) P w K mg base (2 * n + 2) (A x) (fd x) (ps x) (run n x))(y:Fx):okK (kd y) P w K mg base (2 * n + 2 + 1 + 1) (A y) (fd y) (ps y) (run (n + 1) y):=by
 have ih:=λx=>Wo (ih0 x);obtain ⟨_,aY⟩:=M.aY;obtain ⟨_,aZ⟩:=M.aZ;obtain ⟨_,aX⟩:=M.aX;obtain ⟨P',ca,x,xt,x0⟩:=M.xm;have xb:XN2 P w K mg base (ca "Broken") P':=QS rfl SE rfl rfl rfl xt;obtain ⟨_,b8⟩:=M.b8;have xh:Qh P w K mg base (ca "Broken") P':=OW rfl SE rfl rfl rfl xt;obtain ⟨Listener_,a9,c7,bZ,bY,bS,c8⟩:=M.HX;have c6:MAt K "Listener" "next_of" Listener_ (A .As):=⟨by decide,a9,c8,by decide⟩;have bU:MAt K "Listener" "read_wire" Listener_ (A .Aq):=⟨by decide,a9,bY,by decide⟩;have bR:MAt K "Listener" "next_if_whole" Listener_ (A .Am):=⟨by decide,a9,bS,by decide⟩;have sy:=sc y;have nd:=sy.nd;have mf:=M.fn y
 cases y <;> first | (clear 30 (okK .pl ..);refine W4 (g:=fnOf _ _ _) rfl (VQ rfl rfl mf sy (λcdv A' outer s H E hr=>?_))) | (clear 30 (okK .ex ..);refine MJ (g:=fnOf _ _ _) rfl (Me rfl rfl mf sy (λcdv A' outer s H E hr hp hq ho=>?_))) | (clear 30 (okK .er ..);refine MJ (g:=fnOf _ _ _) rfl (Th rfl rfl mf sy (λcdv A' outer s H E hr hp hq ho ht=>?_)))
 all_goals repeat' first
  | (clear 30 (PH ..);first
    | (clear 30 (PH _ _ (.ExceptHandler (some (.Name _ _)) (some _) [.Raise (some (.Call (.Name _ _) [_,_] [] _)) (some _) _] _ :: _) (RH _ _ (μX _ _) (hAs _ _ (Cm _ _) _)));refine XT x xh rfl rfl (hr.mono (by omega)) rfl (x.ms "Broken" (by decide)) (x.cl "Broken" (by decide)) (λ_ hn=>x.subE hn (by decide)) nd rfl rfl ht rfl (λy=>?_) Tx ?_)
    | exact VN
    | (clear 30 (PH _ _ (.ExceptHandler (some (.Name _ _)) none (_ :: _) _ :: _) (RH _ _ _ (hNo _ _ _)));refine Sm x rfl (x.ms "Short" (by decide)) (x.cl "Short" (by decide)) (λ_ hn=>x.subE hn (by decide)) (λy=>?_) ?_)
    | (clear 30 (PH _ _ (.ExceptHandler (some (.Name _ _)) (some _) (_ :: _) _ :: _) (RH _ _ _ (hAs _ _ _ _)));refine XS x rfl (x.ms "Broken" (by decide)) (x.cl "Broken" (by decide)) (λ_ hn=>x.subE hn (by decide)) nd rfl rfl (λy=>?_) ?_)
    | (clear 30 (PH _ _ (.ExceptHandler (some (.Name _ _)) none (_ :: _) _ :: _) (RH _ _ _ (hNo _ _ _)));refine Sm x rfl (x.ms "Broken" (by decide)) (x.cl "Broken" (by decide)) (λ_ hn=>x.subE hn (by decide)) (λy=>?_) ?_))
  | (clear 30 (PE ..);first
    | (clear 30 (PE _ (.Name ..) ..);first
      | (clear 30 (PE _ _ (RE _ (Ab _)));exact (VI _))
      | (clear 30 (PE _ (.Name _ _) (RE _ (fC (.int _))));exact (Jd rfl aY))
      | (clear 30 (PE _ (.Name _ _) (RE _ (fC (.int _))));exact (Jd rfl aZ))
      | (clear 30 (PE _ (.Name _ _) (RE _ (fC (.int _))));exact (Jd rfl aX))
      | (clear 30 (PE _ _ (RE _ (fC (.str _))));exact (QA rfl b8)))
    | (clear 30 (PE _ (.Constant ..) ..);first
      | (clear 30 (PE _ _ (RE _ (fC (.int _))));exact VA)
      | (clear 30 (PE _ _ (RE _ (fC (.str _))));exact VG)
      | (clear 30 (PE _ _ (RE _ (fC .non)));exact VB)
      | (clear 30 (PE _ _ (RE _ (fC (.bl _))));exact XL))
    | (clear 30 (PE _ (.Subscript ..) ..);first
      | (clear 30 (PE _ _ (RE _ (Ac _ _ ixD)));refine Sj V6 W7 ?_ ?_ (λ_ _=>rfl))
      | (clear 30 (PE _ _ (RE _ (Ac _ _ AO)));refine Sj V4 PR ?_ ?_ (λ_ _=>rfl))
      | (clear 30 (PE _ _ (RE _ (fSl _ _ _ Dk)));refine KF sl3 MP ?_ ?_ ?_)
      | (clear 30 (PE _ _ (RE _ (CW _ _)));refine QD 3 ?_ (λ_ _=>rfl))
      | (clear 30 (PE _ _ (RE _ (No _ _)));refine VF ?_ ?_)
      | (clear 30 (PE _ _ (RE _ (fSl _ _ _ HE)));refine KF sl3 RQ ?_ ?_ ?_))
    | (clear 30 (PE _ (.Call ..) ..);first
      | (clear 30 (PE _ _ (RE _ (Af (run _ _) _)));refine @cP _ _ _ _ _ _ _ _ _ _ _ _ M ih hr ?_ (by rfl) (by rfl) (by rfl) (by rfl) (by rfl) (by rfl) (by decide))
      | (clear 30 (PE _ _ (RE _ (fB _ AF)));refine Nq Qo UD rfl M.bI Os ?_)
      | (clear 30 (PE _ (.Call (.Name _ _) _ _ _) (RX _ _ (Af (run _ _) _)));refine @xex _ _ _ _ _ _ _ _ _ _ _ _ _ M ih hr hp ?_ (by rfl) (by rfl) (by rfl) (by rfl) (by rfl) (by rfl) (by decide))
      | (clear 30 (PE _ _ (RE _ (fB _ Ew)));refine Nq (Ov rfl) UG rfl M.bM Vo ?_)
      | (clear 30 (PE _ _ (RF _ (fBF _ Dx)));refine XQ Kw UE rfl M.bE SO ?_)
      | (clear 30 (PE _ _ (RE _ (fB _ FT)));refine Si Ou UC rfl M.bN Vn ?_)
      | (clear 30 (PE _ _ (RX _ _ (Da _ (run _ .As) _ _)));refine To M.cm c6 (ih .As) hr (M.bd .As) hp ?_ ?_)
      | (clear 30 (PE _ _ (RE _ (Da _ (run _ .Aq) _ _)));refine Mc M.cm bU (ih .Aq) hr (M.bd .Aq) ?_ ?_)
      | (clear 30 (PE _ (.Call (.Name _ _) _ _ _) (RX _ _ (Af (run _ _) _)));refine @xer _ _ _ _ _ _ _ _ _ _ _ _ _ M ih hr hp ?_ (by rfl) (by rfl) (by rfl) (by rfl) (by rfl) (by rfl) (by decide))
      | (clear 30 (PE _ _ (RE _ (Ch _)));exact (OI _ rfl M.bI Os))
      | (clear 30 (PE _ _ (RE _ (Da _ (run _ .Am) _ _)));refine Mc M.cm bR (ih .Am) hr (M.bd .Am) ?_ ?_)
      | (clear 30 (PE _ _ (RE _ (fUn _ HV)));refine OH ?_)
      | (clear 30 (PE _ _ (RE _ (JZ _ _ _)));refine Ta (by decide) a9 bZ (ih0 .Az) hr rfl c7 (M.bd .Az) ?_)
      | (clear 30 (PE _ _ (RE _ (fB _ Jr)));refine Si JQ UO rfl M.bC Qn ?_)
      | (clear 30 (PE _ _ (RE _ (joinM _ _)));refine S9 ?_ ?_)
      | (clear 30 (PE _ _ (RE _ (fB _ Jh)));refine Nq Qp UK rfl M.bO Vp ?_)
      | (clear 30 (PE _ _ (RE _ (idxM _ _)));refine QC ?_ ?_)
      | (clear 30 (PE _ _ (RE _ (objM BR _ _)));refine OF ?_ ?_))
    | (clear 30 (PE _ (.BinOp ..) ..);first
      | (clear 30 (PE _ _ (RE _ (Ac _ _ AB)));refine EC My Lv ?_ ?_)
      | (clear 30 (PE _ _ (RE _ (Ac _ _ BK)));refine EC Wx UN ?_ ?_)
      | (clear 30 (PE _ _ (RE _ (Ac _ _ DW)));refine EC Ws UH ?_ ?_)
      | (clear 30 (PE _ _ (RE _ (Ac _ _ Ex)));refine EC T9 RL ?_ ?_)
      | (clear 30 (PE _ _ (RE _ (Ac _ _ EB)));refine EC T8 RK ?_ ?_)
      | (clear 30 (PE _ _ (RE _ (Ac _ _ GA)));refine EC Wu UL ?_ ?_)
      | (clear 30 (PE _ _ (RE _ (Ac _ _ Hx)));refine EC Ub RM ?_ ?_)
      | (clear 30 (PE _ _ (RX _ _ (GO _ _ AB)));refine XY My Lv ?_ ?_)
      | (clear 30 (PE _ _ (RE _ (Ac _ _ GP)));refine EC Re PU ?_ ?_)
      | (clear 30 (PE _ (.BinOp _ .Mult _ _) (RF _ _));refine Sk Wv RN ?_ ?_)
      | (clear 30 (PE _ _ (RE _ (Ac _ _ LA)));refine EC Ww UM ?_ ?_)
      | (clear 30 (PE _ (.BinOp _ .Add _ _) (RF _ _));refine Sk Pn RJ ?_ ?_))
    | (clear 30 (PE _ (.List ..) ..);first
      | refine @VL _ _ _ _ ?_)
    | (clear 30 (PE _ (.Tuple ..) ..);first
      | refine @VH _ _ _ _ _ ?_)
    | (clear 30 (PE _ (.Attribute ..) ..);first
      | (clear 30 (PE _ _ (RE _ (CJ _ _)));refine Vz M.cm (by decide) ?_ rfl)
      | (clear 30 (PE _ (.Attribute _ _ _) (RE _ (bnd _ (FI _))));refine OG x x.na ?_ rfl)
      | (clear 30 (PE _ (.Attribute _ _ _) (RE _ (bnd _ (FI _))));refine OG x x.nd ?_ rfl))
    | (clear 30 (PE _ (.Compare ..) ..);first
      | (clear 30 (PE _ (.Compare _ [.Eq] [_] _) (RE _ (Ac _ _ (eqS _))));refine Fw (La hr.units) (GZ (g:=id)) ?_ ?_ (BG _))
      | (clear 30 (PE _ _ (RE _ (Ac _ _ geA)));refine Fw Po MN ?_ ?_ (BG _))
      | (clear 30 (PE _ _ (RE _ (Ac _ _ gtA)));refine Fw Pp MO ?_ ?_ (BG _))
      | (clear 30 (PE _ _ (RE _ (Ac _ _ isC)));refine Fw Pq PV ?_ ?_ (BG _))
      | (clear 30 (PE _ _ (RE _ (ET _ _ _ _ _)));refine Qz Lb Lb Jo Jo ?_ ?_ ?_)
      | (clear 30 (PE _ (.Compare _ [.NotEq] [_] _) (RE _ (Ac _ _ (eqS _))));refine Fw (Gx hr.units) (GZ (g:=λb=>!b)) ?_ ?_ (BG _))
      | (clear 30 (PE _ _ (RE _ (Ac _ _ (eqO _))));refine Fw (La hr.units) (MM (g:=id)) ?_ ?_ (BG _)))
    | (clear 30 (PE _ (.Dict ..) ..);first
      | refine SZ ?_)
    | (clear 30 (PE _ (.BoolOp ..) ..);first
      | (clear 30 (PE _ _ (RE _ _));refine VD ?_)
      | (clear 30 (PE _ _ (RE _ (FM _ _)));refine Vy ?_ ?_)
      | (clear 30 (PE _ _ (RE _ (Jb _ _)));refine XN ?_ ?_))
    | (clear 30 (PE _ (.ListComp ..) ..);first
      | (clear 30 (PE _ (.ListComp _ [⟨(.Name ("g" : Str) _),_,_,0⟩] _ _) (RF _ (AM _ [] _ _ _ _)));refine CH (Ce ["g"] [] rfl rfl rfl rfl rfl) rfl ?_ (λ_ _ _ _ _=>?_) (λ_ _ _ _ _=>?_) (λ_ _ _ _ _=>?_))
      | (clear 30 (PE _ (.ListComp _ [⟨(.Name ("k" : Str) _),_,_,0⟩] _ _) (RF _ (AM _ [0,1] _ _ _ _)));refine CH (Ce ["k"] [(0 , "state") ,(1 , "deep")] rfl rfl rfl rfl rfl) rfl ?_ (λ_ _ _ _ _=>?_) (λ_ _ _ _ _=>?_) (λ_ _ _ _ _=>?_))
      | (clear 30 (PE _ _ (RF _ (AM _ [4,0] _ _ _ _)));refine CH (Ce ["k"] [(4 , "signs") ,(0 , "state")] rfl rfl rfl rfl rfl) rfl ?_ (λ_ _ _ _ _=>?_) (λ_ _ _ _ _=>?_) (λ_ _ _ _ _=>?_))
      | (clear 30 (PE _ (.ListComp _ [⟨(.Name ("k" : Str) _),_,_,0⟩] _ _) (RF _ (AM _ [0,1] _ _ _ _)));refine CH (Ce ["k"] [(0 , "state") ,(1 , "s")] rfl rfl rfl rfl rfl) rfl ?_ (λ_ _ _ _ _=>?_) (λ_ _ _ _ _=>?_) (λ_ _ _ _ _=>?_))
      | (clear 30 (PE _ (.ListComp _ [⟨(.Name ("sign" : Str) _),_,_,0⟩] _ _) (RF _ (AM _ [] _ _ _ _)));refine CH (Ce ["sign"] [] rfl rfl rfl rfl rfl) rfl ?_ (λ_ _ _ _ _=>?_) (λ_ _ _ _ _=>?_) (λ_ _ _ _ _=>?_))
      | (clear 30 (PE _ _ (RF _ (AM _ [0,3,1] _ _ _ _)));refine CH (Ce ["k"] [(0 , "script") ,(3 , "room") ,(1 , "state")] rfl rfl rfl rfl rfl) rfl ?_ (λ_ _ _ _ _=>?_) (λ_ _ _ _ _=>?_) (λ_ _ _ _ _=>?_))
      | (clear 30 (PE _ (.ListComp _ [⟨(.Name ("word" : Str) _),_,_,0⟩] _ _) (RF _ (AM _ [] _ _ _ _)));refine CH (Ce ["word"] [] rfl rfl rfl rfl rfl) rfl ?_ (λ_ _ _ _ _=>?_) (λ_ _ _ _ _=>?_) (λ_ _ _ _ _=>?_))
      | (clear 30 (PE _ (.ListComp _ [⟨(.Name ("state" : Str) _),_,_,0⟩] _ _) (RF _ (AM _ [] _ _ _ _)));refine CH (Ce ["state"] [] rfl rfl rfl rfl rfl) rfl ?_ (λ_ _ _ _ _=>?_) (λ_ _ _ _ _=>?_) (λ_ _ _ _ _=>?_))
      | (clear 30 (PE _ _ (RF _ (DQ _ _ _ _ _ _)));refine QE (Ce ["side" , "name" , "value"] [] rfl rfl rfl rfl rfl) rfl ?_ (λ_ _ _ _ _=>?_) (λ_ _ _ _ _=>?_) (λ_ _ _ _ _=>?_))
      | (clear 30 (PE _ (.ListComp _ [⟨(.Name ("k" : Str) _),_,_,0⟩] _ _) (RF _ (AM _ [0,1] _ _ _ _)));refine CH (Ce ["k"] [(0 , "talks") ,(1 , "whole")] rfl rfl rfl rfl rfl) rfl ?_ (λ_ _ _ _ _=>?_) (λ_ _ _ _ _=>?_) (λ_ _ _ _ _=>?_))
      | (clear 30 (PE _ _ (RF _ (AM _ [3] _ _ _ _)));refine CH (Ce ["j"] [(3 , "state")] rfl rfl rfl rfl rfl) rfl ?_ (λ_ _ _ _ _=>?_) (λ_ _ _ _ _=>?_) (λ_ _ _ _ _=>?_)))
    | (clear 30 (PE _ (.IfExp ..) ..);first
      | refine QB ?_ ?_ ?_)
    | (clear 30 (PE _ (.UnaryOp ..) ..);first
      | refine XO Xi UJ ?_)
    | (clear 30 (PE _ _ (RE _ (Av _)));refine Tb ?_)
    | (clear 30 (PE _ _ (RE _ (FN _)));refine VC ?_))
  | (clear 30 (PA ..);first
    | refine @Qx _ _ _ _ _ ?_ ?_ rfl
    | exact Vx)
  | (clear 30 (PSs ..);first
    | refine @QK _ _ _ _ _ _ ?_ ?_
    | refine @Ml _ _ _ _ ?_
    | exact Tm
    | refine QL ?_
    | exact (Ml Mh))
  | (clear 30 (PS ..);first
    | (clear 30 (PS _ (.Assign ..) ..);first
      | (clear 30 (PS _ (.Assign [.Name _ _] _ _) (RSg _ _ (Ap _ _)));refine KK nd rfl (.inl rfl) ?_)
      | (clear 30 (PS _ _ (RSg _ _ (A4 _ _)));refine VR ?_ ?_)
      | (clear 30 (PS _ _ (RSg _ (μX _ _) (C5 _ _)));refine GX (Mj nd rfl (.inl rfl) ?_))
      | (clear 30 (PS _ _ (RSg _ _ (B9 _ _)));refine VT nd rfl (.inl rfl) ?_)
      | (clear 30 (PS _ _ (RSg _ _ (Ek _ _ _)));refine VS M.cm (by decide) ?_ ?_)
      | (clear 30 (PS _ (.Assign [.Name _ _] _ _) (RSg _ _ (Ap _ _)));refine KK nd rfl (.inr rfl) ?_)
      | (clear 30 (PS _ _ (RSX _ _ (C5 _ _)));refine Mj nd rfl (.inl rfl) ?_)
      | (clear 30 (PS _ (.Assign [.Name _ _] _ _) (RSg _ _ (Ap _ _)));refine KK nd rfl (.inr rfl) ?_)
      | (clear 30 (PS _ _ (RSg _ _ (Ap _ (Av (DQ _ _ _ _ _ _)))));refine QJ (Ce ["talk"] [] rfl rfl rfl rfl rfl) rfl nd rfl rfl ?_ (λ_ _ _ _ _=>?_) (λ_ _ _ _ _=>?_) (λ_ _ _ _ _=>?_))
      | (clear 30 (PS _ _ (RSg _ _ (Ap _ (Av (AM _ [3] _ _ _ _)))));refine Tl (Ce ["k"] [(3 , "state")] rfl rfl rfl rfl rfl) rfl nd rfl rfl ?_ (λ_ _ _ _ _=>?_) (λ_ _ _ _ _=>?_) (λ_ _ _ _ _=>?_)))
    | (clear 30 (PS _ (.Return ..) ..);first
      | (clear 30 (PS _ _ (RSg _ (μR _) (Au _)));refine OQ ?_)
      | (clear 30 (PS _ _ (RSg _ (μX _ _) (Au (nxD _))));refine Mi ?_)
      | (clear 30 (PS _ _ (RSg _ (μX _ _) (Au _)));refine GX (Je ?_))
      | (clear 30 (PS _ _ (RSX _ _ (Au _)));refine Je ?_))
    | (clear 30 (PS _ (.If ..) ..);first
      | refine XV ?_ ?_ ?_)
    | (clear 30 (PS _ (.For ..) ..);first
      | (clear 30 (PS _ (.For _ _ _ [] _) (RSg _ _ (Ci _ _ _)));refine ON PassesOwn.never rfl ?_ ?_ ?_)
      | (clear 30 (PS _ (.For _ _ _ [] _) (RSg _ _ (Ci _ _ _)));refine ON ho rfl ?_ ?_ ?_))
    | (clear 30 (PS _ (.Raise ..) ..);first
      | (clear 30 (PS _ _ (RSg _ (μX _ _) (Cm _ _)));refine GX (OP x xb (hr.mono (by omega)) rfl hq rfl ?_))
      | (clear 30 (PS _ _ (RSg _ (μX _ _) (GB ("Short" : Str) _)));refine GX (OO (n:="Short") x (by decide) rfl (x0 "Short" (by decide)) rfl hq rfl ?_)))
    | (clear 30 (PS _ (.Expr ..) ..);first
      | (clear 30 (PS _ _ (RSg _ _ (ownM _ BR _)));refine Nw _ ?_)
      | (clear 30 (PS _ _ (RSg _ (μX _ _) (Ig _)));refine GX (QI ?_))
      | (clear 30 (PS _ _ (RSg _ _ (GM _)));refine Mg ?_))
    | exact Mh
    | (clear 30 (PS _ (.While ..) ..);first
      | (clear 30 (PS _ (.While _ _ [] _) _);refine KL PassesOwn.never ?_ ?_)
      | (clear 30 (PS _ (.While _ _ [] _) (RSg _ _ (FE _ _)));refine KL ho ?_ ?_))
    | (clear 30 (PS _ (.Try ..) ..);first
      | (clear 30 (PS _ _ (RSg _ (μR _) (DY _ _)));refine OR (qx:=false) x Wi rfl rfl (λpn E hp=>?_) ?_)
      | (clear 30 (PS _ _ (RSg _ (μX _ _) (DY _ _)));refine OR (qx:=true) x Wj rfl rfl (λpn E hp=>?_) ?_))
    | refine OQ ?_
    | refine Mi ?_
    | refine GX (Je ?_)
    | refine Mg ?_)
  | (clear 30 (PG ..);first
    | (clear 30 (PG _ (.Name ..) ..);first
      | (clear 30 (PG _ (.Name _ _) (RG _ (Al _)));exact (BI nd rfl (.inl rfl)))
      | (clear 30 (PG _ (.Name _ _) (RG _ (Al _)));exact (BI (by show List.Nodup [("side" : Str) ,("name" : Str) ,("value" : Str)] ;decide +kernel) rfl (.inl rfl)))
      | (clear 30 (PG _ (.Name _ _) (RG _ (Al _)));exact (BI (by show List.Nodup [("g" : Str)] ;decide +kernel) rfl (.inl rfl)))
      | (clear 30 (PG _ (.Name _ _) (RG _ (Al _)));exact (BI (by show List.Nodup [("k" : Str) ,("state" : Str) ,("deep" : Str)] ;decide +kernel) rfl (.inl rfl)))
      | (clear 30 (PG _ (.Name _ _) (RG _ (Al _)));exact (BI (by show List.Nodup [("k" : Str) ,("signs" : Str) ,("state" : Str)] ;decide +kernel) rfl (.inl rfl)))
      | (clear 30 (PG _ (.Name _ _) (RG _ (Al _)));exact (BI (by show List.Nodup [("k" : Str) ,("state" : Str) ,("s" : Str)] ;decide +kernel) rfl (.inl rfl)))
      | (clear 30 (PG _ (.Name _ _) (RG _ (Al _)));exact (BI (by show List.Nodup [("sign" : Str)] ;decide +kernel) rfl (.inl rfl)))
      | (clear 30 (PG _ (.Name _ _) (RG _ (Al _)));exact (BI (by show List.Nodup [("k" : Str) ,("script" : Str) ,("room" : Str) ,("state" : Str)] ;decide +kernel) rfl (.inl rfl)))
      | (clear 30 (PG _ (.Name _ _) (RG _ (Al _)));exact (BI (by show List.Nodup [("word" : Str)] ;decide +kernel) rfl (.inl rfl)))
      | (clear 30 (PG _ (.Name _ _) (RG _ (Al _)));exact (BI (by show List.Nodup [("state" : Str)] ;decide +kernel) rfl (.inl rfl)))
      | (clear 30 (PG _ (.Name _ _) (RG _ (Al _)));exact (BI (by show List.Nodup [("talk" : Str)] ;decide +kernel) rfl (.inl rfl)))
      | (clear 30 (PG _ (.Name _ _) (RG _ (Al _)));exact (BI (by show List.Nodup [("k" : Str) ,("talks" : Str) ,("whole" : Str)] ;decide +kernel) rfl (.inl rfl)))
      | (clear 30 (PG _ (.Name _ _) (RG _ (Al _)));exact (BI (by show List.Nodup [("k" : Str) ,("state" : Str)] ;decide +kernel) rfl (.inl rfl)))
      | (clear 30 (PG _ (.Name _ _) (RG _ (Al _)));exact (BI (by show List.Nodup [("j" : Str) ,("state" : Str)] ;decide +kernel) rfl (.inl rfl))))
    | (clear 30 (PG _ (.Tuple ..) ..);first
      | refine XR rfl ?_)
    | (clear 30 (PG _ (.Subscript ..) ..);first
      | (clear 30 (PG _ _ (RG _ (Ec _ _)));refine OJ ?_ ?_)
      | (clear 30 (PG _ (.Subscript (.Name _ _) _ _) (RG _ (B4 _ _)));refine Gj 3 ?_)
      | (clear 30 (PG _ (.Subscript (.Name _ _) _ _) (RG _ (B4 _ _)));refine Gj 5 ?_)
      | (clear 30 (PG _ (.Subscript (.Name _ _) _ _) (RG _ (B4 _ _)));refine Gj 6 ?_)
      | (clear 30 (PG _ _ (RG _ (stD _ _)));refine VM ?_ ?_)))
  | (clear 30 (PT ..);first
    | (clear 30 (PT _ (.Compare ..) ..);first
      | (clear 30 (PT _ (.Compare _ [.Eq] [_] _) (RT _ (Ak (Ac _ _ (eqS _)))));refine DR (La hr.units) (GZ (g:=id)) ?_ ?_ (BG _))
      | (clear 30 (PT _ _ (RT _ (Ak (Ac _ _ gtA))));refine DR Pp MO ?_ ?_ (BG _))
      | (clear 30 (PT _ _ (RT _ (Ak (Ac _ _ geA))));refine DR Po MN ?_ ?_ (BG _))
      | (clear 30 (PT _ _ (RT _ (Ak (Ac _ _ isC))));refine DR Pq PV ?_ ?_ (BG _))
      | (clear 30 (PT _ _ (RT _ (Ak (Ac _ _ Eh))));refine DR Ps PX ?_ ?_ (BG _))
      | (clear 30 (PT _ _ (RT _ (Ak (Ac _ _ ltA))));refine DR Wq UF ?_ ?_ (BG _))
      | (clear 30 (PT _ _ (RT _ (Ak (Ac _ _ leA))));refine DR Lb Jo ?_ ?_ (BG _))
      | (clear 30 (PT _ _ (RT _ (Ak (Ac _ _ (eqO _)))));refine DR (Gx hr.units) (MM (g:=λb=>!b)) ?_ ?_ (BG _))
      | (clear 30 (PT _ (.Compare (.Name _ _) [.NotEq] [_] _) (RT _ (Ak (Cg _ _ _))));refine JG 5 (Gx hr.units) ?_ (BG _))
      | (clear 30 (PT _ (.Compare (.Name _ _) [.NotEq] [_] _) (RT _ (Ak (Cg _ _ _))));refine JG 6 (Gx hr.units) ?_ (BG _))
      | (clear 30 (PT _ (.Compare _ [.NotEq] [_] _) (RT _ (Ak (Ac _ _ (eqS _)))));refine DR (Gx hr.units) (GZ (g:=λb=>!b)) ?_ ?_ (BG _)))
    | (clear 30 (PT _ (.BoolOp ..) ..);first
      | refine XW ?_)
    | (clear 30 (PT _ (.UnaryOp ..) ..);first
      | refine VU ?_)
    | (clear 30 (PT _ _ (RT _ (Ak _)));refine VW ?_))
  | (clear 30 (PGs ..);first
    | refine QF ?_ ?_
    | exact Tc)
  | (clear 30 (PI ..);first
    | (clear 30 (PI _ _ (.Call ..) ..);first
      | (clear 30 (PI _ _ _ (RI _ (Bm _)));refine Nr rfl M.bB ?_)
      | (clear 30 (PI _ _ _ (RI _ (FO _)));refine Nt rfl M.bB ?_))
    | (clear 30 (PI _ _ _ (RI _ (Dt _)));refine VO ?_)
    | (clear 30 (PI _ _ _ (RIG _ (Ja _)));refine Td ?_))
  | (clear 30 (PIf ..);first
    | exact Te
    | (clear 30 (PIf _ [_] (RT _ _));refine Tf ?_))
  | (clear 30 (PPf ..);first
    | refine QH ?_ ?_
    | exact Tk)
  | (clear 30 (PW ..);first
    | (clear 30 (PW _ (.BoolOp .Or (_ :: _ :: _) _) (RT _ (fOr _ _)));refine XX ?_ ?_)
    | (clear 30 (PW _ (.BoolOp .Or [_] _) (RT _ _));refine VY ?_)
    | (clear 30 (PW _ (.BoolOp .And (_ :: _ :: _) _) (RT _ (CV _ _)));refine VX ?_ ?_)
    | (clear 30 (PW _ (.BoolOp .And [_] _) (RT _ _));refine Tn ?_))
  | (clear 30 (PO ..);first
    | refine Tj ?_
    | exact Ti)
theorem all_ok (M:Md K mg A fd):∀(n:Nat) (x:Fx),okK (kd x) P w K mg base (2 * n + 2) (A x) (fd x) (ps x) (run n x)
 | 0,x=>Rc
 | n + 1,x=>by
   have ih:=all_ok M n;exact step M ih x
end
abbrev fno (x:Fx)(kV dc pm:Value)(an:Option Addr)(cd ct:Value):FuncData:=PySem.W.fnOf (nm x) (ql x) (DG (st x)) (Bj (st x)) (Ao (st x)) .none kV dc pm an cd ct
structure At (K:PySem.W.Frag)(x:Fx)(f:Addr)(fd:FuncData):Prop where
 a:me x=false->PySem.W.nsIn K mainGlobals (nm x)=some (some (.ref f))
 m:me x=true->∃C,PySem.W.nsIn K mainGlobals (ow x)=some (some (.ref C))/\PySem.W.findIn K (.ref C) (nm x)=some (some (.ref f))/\PySem.W.isFn K (.ref f)=true
 fn:Fun K (nm x) (ql x) (st x) f fd
 bd:Binds K fd (ps x) []
 eq:∃kV dc pm an cd ct,fd=fno x kV dc pm an cd ct
theorem at_mk {K:PySem.W.Frag}{x:Fx}{f:Addr}{od an:Option Addr}{sl:Array (Option Value)}{oc kV dc pm cd ct:Value}(e:me x=false)(a:PySem.W.nsIn K mainGlobals (nm x)=some (some (.ref f)))(l:K.lookup f=some ⟨oc,od,.func (fno x kV dc pm an cd ct),sl⟩)(c:PySem.W.codeIn K cd (ql x)=true)(k:PySem.W.keepIn K (.ref f)=true):∃p:Addr×FuncData,At K x p.1 p.2:=by
 refine ⟨(f,fno x kV dc pm an cd ct),λ_=>a,λz=>(by rw [e] at z;cases z),Fy (st:=st x) l c k,(Fy (st:=st x) l c k).binds (ps:=ps x) λ_ _ _ _ _ _ us hl=>?_,_,_,_,_,_,_,rfl⟩
 cases x <;> first | (obtain rfl:=List.eq_nil_of_length_eq_zero hl;rfl) | (obtain ⟨_,rfl⟩:=us1 hl;rfl) | (obtain ⟨_,_,rfl⟩:=us2 hl;rfl) | (obtain ⟨_,_,_,rfl⟩:=us3 hl;rfl) | (obtain ⟨_,_,_,_,rfl⟩:=us4 hl;rfl) | (obtain ⟨_,_,_,_,_,rfl⟩:=us5 hl;rfl) | (obtain ⟨_,_,_,_,_,_,rfl⟩:=us6 hl;rfl) | (obtain ⟨_,_,_,_,_,_,_,rfl⟩:=us7 hl;rfl)
theorem Vm {K:PySem.W.Frag}{x:Fx}{f C:Addr}{od an:Option Addr}{sl:Array (Option Value)}{oc kV dc pm cd ct:Value}(e:me x=true)(hc:PySem.W.nsIn K mainGlobals (ow x)=some (some (.ref C)))(a:PySem.W.findIn K (.ref C) (nm x)=some (some (.ref f)))(l:K.lookup f=some ⟨oc,od,.func (fno x kV dc pm an cd ct),sl⟩)(c:PySem.W.codeIn K cd (ql x)=true)(k:PySem.W.keepIn K (.ref f)=true)(t:PySem.W.isFn K (.ref f)=true):∃p:Addr×FuncData,At K x p.1 p.2:=by
 refine ⟨(f,fno x kV dc pm an cd ct),λz=>(by rw [e] at z;cases z),λ_=>⟨C,hc,a,t⟩,Fy (st:=st x) l c k,(Fy (st:=st x) l c k).binds (ps:=ps x) λ_ _ _ _ _ _ us hl=>?_,_,_,_,_,_,_,rfl⟩
 cases x <;> first | (obtain rfl:=List.eq_nil_of_length_eq_zero hl;rfl) | (obtain ⟨_,rfl⟩:=us1 hl;rfl) | (obtain ⟨_,_,rfl⟩:=us2 hl;rfl) | (obtain ⟨_,_,_,rfl⟩:=us3 hl;rfl) | (obtain ⟨_,_,_,_,rfl⟩:=us4 hl;rfl) | (obtain ⟨_,_,_,_,_,rfl⟩:=us5 hl;rfl) | (obtain ⟨_,_,_,_,_,_,rfl⟩:=us6 hl;rfl) | (obtain ⟨_,_,_,_,_,_,_,rfl⟩:=us7 hl;rfl)
theorem xm_all {K:PySem.W.Frag}{h:Heap}{mg:Str->Option Value}{P c1 c2:Addr}{f2:Addr}{od2 an2:Option Addr}{sl2:Array (Option Value)}{oc2 kV2 dc2 pm2 cd2 ct2:Value}(X:K.In h)(G:h.Ns mainGlobals mg)(p:PySem.W.nsIn K mainGlobals "ParleyError" = some (some (.ref P)))(a1:PySem.W.nsIn K mainGlobals "Short" = some (some (.ref c1)))(a2:PySem.W.nsIn K mainGlobals "Broken" = some (some (.ref c2)))(q:Oe K P [c1,c2]=true)(nd:[P,c1,c2].Nodup)(fi2:PySem.W.findIn K (.ref c2) "__init__" = some (some (.ref f2)))(l2:K.lookup f2=some ⟨oc2,od2,.func (PySem.W.fnOf "__init__" "Broken.__init__" (DG (CD (top 3) 0)) (Bj (CD (top 3) 0)) (Ao (CD (top 3) 0)) .none kV2 dc2 pm2 an2 cd2 ct2),sl2⟩)(ii2:KQ K c2 f2=true)(hf2:PySem.W.isFn K (.ref f2)=true)(hs2:PySem.W.findIn K (.ref c2) "__setattr__" = some (some (.builtin "object.__setattr__")))(cc2:PySem.W.codeIn K cd2 "Broken.__init__" = true)(k2:PySem.W.keepIn K (.ref f2)=true)(n1:K4 K c1=true):∃(P:Addr) (ca:Str->Addr),XM K mg P ca/\XF2 K (ca "Broken") P "Broken.__init__" (CD (top 3) 0)/\∀n∈(["Short"]:List Str),XN0 K (ca n):=by
 have x:=Y8 X G p a1 a2 q nd;refine ⟨P,_,x,XB (C:=c2) (st:=(CD (top 3) 0)) ⟨x.cl "Broken" (by decide),x.kp "Broken" (by decide),x.gt "Broken" (by decide),x.gc "Broken" (by decide),x.na "Broken" (by decide),x.nd "Broken" (by decide)⟩ ii2 hf2 hs2 l2 cc2 k2 (λ_ _ _ _ _ _ us hl=>by match us,hl with | [_,_,_],_=>rfl),?_⟩;intro n hn;simp only [List.mem_cons,List.not_mem_nil,or_false] at hn;rcases hn with rfl
 ·exact XC n1
theorem fin_mk {K:PySem.W.Frag}{h:Heap}{mg:Str->Option Value}{fa:Addr}(X:K.In h)(G:h.Ns mainGlobals mg)(hmg:mg "law" = some (.ref fa))(H:∀x:Fx,∃p:Addr×FuncData,At K x p.1 p.2)(bN:PySem.W.nsIn K mainGlobals "int" = some none)(bI:PySem.W.nsIn K mainGlobals "len" = some none)(bE:PySem.W.nsIn K mainGlobals "list" = some none)(bM:PySem.W.nsIn K mainGlobals "min" = some none)(bO:PySem.W.nsIn K mainGlobals "ord" = some none)(bB:PySem.W.nsIn K mainGlobals "range" = some none)(bC:PySem.W.nsIn K mainGlobals "tuple" = some none){bJ:Tok}(aY:PySem.W.nsIn K mainGlobals "FIRST_SIGN" = some (some (.int 32 bJ))){bK:Tok}(aZ:PySem.W.nsIn K mainGlobals "LAST_SIGN" = some (some (.int 126 bK))){bD:Tok}(aX:PySem.W.nsIn K mainGlobals "PERCENT_SIGN" = some (some (.int 37 bD))){bW:Tok}(b8:PySem.W.nsIn K mainGlobals "SIGNS" = some (some (.str " !\"#$ &'()*+,-./0123456789:;<=>?@ABCDEFGHIJKLMNOPQRSTUVWXYZ[\\]^_`abcdefghijklmnopqrstuvwxyz{|}~" bW)))(xm:∃(P:Addr) (ca:Str->Addr),XM K mg P ca/\XF2 K (ca "Broken") P "Broken.__init__" (CD (top 3) 0)/\∀n∈(["Short"]:List Str),XN0 K (ca n)){bF:Addr}(bQ:PySem.W.nsIn K mainGlobals "Reader" = some none)(bV:PySem.W.nsIn K mainGlobals "Side" = some none)(bL:PySem.W.nsIn K mainGlobals "Lasting" = some none)(bP:PySem.W.nsIn K mainGlobals "Parley" = some none)(bT:PySem.W.nsIn K mainGlobals "Relay" = some none)(bX:PySem.W.nsIn K mainGlobals "Desk" = some none)(a9:PySem.W.nsIn K mainGlobals "Listener" = some (some (.ref bF)))(bH:Nl K bF=true)(bG:NG K bF=true):∃(A:Fx->Addr) (fd:Fx->FuncData),Md K mg A fd/\A .law_=fa/\∀(s:Shared) (u:Value),BindsTo s (fd .law_) ⟨[u],[]⟩ [("script",u)]:=by
 obtain ⟨F,hF⟩:=Classical.axiomOfChoice H;have fm:∀x,me x=true->∀C,PySem.W.nsIn K mainGlobals (ow x)=some (some (.ref C))->PySem.W.findIn K (.ref C) (nm x)=some (some (.ref (F x).1))/\PySem.W.isFn K (.ref (F x).1)=true:=λx hx C h=>by
  obtain ⟨C,e1,e2,e3⟩:=(hF x).m hx;have e4:=e1.symm.trans h
  cases e4
  exact ⟨e2,e3⟩
 have b9:=fm .Az rfl _ a9;have b7:=fm .Aq rfl _ a9;have b0:=fm .Am rfl _ a9;have bA:=fm .As rfl _ a9;have cm:CM K:=XG λn hn=>by
  simp only [I9,List.mem_cons,List.not_mem_nil,or_false] at hn;rcases hn with rfl | rfl | rfl | rfl | rfl | rfl | rfl
  ·exact .inl bQ
  ·exact .inl bV
  ·exact .inl bL
  ·exact .inl bP
  ·exact .inr ⟨_,a9,bH⟩
  ·exact .inl bT
  ·exact .inl bX
 refine ⟨λx=>(F x).1,λx=>(F x).2,{ fn:=λx=>(hF x).fn,mgs:=λx e=>PySem.W.mg_of X G ((hF x).a e),bd:=λx=>(hF x).bd,cm:=cm,HX:=⟨_,a9,PySem.W.mg_of X G a9,X3 bG b9.1 b9.2,⟨b7.1,b7.2,Fun.kp (hF .Aq).fn⟩,⟨b0.1,b0.2,Fun.kp (hF .Am).fn⟩,⟨bA.1,bA.2,Fun.kp (hF .As).fn⟩⟩,xm:=xm,bN:=PySem.W.mg_none_of X G bN,bI:=PySem.W.mg_none_of X G bI,bE:=PySem.W.mg_none_of X G bE,bM:=PySem.W.mg_none_of X G bM,bO:=PySem.W.mg_none_of X G bO,bB:=PySem.W.mg_none_of X G bB,bC:=PySem.W.mg_none_of X G bC,aY:=⟨bJ,PySem.W.mg_of X G aY⟩,aZ:=⟨bK,PySem.W.mg_of X G aZ⟩,aX:=⟨bD,PySem.W.mg_of X G aX⟩,b8:=⟨bW,PySem.W.mg_of X G b8⟩ },?_,λs u=>?_⟩
 ·have e:=hmg.symm.trans (PySem.W.mg_of X G ((hF .law_).a rfl))
  cases e
  rfl
 ·obtain ⟨_,_,_,_,_,_,e⟩:=(hF .law_).eq;show BindsTo s (F .law_).2 _ _;rw [e];exact .of_eq rfl
theorem walk {l:PySem.W.OpenLaw}{q:Program}{loose:List Str}{XP:(Str->Option Value)->Heap->Prop}{YP:World->Heap->Prop}{d:DefRec}{K:Params->PySem.W.Frag}(m:Nat)(hm:Room (2 * m + 2) callerA)(hn:l.most=some 63)(hdf:d.params.defaults=[])
 (hY:∀(w:World) (h:Heap),YP w h->(K w.params).In h) (lt:∀ns:List Int,ns.length<=63->∃S',run m .law_ [.scr ns] []=some (.bl true,S'))
 (F:∀(w:World) (mg:Str->Option Value) (fa:Addr) (h:Heap),(K w.params).In h->h.Ns mainGlobals mg->mg d.name=some (.ref fa)->
   ∃(A:Fx->Addr) (fd:Fx->FuncData),Md (K w.params) mg A fd/\A .law_=fa/\∀(s:Shared) (u:Value),BindsTo s (fd .law_) ⟨[u],[]⟩ [("script",u)]) :
 PySem.W.WalkO q loose XP YP l.row.toRowW d [] (λf vs=>PySem.call f vs):=
 L2.U9 (n:=63) (k:=2 * m + 2) (x:="script") (CX:=λ_=>CX0) (sp:=λw=>spF (K w.params) (run m .law_)) hn (by decide) hdf hm hY
  (λw mg fa h KX G hmg=>by obtain ⟨A,fd,M,e,b⟩:=F w mg fa h KX G hmg;subst e;exact ⟨fd .law_,b,λbase _ _=>all_ok M m .law_⟩)
  (λw H a ns hl hO hS=>by obtain ⟨S',e⟩:=lt ns hl;exact O2 hO hS e) λ_ _ _ _ _ z=>z
theorem RV (k:Nat):Kh (run (k + 1) .CZ):=Nz
theorem QX (k:Nat):HL (run (k + 1) .C1):=TC
theorem Vb (k:Nat):GK (run (k + 1) .BH):=Sa
theorem Km (k:Nat):BX (run (k + 1) .B7):=XF
theorem Xk (k:Nat):UX (run (k + 2) .Bo):=Yv (Km k)
theorem Xc (k:Nat):SX (run (k + 2) .C6):=Yl (RV k) (Km k)
theorem Lj:∀(n k:Nat),2 * n + 4<=k->HR (run k .Bb) n
 | 0,k,_=>λs hs=>absurd s.depth_pos (by lia)
 | n + 1,k,h=>by
   obtain ⟨j,rfl⟩:∃j,k=j + 5:=Nat.exists_eq_add_of_le' (by lia);exact PD rfl rfl rfl rfl rfl (Xk (j + 1)) (Xc (j + 1)) (QX (j + 2)) (Km (j + 2)) (Vb (j + 2)) (Lj n (j + 3) (by lia))
theorem TU (k:Nat):Qc (run (k + 11) .Bt):=Wg (Lj 3 (k + 10) (by lia))
theorem OZ (k:Nat):IP (run (k + 1) .DI):=OY
theorem Iz (k:Nat):HM (run (k + 12) .As):=NM (TU k) (OZ (k + 10))
theorem Pi (k:Nat):M6 (run (k + 13) .Am):=Ph (Iz k)
theorem NY (k:Nat):Hm (run (k + 14) .Aq):=Lk (Pi k)
theorem O4 (k:Nat):M3 (run (k + 1) .Az):=QY
theorem Nd (k:Nat):Kg (run (k + 15) .Bu):=On (Iz (k + 2)) (NY k) (O4 (k + 13))
theorem HH (k:Nat):EN (run (k + 16) .BB):=O7 (Nd k)
theorem Mz (k:Nat):F7 (run (k + 1) .Bz):=Ud
theorem N5 (k:Nat):M5 (run (k + 2) .BF):=O8 (Mz k)
theorem CS (k:Nat):DrawD (run (k + 1) .AQ):=Qw
theorem Fh (k:Nat):DN (run (k + 1) .Ba):=PZ
theorem JN:∀(n k:Nat),n + 2<=k->CP (run k .BA) n
 | 0,k,_=>λd s r hd=>absurd hd (by lia)
 | n + 1,k,h=>by
   obtain ⟨j,rfl⟩:∃j,k=j + 2:=Nat.exists_eq_add_of_le' (by lia);exact PY (KC (CS j)) (.inr (JN n (j + 1) (by lia)))
theorem MU:∀(n k:Nat),n + 2<=k->Ki (run k .BC) n
 | 0,k,_=>λs K r S0 S hs=>absurd s.depth_pos (by lia)
 | n + 1,k,h=>by
   obtain ⟨j,rfl⟩:∃j,k=j + 2:=Nat.exists_eq_add_of_le' (by lia);exact U0 (CS j) (.inr (MU n (j + 1) (by lia)))
theorem IU:∀(n k:Nat),n + 2<=k->DE (run k .Bp) n
 | 0,k,_=>λs hs=>absurd s.depth_pos (by lia)
 | n + 1,k,h=>by
   obtain ⟨j,rfl⟩:∃j,k=j + 2:=Nat.exists_eq_add_of_le' (by lia);exact NC (IU n (j + 1) (by lia)) (TM)
theorem Tt:MZ (run 98 .Bs):=Ts (KC (CS 96)) (JN 3 97 (by decide)) (Fh 96)
theorem Tv:Qb (run 99 .Bk):=Tu (CS 97) Tt (Fh 97)
theorem law_true (ns:List Int)(h:ns.length<=63):∃S',run 100 .law_ [.scr ns] []=some (.bl true,S'):=by
 obtain ⟨r,S',e,p⟩:=X2 Tv (TF (Mz 97) (N5 96) (HH 82)) (TB Tz (HH 82) (CS 97)) (Q5 (HH 82) (CS 97)) (CS 98) (Fh 98) (Q4 (IU 3 98 (by decide)) (MU 3 98 (by decide)) (CS 97) (Fh 97)) (QW (IU 3 98 (by decide))) h;subst p;exact ⟨S',e⟩
end K70
namespace PySem.W.Fast
def tw10054365621773605097:=0
def tw10089648621527272063:=0
def tw10095631149492173441:=0
def tw10122363041844588832:=0
def tw10125167187106122346:=0
def tw1015709884164298620:=0
def tw10192432087077039513:=0
def tw1021656556068473652:=0
def tw10231702449217053030:=0
def tw10278388804310724206:=0
def tw10281756124912633721:=0
def tw10357938092463594232:=0
def tw10474482034889156079:=0
def tw10544743827183262949:=0
def tw10600152364182482377:=0
def tw10647775272460164731:=0
def tw10903570507963544137:=0
def tw11095772577770177346:=0
def tw11199100192632409756:=0
def tw1124028201781071429:=0
def tw11253259913704385192:=0
def tw11255285402312019474:=0
def tw11339081439959436393:=0
def tw11353252688634742406:=0
def tw11391284293672392221:=0
def tw11399712977405047967:=0
def tw11668589718675302316:=0
def tw11714879412065256001:=0
def tw1180719066367028979:=0
def tw11807725167821289971:=0
def tw11822615603093333675:=0
def tw11824311751573046699:=0
def tw11890770024357352243:=0
def tw11899266015907372678:=0
def tw11914892602941744611:=0
def tw12035933277427149760:=0
def tw12052552851420583367:=0
def tw12065088965716738826:=0
def tw12106998790866875499:=0
def tw12111333337458620810:=0
def tw12352929486777610140:=0
def tw12479889163895488636:=0
def tw12500582276524572960:=0
def tw12550969196169018359:=0
def tw12634652270272857947:=0
def tw12655379905277784685:=0
def tw12673193679824907591:=0
def tw12677660377612077322:=0
def tw12713370746154777468:=0
def tw12810968117793569676:=0
def tw12843327709529355495:=0
def tw12892844781380406847:=0
def tw12948991510993566787:=0
def tw13045560683070585557:=0
def tw13048468599575743446:=0
def tw13108371929170552299:=0
def tw13150574438618892706:=0
def tw13158145491597511569:=0
def tw13187048957819306118:=0
def tw13312129227042520333:=0
def tw13351226854976886769:=0
def tw13358258772735701063:=0
def tw13378457821634416704:=0
def tw13577272875344038336:=0
def tw13619722316905723277:=0
def tw1367485888251393068:=0
def tw13719038787394655161:=0
def tw13837303896762863627:=0
def tw13839621637484708958:=0
def tw13871820161548836844:=0
def tw13879527454490583698:=0
def tw13949665534870108701:=0
def tw13985276245113071962:=0
def tw1404626447002819988:=0
def tw14090665507855750135:=0
def tw14164918300770947617:=0
def tw14197696213734827058:=0
def tw14228865985444142909:=0
def tw14338932488069740935:=0
def tw14400767161806710212:=0
def tw14521617173804338031:=0
def tw14623702782889316027:=0
def tw14647255802031923014:=0
def tw14738462748706722982:=0
def tw14760429774396446138:=0
def tw14767510597483531976:=0
def tw14877511960673875467:=0
def tw14909366527297665884:=0
def tw14925257324249406710:=0
def tw14948844807859983739:=0
def tw14957433608484353321:=0
def tw14990952868842820754:=0
def tw15037544227470559022:=0
def tw15087814940369953207:=0
def tw15145671930740619287:=0
def tw15185300107064951245:=0
def tw15280242107414033046:=0
def tw15297702214484494738:=0
def tw15344639176098863792:=0
def tw15375385895777130064:=0
def tw15377362306687558133:=0
def tw15498183025510896262:=0
def tw15501451552226369413:=0
def tw15553412323243752108:=0
def tw15570163650749871535:=0
def tw15595685973350189742:=0
def tw15619652957812078202:=0
def tw15669297968713695985:=0
def tw15687089928589483133:=0
def tw15706148011635573328:=0
def tw15885944386543891212:=0
def tw15947551752020232748:=0
def tw16130186510931709207:=0
def tw16187223647809780697:=0
def tw16194498581116895288:=0
def tw16199013798818771620:=0
def tw16221234261783814150:=0
def tw16361739417170727003:=0
def tw16441945602947790745:=0
def tw16470843834832502885:=0
def tw16518585634922703955:=0
def tw16554403662297502374:=0
def tw16618068290317099480:=0
def tw16638541047489522546:=0
def tw16658608878278770239:=0
def tw16771102939974117104:=0
def tw16783618713313792338:=0
def tw16815015703328905411:=0
def tw16823108838967992132:=0
def tw16868627792613852585:=0
def tw16994948164491359075:=0
def tw17179856876385216841:=0
def tw17186848493450381093:=0
def tw17272284928763599306:=0
def tw17309847305050265414:=0
def tw17361189677273335723:=0
def tw17421768305181082935:=0
def tw17507209087626190917:=0
def tw17525008865880575986:=0
def tw17541573186494788132:=0
def tw17653793205941950744:=0
def tw17804463303145076913:=0
def tw17854306186794939345:=0
def tw17859572164029608619:=0
def tw17894176587217786456:=0
def tw18001914468582616291:=0
def tw1805869031962890666:=0
def tw18305975213448526348:=0
def tw18327218594393793875:=0
def tw18395113364831979095:=0
def tw1878411703515916589:=0
def tw1895690317009447925:=0
def tw1994651295227707657:=0
def tw2137116955861474537:=0
def tw2188004714383560338:=0
def tw2256371269264204369:=0
def tw2482078285611669764:=0
def tw2573937055544560492:=0
def tw266223360050607978:=0
def tw2691774305321907851:=0
def tw2697291388854982514:=0
def tw2732891075387987564:=0
def tw2777170018229938915:=0
def tw2805057632909251648:=0
def tw2907171988028947914:=0
def tw2983167952270209362:=0
def tw3383377550381447824:=0
def tw3452797567882788995:=0
def tw3462152709846085975:=0
def tw3601500941696847085:=0
def tw3692567763222981475:=0
def tw372705480517511857:=0
def tw378528029592444479:=0
def tw381759313509507247:=0
def tw3858603128273728357:=0
def tw4024093210085344971:=0
def tw4157879632961969735:=0
def tw4221844094581535351:=0
def tw4245289319042327547:=0
def tw4436234639238787146:=0
def tw4543203072602725733:=0
def tw4605949497265611618:=0
def tw4761783533236452445:=0
def tw4770627792486971312:=0
def tw4864364026832766342:=0
def tw4882857829561410484:=0
def tw4976630242381994000:=0
def tw4994662820977238301:=0
def tw4998843488552419291:=0
def tw5002140004168586167:=0
def tw5202148458981127939:=0
def tw5253692683100326790:=0
def tw5288180609528111391:=0
def tw5314677847766288030:=0
def tw5361218545183517405:=0
def tw5520261213243704424:=0
def tw556092359433251827:=0
def tw5621997139221075396:=0
def tw5647140619513443669:=0
def tw5700015799629532156:=0
def tw5779025189693894060:=0
def tw580913470467047015:=0
def tw5936049363367567752:=0
def tw5939538796429629013:=0
def tw6170158907064238802:=0
def tw6205030785303350721:=0
def tw6232661332486488967:=0
def tw6239379431725488497:=0
def tw6339005880841638881:=0
def tw6354397014256224198:=0
def tw6449657244984216084:=0
def tw6459821017579604773:=0
def tw6474692506316100818:=0
def tw6502186468115569510:=0
def tw6569533379475561225:=0
def tw6576726952557806737:=0
def tw6579756081355073234:=0
def tw664418094367488672:=0
def tw6657626664835171468:=0
def tw6853196610367006457:=0
def tw6868131170864711874:=0
def tw6987008914015176756:=0
def tw7034494904437150801:=0
def tw7059531521686923502:=0
def tw7077475319414592495:=0
def tw7134418354880957358:=0
def tw7153209766678474646:=0
def tw7208223862223217851:=0
def tw7209336116401010625:=0
def tw7231292760732753324:=0
def tw7325529795366464783:=0
def tw7396818455764827425:=0
def tw741120571024321602:=0
def tw7473054520894550371:=0
def tw7576723098968222714:=0
def tw7675374403786544570:=0
def tw7751106340767586432:=0
def tw7835147802462489578:=0
def tw7840890620526116327:=0
def tw784654571024129840:=0
def tw7946375507663093523:=0
def tw7950073305139849136:=0
def tw7965632559950240872:=0
def tw8032433382380128627:=0
def tw8117474432177863738:=0
def tw8248725597201644178:=0
def tw838570408474852233:=0
def tw8418290381076209768:=0
def tw8420241485619028634:=0
def tw8474308790488297677:=0
def tw8488025095911929405:=0
def tw8501917088326448323:=0
def tw8508739032957212529:=0
def tw852021306215140827:=0
def tw8546155297898602738:=0
def tw8547567961642071962:=0
def tw8563785644020093491:=0
def tw8594976215085120251:=0
def tw8622498808742348194:=0
def tw8646089687087456113:=0
def tw865645927543434073:=0
def tw8672831868993811742:=0
def tw8685398166545836305:=0
def tw8729616299267126212:=0
def tw8762762470481773298:=0
def tw8839334522012439156:=0
def tw8922009915881336059:=0
def tw9005120658182645210:=0
def tw9091302664398444782:=0
def tw9104799267942540215:=0
def tw9137525854639426853:=0
def tw9138484543211051933:=0
def tw9200635725733022687:=0
def tw9224542127114272056:=0
def tw9347981214512398129:=0
def tw9365288948247152108:=0
def tw9375005142074978120:=0
def tw944433104475290547:=0
def tw9570141092230178823:=0
def tw9603846147996635696:=0
def tw9626910560670135047:=0
def tw9677015870630693431:=0
def tw9698685073545274876:=0
def tw9725476067096008664:=0
def tw9789076548604615686:=0
def tw9931747764061408492:=0
def tw9957231642946159098:=0
end PySem.W.Fast
open PySem PySem.W PyProof.Rows
set_option maxRecDepth 100000 in
set_option maxHeartbeats 0 in
theorem PySem.Challenge.cw_wireparley_k70_whole_any_pieces_beside_holds : PySem.Challenge.rw_wireparley_k70_whole_any_pieces_beside.Holds := by
 w_on;o_law;k_head;(case hw=>w_witness2)
 k_fill
 refine K70.walk (l:=PySem.Challenge.rw_wireparley_k70_whole_any_pieces_beside) 100 ⟨rfl,by decide,by decide⟩ rfl rfl (λw h Y=>PySem.W.kIn_of Y) K70.law_true ?F
 case F=>
  intro w mg fa h KX G hmg;refine' K70.fin_mk KX G hmg ?H ?bN ?bI ?bE ?bM ?bO ?bB ?bC ?aY ?aZ ?aX ?b8 ?xm ?bQ ?bV ?bL ?bP ?bT ?bX ?a9 ?bH ?bG
  (case H=>intro x;cases x <;> first | (refine' K70.at_mk rfl ?a ?l ?c ?k;(case a=>k_is);(case l=>k_is);(case c=>k_is);(case k=>k_is)) | (refine' K70.Vm rfl ?h ?a ?l ?c ?k ?t;(case h=>k_is);(case a=>k_is);(case l=>k_is);(case c=>k_is);(case k=>k_is);(case t=>k_is)))
  (case bQ=>k_is)
  (case bV=>k_is)
  (case bL=>k_is)
  (case bP=>k_is)
  (case bT=>k_is)
  (case bX=>k_is)
  (case a9=>k_is)
  (case bH=>kernel_rfl)
  (case bG=>kernel_rfl)
  (case bN=>k_is)
  (case bI=>k_is)
  (case bE=>k_is)
  (case bM=>k_is)
  (case bO=>k_is)
  (case bB=>k_is)
  (case bC=>k_is)
  (case aY=>k_is)
  (case aZ=>k_is)
  (case aX=>k_is)
  (case b8=>k_is)
  (case xm=>refine' K70.xm_all KX G ?x_p ?x_a1 ?x_a2 ?x_q ?x_nd ?y_fi ?y_l ?y_ii ?y_hf ?y_hs ?y_cc ?y_k ?x_n1;(case x_p=>k_is);(case x_a1=>k_is);(case x_a2=>k_is);(case x_q=>kernel_rfl);(case x_nd=>decide);(case y_fi=>k_is);(case y_l=>k_is);(case y_ii=>kernel_rfl);(case y_hf=>k_is);(case y_hs=>k_is);(case y_cc=>k_is);(case y_k=>k_is);(case x_n1=>kernel_rfl))
