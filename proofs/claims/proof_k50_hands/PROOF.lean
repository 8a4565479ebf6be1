import PyProof.Rows.All
import Wide.All
import OpenK.AllK
import Wide.FinOn
import Lean
import PyProof.EqAt
import PyProof.EqKinds
import PyProof.TupleCall
import PyProof.DictWalks
import PyProof.ListMulRoad
import PyProof.Rows.Range3
import PyProof.StationsW
import OpenK.KOwn
import PyProof.ExcBaseAll.ValueError
import PyProof.MaxThree
import KE.KIsAll
import KE.KIsNot
import PyProof.RulesAs
import PyProof.ExcArgsOwn
import PyProof.ExcAttrAll.ValueError
import KE.KRevSl
import PySem.Challenge.RW_beadrods_k50_hands
set_option Elab.async false
set_option linter.all false
set_option maxRecDepth 100000
set_option maxHeartbeats 4000000
abbrev Fg:=PySem.W.Frag
abbrev SV:=PySem.Str->Option PySem.Value
abbrev OP:=Option PySem.PyData
abbrev LP:=List PySem.PyData
abbrev SP0:=PySem.Shared->Prop
theorem zzA {α : Type _} {a : α} {l : List α} : (a :: l)[0]? = some a := rfl
theorem zzB {α : Type _} {a : α} {i : Nat} {l : List α} : (a :: l)[i + 1]? = l[i]? := rfl
theorem zzC {α : Type _} {o : Option α} : (some o).join = o := rfl
theorem zzD {α β : Type _} (a : α) (f : α → Option β) : (some a).bind f = f a := rfl
theorem zzE {α β : Type _} (a : α) (f : α → β) : Option.map f (some a) = some (f a) := rfl
theorem zzF {α : Type _} {x : α} {xs : List α} {i : Nat} {a : α} : (x :: xs).set (i + 1) a = x :: xs.set i a := rfl
theorem zzG {α : Type _} {x : α} {xs : List α} {a : α} : (x :: xs).set 0 a = a :: xs := rfl
theorem zzH {α β : Type _} (f : α → Option β) : (none : Option α).bind f = none := rfl
theorem zzI {α β : Type _} (f : α → β) : Option.map f (none : Option α) = none := rfl
theorem zzJ : (!true) = false := rfl
theorem zzK : (!false) = true := rfl
theorem zzL : (false = true) = False := Bool.false_eq_true
theorem zzM {α : Sort _} {x : Decidable True} (a b : α) : ite True a b = a := if_true a b
theorem zzN {α : Sort _} {x : Decidable False} (a b : α) : ite False a b = b := if_false a b
section
namespace L2
open PySem PySem.Spec PyProof.Rows
noncomputable abbrev Key:=Sum Int Str
noncomputable def aoy:Key->Value->Bool
 | .inl k,v=>Value.isInt k v
 | .inr x,v=>Value.isStrOf x v
noncomputable def arQ (w:World):Key->Int
 | .inl k=>hashInt k
 | .inr x=>hashStr w x
theorem qO:∀ {k:Key}{v:Value},aoy k v=true->(∃ i t,k=Sum.inl i/\v=Value.int i t) ∨ (∃ x t,k=Sum.inr x/\v=Value.str x t)
 | .inl i,v,h=>by
  obtain ⟨t,e⟩:=Value.isInt_shape (k:=i) (v:=v) h
  exact .inl ⟨i,t,rfl,e⟩
 | .inr x,v,h=>by
  obtain ⟨t,e⟩:=Value.isStrOf_shape (x:=x) (v:=v) h
  exact .inr ⟨x,t,rfl,e⟩
theorem aoQ (a b:Int):decide ((Sum.inl a:Key)=Sum.inl b)=(a == b):=by
 by_cases e:a=b
 ·subst e; simp
 ·have h:¬ (Sum.inl a:Key)=Sum.inl b:=fun q=>e (Sum.inl.inj q)
  rw [decide_eq_false h]
  exact (beq_eq_false_iff_ne.mpr e).symm
theorem aoR (a b:Str):decide ((Sum.inr a:Key)=Sum.inr b)=decide (a=b):=by
 by_cases e:a=b
 ·subst e; simp
 ·have h:¬ (Sum.inr a:Key)=Sum.inr b:=fun q=>e (Sum.inr.inj q)
  rw [decide_eq_false h,decide_eq_false e]
theorem aoS (a:Int) (b:Str):decide ((Sum.inl a:Key)=Sum.inr b)=false:=decide_eq_false (fun q=>nomatch q)
theorem aoT (a:Str) (b:Int):decide ((Sum.inr a:Key)=Sum.inl b)=false:=decide_eq_false (fun q=>nomatch q)
noncomputable def aas (prog:Program) (w:World):PySem.KeyKind prog w Key where
 is:=aoy
 hash:=arQ w
 inj:=fun v a b ha hb=>by
  rcases qO ha with ⟨i,t,rfl,rfl⟩ | ⟨x,t,rfl,rfl⟩
  ·rcases qO hb with ⟨j,u,rfl,e⟩ | ⟨y,u,rfl,e⟩
   ·injection e with e1 _; rw [e1]
   ·exact nomatch e
  ·rcases qO hb with ⟨j,u,rfl,e⟩ | ⟨y,u,rfl,e⟩
   ·exact nomatch e
   ·injection e with e1 _; rw [e1]
 byValue:=fun k v h=>by
  rcases qO h with ⟨i,t,rfl,rfl⟩ | ⟨x,t,rfl,rfl⟩ <;> rfl
 pyHash:=fun hv h=>by
  rcases qO hv with ⟨i,t,rfl,rfl⟩ | ⟨x,t,rfl,rfl⟩
  ·exact wpAny_pyHash_int h
  ·exact wpAny_pyHash_str h
 eqBool:=fun hu hv h=>by
  rcases qO hu with ⟨i,t,rfl,rfl⟩ | ⟨x,t,rfl,rfl⟩
  ·rcases qO hv with ⟨j,u,rfl,rfl⟩ | ⟨y,u,rfl,rfl⟩
   ·rw [aoQ] at h; exact wpAny_eqBool_int h
   ·rw [aoS] at h; exact SeqAt.EqAt.int_str i t y u _ _ _ _ h
  ·rcases qO hv with ⟨j,u,rfl,rfl⟩ | ⟨y,u,rfl,rfl⟩
   ·rw [aoT] at h; exact SeqAt.EqAt.str_int x t j u _ _ _ _ h
   ·rw [aoR] at h; exact wpAny_eqBool_str h
 «strs»:=fun k x t v h=>by
  rcases qO h with ⟨i,u,rfl,e⟩ | ⟨y,u,rfl,e⟩
  ·exact nomatch e
  ·injection e with e1 _
   subst e1
   cases v <;> rfl
inductive V where
 | non | bl (b:Bool) | int (i:Int) | str (x:Str) | byt (b:Array UInt8) | flt (b:UInt64) | ref (a:Addr) | ty (n:String)
 deriving DecidableEq
noncomputable def j8:V->Value->Prop
 | .non,u=>u=Value.none
 | .bl b,u=>u=Value.bool b
 | .int i,u=>∃ t,u=Value.int i t
 | .str x,u=>∃ t,u=Value.str x t
 | .byt b,u=>∃ t,u=Value.bytes b t
 | .flt b,u=>∃ t,u=Value.float b t
 | .ref a,u=>u=Value.ref a
 | .ty n,u=>u=Value.type n
noncomputable abbrev jP:List V->List Value->Prop:=Paired j8
theorem jP.length {xs:List V}{us:List Value} (r:jP xs us):xs.length=us.length:=Paired.length r
theorem jP.get:∀ {xs:List V}{us:List Value}{i:Nat}{x:V},jP xs us->xs[i]?=some x->∃ u,us[i]?=some u/\j8 x u
 | _,_,_,_,.nil,e=>by simp at e
 | _,_,0,_,.cons r _,e=>by simp at e; subst e; exact ⟨_,rfl,r⟩
 | _,_,i+1,x,.cons _ t,e=>by
  obtain ⟨u,h1,h2⟩:=jP.get (i:=i) (x:=x) t (by simpa using e)
  exact ⟨u,by simpa using h1,h2⟩
theorem jP.set {x:V}{u:Value} (r:j8 x u):∀ {xs:List V}{us:List Value} (i:Nat),jP xs us->jP (xs.set i x) (us.set i u)
 | _,_,_,.nil=> .nil
 | _,_,0,.cons _ t=> .cons r t
 | _,_,i+1,.cons q t=> .cons q (jP.set r i t)
theorem jP.append:∀ {xs ys:List V}{us ws:List Value},jP xs us->jP ys ws->jP (xs++ys) (us++ws)
 | _,_,_,_,.nil,s=>s
 | _,_,_,_,.cons r t,s=> .cons r (jP.append t s)
theorem jP.take:∀ {xs:List V}{us:List Value} (n:Nat),jP xs us->jP (xs.take n) (us.take n)
 | _,_,0,_=> .nil
 | _,_,_+1,.nil=> .nil
 | _,_,n+1,.cons r t=> .cons r (jP.take n t)
theorem jP.drop:∀ {xs:List V}{us:List Value} (n:Nat),jP xs us->jP (xs.drop n) (us.drop n)
 | _,_,0,r=>r
 | _,_,_+1,.nil=> .nil
 | _,_,n+1,.cons _ t=>jP.drop n t
noncomputable def ads:Option V->Option Value->Prop
 | some v,some u=>j8 v u
 | none,none=>True
 | _,_=>False
noncomputable def KV {κ:Type}:List (κ × V)->List (κ × Value)->Prop:=Paired fun (p:κ × V) (q:κ × Value)=>p.1=q.1/\j8 p.2 q.2
noncomputable def kV:Key->V
 | .inl i=> .int i
 | .inr x=> .str x
inductive HO where
 | lst (xs:List V)
 | tup (xs:List V)
 | dK (kvs:List (Key × V)) | dT (kvs:List (List Key × V))
 | set (S:Int->Bool) (n:Nat)
 | ins (C dx:Addr) (fs:List (Str × V))
 | own (x:Addr)
 | xd (fs:List (Str × V))
 | met (f x:Addr)
 | rng (lo hi:Int)
 | frz (o:Obj) (u:HO)
 | tbl (ps:Array Value)
 | ext (φ:Heap->Prop)
noncomputable abbrev Hp:=Addr->Option HO
noncomputable def upd (H:Hp) (a:Addr) (o:HO):Hp:=fun b=>if b=a then some o else H b
theorem jp {H:Hp}{a:Addr}{o:HO}:upd H a o a=some o:=by unfold upd; rw [if_pos rfl]
theorem jt {H:Hp}{a b:Addr}{o:HO} (h:b ≠ a):upd H a o b=H b:=by unfold upd; rw [if_neg h]
theorem QN {H:Hp}{a:Addr}{o u:HO}:upd (upd H a o) a u=upd H a u:=by
 funext b; unfold upd; split <;> rfl
theorem qX {H:Hp}{a b:Addr}{o:HO} (h:H a=some o) (h':H b=none):a ≠ b:=by
 intro e; subst e; rw [h] at h'; cases h'
section
variable (P:Program) (w:World)
noncomputable def zN (H:Hp) (h:Heap) (a:Addr):HO->Prop
 | .lst xs=>xs.length<=sizeLine/\∃ (its:List Value) (n:Nat),jP xs its/\h.get? a=some { cls:= .type "list",data:= .seq its.toArray n }
 | .tup xs=>xs.length<=sizeLine/\∃ its:List Value,jP xs its/\IsTup h a its.toArray
 | .dK kvs=>kvs.length<=sizeLine/\(a == sysModules)=false/\∃ vs,KV kvs vs/\h.DictOf (aas P w) a vs
 | .dT kvs=>kvs.length<=sizeLine/\(a == sysModules)=false/\∃ xs:List (List Key × Addr × Value),
   Paired (fun (p:List Key × V) (q:List Key × Addr × Value)=>p.1=q.1/\H q.2.1=some (.tup (p.1.map kV))/\j8 p.2 q.2.2) kvs xs/\
   ∃ o es ep,h.get? a=some o/\o.ExactDict/\o.data= .dict es ep/\es.toList=xs.map (entryOfKey (tupleKind (aas P w)))/\(xs.map (·.1)).Nodup
 | .set S n=>h.SetOf (intKind P w) a S n
 | .ins C dx fs=>H dx=some (.own a)/\fs.length<=1000/\dx ≠ a/\h.get? a=some (PySem.W.instObj C dx)/\
   ∃ mA,h.Ns1 dx mA/\(∀ f,ads (fs.lookup f) (mA f))/\PySem.Within mA (fs.map (·.1))
 | .own _=>∃ o,h.get? a=some o
 | .xd fs=>∃ mA,h.Ns1 a mA/\∀ f,ads (fs.lookup f) (mA f)
 | .rng lo hi=>∃ t u v,h.get? a=some { cls:= .type "range",data:= .fields #[.int lo t,.int hi u,.int 1 v] }
 | .frz o u=>h.get? a=some o/\zN H h a u
 | .tbl ps=>h.get? a=some { cls:= .none,data:= .fields ps }
 | .met f x=>h.get? a=some (PySem.W.methodObj (.ref f) (.ref x))
 | .ext φ=>φ h/\(∃ o,h.get? a=some o)/\∀ h1 h2:Heap,φ h1->(∀ o,h1.get? a=some o->h2.get? a=some o)->φ h2
noncomputable def HOk (H:Hp) (h:Heap):Prop:=∀ a o,H a=some o->zN P w H h a o
end
section
variable {P:Program}{w:World}{H H':Hp}{h h':Heap}{a:Addr}{o:HO}
theorem zN.lt (x:zN P w H h a o):a<h.objs.size:=by
 cases o with
 | lst xs=>obtain ⟨_,_,_,_,e⟩:=x; exact Heap.lt_size e
 | tup xs=>obtain ⟨_,_,_,p⟩:=x; exact p.lt
 | dK kvs=>obtain ⟨_,_,_,_,o,_,_,e,_⟩:=x; exact Heap.lt_size e
 | dT kvs=>obtain ⟨_,_,_,_,o,_,_,e,_⟩:=x; exact Heap.lt_size e
 | set S n=>obtain ⟨o,_,_,_,e,_⟩:=x; exact Heap.lt_size e
 | ins C dx fs=>obtain ⟨_,_,_,e,_⟩:=x; exact Heap.lt_size e
 | own y=>obtain ⟨_,e⟩:=x; exact Heap.lt_size e
 | xd fs=>obtain ⟨_,⟨_,_,_,e,_⟩,_⟩:=x; exact Heap.lt_size e
 | rng lo hi=>obtain ⟨_,_,_,e⟩:=x; exact Heap.lt_size e
 | frz ob u=>obtain ⟨e,_⟩:=x; exact Heap.lt_size e
 | tbl ps=>exact Heap.lt_size (show h.get? a=some _ from x)
 | met f y=>exact Heap.lt_size (show h.get? a=some _ from x)
 | ext φ=>obtain ⟨_,⟨_,e⟩,_⟩:=x; exact Heap.lt_size e
theorem Paired.mapP {α β:Type}{F G:α->β->Prop}:∀ {l₁:List α}{l₂:List β},Paired F l₁ l₂->(∀ a b,F a b->G a b)->Paired G l₁ l₂
 | _,_,.nil,_=> .nil
 | _,_,.cons r t,f=> .cons (f _ _ r) (Paired.mapP t f)
theorem zN.stay (x:zN P w H h a o) (k:∀ b u,(b=a ∨ H b=some (.own a))->h.get? b=some u->h'.get? b=some u)
  (ho:∀ b,H b=some (.own a)->H' b=some (.own a)) (ht:∀ b xs,H b=some (.tup xs)->H' b=some (.tup xs)):zN P w H' h' a o:=by
 induction o with
 | lst xs=>obtain ⟨z,its,n,r,e⟩:=x; exact ⟨z,its,n,r,k _ _ (.inl rfl) e⟩
 | tup xs=>obtain ⟨z,its,r,ob,e,c⟩:=x; exact ⟨z,its,r,ob,k _ _ (.inl rfl) e,c⟩
 | dK kvs=>obtain ⟨z,y,vs,r,ob,es,ep,e,c⟩:=x; exact ⟨z,y,vs,r,ob,es,ep,k _ _ (.inl rfl) e,c⟩
 | dT kvs=>
  obtain ⟨z,y,xs,r,ob,es,ep,e,c⟩:=x
  exact ⟨z,y,xs,Paired.mapP r fun p q z=>⟨z.1,ht _ _ z.2.1,z.2.2⟩,ob,es,ep,k _ _ (.inl rfl) e,c⟩
 | set S n=>obtain ⟨ob,es,ep,t,e,c⟩:=x; exact ⟨ob,es,ep,t,k _ _ (.inl rfl) e,c⟩
 | ins C dx fs=>
  obtain ⟨d,z,ne,e,mA,⟨od,es,ep,e2,c⟩,r⟩:=x
  exact ⟨ho _ d,z,ne,k _ _ (.inl rfl) e,mA,⟨od,es,ep,k _ _ (.inr d) e2,c⟩,r⟩
 | own y=>obtain ⟨ob,e⟩:=x; exact ⟨ob,k _ _ (.inl rfl) e⟩
 | xd fs=>obtain ⟨mA,⟨od,es,ep,e,c⟩,r⟩:=x; exact ⟨mA,⟨od,es,ep,k _ _ (.inl rfl) e,c⟩,r⟩
 | rng lo hi=>obtain ⟨t,u,v,e⟩:=x; exact ⟨t,u,v,k _ _ (.inl rfl) e⟩
 | frz ob u ih=>obtain ⟨e,q⟩:=x; exact ⟨k _ _ (.inl rfl) e,ih q⟩
 | tbl ps=>
  have e:h.get? a=some { cls:= .none,data:= .fields ps }:=x
  show h'.get? a=some { cls:= .none,data:= .fields ps }
  exact k a _ (.inl rfl) e
 | met f y=>
  have e:h.get? a=some (PySem.W.methodObj (.ref f) (.ref y)):=x
  show h'.get? a=some (PySem.W.methodObj (.ref f) (.ref y))
  exact k a _ (.inl rfl) e
 | ext φ=>obtain ⟨p,⟨o,e⟩,st⟩:=x; exact ⟨st _ _ p fun o q=>k _ _ (.inl rfl) q,⟨o,k _ _ (.inl rfl) e⟩,st⟩
theorem HOk.lt (x:HOk P w H h) (e:H a=some o):a<h.objs.size:=(x a o e).lt
theorem HOk.fresh (x:HOk P w H h) (e:h.objs.size<=a):H a=none:=by
 cases q:H a with
 | none=>rfl
 | some u=>exact absurd (Nat.lt_of_lt_of_le (x.lt q) e) (Nat.lt_irrefl _)
theorem HOk.kept (x:HOk P w H h) (k:∀ b u,h.get? b=some u->h'.get? b=some u):HOk P w H h':=fun a o e=>
 (x a o e).stay (fun b u _ q=>k b u q) (fun _ q=>q) fun _ _ q=>q
theorem HOk.laid (x:HOk P w H h) (k:∀ b u,h.get? b=some u->h'.get? b=some u) (hp:h.objs.size<=a) (new:zN P w (upd H a o) h' a o):HOk P w (upd H a o) h':=fun b u e=>by
 have hn:=x.fresh hp
 by_cases hb:b=a
 ·subst hb; rw [jp] at e; cases e; exact new
 ·rw [jt hb] at e
  exact (x b u e).stay (fun c v _ q=>k c v q) (fun c q=>by rw [jt (qX q hn)]; exact q) fun c xs q=>by rw [jt (qX q hn)]; exact q
end
noncomputable def Rd (H:Hp) (a:Addr) (u:HO):Prop:=H a=some u ∨ ∃ o,H a=some (.frz o u)
theorem Rd.ok {P:Program}{w:World}{H:Hp}{h:Heap}{a:Addr}{u:HO} (r:Rd H a u) (x:HOk P w H h):zN P w H h a u:=by
 rcases r with r | ⟨o,r⟩
 ·exact x a u r
 ·obtain ⟨_,q⟩:=x a _ r
  exact q
noncomputable def Mut:Option HO->Prop
 | some (.lst _)=>True
 | some (.dK _)=>True
 | some (.dT _)=>True
 | some (.set _ _)=>True
 | some (.ins _ _ _)=>True
 | some (.ext _)=>True
 | _=>False
section
variable {P:Program}{w:World}{H:Hp}{h h':Heap}{x e:Addr}{o':HO}
theorem HOk.write (ok:HOk P w H h) (mu:Mut (H x)) (he:e=x ∨ H e=some (.own x)) (k:∀ b u,b ≠ e->h.get? b=some u->h'.get? b=some u) (heo:∃ u,h'.get? e=some u)
  (new:zN P w (upd H x o') h' x o'):HOk P w (upd H x o') h':=fun b u q=>by
 have nown:∀ c y,H c=some (.own y)->c ≠ x:=fun c y r z=>by subst z; rw [r] at mu; exact mu
 have ntup:∀ c xs,H c=some (.tup xs)->c ≠ x:=fun c xs r z=>by subst z; rw [r] at mu; exact mu
 by_cases hb:b=x
 ·subst hb; rw [jp] at q; cases q; exact new
 ·rw [jt hb] at q
  by_cases hbe:b=e
  ·have q':H b=some (.own x):=by
    rcases he with z | z
    ·exact absurd (hbe.trans z) hb
    ·rw [hbe]; exact z
   rw [q] at q'; cases q'
   obtain ⟨v,hv⟩:=heo
   exact ⟨v,by rw [hbe]; exact hv⟩
  ·refine (ok b u q).stay (fun c v hc r=>k c v ?_ r) (fun c r=>by rw [jt (nown c b r)]; exact r) fun c xs r=>by rw [jt (ntup c xs r)]; exact r
   rcases hc with rfl | hc
   ·exact hbe
   ·rintro rfl
    rcases he with z | z
    ·exact nown c b hc z
    ·rw [hc] at z; cases z; exact hb rfl
end
structure Un (fs ex:List Addr) (H H':Hp) (h h':Heap):Prop where
 keep:∀ b o,h.get? b=some o->H b=none->b ∉ fs->b ∉ ex->h'.get? b=some o
 slot:∀ b o,h.get? b=some o->H b=none->b ∈ fs->b ∉ ex->∃ sl,h'.get? b=some { o with slots:=sl }
 free:∀ b o,h.get? b=some o->H b=none->b ∉ ex->H' b=none
 there:∀ b o,h.get? b=some o->b ∉ ex->∃ o',h'.get? b=some o'
 tups:∀ b xs,H b=some (.tup xs)->H' b=some (.tup xs)
 frzs:∀ b o u,H b=some (.frz o u)->H' b=some (.frz o u)
 tbls:∀ b ps,H b=some (.tbl ps)->∃ more,H' b=some (.tbl (ps++more))
section
variable {fs fs' ex ex':List Addr}{H H1 H2:Hp}{h h1 h2 h':Heap}{a x e:Addr}{o:HO}
theorem Un.any (u:Un fs ex H H1 h h1) {b:Addr}{ob:Obj} (q:h.get? b=some ob) (n:H b=none) (hx:b ∉ ex):∃ sl,h1.get? b=some { ob with slots:=sl }:=by
 by_cases hb:b ∈ fs
 ·exact u.slot b ob q n hb hx
 ·exact ⟨ob.slots,u.keep b ob q n hb hx⟩
theorem Un.kept (k:∀ b u,h.get? b=some u->h'.get? b=some u):Un fs ex H H h h':=
 ⟨fun b ob q _ _ _=>k b ob q,fun b ob q _ _ _=>⟨ob.slots,k b ob q⟩,fun _ _ _ n _=>n,fun b ob q _=>⟨ob,k b ob q⟩,fun _ _ q=>q,fun _ _ _ q=>q,fun _ ps q=>⟨#[],by rw [q]; simp⟩⟩
theorem Un.refl:Un fs ex H H h h:=Un.kept fun _ _ q=>q
theorem Un.laid (k:∀ b u,h.get? b=some u->h'.get? b=some u) (hp:h.objs.size<=a) (hn:H a=none):Un fs ex H (upd H a o) h h' where
 keep:=fun b u q _ _ _=>k b u q
 slot:=fun b u q _ _ _=>⟨u.slots,k b u q⟩
 free:=fun b u q n _=>by rw [jt (Nat.ne_of_lt (Nat.lt_of_lt_of_le (Heap.lt_size q) hp))]; exact n
 there:=fun b u q _=>⟨u,k b u q⟩
 tups:=fun b xs q=>by rw [jt (qX q hn)]; exact q
 frzs:=fun b u xs q=>by rw [jt (qX q hn)]; exact q
 tbls:=fun b ps q=>⟨#[],by rw [jt (qX q hn),q]; simp⟩
theorem Un.write (mu:Mut (H x)) (he:e=x ∨ H e=some (.own x)) (k:∀ b u,b ≠ e->h.get? b=some u->h'.get? b=some u) (heo:∃ u,h'.get? e=some u):Un fs ex H (upd H x o) h h':=by
 have hx:∀ b,H b=none->b ≠ x:=fun b n z=>by subst z; rw [n] at mu; exact mu
 have hb:∀ b,H b=none->b ≠ e:=fun b n z=>by
  subst z
  rcases he with r | r
  ·exact hx b n r
  ·rw [n] at r; cases r
 have hm:∀ b u,H b=some u->¬ Mut (some u)->b ≠ x:=fun b u q nm z=>by subst z; rw [q] at mu; exact nm mu
 refine ⟨fun b u q n _ _=>k b u (hb b n) q,fun b u q n _ _=>⟨u.slots,k b u (hb b n) q⟩,fun b u q n _=>by rw [jt (hx b n)]; exact n,fun b u q _=>?_,
  fun b xs q=>by rw [jt (hm b _ q fun z=>z)]; exact q,fun b u xs q=>by rw [jt (hm b _ q fun z=>z)]; exact q,fun b ps q=>⟨#[],by rw [jt (hm b _ q fun z=>z),q]; simp⟩⟩
 by_cases hbe:b=e
 ·subst hbe; exact heo
 ·exact ⟨u,k b u hbe q⟩
end
noncomputable def trk (h:Heap) (H:Hp):List Addr:=(List.range h.objs.size).filter fun a=>(H a).isSome
noncomputable def aep (h:Heap) (H:Hp):Heap:=PySem.W.hideAll h (trk h H)
theorem aja (h:Heap) (H:Hp):(aep h H).objs.size=h.objs.size:=PySem.W.hideAll_size _ _
theorem akv {h:Heap}{H:Hp}{b:Addr}{o:Obj} (e:h.get? b=some o) (n:H b=none):(aep h H).get? b=some o:=
 PySem.W.hideAll_get _ e fun hm=>by
  have q:(H b).isSome=true:=(List.mem_filter.mp hm).2
  rw [n] at q; simp at q
theorem amS {h:Heap}{H:Hp}{b:Addr}{o:Obj} (e:(aep h H).get? b=some o):h.get? b=some o/\H b=none:=by
 have e':h.get? b=some o:=PySem.W.of_hideAll (trk h H) e
 refine ⟨e',?_⟩
 cases q:H b with
 | none=>rfl
 | some x=>
  have hm:b ∈ trk h H:=List.mem_filter.mpr ⟨List.mem_range.mpr (Heap.lt_size e'),by simp [q]⟩
  have z:(aep h H).get? b=none:=PySem.W.hideAll_none (trk h H) hm
  rw [z] at e; cases e
noncomputable def amT (g h:Heap) (L:Addr):List (Addr × Obj):=(List.range h.objs.size).filterMap fun a=>if a=L ∨ (g.get? a).isSome=true then none else (h.get? a).map fun o=>(a,o)
noncomputable def qp (g h:Heap) (L d:Addr):List (Addr × Obj):=(amT g h L).filter fun p=>decide (p.1 ≠ d)
structure Mod (K:Fg) (mg:SV) (base:Heap):Prop where
 kin:K.In base
 glob:base.Ns mainGlobals mg
 blt:∃ mb,base.Ns builtinsNs mb/\∀ x:Str,x ≠ "__name__"->mb x=bootBuiltins x
 nolimit:base.NoLimit
structure Cx where
 prog:Program
 w:World
 K:Fg
 mg:SV
 base:Heap
 A:Around
 N:List Str
 s₀:Shared
 H₀:Hp
 env:Env
 Ko:List Env
 stack:List Env
 ex:List Addr
 fn:Str->Bool
 calm:Bool
 pn:List (Addr × Obj)
 xe:Value->SP0
noncomputable def frs (l:List Env):List Addr:=l.filterMap (·.frame)
noncomputable abbrev Cx.fs (X:Cx):List Addr:=frs X.Ko
noncomputable def Vis (sc:Scope) (x:Str):Prop:=sc.names.lookup x=some .local ∨ sc.names.lookup x=some .cell ∨ sc.names.lookup x=some .free
noncomputable def Loc (sc:Scope) (x:Str):Prop:=sc.names.lookup x=some .local ∨ sc.names.lookup x=some .cell
noncomputable def arR (env:Env) (h:Heap) (m:SV) (x:Str) (u:Value):Prop:=
 (env.kindOf x=some .local/\m x=some u) ∨ ((env.kindOf x=some .cell ∨ env.kindOf x=some .free)/\∃ c,env.cells.lookup x=some c/\h.IsCell c (some u))
structure Cx.Ok (X:Cx):Prop where
 mod:Mod X.K X.mg X.base
 kind:X.env.scope.kind= .function
 glob:X.env.globals=mainGlobals
 blt:X.env.builtins=builtinsNs
 above:X.s₀.heap.objs.size<=X.env.locals
 inj:∀ x y c,X.env.cells.lookup x=some c->X.env.cells.lookup y=some c->x=y
 has:∀ x,(X.env.kindOf x=some .cell ∨ X.env.kindOf x=some .free)->∃ c,X.env.cells.lookup x=some c
 cab:∀ x c,X.fn x=true->X.env.cells.lookup x=some c->X.s₀.heap.objs.size<=c
 hd:X.calm=true->X.A.handled=none
 frames:X.A.frames=some X.stack
 stk:X.stack=X.Ko ∨ (X.stack=X.env::X.Ko/\X.env.frame=some X.env.locals)
 exf:∀ b ∈ X.ex,b ≠ X.env.locals/\∀ x c,X.env.cells.lookup x=some c->c ≠ b
 bs:∀ b o,X.base.get? b=some o->X.s₀.heap.get? b=some o/\X.H₀ b=none
 bsz:X.base.objs.size<=X.s₀.heap.objs.size
 noex:∀ b o,X.base.get? b=some o->b ∉ X.ex
 exfs:∀ b ∈ X.ex,b ∉ X.fs
 funs:X.s₀.heap.FunFrames X.base X.Ko
 frf:∀ b ∈ X.fs,X.H₀ b=none
structure Inv (X:Cx) (Kp:List (Addr × Obj)) (σ:List (Option V)) (H:Hp) (s:Shared):Prop where
 ok:X.Ok
 os:s.os=X.s₀.os
 bare:AllBare s.gens
 base:Un X.fs X.ex X.H₀ H X.s₀.heap s.heap
 loc:∃ m,s.heap.Ns X.env.locals m/\∀ (i:Nat) (x:Str) (v:V),X.N[i]?=some x->σ[i]?=some (some v)->Vis X.env.scope x->∃ u,j8 v u/\arR X.env s.heap m x u
 cell:∀ x c,X.env.cells.lookup x=some c->∃ v,s.heap.IsCell c v
 free:H X.env.locals=none
 freeC:∀ x c,X.env.cells.lookup x=some c->H c=none
 pin:∀ p ∈ X.pn++Kp,s.heap.get? p.1=some p.2/\H p.1=none/\p.1 ≠ X.env.locals/\p.1 ∉ X.fs/\∀ v,p.2.data ≠ .cell v
 hok:HOk X.prog X.w H s.heap
 len:σ.length=X.N.length
section
variable {X:Cx}{Kp:List (Addr × Obj)}{σ:List (Option V)}{H H':Hp}{s:Shared}{h':Heap}
theorem Cx.Ok.nofr (ok:X.Ok) {b:Addr}{o:Obj} (e:X.base.get? b=some o):b ∉ X.fs:=fun hb=>by
 have:=(ok.funs.mem hb).1
 rw [e] at this; cases this
theorem Inv.bs (I:Inv X Kp σ H s):∀ b o,X.base.get? b=some o->s.heap.get? b=some o/\H b=none:=fun b o e=>
 ⟨I.base.keep b o (I.ok.bs b o e).1 (I.ok.bs b o e).2 (I.ok.nofr e) (I.ok.noex b o e),I.base.free b o (I.ok.bs b o e).1 (I.ok.bs b o e).2 (I.ok.noex b o e)⟩
theorem Inv.bk (I:Inv X Kp σ H s):∀ b o,X.base.get? b=some o->s.heap.get? b=some o:=fun b o e=>(I.bs b o e).1
theorem Inv.mod (I:Inv X Kp σ H s):Mod X.K X.mg X.base:=I.ok.mod
theorem Inv.kIn (I:Inv X Kp σ H s):X.K.In s.heap:=I.ok.mod.kin.keeps I.bk
theorem Inv.lt (I:Inv X Kp σ H s):X.env.locals<s.heap.objs.size:=let ⟨_,hn,_⟩:=I.loc; hn.lt
theorem Inv.sz (I:Inv X Kp σ H s):X.s₀.heap.objs.size<=s.heap.objs.size:=Nat.le_trans I.ok.above (Nat.le_of_lt I.lt)
theorem Inv.nofs (I:Inv X Kp σ H s) {a:Addr} (h:s.heap.objs.size<=a):a ∉ X.fs:=fun hb=>by
 obtain ⟨_,o,ho,_⟩:=I.ok.funs.mem hb
 exact absurd (Nat.lt_of_lt_of_le (Heap.lt_size ho) (Nat.le_trans I.sz h)) (Nat.lt_irrefl _)
theorem Inv.cne (I:Inv X Kp σ H s):∀ x c,X.env.cells.lookup x=some c->c ≠ X.env.locals:=fun x c e z=>by
 obtain ⟨v,o,ho,hd⟩:=I.cell x c e
 obtain ⟨m,⟨o',es,ep,ho',hd',_⟩,_⟩:=I.loc
 rw [z,ho'] at ho; cases ho; rw [hd'] at hd; cases hd
theorem Inv.funs (I:Inv X Kp σ H s):s.heap.FunFrames X.base X.Ko:=by
 have all:∀ (l:List Env),(∀ b ∈ frs l,b ∈ X.fs)->X.s₀.heap.FunFrames X.base l->s.heap.FunFrames X.base l:=by
  intro l
  induction l with
  | nil=>intro _ _; trivial
  | cons env r ih=>
   intro hs hl
   obtain ⟨hk,⟨L,o,hf,hn,ho,hd⟩,hr⟩:=hl
   have hL:L ∈ X.fs:=hs L (by unfold frs; rw [List.filterMap_cons,hf]; exact List.mem_cons_self)
   obtain ⟨sl,e⟩:=I.base.slot L o ho (I.ok.frf L hL) hL fun z=>I.ok.exfs L z hL
   exact ⟨hk,⟨L,_,hf,hn,e,hd⟩,ih (fun b hb=>hs b (by unfold frs; rw [List.filterMap_cons,hf]; exact List.mem_cons_of_mem _ hb)) hr⟩
 exact all X.Ko (fun _ hb=>hb) I.ok.funs
theorem Inv.stack (I:Inv X Kp σ H s):s.heap.FunFrames X.base X.stack:=by
 rcases I.ok.stk with e | ⟨e,hf⟩
 ·rw [e]; exact I.funs
 ·rw [e]
  obtain ⟨m,hn,_⟩:=I.loc
  refine .cons (by rw [I.ok.kind]; decide) hf hn ?_ I.funs
  exact Heap.get?_none_of_le (Nat.le_trans I.ok.bsz I.ok.above)
theorem Inv.stkSub (I:Inv X Kp σ H s):∀ b ∈ frs X.stack,b ∈ X.env.locals::X.fs:=fun b hb=>by
 rcases I.ok.stk with e | ⟨e,hf⟩
 ·rw [e] at hb; exact List.mem_cons_of_mem _ hb
 ·rw [e] at hb
  unfold frs at hb
  rw [List.filterMap_cons,hf] at hb
  exact hb
theorem Inv.stkFree (I:Inv X Kp σ H s):∀ b ∈ frs X.stack,H b=none:=fun b hb=>by
 rcases List.mem_cons.mp (I.stkSub b hb) with e | hb
 ·rw [e]; exact I.free
 ·obtain ⟨_,o,ho,_⟩:=I.ok.funs.mem hb
  exact I.base.free b o ho (I.ok.frf b hb) fun z=>I.ok.exfs b z hb
theorem Inv.step {g':Array GenState}{t':Nat}{d':Drawn}{ch:List Addr} (I:Inv X Kp σ H s)
  (hch:∀ b ∈ ch,(b ∈ X.ex ∨ X.s₀.heap.objs.size<=b)/\b ≠ X.env.locals/\(∀ x c,X.env.cells.lookup x=some c->c ≠ b)/\∀ p ∈ X.pn++Kp,p.1 ≠ b)
  (keep:∀ b o,b ≠ X.env.locals->b ∉ X.fs->b ∉ ch->s.heap.get? b=some o->H b=none->h'.get? b=some o)
  (slot:∀ b o,b ≠ X.env.locals->b ∈ X.fs->b ∉ ch->s.heap.get? b=some o->H b=none->∃ sl,h'.get? b=some { o with slots:=sl }) (free:∀ b o,b ∉ ch->s.heap.get? b=some o->H b=none->H' b=none)
  (there:∀ b o,b ∉ ch->s.heap.get? b=some o->∃ o',h'.get? b=some o')
  (tups:∀ b xs,H b=some (.tup xs)->H' b=some (.tup xs)) (frzs:∀ b o u,H b=some (.frz o u)->H' b=some (.frz o u)) (tbls:∀ b ps,H b=some (.tbl ps)->∃ more,H' b=some (.tbl (ps++more)))
  (ns:∀ m,s.heap.Ns X.env.locals m->h'.Ns X.env.locals m) (hok:HOk X.prog X.w H' h') (hg:AllBare g'):
  Inv X Kp σ H' { s with heap:=h',gens:=g',drawn:=d',toks:=t' }:=by
 have neL:∀ b o,X.s₀.heap.get? b=some o->b ≠ X.env.locals:=fun b o e=>Nat.ne_of_lt (Nat.lt_of_lt_of_le (Heap.lt_size e) I.ok.above)
 have neC:∀ b o,X.s₀.heap.get? b=some o->b ∉ X.ex->b ∉ ch:=fun b o e hx hb=>by
  rcases (hch b hb).1 with z | z
  ·exact hx z
  ·exact absurd (Nat.lt_of_lt_of_le (Heap.lt_size e) z) (Nat.lt_irrefl _)
 have cellK:∀ x c,X.env.cells.lookup x=some c->∀ v,s.heap.IsCell c v->h'.IsCell c v:=fun x c e v ⟨o,ho,hd⟩=>by
  have nch:c ∉ ch:=fun z=>(hch c z).2.2.1 x c e rfl
  by_cases hc:c ∈ X.fs
  ·obtain ⟨sl,q⟩:=slot c o (I.cne x c e) hc nch ho (I.freeC x c e)
   exact ⟨_,q,hd⟩
  ·exact ⟨o,keep c o (I.cne x c e) hc nch ho (I.freeC x c e),hd⟩
 refine ⟨I.ok,I.os,hg,⟨fun b o e n hb hx=>?_,fun b o e n hb hx=>?_,fun b o e n hx=>?_,fun b o e hx=>?_,fun b xs e=>tups b xs (I.base.tups b xs e),fun b o xs e=>frzs b o xs (I.base.frzs b o xs e),fun b ps e=>?_⟩,?_,fun x c e=>?_,?_,fun x c e=>?_,fun p hp=>?_,hok,I.len⟩
 ·exact keep b o (neL b o e) hb (neC b o e hx) (I.base.keep b o e n hb hx) (I.base.free b o e n hx)
 ·obtain ⟨sl,e1⟩:=I.base.slot b o e n hb hx
  obtain ⟨sl',e2⟩:=slot b _ (neL b o e) hb (neC b o e hx) e1 (I.base.free b o e n hx)
  exact ⟨sl',e2⟩
 ·obtain ⟨o',e1⟩:=I.base.there b o e hx
  exact free b o' (neC b o e hx) e1 (I.base.free b o e n hx)
 ·obtain ⟨o',e1⟩:=I.base.there b o e hx
  exact there b o' (neC b o e hx) e1
 ·obtain ⟨m1,e1⟩:=I.base.tbls b ps e
  obtain ⟨m2,e2⟩:=tbls b _ e1
  exact ⟨m1++m2,by rw [e2,Array.append_assoc]⟩
 ·obtain ⟨m,hn,hl⟩:=I.loc
  refine ⟨m,ns m hn,fun i x v e1 e2 e3=>?_⟩
  obtain ⟨u,r,l⟩:=hl i x v e1 e2 e3
  refine ⟨u,r,?_⟩
  rcases l with l | ⟨k,c,e,z⟩
  ·exact .inl l
  ·exact .inr ⟨k,c,e,cellK x c e _ z⟩
 ·obtain ⟨v,z⟩:=I.cell x c e
  exact ⟨v,cellK x c e v z⟩
 ·obtain ⟨m,⟨o,_,_,ho,_⟩,_⟩:=I.loc
  exact free _ o (fun z=>(hch _ z).2.1 rfl) ho I.free
 ·obtain ⟨v,o,ho,hd⟩:=I.cell x c e
  exact free c o (fun z=>(hch c z).2.2.1 x c e rfl) ho (I.freeC x c e)
 ·obtain ⟨e,n,ne,nf,d⟩:=I.pin p hp
  have nch:p.1 ∉ ch:=fun z=>(hch p.1 z).2.2.2 p hp rfl
  exact ⟨keep p.1 p.2 ne nf nch e n,free p.1 p.2 nch e n,ne,nf,d⟩
theorem Inv.un {t':Nat} (I:Inv X Kp σ H s) (u:Un X.fs [] H H' s.heap h') (hok:HOk X.prog X.w H' h'):Inv X Kp σ H' { s with heap:=h',toks:=t' }:=by
 obtain ⟨m,⟨o,es,ep,ho,r⟩,_⟩:=id I.loc
 obtain ⟨sl,hL⟩:=u.any ho I.free (by simp)
 exact I.step (g':=s.gens) (d':=s.drawn) (ch:=[]) (fun _ z=>nomatch z) (fun b o _ hb _ e n=>u.keep b o e n hb (by simp)) (fun b o _ hb _ e n=>u.slot b o e n hb (by simp)) (fun b o _ e n=>u.free b o e n (by simp)) (fun b o _ e=>u.there b o e (by simp)) u.tups u.frzs u.tbls (fun m' hm=>by
  obtain ⟨o',es',ep',ho',r'⟩:=hm
  rw [ho] at ho'; cases ho'
  exact ⟨_,es',ep',hL,r'⟩) hok I.bare
theorem Inv.call {g':Array GenState}{t':Nat}{d':Drawn}{ch:List Addr} (I:Inv X Kp σ H s) (u:Un (frs X.stack) ch H H' s.heap h') (hok:HOk X.prog X.w H' h') (hg:AllBare g')
  (hch:∀ b ∈ ch,(b ∈ X.ex ∨ X.s₀.heap.objs.size<=b)/\b ≠ X.env.locals/\(∀ x c,X.env.cells.lookup x=some c->c ≠ b)/\∀ p ∈ X.pn++Kp,p.1 ≠ b):
  Inv X Kp σ H' { s with heap:=h',gens:=g',drawn:=d',toks:=t' }:=by
 obtain ⟨m,⟨o,es,ep,ho,r⟩,_⟩:=id I.loc
 obtain ⟨sl,hL⟩:=u.any ho I.free fun z=>(hch _ z).2.1 rfl
 exact I.step (ch:=ch) hch (fun b o hL hb hc e n=>u.keep b o e n (fun z=>(List.mem_cons.mp (I.stkSub b z)).elim hL hb) hc) (fun b o _ _ hc e n=>u.any e n hc) (fun b o hc e n=>u.free b o e n hc) (fun b o hc e=>u.there b o e hc) u.tups u.frzs u.tbls (fun m' hm=>by
  obtain ⟨o',es',ep',ho',r'⟩:=hm
  rw [ho] at ho'; cases ho'
  exact ⟨_,es',ep',hL,r'⟩) hok hg
theorem Inv.turned {t':Nat}{it:Addr} (I:Inv X Kp σ H s) (k:∀ b o,b ≠ it->s.heap.get? b=some o->h'.get? b=some o) (hn:H it=none) (hL:it ≠ X.env.locals)
  (h1:it ∈ X.ex ∨ X.s₀.heap.objs.size<=it) (h2:∀ x c,X.env.cells.lookup x=some c->c ≠ it) (h3:∀ p ∈ X.pn++Kp,p.1 ≠ it):Inv X Kp σ H { s with heap:=h',toks:=t' }:=by
 have nit:∀ b u,H b=some u->b ≠ it:=fun b u e z=>by rw [z,hn] at e; cases e
 refine I.step (g':=s.gens) (d':=s.drawn) (ch:=[it]) (fun b hb=>?_) (fun b o _ _ hc e _=>k b o (fun z=>hc (by simp [z])) e) (fun b o _ _ hc e _=>⟨o.slots,k b o (fun z=>hc (by simp [z])) e⟩) (fun _ _ _ _ n=>n)
  (fun b o hc e=>⟨o,k b o (fun z=>hc (by simp [z])) e⟩) (fun _ _ e=>e) (fun _ _ _ e=>e) (fun b ps e=>⟨#[],by rw [e]; simp⟩) (fun m hm=>?_) (fun b u e=>?_) I.bare
 ·have e:b=it:=by simpa using hb
  subst e
  exact ⟨h1,hL,h2,h3⟩
 ·obtain ⟨o,es,ep,ho,r⟩:=hm
  exact ⟨o,es,ep,k _ o (Ne.symm hL) ho,r⟩
 ·refine (I.hok b u e).stay (fun c v hc q=>k c v ?_ q) (fun _ q=>q) fun _ _ q=>q
  rcases hc with z | z
  ·rw [z]; exact nit b u e
  ·exact nit c _ z
theorem Inv.tok (I:Inv X Kp σ H s) (t:Nat):Inv X Kp σ H { s with toks:=t }:=I.un (h':=s.heap) (t':=t) Un.refl I.hok
theorem Inv.kept {t':Nat} (I:Inv X Kp σ H s) (k:∀ b u,s.heap.get? b=some u->h'.get? b=some u):Inv X Kp σ H { s with heap:=h',toks:=t' }:=I.un (Un.kept k) (I.hok.kept k)
theorem Inv.laid {a:Addr}{o:HO}{t':Nat} (I:Inv X Kp σ H s) (k:∀ b u,s.heap.get? b=some u->h'.get? b=some u) (hp:s.heap.objs.size<=a) (new:zN X.prog X.w (upd H a o) h' a o):
  Inv X Kp σ (upd H a o) { s with heap:=h',toks:=t' }:=I.un (Un.laid k hp (I.hok.fresh hp)) (I.hok.laid k hp new)
theorem Inv.write {x e:Addr}{o:HO}{t':Nat} (I:Inv X Kp σ H s) (mu:Mut (H x)) (he:e=x ∨ H e=some (.own x)) (k:∀ b u,b ≠ e->s.heap.get? b=some u->h'.get? b=some u) (heo:∃ u,h'.get? e=some u)
  (new:zN X.prog X.w (upd H x o) h' x o):Inv X Kp σ (upd H x o) { s with heap:=h',toks:=t' }:=I.un (Un.write mu he k heo) (I.hok.write mu he k heo new)
theorem Inv.pins_of {pins':List (Addr × Obj)} (I:Inv X Kp σ H s) (h:∀ p ∈ pins',s.heap.get? p.1=some p.2/\H p.1=none/\p.1 ≠ X.env.locals/\p.1 ∉ X.fs/\∀ v,p.2.data ≠ .cell v):Inv X pins' σ H s:=
 ⟨I.ok,I.os,I.bare,I.base,I.loc,I.cell,I.free,I.freeC,fun p hp=>(List.mem_append.mp hp).elim (fun z=>I.pin p (List.mem_append_left _ z)) (h p),I.hok,I.len⟩
theorem afH {N:List Str} (hN:N.Nodup) {i j:Nat}{x:Str} (a:N[i]?=some x) (b:N[j]?=some x):i=j:=by
 obtain ⟨h1,e1⟩:=List.getElem?_eq_some_iff.mp a
 obtain ⟨h2,e2⟩:=List.getElem?_eq_some_iff.mp b
 exact (List.getElem_inj hN).mp (e1.trans e2.symm)
theorem ajb {M:Model}{A:Around}{E:Value->SP0}{i:Nat}{x:Str}{v:V}{u:Value}{Q:Unit->SP0} (I:Inv X Kp σ H s) (hN:X.N.Nodup) (hi:X.N[i]?=some x) (hx:Loc X.env.scope x) (r:j8 v u)
  (h:∀ s',Inv X Kp (σ.set i (some v)) H s'->(∃ a,Heap.SameBut a s.heap s'.heap/\(a=X.env.locals ∨ X.env.cells.lookup x=some a))->Q () s') (hf:X.fn x=true ∨ X.env.scope.names.lookup x=some .local:=by first | exact .inl rfl | exact .inr rfl | assumption):wpAny M A (storeName X.env x u) Q E s:=by
 obtain ⟨m,hn,hl⟩:=id I.loc
 have hcls:(X.env.scope.kind == .class || (X.env.scope.kind == .module && X.env.locals != X.env.globals))=false:=by rw [I.ok.kind]; rfl
 have hiσ:i < σ.length:=by rw [I.len]; exact (List.getElem?_eq_some_iff.mp hi).1
 have cne:=I.cne
 have tracked:∀ {a:Addr} {h':Heap},(∃ o,s.heap.get? a=some o/\H a=none)->Heap.SameBut a s.heap h'->HOk X.prog X.w H h':=fun {a h'} ha hs b ob e=>by
  obtain ⟨_,_,hfree⟩:=ha
  refine (I.hok b ob e).stay (fun c w' hc q=>(hs.2 c ?_).trans q) (fun _ q=>q) fun _ _ q=>q
  rintro rfl
  rcases hc with rfl | hc
  ·rw [hfree] at e; cases e
  ·rw [hfree] at hc; cases hc
 rcases hx with hk | hk
 ·refine wpAny_storeName_local hk hn (fun h' hn' hs=>?_) hcls
  obtain ⟨oL,_,_,hoL,_⟩:=id hn
  refine h _ ⟨I.ok,I.os,I.bare,⟨fun b o e n hb hx=>?_,fun b o e n hb hx=>?_,I.base.free,fun b o e hx=>?_,I.base.tups,I.base.frzs,I.base.tbls⟩,⟨_,hn',fun j y v' e1 e2 e3=>?_⟩,fun y c e=>?_,I.free,I.freeC,fun p hp=>?_,tracked ⟨oL,hoL,I.free⟩ hs,by simpa using I.len⟩ ⟨_,hs,.inl rfl⟩
  ·exact (hs.2 b (Nat.ne_of_lt (Nat.lt_of_lt_of_le (Heap.lt_size e) I.ok.above))).trans (I.base.keep b o e n hb hx)
  ·obtain ⟨sl,e1⟩:=I.base.slot b o e n hb hx
   exact ⟨sl,(hs.2 b (Nat.ne_of_lt (Nat.lt_of_lt_of_le (Heap.lt_size e) I.ok.above))).trans e1⟩
  ·obtain ⟨o',e1⟩:=I.base.there b o e hx
   exact ⟨o',(hs.2 b (Nat.ne_of_lt (Nat.lt_of_lt_of_le (Heap.lt_size e) I.ok.above))).trans e1⟩
  ·by_cases hj:j=i
   ·subst hj
    rw [hi] at e1; cases e1
    rw [List.getElem?_set_self hiσ] at e2
    cases e2
    exact ⟨u,r,.inl ⟨hk,by simp⟩⟩
   ·rw [List.getElem?_set_ne (Ne.symm hj)] at e2
    obtain ⟨u',r',q⟩:=hl j y v' e1 e2 e3
    refine ⟨u',r',?_⟩
    rcases q with ⟨k,e⟩ | ⟨k,c,e,z⟩
    ·refine .inl ⟨k,?_⟩
     have:y ≠ x:=fun e=>hj (afH hN e1 (e ▸ hi))
     simp [this,e]
    ·exact .inr ⟨k,c,e,z.sameBut hs (cne y c e)⟩
  ·obtain ⟨w',z⟩:=I.cell y c e
   exact ⟨w',z.sameBut hs (cne y c e)⟩
  ·obtain ⟨e,n,ne,nf,d⟩:=I.pin p hp
   exact ⟨(hs.2 p.1 ne).trans e,n,ne,nf,d⟩
 ·have hfn:X.fn x=true:=by
   rcases hf with z | z
   ·exact z
   ·rw [z] at hk; cases hk
  obtain ⟨c,hc⟩:=I.ok.has x (.inl hk)
  obtain ⟨w',z⟩:=I.cell x c hc
  refine wpAny_storeName_cell I.ok.kind hk hc z (fun h' hc' hs=>?_)
  obtain ⟨oc,hoc,hocd⟩:=id z
  refine h { s with heap:=h' } ⟨I.ok,I.os,I.bare,⟨fun b o e n hb hx=>?_,fun b o e n hb hx=>?_,I.base.free,fun b o e hx=>?_,I.base.tups,I.base.frzs,I.base.tbls⟩,⟨m,hn.sameBut hs (Ne.symm (cne x c hc)),fun j y v' e1 e2 e3=>?_⟩,fun y c' e=>?_,I.free,I.freeC,fun p hp=>?_,tracked ⟨oc,hoc,I.freeC x c hc⟩ hs,by simpa using I.len⟩ ⟨c,hs,.inr hc⟩
  ·exact (hs.2 b (Nat.ne_of_lt (Nat.lt_of_lt_of_le (Heap.lt_size e) (I.ok.cab x c hfn hc)))).trans (I.base.keep b o e n hb hx)
  ·obtain ⟨sl,e1⟩:=I.base.slot b o e n hb hx
   exact ⟨sl,(hs.2 b (Nat.ne_of_lt (Nat.lt_of_lt_of_le (Heap.lt_size e) (I.ok.cab x c hfn hc)))).trans e1⟩
  ·obtain ⟨o',e1⟩:=I.base.there b o e hx
   exact ⟨o',(hs.2 b (Nat.ne_of_lt (Nat.lt_of_lt_of_le (Heap.lt_size e) (I.ok.cab x c hfn hc)))).trans e1⟩
  ·by_cases hj:j=i
   ·subst hj
    rw [hi] at e1; cases e1
    rw [List.getElem?_set_self hiσ] at e2
    cases e2
    exact ⟨u,r,.inr ⟨.inl hk,c,hc,hc'⟩⟩
   ·rw [List.getElem?_set_ne (Ne.symm hj)] at e2
    obtain ⟨u',r',q⟩:=hl j y v' e1 e2 e3
    refine ⟨u',r',?_⟩
    rcases q with q | ⟨k,c',e,z'⟩
    ·exact .inl q
    ·refine .inr ⟨k,c',e,z'.sameBut hs ?_⟩
     rintro rfl
     exact hj (afH hN e1 (I.ok.inj _ _ _ e hc ▸ hi))
  ·by_cases hcc:c'=c
   ·subst hcc; exact ⟨_,hc'⟩
   ·obtain ⟨w2,z2⟩:=I.cell y c' e
    exact ⟨w2,z2.sameBut hs hcc⟩
  ·obtain ⟨e,n,ne,nf,d⟩:=I.pin p hp
   refine ⟨(hs.2 p.1 ?_).trans e,n,ne,nf,d⟩
   intro q
   rw [q,hoc] at e
   have q':oc=p.2:=Option.some.inj e
   exact d w' (by rw [←q']; exact hocd)
theorem aat {M:Model}{A:Around}{E:Value->SP0}{i:Nat}{x:Str}{v:V}{u:Value}{Q:Unit->SP0} (I:Inv X Kp σ H s) (hN:X.N.Nodup) (hi:X.N[i]?=some x) (hx:Loc X.env.scope x) (r:j8 v u)
  (h:∀ s',Inv X Kp (σ.set i (some v)) H s'->Q () s') (hf:X.fn x=true ∨ X.env.scope.names.lookup x=some .local:=by first | exact .inl rfl | exact .inr rfl | assumption):wpAny M A (storeName X.env x u) Q E s:=
 ajb I hN hi hx r (fun s' I' _=>h s' I') hf
theorem Inv.call' {s':Shared}{ch:List Addr} (I:Inv X Kp σ H s) (ho:s'.os=s.os) (u:Un (frs X.stack) ch H H' s.heap s'.heap) (hok:HOk X.prog X.w H' s'.heap) (hg:AllBare s'.gens)
  (hch:∀ b ∈ ch,(b ∈ X.ex ∨ X.s₀.heap.objs.size<=b)/\b ≠ X.env.locals/\(∀ x c,X.env.cells.lookup x=some c->c ≠ b)/\∀ p ∈ X.pn++Kp,p.1 ≠ b):Inv X Kp σ H' s':=by
 obtain ⟨h',g',d',t',o'⟩:=s'
 have e:o'=s.os:=ho
 subst e
 exact I.call (g':=g') (t':=t') (d':=d') u hok hg hch
end
noncomputable abbrev XK:=Value->Option Addr->Hp->Prop
noncomputable abbrev St:=List (Option V)
noncomputable abbrev VK:=V->Hp->Prop
noncomputable abbrev TE:=St->Hp->VK->Prop
noncomputable abbrev TT:=St->Hp->(Bool->Hp->Prop)->Prop
noncomputable abbrev TA:=St->Hp->(List V->Hp->Prop)->Prop
structure Ends where
 nx:St->Hp->Prop
 rt:VK
 bk:St->Hp->Prop:=fun _ _=>False
 ct:St->Hp->Prop:=fun _ _=>False
noncomputable abbrev TS:=Ends->St->Hp->Prop
noncomputable def EP (X:Cx) (Kp:List (Addr × Obj)) (σ:St) (Q:VK) (u:Value) (s':Shared):Prop:=∃ v H',Inv X Kp σ H' s'/\j8 v u/\Q v H'
noncomputable def TP (X:Cx) (Kp:List (Addr × Obj)) (σ:St) (Q:Bool->Hp->Prop) (b:Bool) (s':Shared):Prop:=∃ H',Inv X Kp σ H' s'/\Q b H'
noncomputable def AP (X:Cx) (Kp:List (Addr × Obj)) (σ:St) (Q:List V->Hp->Prop) (us:List Value) (s':Shared):Prop:=∃ vs H',Inv X Kp σ H' s'/\jP vs us/\Q vs H'
noncomputable def SP (X:Cx) (Kp:List (Addr × Obj)) (D:Ends) (f:Flow) (s':Shared):Prop:=
 match f with
 | .next=>∃ σ' H',Inv X Kp σ' H' s'/\D.nx σ' H'
 | .brk=>∃ σ' H',Inv X Kp σ' H' s'/\D.bk σ' H'
 | .cont=>∃ σ' H',Inv X Kp σ' H' s'/\D.ct σ' H'
 | .ret u=>∃ v σ' H',Inv X Kp σ' H' s'/\j8 v u/\D.rt v H'
noncomputable def PE (X:Cx) (e:Expr) (t:TE):Prop:=
 ∀ (Kp:List (Addr × Obj)) (s:Shared) (σ:St) (H:Hp) (Q:VK),Inv X Kp σ H s->t σ H Q->wpAny (model X.prog X.w) X.A (eval e X.env) (EP X Kp σ Q) X.xe s
noncomputable def PT (X:Cx) (e:Expr) (t:TT):Prop:=
 ∀ (Kp:List (Addr × Obj)) (s:Shared) (σ:St) (H:Hp) (Q:Bool->Hp->Prop),Inv X Kp σ H s->t σ H Q->wpAny (model X.prog X.w) X.A (isTrue e X.env (eval e X.env)) (TP X Kp σ Q) X.xe s
noncomputable def PW (X:Cx) (e:Expr) (t:TT):Prop:=
 ∀ (whole:Sem Value) (Kp:List (Addr × Obj)) (s:Shared) (σ:St) (H:Hp) (Q:Bool->Hp->Prop),Inv X Kp σ H s->t σ H Q->wpAny (model X.prog X.w) X.A (isTrue e X.env whole) (TP X Kp σ Q) X.xe s
theorem PW.pt {X:Cx}{e:Expr}{t:TT} (h:PW X e t):PT X e t:=h _
noncomputable def PA (X:Cx) (es:List Expr) (t:TA):Prop:=
 ∀ (pos:Pos) (Kp:List (Addr × Obj)) (s:Shared) (σ:St) (H:Hp) (Q:List V->Hp->Prop),Inv X Kp σ H s->t σ H Q->wpAny (model X.prog X.w) X.A (spliced (backTo pos (starEach es X.env))) (AP X Kp σ Q) X.xe s
noncomputable def PS (X:Cx) (st:Stmt) (t:TS):Prop:=
 ∀ (Kp:List (Addr × Obj)) (s:Shared) (σ:St) (H:Hp) (D:Ends),Inv X Kp σ H s->t D σ H->wpAny (model X.prog X.w) X.A (exec st X.env) (SP X Kp D) X.xe s
noncomputable def PSs (X:Cx) (st:List Stmt) (t:TS):Prop:=
 ∀ (Kp:List (Addr × Obj)) (s:Shared) (σ:St) (H:Hp) (D:Ends),Inv X Kp σ H s->t D σ H->wpAny (model X.prog X.w) X.A (execs st X.env) (SP X Kp D) X.xe s
theorem thn {α:Type}{t:Sem α}{Q Q':α->SP0}{M:Model}{A:Around}{E:Value->SP0}{s:Shared} (h:wpAny M A t Q E s) (hQ:∀ a s,Q a s->Q' a s):wpAny M A t Q' E s:=wpAny_mono h hQ fun _ _ x=>x
section
variable {X:Cx}
noncomputable def aoU (i:Nat):TE:=fun σ H Q=>∃ v,σ[i]?=some (some v)/\Q v H
noncomputable def tC (v:V):TE:=fun _ H Q=>Q v H
theorem aac {i:Nat}{x:Str}{pos:Pos} (hN:X.N[i]?=some x) (hv:Vis X.env.scope x) (hd:(x == ("__debug__":Str))=false:=by decide) (hcd:(x == ("__classdict__":Str))=false:=by decide):PE X (.Name x pos) (aoU i):=by
 intro Kp s σ H Q I h
 obtain ⟨v,e,h⟩:=h
 obtain ⟨m,hn,hl⟩:=I.loc
 obtain ⟨u,r,l⟩:=hl i x v hN e hv
 have fin:EP X Kp σ Q u s:=⟨v,H,I,r,h⟩
 rcases l with ⟨hk,hm⟩ | ⟨hk,c,hc,hcell⟩
 ·exact wpAny_Name (wpAny_loadName_local I.ok.kind hk hn hm fin) hd
 ·rcases hk with hk | hk
  ·exact wpAny_Name (wpAny_loadName_cell I.ok.kind hk hc hcell fin) hd
  ·exact wpAny_Name (wpAny_loadName_free I.ok.kind hk hc hcell fin hcd) hd
theorem aoV {i j pos}:PE X (.Constant (.int i) j pos) (tC (.int i)):=fun _ _ _ H _ I h=>wpAny_Constant_int ⟨.int i,H,I.tok _,⟨_,rfl⟩,h⟩
theorem aqt {b j pos}:PE X (.Constant (.bool b) j pos) (tC (.bl b)):=fun _ _ _ H _ I h=>Constant_bool ⟨.bl b,H,I,rfl,h⟩
theorem akw {j pos}:PE X (.Constant .none j pos) (tC .non):=fun _ _ _ H _ I h=>Constant_none ⟨.non,H,I,rfl,h⟩
theorem akx {x j pos}:PE X (.Constant (.str x) j pos) (tC (.str x)):=fun _ _ _ H _ I h=>Calls.Constant_str ⟨.str x,H,I.tok _,⟨_,rfl⟩,h⟩
noncomputable def Gl (X:Cx) (x:Str):Prop:=X.env.kindOf x=some .globalImplicit
theorem JF {E:Value->SP0}{Kp:List (Addr × Obj)}{s:Shared}{σ:St}{H:Hp}{x:Str}{u:Value}{pos:Pos}{Q:Value->SP0} (I:Inv X Kp σ H s) (hg:Gl X x) (hm:X.mg x=some u) (h:Q u s)
  (hd:(x == ("__debug__":Str))=false:=by decide):wpAny (model X.prog X.w) X.A (eval (.Name x pos) X.env) Q E s:=
 Calls.Name_function_global I.ok.kind hg (Calls.loadGlobal_global (by rw [I.ok.glob]; exact I.mod.glob.keeps I.bk) hm h) hd
theorem Q8 {E:Value->SP0}{Kp:List (Addr × Obj)}{s:Shared}{σ:St}{H:Hp}{x:Str}{u:Value}{pos:Pos}{Q:Value->SP0} (I:Inv X Kp σ H s) (hg:Gl X x) (hm:X.mg x=none) (hv:bootBuiltins x=some u) (h:Q u s)
  (hn:x ≠ "__name__":=by decide) (hd:(x == ("__debug__":Str))=false:=by decide):wpAny (model X.prog X.w) X.A (eval (.Name x pos) X.env) Q E s:=by
 obtain ⟨mb,h1,h2⟩:=I.mod.blt
 exact Calls.Name_function_global I.ok.kind hg (Calls.loadGlobal_builtin (by rw [I.ok.glob]; exact I.mod.glob.keeps I.bk) hm (by rw [I.ok.blt]; exact h1.keeps I.bk) ((h2 x hn).trans hv) h) hd
theorem ab8 {x:Str}{v:V}{u:Value}{pos:Pos} (hg:Gl X x) (hm:X.mg x=some u) (r:j8 v u) (hd:(x == ("__debug__":Str))=false:=by decide):PE X (.Name x pos) (tC v):=
 fun _ _ _ H _ I h=>JF I hg hm ⟨v,H,I,r,h⟩ hd
theorem aie {x:Str}{v:V}{u:Value}{pos:Pos} (hg:Gl X x) (hm:X.mg x=none) (hv:bootBuiltins x=some u) (r:j8 v u) (hn:x ≠ "__name__":=by decide) (hd:(x == ("__debug__":Str))=false:=by decide):PE X (.Name x pos) (tC v):=
 fun _ _ _ H _ I h=>Q8 I hg hm hv ⟨v,H,I,r,h⟩ hn hd
variable {a b:Expr}{ta tb:TE}{pos:Pos}
noncomputable def tB (t:TE):TT:=fun σ H Q=>t σ H fun x H1=>∃ c,x= .bl c/\Q c H1
theorem aoW {e:Expr}{t:TE} (h:PE X e t) (he:∀ whole,isTrue e X.env whole=(do let v ←whole; standAt e.pos; holding [v] (truthy v)):=by intro _; rfl):PT X e (tB t):=by
 intro Kp s σ H Q I hw
 refine isTrue_plain (thn (h Kp s σ H _ I hw) fun v s1 ⟨x,H1,I1,r1,q1⟩=>?_) (he _)
 obtain ⟨d,rfl,q⟩:=q1
 cases r1
 exact wpAny_truthy_bool ⟨H1,I1,q⟩
variable {tA tB':TT}{qp:List Expr}
noncomputable def tOr (t u:TT):TT:=fun σ H Q=>t σ H fun c H1=>if c=true then Q true H1 else u σ H1 Q
noncomputable def arS (t:TT):TT:=fun σ H Q=>t σ H fun c H1=>Q (!c) H1
theorem aky (ha:PT X a tA):PW X (.BoolOp .Or [a] pos) tA:=by
 intro wh Kp s σ H Q I h
 refine isTrue_or (thn (ha Kp s σ H Q I h) fun c s1 e=>?_)
 cases c with
 | false=>exact isTrue_or_nil e
 | true=>exact e
theorem aoz (ha:PT X a tA) (hb:PW X (.BoolOp .Or (b::qp) pos) tB'):PW X (.BoolOp .Or (a::b::qp) pos) (tOr tA tB'):=by
 intro wh Kp s σ H Q I h
 refine isTrue_or (thn (ha Kp s σ H _ I h) fun c s1 ⟨H1,I1,q1⟩=>?_)
 cases c with
 | true=>exact ⟨H1,I1,q1⟩
 | false=>exact hb wh Kp s1 σ H1 Q I1 q1
theorem akz (ha:PT X a tA):PT X (.UnaryOp .Not a pos) (arS tA):=by
 intro Kp s σ H Q I h
 exact isTrue_not (ha Kp s σ H (fun c H1=>Q (!c) H1) I h)
noncomputable def aqu (ta tb:TE):TE:=fun σ H Q=>ta σ H fun x H1=>∃ c,x= .bl c/\if c=true then tb σ H1 Q else Q (.bl false) H1
theorem aoX {op}{t:TE} (h:PE X a t):PE X (.BoolOp op [a] pos) t:=fun Kp s σ H Q I hw=>BoolOp_one (h Kp s σ H Q I hw)
theorem aoY (ha:PE X a ta) (hb:PE X (.BoolOp .And (b::qp) pos) tb):PE X (.BoolOp .And (a::b::qp) pos) (aqu ta tb):=by
 intro Kp s σ H Q I h
 refine BoolOp_and (thn (ha Kp s σ H _ I h) fun v s1 ⟨x,H1,I1,r1,q1⟩=>?_)
 obtain ⟨c,rfl,q1⟩:=q1
 cases r1
 refine wpAny_truthy_bool ?_
 cases c with
 | true=>exact hb Kp s1 σ H1 Q I1 q1
 | false=>exact ⟨.bl false,H1,I1,rfl,q1⟩
noncomputable def tIf (t:TT) (ta tb:TE):TE:=fun σ H Q=>t σ H fun c H1=>if c=true then ta σ H1 Q else tb σ H1 Q
theorem akA {c:Expr} (hc:PT X c tA) (ha:PE X a ta) (hb:PE X b tb):PE X (.IfExp c a b pos) (tIf tA ta tb):=by
 intro Kp s σ H Q I h
 refine wpAny_IfExp (thn (hc Kp s σ H _ I h) fun d s1 ⟨H1,I1,q1⟩=>?_)
 cases d with
 | true=>exact ha Kp s1 σ H1 Q I1 q1
 | false=>exact hb Kp s1 σ H1 Q I1 q1
end
noncomputable def SqL (K:Fg) (H:Hp) (a:Addr) (xs:List V):Prop:=
 Rd H a (.lst xs) ∨
  ∃ (o:Obj) (its:Array Value) (n:Nat),K.lookup a=some o/\o.cls= .type "list"/\o.dict=none/\o.data= .seq its n/\its.size<=sizeLine/\jP xs its.toList
noncomputable def SqT (K:Fg) (H:Hp) (a:Addr) (xs:List V):Prop:=
 Rd H a (.tup xs) ∨
  ∃ (o:Obj) (its:Array Value) (n:Nat),K.lookup a=some o/\o.cls= .type "tuple"/\o.data= .seq its n/\its.size<=sizeLine/\jP xs its.toList
noncomputable def arT:Value->Option V
 | .none=>some .non
 | .bool b=>some (.bl b)
 | .int i _=>some (.int i)
 | .str x _=>some (.str x)
 | .bytes b _=>some (.byt b)
 | .float b _=>some (.flt b)
 | .ref a=>some (.ref a)
 | .type n=>some (.ty n)
 | _=>none
theorem j8.abs {x:V}{u:Value} (r:j8 x u):arT u=some x:=by
 cases x with
 | non=>cases r; rfl
 | bl _=>cases r; rfl
 | int _=>obtain ⟨t,rfl⟩:=r; rfl
 | str _=>obtain ⟨t,rfl⟩:=r; rfl
 | byt _=>obtain ⟨t,rfl⟩:=r; rfl
 | flt _=>obtain ⟨t,rfl⟩:=r; rfl
 | ref _=>cases r; rfl
 | ty _=>cases r; rfl
theorem j8.inj {x y:V}{u:Value} (r:j8 x u) (q:j8 y u):x=y:=Option.some.inj (r.abs.symm.trans q.abs)
theorem jP.inj:∀ {xs ys:List V}{us:List Value},jP xs us->jP ys us->xs=ys
 | _,_,_,.nil,.nil=>rfl
 | _,_,_,.cons r t,.cons r' t'=>by rw [r.inj r',jP.inj t t']
section
variable {X:Cx}{Kp:List (Addr × Obj)}{σ:St}{H:Hp}{s:Shared}{a:Addr}{xs ys:List V}
theorem SqL.of {K:Fg} (h:H a=some (.lst xs)):SqL K H a xs:= .inl (.inl h)
theorem SqT.of {K:Fg} (h:H a=some (.tup xs)):SqT K H a xs:= .inl (.inl h)
theorem Inv.list (I:Inv X Kp σ H s) (h:SqL X.K H a xs):∃ its:List Value,jP xs its/\PlainL s.heap a its.toArray/\xs.length<=sizeLine:=by
 rcases h with h | ⟨o,its,n,hk,hc,hd,hs,hz,r⟩
 ·obtain ⟨z,its,n,r,e⟩:=h.ok I.hok
  exact ⟨its,r,⟨_,n,e,rfl,rfl,rfl⟩,z⟩
 ·refine ⟨its.toList,r,⟨o,n,I.kIn a o hk,hc,hd,by simpa using hs⟩,?_⟩
  have e:=r.length
  simp only [Array.length_toList] at e
  omega
theorem Inv.tuple (I:Inv X Kp σ H s) (h:SqT X.K H a xs):∃ its:List Value,jP xs its/\IsTup s.heap a its.toArray/\xs.length<=sizeLine:=by
 rcases h with h | ⟨o,its,n,hk,hc,hs,hz,r⟩
 ·obtain ⟨z,its,r,p⟩:=h.ok I.hok
  exact ⟨its,r,p,z⟩
 ·refine ⟨its.toList,r,⟨o,I.kIn a o hk,hc,n,by simpa using hs⟩,?_⟩
  have e:=r.length
  simp only [Array.length_toList] at e
  omega
theorem Inv.list_inj (I:Inv X Kp σ H s) (h:SqL X.K H a xs) (h':SqL X.K H a ys):xs=ys:=by
 obtain ⟨its,r,⟨o,n,e,_,_,d⟩,_⟩:=I.list h
 obtain ⟨its',r',⟨o',n',e',_,_,d'⟩,_⟩:=I.list h'
 rw [e] at e'; cases e'
 rw [d] at d'
 injection d' with d1 _
 have:its=its':=by simpa using congrArg Array.toList d1
 subst this
 exact r.inj r'
theorem Inv.tuple_inj (I:Inv X Kp σ H s) (h:SqT X.K H a xs) (h':SqT X.K H a ys):xs=ys:=by
 obtain ⟨its,r,⟨o,e,_,n,d⟩,_⟩:=I.tuple h
 obtain ⟨its',r',⟨o',e',_,n',d'⟩,_⟩:=I.tuple h'
 rw [e] at e'; cases e'
 rw [d] at d'
 injection d' with d1 _
 have:its=its':=by simpa using congrArg Array.toList d1
 subst this
 exact r.inj r'
end
noncomputable abbrev Cx.wish (X:Cx) (E:Value->SP0):Cx:={ X with xe:=E }
noncomputable abbrev Cx.nox (X:Cx):Cx:=X.wish fun _ _=>False
theorem Cx.Ok.wish {X:Cx} (ok:X.Ok) (E:Value->SP0):(X.wish E).Ok:=
 ⟨ok.mod,ok.kind,ok.glob,ok.blt,ok.above,ok.inj,ok.has,ok.cab,ok.hd,ok.frames,ok.stk,ok.exf,ok.bs,ok.bsz,ok.noex,ok.exfs,ok.funs,ok.frf⟩
theorem Cx.Ok.unwish {X:Cx}{E:Value->SP0} (ok:(X.wish E).Ok):X.Ok:=
 ⟨ok.mod,ok.kind,ok.glob,ok.blt,ok.above,ok.inj,ok.has,ok.cab,ok.hd,ok.frames,ok.stk,ok.exf,ok.bs,ok.bsz,ok.noex,ok.exfs,ok.funs,ok.frf⟩
section
variable {X:Cx}{Kp:List (Addr × Obj)}{σ:St}{H:Hp}{s:Shared}{E:Value->SP0}
theorem Inv.wish (I:Inv X Kp σ H s) (E:Value->SP0):Inv (X.wish E) Kp σ H s:=⟨I.ok.wish E,I.os,I.bare,I.base,I.loc,I.cell,I.free,I.freeC,I.pin,I.hok,I.len⟩
theorem Inv.unwish (I:Inv (X.wish E) Kp σ H s):Inv X Kp σ H s:=⟨I.ok.unwish,I.os,I.bare,I.base,I.loc,I.cell,I.free,I.freeC,I.pin,I.hok,I.len⟩
theorem SP.unwish {D:Ends}{f:Flow}{s':Shared} (h:SP (X.wish E) Kp D f s'):SP X Kp D f s':=by
 cases f with
 | next=>obtain ⟨σ',H',I,q⟩:=h; exact ⟨σ',H',I.unwish,q⟩
 | brk=>obtain ⟨σ',H',I,q⟩:=h; exact ⟨σ',H',I.unwish,q⟩
 | cont=>obtain ⟨σ',H',I,q⟩:=h; exact ⟨σ',H',I.unwish,q⟩
 | ret u=>obtain ⟨v,σ',H',I,r,q⟩:=h; exact ⟨v,σ',H',I.unwish,r,q⟩
theorem PSs.nox {st:List Stmt}{t:TS} (h:PSs X.nox st t):PSs X st t:=fun Kp s σ H D I hw=>
 wpAny_mono (h Kp s σ H D (I.wish _) hw) (fun _ _ q=>q.unwish) fun _ _ z=>False.elim z
end
section
variable {X:Cx}{st:Stmt}{qp:List Stmt}{t u:TS}{e:Expr}{te:TE}{pos:Pos}
noncomputable def aqv:TS:=fun D σ H=>D.nx σ H
noncomputable def arU (t u:TS):TS:=fun D σ H=>t { D with nx:=u D } σ H
theorem aeq:PSs X [] aqv:=fun _ _ σ H _ I h=>wpAny_execs_nil ⟨σ,H,I,h⟩
theorem Qz (h1:PS X st t) (h2:PSs X qp u):PSs X (st::qp) (arU t u):=by
 intro Kp s σ H D I h
 refine wpAny_execs_cons (thn (h1 Kp s σ H { D with nx:=u D } I h) fun f s1 q=>?_)
 cases f with
 | next=>
  obtain ⟨σ',H',I',q⟩:=q
  exact h2 Kp s1 σ' H' D I' q
 | ret v=>exact q
 | brk=>exact q
 | cont=>exact q
theorem aer (h1:PS X st t):PSs X [st] t:=by
 intro Kp s σ H D I h
 refine wpAny_execs_cons (thn (h1 Kp s σ H D I h) fun f s1 q=>?_)
 cases f with
 | next=>exact wpAny_execs_nil q
 | ret v=>exact q
 | brk=>exact q
 | cont=>exact q
theorem Inv.quiet {Kp:List (Addr × Obj)}{σ:St}{H:Hp}{s:Shared} (I:Inv X Kp σ H s):interactive X.env=false:=by simp [interactive,I.ok.kind]
noncomputable def aqw (te:TE):TS:=fun D σ H=>te σ H fun _ H1=>D.nx σ H1
theorem ab9 (he:PE X e te) (hs:swapsWith e none pos.line X.env=pure false:=by rfl):PS X (.Expr e pos) (aqw te):=by
 intro Kp s σ H D I h
 exact wpAny_Expr_any (thn (he Kp s σ H _ I h) fun v s1 ⟨x,H1,I1,r1,q1⟩=>⟨σ,H1,I1,q1⟩) I.quiet hs
noncomputable def arV (te:TE):TS:=fun D σ H=>te σ H D.rt
theorem aes (he:PE X e te):PS X (.Return (some e) pos) (arV te):=by
 intro Kp s σ H D I h
 exact wpAny_Return_some (thn (he Kp s σ H _ I h) fun v s1 ⟨x,H1,I1,r1,q1⟩=>⟨x,σ,H1,I1,r1,q1⟩)
noncomputable def arW (c:TT) (t u:TS):TS:=fun D σ H=>c σ H fun b H1=>if b=true then t D σ H1 else u D σ H1
theorem aoA {c:Expr}{a b:List Stmt}{tc:TT} (hc:PT X c tc) (ha:PSs X a t) (hb:PSs X b u):PS X (.If c a b pos) (arW tc t u):=by
 intro Kp s σ H D I h
 refine wpAny_If (thn (hc Kp s σ H _ I h) fun d s1 ⟨H1,I1,q1⟩=>?_)
 cases d with
 | true=>exact ha Kp s1 σ H1 D I1 q1
 | false=>exact hb Kp s1 σ H1 D I1 q1
noncomputable def akB:TS:=fun _ _ _=>False
theorem akC:PS X st akB:=fun _ _ _ _ _ _ h=>h.elim
theorem ajc {sts:List Stmt}:PSs X sts akB:=fun _ _ _ _ _ _ h=>h.elim
end
noncomputable abbrev TG:=V->St->Hp->(St->Hp->Prop)->Prop
noncomputable abbrev TGs:=List V->St->Hp->(St->Hp->Prop)->Prop
noncomputable def PG (X:Cx) (target:Expr) (t:TG):Prop:=
 ∀ (Kp:List (Addr × Obj)) (s:Shared) (σ:St) (H:Hp) (v:V) (u:Value) (Q:St->Hp->Prop),Inv X Kp σ H s->j8 v u->t v σ H Q->
  wpAny (model X.prog X.w) X.A (assign target X.env u) (fun _ s'=>∃ σ' H',Inv X Kp σ' H' s'/\Q σ' H') X.xe s
noncomputable def PGs (X:Cx) (ts:List Expr) (t:TGs):Prop:=
 ∀ (Kp:List (Addr × Obj)) (s:Shared) (σ:St) (H:Hp) (vs:List V) (us:List Value) (Q:St->Hp->Prop),Inv X Kp σ H s->jP vs us->t vs σ H Q->
  wpAny (model X.prog X.w) X.A (assignInOrder ((assignEach ts X.env).map (·.2)) us) (fun _ s'=>∃ σ' H',Inv X Kp σ' H' s'/\Q σ' H') X.xe s
noncomputable abbrev aoZ:=V->V->V->Hp->(Hp->Prop)->Prop
noncomputable def ao0 (X:Cx) (t:aoZ):Prop:=
 ∀ (Kp:List (Addr × Obj)) (s:Shared) (σ:St) (H:Hp) (o i v:V) (ov iv u:Value) (Q:Hp->Prop),Inv X Kp σ H s->j8 o ov->j8 i iv->j8 v u->t o i v H Q->
  wpAny (model X.prog X.w) X.A (setItem ov iv u) (fun _ s'=>∃ H',Inv X Kp σ H' s'/\Q H') X.xe s
section
variable {X:Cx}{pos:Pos}
noncomputable def aoB (i:Nat):TG:=fun v σ H Q=>Q (σ.set i (some v)) H
theorem aca {i:Nat}{x:Str} (hN:X.N.Nodup) (hi:X.N[i]?=some x) (hx:Loc X.env.scope x) (hf:X.fn x=true ∨ X.env.scope.names.lookup x=some .local:=by first | exact .inl rfl | exact .inr rfl | assumption):PG X (.Name x pos) (aoB i):=by
 intro Kp s σ H v u Q I r h
 exact wpAny_assign_Name (aat I hN hi hx r (fun s' I'=>⟨_,H,I',h⟩) hf)
noncomputable def arX:TGs:=fun vs σ H Q=>vs=[]/\Q σ H
noncomputable def aqx (t:TG) (u:TGs):TGs:=fun vs σ H Q=>∃ v r,vs=v::r/\t v σ H fun σ' H'=>u r σ' H' Q
theorem aif:PGs X [] arX:=by
 intro Kp s σ H vs us Q I r h
 obtain ⟨e,h⟩:=h
 subst e
 cases r
 exact assignInOrder_nil ⟨σ,H,I,h⟩
theorem afI {e:Expr}{es:List Expr}{t:TG}{u:TGs} (h1:PG X e t) (h2:PGs X es u)
  (hs:(assignEach (e::es) X.env).map (·.2)=assign e X.env::(assignEach es X.env).map (·.2):=by rfl):PGs X (e::es) (aqx t u):=by
 intro Kp s σ H vs us Q I r h
 obtain ⟨v,vr,e1,h⟩:=h
 subst e1
 cases r with
 | cons r rr=>
  rw [hs]
  refine assignInOrder_cons (thn (h1 Kp s σ H _ _ _ I r h) fun _ s1 ⟨σ1,H1,I1,q1⟩=>?_)
  exact h2 Kp s1 σ1 H1 _ _ Q I1 rr q1
noncomputable def arY (K:Fg) (n:Nat) (t:TGs):TG:=fun v σ H Q=>∃ a xs,v= .ref a/\SqT K H a xs/\xs.length=n/\t xs σ H Q
theorem akD {es:List Expr}{k:Nat}{t:TGs}{n:Nat} (hc:X.calm=true) (h:PGs X es t)
  (hn:(assignEach es X.env).length=n:=by rfl) (hst:(assignEach es X.env).findIdx? (·.1)=none:=by rfl):PG X (.Tuple es k pos) (arY X.K n t):=by
 intro Kp s σ H v u Q I r hw
 obtain ⟨a,xs,e1,hq,hl,hw⟩:=hw
 subst e1
 cases r
 obtain ⟨its,rv,ht,hz⟩:=I.tuple hq
 refine assign_Tuple_tuple (I.ok.hd hc) ht (by simp [hn,←hl,rv.length]) hst fun h' hx=>?_
 have I1:Inv X Kp σ H { s with heap:=h' }:=I.kept (t':=s.toks) fun b o e=>hx b o (Nat.ne_of_lt (Heap.lt_size e)) e
 exact h Kp _ σ H xs _ Q I1 (by simpa using rv) hw
noncomputable def arZ (to ti:TE) (t:aoZ):TG:=fun v σ H Q=>to σ H fun o H1=>ti σ H1 fun i H2=>t o i v H2 fun H3=>Q σ H3
theorem ao1 {o i:Expr}{to ti:TE}{t:aoZ} (ho:PE X o to) (hi:PE X i ti) (hs:ao0 X t)
  (ha:∀ v,assign (.Subscript o i pos) X.env v=(do
   let ov ←holding [v] (eval o X.env)
   let iv ←holding [v,ov] (eval i X.env)
   standAt pos
   holding [v,ov,iv] (setItem ov iv v)
   release [v,ov,iv] []):=by intro _; rfl):PG X (.Subscript o i pos) (arZ to ti t):=by
 intro Kp s σ H v u Q I r h
 rw [ha]
 refine wpAny_bind (wpAny_holding (thn (ho Kp s σ H _ I h) fun ov s1 ⟨x,H1,I1,r1,q1⟩=>?_))
 refine wpAny_bind (wpAny_holding (thn (hi Kp s1 σ H1 _ I1 q1) fun iv s2 ⟨y,H2,I2,r2,q2⟩=>?_))
 refine wpAny_bind (wpAny_standAt (wpAny_bind (wpAny_holding (thn (hs Kp s2 σ H2 x y v ov iv u _ I2 r1 r2 r q2) fun _ s3 ⟨H3,I3,q3⟩=>?_))))
 exact wpAny_release ⟨σ,H3,I3,q3⟩
noncomputable def aqy (te:TE) (g:TG):TS:=fun D σ H=>te σ H fun x H1=>g x σ H1 D.nx
theorem ao2 {tg e:Expr}{te:TE}{g:TG} (he:PE X e te) (hg:PG X tg g) (hs:swapsWithSole [tg] e pos.line X.env=pure false:=by rfl) (hw:swappedStores [tg] e X.env=pure none:=by rfl)
  (h1:(assignEach [tg] X.env).map (·.2)=[assign tg X.env]:=by rfl):PS X (.Assign [tg] e pos) (aqy te g):=by
 intro Kp s σ H D I h
 refine wpAny_Assign_stores (thn (he Kp s σ H _ I h) fun v s1 ⟨x,H1,I1,r1,q1⟩=>?_) hs hw
 rw [h1]
 exact thn (hg Kp s1 σ H1 x v _ I1 r1 q1) fun _ s2 q=>q
theorem abb {i:Nat}{x:Str}{e:Expr}{te:TE}{pos':Pos} (hN:X.N.Nodup) (hi:X.N[i]?=some x) (hx:Loc X.env.scope x) (he:PE X e te) (hs:swapsWith e (some (.Name x pos')) pos.line X.env=pure false:=by rfl) (hf:X.fn x=true ∨ X.env.scope.names.lookup x=some .local:=by first | exact .inl rfl | exact .inr rfl | assumption):
  PS X (.Assign [.Name x pos'] e pos) (aqy te (aoB i)):=by
 intro Kp s σ H D I h
 refine wpAny_Assign_Name (thn (he Kp s σ H _ I h) fun v s1 ⟨y,H1,I1,r1,q1⟩=>?_) hs
 exact aat I1 hN hi hx r1 (fun s2 I2=>⟨_,H1,I2,q1⟩) hf
end
section
variable {X:Cx}{pos:Pos}
noncomputable def ao3 (c:TT) (tb:TS):TS:=fun D σ H=>∃ W:Nat->St->Hp->Prop,(∃ m,W m σ H)/\∀ m σ H,W m σ H->
 c σ H fun b H1=>if b=true then ∃ N:St->Hp->Prop,(∀ σ' H',N σ' H'->∃ m',m' < m/\W m' σ' H')/\tb { D with nx:=N,ct:=N,bk:=D.nx } σ H1 else D.nx σ H1
theorem akE {c:Expr}{body:List Stmt}{tc:TT}{tb:TS} (hp:PassesOwn (model X.prog X.w) X.A X.env X.xe) (hc:PT X c tc) (hb:PSs X body tb):PS X (.While c body [] pos) (ao3 tc tb):=by
 intro Kp s σ H D I h
 obtain ⟨W,⟨m0,w0⟩,turn⟩:=h
 refine wpAny_While (codeAny_whileLoop (fun n s'=>∃ σ' H',Inv X Kp σ' H' s'/\W n σ' H') ?_ m0 ⟨σ,H,I,w0⟩)
 rintro n s1 ⟨σ1,H1,I1,w1⟩
 refine wpAny_passesOwn hp (thn (hc Kp s1 σ1 H1 _ I1 (turn n σ1 H1 w1)) fun b s2 ⟨H2,I2,q2⟩=>?_)
 cases b with
 | true=>
  obtain ⟨N,hN,q2⟩:=q2
  rw [if_pos rfl]
  refine wpAny_passesOwn hp (thn (hb Kp s2 σ1 H2 _ I2 q2) fun f s3 q3=>?_)
  cases f with
  | next=>
   obtain ⟨σ3,H3,I3,n3⟩:=q3
   obtain ⟨m',hm,w3⟩:=hN σ3 H3 n3
   exact ⟨m',hm,σ3,H3,I3,w3⟩
  | cont=>
   obtain ⟨σ3,H3,I3,n3⟩:=q3
   obtain ⟨m',hm,w3⟩:=hN σ3 H3 n3
   exact ⟨m',hm,σ3,H3,I3,w3⟩
  | brk=>exact q3
  | ret v=>exact q3
 | false=>
  rw [if_neg Bool.false_ne_true]
  exact wpAny_execs_nil ⟨σ1,H2,I2,q2⟩
end
structure It where
 go:Nat->Hp->Prop
 yld:Nat->Hp->V->Hp->Prop
 stop:Nat->Hp->Prop
noncomputable def afJ (X:Cx) (Kp:List (Addr × Obj)) (H:Hp) (b:Addr):Prop:=
 H b=none/\b ≠ X.env.locals/\b ∉ X.fs/\(b ∈ X.ex ∨ X.s₀.heap.objs.size<=b)/\(∀ x c,X.env.cells.lookup x=some c->c ≠ b)/\∀ p ∈ X.pn++Kp,p.1 ≠ b
theorem Inv.fpOk {X:Cx}{Kp:List (Addr × Obj)}{σ:St}{H H':Hp}{s:Shared}{b:Addr} (I:Inv X Kp σ H s) (hb:s.heap.objs.size<=b) (hn:H' b=none):afJ X Kp H' b:=by
 refine ⟨hn,Nat.ne_of_gt (Nat.lt_of_lt_of_le I.lt hb),I.nofs hb,.inr (Nat.le_trans I.sz hb),fun x c e z=>?_,fun p hp z=>?_⟩
 ·obtain ⟨v,q⟩:=I.cell x c e
  exact absurd (Nat.lt_of_lt_of_le q.lt (by rw [z]; exact hb)) (Nat.lt_irrefl _)
 ·exact absurd (Nat.lt_of_lt_of_le (Heap.lt_size (I.pin p hp).1) (by rw [z]; exact hb)) (Nat.lt_irrefl _)
structure Turn (P:Program) (w:World) (K:Fg) (tg:Expr) (J:It) (fp:List Addr) (it:Addr) (tn:Nat->Heap->Prop):Prop where
 mem:it ∈ fp
 obj:∀ i h,tn i h->∀ b ∈ fp,∃ o,h.get? b=some o/\∀ v,o.data ≠ .cell v
 keep:∀ i h h',tn i h->(∀ b ∈ fp,∀ o,h.get? b=some o->h'.get? b=some o)->tn i h'
 item:∀ (X:Cx),X.prog=P->X.w=w->X.K=K->X.calm=true->∀ (i:Nat) (Kp:List (Addr × Obj)) (s:Shared) (σ:St) (H:Hp) (E:Value->SP0),Inv X Kp σ H s->(∀ b ∈ fp,afJ X Kp H b)->tn i s.heap->J.go i H->
  wpAny (model P w) X.A (pyNext (.ref it)) (fun r s1=>∃ u,r=some u/\
   wpAny (model P w) X.A (letOwnedTupleGo tg (.ref it) u) (fun _ s2=>∃ x H',Inv X Kp σ H' s2/\j8 x u/\J.yld i H x H'/\tn (i+1) s2.heap/\∀ b ∈ fp,H' b=none) E s1) E s
 done:∀ (X:Cx),X.prog=P->X.w=w->X.K=K->X.calm=true->∀ (i:Nat) (Kp:List (Addr × Obj)) (s:Shared) (σ:St) (H:Hp) (E:Value->SP0),Inv X Kp σ H s->(∀ b ∈ fp,afJ X Kp H b)->tn i s.heap->J.stop i H->
  wpAny (model P w) X.A (pyNext (.ref it)) (fun r s1=>r=none/\Inv X Kp σ H s1) E s
 self:∀ (A:Around) (i:Nat) (s:Shared) (Q:Value->SP0) (E:Value->SP0),tn i s.heap->Q (.ref it) s->wpAny (model P w) A (pyIter (.ref it)) Q E s
noncomputable abbrev TI:=St->Hp->(It->Hp->Prop)->Prop
noncomputable def PIE (X:Cx) (Kp:List (Addr × Obj)) (σ:St) (tg:Expr) (R:It->Hp->Prop) (itv:Value) (s2:Shared):Prop:=
 ∃ (it:Addr) (fp:List Addr) (tn:Nat->Heap->Prop) (J:It) (H':Hp),itv= .ref it/\Inv X Kp σ H' s2/\Turn X.prog X.w X.K tg J fp it tn/\tn 0 s2.heap/\(∀ b ∈ fp,afJ X Kp H' b)/\R J H'
noncomputable def PI (X:Cx) (tg iter:Expr) (wi:TI):Prop:=
 ∀ (Kp:List (Addr × Obj)) (s:Shared) (σ:St) (H:Hp) (R:It->Hp->Prop),Inv X Kp σ H s->wi σ H R->
  wpAny (model X.prog X.w) X.A (eval iter X.env) (fun v s1=>wpAny (model X.prog X.w) X.A (pyIter v) (PIE X Kp σ tg R) X.xe s1) X.xe s
theorem akF {M : Model} {A : Around} {E : Value -> Shared -> Prop} {s : Shared} {tg : Expr} {it : Addr} {u : Value} {o : Obj} {n : String} {vs : Array Value} {Q : Unit -> Shared -> Prop} (ho : s.heap.get? it = some o) (hc : o.cls = .type n) (hd : o.data = .fields vs)
    (hn : ["enumerate", "zip", "dict_itemiterator", "dict_reverseitemiterator", "odict_iterator", "itertools.zip_longest", "itertools.pairwise"].contains n = false) (hQ : Q () s) : wpAny M A (letOwnedTupleGo tg (.ref it) u) Q E s := by
  unfold letOwnedTupleGo
  cases tg <;> first
    | exact wpAny_pure hQ
    | (cases u <;> first
        | exact wpAny_pure hQ
        | (refine wpAny_bind (wpAny_load ho ?_)
           rw [hc, hd]
           show wpAny M A (if (["enumerate", "zip", "dict_itemiterator", "dict_reverseitemiterator", "odict_iterator", "itertools.zip_longest", "itertools.pairwise"].contains n && vs[0]? == some (rawInt _)) = true then _ else _) Q E s
           rw [if_neg (by intro h; rw [hn, Bool.false_and] at h; cases h)]
           exact wpAny_pure hQ))
noncomputable def Itl (K:Fg) (a:Addr):It:=
 ⟨fun i H=>∃ xs x,SqL K H a xs/\xs[i]?=some x,fun i H x H'=>H'=H/\∀ xs,SqL K H a xs->xs[i]?=some x,fun i H=>∃ xs,SqL K H a xs/\xs.length<=i⟩
noncomputable def Itt (K:Fg) (a:Addr):It:=
 ⟨fun i H=>∃ xs x,SqT K H a xs/\xs[i]?=some x,fun i H x H'=>H'=H/\∀ xs,SqT K H a xs->xs[i]?=some x,fun i H=>∃ xs,SqT K H a xs/\xs.length<=i⟩
noncomputable def Itr (lo:Int) (n:Nat):It:=⟨fun i _=>i<n,fun i H x H'=>H'=H/\x= .int (lo+i),fun i _=>n<=i⟩
theorem ajd {P:Program}{w:World}{K:Fg}{tg:Expr} (a it:Addr):Turn P w K tg (Itl K a) [it] it (fun i h=>h.IsListIter it a i) where
 mem:=by simp
 obj:=fun i h st b hb=>by
  have e:b=it:=by simpa using hb
  subst e
  obtain ⟨o,e,c,d⟩:=st
  exact ⟨o,e,fun v z=>by rw [d] at z; cases z⟩
 keep:=fun i h h' st k=>st.at fun o e=>k it (by simp) o e
 item:=by
  intro X hP hw hK hc i Kp s σ H E I hf st hg
  subst hP hw hK
  obtain ⟨xs,x,hq,hx⟩:=hg
  obtain ⟨its,rv,p,hz⟩:=I.list hq
  obtain ⟨u,hu,ru⟩:=rv.get hx
  obtain ⟨f0,f1,f2,f3,f4,f5⟩:=hf it (by simp)
  refine wpAny_pyNext_list_item st p.isList (x:=u) (by simpa using hu) fun h' st' sb=>?_
  have I1:Inv X Kp σ H { s with heap:=h' }:=I.turned (t':=s.toks) (fun b o hb e=>(sb.2 b hb).trans e) f0 f1 f3 f4 f5
  obtain ⟨o,e,c,d⟩:=id st'
  exact ⟨u,rfl,akF (s:={ s with heap:=h' }) e c d (by decide) ⟨x,H,I1,ru,⟨rfl,fun ys hy=>by rw [I.list_inj hy hq]; exact hx⟩,st',fun b hb=>(hf b hb).1⟩⟩
 done:=by
  intro X hP hw hK hc i Kp s σ H E I hf st hg
  subst hP hw hK
  obtain ⟨xs,hq,hx⟩:=hg
  obtain ⟨its,rv,p,hz⟩:=I.list hq
  obtain ⟨f0,f1,f2,f3,f4,f5⟩:=hf it (by simp)
  have hl:=rv.length
  exact wpAny_pyNext_list_end (I.ok.hd hc) st p.isList (by simp; omega) fun h' eb=>⟨rfl,I.turned (t':=s.toks) (fun b o hb e=>eb b o hb e) f0 f1 f3 f4 f5⟩
 self:=fun _ _ _ _ _ st h=>wpAny_pyIter_listiter st h
theorem ahc {P:Program}{w:World}{K:Fg}{tg:Expr} (a it:Addr):Turn P w K tg (Itt K a) [it] it (fun i h=>h.IsTupleIter it a i) where
 mem:=by simp
 obj:=fun i h st b hb=>by
  have e:b=it:=by simpa using hb
  subst e
  obtain ⟨o,e,c,d⟩:=st
  exact ⟨o,e,fun v z=>by rw [d] at z; cases z⟩
 keep:=fun i h h' st k=>st.at fun o e=>k it (by simp) o e
 item:=by
  intro X hP hw hK hc i Kp s σ H E I hf st hg
  subst hP hw hK
  obtain ⟨xs,x,hq,hx⟩:=hg
  obtain ⟨its,rv,p,hz⟩:=I.tuple hq
  obtain ⟨u,hu,ru⟩:=rv.get hx
  obtain ⟨f0,f1,f2,f3,f4,f5⟩:=hf it (by simp)
  refine wpAny_pyNext_tuple_item st (show s.heap.IsTuple a its.toArray from p) (x:=u) (by simpa using hu) fun h' st' sb=>?_
  have I1:Inv X Kp σ H { s with heap:=h' }:=I.turned (t':=s.toks) (fun b o hb e=>(sb.2 b hb).trans e) f0 f1 f3 f4 f5
  obtain ⟨o,e,c,d⟩:=id st'
  exact ⟨u,rfl,akF (s:={ s with heap:=h' }) e c d (by decide) ⟨x,H,I1,ru,⟨rfl,fun ys hy=>by rw [I.tuple_inj hy hq]; exact hx⟩,st',fun b hb=>(hf b hb).1⟩⟩
 done:=by
  intro X hP hw hK hc i Kp s σ H E I hf st hg
  subst hP hw hK
  obtain ⟨xs,hq,hx⟩:=hg
  obtain ⟨its,rv,p,hz⟩:=I.tuple hq
  obtain ⟨f0,f1,f2,f3,f4,f5⟩:=hf it (by simp)
  have hl:=rv.length
  exact wpAny_pyNext_tuple_end (I.ok.hd hc) st (show s.heap.IsTuple a its.toArray from p) (by simp; omega) fun h' eb=>⟨rfl,I.turned (t':=s.toks) (fun b o hb e=>eb b o hb e) f0 f1 f3 f4 f5⟩
 self:=fun _ _ _ _ _ st h=>wpAny_pyIter_tupleiter st h
theorem ahd {P:Program}{w:World}{K:Fg}{tg:Expr} (it:Addr) (lo:Int) (n:Nat):Turn P w K tg (Itr lo n) [it] it (fun i h=>IsRangeIter h it (lo+(i:Nat)*1) ((n:Int) - (i:Nat)) 1) where
 mem:=by simp
 obj:=fun i h st b hb=>by
  have e:b=it:=by simpa using hb
  subst e
  exact ⟨_,st,fun v z=>by
   have z':Data.fields _=Data.cell v:=z
   cases z'⟩
 keep:=fun i h h' st k=>k it (by simp) _ st
 item:=by
  intro X hP hw hK hc i Kp s σ H E I hf st hg
  subst hP hw hK
  obtain ⟨f0,f1,f2,f3,f4,f5⟩:=hf it (by simp)
  have W:=Walks.range (prog:=X.prog) (w:=X.w) (I.ok.hd hc) it lo 1 n
  refine W.item i s _ _ hg st fun v h' tk hv st' kk=>?_
  obtain ⟨t,rfl⟩:=hv
  have I1:Inv X Kp σ H { s with heap:=h',toks:=tk }:=I.turned (fun b o hb e=>kk b o (by simpa using hb) e) f0 f1 f3 f4 f5
  refine ⟨_,rfl,akF (s:={ s with heap:=h',toks:=tk }) (n:="range_iterator") st' rfl rfl (by decide) ⟨.int (lo+i),H,I1,⟨t,?_⟩,⟨rfl,rfl⟩,st',fun b hb=>(hf b hb).1⟩⟩
  rw [Int.mul_one]
 done:=by
  intro X hP hw hK hc i Kp s σ H E I hf st hg
  subst hP hw hK
  obtain ⟨f0,f1,f2,f3,f4,f5⟩:=hf it (by simp)
  exact wpAny_pyNext_range_end (I.ok.hd hc) st (by have:n<=i:=hg; omega) fun h' eb=>⟨rfl,I.turned (t':=s.toks) (fun b o hb e=>eb b o hb e) f0 f1 f3 f4 f5⟩
 self:=fun _ _ _ _ _ st h=>wpAny_pyIter_rangeiter st h
section
variable {X:Cx}{tg:Expr}
noncomputable def aqz (K:Fg) (tl:TE):TI:=fun σ H R=>tl σ H fun x H1=>∃ a,x= .ref a/\(∃ xs,SqL K H1 a xs)/\R (Itl K a) H1
noncomputable def ar0 (K:Fg) (tl:TE):TI:=fun σ H R=>tl σ H fun x H1=>∃ a,x= .ref a/\(∃ xs,SqT K H1 a xs)/\R (Itt K a) H1
theorem amU {l:Expr}{tl:TE} (hl:PE X l tl):PI X tg l (aqz X.K tl):=by
 intro Kp s σ H R I h
 refine thn (hl Kp s σ H _ I h) fun v s1 ⟨x,H1,I1,r1,q1⟩=>?_
 obtain ⟨a,e,⟨xs,hq⟩,q⟩:=q1
 subst e
 cases r1
 obtain ⟨its,rv,p,hz⟩:=I1.list hq
 refine wpAny_pyIter_list p.isList ?_
 refine ⟨s1.heap.objs.size,[s1.heap.objs.size],_,_,H1,rfl,I1.kept (t':=s1.toks) fun b o e=>Heap.get?_push_of_some _ e,ajd a _,⟨_,Heap.get?_push_size _ rfl,rfl,rfl⟩,fun b hb=>?_,q⟩
 have e:b=s1.heap.objs.size:=by simpa using hb
 subst e
 exact I1.fpOk (Nat.le_refl _) (I1.hok.fresh (Nat.le_refl _))
theorem ao4 {l:Expr}{tl:TE} (hl:PE X l tl):PI X tg l (ar0 X.K tl):=by
 intro Kp s σ H R I h
 refine thn (hl Kp s σ H _ I h) fun v s1 ⟨x,H1,I1,r1,q1⟩=>?_
 obtain ⟨a,e,⟨xs,hq⟩,q⟩:=q1
 subst e
 cases r1
 obtain ⟨its,rv,p,hz⟩:=I1.tuple hq
 refine wpAny_pyIter_tuple (show s1.heap.IsTuple a its.toArray from p) ?_
 refine ⟨s1.heap.objs.size,[s1.heap.objs.size],_,_,H1,rfl,I1.kept (t':=s1.toks) fun b o e=>Heap.get?_push_of_some _ e,ahc a _,⟨_,Heap.get?_push_size _ rfl,rfl,rfl⟩,fun b hb=>?_,q⟩
 have e:b=s1.heap.objs.size:=by simpa using hb
 subst e
 exact I1.fpOk (Nat.le_refl _) (I1.hok.fresh (Nat.le_refl _))
theorem akG {Kp:List (Addr × Obj)}{σ:St}{H:Hp}{s:Shared}{R:It->Hp->Prop}{E:Value->SP0}{lo hi:Int}{t u v:Tok}{tk:Nat} (I:Inv X Kp σ H s) (h1:-(2 ^ 62)<=lo) (h2:lo<2 ^ 62) (h3:-(2 ^ 62)<=hi) (h4:hi<2 ^ 62)
  (q:R (Itr lo (hi - lo).toNat) H):wpAny (model X.prog X.w) X.A (pyIter (.ref s.heap.objs.size)) (PIE X Kp σ tg R) E { s with heap:=s.heap.push { cls:= .type "range",data:= .fields #[.int lo t,.int hi u,.int 1 v] },toks:=tk }:=by
 refine wpAny_pyIter_range (IsRange.new ..) (small_one h1 h2 h3 h4) ?_
 have I1:Inv X Kp σ H { s with heap:=s.heap.push { cls:= .type "range",data:= .fields #[.int lo t,.int hi u,.int 1 v] },toks:=tk }:=I.kept fun b o e=>Heap.get?_push_of_some _ e
 refine ⟨(s.heap.push { cls:= .type "range",data:= .fields #[.int lo t,.int hi u,.int 1 v] }).objs.size,[(s.heap.push { cls:= .type "range",data:= .fields #[.int lo t,.int hi u,.int 1 v] }).objs.size],_,_,H,rfl,
  I1.kept (t':=tk) fun b o e=>Heap.get?_push_of_some _ e,ahd _ lo (hi - lo).toNat,?_,fun b hb=>?_,q⟩
 ·have e1:lo+((0:Nat):Int)*1=lo:=by simp
  have e2:(((hi - lo).toNat:Nat):Int) - ((0:Nat):Int)=Builtin.Range.rangeSize lo hi 1:=by rw [rangeSize_one]; split <;> omega
  show IsRangeIter _ _ (lo+((0:Nat):Int)*1) ((((hi - lo).toNat:Nat):Int) - ((0:Nat):Int)) 1
  rw [e1,e2]
  exact Heap.get?_push_size _ rfl
 ·have e:b=(s.heap.push { cls:= .type "range",data:= .fields #[.int lo t,.int hi u,.int 1 v] }).objs.size:=by simpa using hb
  subst e
  exact I1.fpOk (Nat.le_refl _) (I1.hok.fresh (Nat.le_refl _))
noncomputable def aqA (ta:TA):TI:=fun σ H R=>ta σ H fun vs H1=>∃ j:Int,vs=[.int j]/\-(2 ^ 62)<=j/\j<2 ^ 62/\R (Itr 0 j.toNat) H1
theorem abc {a:Expr}{ta:TA}{p pos:Pos} (hg:Gl X "range") (hm:X.mg "range"=none) (ha:PA X [a] ta) (hs:starEach [a] X.env=[(false,eval a X.env)]:=by rfl):PI X tg (.Call (.Name "range" p) [a] [] pos) (aqA ta):=by
 intro Kp s σ H R I h
 refine Call_ (Q8 I hg hm boot_range (PyProof.Rows.callWith_type1 (thn (ha pos Kp s σ H _ I h) fun us s1 ⟨vs,H1,I1,r1,q1⟩=>?_) hs rfl))
 obtain ⟨j,e,q1,q2,q⟩:=q1
 subst e
 cases r1 with
 | cons r rr=>
  cases rr
  obtain ⟨t,rfl⟩:=r
  exact call_range_1 (akG I1 (by omega) (by omega) q1 q2 (by simpa using q))
noncomputable def ar1 (wi:TI) (g:TG) (tb:TS):TS:=fun D σ H=>wi σ H fun J H1=>∃ W:Nat->Nat->St->Hp->Prop,(∃ m,W 0 m σ H1)/\∀ i m σ H,W i m σ H->
 (J.stop i H/\D.nx σ H) ∨ (J.go i H/\∃ N:St->Hp->Prop,(∀ σ' H',N σ' H'->∃ m',m' < m/\W (i+1) m' σ' H')/\∀ x H',J.yld i H x H'->g x σ H' fun σ2 H2=>tb { D with nx:=N,ct:=N,bk:=D.nx } σ2 H2)
noncomputable def acD (fp:List Addr) (h:Heap):List (Addr × Obj):=fp.filterMap fun b=>(h.get? b).map fun o=>(b,o)
theorem QO {fp:List Addr}{h:Heap}{b:Addr}{o:Obj} (hb:b ∈ fp) (e:h.get? b=some o):(b,o) ∈ acD fp h:=List.mem_filterMap.mpr ⟨b,hb,by rw [e]; rfl⟩
theorem aje {fp:List Addr}{h:Heap}{p:Addr × Obj} (hp:p ∈ acD fp h):p.1 ∈ fp/\h.get? p.1=some p.2:=by
 obtain ⟨b,hb,e⟩:=List.mem_filterMap.mp hp
 cases q:h.get? b with
 | none=>rw [q] at e; cases e
 | some o=>
  rw [q] at e
  have e':(b,o)=p:=Option.some.inj e
  subst e'
  exact ⟨hb,q⟩
theorem Inv.pinned {Kp:List (Addr × Obj)}{σ:St}{H:Hp}{s:Shared}{fp:List Addr} (I:Inv X Kp σ H s) (hf:∀ b ∈ fp,afJ X Kp H b) (ho:∀ b ∈ fp,∃ o,s.heap.get? b=some o/\∀ v,o.data ≠ .cell v):Inv X (Kp++acD fp s.heap) σ H s:=
 I.pins_of fun p hp=>(List.mem_append.mp hp).elim (fun z=>I.pin p (List.mem_append_right _ z)) fun z=>by
  obtain ⟨hb,e⟩:=aje z
  obtain ⟨f0,f1,f2,_⟩:=hf p.1 hb
  obtain ⟨o,e',d⟩:=ho p.1 hb
  rw [e] at e'; cases e'
  exact ⟨e,f0,f1,f2,d⟩
theorem Inv.unpinned {Kp pl:List (Addr × Obj)}{σ:St}{H:Hp}{s:Shared} (I:Inv X (Kp++pl) σ H s):Inv X Kp σ H s:=I.pins_of fun p hp=>I.pin p (List.mem_append_right _ (List.mem_append_left _ hp))
theorem abd {iter:Expr}{body:List Stmt}{wi:TI}{g:TG}{tb:TS}{pos:Pos} (hp:PassesOwn (model X.prog X.w) X.A X.env X.xe) (hc:X.calm=true) (hi:PI X tg iter wi) (hg:PG X tg g) (hb:PSs X body tb)
  (hs:∀ x,foldedSetIterable iter X.env x=pure x:=by intro _; rfl):PS X (.For tg iter body [] pos) (ar1 wi g tb):=by
 intro Kp s σ H D I h
 refine wpAny_For (thn (hi Kp s σ H _ I h) fun v s1 h1=>thn h1 fun itv s2 h2=>?_) hs
 obtain ⟨it,fp,tn,J,H2,e,I2,T,st2,f2,W,⟨m0,w0⟩,turn⟩:=h2
 subst e
 have stat:∀ {H':Hp},(∀ b ∈ fp,H' b=none)->∀ b ∈ fp,afJ X Kp H' b:=fun hn b hb=>⟨hn b hb,(f2 b hb).2⟩
 refine codeAny_forLoop_any (fun n s'=>∃ i σ' H',Inv X Kp σ' H' s'/\tn i s'.heap/\(∀ b ∈ fp,H' b=none)/\W i n σ' H') ?_ m0 ⟨0,σ,H2,I2,st2,fun b hb=>(f2 b hb).1,w0⟩
 rintro n s3 ⟨i,σ3,H3,I3,st3,fr3,w3⟩
 rcases turn i n σ3 H3 w3 with ⟨stop,qn⟩ | ⟨go,N,hN,step⟩
 ·refine wpAny_passesOwn hp (thn (T.done X rfl rfl rfl hc i Kp s3 σ3 H3 X.xe I3 (stat fr3) st3 stop) fun r s4 ⟨hr,I4⟩=>?_)
  subst hr
  exact wpAny_execs_nil ⟨σ3,H3,I4,qn⟩
 ·refine wpAny_passesOwn hp (thn (T.item X rfl rfl rfl hc i Kp s3 σ3 H3 X.xe I3 (stat fr3) st3 go) fun r s4 ⟨u,hr,h4⟩=>?_)
  subst hr
  refine wpAny_passesOwn hp (thn h4 fun _ s5 ⟨x,H5,I5,r5,y5,st5,fr5⟩=>?_)
  have I5':=I5.pinned (stat fr5) (T.obj _ _ st5)
  refine wpAny_passesOwn hp (thn (hg _ s5 σ3 H5 x u _ I5' r5 (step x H5 y5)) fun _ s6 ⟨σ6,H6,I6,q6⟩=>?_)
  refine wpAny_passesOwn hp (thn (hb _ s6 σ6 H6 _ I6 q6) fun f s7 q7=>?_)
  have again:∀ {σ7:St} {H7:Hp},Inv X (Kp++acD fp s5.heap) σ7 H7 s7->N σ7 H7->∃ m,m<n/\∃ i σ' H',Inv X Kp σ' H' s7/\tn i s7.heap/\(∀ b ∈ fp,H' b=none)/\W i m σ' H':=fun {σ7 H7} I7 n7=>by
   obtain ⟨m',hm,w7⟩:=hN σ7 H7 n7
   refine ⟨m',hm,i+1,σ7,H7,I7.unpinned,T.keep _ _ _ st5 fun b hb o e=>(I7.pin (b,o) (List.mem_append_right _ (List.mem_append_right _ (QO hb e)))).1,fun b hb=>?_,w7⟩
   obtain ⟨o,e,d⟩:=T.obj _ _ st5 b hb
   exact (I7.pin (b,o) (List.mem_append_right _ (List.mem_append_right _ (QO hb e)))).2.1
  cases f with
  | next=>obtain ⟨σ7,H7,I7,n7⟩:=q7; exact again I7 n7
  | cont=>obtain ⟨σ7,H7,I7,n7⟩:=q7; exact again I7 n7
  | brk=>obtain ⟨σ7,H7,I7,q7⟩:=q7; exact ⟨σ7,H7,I7.unpinned,q7⟩
  | ret v=>obtain ⟨x7,σ7,H7,I7,r7,q7⟩:=q7; exact ⟨x7,σ7,H7,I7.unpinned,r7,q7⟩
end
theorem adG {lo:Int}{n:Nat}{g:TG}{tb:TS}{D:Ends}{σ:St}{H:Hp} (Pv:Nat->St->Hp->Prop) (h0:Pv 0 σ H)
  (hs:∀ i σ H,i<n->Pv i σ H->g (.int (lo+i)) σ H fun σ2 H2=>tb { D with nx:=Pv (i+1),ct:=Pv (i+1),bk:=D.nx } σ2 H2) (hd:∀ σ H,Pv n σ H->D.nx σ H):
  ∃ W:Nat->Nat->St->Hp->Prop,(∃ m,W 0 m σ H)/\∀ i m σ H,W i m σ H->
   ((Itr lo n).stop i H/\D.nx σ H) ∨ ((Itr lo n).go i H/\∃ N:St->Hp->Prop,(∀ σ' H',N σ' H'->∃ m',m' < m/\W (i+1) m' σ' H')/\∀ x H',(Itr lo n).yld i H x H'->g x σ H' fun σ2 H2=>tb { D with nx:=N,ct:=N,bk:=D.nx } σ2 H2):=by
 refine ⟨fun i m σ H=>m=n - i/\i<=n/\Pv i σ H,⟨n,by simp,Nat.zero_le _,h0⟩,?_⟩
 rintro i m σ H ⟨rfl,hi,p⟩
 by_cases hlt:i<n
 ·refine .inr ⟨hlt,Pv (i+1),fun σ' H' p'=>⟨n - (i+1),by omega,rfl,hlt,p'⟩,fun x H' y=>?_⟩
  obtain ⟨e,y⟩:=y
  subst e y
  exact hs i σ _ hlt p
 ·have e:i=n:=by omega
  subst e
  exact .inl ⟨Nat.le_refl _,hd σ H p⟩
noncomputable abbrev R2:=V->V->Hp->VK->Prop
noncomputable def OpR (X:Cx) (f:Value->Value->Sem Value) (r:R2):Prop:=
 ∀ (Kp:List (Addr × Obj)) (s:Shared) (σ:St) (H:Hp) (x y:V) (v u:Value) (Q:VK),Inv X Kp σ H s->j8 x v->j8 y u->r x y H Q->
  wpAny (model X.prog X.w) X.A (f v u) (EP X Kp σ Q) X.xe s
noncomputable def UnR (X:Cx) (f:Value->Sem Value) (r:V->Hp->VK->Prop):Prop:=
 ∀ (Kp:List (Addr × Obj)) (s:Shared) (σ:St) (H:Hp) (x:V) (v:Value) (Q:VK),Inv X Kp σ H s->j8 x v->r x H Q->
  wpAny (model X.prog X.w) X.A (f v) (EP X Kp σ Q) X.xe s
noncomputable def Q9 (X:Cx) (f:Value) (r:List V->Hp->VK->Prop):Prop:=
 ∀ (Kp:List (Addr × Obj)) (s:Shared) (σ:St) (H:Hp) (xs:List V) (us:List Value) (Q:VK),Inv X Kp σ H s->jP xs us->r xs H Q->
  wpAny (model X.prog X.w) X.A (call f us) (EP X Kp σ Q) X.xe s
noncomputable def ar2 (X:Cx) (r:V->Hp->(Bool->Hp->Prop)->Prop):Prop:=
 ∀ (Kp:List (Addr × Obj)) (s:Shared) (σ:St) (H:Hp) (x:V) (v:Value) (Q:Bool->Hp->Prop),Inv X Kp σ H s->j8 x v->r x H Q->
  wpAny (model X.prog X.w) X.A (truthy v) (TP X Kp σ Q) X.xe s
noncomputable def tOp (r:R2) (ta tb:TE):TE:=fun σ H Q=>ta σ H fun x H1=>tb σ H1 fun y H2=>r x y H2 Q
noncomputable def tUn (r:V->Hp->VK->Prop) (ta:TE):TE:=fun σ H Q=>ta σ H fun x H1=>r x H1 Q
noncomputable def rI (C:Int->Int->Prop) (g:Int->Int->V):R2:=fun x y H Q=>∃ i j,x= .int i/\y= .int j/\C i j/\Q (g i j) H
noncomputable def rI0 (g:Int->Int->V):R2:=fun x y H Q=>∃ i j,x= .int i/\y= .int j/\Q (g i j) H
noncomputable def rU (g:Int->V):V->Hp->VK->Prop:=fun x H Q=>∃ i,x= .int i/\Q (g i) H
section
variable {X:Cx}{a b c:Expr}{ta tb tc:TE}{pos:Pos}
theorem ao5 (ha:PE X a ta) (hb:PE X b tb) {Kp:List (Addr × Obj)}{s:Shared}{σ:St}{H:Hp}{R:V->V->Hp->Prop} (I:Inv X Kp σ H s)
  (h:ta σ H fun x H1=>tb σ H1 fun y H2=>R x y H2) {Q:Value->SP0} {f:Value->Value->Sem Value}
  (hf:∀ v u s2 x y H2,Inv X Kp σ H2 s2->j8 x v->j8 y u->R x y H2->wpAny (model X.prog X.w) X.A (f v u) Q X.xe s2):
  wpAny (model X.prog X.w) X.A (eval a X.env) (fun v s₁=>wpAny (model X.prog X.w) X.A (eval b X.env) (fun u s₂=>wpAny (model X.prog X.w) X.A (f v u) Q X.xe s₂) X.xe s₁) X.xe s:=by
 refine thn (ha Kp s σ H _ I h) fun v s1 ⟨x,H1,I1,r1,q1⟩=>?_
 refine thn (hb Kp s1 σ H1 _ I1 q1) fun u s2 ⟨y,H2,I2,r2,q2⟩=>?_
 exact hf v u s2 x y H2 I2 r1 r2 q2
theorem aqB {op:Operator}{r:R2} (ho:OpR X (binaryOp op) r) (ha:PE X a ta) (hb:PE X b tb):PE X (.BinOp a op b pos) (tOp r ta tb):=by
 intro Kp s σ H Q I h
 exact wpAny_BinOp (ao5 ha hb I h fun v u s2 x y H2 I2 rx ry q=>ho Kp s2 σ H2 x y v u Q I2 rx ry q)
theorem aqC {op:UnaryOp}{r:V->Hp->VK->Prop} (ho:UnR X (unaryOp op) r) (ha:PE X a ta):PE X (.UnaryOp op a pos) (tUn r ta):=by
 intro Kp s σ H Q I h
 exact UnaryOp_ (thn (ha Kp s σ H _ I h) fun v s1 ⟨x,H1,I1,r1,q1⟩=>ho Kp s1 σ H1 x v Q I1 r1 q1)
theorem opI {f:Value->Value->Sem Value}{C:Int->Int->Prop}{g:Int->Int->Int}
  (rule:∀ (i j:Int) (t u:Tok) (s:Shared) (Q:Value->SP0) (E:Value->SP0),C i j->Q (.int (g i j) s.toks) { s with toks:=s.toks+1 }->wpAny (model X.prog X.w) X.A (f (.int i t) (.int j u)) Q E s):
  OpR X f (rI C fun i j=> .int (g i j)):=by
 intro Kp s σ H x y v u Q I rx ry h
 obtain ⟨i,j,rfl,rfl,hc,q⟩:=h
 obtain ⟨t,rfl⟩:=rx
 obtain ⟨t',rfl⟩:=ry
 exact rule i j t t' s _ _ hc ⟨.int (g i j),H,I.tok _,⟨_,rfl⟩,q⟩
theorem aqD {f:Value->Value->Sem Value}{g:Int->Int->Int}
  (rule:∀ (i j:Int) (t u:Tok) (s:Shared) (Q:Value->SP0) (E:Value->SP0),Q (.int (g i j) s.toks) { s with toks:=s.toks+1 }->wpAny (model X.prog X.w) X.A (f (.int i t) (.int j u)) Q E s):
  OpR X f (rI0 fun i j=> .int (g i j)):=by
 intro Kp s σ H x y v u Q I rx ry h
 obtain ⟨i,j,rfl,rfl,q⟩:=h
 obtain ⟨t,rfl⟩:=rx
 obtain ⟨t',rfl⟩:=ry
 exact rule i j t t' s _ _ ⟨.int (g i j),H,I.tok _,⟨_,rfl⟩,q⟩
theorem amV {f:Value->Value->Sem Value}{g:Int->Int->Bool}
  (rule:∀ (i j:Int) (t u:Tok) (s:Shared) (Q:Value->SP0) (E:Value->SP0),Q (.bool (g i j)) s->wpAny (model X.prog X.w) X.A (f (.int i t) (.int j u)) Q E s):
  OpR X f (rI0 fun i j=> .bl (g i j)):=by
 intro Kp s σ H x y v u Q I rx ry h
 obtain ⟨i,j,rfl,rfl,q⟩:=h
 obtain ⟨t,rfl⟩:=rx
 obtain ⟨t',rfl⟩:=ry
 exact rule i j t t' s _ _ ⟨.bl (g i j),H,I,rfl,q⟩
noncomputable def ar3 (i j:Int):Prop:=0<j/\j<1073741824
noncomputable def ao6 (i j:Int):Prop:=(-(2 ^ 64)<i/\i<2 ^ 64) ∨ (-(2 ^ 64)<j/\j<2 ^ 64)
theorem ao6.ok {i j:Int} (h:ao6 i j):IntMulOk i j:=by
 rcases h with ⟨h1,h2⟩ | ⟨h1,h2⟩
 ·exact .of_left (intBits_le_64 h1 h2)
 ·exact .of_right (intBits_le_64 h1 h2)
theorem ao7:OpR X (binaryOp .Add) (rI0 fun i j=> .int (i+j)):=aqD fun _ _ _ _ _ _ _ q=>add_int q
theorem ao8:OpR X (binaryOp .Sub) (rI0 fun i j=> .int (i - j)):=aqD fun _ _ _ _ _ _ _ q=>sub_int q
theorem ao9:OpR X (binaryOp .Mult) (rI ao6 fun i j=> .int (i*j)):=opI fun _ _ _ _ _ _ _ hc q=>mul_int q hc.ok
theorem amW:OpR X (binaryOp .FloorDiv) (rI ar3 fun i j=> .int (i / j)):=opI fun i j _ _ _ _ _ hc q=>by
 have h1:(0:Int)<j:=hc.1
 have h2:j<1073741824:=hc.2
 exact floordiv_int (by omega) (by rw [Int.fdiv_eq_ediv_of_nonneg i (by omega)]; exact q) (.inl (PyProof.noPylong_small (by omega)))
theorem apa:OpR X (binaryOp .Mod) (rI (fun _ j=>0<j) fun i j=> .int (i % j)):=opI fun i j _ _ _ _ _ hc q=>by
 have h1:(0:Int)<j:=hc
 exact mod_int' (by omega) (by rw [Int.fmod_eq_emod_of_nonneg i (by omega)]; exact q)
theorem unI {f:Value->Sem Value}{g:Int->Int}
  (rule:∀ (i:Int) (t:Tok) (s:Shared) (Q:Value->SP0) (E:Value->SP0),Q (.int (g i) s.toks) { s with toks:=s.toks+1 }->wpAny (model X.prog X.w) X.A (f (.int i t)) Q E s):
  UnR X f (rU fun i=> .int (g i)):=by
 intro Kp s σ H x v Q I rx h
 obtain ⟨i,rfl,q⟩:=h
 obtain ⟨t,rfl⟩:=rx
 exact rule i t s _ _ ⟨.int (g i),H,I.tok _,⟨_,rfl⟩,q⟩
theorem apb:UnR X (unaryOp .USub) (rU fun i=> .int (-i)):=unI fun _ _ _ _ _ q=>neg_int q
end
section
variable {X:Cx}{a b c:Expr}{ta tb tc:TE}{pos:Pos}
theorem aqE:OpR X (compareOp .Lt) (rI0 fun i j=> .bl (decide (i<j))):=amV fun _ _ _ _ _ _ _ q=>lt_int q
theorem aqF:OpR X (compareOp .LtE) (rI0 fun i j=> .bl (decide (i<=j))):=amV fun _ _ _ _ _ _ _ q=>le_int q
theorem aqG:OpR X (compareOp .Gt) (rI0 fun i j=> .bl (decide (j<i))):=amV fun _ _ _ _ _ _ _ q=>gt_int q
theorem aqH:OpR X (compareOp .GtE) (rI0 fun i j=> .bl (decide (j<=i))):=amV fun _ _ _ _ _ _ _ q=>ge_int q
theorem OpR.or {f:Value->Value->Sem Value}{r r':R2} (h:OpR X f r) (h':OpR X f r'):OpR X f (fun x y H Q=>r x y H Q ∨ r' x y H Q):=by
 intro Kp s σ H x y v u Q I rx ry q
 rcases q with q | q
 ·exact h Kp s σ H x y v u Q I rx ry q
 ·exact h' Kp s σ H x y v u Q I rx ry q
theorem ahe (b:Expr) {op:CmpOp} (h:op ≠ .In:=by decide) (h2:op ≠ .NotIn:=by decide):behindInMarks op b=false:=by
 have e1:(op == CmpOp.In)=false:=by cases op <;> first | rfl | exact absurd rfl h
 have e2:(op == CmpOp.NotIn)=false:=by cases op <;> first | rfl | exact absurd rfl h2
 cases b <;> simp [behindInMarks,e1,e2]
theorem amX {op:CmpOp}{r:R2} (ho:OpR X (compareOp op) r) (ha:PE X a ta) (hb:PE X b tb) (hm:behindInMarks op b=false):PE X (.Compare a [op] [b] pos) (tOp r ta tb):=by
 intro Kp s σ H Q I h
 exact wpAny_Compare1 (ao5 ha hb I h fun v u s2 x y H2 I2 rx ry q=>ho Kp s2 σ H2 x y v u Q I2 rx ry q) hm
noncomputable def aoC (t:TE):TT:=fun σ H Q=>t σ H fun x H'=>∃ k,x= .bl k/\Q k H'
theorem aig {op:CmpOp}{r:R2} (ho:OpR X (compareOp op) r) (ha:PE X a ta) (hb:PE X b tb) (hm:behindInMarks op b=false):PT X (.Compare a [op] [b] pos) (aoC (tOp r ta tb)):=by
 intro Kp s σ H Q I h
 refine wpAny_isTrue_Compare1 (thn (ha Kp s σ H _ I h) fun v s1 ⟨x,H1,I1,r1,q1⟩=>thn (hb Kp s1 σ H1 _ I1 q1) fun u s2 ⟨y,H2,I2,r2,q2⟩=>
  thn (ho Kp s2 σ H2 x y v u _ I2 r1 r2 q2) fun c s3 ⟨z,H3,I3,r3,k,e,q3⟩=>?_) hm
 subst e
 cases r3
 exact wpAny_truthy_bool ⟨H3,I3,q3⟩
noncomputable def ahf (r r':R2) (ta tb tc:TE):TE:=fun σ H Q=>ta σ H fun x H1=>tb σ H1 fun y H2=>r x y H2 fun z H3=>∃ k,z= .bl k/\
 (if k=true then tc σ H3 fun w' H4=>r' y w' H4 Q else Q (.bl false) H3)
theorem akH {op op':CmpOp}{r r':R2} (ho:OpR X (compareOp op) r) (ho':OpR X (compareOp op') r') (ha:PE X a ta) (hb:PE X b tb) (hc:PE X c tc)
  (hm:lastMarks [op,op'] [b,c]=false:=by with_unfolding_all rfl):PE X (.Compare a [op,op'] [b,c] pos) (ahf r r' ta tb tc):=by
 intro Kp s σ H Q I h
 refine Compare_chain (thn (ha Kp s σ H _ I h) fun v s1 ⟨x,H1,I1,r1,q1⟩=>chain_link (thn (hb Kp s1 σ H1 _ I1 q1) fun u s2 ⟨y,H2,I2,r2,q2⟩=>
  thn (ho Kp s2 σ H2 x y v u _ I2 r1 r2 q2) fun d s3 ⟨z,H3,I3,r3,k,e,q3⟩=>?_)) hm
 subst e
 cases r3
 refine wpAny_truthy_bool ?_
 cases k with
 | false=>exact ite_ff ⟨.bl false,H3,I3,rfl,q3⟩
 | true=>exact ite_tt (chain_last (thn (hc Kp s3 σ H3 _ I3 q3) fun w' s4 ⟨z',H4,I4,r4,q4⟩=>ho' Kp s4 σ H4 y z' u w' Q I4 r2 r4 q4))
theorem akI {op op':CmpOp}{r r':R2} (ho:OpR X (compareOp op) r) (ho':OpR X (compareOp op') r') (ha:PE X a ta) (hb:PE X b tb) (hc:PE X c tc)
  (hm:lastMarks [op,op'] [b,c]=false:=by with_unfolding_all rfl):PT X (.Compare a [op,op'] [b,c] pos) (aoC (ahf r r' ta tb tc)):=by
 intro Kp s σ H Q I h
 refine isTrue_chain (thn (ha Kp s σ H _ I h) fun v s1 ⟨x,H1,I1,r1,q1⟩=>test_link (thn (hb Kp s1 σ H1 _ I1 q1) fun u s2 ⟨y,H2,I2,r2,q2⟩=>
  thn (ho Kp s2 σ H2 x y v u _ I2 r1 r2 q2) fun d s3 ⟨z,H3,I3,r3,k,e,q3⟩=>?_)) hm
 subst e
 cases r3
 refine wpAny_truthy_bool ?_
 cases k with
 | false=>
  obtain ⟨k',e',q'⟩:=q3
  cases e'
  exact ite_ff ⟨H3,I3,q'⟩
 | true=>
  refine ite_tt (test_last (thn (hc Kp s3 σ H3 _ I3 q3) fun w' s4 ⟨z',H4,I4,r4,q4⟩=>thn (ho' Kp s4 σ H4 y z' u w' _ I4 r2 r4 q4) fun d' s5 ⟨z2,H5,I5,r5,k2,e2,q5⟩=>?_))
  subst e2
  cases r5
  exact wpAny_truthy_bool ⟨H5,I5,q5⟩
noncomputable def ar4 (K:Fg) (x:V) (H:Hp) (k:Bool):Prop:=
 match x with
 | .non=>k=false
 | .bl b=>k=b
 | .int i=>k=(i != 0)
 | .str y=>y.length<=sizeLine/\k=((y.length:Int) != 0)
 | .byt y=>y.size<=sizeLine/\k=((y.size:Int) != 0)
 | .ref p=>(∃ xs,SqL K H p xs/\k=!xs.isEmpty) ∨ (∃ xs,SqT K H p xs/\k=!xs.isEmpty) ∨ ∃ kvs,H p=some (.dK kvs)/\k=!kvs.isEmpty
 | _=>False
theorem ahg {κ:Type}{kvs:List (κ × V)}{vs:List (κ × Value)} (r:KV kvs vs):(!vs.isEmpty)=!kvs.isEmpty:=by
 cases r <;> rfl
theorem acE {xs:List V}{its:List Value} (r:jP xs its):(!its.toArray.isEmpty)=!xs.isEmpty:=by
 cases r <;> simp
theorem abe:(sizeLine:Nat)<2 ^ 63:=by rw [sizeLine_eq]; decide
theorem apc:ar2 X (fun x H Q=>∃ k,ar4 X.K x H k/\Q k H):=by
 intro Kp s σ H x v Q I rx h
 obtain ⟨k,e,q⟩:=h
 have hl:=abe
 have hs:sizeLine=16777216:=sizeLine_eq
 cases x with
 | non=>
  cases rx
  have e':k=false:=e
  subst e'
  exact truthy_none ⟨H,I,q⟩
 | bl b=>
  cases rx
  have e':k=b:=e
  subst e'
  exact wpAny_truthy_bool ⟨H,I,q⟩
 | int i=>
  obtain ⟨t,rfl⟩:=rx
  have e':k=(i != 0):=e
  subst e'
  exact PySem.P.truthy_int ⟨H,I,q⟩
 | str y=>
  obtain ⟨t,rfl⟩:=rx
  obtain ⟨hy,e'⟩:y.length<=sizeLine/\k=((y.length:Int) != 0):=e
  subst e'
  exact PySem.P.truthy_str (by omega) ⟨H,I.tok _,q⟩
 | byt y=>
  obtain ⟨t,rfl⟩:=rx
  obtain ⟨hy,e'⟩:y.size<=sizeLine/\k=((y.size:Int) != 0):=e
  subst e'
  exact PySem.W.truthy_bytes (by omega) ⟨H,I.tok _,q⟩
 | ref p=>
  cases rx
  have e':(∃ xs,SqL X.K H p xs/\k=!xs.isEmpty) ∨ (∃ xs,SqT X.K H p xs/\k=!xs.isEmpty) ∨ ∃ kvs,H p=some (.dK kvs)/\k=!kvs.isEmpty:=e
  rcases e' with ⟨xs,hx,e'⟩ | ⟨xs,hx,e'⟩ | ⟨kvs,hx,e'⟩
  ·subst e'
   obtain ⟨its,r,pl,hz⟩:=I.list hx
   have hlen:=r.length
   exact wpAny_truthy_list pl.isList (by simp only [List.size_toArray]; omega) ⟨H,I.tok _,by rw [acE r]; exact q⟩
  ·subst e'
   obtain ⟨its,r,pl,hz⟩:=I.tuple hx
   have hlen:=r.length
   exact truthy_tuple pl (by simp only [List.size_toArray]; omega) ⟨H,I.tok _,by rw [acE r]; exact q⟩
  ·subst e'
   obtain ⟨hz,hS,vs,r,m⟩:kvs.length<=sizeLine/\(p == sysModules)=false/\∃ vs,KV kvs vs/\s.heap.DictOf (aas X.prog X.w) p vs:=I.hok p _ hx
   have hlen:kvs.length=vs.length:=Paired.length r
   exact wpAny_truthy_dict hS m (by omega) ⟨H,I.tok _,by rw [ahg r]; exact q⟩
 | _=>exact (show False from e).elim
theorem afK {x:V}{us:List Value} (r:jP [x] us):∃ u,us=[u]/\j8 x u:=by
 cases r with
 | cons r1 r2=>cases r2; exact ⟨_,rfl,r1⟩
theorem afL {x y:V}{us:List Value} (r:jP [x,y] us):∃ u w',us=[u,w']/\j8 x u/\j8 y w':=by
 cases r with
 | cons r1 r2=>
  cases r2 with
  | cons r3 r4=>cases r4; exact ⟨_,_,rfl,r1,r3⟩
theorem ajf (hc:X.calm=true):Q9 X (.builtin "max") (fun xs H Q=>∃ i j,xs=[.int i,.int j]/\Q (.int (if j > i then j else i)) H):=by
 intro Kp s σ H xs us Q I r h
 obtain ⟨i,j,rfl,q⟩:=h
 obtain ⟨u,w',rfl,⟨t,rfl⟩,⟨t',rfl⟩⟩:=afL r
 refine max_two_ints (I.ok.hd hc) fun h' tk k=>⟨_,H,I.kept k,?_,q⟩
 by_cases hj:j > i
 ·rw [if_pos hj,if_pos hj]; exact ⟨_,rfl⟩
 ·rw [if_neg hj,if_neg hj]; exact ⟨_,rfl⟩
theorem ajg (hc:X.calm=true):Q9 X (.builtin "min") (fun xs H Q=>∃ i j,xs=[.int i,.int j]/\Q (.int (if j<i then j else i)) H):=by
 intro Kp s σ H xs us Q I r h
 obtain ⟨i,j,rfl,q⟩:=h
 obtain ⟨u,w',rfl,⟨t,rfl⟩,⟨t',rfl⟩⟩:=afL r
 refine min_two_ints (I.ok.hd hc) fun h' tk k=>⟨_,H,I.kept k,?_,q⟩
 by_cases hj:j<i
 ·rw [if_pos hj,if_pos hj]; exact ⟨_,rfl⟩
 ·rw [if_neg hj,if_neg hj]; exact ⟨_,rfl⟩
end
structure ObjM (h:Heap) (x dx C:Addr) (mA:SV):Prop where
 obj:h.get? x=some (PySem.W.instObj C dx)
 ns:h.Ns1 dx mA
 ne:dx ≠ x
theorem ajh {h:Heap}{dx:Addr}{mA:SV} (n:h.Ns1 dx mA):∃ od,h.get? dx=some od/\∀ name,PySem.W.lookIn name od=some (mA name):=by
 obtain ⟨o,es,ep,ho,hd,hk,_,hm⟩:=n
 refine ⟨o,ho,fun name=>?_⟩
 have e:=hm name
 unfold nsFind findBy at e
 rw [←Array.find?_toList] at e
 unfold PySem.W.lookIn
 rw [hd]
 dsimp only
 split
 ·rename_i y q
  rw [q] at e
  exact congrArg some e
 ·rename_i q
  rw [q] at e
  have a:es.toList.any (·.refKey)=false:=by
   rw [List.any_eq_false]
   intro y hy
   obtain ⟨z,t,hkey⟩:=hk y (Array.mem_toList_iff.mp hy)
   simp [DictEntry.refKey,hkey]
  have a':¬ es.toList.any (·.refKey)=true:=by rw [a]; exact Bool.false_ne_true
  rw [if_neg a']
  exact congrArg some e
theorem ObjM.look {h:Heap}{x dx C:Addr}{mA:SV} (I:ObjM h x dx C mA):∃ od,PySem.W.InstAt h x (PySem.W.instObj C dx) C (some od)/\∀ name,PySem.W.lookIn name od=some (mA name):=
 let ⟨od,ho,hl⟩:=ajh I.ns
 ⟨od,⟨I.obj,rfl,rfl,ho⟩,hl⟩
section
variable {prog:Program}{w:World}{A:Around}{E:Value->SP0}{s:Shared}{K:Fg}{x dx C f:Addr}{mA:SV}{name:Str}{v:Value}
theorem amY {expr:Bool}{Q:Value->SP0} (X:K.In s.heap) (I:ObjM s.heap x dx C mA) (hg:PySem.W.plainGet K C name=true) (hh:PySem.W.hasDictIn K C=true)
  (ha:PySem.W.findIn K (.ref C) name=some none) (hv:mA name=some v) (hv':PySem.W.handedIn v=true) (h:Q v { s with toks:=s.toks+1 }):
  wpAny (model prog w) A (getAttr (.ref x) name expr) Q E s:=by
 obtain ⟨od,J,hl⟩:=I.look
 exact PySem.W.get_value X J (PySem.W.plainGet_of hg).1 (PySem.W.findObj_own hh ha rfl (by rw [hl,hv])) hv' h
theorem akJ {pl:Sem Bool}{Q:Value × List Value->SP0} (X:K.In s.heap) (I:ObjM s.heap x dx C mA) (hg:PySem.W.plainGet K C name=true)
  (hf:PySem.W.findIn K (.ref C) name=some (some (.ref f))) (ht:PySem.W.isFn K (.ref f)=true) (hv:mA name=none) (h:Q (.ref f,[.ref x]) s):
  wpAny (model prog w) A (getMethod (.ref x) name pl) Q E s:=by
 obtain ⟨od,J,hl⟩:=I.look
 exact PySem.W.method_fn X J (PySem.W.plainGet_of hg).1 (PySem.W.plainGet_of hg).2 hf (beq_iff_eq.mp ht) (by show (PySem.W.lookIn name od).map (·.isSome)=some false; rw [hl,hv]; rfl) h
theorem amZ {ns:List Str}{Q:Unit->SP0} (X:K.In s.heap) (I:ObjM s.heap x dx C mA)
  (hs:PySem.W.findIn K (.ref C) "__setattr__"=some (some (.builtin "object.__setattr__"))) (hp:PySem.W.plainOver K C=true) (ht:PySem.W.takerIn K C name=some none) (hh:PySem.W.hasDictIn K C=true)
  (hw:PySem.Within mA ns) (hsz:ns.length<=sizeLine)
  (h:∀ h',ObjM h' x dx C (fun y=>if y=name then some v else mA y)->Heap.SameBut dx s.heap h'->Q () { s with heap:=h',toks:=s.toks+2 }):
  wpAny (model prog w) A (setAttr (.ref x) name v) Q E s:=by
 obtain ⟨od,J,hl⟩:=I.look
 refine PySem.W.set_plain X J hs (PySem.W.osa_open (s:={ s with toks:=s.toks+1 }) (r:=none) X J hp ht fun b=>?_)
 obtain ⟨cd,hc,hd'⟩:=PySem.W.any_some hh
 have hx:s.heap.get? x=some ⟨.ref C,some dx,.plain,#[]⟩:=I.obj
 refine wpAny_bind (wpAny_pure (wpAny_bind (wpAny_bind (wpAny_loadPart hx (wpAny_bind (PySem.W.Looks.here (s:={ s with toks:=s.toks+1 }) (PySem.W.looks_clsIn X hc) ?_))))))
 rw [hd']
 refine wpAny_pure (a:=some dx) (wpAny_bind (wpAny_pure (wpAny_bind ?_)))
 refine wpAny_nsSet1 (s:={ s with toks:=s.toks+1 }) I.ns fun h' hn2 hs2=>?_
 obtain ⟨oD,esD,epD,hoD,hdD,hcD⟩:=hn2.count (PySem.Within.cons name v hw)
 refine wpAny_bind (wpAny_lookBehind hoD (by rw [hdD]; exact pastItsLine_dict (Nat.le_trans hcD (by rw [List.length_cons]; omega))) ?_)
 exact wpAny_pure (h _ ⟨(hs2.2 _ (Ne.symm I.ne)).trans I.obj,hn2,I.ne⟩ hs2)
theorem akK {R:Result->SP0}{vs:List Value}{kw:List (Str × Value)} (X:K.In s.heap) (hm:PySem.W.makesIn K C=true)
  (hi:PySem.W.findIn K (.ref C) "__init__"=some (some (.ref f))) (hf:PySem.W.typeIn K (.ref f)=some (.type "function"))
  (h:codeAny (model prog w) (A.under (.builtin "type.__call__" ⟨.ref C::vs,kw⟩)) (.call (.ref f) ⟨.ref (s.heap.objs.size+1)::vs,kw⟩) (PySem.W.InitBack (s.heap.objs.size+1) R)
   { s with heap:=(s.heap.push PySem.W.emptyDict).push (PySem.W.instObj C s.heap.objs.size) }):
  codeAny (model prog w) A (.call (.ref C) ⟨vs,kw⟩) R s:=by
 obtain ⟨hh,g,d,t,os⟩:=s
 exact PySem.W.make_core (PySem.W.makes_of X hm) (PySem.W.looks_findIn X hi) (fun self=>PySem.W.bind_fn X self hf) (.inl rfl) h
end
noncomputable def QP (f:Str) (v:V):List (Str × V)->List (Str × V)
 | []=>[(f,v)]
 | (g,x)::r=>if g=f then (g,v)::r else (g,x)::QP f v r
theorem abP (f g:Str) (v:V):∀ fs:List (Str × V),(QP f v fs).lookup g=if g=f then some v else fs.lookup g
 | []=>by
  show List.lookup g [(f,v)]=_
  by_cases h:g=f
  ·have hb:(g == f)=true:=beq_iff_eq.mpr h
   simp only [List.lookup,hb,if_pos h]
  ·have hb:(g == f)=false:=beq_eq_false_iff_ne.mpr h
   simp only [List.lookup,hb,if_neg h]
 | (k,x)::r=>by
  have ih:=abP f g v r
  rw [show QP f v ((k,x)::r)=(if k=f then (k,v)::r else (k,x)::QP f v r) from rfl]
  by_cases hk:k=f
  ·rw [if_pos hk]
   by_cases h:g=k
   ·have hb:(g == k)=true:=beq_iff_eq.mpr h
    simp only [List.lookup,hb,if_pos (h.trans hk)]
   ·have hb:(g == k)=false:=beq_eq_false_iff_ne.mpr h
    simp only [List.lookup,hb,if_neg (fun e:g=f=>h (e.trans hk.symm))]
  ·rw [if_neg hk]
   by_cases h:g=k
   ·have hb:(g == k)=true:=beq_iff_eq.mpr h
    simp only [List.lookup,hb,if_neg (fun e:g=f=>hk (h.symm.trans e))]
   ·have hb:(g == k)=false:=beq_eq_false_iff_ne.mpr h
    simp only [List.lookup,hb]
    exact ih
theorem abf (f:Str) (v:V):∀ fs:List (Str × V),f ∈ (QP f v fs).map (·.1)/\∀ g,g ∈ fs.map (·.1)->g ∈ (QP f v fs).map (·.1)
 | []=>⟨by simp [QP],fun g h=>by simp at h⟩
 | (k,x)::r=>by
  obtain ⟨i1,i2⟩:=abf f v r
  rw [show QP f v ((k,x)::r)=(if k=f then (k,v)::r else (k,x)::QP f v r) from rfl]
  by_cases hk:k=f
  ·rw [if_pos hk]
   subst hk
   exact ⟨by simp,fun g h=>by simpa using h⟩
  ·rw [if_neg hk]
   refine ⟨?_,fun g h=>?_⟩
   ·rw [List.map_cons]
    exact List.mem_cons_of_mem _ i1
   ·rw [List.map_cons] at h ⊢
    rcases List.mem_cons.mp h with e | e
    ·exact List.mem_cons.mpr (.inl e)
    ·exact List.mem_cons_of_mem _ (i2 g e)
theorem abQ (f:Str) (v:V):∀ fs:List (Str × V),(QP f v fs).length<=fs.length+1
 | []=>by simp [QP]
 | (k,x)::r=>by
  have ih:=abQ f v r
  rw [show QP f v ((k,x)::r)=(if k=f then (k,v)::r else (k,x)::QP f v r) from rfl]
  by_cases hk:k=f
  ·rw [if_pos hk,List.length_cons,List.length_cons]; omega
  ·rw [if_neg hk,List.length_cons,List.length_cons]; omega
theorem ads.some_of {v:V}{o:Option Value} (r:ads (some v) o):∃ u,o=some u/\j8 v u:=by
 cases o with
 | none=>exact (show False from r).elim
 | some u=>exact ⟨u,rfl,r⟩
theorem ads.none_of {o:Option Value} (r:ads none o):o=none:=by
 cases o with
 | none=>rfl
 | some u=>exact (show False from r).elim
theorem aji {v:V}{u:Value} (r:j8 v u):PySem.W.handedIn u=true:=by
 cases v with
 | non=>cases (show u=Value.none from r); rfl
 | bl b=>cases (show u=Value.bool b from r); rfl
 | int i=>obtain ⟨t,e⟩:=(show ∃ t,u=Value.int i t from r); cases e; rfl
 | str x=>obtain ⟨t,e⟩:=(show ∃ t,u=Value.str x t from r); cases e; rfl
 | byt b=>obtain ⟨t,e⟩:=(show ∃ t,u=Value.bytes b t from r); cases e; rfl
 | flt b=>obtain ⟨t,e⟩:=(show ∃ t,u=Value.float b t from r); cases e; rfl
 | ref a=>cases (show u=Value.ref a from r); rfl
 | ty n=>cases (show u=Value.type n from r); rfl
section
variable {P:Program}{w:World}{H H':Hp}{h h':Heap}{a C dx:Addr}{fs fs':List (Str × V)}
theorem aet (hok:HOk P w H h) (e:H a=some (.ins C dx fs)):∃ mA,ObjM h a dx C mA/\(∀ f,ads (fs.lookup f) (mA f))/\PySem.Within mA (fs.map (·.1))/\fs.length<=1000/\H dx=some (.own a):=by
 obtain ⟨d,z,ne,ob,mA,n,r,q⟩:=(show zN P w H h a (.ins C dx fs) from hok a _ e)
 exact ⟨mA,⟨ob,n,ne⟩,r,q,z,d⟩
end
structure Cls (K:Fg) (C:Addr):Prop where
 pg:PySem.W.plainGet K C Str.empty=true
 hd:PySem.W.hasDictIn K C=true
 po:PySem.W.plainOver K C=true
 sa:PySem.W.findIn K (.ref C) "__setattr__"=some (some (.builtin "object.__setattr__"))
theorem Cls.get {K:Fg}{C:Addr} (c:Cls K C) (f:Str):PySem.W.plainGet K C f=true:=c.pg
noncomputable def aad (K:Fg) (C:Addr) (f:Str):Prop:=PySem.W.findIn K (.ref C) f=some none
theorem aad.taker {K:Fg}{C:Addr}{f:Str} (n:aad K C f):PySem.W.takerIn K C f=some none:=by
 unfold PySem.W.takerIn
 rw [show PySem.W.findIn K (.ref C) f=some none from n]
 rfl
structure Con (K:Fg) (C:Addr) (f:Str) (v:V) (u:Value):Prop where
 at_:PySem.W.findIn K (.ref C) f=some (some u)
 rel:j8 v u
 get:PySem.W.specialIn K u "__get__"=some none
 cp:PySem.W.copiedNames.contains f=false
structure Meth (K:Fg) (C:Addr) (m:Str) (f:Addr):Prop where
 at_:PySem.W.findIn K (.ref C) m=some (some (.ref f))
 fn:PySem.W.isFn K (.ref f)=true
 kp:PySem.W.keepIn K (.ref f)=true
section
variable {X:Cx}{Kp:List (Addr × Obj)}{σ:St}{H:Hp}{s:Shared}{a C dx:Addr}{fs:List (Str × V)}{f:Str}{v:V}{A:Around}{E:Value->SP0}
theorem ahh {b:Bool}{Q:Value->SP0} (I:Inv X Kp σ H s) (e:H a=some (.ins C dx fs)) (c:Cls X.K C) (n:aad X.K C f) (l:fs.lookup f=some v)
  (h:∀ u s',Inv X Kp σ H s'->j8 v u->Q u s'):wpAny (model X.prog X.w) A (getAttr (.ref a) f b) Q E s:=by
 obtain ⟨mA,O,r,_,_,_⟩:=aet I.hok e
 obtain ⟨u,hu,ru⟩:=ads.some_of (v:=v) (o:=mA f) (by rw [←l]; exact r f)
 exact amY I.kIn O (c.get f) c.hd n hu (aji ru) (h u _ (I.tok _) ru)
theorem acF {m:Str}{g:Addr}{pl:Sem Bool}{Q:Value × List Value->SP0} (I:Inv X Kp σ H s) (e:H a=some (.ins C dx fs)) (c:Cls X.K C) (k:Meth X.K C m g) (l:fs.lookup m=none)
  (h:Q (.ref g,[.ref a]) s):wpAny (model X.prog X.w) A (getMethod (.ref a) m pl) Q E s:=by
 obtain ⟨mA,O,r,_,_,_⟩:=aet I.hok e
 have hn:mA m=none:=ads.none_of (by rw [←l]; exact r m)
 exact akJ I.kIn O (c.get m) k.at_ k.fn hn h
theorem ahi {y:V}{u:Value}{Q:Unit->SP0} (I:Inv X Kp σ H s) (e:H a=some (.ins C dx fs)) (c:Cls X.K C) (n:aad X.K C f) (hl:fs.length<1000) (ry:j8 y u)
  (h:∀ s',Inv X Kp σ (upd H a (.ins C dx (QP f y fs))) s'->Q () s'):wpAny (model X.prog X.w) A (setAttr (.ref a) f u) Q E s:=by
 obtain ⟨mA,O,r,wi,_,ho⟩:=aet I.hok e
 have hz:(fs.map (·.1)).length<=sizeLine:=by rw [List.length_map,sizeLine_eq]; omega
 refine amZ I.kIn O c.sa c.po n.taker c.hd wi hz fun h' O' sb=>h _ ?_
 have hd:∃ o,h'.get? dx=some o:=let ⟨o,_,_,e',_⟩:=O'.ns; ⟨o,e'⟩
 refine I.write (x:=a) (e:=dx) (by rw [e]; exact True.intro) (.inr ho) (fun b q hb z=>(sb.2 b hb).trans z) hd ?_
 refine ⟨by rw [jt O.ne]; exact ho,?_,O.ne,O'.obj,_,O'.ns,fun g=>?_,fun g hg=>?_⟩
 ·have:=abQ f y fs; omega
 ·show ads ((QP f y fs).lookup g) (if g=f then some u else mA g)
  rw [abP]
  by_cases q:g=f
  ·rw [if_pos q,if_pos q]; exact ry
  ·rw [if_neg q,if_neg q]; exact r g
 ·by_cases q:g=f
  ·rw [q]; exact (abf f y fs).1
  ·refine (abf f y fs).2 g (wi g fun z=>hg ?_)
   show (if g=f then some u else mA g)=none
   rw [if_neg q]; exact z
theorem Inv.made (I:Inv X Kp σ H s):Inv X Kp σ (upd (upd H s.heap.objs.size (.own (s.heap.objs.size+1))) (s.heap.objs.size+1) (.ins C s.heap.objs.size []))
  { s with heap:=(s.heap.push PySem.W.emptyDict).push (PySem.W.instObj C s.heap.objs.size) }:=by
 have e1:(s.heap.push PySem.W.emptyDict).get? s.heap.objs.size=some PySem.W.emptyDict:=Heap.get?_push_size s.heap rfl
 have e2:((s.heap.push PySem.W.emptyDict).push (PySem.W.instObj C s.heap.objs.size)).get? (s.heap.objs.size+1)=some (PySem.W.instObj C s.heap.objs.size):=by
  have:=Heap.get?_push_size (s.heap.push PySem.W.emptyDict) (o:=PySem.W.instObj C s.heap.objs.size) rfl
  rwa [Heap.size_push] at this
 have e3:(s.heap.push PySem.W.emptyDict).Ns s.heap.objs.size (fun _=>none):=⟨PySem.W.emptyDict,#[],_,e1,rfl,(fun e he=>absurd he (by simp)),fun _=>rfl⟩
 have I1:=I.laid (a:=s.heap.objs.size) (o:= .own (s.heap.objs.size+1)) (h':=s.heap.push PySem.W.emptyDict) (t':=s.toks) (fun b u q=>Heap.get?_push_of_some _ q) (Nat.le_refl _) ⟨_,e1⟩
 refine I1.laid (a:=s.heap.objs.size+1) (o:= .ins C s.heap.objs.size []) (t':=s.toks) (fun b u q=>Heap.get?_push_of_some _ q) (Nat.le_of_eq (Heap.size_push _ _)) ?_
 have ne:s.heap.objs.size ≠ s.heap.objs.size+1:=Nat.ne_of_lt (Nat.lt_succ_self _)
 refine ⟨by rw [jt ne,jp],Nat.zero_le _,ne,e2,fun _=>none,(Heap.Ns1.of_empty e3).at fun o q=>Heap.get?_push_of_some _ q,fun _=>True.intro,fun y hy=>absurd rfl hy⟩
theorem am0 {prog:Program}{w:World}{env:Env}{e:Expr}{f:Str}{pos:Pos}{s:Shared}{Q:Value->SP0} (hb:attributeBase e f env (eval e env)=eval e env)
  (h:wpAny (model prog w) A (eval e env) (fun o s₁=>wpAny (model prog w) A (getAttr o f true) Q E s₁) E s):wpAny (model prog w) A (eval (.Attribute e f pos) env) Q E s:=
 Attribute_any_ h (by rw [arm_eval_Attribute,hb])
end
noncomputable def ar5 (K:Fg) (ta:TE) (f:Str):TE:=fun σ H Q=>ta σ H fun x H1=>∃ a C dx fs v,x= .ref a/\H1 a=some (.ins C dx fs)/\Cls K C/\aad K C f/\fs.lookup f=some v/\Q v H1
noncomputable def ar6 (K:Fg) (ta tv:TE) (f:Str):TS:=fun D σ H=>tv σ H fun y H1=>ta σ H1 fun x H2=>∃ a C dx fs,x= .ref a/\H2 a=some (.ins C dx fs)/\Cls K C/\aad K C f/\fs.length<1000/\
 D.nx σ (upd H2 a (.ins C dx (QP f y fs)))
section
variable {X:Cx}{o e value:Expr}{f:Str}{pos pos' tpos:Pos}{ta tv:TE}
theorem apd (he:PE X e ta) (hb:attributeBase e f X.env (eval e X.env)=eval e X.env):PE X (.Attribute e f pos) (ar5 X.K ta f):=by
 intro Kp s σ H Q I h
 refine am0 hb (thn (he Kp s σ H _ I h) fun u s1 ⟨x,H1,I1,rx,a,C,dx,fs,v,ex,ea,c,n,l,q⟩=>?_)
 subst ex
 obtain rfl:u=Value.ref a:=rx
 exact ahh I1 ea c n l fun u' s2 I2 ru=>⟨v,H1,I2,ru,q⟩
theorem ape (ha:PE X o ta) (hv:PE X value tv) (hs:swapsWith value (some (.Attribute o f pos')) pos.line X.env=pure false):PS X (.Assign [.Attribute o f pos'] value pos) (ar6 X.K ta tv f):=by
 intro Kp s σ H D I h
 refine plainObj_wpAny_Assign_Attribute (thn (hv Kp s σ H _ I h) fun u s1 ⟨y,H1,I1,ry,q⟩=>thn (ha Kp s1 σ H1 _ I1 q) fun ov s2 ⟨x,H2,I2,rx,a,C,dx,fs,ex,ea,c,n,l,q2⟩=>?_) hs
 subst ex
 obtain rfl:ov=Value.ref a:=rx
 exact ahi I2 ea c n l ry fun s3 I3=>⟨σ,_,I3,q2⟩
end
section
variable {X:Cx}{Kp:List (Addr × Obj)}{σ:St}{H:Hp}{s:Shared}{A:Around}{E:Value->SP0}{Q:Value->SP0}{c:Value}{b:Bool}
inductive TyOf (K:Fg) (H:Hp):V->Value->Prop where
 | non:TyOf K H .non (.type "NoneType")
 | bl (x:Bool):TyOf K H (.bl x) (.type "bool")
 | int (i:Int):TyOf K H (.int i) (.type "int")
 | str (x:Str):TyOf K H (.str x) (.type "str")
 | flt (x:UInt64):TyOf K H (.flt x) (.type "float")
 | lst {a:Addr} {xs:List V} (e:H a=some (.lst xs)):TyOf K H (.ref a) (.type "list")
 | frz {a:Addr} {o:Obj} {xs:List V} (e:H a=some (.frz o (.lst xs))):TyOf K H (.ref a) (.type "list")
 | tup {a:Addr} {xs:List V} (e:H a=some (.tup xs)):TyOf K H (.ref a) (.type "tuple")
 | dK {a:Addr} {kvs:List (Key × V)} (e:H a=some (.dK kvs)):TyOf K H (.ref a) (.type "dict")
 | dT {a:Addr} {kvs:List (List Key × V)} (e:H a=some (.dT kvs)):TyOf K H (.ref a) (.type "dict")
 | ins {a C dx:Addr} {fs:List (Str × V)} (e:H a=some (.ins C dx fs)) (cl:Cls K C) (ha:PySem.W.findIn K (.ref C) "__class__"=some (some (.builtin "object.__class__")))
   (hn:PySem.W.specialIn K (.builtin "object.__class__") "__get__"=some (some (.builtin "getset_descriptor.__get__"))) (htk:PySem.W.takesIn K (.builtin "object.__class__")=some true)
   (hm:PySem.W.mroIn K C (.type "object")=some true):TyOf K H (.ref a) (.ref C)
end
structure Room (k:Nat) (A:Around):Prop where
 hd:A.handled=none
 dp:A.depth+3*k+5<recursionLimit
 un:A.units+16*k+200<cLine
theorem Room.mono {j k:Nat}{A:Around} (r:Room k A) (h:j<=k):Room j A:=⟨r.hd,by have:=r.dp; omega,by have:=r.un; omega⟩
theorem Room.deeper {k:Nat}{A:Around} (r:Room (k+1) A) (env:Env):Room k (A.deeper env):=
 ⟨r.hd,by have:=r.dp; show A.depth+1+3*k+5<_; omega,by have:=r.un; show A.units+3+16*k+200<_; omega⟩
theorem Room.in1 {k:Nat}{A:Around} (r:Room (k+1) A):Room k A.in1:=
 ⟨r.hd,by have:=r.dp; show A.depth+3*k+5<_; omega,by have:=r.un; show A.units+1+16*k+200<_; omega⟩
theorem ahj {A:Around}{C:Addr}{us:List Value}{kw:List (Str × Value)}:(A.under (.builtin "type.__call__" ⟨.ref C::us,kw⟩)).depth=A.depth+1:=by
 first | rfl | simp [Around.under,Code.weight,Code.isCreation,Code.isGuard,Code.isCaller,Code.frames,Code.isFrame,guardIds]
theorem ahk {A:Around}{C:Addr}{us:List Value}{kw:List (Str × Value)}:(A.under (.builtin "type.__call__" ⟨.ref C::us,kw⟩)).units=A.units+1:=by
 first | rfl | simp [Around.under,Code.cUnits,Code.frames,Code.isFrame]
theorem Room.make {k:Nat}{A:Around} (r:Room (k+1) A) (C:Addr) (us:List Value) (kw:List (Str × Value)):Room k (A.under (.builtin "type.__call__" ⟨.ref C::us,kw⟩)):=
 ⟨r.hd,by have:=r.dp; rw [ahj]; omega,by have:=r.un; rw [ahk]; omega⟩
theorem Room.depth {k:Nat}{A:Around} (r:Room k A):A.depth<recursionLimit:=by have:=r.dp; omega
theorem Room.units {k:Nat}{A:Around} (r:Room k A):A.units+64<cLine:=by have:=r.un; omega
noncomputable def am1:TA:=fun _ H Q=>Q [] H
noncomputable def afM (ta:TE) (tr:TA):TA:=fun σ H Q=>ta σ H fun x H1=>tr σ H1 fun xs H2=>Q (x::xs) H2
section
variable {X:Cx}{e:Expr}{es:List Expr}{te:TE}{t:TA}{pos:Pos}
theorem aeu {α:Type}:∀ (us:List α),us.length=1->∃ a,us=[a]
 | [a],_=>⟨a,rfl⟩
theorem aae {α:Type} (us:List α) (h:us.length=2):∃ a b,us=[a,b]:=by
 cases us with
 | nil=>cases h
 | cons a r=>obtain ⟨b,rfl⟩:=aeu r (Nat.succ.inj h); exact ⟨a,b,rfl⟩
theorem Z3 {α:Type} (us:List α) (h:us.length=3):∃ a b c,us=[a,b,c]:=by
 cases us with
 | nil=>cases h
 | cons a r=>obtain ⟨b,c,rfl⟩:=aae r (Nat.succ.inj h); exact ⟨a,b,c,rfl⟩
theorem apf {α:Type} (us:List α) (h:us.length=4):∃ a b c d,us=[a,b,c,d]:=by
 cases us with
 | nil=>cases h
 | cons a r=>obtain ⟨b,c,d,rfl⟩:=Z3 r (Nat.succ.inj h); exact ⟨a,b,c,d,rfl⟩
theorem zw:PA X [] am1:=fun _ _ _ _ H Q I h=>Calls.spliced_nil ⟨[],H,I,.nil,h⟩
theorem qv (ha:PE X e te) (hr:PA X es t) (hs:starEach (e::es) X.env=(false,eval e X.env)::starEach es X.env:=by rfl):PA X (e::es) (afM te t):=by
 intro pos Kp s σ H Q I h
 rw [hs]
 show wpAny _ _ (spliced ((false,eval e X.env)::backTo pos (starEach es X.env))) _ _ s
 refine Calls.spliced_cons (thn (ha Kp s σ H _ I h) fun u s1 ⟨x,H1,I1,r1,q1⟩=>?_)
 exact thn (hr pos Kp s1 σ H1 _ I1 q1) fun us s2 ⟨xs,H2,I2,r2,q2⟩=>⟨x::xs,H2,I2,.cons r1 r2,q2⟩
noncomputable def ar7 (t:TA):TE:=fun σ H Q=>t σ H fun xs H1=>xs.length<=sizeLine/\∀ p,H1 p=none->Q (.ref p) (upd H1 p (.tup xs))
noncomputable def ar8 (t:TA):TE:=fun σ H Q=>t σ H fun xs H1=>xs.length<=sizeLine/\∀ p,H1 p=none->Q (.ref p) (upd H1 p (.lst xs))
theorem akL {x1} (h:PA X es t):PE X (.Tuple es x1 pos) (ar7 t):=by
 intro Kp s σ H Q I hq
 refine wpAny_Tuple_spliced (thn (h pos Kp s σ H _ I hq) fun us s1 ⟨xs,H1,I1,r,z,q⟩=>⟨by rw [←r.length]; exact z,?_⟩)
 have hf:H1 s1.heap.objs.size=none:=I1.hok.fresh (Nat.le_refl _)
 refine ⟨.ref s1.heap.objs.size,upd H1 s1.heap.objs.size (.tup xs),I1.laid (t':=s1.toks) (fun b u e=>Heap.get?_push_of_some _ e) (Nat.le_refl _) ?_,rfl,q _ hf⟩
 exact ⟨z,us,r,⟨_,Heap.get?_push_size _ rfl,rfl,_,rfl⟩⟩
theorem ahl (h:PA X es t):PE X (.List es pos) (ar8 t):=by
 intro Kp s σ H Q I hq
 refine wpAny_List_spliced (thn (h pos Kp s σ H _ I hq) fun us s1 ⟨xs,H1,I1,r,z,q⟩=>⟨by rw [←r.length]; exact z,?_⟩)
 have hf:H1 s1.heap.objs.size=none:=I1.hok.fresh (Nat.le_refl _)
 refine ⟨.ref s1.heap.objs.size,upd H1 s1.heap.objs.size (.lst xs),I1.laid (t':=s1.toks) (fun b u e=>Heap.get?_push_of_some _ e) (Nat.le_refl _) ?_,rfl,q _ hf⟩
 exact ⟨z,us,0,r,Heap.get?_push_size _ rfl⟩
end
noncomputable abbrev Sp:=List V->Hp->VK->XK->Prop
noncomputable abbrev CXT:=List Env->Hp->Shared->XK->Value->SP0
structure Env0 (P:Program) (w:World) (K:Fg) (mg:SV) (base:Heap) (A:Around) (Ko:List Env) (s:Shared) (H:Hp):Prop where
 frames:A.frames=some Ko
 mod:Mod K mg base
 bs:∀ b o,base.get? b=some o->s.heap.get? b=some o/\H b=none
 bsz:base.objs.size<=s.heap.objs.size
 funs:s.heap.FunFrames base Ko
 frf:∀ b ∈ frs Ko,H b=none
 hok:HOk P w H s.heap
 bare:AllBare s.gens
noncomputable def CE (Ko:List Env) (P:Program) (w:World) (H:Hp) (s:Shared) (Q:VK) (u:Value) (s':Shared):Prop:=
 ∃ v H',s'.os=s.os/\AllBare s'.gens/\Un (frs Ko) [] H H' s.heap s'.heap/\HOk P w H' s'.heap/\j8 v u/\Q v H'
noncomputable def CR (CX:CXT) (Ko:List Env) (P:Program) (w:World) (H:Hp) (s:Shared) (Q:VK) (E:XK) (r:Result) (s':Shared):Prop:=
 match r with
 | .ok (.ret u)=>CE Ko P w H s Q u s'
 | .ok _=>False
 | .error e=>CX Ko H s E e s'
structure FnOk (P:Program) (w:World) (K:Fg) (mg:SV) (base:Heap) (CX:CXT) (k:Nat) (f:Addr) (fd:FuncData) (ps:List Str) (sp:Sp):Prop where
 len:∀ vs H Q E,sp vs H Q E->vs.length=ps.length
 run:∀ (A:Around) (Ko:List Env) (s:Shared) (H:Hp) (args:Args) (us:List Value) (vs:List V) (Q:VK) (E:XK),Room k A->Env0 P w K mg base A Ko s H->BindsTo s fd args (ps.zip us)->jP vs us->sp vs H Q E->
  codeAny (model P w) A (.call (.ref f) args) (CR CX Ko P w H s Q E) s
theorem Env0.make {P:Program}{w:World}{K:Fg}{mg:SV}{base:Heap}{A:Around}{Ko:List Env}{s:Shared}{H:Hp} (e:Env0 P w K mg base A Ko s H) (C:Addr) (us:List Value) (kw:List (Str × Value)):
  Env0 P w K mg base (A.under (.builtin "type.__call__" ⟨.ref C::us,kw⟩)) Ko s H:=⟨by first | exact e.frames | (simpa [Around.under,Code.envs,Code.isFrame,pushEnvs] using e.frames),e.mod,e.bs,e.bsz,e.funs,e.frf,e.hok,e.bare⟩
section
variable {X:Cx}{Kp:List (Addr × Obj)}{σ:St}{H:Hp}{s s':Shared}
theorem Inv.env0 (I:Inv X Kp σ H s):Env0 X.prog X.w X.K X.mg X.base X.A X.stack s H:=
 ⟨I.ok.frames,I.ok.mod,I.bs,Nat.le_trans I.ok.bsz I.sz,I.stack,I.stkFree,I.hok,I.bare⟩
theorem Inv.after {Q:VK}{u:Value} (I:Inv X Kp σ H s) (h:CE X.stack X.prog X.w H s Q u s'):EP X Kp σ Q u s':=by
 obtain ⟨v,H',os,bare,un,hok,r,q⟩:=h
 obtain ⟨hh,g,d,t,os'⟩:=s'
 obtain rfl:os'=s.os:=os
 exact ⟨v,H',I.call (h':=hh) (g':=g) (d':=d) (t':=t) (ch:=[]) un hok bare (fun b z=>absurd z (by simp)),r,q⟩
end
noncomputable def akM (sp:Sp) (dvs:List V) (E:XK) (t:TA):TE:=fun σ H Q=>t σ H fun vs H1=>sp (vs++dvs) H1 Q E
noncomputable def JA (K:Fg) (fd:FuncData) (ps:List Str) (ds:List Value):Prop:=
 ∀ (s:Shared) (us:List Value),K.In s.heap->(us++ds).length=ps.length->BindsTo s fd ⟨us,[]⟩ (ps.zip (us++ds))
theorem JA.all {K:Fg}{fd:FuncData}{ps:List Str} (h:∀ us:List Value,us.length=ps.length->bindArgs fd ⟨us,[]⟩=pure (ps.zip us)):JA K fd ps []:=fun s us _ hl=>by
 rw [List.append_nil] at hl ⊢
 exact .of_eq (h us hl)
noncomputable def aev (CX:CXT) (X:Cx) (E:XK):Prop:=∀ (Kp:List (Addr × Obj)) (σ:St) (H:Hp) (s:Shared) (e:Value) (s':Shared),Inv X Kp σ H s->CX X.stack H s E e s'->X.xe e s'
section
variable {X:Cx}{CX:CXT}{k:Nat}{f C:Addr}{fd:FuncData}{ps:List Str}{sp:Sp}{dvs:List V}{ds:List Value}{E:XK}{x m:Str}{p pos apos:Pos}{e o:Expr}{es:List Expr}{ta:TE}{t:TA}
theorem acG {Kp:List (Addr × Obj)}{σ:St}{H:Hp}{s:Shared}{Q:VK}{us:List Value}{vs:List V} (F:FnOk X.prog X.w X.K X.mg X.base CX k f fd ps sp) (hr:Room k X.A) (hb:JA X.K fd ps ds) (hd:jP dvs ds) (hx:aev CX X E)
  (I:Inv X Kp σ H s) (r:jP vs us) (h:sp (vs++dvs) H Q E):wpAny (model X.prog X.w) X.A (call (.ref f) us) (EP X Kp σ Q) X.xe s:=by
 have r2:jP (vs++dvs) (us++ds):=r.append hd
 have hl:(us++ds).length=ps.length:=by rw [←r2.length]; exact F.len _ _ _ _ h
 refine wpAny_call (codeAny_mono (F.run X.A X.stack s H ⟨us,[]⟩ (us++ds) (vs++dvs) Q E hr I.env0 (hb s us I.kIn hl) r2 h) fun r s' hq=>?_)
 cases r with
 | error e=>exact hx Kp σ H s e s' I hq
 | ok fl=>
  cases fl with
  | ret u=>exact I.after hq
  | next=>exact False.elim hq
  | brk=>exact False.elim hq
  | cont=>exact False.elim hq
theorem aew (F:FnOk X.prog X.w X.K X.mg X.base CX k f fd ps sp) (hr:Room k X.A) (hg:Gl X x) (hm:X.mg x=some (.ref f)) (hk:PySem.W.keepIn X.K (.ref f)=true) (hb:JA X.K fd ps ds) (hd:jP dvs ds) (hx:aev CX X E)
  (ha:PA X (e::es) t) (hdb:(x == ("__debug__":Str))=false:=by decide) (he:starEach (e::es) X.env=(false,eval e X.env)::starEach es X.env:=by rfl) (hpl:(backTo pos (starEach es X.env)).any (·.1)=false:=by rfl):
  PE X (.Call (.Name x p) (e::es) [] pos) (akM sp dvs E t):=by
 intro Kp s σ H Q I h
 refine wpAny_Call_Name_kw (JF I hg hm ?_ hdb)
 refine PySem.W.callWith_K (h₀:=X.base) I.ok.mod.kin hk (thn (ha pos Kp s σ H _ I h) fun us s1 ⟨vs,H1,I1,r,q⟩=>⟨I1.kIn,?_⟩) he hpl
 exact acG F hr hb hd hx I1 r q
structure Mk (K:Fg) (C f:Addr):Prop where
 makes:PySem.W.makesIn K C=true
 init:PySem.W.findIn K (.ref C) "__init__"=some (some (.ref f))
 fn:PySem.W.isFn K (.ref f)=true
 kp:PySem.W.keepIn K (.ref C)=true
end
noncomputable def PK (X:Cx) (kws:List Keyword) (t:TA):Prop:=
 ∀ (pos:Pos) (Kp:List (Addr × Obj)) (s:Shared) (σ:St) (H:Hp) (Q:List V->Hp->Prop),Inv X Kp σ H s->t σ H Q->wpAny (model X.prog X.w) X.A (evalAll ((backToKw pos (keywordEach kws X.env)).map (·.2))) (AP X Kp σ Q) X.xe s
section
variable {X:Cx}{CX:CXT}{k:Nat}{f C:Addr}{fd:FuncData}{ps ks:List Str}{sp:Sp}{E:XK}{x m:Str}{p pos apos kpos:Pos}{e o:Expr}{es:List Expr}{kws:List Keyword}{te ta:TE}{t tk:TA}{nm:Option Str}
theorem apg:PK X [] am1:=fun _ _ _ _ H Q I h=>wpAny_evalAll_nil ⟨[],H,I,.nil,h⟩
theorem aih (ha:PE X e te) (hr:PK X kws t):PK X (⟨nm,e,kpos⟩::kws) (afM te t):=by
 intro pos Kp s σ H Q I h
 show wpAny _ _ (evalAll ((do let v ←eval e X.env; standAt pos; pure v)::(backToKw pos (keywordEach kws X.env)).map (·.2))) _ _ s
 refine wpAny_evalAll_cons (wpAny_bind (thn (ha Kp s σ H _ I h) fun u s1 ⟨x,H1,I1,r1,q1⟩=>wpAny_bind (wpAny_standAt (wpAny_pure ?_))))
 exact thn (hr pos Kp s1 σ H1 _ I1 q1) fun us s2 ⟨xs,H2,I2,r2,q2⟩=>⟨x::xs,H2,I2,.cons r1 r2,q2⟩
structure KBinds (K:Fg) (fd:FuncData) (ps ks:List Str) (g:List Value->List Value->List Value) (gV:List V->List V->List V):Prop where
 to:∀ (s:Shared) (us ws:List Value),K.In s.heap->(g us ws).length=ps.length->BindsTo s fd ⟨us,ks.zip ws⟩ (ps.zip (g us ws))
 rel:∀ {vs:List V} {us:List Value} {zs:List V} {ws:List Value},jP vs us->jP zs ws->jP (gV vs zs) (g us ws)
variable {g:List Value->List Value->List Value}{gV:List V->List V->List V}
end
structure FnScope (N P:List Str) (sc:Scope):Prop where
 kind:sc.kind= .function
 co:sc.isCoroutine=false
 gen:sc.isGenerator=false
 nd:N.Nodup
 pre:N.take P.length=P
 par:∀ x ∈ P,sc.names.lookup x=some .local ∨ sc.names.lookup x=some .cell
 nofree:∀ y ∈ sc.names,y.2 ≠ .free
theorem adH {kindOf:Str->Option NameKind}{x:Str}:∀ {binds:List (Str × Value)}{m:SV},(∀ v,(x,v) ∉ binds)->bindL kindOf binds m x=m x
 | [],_,_=>rfl
 | (n,v)::r,m,h=>by
  unfold bindL
  rw [adH fun w hw=>h w (List.mem_cons_of_mem _ hw)]
  split
  ·have:x ≠ n:=by rintro rfl; exact h v List.mem_cons_self
   simp [this]
  ·rfl
theorem adI {kindOf:Str->Option NameKind}{x:Str}:∀ {binds:List (Str × Value)}{m:SV},(∀ v,(x,v) ∉ binds)->bindC kindOf binds m x=m x
 | [],_,_=>rfl
 | (n,v)::r,m,h=>by
  unfold bindC
  rw [adI fun w hw=>h w (List.mem_cons_of_mem _ hw)]
  split
  ·rfl
  ·have:x ≠ n:=by rintro rfl; exact h v List.mem_cons_self
   simp [this]
theorem adJ {kindOf:Str->Option NameKind}{x:Str}{v:Value}:∀ {P:List Str}{vs:List Value}{i:Nat}{m:SV},P.Nodup->P[i]?=some x->vs[i]?=some v->kindOf x=some .local->
  bindL kindOf (P.zip vs) m x=some v
 | [],_,_,_,_,h,_,_=>by simp at h
 | _::_,[],_,_,_,_,h,_=>by simp at h
 | p::P,w::vs,0,m,nd,h1,h2,hk=>by
  simp at h1 h2; subst h1; subst h2
  show bindL kindOf ((p,w)::P.zip vs) m p=_
  unfold bindL
  rw [adH fun v hv=>(List.nodup_cons.mp nd).1 (List.of_mem_zip hv).1,if_pos hk]
  simp
 | p::P,w::vs,i+1,m,nd,h1,h2,hk=>by
  show bindL kindOf ((p,w)::P.zip vs) m x=_
  unfold bindL
  exact adJ (i:=i) (List.nodup_cons.mp nd).2 (by simpa using h1) (by simpa using h2) hk
theorem adK {kindOf:Str->Option NameKind}{x:Str}{v:Value}:∀ {P:List Str}{vs:List Value}{i:Nat}{m:SV},P.Nodup->P[i]?=some x->vs[i]?=some v->kindOf x ≠ some .local->
  bindC kindOf (P.zip vs) m x=some v
 | [],_,_,_,_,h,_,_=>by simp at h
 | _::_,[],_,_,_,_,h,_=>by simp at h
 | p::P,w::vs,0,m,nd,h1,h2,hk=>by
  simp at h1 h2; subst h1; subst h2
  show bindC kindOf ((p,w)::P.zip vs) m p=_
  unfold bindC
  rw [adI fun v hv=>(List.nodup_cons.mp nd).1 (List.of_mem_zip hv).1,if_neg hk]
  simp
 | p::P,w::vs,i+1,m,nd,h1,h2,hk=>by
  show bindC kindOf ((p,w)::P.zip vs) m x=_
  unfold bindC
  exact adK (i:=i) (List.nodup_cons.mp nd).2 (by simpa using h1) (by simpa using h2) hk
noncomputable def zO (N:List Str) (vs:List V):St:=vs.map some++List.replicate (N.length - vs.length) none
noncomputable def zU (CX:CXT) (P:Program) (w:World) (K:Fg) (mg:SV) (base:Heap) (N:List Str) (qual:Str) (scope:Scope) (f:Addr) (cd:Value) (A:Around) (Ko:List Env) (s:Shared) (H:Hp) (E:XK):Cx where
 prog:=P
 w:=w
 K:=K
 mg:=mg
 base:=base
 A:=A.deeper (envOfC qual scope s.heap.objs.size f cd)
 N:=N
 s₀:=s
 H₀:=H
 env:=envOfC qual scope s.heap.objs.size f cd
 Ko:=Ko
 stack:=envOfC qual scope s.heap.objs.size f cd::Ko
 ex:=[]
 calm:=true
 fn:=fun _=>true
 pn:=[]
 xe:=fun e s'=>wpAny (model P w) (A.deeper (envOfC qual scope s.heap.objs.size f cd)) (leaving (envOfC qual scope s.heap.objs.size f cd) e) (fun _ s''=>CX Ko H s E e s'') (fun e' s''=>CX Ko H s E e' s'') s'
theorem afN {sc:Scope}{n:Nat}{x:Str} (h:sc.names.lookup x=some .cell):∃ c,(cellsFrom n sc.names []).lookup x=some c:=by
 have q:=PySem.W.cellsFrom_some sc.names n [] (.inl h)
 exact Option.isSome_iff_exists.mp q
theorem abg {CX:CXT}{P:Program}{w:World}{K:Fg}{mg:SV}{base:Heap}{N ps:List Str}{qual:Str}{scope:Scope}{f:Addr}{cd:Value}{A:Around}{Ko:List Env}{s s1:Shared}{H:Hp}{E:XK}{us:List Value}{vs:List V}
  (S:FnScope N ps scope) (hd:A.handled=none) (e0:Env0 P w K mg base A Ko s H) (hl:vs.length=ps.length) (r:jP vs us)
  (x:InCallC s s.heap.objs.size (bindL (envOfC qual scope s.heap.objs.size f cd).kindOf (ps.zip us) fun _=>none) (cellsFrom (s.heap.objs.size+1) scope.names []) (bindC (envOfC qual scope s.heap.objs.size f cd).kindOf (ps.zip us) fun _=>none) s1):
  Inv (zU CX P w K mg base N qual scope f cd A Ko s H E) [] (zO N vs) H s1:=by
 have hpl:ps.length<=N.length:=by have:=congrArg List.length S.pre; rw [List.length_take] at this; omega
 obtain ⟨h1,tk,rfl,hk⟩:=x.done
 have noA:∀ b:Addr,b ∉ (zU CX P w K mg base N qual scope f cd A Ko s H E).ex:=fun b z=>absurd (show b ∈ ([]:List Addr) from z) (by simp)
 refine ⟨⟨e0.mod,S.kind,rfl,rfl,Nat.le_refl _,fun y z c h1 h2=>?_,fun y hy=>?_,fun y c _ h=>?_,fun _=>hd,Around.frames_deeper e0.frames,.inr ⟨rfl,rfl⟩,fun b z=>absurd z (noA b),e0.bs,e0.bsz,fun b _ _=>noA b,fun b z=>absurd z (noA b),e0.funs,e0.frf⟩,
  rfl,e0.bare,Un.kept hk,⟨_,x.toInCall.ns,fun i y v h1 h2 h3=>?_⟩,fun y c h=>⟨_,x.cell y c h⟩,e0.hok.fresh (Nat.le_refl _),fun y c h=>?_,fun p hp=>absurd (show p ∈ ([]:List (Addr × Obj)) from hp) (by simp),e0.hok.kept hk,?_⟩
 ·exact name_of_addr x.apart (PySem.mem_of_lookup h1) (PySem.mem_of_lookup h2)
 ·have hy:scope.names.lookup y=some .cell ∨ scope.names.lookup y=some .free:=hy
  rcases hy with hy | hy
  ·exact afN hy
  ·exact absurd rfl (S.nofree _ (PySem.mem_of_lookup hy))
 ·exact Nat.le_of_lt (x.above y c (PySem.mem_of_lookup h))
 ·have hi:i<vs.length:=by
   unfold zO at h2
   by_cases hi:i<vs.length
   ·exact hi
   ·rw [List.getElem?_append_right (by simpa using hi)] at h2
    rw [List.getElem?_replicate] at h2
    split at h2 <;> cases h2
  have ha:vs[i]?=some v:=by
   unfold zO at h2
   rw [List.getElem?_append_left (by simpa using hi),List.getElem?_map] at h2
   cases e:vs[i]? with
   | none=>rw [e] at h2; cases h2
   | some a=>rw [e] at h2; cases h2; rfl
  obtain ⟨u,hu,rv⟩:=r.get ha
  have hp:ps[i]?=some y:=by
   rw [←S.pre,List.getElem?_take_of_lt (by omega)]; exact h1
  have ndP:ps.Nodup:=by rw [←S.pre]; exact S.nd.sublist (List.take_sublist _ _)
  refine ⟨u,rv,?_⟩
  rcases S.par y (List.mem_of_getElem? hp) with k | k
  ·exact .inl ⟨k,adJ ndP hp hu k⟩
  ·obtain ⟨c,e⟩:=afN (n:=s.heap.objs.size+1) k
   refine .inr ⟨.inl k,c,e,?_⟩
   have q:=x.cell y c e
   rw [adK ndP hp hu (by show scope.names.lookup y ≠ _; rw [k]; decide)] at q
   exact q
 ·exact e0.hok.fresh (Nat.le_of_lt (x.above y c (PySem.mem_of_lookup h)))
 ·unfold zO
  show _=N.length
  rw [List.length_append,List.length_map,List.length_replicate]
  omega
theorem aqI {CX:CXT}{P:Program}{w:World}{K:Fg}{mg:SV}{base:Heap}{k:Nat}{f:Addr}{name qual:Str}{params:Arguments}{body:List Stmt}{scope:Scope}{dV kV doc pm Kc ct oc:Value}{an od:Option Addr}
  {osl:Array (Option Value)} {N ps:List Str} {sp:Sp} (lk:K.lookup f=some ⟨oc,od,.func (PySem.W.fnOf name qual params body scope dV kV doc pm an Kc ct),osl⟩) (hcd:PySem.W.codeIn K Kc qual=true) (S:FnScope N ps scope)
  (len:∀ vs H Q E,sp vs H Q E->vs.length=ps.length)
  (hbody:∀ (A:Around) (Ko:List Env) (s:Shared) (H:Hp) (vs:List V) (Q:VK) (E:XK),Room k (A.deeper (envOfC qual scope s.heap.objs.size f Kc))->sp vs H Q E->
   ∃ t,PSs (zU CX P w K mg base N qual scope f Kc A Ko s H E) body t/\t { nx:=fun _ H'=>Q .non H',rt:=Q } (zO N vs) H):
  FnOk P w K mg base CX (k+1) f (PySem.W.fnOf name qual params body scope dV kV doc pm an Kc ct) ps sp:=by
 refine ⟨len,fun A Ko s H args us vs Q E hr e0 hb r hsp=>?_⟩
 have hl:=len _ _ _ _ hsp
 have KX:K.In s.heap:=e0.mod.kin.keeps fun b o e=>(e0.bs b o e).1
 have lim:s.heap.NoLimit:=e0.mod.nolimit.keeps fun b o e=>(e0.bs b o e).1
 have hkind:∀ y ∈ ps.zip us,scope.names.lookup y.1=some .local ∨ (scope.names.lookup y.1=some .cell/\((cellsFrom (s.heap.objs.size+1) scope.names []).lookup y.1).isSome=true):=fun ⟨n,v⟩ hy=>by
  rcases S.par n (List.of_mem_zip hy).1 with q | q
  ·exact .inl q
  ·exact .inr ⟨q,PySem.W.cellsFrom_some _ _ _ (.inl q)⟩
 refine codeAny_call_function hr.depth (KX _ _ lk) rfl S.co S.gen rfl (PySem.W.codeRec_of KX hcd) (hb _ _ _ _ ?_)
 refine wpAny_newFunctionEnv_cells S.kind hkind fun env he s1 x=>?_
 subst he
 refine ⟨lim.keeps x.toInCall.keep,codeAny_func ?_⟩
 obtain ⟨t,ht,hq⟩:=hbody A Ko s H vs Q E (hr.deeper _) hsp
 have I:Inv (zU CX P w K mg base N qual scope f Kc A Ko s H E) [] (zO N vs) H s1:=abg S hr.hd e0 hl r x
 refine wpAny_mono (ht [] s1 (zO N vs) H _ I hq) (fun fl s' hs=>?_) fun e s' hs=>hs
 have fin:∀ {σ':St} {H':Hp} {v:V} {u:Value},Inv (zU CX P w K mg base N qual scope f Kc A Ko s H E) [] σ' H' s'->j8 v u->Q v H'->CE Ko P w H s Q u s':=
  fun {σ' H' v u} J rv q=>⟨v,H',J.os,J.bare,J.base,J.hok,rv,q⟩
 cases fl with
 | ret u=>
  obtain ⟨v,σ',H',J,rv,q⟩:=hs
  exact fin J rv q
 | next=>
  obtain ⟨σ',H',J,q⟩:=hs
  exact fin (v:=V.non) (u:=Value.none) J rfl q
 | brk=>
  obtain ⟨_,_,_,q⟩:=hs
  exact False.elim q
 | cont=>
  obtain ⟨_,_,_,q⟩:=hs
  exact False.elim q
section
variable {X:Cx}{x:Str}{p pos:Pos}{e:Expr}{es:List Expr}{t:TA}{id T:String}{r:List V->Hp->VK->Prop}
noncomputable def tCB (r:List V->Hp->VK->Prop) (t:TA):TE:=fun σ H Q=>t σ H fun vs H1=>r vs H1 Q
theorem Za (hc:Q9 X (.builtin id) r) (hg:Gl X x) (hm:X.mg x=none) (hv:bootBuiltins x=some (.builtin id)) (ha:PA X (e::es) t) (hn:x ≠ "__name__":=by decide) (hdb:(x == ("__debug__":Str))=false:=by decide)
  (he:starEach (e::es) X.env=(false,eval e X.env)::starEach es X.env:=by rfl) (hpl:(backTo pos (starEach es X.env)).any (·.1)=false:=by rfl):PE X (.Call (.Name x p) (e::es) [] pos) (tCB r t):=by
 intro Kp s σ H Q I h
 refine wpAny_Call_Name_kw (Q8 I hg hm hv ?_ hn hdb)
 exact PyProof.Rows.callWith_builtin1 (thn (ha pos Kp s σ H _ I h) fun us s1 ⟨vs,H1,I1,r1,q1⟩=>hc Kp s1 σ H1 vs us Q I1 r1 q1) he hpl
theorem adL (hc:Q9 X (.type T) r) (hg:Gl X x) (hm:X.mg x=none) (hv:bootBuiltins x=some (.type T)) (ha:PA X (e::es) t) (hn:x ≠ "__name__":=by decide) (hdb:(x == ("__debug__":Str))=false:=by decide)
  (he:starEach (e::es) X.env=(false,eval e X.env)::starEach es X.env:=by rfl) (hpl:(backTo pos (starEach es X.env)).any (·.1)=false:=by rfl):PE X (.Call (.Name x p) (e::es) [] pos) (tCB r t):=by
 intro Kp s σ H Q I h
 refine wpAny_Call_Name_kw (Q8 I hg hm hv ?_ hn hdb)
 exact PyProof.Rows.callWith_type1 (thn (ha pos Kp s σ H _ I h) fun us s1 ⟨vs,H1,I1,r1,q1⟩=>hc Kp s1 σ H1 vs us Q I1 r1 q1) he hpl
end
end L2
namespace HT
open PySem PyProof.Rows
section
open PySem.SeqAt
open PySem.AutoSeq1 (wpAny_loadPart')
open PySem.MeetsSeq PySem.MeetsSeq2 PySem.MeetsSeq3
end
section
variable {prog:Program}{w:World}{A:Around}{E:Value->SP0}{s:Shared}
theorem cat_tup {t b:Addr}{vs ws:List Value}{Q:Value->SP0} (ht:IsTup s.heap t vs.toArray) (hb:IsTup s.heap b ws.toArray) (hv:vs ≠ [])
  (h1:ws=[]->Q (.ref t) s) (h2:ws ≠ []->Q (.ref s.heap.objs.size) { s with heap:=s.heap.push { cls:= .type "tuple",data:= .seq (vs++ws).toArray } })
  (hsz:vs.length+ws.length<=sizeLine):wpAny (model prog w) A (binaryOp .Add (.ref t) (.ref b)) Q E s:=by
 obtain ⟨⟨cls,dd,data,sl⟩,ho,hc,n,hd⟩:=id ht
 obtain ⟨⟨cls2,dd2,data2,sl2⟩,ho2,hc2,n2,hd2⟩:=id hb
 simp only at hc hd hc2 hd2
 subst hc hd hc2 hd2
 have e:vs.toArray++ws.toArray=(vs++ws).toArray:=by simp
 by_cases hw:ws=[]
 ·exact concat_meets ⟨_,ho,rfl⟩ ⟨_,ho2,rfl⟩ noFill_tuple_add seq_tuple_add PySem.F.slot_tuple_add PySem.F.entry_tuple_add (PySem.F.args_tuple_add_2 _ _)
   (tuple_addW1 t b vs.toArray ws.toArray n n2 dd dd2 sl sl2 (by simpa using hv) (by simp [hw])) ⟨ho,ho2,h1 hw⟩
 ·refine concat_meets ⟨_,ho,rfl⟩ ⟨_,ho2,rfl⟩ noFill_tuple_add seq_tuple_add PySem.F.slot_tuple_add PySem.F.entry_tuple_add (PySem.F.args_tuple_add_2 _ _)
   (tuple_addW2 t b vs.toArray ws.toArray n n2 dd dd2 sl sl2 (by simpa using hv) (by simpa using hw) (by rw [List.size_toArray,List.size_toArray]; exact hsz)) ⟨ho,ho2,?_⟩
  rw [e]
  exact h2 hw
noncomputable def sIx (n d:Nat):Option Int->Nat
 | none=>d
 | some v=>if v<0 then (v+(n:Int)).toNat else min v.toNat n
theorem sIx_none (n d:Nat):sIx n d none=d:=rfl
theorem sIx_nat (n d k:Nat):sIx n d (some (k:Int))=min k n:=by
 show (if (k:Int)<0 then ((k:Int)+(n:Int)).toNat else min (k:Int).toNat n)=min k n
 rw [if_neg (by omega),Int.toNat_natCast]
theorem aph (n d:Nat) (hd:d<=n) (o:Option Int):sIx n d o<=n:=by
 cases o with
 | none=>exact hd
 | some v=>
  show (if v<0 then (v+(n:Int)).toNat else min v.toNat n)<=n
  by_cases hv:v<0
  ·rw [if_pos hv]; omega
  ·rw [if_neg hv]; exact Nat.min_le_right _ _
theorem aii (v:Int) (n d:Nat):(if v<0 then max (v+(n:Int)) 0 else min v (n:Int))=((sIx n d (some v):Nat):Int):=by
 show (if v<0 then max (v+(n:Int)) 0 else min v (n:Int))=(((if v<0 then (v+(n:Int)).toNat else min v.toNat n):Nat):Int)
 by_cases hv:v<0
 ·simp only [if_pos hv]; omega
 ·simp only [if_neg hv]; omega
theorem ahm (lo hi:Option Int) (n:Nat):Builtin.Slice.sliceAdjust lo hi 1 (n:Int)=(((sIx n 0 lo:Nat):Int),((sIx n n hi:Nat):Int)):=by
 have h1:¬ ((1:Int)<0):=by omega
 unfold Builtin.Slice.sliceAdjust
 simp only [h1,zzN]
 refine Prod.ext ?_ ?_
 ·cases lo with
  | none=>rfl
  | some v=>exact aii v n 0
 ·cases hi with
  | none=>rfl
  | some v=>exact aii v n n
theorem ahn (i j:Nat):Builtin.Slice.slicePlaces (i:Int) (j:Int) 1=j - i:=by
 unfold Builtin.Slice.slicePlaces
 have h1:(1:Int) > 0:=by omega
 simp only [h1,zzM,Int.ediv_one]
 split <;> omega
theorem acH {v:Value}{o:Option Int}{Q:Option Int->SP0} (p:IsPart v o) (h:Q o s):wpAny (model prog w) A (Builtin.Slice.slicePartIndex v) Q E s:=by
 cases p with
 | none=>exact slicePart_none h
 | int i t=>exact slicePart_int h
theorem sliceApplied_gen {sl:Addr}{vl vu:Value}{lo hi:Option Int}{n:Nat}{Q:Int × Int × Nat->SP0} (hs:s.heap.IsSliceOf sl vl vu .none) (pl:IsPart vl lo) (pu:IsPart vu hi)
  (h:Q (((sIx n 0 lo:Nat):Int),1,sIx n n hi - sIx n 0 lo) s):wpAny (model prog w) A (Builtin.Slice.sliceApplied (.ref sl) (pure (n:Int))) Q E s:=by
 obtain ⟨os,hos,hcs,hds⟩:=id hs
 unfold Builtin.Slice.sliceApplied Builtin.Slice.sliceFields
 refine wpAny_bind (wpAny_bind (wpAny_field hos hds (x:=vl) rfl (wpAny_bind (wpAny_field hos hds (x:=vu) rfl (wpAny_bind (wpAny_field hos hds (x:= .none) rfl (wpAny_pure ?_)))))))
 refine wpAny_bind (slicePart_none ?_)
 show wpAny _ _ (if ((1:Int) == 0)=true then _ else _) _ _ s
 rw [if_neg (by decide)]
 refine wpAny_bind (acH pl (wpAny_bind (acH pu (wpAny_bind (wpAny_pure ?_)))))
 show wpAny _ _ (match Builtin.Slice.sliceAdjust lo hi 1 (n:Int) with | (lo,hi)=>pure (lo,(1:Int),Builtin.Slice.slicePlaces lo hi 1)) _ _ s
 rw [ahm lo hi n]
 show wpAny _ _ (pure (((sIx n 0 lo:Nat):Int),(1:Int),Builtin.Slice.slicePlaces ((sIx n 0 lo:Nat):Int) ((sIx n n hi:Nat):Int) 1)) _ _ s
 rw [ahn]
 exact wpAny_pure h
theorem akN (xs:Array Value) (i k:Nat):((List.range k).filterMap fun (m:Nat)=>xs[((i:Int)+(m:Int)*1).toNat]?).toArray=((xs.toList.drop i).take k).toArray:=by
 have e:(fun (m:Nat)=>xs[((i:Int)+(m:Int)*1).toNat]?)=fun m=>xs[i+m]?:=by
  funext m
  have:((i:Int)+(m:Int)*1).toNat=i+m:=by omega
  rw [this]
 rw [e]
 have:=pick_run xs i k
 rw [List.filterMap_map] at this
 have e2:((fun x=>xs[x]?) ∘ fun x=>i+x)=fun m=>xs[i+m]?:=rfl
 rw [e2] at this
 rw [this]
theorem getItem_tuple_cut {t sl:Addr}{items:Array Value}{vl vu:Value}{lo hi:Option Int}{Q:Value->SP0} (ht:IsTup s.heap t items) (hs:s.heap.IsSliceOf sl vl vu .none) (pl:IsPart vl lo) (pu:IsPart vu hi)
  (hw:¬ (sIx items.size 0 lo=0/\sIx items.size items.size hi=items.size))
  (h:Q (.ref s.heap.objs.size) { s with heap:=s.heap.push { cls:= .type "tuple",data:= .seq ((items.toList.drop (sIx items.size 0 lo)).take (sIx items.size items.size hi - sIx items.size 0 lo)).toArray } })
  (hsz:items.size<=sizeLine):wpAny (model prog w) A (getItem (.ref t) (.ref sl)) Q E s:=by
 have htake:sizeOk (.seq ((items.toList.drop (sIx items.size 0 lo)).take (sIx items.size items.size hi - sIx items.size 0 lo)).toArray):=by
  show ((items.toList.drop (sIx items.size 0 lo)).take (sIx items.size items.size hi - sIx items.size 0 lo)).toArray.size<=sizeLine
  rw [List.size_toArray,List.length_take,List.length_drop,Array.length_toList]
  omega
 have hj:sIx items.size items.size hi<=items.size:=aph _ _ (Nat.le_refl _) hi
 obtain ⟨os,hos,hcs,hds⟩:=id hs
 have hTs:s.TypeIs (.ref sl) "slice":=⟨os,hos,hcs⟩
 unfold getItem
 try with_reducible refine wpAny_holding ?_
 first | refine wpAny_bind (wpAny_pure ?_) | skip
 refine wpAny_bind (wpAny_sequenceKey ht.typeIs (by decide) ?_)
 refine wpAny_bind (wpAny_callSpecial?_slot (name:=Str.ofString "__getitem__") ht.typeIs PyProof.Rows.slot_tuple_getitem
  (wpAny_call_entry PyProof.Rows.slot_tuple_getitem ht.typeIs entry_tuple_getitem ?_ (args_tuple_getitem _ _)))
 show wpAny _ _ (Builtin.Tuple.tupleItemsOf (.ref t) >>= _) _ _ s
 refine wpAny_bind (tupleItemsOf_ ht ?_)
 refine wpAny_bind (wpAny_typeOf hTs ?_)
 rw [if_pos (by decide)]
 refine wpAny_bind (sliceApplied_gen hs pl pu ?_)
 have hno:¬ ((((sIx items.size 0 lo:Nat):Int) == 0 && (1:Int) == 1 && (sIx items.size items.size hi - sIx items.size 0 lo) == items.size)=true):=by
  intro q
  rw [Bool.and_eq_true,Bool.and_eq_true] at q
  have q1:((sIx items.size 0 lo:Nat):Int)=0:=eq_of_beq q.1.1
  have q2:sIx items.size items.size hi - sIx items.size 0 lo=items.size:=eq_of_beq q.2
  exact hw ⟨by omega,by omega⟩
 show wpAny _ _ (if (((sIx items.size 0 lo:Nat):Int) == 0 && (1:Int) == 1 && (sIx items.size items.size hi - sIx items.size 0 lo) == items.size)=true then _ else _) _ _ s
 rw [if_neg hno,akN]
 first
  | exact wpAny_bind (m:=Builtin.Tuple.tupleExact _) (wpAny_newObj_type (wpAny_pure ⟨_,rfl,wpAny_pure h⟩) htake)
  | exact wpAny_bind (m:=Builtin.Tuple.tupleExact _) (wpAny_newObj_type (wpAny_bind (wpAny_pure (wpAny_pure ⟨_,rfl,wpAny_pure h⟩))) htake)
  | exact wpAny_bind (wpAny_bind (m:=Builtin.Tuple.tupleExact _) (wpAny_newObj_type (wpAny_pure (wpAny_pure ⟨_,rfl,wpAny_pure h⟩)) htake))
  | exact wpAny_bind (wpAny_bind (m:=Builtin.Tuple.tupleExact _) (wpAny_newObj_type (wpAny_pure ⟨_,rfl,wpAny_pure h⟩) htake))
end
end HT
namespace L2
open PySem PySem.Spec PyProof.Rows
noncomputable abbrev TO:=St->Hp->(Option Int->Hp->Prop)->Prop
noncomputable def PO (X:Cx) (e:Option Expr) (t:TO):Prop:=
 ∀ (Kp:List (Addr × Obj)) (s:Shared) (σ:St) (H:Hp) (Q:Option Int->Hp->Prop),Inv X Kp σ H s->t σ H Q->
  wpAny (model X.prog X.w) X.A (evalPart e X.env) (fun u s'=>∃ o H',Inv X Kp σ H' s'/\IsPart u o/\Q o H') X.xe s
noncomputable def am2:TO:=fun _ H Q=>Q none H
noncomputable def aqJ (t:TE):TO:=fun σ H Q=>t σ H fun x H1=>∃ i,x= .int i/\Q (some i) H1
section
variable {X:Cx}{e:Expr}{te:TE}{lo hi:Option Expr}{tl th:TO}{pos p2:Pos}
theorem aij:PO X none am2:=by
 intro Kp s σ H Q I h
 rw [evalPart_none]
 exact wpAny_pure ⟨none,H,I,.none,h⟩
theorem aik (h:PE X e te):PO X (some e) (aqJ te):=by
 intro Kp s σ H Q I hw
 rw [evalPart_some]
 refine thn (h Kp s σ H _ I hw) fun u s1 ⟨x,H1,I1,r1,q1⟩=>?_
 obtain ⟨i,rfl,q⟩:=q1
 obtain ⟨t,rfl⟩:=r1
 exact ⟨some i,H1,I1,.int i t,q⟩
noncomputable def SlR (X:Cx) (r:V->Option Int->Option Int->Hp->VK->Prop):Prop:=
 ∀ (Kp:List (Addr × Obj)) (s:Shared) (σ:St) (H:Hp) (x:V) (v vl vu:Value) (lo hi:Option Int) (sl:Addr) (Q:VK),Inv X Kp σ H s->j8 x v->s.heap.IsSliceOf sl vl vu .none->IsPart vl lo->IsPart vu hi->r x lo hi H Q->
  ∃ T id,typeLookup (.type T) "__getitem__"=pure (some (.builtin id))/\s.TypeIs v T/\wpAny (model X.prog X.w) X.A (getItem v (.ref sl)) (EP X Kp σ Q) X.xe s
theorem SlR.or {r r':V->Option Int->Option Int->Hp->VK->Prop} (h:SlR X r) (h':SlR X r'):SlR X (fun x lo hi H Q=>r x lo hi H Q ∨ r' x lo hi H Q):=by
 intro Kp s σ H x v vl vu lo hi sl Q I rx hs pl pu q
 rcases q with q | q
 ·exact h Kp s σ H x v vl vu lo hi sl Q I rx hs pl pu q
 ·exact h' Kp s σ H x v vl vu lo hi sl Q I rx hs pl pu q
noncomputable def tSl (r:V->Option Int->Option Int->Hp->VK->Prop) (te:TE) (tl th:TO):TE:=fun σ H Q=>te σ H fun x H1=>tl σ H1 fun l H2=>th σ H2 fun u H3=>r x l u H3 Q
theorem afO {r:V->Option Int->Option Int->Hp->VK->Prop} (hr:SlR X r) (he:PE X e te) (hl:PO X lo tl) (hu:PO X hi th):PE X (.Subscript e (.Slice lo hi none p2) pos) (tSl r te tl th):=by
 intro Kp s σ H Q I h
 refine Subscript_ (thn (he Kp s σ H _ I h) fun v s1 ⟨x,H1,I1,r1,q1⟩=>?_)
 refine wpAny_Slice (thn (hl Kp s1 σ H1 _ I1 q1) fun vl s2 ⟨l,H2,I2,pl,q2⟩=>thn (hu Kp s2 σ H2 _ I2 q2) fun vu s3 ⟨u,H3,I3,pu,q3⟩=>?_)
 rw [evalPart_none]
 refine wpAny_pure ?_
 have I4:Inv X Kp σ H3 { s3 with heap:=s3.heap.push { cls:= .type "slice",data:= .fields #[vl,vu,.none] } }:=I3.kept (t':=s3.toks) fun b ob q=>Heap.get?_push_of_some _ q
 obtain ⟨T,id,hT,ht,hg⟩:=hr Kp { s3 with heap:=s3.heap.push { cls:= .type "slice",data:= .fields #[vl,vu,.none] } } σ H3 x v vl vu l u s3.heap.objs.size Q I4 r1 (Heap.IsSliceOf.new ..) pl pu q3
 show wpAny (model X.prog X.w) X.A (subscriptTail e (.Slice lo hi none p2) v (.ref s3.heap.objs.size)) (EP X Kp σ Q) X.xe { s3 with heap:=s3.heap.push { cls:= .type "slice",data:= .fields #[vl,vu,.none] } }
 exact tail_any (ops:=[.ref s3.heap.objs.size,v]) ht hT hg (by with_unfolding_all rfl)
noncomputable def aex (xs:List V) (lo hi:Option Int):List V:=(xs.drop (HT.sIx xs.length 0 lo)).take (HT.sIx xs.length xs.length hi - HT.sIx xs.length 0 lo)
theorem afP (xs:List V) (lo hi:Option Int):(aex xs lo hi).length<=xs.length:=by
 unfold aex
 rw [List.length_take,List.length_drop]
 omega
noncomputable def aqK (K:Fg):V->Option Int->Option Int->Hp->VK->Prop:=fun x lo hi H Q=>∃ a xs,x= .ref a/\SqT K H a xs/\
 ¬ (HT.sIx xs.length 0 lo=0/\HT.sIx xs.length xs.length hi=xs.length)/\∀ p,H p=none->Q (.ref p) (upd H p (.tup (aex xs lo hi)))
theorem akO:SlR X (aqK X.K):=by
 intro Kp s σ H x v vl vu lo hi sl Q I rx hs pl pu h
 obtain ⟨a,xs,rfl,hx,hw,q⟩:=h
 cases rx
 obtain ⟨its,r,ht,hz⟩:=I.tuple hx
 have hlen:its.toArray.size=xs.length:=by rw [List.size_toArray]; exact r.length.symm
 refine ⟨"tuple",_,PyProof.Rows.slot_tuple_getitem.lookup,ht.typeIs,?_⟩
 refine HT.getItem_tuple_cut ht hs pl pu (by rw [hlen]; exact hw) ?_ (by rw [hlen]; exact hz)
 rw [hlen]
 refine ⟨.ref s.heap.objs.size,_,I.laid (t':=s.toks) (o:= .tup (aex xs lo hi)) (fun b ob q=>Heap.get?_push_of_some _ q) (Nat.le_refl _) ?_,rfl,q _ (I.hok.fresh (Nat.le_refl _))⟩
 exact ⟨Nat.le_trans (afP xs lo hi) hz,_,(r.drop (HT.sIx xs.length 0 lo)).take (HT.sIx xs.length xs.length hi - HT.sIx xs.length 0 lo),IsTup.new _ _⟩
noncomputable def aqL (K:Fg):R2:=fun x y H Q=>∃ a b xs ys,x= .ref a/\y= .ref b/\SqT K H a xs/\SqT K H b ys/\xs ≠ []/\xs.length+ys.length<=sizeLine/\
 (ys=[]->Q (.ref a) H)/\(ys ≠ []->∀ p,H p=none->Q (.ref p) (upd H p (.tup (xs++ys))))
theorem jP.nil_iff {xs:List V}{us:List Value} (r:jP xs us):us=[] ↔ xs=[]:=by
 cases r with
 | nil=>simp
 | cons _ _=>simp
theorem am3:OpR X (binaryOp .Add) (aqL X.K):=by
 intro Kp s σ H x y v u Q I rx ry h
 obtain ⟨a,b,xs,ys,rfl,rfl,ha,hb,hx,hz,q1,q2⟩:=h
 cases rx
 cases ry
 obtain ⟨its,r1,p1,_⟩:=I.tuple ha
 obtain ⟨its2,r2,p2,_⟩:=I.tuple hb
 refine HT.cat_tup p1 p2 (fun z=>hx (r1.nil_iff.mp z)) (fun z=>⟨.ref a,H,I,rfl,q1 (r2.nil_iff.mp z)⟩) (fun z=>?_) (by rw [←r1.length,←r2.length]; exact hz)
 refine ⟨.ref s.heap.objs.size,_,I.laid (t':=s.toks) (o:= .tup (xs++ys)) (fun b ob q=>Heap.get?_push_of_some _ q) (Nat.le_refl _) ?_,rfl,q2 (fun w=>z (r2.nil_iff.mpr w)) _ (I.hok.fresh (Nat.le_refl _))⟩
 exact ⟨by rw [List.length_append]; exact hz,_,r1.append r2,IsTup.new _ _⟩
end
noncomputable def ixN (n:Nat) (i:Int):Option Nat:=if 0<=i then (if i<n then some i.toNat else none) else if -(n:Int)<=i then some (i+n).toNat else none
noncomputable def atI {α:Type} (xs:List α) (i:Int):Option α:=(ixN xs.length i).bind fun j=>xs[j]?
theorem ail {n:Nat}{i:Int}{j:Nat} (h:ixN n i=some j):seqIndex? i n=some j/\j<n/\-(n:Int)<=i/\i<n:=by
 unfold ixN at h
 by_cases h0:0<=i
 ·rw [if_pos h0] at h
  by_cases h1:i<n
  ·rw [if_pos h1] at h
   have e:i.toNat=j:=Option.some.inj h
   exact ⟨by rw [seqIndex_of h0 h1,e],by omega,by omega,h1⟩
  ·rw [if_neg h1] at h; cases h
 ·rw [if_neg h0] at h
  by_cases h1:-(n:Int)<=i
  ·rw [if_pos h1] at h
   have e:(i+n).toNat=j:=Option.some.inj h
   exact ⟨by rw [seqIndex_neg (by omega) h1,e],by omega,h1,by omega⟩
  ·rw [if_neg h1] at h; cases h
theorem aim {α:Type}{xs:List α}{i:Int}{v:α} (h:atI xs i=some v):∃ j,seqIndex? i xs.length=some j/\xs[j]?=some v/\j<xs.length/\-(xs.length:Int)<=i/\i<xs.length:=by
 unfold atI at h
 cases e:ixN xs.length i with
 | none=>rw [e] at h; cases h
 | some j=>
  rw [e] at h
  obtain ⟨h1,h2,h3,h4⟩:=ail e
  exact ⟨j,h1,h,h2,h3,h4⟩
noncomputable def ain (b:Expr):Prop:=∀ o i,subscripted b false o i=operate [o,i] (getItem o i)
noncomputable def IxR (X:Cx) (r:R2):Prop:=
 ∀ (value slice:Expr) (Kp:List (Addr × Obj)) (s:Shared) (σ:St) (H:Hp) (x y:V) (v u:Value) (Q:VK),Inv X Kp σ H s->j8 x v->j8 y u->r x y H Q->
  subscripted slice false v u=operate [v,u] (getItem v u)->wpAny (model X.prog X.w) X.A (subscriptTail value slice v u) (EP X Kp σ Q) X.xe s
noncomputable def MtR (X:Cx) (id:String) (r:V->List V->Hp->VK->Prop):Prop:=
 ∀ (Kp:List (Addr × Obj)) (s:Shared) (σ:St) (H:Hp) (x:V) (xs:List V) (v:Value) (us:List Value) (Q:VK),Inv X Kp σ H s->j8 x v->jP xs us->r x xs H Q->
  wpAny (model X.prog X.w) X.A (call (.builtin id) (v::us)) (EP X Kp σ Q) X.xe s
section
variable {X:Cx}{a b:Expr}{ta tb:TE}{pos:Pos}
theorem IxR.or {r r':R2} (h:IxR X r) (h':IxR X r'):IxR X (fun x y H Q=>r x y H Q ∨ r' x y H Q):=by
 intro value slice Kp s σ H x y v u Q I rx ry q hs
 rcases q with q | q
 ·exact h value slice Kp s σ H x y v u Q I rx ry q hs
 ·exact h' value slice Kp s σ H x y v u Q I rx ry q hs
theorem aqM {r:R2} (hr:IxR X r) (ha:PE X a ta) (hb:PE X b tb) (hs:ain b):PE X (.Subscript a b pos) (tOp r ta tb):=by
 intro Kp s σ H Q I h
 exact Subscript_ (ao5 ha hb I h fun v u s2 x y H2 I2 rx ry q=>hr a b Kp s2 σ H2 x y v u Q I2 rx ry q (hs _ _))
noncomputable def ar9 (K:Fg):R2:=fun x y H Q=>∃ p xs i v,x= .ref p/\y= .int i/\SqL K H p xs/\atI xs i=some v/\Q v H
noncomputable def asa (K:Fg):R2:=fun x y H Q=>∃ p xs i v,x= .ref p/\y= .int i/\SqT K H p xs/\atI xs i=some v/\Q v H
theorem am4:IxR X (ar9 X.K):=by
 intro value slice Kp s σ H x y v u Q I rx ry h hs
 obtain ⟨p,xs,i,z,rfl,rfl,hq,he,q⟩:=h
 cases rx
 obtain ⟨t,rfl⟩:=ry
 obtain ⟨its,r,pl,hz⟩:=I.list hq
 obtain ⟨j,h1,h2,h3,h4,h5⟩:=aim he
 obtain ⟨w,ew,rw'⟩:=r.get h2
 have hl:=r.length
 have hn:=abe
 have fin:EP X Kp σ Q w s:=⟨z,H,I,rw',q⟩
 by_cases h0:0<=i
 ·have hj:i.toNat=j:=by
   rw [seqIndex_of h0 h5] at h1
   exact Option.some.inj h1
  exact item_listR pl.isList h0 (by omega) (by rw [hj]; simpa using ew) fin hs
 ·have hj:(i+(its.toArray.size:Int)).toNat=j:=by
   rw [seqIndex_neg (by omega) h4] at h1
   rw [List.size_toArray,←hl]
   exact Option.some.inj h1
  exact subscriptTail_builtinR (x:=w) pl.isList.typeIs slot_list_getitem.lookup
   (wpAny_getItem_list_neg (Q:=fun r s'=>r=w/\EP X Kp σ Q r s') pl.isList (by omega) (by rw [List.size_toArray] <;> omega) (by omega) (by rw [hj]; simpa using ew) ⟨rfl,fin⟩) hs
theorem api:IxR X (asa X.K):=by
 intro value slice Kp s σ H x y v u Q I rx ry h hs
 obtain ⟨p,xs,i,z,rfl,rfl,hq,he,q⟩:=h
 cases rx
 obtain ⟨t,rfl⟩:=ry
 obtain ⟨its,r,pl,hz⟩:=I.tuple hq
 obtain ⟨j,h1,h2,h3,h4,h5⟩:=aim he
 obtain ⟨w,ew,rw'⟩:=r.get h2
 have hl:=r.length
 have hn:=abe
 have fin:EP X Kp σ Q w s:=⟨z,H,I,rw',q⟩
 exact subscriptTail_builtinR (x:=w) pl.typeIs slot_tuple_getitem.lookup
  (getItem_tuple (j:=j) (Q:=fun r s'=>r=w/\EP X Kp σ Q r s') pl (by omega) (by omega) (by rw [List.size_toArray,←hl]; exact h1) (by simpa using ew) ⟨rfl,fin⟩) hs
theorem aho (its:List Value) (n j:Nat) (u:Value):Obj.mapSeq (·.setIfInBounds j u) { cls:= .type "list",data:= .seq its.toArray n }={ cls:= .type "list",data:= .seq (its.set j u).toArray n }:=by
 simp [Obj.mapSeq]
theorem Inv.lst {Kp:List (Addr × Obj)}{σ:St}{H:Hp}{s:Shared}{p:Addr}{xs:List V} (I:Inv X Kp σ H s) (h:H p=some (.lst xs)):
  ∃ (its:List Value) (n:Nat),jP xs its/\s.heap.get? p=some { cls:= .type "list",data:= .seq its.toArray n }/\xs.length<=sizeLine:=by
 obtain ⟨z,its,n,r,e⟩:=I.hok p _ h
 exact ⟨its,n,r,e,z⟩
theorem Inv.lstUpd {Kp:List (Addr × Obj)}{σ:St}{H:Hp}{s:Shared}{p:Addr}{xs ys:List V}{its its':List Value}{n n':Nat}{f:Obj->Obj} (I:Inv X Kp σ H s) (h:H p=some (.lst xs))
  (ho:s.heap.get? p=some { cls:= .type "list",data:= .seq its.toArray n }) (hf:f { cls:= .type "list",data:= .seq its.toArray n }={ cls:= .type "list",data:= .seq its'.toArray n' }) (r:jP ys its') (hz:ys.length<=sizeLine) (t:Nat):
  Inv X Kp σ (upd H p (.lst ys)) { s with heap:=s.heap.update p f,toks:=t }:=by
 have e:(s.heap.update p f).get? p=some { cls:= .type "list",data:= .seq its'.toArray n' }:=by
  rw [Heap.get?_update_self f ho (by rw [hf] <;> rfl),hf]
 refine I.write (x:=p) (e:=p) (by rw [h]; trivial) (.inl rfl) (fun b u hb q=>(Heap.get?_update_other _ _ (Ne.symm hb)).trans q) ⟨_,e⟩ ?_
 exact ⟨hz,its',n',r,e⟩
noncomputable def aqN:V->V->V->Hp->(Hp->Prop)->Prop:=fun o i v H Q=>∃ p xs k j,o= .ref p/\i= .int k/\H p=some (.lst xs)/\ixN xs.length k=some j/\Q (upd H p (.lst (xs.set j v)))
theorem akP:ao0 X aqN:=by
 intro Kp s σ H o i v ov iv u Q I ro ri rv h
 obtain ⟨p,xs,k,j,rfl,rfl,hp,hj,q⟩:=h
 cases ro
 obtain ⟨t,rfl⟩:=ri
 obtain ⟨its,n,r,ho,hz⟩:=I.lst hp
 obtain ⟨h1,h2,h3,h4⟩:=ail hj
 have hl:=r.length
 have hn:=abe
 have I':Inv X Kp σ (upd H p (.lst (xs.set j v))) { s with heap:=s.heap.update p (Obj.mapSeq (·.setIfInBounds j u)) }:=
  I.lstUpd hp ho (aho its n j u) (r.set rv j) (by rw [List.length_set]; exact hz) s.toks
 by_cases h0:0<=k
 ·have hk:k.toNat=j:=by
   rw [seqIndex_of h0 h4] at h1
   exact Option.some.inj h1
  exact PySem.W.ki_setAt ho h0 (by omega) (by rw [List.size_toArray,←hl]; exact h4) (by rw [hk]; exact ⟨_,I',q⟩)
 ·have hk:(k+(its.toArray.size:Int)).toNat=j:=by
   rw [seqIndex_neg (by omega) h3] at h1
   rw [List.size_toArray,←hl]
   exact Option.some.inj h1
  exact PySem.W.ki_setBack ho (by omega) (by rw [List.size_toArray,←hl]; exact h3) (by omega) (by rw [hk]; exact ⟨_,I',q⟩)
theorem aey:Q9 X (.builtin "len") (fun xs H Q=>∃ p ys,xs=[.ref p]/\(SqL X.K H p ys ∨ SqT X.K H p ys)/\Q (.int ys.length) H):=by
 intro Kp s σ H xs us Q I r h
 obtain ⟨p,ys,rfl,hq,q⟩:=h
 obtain ⟨u,rfl,rx⟩:=afK r
 cases rx
 have hn:=abe
 rcases hq with hq | hq
 ·obtain ⟨its,r',pl,hz⟩:=I.list hq
  have hlen:=r'.length
  exact Calls.call_len_list pl.isList (by simp only [List.size_toArray] <;> omega) ⟨.int ys.length,H,I.tok _,⟨s.toks+1,by rw [List.size_toArray,hlen]⟩,q⟩
 ·obtain ⟨its,r',pl,hz⟩:=I.tuple hq
  have hlen:=r'.length
  exact len_tuple pl (by simp only [List.size_toArray] <;> omega) ⟨.int ys.length,H,I.tok _,⟨s.toks+1,by rw [List.size_toArray,hlen]⟩,q⟩
theorem aez:Q9 X (.type "list") (fun xs H Q=>∃ p ys,xs=[.ref p]/\(SqL X.K H p ys ∨ SqT X.K H p ys)/\∀ l,H l=none->Q (.ref l) (upd H l (.lst ys))):=by
 intro Kp s σ H xs us Q I r h
 obtain ⟨p,ys,rfl,hq,q⟩:=h
 obtain ⟨u,rfl,rx⟩:=afK r
 cases rx
 have fin:∀ (its:List Value),jP ys its->ys.length<=sizeLine->∀ (h':Heap) (c':Nat),(∀ b o',s.heap.get? b=some o'->h'.get? b=some o')->
   h'.get? s.heap.objs.size=some { cls:= .type "list",dict:=none,data:= .seq its.toArray c',slots:=#[] }->EP X Kp σ Q (.ref s.heap.objs.size) { s with heap:=h' }:=fun its r' hz h' c' kp e=>
  ⟨.ref s.heap.objs.size,_,I.laid (t':=s.toks) kp (Nat.le_refl _) (show zN X.prog X.w _ h' _ (.lst ys) from ⟨hz,its,c',r',e⟩),rfl,q _ (I.hok.fresh (Nat.le_refl _))⟩
 rcases hq with hq | hq
 ·obtain ⟨its,r',pl,hz⟩:=I.list hq
  have hlen:=r'.length
  obtain ⟨o,ho,hc,n,hd⟩:=pl.isList
  exact call_list_seq p (.inl rfl) ho hc hd (fun h' c' kp e=>fin its r' hz h' c' kp e) (by simp only [List.size_toArray] <;> omega)
 ·obtain ⟨its,r',pl,hz⟩:=I.tuple hq
  have hlen:=r'.length
  obtain ⟨o,ho,hc,n,hd⟩:=pl
  exact call_list_seq p (.inr rfl) ho hc hd (fun h' c' kp e=>fin its r' hz h' c' kp e) (by simp only [List.size_toArray] <;> omega)
theorem adt:Q9 X (.type "tuple") (fun xs H Q=>∃ p ys,xs=[.ref p]/\((SqL X.K H p ys/\∀ l,H l=none->Q (.ref l) (upd H l (.tup ys))) ∨ (SqT X.K H p ys/\Q (.ref p) H))):=by
 intro Kp s σ H xs us Q I r h
 obtain ⟨p,ys,rfl,h⟩:=h
 obtain ⟨u,rfl,rx⟩:=afK r
 cases rx
 rcases h with ⟨hq,q⟩ | ⟨hq,q⟩
 ·obtain ⟨its,r',pl,hz⟩:=I.list hq
  have hlen:=r'.length
  refine call_tuple_list pl.isList (fun h' kp=>?_) (by simp only [List.size_toArray] <;> omega)
  have I1:Inv X Kp σ H { s with heap:=h' }:=I.kept (t':=s.toks) kp
  have I2:Inv X Kp σ (upd H h'.objs.size (.tup ys)) { s with heap:=h'.push { cls:= .type "tuple",data:= .seq its.toArray } }:=
   I1.laid (t':=s.toks) (fun b o e=>Heap.get?_push_of_some _ e) (Nat.le_refl _) (show zN X.prog X.w _ _ _ (.tup ys) from ⟨hz,its,r',IsTup.new _ _⟩)
  exact ⟨.ref h'.objs.size,_,I2,rfl,q _ (I1.hok.fresh (Nat.le_refl _))⟩
 ·obtain ⟨its,r',pl,hz⟩:=I.tuple hq
  exact call_tuple_same pl ⟨.ref p,H,I,rfl,q⟩
noncomputable def tyV (K:Fg) (T:String) (x:V) (H:Hp):Prop:=match x with
 | .str _=>T="str"
 | .int _=>T="int"
 | .ref p=>(T="list"/\∃ xs,SqL K H p xs) ∨ (T="tuple"/\∃ o,K.lookup p=some o/\o.cls= .type "tuple"/\o.dict=none) ∨
   (T="dict"/\((∃ kvs,H p=some (.dK kvs)) ∨ ∃ kvs,H p=some (.dT kvs))) ∨ (T="set"/\∃ S n,H p=some (.set S n))
 | _=>False
theorem akQ {Kp:List (Addr × Obj)}{σ:St}{H:Hp}{s:Shared}{T:String}{x:V}{v:Value} (I:Inv X Kp σ H s) (r:j8 x v) (ty:tyV X.K T x H):
  s.TypeIs v T/\∀ a,v= .ref a->∃ ob,s.heap.get? a=some ob/\ob.dict=none:=by
 cases x with
 | str z=>
  obtain ⟨t,rfl⟩:=r
  cases (show T="str" from ty)
  exact ⟨typeIs_str s z t,fun _ e=>nomatch e⟩
 | int i=>
  obtain ⟨t,rfl⟩:=r
  cases (show T="int" from ty)
  exact ⟨typeIs_int s i t,fun _ e=>nomatch e⟩
 | ref p=>
  cases r
  rcases ty with ⟨rfl,xs,hq⟩ | ⟨rfl,o,hk,hc,hd⟩ | ⟨rfl,hk⟩ | ⟨rfl,S,n,hk⟩
  ·obtain ⟨its,_,pl,_⟩:=I.list hq
   refine ⟨pl.isList.typeIs,fun a e=>?_⟩
   cases e
   obtain ⟨o,n,e,c,hd,_⟩:=pl
   exact ⟨o,e,hd⟩
  ·refine ⟨⟨o,I.kIn p o hk,hc⟩,fun a e=>?_⟩
   cases e
   exact ⟨o,I.kIn _ o hk,hd⟩
  ·have z:∃ o,s.heap.get? p=some o/\o.ExactDict:=by
    rcases hk with ⟨kvs,hk⟩ | ⟨kvs,hk⟩
    ·obtain ⟨_,_,_,_,o,_,_,e,ex,_⟩:=I.hok p _ hk
     exact ⟨o,e,ex⟩
    ·obtain ⟨_,_,_,_,o,_,_,e,ex,_⟩:=I.hok p _ hk
     exact ⟨o,e,ex⟩
   obtain ⟨o,e,ex⟩:=z
   refine ⟨⟨o,e,ex.1⟩,fun a e2=>?_⟩
   cases e2
   exact ⟨o,e,ex.2.1⟩
  ·obtain ⟨o,_,_,_,e,ex,_⟩:=I.hok p _ hk
   refine ⟨⟨o,e,ex.1⟩,fun a e2=>?_⟩
   cases e2
   exact ⟨o,e,ex.2.1⟩
 | _=>exact False.elim ty
noncomputable def tBM (K:Fg) (T:String) (r:V->List V->Hp->VK->Prop) (to:TE) (t:TA):TE:=fun σ H Q=>to σ H fun x H1=>tyV K T x H1/\t σ H1 fun xs H2=>r x xs H2 Q
variable {o e:Expr}{es:List Expr}{to:TE}{t:TA}{name:Str}{apos cpos:Pos}{T id:String}{r:V->List V->Hp->VK->Prop}
theorem afQ (pa:PlainAttrs T) (slot:Slot T name id) (hty:typeOf (.builtin id)=pure (.type "method_descriptor")) (hm:MtR X id r) (ho:PE X o to) (ha:PA X (e::es) t)
  (hbase:attributeBase o name X.env (eval o X.env)=eval o X.env:=by rfl)
  (hfew:((backTo cpos (starEach (e::es) X.env)).all (fun x=>!x.1) && (backToKw cpos (keywordEach [] X.env)).all (fun x=>x.1.isSome)
   && decide ((e::es).length+([]:List Keyword).length+(if ([]:List Keyword).isEmpty then 0 else 1)<30))=true:=by rfl)
  (hline:(apos.endLine == cpos.line)=true:=by rfl) (hs:starEach (e::es) X.env=(false,eval e X.env)::starEach es X.env:=by rfl) (hplain:(backTo cpos (starEach es X.env)).any (·.1)=false:=by rfl):
  PE X (.Call (.Attribute o name apos) (e::es) [] cpos) (tBM X.K T r to t):=by
 intro Kp s σ H Q I h
 refine wpAny_Call_method_late hbase hfew hline rfl (thn (ho Kp s σ H _ I h) fun v s1 ⟨x,H1,I1,r1,ty,q1⟩=>?_)
 obtain ⟨h1,h2⟩:=akQ I1 r1 ty
 refine ⟨T,id,pa,slot,hty,h1,h2,?_⟩
 have hA:=ha cpos Kp s1 σ H1 _ I1 q1
 rw [hs] at hA ⊢
 refine Calls.callWith_builtin (by show (false || (backTo cpos (starEach es X.env)).any (·.1))=false; rw [hplain] <;> rfl) (Calls.evalArgs_plain ?_)
 exact thn hA fun us s2 ⟨vs,H2,I2,r2,q2⟩=>hm Kp s2 σ H2 x vs v us Q I2 r1 r2 q2
end
noncomputable def MtM (X:Cx) (id:String) (r:V->List V->Hp->VK->Prop):Prop:=
 ∀ (Kp:List (Addr × Obj)) (s:Shared) (σ:St) (H:Hp) (x:V) (xs:List V) (v:Value) (us:List Value) (Q:VK),Inv X Kp σ H s->j8 x v->jP xs us->r x xs H Q->
  wpAny (model X.prog X.w) X.A (call (.builtin id) (v::us)) (EP X Kp σ Q) X.xe s
theorem jP.one:∀ {x:V}{us:List Value},jP [x] us->∃ u,us=[u]/\j8 x u
 | _,_,.cons r .nil=>⟨_,rfl,r⟩
theorem jP.zero:∀ {us:List Value},jP [] us->us=[]
 | _,.nil=>rfl
theorem jP.dropLast {xs:List V}{us:List Value} (h:jP xs us):jP xs.dropLast us.dropLast:=by
 induction h with
 | nil=>exact .nil
 | cons r t ih=>
  cases t with
  | nil=>exact .nil
  | cons q t'=>exact .cons r ih
theorem jP.rep {xs:List V}{us:List Value} (h:jP xs us):∀ k:Nat,jP (List.replicate k xs).flatten (List.replicate k us).flatten
 | 0=> .nil
 | k+1=>by
  rw [List.replicate_succ,List.replicate_succ,List.flatten_cons,List.flatten_cons]
  exact jP.append h (jP.rep h k)
theorem ahp {α:Type} (l:List α):l.eraseIdx (l.length - 1)=l.dropLast:=by
 induction l with
 | nil=>rfl
 | cons a r ih=>
  cases r with
  | nil=>rfl
  | cons b r=>
   have e:(a::b::r).length - 1=((b::r).length - 1)+1:=by
    have h1:(a::b::r).length=r.length+2:=rfl
    have h2:(b::r).length=r.length+1:=rfl
    omega
   rw [e,List.eraseIdx_cons_succ,ih]
   all_goals rfl
theorem abh (its:List Value):∀ (k:Nat) (acc:List Value),
  List.foldl (fun x1 x2=>x1++x2) acc.toArray (List.replicate k its.toArray)=(acc++(List.replicate k its).flatten).toArray
 | 0,acc=>by simp
 | k+1,acc=>by
  have e:acc.toArray++its.toArray=(acc++its).toArray:=by simp
  have e2:(acc++its)++(List.replicate k its).flatten=acc++(List.replicate (k+1) its).flatten:=by
   rw [List.replicate_succ,List.flatten_cons,List.append_assoc]
  rw [←e2,←abh its k (acc++its),←e,List.replicate_succ,List.foldl_cons]
section
variable {X:Cx}{Kp:List (Addr × Obj)}{σ:St}{H:Hp}{s:Shared}{l b:Addr}{xs ys zs:List V}
theorem Inv.lset {its its':List Value}{n:Nat}{f:Array Value->Array Value}{t':Nat} (I:Inv X Kp σ H s) (hH:H l=some (.lst xs))
  (e:s.heap.get? l=some { cls:= .type "list",data:= .seq its.toArray n }) (hf:f its.toArray=its'.toArray) (hv:jP ys its') (hz:ys.length<=sizeLine):
  Inv X Kp σ (upd H l (.lst ys)) { s with heap:=s.heap.update l (Obj.mapSeq f),toks:=t' }:=by
 have q:=PySem.IsL.update e f
 rw [hf] at q
 refine I.write (x:=l) (e:=l) (by rw [hH]; exact trivial) (.inl rfl) (fun b' u hb hu=>(Heap.get?_update_other s.heap (Obj.mapSeq f) (Ne.symm hb)).trans hu) ⟨_,q⟩ ?_
 exact ⟨hz,its',_,hv,q⟩
theorem Inv.lnew {its:List Value}{t':Nat} (I:Inv X Kp σ H s) (hv:jP ys its) (hz:ys.length<=sizeLine):
  Inv X Kp σ (upd H s.heap.objs.size (.lst ys)) { s with heap:=s.heap.push { cls:= .type "list",data:= .seq its.toArray },toks:=t' }:=
 I.laid (fun _ _ q=>Heap.get?_push_of_some _ q) (Nat.le_refl _) ⟨hz,its,0,hv,Heap.get?_push_size _ rfl⟩
theorem Inv.fresh (I:Inv X Kp σ H s):H s.heap.objs.size=none:=I.hok.fresh (Nat.le_refl _)
theorem Inv.lstM (I:Inv X Kp σ H s) (hH:H l=some (.lst xs)):xs.length<=sizeLine/\∃ (its:List Value) (n:Nat),jP xs its/\xs.length=its.length/\s.heap.get? l=some { cls:= .type "list",data:= .seq its.toArray n }:=by
 obtain ⟨z,its,n,r,e⟩:=I.hok l _ hH
 exact ⟨z,its,n,r,r.length,e⟩
theorem afR {n:Nat} (h:n<=sizeLine):Builtin.List.listTooLong n=false:=by
 unfold Builtin.List.listTooLong
 exact decide_eq_false (by omega)
end
section
variable {X:Cx}
noncomputable def am5:V->List V->Hp->VK->Prop:=fun x vs H Q=>∃ l xs y,x= .ref l/\vs=[y]/\H l=some (.lst xs)/\xs.length<sizeLine/\Q .non (upd H l (.lst (xs++[y])))
theorem adM:MtM X "list.append" am5:=by
 intro Kp s σ H x vs v us Q I rx rv h
 obtain ⟨l,xs,y,rfl,rfl,hH,hz,q⟩:=h
 cases rx
 obtain ⟨u,rfl,ru⟩:=rv.one
 obtain ⟨z,its,n,r,hl,e⟩:=I.lstM hH
 refine call_meets F.slot_list_append ⟨_,e,rfl⟩ F.entry_list_append (F.args_list_append_2 _ _) (PySem.list_append l its.toArray n u (by rw [List.size_toArray]; omega)) ⟨e,?_⟩
 refine ⟨.non,_,I.lset (its':=its++[u]) hH e (by simp) (r.append (.cons ru .nil)) ?_,rfl,q⟩
 rw [List.length_append,List.length_singleton]
 omega
noncomputable def am6:V->List V->Hp->VK->Prop:=fun x vs H Q=>∃ l b xs zs,x= .ref l/\vs=[.ref b]/\H l=some (.lst xs)/\H b=some (.lst zs)/\xs.length+zs.length<=sizeLine/\Q .non (upd H l (.lst (xs++zs)))
theorem ajj:MtM X "list.extend" am6:=by
 intro Kp s σ H x vs v us Q I rx rv h
 obtain ⟨l,b,xs,zs,rfl,rfl,hH,hB,hz,q⟩:=h
 cases rx
 obtain ⟨u,rfl,ru⟩:=rv.one
 cases ru
 obtain ⟨z,its,n,r,hl,e⟩:=I.lstM hH
 obtain ⟨z2,its2,n2,r2,hl2,e2⟩:=I.lstM hB
 have hsz:its.toArray.size+its2.toArray.size<=sizeLine:=by rw [List.size_toArray,List.size_toArray]; omega
 have hlong:¬ (!its.toArray.isEmpty && Builtin.List.listTooLong (its.toArray.size+its2.toArray.size))=true:=by
  rw [afR hsz,Bool.and_false]
  exact Bool.false_ne_true
 refine call_meets F.slot_list_extend ⟨_,e,rfl⟩ F.entry_list_extend (F.args_list_extend_2 _ _)
  (AutoSeq1.list_extend_list_list_0 l its.toArray n b its2.toArray n2 hlong (by rw [List.size_toArray]; omega) (by omega)) ⟨e,e2,?_⟩
 refine ⟨.non,_,I.lset (its':=its++its2) hH e (by simp) (r.append r2) ?_,rfl,q⟩
 rw [List.length_append]
 omega
noncomputable def asb:V->List V->Hp->VK->Prop:=fun x vs H Q=>∃ l xs y,x= .ref l/\vs=[]/\H l=some (.lst xs)/\xs[xs.length - 1]?=some y/\Q y (upd H l (.lst xs.dropLast))
theorem apj:MtM X "list.pop" asb:=by
 intro Kp s σ H x vs v us Q I rx rv h
 obtain ⟨l,xs,y,rfl,rfl,hH,hy,q⟩:=h
 cases rx
 have hus:=rv.zero
 subst hus
 obtain ⟨z,its,n,r,hl,e⟩:=I.lstM hH
 obtain ⟨u,hu,ru⟩:=r.get hy
 have hy':its.toArray[its.toArray.size - 1]?=some u:=by
  show its.toArray[its.length - 1]?=some u
  rw [←Array.getElem?_toList,←hl]
  exact hu
 refine call_meets F.slot_list_pop ⟨_,e,rfl⟩ F.entry_list_pop (F.args_list_pop_1 _) (MeetsSeq.list_pop_last l its.toArray n u hy' (by rw [List.size_toArray]; omega)) ⟨e,?_⟩
 refine ⟨y,_,I.lset (its':=its.dropLast) hH e ?_ r.dropLast ?_,ru,q⟩
 ·show its.toArray.eraseIdxIfInBounds (its.toArray.size - 1)=its.dropLast.toArray
  rw [List.size_toArray,List.eraseIdxIfInBounds_toArray,ahp]
 ·rw [List.length_dropLast]
  omega
noncomputable def asc:R2:=fun x y H Q=>∃ l b xs zs,x= .ref l/\y= .ref b/\H l=some (.lst xs)/\H b=some (.lst zs)/\xs.length+zs.length<=sizeLine/\∀ p,H p=none->Q (.ref p) (upd H p (.lst (xs++zs)))
theorem apk:OpR X (binaryOp .Add) asc:=by
 intro Kp s σ H x y v u Q I rx ry h
 obtain ⟨l,b,xs,zs,rfl,rfl,hH,hB,hz,q⟩:=h
 cases rx
 cases ry
 obtain ⟨z,its,n,r,hl,e⟩:=I.lstM hH
 obtain ⟨z2,its2,n2,r2,hl2,e2⟩:=I.lstM hB
 refine PySem.P.add_list e e2 ?_ (by rw [List.size_toArray,List.size_toArray]; omega)
 have ea:its.toArray++its2.toArray=(its++its2).toArray:=by simp
 rw [ea]
 exact ⟨.ref _,_,I.lnew (t':=s.toks) (r.append r2) (by rw [List.length_append]; omega),rfl,q _ I.fresh⟩
noncomputable def asd:R2:=fun x y H Q=>∃ l k xs,x= .ref l/\y= .int k/\H l=some (.lst xs)/\-(2 ^ 63)<=k/\k<2 ^ 63/\xs.length*k.toNat<=sizeLine/\
 ∀ p,H p=none->Q (.ref p) (upd H p (.lst (List.replicate k.toNat xs).flatten))
theorem aio {α:Type} (xs:List α) (k:Nat):(List.replicate k xs).flatten.length=k*xs.length:=by
 induction k with
 | zero=>simp
 | succ k ih=>rw [List.replicate_succ,List.flatten_cons,List.length_append,ih,Nat.succ_mul,Nat.add_comm]
theorem apl:OpR X (binaryOp .Mult) asd:=by
 intro Kp s σ H x y v u Q I rx ry h
 obtain ⟨l,k,xs,rfl,rfl,hH,h1,h2,hz,q⟩:=h
 cases rx
 obtain ⟨t,rfl⟩:=ry
 obtain ⟨z,its,n,r,hl,e⟩:=I.lstM hH
 have hlen:its.toArray.size*k.toNat<=sizeLine:=by rw [List.size_toArray,←hl]; exact hz
 have hcap:¬ its.toArray.size*k.toNat > (2 ^ 63 - 1) / 8:=by
  have:(sizeLine:Nat)<=(2 ^ 63 - 1) / 8:=by decide
  omega
 have hfit:¬ (!Builtin.List.listFitsIndex k)=true:=by
  rw [fitsIndex_both h1 h2]
  exact Bool.false_ne_true
 have hlong:¬ Builtin.List.listTooLong (its.toArray.size*k.toNat)=true:=by
  rw [afR hlen]
  exact Bool.false_ne_true
 have hnew:List.foldl (fun x1 x2=>x1++x2) #[] (List.replicate (if its.toArray.isEmpty=true then 0 else k.toNat) its.toArray)=(List.replicate k.toNat its).flatten.toArray:=by
  have f0:∀ m:Nat,List.foldl (fun x1 x2=>x1++x2) #[] (List.replicate m its.toArray)=(List.replicate m its).flatten.toArray:=fun m=>by
   have:=abh its m []
   rw [List.nil_append] at this
   exact this
  rw [f0]
  cases its with
  | nil=>simp
  | cons a r'=>rw [if_neg (by simp)]
 refine wpAny_binaryOp_repeat_ref (T:="list") (U:="int") (by decide) ⟨_,e,rfl⟩ (fun s'=>typeIs_int s' k t) noFill_list_mul F.fills_int_mul F.slot_int_rmul repeat_list F.slot_int_index.lookup
  (call_meets F.slot_int_rmul (typeIs_int s k t) F.entry_int_rmul (F.args_int_rmul_2 _ _) (int___rmul___int_list k t l its.toArray n)
   ⟨e,rfl,⟨_,e,rfl⟩,call_meets F.slot_list_mul ⟨_,e,rfl⟩ F.entry_list_mul (F.args_list_mul_2 _ _) (AutoListH.list___mul___list_int_3 l its.toArray n k t hfit hcap hlong) ⟨e,?_⟩⟩)
 rw [hnew]
 exact ⟨.ref _,_,I.lnew (t':=s.toks) (r.rep k.toNat) (by rw [aio,Nat.mul_comm]; exact hz),rfl,q _ I.fresh⟩
end
section
variable {prog:Program}{w:World}{A:Around}{E:Value->SP0}{s:Shared}
set_option maxRecDepth 100000 in
end
section
variable {X:Cx}
end
end L2
namespace Att
open PySem PySem.W PySem.Calls PyProof.Rows
theorem ab3 {P:Params}{h:Heap}:∀ (ns:List Int) (vs:List Value),WellAll P h vs (ns.map WData.int)->IntsAre vs ns:=by
 intro ns
 induction ns with
 | nil=>
  intro vs w
  rw [List.map_nil] at w
  cases w
  exact .nil
 | cons n ns ih=>
  intro vs w
  rw [List.map_cons] at w
  cases w with
  | cons a b=>
   cases a
   exact .cons _ _ (ih _ b)
theorem ajk {l:OpenLaw}{n:Nat} (hn:l.most=some n) {P:Params}{h:Heap}{args:List WData}{vals:List Value}
  (hpre:l.row.toRowW.claim.pre args=true) (hwl:WellAll P h vals args):
  ∃ a vs ns,vals=[Value.ref a]/\args=[WData.list (ns.map WData.int)]/\h.get? a=some { cls:= .type "list",data:= .seq vs.toArray }/\IntsAre vs ns/\ns.length<=n:=by
 have hsh:WShape.hasAll [] args [.list .int]=true:=(pre_splitW hpre).1
 have hc:l.pre.holds [] { args:=args }=true:=(pre_splitW hpre).2
 obtain ⟨d,r,rfl,h1,h2⟩:=hasAllW_cons hsh
 obtain rfl:=hasAllW_nil h2
 obtain ⟨xs,rfl,h3⟩:=hasW_list h1
 obtain ⟨ns,rfl⟩:=items_int h3
 have hlen:ns.length<=n:=by
  unfold OpenLaw.pre at hc
  have h4:(WTm.not (.lt (.lit (.int (n:Int))) (.len (.arg 0)))).holds [] { args:=[.list (ns.map .int)] }=true:=by
   have h4:=(holds_andW hc).1
   rw [hn] at h4
   exact h4
  have h5:=condW_of h4 (w_not (w_lt w_lit (w_len_list (w_arg rfl))))
  rw [List.length_map] at h5
  refine Nat.le_of_not_lt fun q=>?_
  have q':(n:Int)<((ns.length:Nat):Int):=by omega
  first
   | (rw [decide_eq_true q'] at h5; exact absurd h5 (by decide))
   | (simp at h5; omega)
 cases hwl with
 | cons w1 w2=>
  cases w2
  cases w1 with
  | list ho hall=>exact ⟨_,_,ns,rfl,rfl,ho,ab3 ns _ hall,hlen⟩
theorem ajl (l:OpenLaw) (args:List WData):l.row.toRowW.claim.post args (.bool true) args=true:=
 postW_of (r:=l.row.toRowW) (X:=(true == true))
  (show WShape.has [] (.bool true) .bool=true by first | rfl | decide | simp [WShape.has,WShape.arms,WShape.armsAll])
  (show (WTm.eq .res (.lit (.bool true))).value [] { args:=args,res:=some (.bool true),after:=args }=some (.bool (true == true)) from w_eq_bool (w_res rfl) w_lit) rfl
theorem attach_call {l:OpenLaw}{n:Nat}{q:Program}{loose:List Str}{XP:(SV)->Heap->Prop}{YP:World->Heap->Prop}{d:DefRec}
  (hn:l.most=some n) (hdf:d.params.defaults=[])
  (call:∀ (w:World) (s₀ s₁:Shared) (mg mb:SV) (fa:Addr) (o:Obj) (pm cd doc:Value) (a:Addr) (vs:List Value) (ns:List Int),
   Ground q loose [] XP w s₀ mg mb s₁.heap->YP w s₁.heap->
   s₁.heap.get? fa=some o->o.data= .func (docDef d.name d.params d.body d.scope pm cd doc)->s₁.heap.CodeRec cd d.name->mg d.name=some (.ref fa)->
   s₁.heap.get? a=some { cls:= .type "list",data:= .seq vs.toArray }->IntsAre vs ns->ns.length<=n->s₁.gens=#[]->
   codeAny (model l.prog w) callerA (.call (.ref fa) ⟨[.ref a],[]⟩) (fun r s'=>r= .ok (.ret (.bool true))/\OldK s₁.heap s'.heap/\s'.os=s₁.os/\AllBare s'.gens) s₁):
  WalkO q loose XP YP l.row.toRowW d [] (fun f vs=>PySem.call f vs):=by
 intro w s₀ s₁ mg mb G Y fa o pm cd doc dV kV ho hd hcd hD hmg hg args vals as hpre hlay hrd hwl hlo
 obtain rfl:dV= .none:=Dflts.none hD hdf
 obtain rfl:kV= .none:=Dflts.noKw hD
 obtain ⟨a,vs,ns,rfl,rfl,hobj,hints,hlen⟩:=ajk hn hpre hwl
 refine enter_call (codeAny_mono (call w s₀ s₁ mg mb fa o pm cd doc a vs ns G Y ho (fd_plain hd) hcd hmg hobj hints hlen hg) fun r s' hq=>?_)
 obtain ⟨rfl,h2,h3,h4⟩:=hq
 exact ⟨.inl ⟨.bool true,.bool true,[],rfl,fun _=>rfl,.bool true,ajl l _,fun _=>⟨List.Pairwise.nil,fun _ hm=>(nomatch hm)⟩⟩,h2,h3,h4⟩
section
variable {prog:Program}{w:World}{A:Around}{E:Value->SP0}{s:Shared}{K:Frag}
noncomputable def ase (h:Heap) (L d:Addr):List (Addr × Obj):=(List.range h.objs.size).filterMap fun a=>if a=L ∨ a=d then none else (h.get? a).map fun o=>(a,o)
end
end Att
namespace L2
open PySem PySem.Spec PyProof.Rows
theorem Zy:∀ {vs:List Value}{ns:List Int},IntsAre vs ns->jP (ns.map V.int) vs
 | _,_,.nil=> .nil
 | _,_,.cons n t h=> .cons ⟨t,rfl⟩ (Zy h)
noncomputable def apm (H:Hp):Prop:=∀ b,H b=none ∨ ∃ o xs,H b=some (.frz o (.lst xs))
theorem akR {P:Program}{w:World}{K:Fg}{mg mb:SV}{CX:CXT}{k:Nat}{fa a:Addr}{fd:FuncData}{x:Str}{sp:Sp}{s₁:Shared}{vs:List Value}{ns:List Int}
  (KX:K.In s₁.heap) (hns:s₁.heap.Ns mainGlobals mg) (hb:s₁.heap.Ns builtinsNs mb) (hbb:∀ x:Str,x ≠ "__name__"->mb x=bootBuiltins x) (hlim:s₁.heap.NoLimit) (hg:s₁.gens=#[])
  (ha:s₁.heap.get? a=some { cls:= .type "list",data:= .seq vs.toArray }) (hi:IntsAre vs ns) (hl:ns.length<=sizeLine) (hr:Room k callerA)
  (F:∀ base:Heap,K.In base->base.Ns mainGlobals mg->FnOk P w K mg base CX k fa fd [x] sp) (hbind:∀ (s:Shared) (u:Value),BindsTo s fd ⟨[u],[]⟩ [(x,u)])
  (hsp:∀ H:Hp,apm H->SqL K H a (ns.map V.int)->sp [.ref a] H (fun v _=>v= .bl true) fun _ _ _=>False)
  (hCX:∀ H e s',CX [] H s₁ (fun _ _ _=>False) e s'->False):
  codeAny (model P w) callerA (.call (.ref fa) ⟨[.ref a],[]⟩) (fun r s'=>r= .ok (.ret (.bool true))/\OldK s₁.heap s'.heap/\s'.os=s₁.os/\AllBare s'.gens) s₁:=by
 have rv:=Zy hi
 have lenV:=hi.length
 have core:∀ H:Hp,apm H->SqL K H a (ns.map V.int)->HOk P w H s₁.heap->(∀ b,H b ≠ none->b=a)->(H a ≠ none->K.lookup a=none)->
   codeAny (model P w) callerA (.call (.ref fa) ⟨[.ref a],[]⟩) (fun r s'=>r= .ok (.ret (.bool true))/\OldK s₁.heap s'.heap/\s'.os=s₁.os/\AllBare s'.gens) s₁:=by
  intro H hO hS hok hA hK
  have base_of:∀ {b:Addr} {o:Obj},s₁.heap.get? b=some o->H b=none->(aep s₁.heap H).get? b=some o:=fun e n=>akv e n
  have noA:∀ {b:Addr} {o:Obj} {es:Array DictEntry} {ep:Nat},s₁.heap.get? b=some o->o.data= .dict es ep->H b=none:=fun {b o es ep} e d=>by
   cases q:H b with
   | none=>rfl
   | some u=>
    have e':b=a:=hA b (by rw [q]; simp)
    subst e'
    rw [ha] at e; cases e
    have d':Data.seq vs.toArray _=Data.dict es ep:=d
    cases d'
  have nsK:∀ {b:Addr} {m:SV},s₁.heap.Ns b m->(aep s₁.heap H).Ns b m:=fun {b m} ⟨o,es,ep,e,d,r⟩=>⟨o,es,ep,base_of e (noA e d),d,r⟩
  have hKb:K.In (aep s₁.heap H):=fun b o e=>base_of (KX b o e) (by
   cases q:H b with
   | none=>rfl
   | some u=>
    have e':b=a:=hA b (by rw [q]; simp)
    subst e'
    rw [hK (by rw [q]; simp)] at e; cases e)
  have hM:Mod K mg (aep s₁.heap H):=⟨hKb,nsK hns,⟨mb,nsK hb,hbb⟩,let ⟨mc,h1,h2⟩:=hlim; ⟨mc,nsK h1,h2⟩⟩
  have e0:Env0 P w K mg (aep s₁.heap H) callerA [] s₁ H:=⟨rfl,hM,fun b o e=>amS e,Nat.le_of_eq (aja _ _),trivial,fun b hb=>absurd (show b ∈ ([]:List Addr) from hb) (by simp),hok,.of_eq hg⟩
  refine codeAny_mono ((F _ hKb (nsK hns)).run callerA [] s₁ H ⟨[.ref a],[]⟩ [.ref a] [.ref a] _ _ hr e0 (hbind s₁ (.ref a)) (.cons rfl .nil) (hsp H hO hS)) fun r s' h=>?_
  cases r with
  | error e=>exact (hCX H e s' h).elim
  | ok fl=>
   cases fl with
   | next=>exact False.elim h
   | brk=>exact False.elim h
   | cont=>exact False.elim h
   | ret u=>
    obtain ⟨v,H',os,bare,un,hok',r',q⟩:=h
    have q':v= .bl true:=q
    subst q'
    obtain rfl:u=Value.bool true:=r'
    refine ⟨rfl,OldK.of_keep fun b o e=>?_,os,bare⟩
    cases q:H b with
    | none=>exact un.keep b o e q (by intro z; exact absurd (show b ∈ ([]:List Addr) from z) (by simp)) (by simp)
    | some u=>
     rcases hO b with z | ⟨ob,xs,z⟩
     ·rw [q] at z; cases z
     ·have z2:=un.frzs b ob _ z
      obtain ⟨e1,_⟩:=hok b _ z
      obtain ⟨e2,_⟩:=hok' b _ z2
      rw [e] at e1; cases e1
      exact e2
 cases hk:K.lookup a with
 | some o=>
  have e:=KX a o hk
  rw [ha] at e
  cases e
  refine core (fun _=>none) (fun _=> .inl rfl) (.inr ⟨_,vs.toArray,_,hk,rfl,rfl,rfl,by rw [List.size_toArray,lenV]; exact hl,by simpa using rv⟩) (fun b u z=>by have z':(none:Option HO)=some u:=z; cases z') (fun b z=>absurd rfl z) fun z=>absurd rfl z
 | none=>
  refine core (fun b=>if b=a then some (.frz { cls:= .type "list",data:= .seq vs.toArray } (.lst (ns.map V.int))) else none) (fun b=>?_) (.inl (.inr ⟨{ cls:= .type "list",data:= .seq vs.toArray },if_pos rfl⟩)) (fun b u z=>?_) (fun b z=>?_) fun _=>hk
  ·by_cases hb:b=a
   ·exact .inr ⟨_,_,if_pos hb⟩
   ·exact .inl (if_neg hb)
  ·by_cases hb:b=a
   ·have z':=(if_pos hb).symm.trans z
    cases z'
    subst hb
    exact ⟨ha,by rw [List.length_map]; exact hl,vs,_,rv,ha⟩
   ·have z':=(if_neg hb).symm.trans z
    cases z'
  ·by_cases hb:b=a
   ·exact hb
   ·exact absurd (if_neg hb) z
theorem am7 {l:PySem.W.OpenLaw}{n k:Nat}{q:Program}{loose:List Str}{XP:(SV)->Heap->Prop}{YP:World->Heap->Prop}{d:DefRec}{K:Params->Fg}{CX:World->CXT}{sp:World->Sp}{x:Str}
  (hn:l.most=some n) (hn2:n<=sizeLine) (hdf:d.params.defaults=[]) (hr:Room k callerA)
  (hY:∀ (w:World) (h:Heap),YP w h->(K w.params).In h)
  (F:∀ (w:World) (mg:SV) (fa:Addr) (h:Heap),(K w.params).In h->h.Ns mainGlobals mg->mg d.name=some (.ref fa)->
   ∃ fd:FuncData,(∀ (s:Shared) (u:Value),BindsTo s fd ⟨[u],[]⟩ [(x,u)])/\
    ∀ base:Heap,(K w.params).In base->base.Ns mainGlobals mg->FnOk l.prog w (K w.params) mg base (CX w) k fa fd [x] (sp w))
  (hsp:∀ (w:World) (H:Hp) (a:Addr) (ns:List Int),ns.length<=n->apm H->SqL (K w.params) H a (ns.map V.int)->sp w [.ref a] H (fun v _=>v= .bl true) fun _ _ _=>False)
  (hCX:∀ (w:World) (H:Hp) (s:Shared) (e:Value) (s':Shared),CX w [] H s (fun _ _ _=>False) e s'->False):
  PySem.W.WalkO q loose XP YP l.row.toRowW d [] (fun f vs=>PySem.call f vs):=by
 refine Att.attach_call hn hdf fun w s₀ s₁ mg mb fa o pm cd doc a vs ns G Y ho hd hcd hmg hobj hints hlen hg=>?_
 have KX:=hY w _ Y
 obtain ⟨fd,hb,hF⟩:=F w mg fa _ KX G.T.g hmg
 exact akR KX G.T.g G.T.b G.T.builtins G.T.nolimit hg hobj hints (Nat.le_trans hlen hn2) hr hF hb (fun H hO hS=>hsp w H a ns hlen hO hS) fun H e s'=>hCX w H s₁ e s'
noncomputable def Jp (s:Stmt) (j:Nat):Stmt:=match s with
 | .ClassDef _ _ _ body _ _ _ _ _ _ _=>body.getD j (.Pass ⟨0,0,0,0⟩)
 | _=> .Pass ⟨0,0,0,0⟩
noncomputable def Jq (s:Stmt):Arguments:=match s with
 | .FunctionDef _ a _ _ _ _ _ _ _ _=>a
 | _=>{ posonlyargs:=[],args:=[],vararg:=none,kwonlyargs:=[],kw_defaults:=[],kwarg:=none,defaults:=[] }
noncomputable def jR (s:Stmt):List Stmt:=match s with
 | .FunctionDef _ _ b _ _ _ _ _ _ _=>b
 | _=>[]
noncomputable def jf (s:Stmt):Scope:=match s with
 | .FunctionDef _ _ _ _ _ _ sc _ _ _=>sc
 | _=>{ kind:= .function,names:=[],isGenerator:=false,isCoroutine:=false }
noncomputable abbrev CX0:CXT:=fun _ _ _ _ _ _=>False
noncomputable abbrev E0:XK:=fun _ _ _=>False
theorem abR {X:Cx}:aev CX0 X E0:=fun _ _ _ _ _ _ _ h=>h.elim
structure Fun (K:Fg) (x qual:Str) (st:Stmt) (f:Addr) (fd:FuncData):Prop where
 ex:∃ (oc:Value) (od:Option Addr) (kV doc pm:Value) (an:Option Addr) (Kc ct:Value) (osl:Array (Option Value)),
  fd=PySem.W.fnOf x qual (Jq st) (jR st) (jf st) .none kV doc pm an Kc ct/\K.lookup f=some ⟨oc,od,.func fd,osl⟩/\PySem.W.codeIn K Kc qual=true
 kp:PySem.W.keepIn K (.ref f)=true
section
variable {P:Program}{w:World}{K:Fg}{mg:SV}{base:Heap}
theorem Fun.ok {x qual:Str}{st:Stmt}{f:Addr}{fd:FuncData}{N ps:List Str}{k:Nat}{sp:Sp} (F:Fun K x qual st f fd) (S:FnScope N ps (jf st)) (len:∀ vs H Q E,sp vs H Q E->vs.length=ps.length)
  (hbody:∀ (Kc:Value) (A:Around) (Ko:List Env) (s:Shared) (H:Hp) (vs:List V) (Q:VK) (E:XK),Room k (A.deeper (envOfC qual (jf st) s.heap.objs.size f Kc))->sp vs H Q E->
   ∃ t,PSs (zU CX0 P w K mg base N qual (jf st) f Kc A Ko s H E).nox (jR st) t/\t { nx:=fun _ H'=>Q .non H',rt:=Q } (zO N vs) H):FnOk P w K mg base CX0 (k+1) f fd ps sp:=by
 obtain ⟨oc,od,kV,doc,pm,an,Kc,ct,osl,rfl,lk,hcd⟩:=F.ex
 refine aqI lk hcd S len fun A Ko s H vs Q E hr hsp=>?_
 obtain ⟨t,h,q⟩:=hbody Kc A Ko s H vs Q E hr hsp
 exact ⟨t,h.nox,q⟩
theorem Fun.binds {x qual:Str}{st:Stmt}{f:Addr}{fd:FuncData}{ps:List Str} (F:Fun K x qual st f fd)
  (h:∀ (kV doc pm:Value) (an:Option Addr) (Kc ct:Value) (us:List Value),us.length=ps.length->bindArgs (PySem.W.fnOf x qual (Jq st) (jR st) (jf st) .none kV doc pm an Kc ct) ⟨us,[]⟩=pure (ps.zip us)):JA K fd ps []:=by
 obtain ⟨oc,od,kV,doc,pm,an,Kc,ct,osl,rfl,lk,hcd⟩:=F.ex
 exact .all (h kV doc pm an Kc ct)
theorem aaf {x qual:Str}{st:Stmt}{f:Addr}{oc:Value}{od an:Option Addr}{osl:Array (Option Value)}{kV doc pm Kc ct:Value} (l:K.lookup f=some ⟨oc,od,.func (PySem.W.fnOf x qual (Jq st) (jR st) (jf st) .none kV doc pm an Kc ct),osl⟩)
  (c:PySem.W.codeIn K Kc qual=true) (k:PySem.W.keepIn K (.ref f)=true):Fun K x qual st f (PySem.W.fnOf x qual (Jq st) (jR st) (jf st) .none kV doc pm an Kc ct):=⟨⟨oc,od,kV,doc,pm,an,Kc,ct,osl,rfl,l,c⟩,k⟩
end
section
variable {X:Cx}
theorem pv (i:Nat) {x:Str}{pos:Pos} (hN:X.N[i]?=some x:=by rfl) (hv:Vis X.env.scope x:=by first | exact Or.inl rfl | exact Or.inr (Or.inl rfl) | exact Or.inr (Or.inr rfl)) (hd:(x == ("__debug__":Str))=false:=by decide)
  (hcd:(x == ("__classdict__":Str))=false:=by decide):PE X (.Name x pos) (aoU i):=aac hN hv hd hcd
end
theorem asf {A B:Prop} (h:B):if false=true then A else B:=by
 rw [if_neg Bool.false_ne_true]
 exact h
theorem asg {A B:Prop} (h:A):if true=true then A else B:=by
 rw [if_pos rfl]
 exact h
noncomputable def jn (H H':Hp):Prop:=∀ b o,H b=some o->H' b=some o
theorem jn.refl (H:Hp):jn H H:=fun _ _ h=>h
theorem jn.trans {H H1 H2:Hp} (a:jn H H1) (b:jn H1 H2):jn H H2:=fun c o h=>b c o (a c o h)
theorem jn.free {H H':Hp} (e:jn H H') {l:Addr} (h:H' l=Option.none):H l=Option.none:=by
 cases q:H l with
 | none=>rfl
 | some o=>
  rw [e l o q] at h
  cases h
theorem jn.seq {K:Fg}{H H':Hp}{a:Addr}{xs:List V} (e:jn H H') (h:SqL K H a xs):SqL K H' a xs:=by
 rcases h with (h | ⟨o,h⟩) | h
 ·exact .inl (.inl (e _ _ h))
 ·exact .inl (.inr ⟨o,e _ _ h⟩)
 ·exact .inr h
section
variable {κ:Type} [DecidableEq κ]
noncomputable def aqO (kvs:List (κ × V)) (k:κ):Option V:=(kvs.find? fun kv=>decide (kv.1=k)).map (·.2)
noncomputable def aqP (kvs:List (κ × V)) (k:κ) (v:V):List (κ × V):=
 if (kvs.any fun kv=>decide (kv.1=k))=true then kvs.map (fun kv=>if kv.1=k then (kv.1,v) else kv) else kvs++[(k,v)]
noncomputable def asD (kvs:List (κ × V)) (k:κ):List (κ × V):=kvs.filter fun kv=>decide (kv.1 ≠ k)
end
noncomputable abbrev KT (H:Hp):List (List Key × V)->List (List Key × Addr × Value)->Prop:=Paired fun p q=>p.1=q.1/\H q.2.1=some (.tup (p.1.map kV))/\j8 p.2 q.2.2
section
variable {P:Program}{w:World}{H:Hp}{h:Heap}{a:Addr}
theorem aqQ {u:HO} (ok:HOk P w H h) (e:Rd H a u):zN P w H h a u:=e.ok ok
theorem aqR {kvs:List (Key × V)} (ok:HOk P w H h) (e:Rd H a (.dK kvs)):kvs.length<=sizeLine/\(a == sysModules)=false/\∃ vs,KV kvs vs/\h.DictOf (aas P w) a vs:=
 show zN P w H h a (.dK kvs) from aqQ ok e
end
noncomputable def asF (H:Hp) (a:Addr) (y:V) (r:Option V):Prop:=
 (∃ kvs k,Rd H a (.dK kvs)/\y=kV k/\r=aqO kvs k) ∨ ∃ kvs k b,Rd H a (.dT kvs)/\y= .ref b/\H b=some (.tup (k.map kV))/\r=aqO kvs k
noncomputable def asG (H:Hp) (a:Addr) (y v:V) (H':Hp):Prop:=
 (∃ kvs k,H a=some (.dK kvs)/\y=kV k/\kvs.length<sizeLine/\H'=upd H a (.dK (aqP kvs k v))) ∨
 ∃ kvs k b,H a=some (.dT kvs)/\y= .ref b/\H b=some (.tup (k.map kV))/\kvs.length<sizeLine/\H'=upd H a (.dT (aqP kvs k v))
section
variable {X:Cx}{Kp:List (Addr × Obj)}{σ:St}{H:Hp}{s:Shared}{a:Addr}{y v:V}{u r:Value}{o:Option V}{A:Around}{E:Value->SP0}
end
section
variable {X:Cx}{Kp:List (Addr × Obj)}{σ:St}{H:Hp}{s:Shared}{a:Addr}{kvs:List (Key × V)}{k:Key}{u:Value}{A:Around}{E:Value->SP0}
end
section
variable {X:Cx}{o i e value:Expr}{pos pos' tpos:Pos}{td ty tv:TE}
end
section
variable {X:Cx}{pos:Pos}
end
structure M1 (X:Cx) (o:Expr) (m:Str) (apos:Pos) (e:Expr) (cpos:Pos):Prop where
 base:attributeBase o m X.env (eval o X.env)=eval o X.env
 few:((backTo cpos (starEach [e] X.env)).all (fun x=>!x.1) && (backToKw cpos (keywordEach [] X.env)).all (fun x=>x.1.isSome)
  && decide (([e]:List Expr).length+([]:List Keyword).length+(if ([]:List Keyword).isEmpty then 0 else 1)<30))=true
 line:(apos.endLine == cpos.line)=true
 trees:backTo cpos (starEach [e] X.env)=[(false,eval e X.env)]
structure M2 (X:Cx) (o:Expr) (m:Str) (apos:Pos) (e f:Expr) (cpos:Pos):Prop where
 base:attributeBase o m X.env (eval o X.env)=eval o X.env
 few:((backTo cpos (starEach [e,f] X.env)).all (fun x=>!x.1) && (backToKw cpos (keywordEach [] X.env)).all (fun x=>x.1.isSome)
  && decide (([e,f]:List Expr).length+([]:List Keyword).length+(if ([]:List Keyword).isEmpty then 0 else 1)<30))=true
 line:(apos.endLine == cpos.line)=true
 trees:backTo cpos (starEach [e,f] X.env)=[(false,eval e X.env),(false,eval f X.env)]
section
variable {X:Cx}{Kp:List (Addr × Obj)}{σ:St}{H:Hp}{s:Shared}{a:Addr}{y d:V}{u r:Value}{o:Option V}{A:Around}{E:Value->SP0}
end
section
variable {X:Cx}{o e f:Expr}{apos cpos:Pos}{td ty tx:TE}
end
section
variable {X:Cx}{Kp:List (Addr × Obj)}{σ:St}{H:Hp}{s:Shared}{a:Addr}{kvs:List (Key × V)}{A:Around}{E:Value->SP0}
end
section
variable {X:Cx}{Kp:List (Addr × Obj)}{σ:St}{H:Hp}{s:Shared}{a:Addr}{y:V}{u:Value}{A:Around}{E:Value->SP0}
end
section
variable {X:Cx}
end
section
variable {κ:Type} [DecidableEq κ]
end
end L2
end
section
namespace BX
open PySem PySem.Spec L2
open PyProof.Rows hiding St
noncomputable abbrev NoX:Value->SP0:=fun _ _=>False
noncomputable def aip (ts:List Expr) (en:Env):Sem Bool:=
 forIn ts true fun c r=>if r=true then do let ok ←isTrue c en (eval c en); pure (ForInStep.yield ok) else pure (ForInStep.yield r)
section
variable {prog:Program}{w:World}{A:Around}{s:Shared}{R:Result->SP0}
theorem ajm {el tg src:Expr}{ts:List Expr}{sc:Scope}{ps:Pos}{it acc:Value}{en:Env} (J:Nat->SP0)
  (turn:∀ n s,J n s->wpAny (model prog w) A (pyNext it) (fun r s1=>match r with
   | none=>R (.ok .next) s1
   | some v=>wpAny (model prog w) A (letOwnedTupleGo tg it v) (fun _ sg=>wpAny (model prog w) A (assign tg en v) (fun _ s2=>
     wpAny (model prog w) A (aip ts en) (fun ok s3=>
      if ok=true then wpAny (model prog w) A (eval el en) (fun y s4=>
       wpAny (model prog w) A (call (.builtin "list.append") [acc,y]) (fun _ s5=>∃ m,m<n/\J m s5) NoX s4) NoX s3
      else ∃ m,m<n/\J m s3) NoX s2) NoX sg) NoX s1) NoX s)
  (n:Nat) (h:J n s):
  codeAny (model prog w) A (.compLoop (.ListComp el [⟨tg,src,ts,0⟩] sc ps) 0 it acc en) R s:=by
 refine codeAny_loop rfl J (fun n s hJ=>?_) n h
 show wpAny _ A
  ((compTurn (.ListComp el [⟨tg,src,ts,0⟩] sc ps) 0 it acc en).onRaise
   (fun x=>do noteFrame x en; theTreesLotGoes x)) _ _ s
 refine wpAny_noted ?_
 rw [compTurn_list]
 have no:∀ {E:Value->SP0} (e:Value) (s':Shared),NoX e s'->E e s':=fun _ _ z=>z.elim
 refine wpAny_bind (wpAny_standAt (wpAny_bind (wpAny_mono (turn n s hJ) (fun r s1 h1=>?_) no)))
 cases r with
 | none=>exact wpAny_pure h1
 | some v=>
  refine wpAny_bind (wpAny_mono h1 (fun _ sg hg=>?_) no)
  refine wpAny_bind (wpAny_mono hg (fun _ s2 h2=>?_) no)
  refine wpAny_bind (wpAny_mono h2 (fun ok s3 h3=>?_) no)
  cases ok with
  | false=>exact wpAny_pure ⟨rfl,h3⟩
  | true=>
   refine wpAny_bind (wpAny_bind (wpAny_mono h3 (fun y s4 h4=>?_) no))
   exact wpAny_bind (wpAny_mono h4 (fun _ s5 h5=>wpAny_pure (wpAny_pure ⟨rfl,h5⟩)) no)
end
noncomputable def Z5 (en:Env):List (Str × NameKind)->List (Str × Addr)->List (Str × Addr)
 | [],cs=>cs
 | (n,k)::r,cs=>Z5 en r (if k == .free then (n,(en.cells.lookup n).getD 0)::cs else cs)
theorem am8 (sc:Scope) (en:Env) (h:∀ x ∈ sc.names,x.2= .free->∃ c,en.cells.lookup x.1=some c):closureFor sc en=pure (Z5 en sc.names []):=by
 have go:∀ (l:List (Str × NameKind)) (cs:List (Str × Addr)),(∀ x ∈ l,x.2= .free->∃ c,en.cells.lookup x.1=some c)->
   (forIn l cs (fun (x:Str × NameKind) (r:List (Str × Addr))=>(do
    if x.2 == .free then do
     let c ←cellOf en x.1
     pure (ForInStep.yield ((x.1,c)::r))
    else pure (ForInStep.yield r):Sem (ForInStep (List (Str × Addr))))):Sem _)=pure (Z5 en l cs):=by
  intro l
  induction l with
  | nil=>intro cs _; rfl
  | cons x l ih=>
   intro cs hl
   obtain ⟨n,k⟩:=x
   rw [List.forIn_cons]
   by_cases hk:(k == NameKind.free)=true
   ·obtain ⟨c,e⟩:=hl (n,k) List.mem_cons_self (by simpa using hk)
    have e':en.cells.lookup n=some c:=e
    simp only [hk,zzM,cellOf,e',pure_bind,Z5,Option.getD_some]
    exact ih _ fun y hy=>hl y (List.mem_cons_of_mem _ hy)
   ·simp only [hk,pure_bind,Z5,zzL,zzN]
    exact ih _ fun y hy=>hl y (List.mem_cons_of_mem _ hy)
 have:=go sc.names [] h
 unfold closureFor
 rw [←this]
 first
  | (simp only [bind_pure_comp,id_map',map_pure]; done)
  | (simp only [bind_pure_comp,id_map',map_pure]; exact bind_pure _)
theorem adN (en:Env):∀ (l:List (Str × NameKind)) (cs:List (Str × Addr)),(∀ x ∈ l,x.2= .free->∃ c,en.cells.lookup x.1=some c)->(∀ p ∈ cs,en.cells.lookup p.1=some p.2)->
  ∀ p ∈ Z5 en l cs,en.cells.lookup p.1=some p.2
 | [],_,_,h,p,hp=>h p hp
 | (n,k)::r,cs,hl,h,p,hp=>by
  refine adN en r _ (fun y hy=>hl y (List.mem_cons_of_mem _ hy)) (fun q hq=>?_) p hp
  by_cases hk:(k == NameKind.free)=true
  ·rw [if_pos hk] at hq
   rcases List.mem_cons.mp hq with rfl | hq
   ·obtain ⟨c,e⟩:=hl (n,k) List.mem_cons_self (by simpa using hk)
    have e':en.cells.lookup n=some c:=e
    show en.cells.lookup n=some ((en.cells.lookup n).getD 0)
    rw [e']; rfl
   ·exact h q hq
  ·rw [if_neg hk] at hq
   exact h q hq
theorem abS (en:Env):∀ (l:List (Str × NameKind)) (cs:List (Str × Addr)) (x:Str),(∃ c,(x,c) ∈ cs)->∃ c,(x,c) ∈ Z5 en l cs
 | [],_,_,h=>h
 | (n,k)::r,cs,x,⟨c,h⟩=>by
  refine abS en r _ x ?_
  by_cases hk:(k == NameKind.free)=true
  ·rw [if_pos hk]; exact ⟨c,List.mem_cons_of_mem _ h⟩
  ·rw [if_neg hk]; exact ⟨c,h⟩
theorem abi (en:Env):∀ (l:List (Str × NameKind)) (cs:List (Str × Addr)) (x:Str),(x,NameKind.free) ∈ l->∃ c,(x,c) ∈ Z5 en l cs
 | (n,k)::r,cs,x,h=>by
  rcases List.mem_cons.mp h with e | h
  ·obtain ⟨e1,e2⟩:=Prod.mk.inj e
   subst e1; subst e2
   exact abS en r _ _ ⟨_,by rw [if_pos (by rfl)]; exact List.mem_cons_self⟩
  ·exact abi en r _ x h
theorem Qs {β:Type}:∀ {l:List (Str × β)}{x:Str}{c:β},(x,c) ∈ l->∃ d,l.lookup x=some d
 | (n,k)::r,x,c,h=>by
  by_cases e:x=n
  ·subst e; exact ⟨k,by simp [List.lookup_cons]⟩
  ·have eb:(x == n)=false:=by simpa using e
   rcases List.mem_cons.mp h with z | h
   ·cases z; exact absurd rfl e
   ·obtain ⟨d,hd⟩:=Qs h
    exact ⟨d,by simp only [List.lookup_cons,eb]; exact hd⟩
theorem abT {sc:Scope}{en:Env}{x:Str}{k:NameKind} (h:(x,k) ∈ (relabel sc en).names) (hc:∀ y ∈ sc.names,y.2 ≠ .cell) (hk:k= .cell ∨ k= .free):(x,NameKind.free) ∈ sc.names:=by
 obtain ⟨⟨n,j⟩,hm,e⟩:=List.mem_map.mp h
 by_cases q:(j == NameKind.free && en.scope.kind == .function && en.kindOf n == some .cell)=true
 ·have e1:(n,NameKind.cell)=(x,k):=by simpa only [q,zzM] using e
  cases e1
  have hj:j= .free:=by
   simp only [Bool.and_eq_true] at q
   simpa using q.1.1
  rw [←hj]; exact hm
 ·have e1:(n,j)=(x,k):=by simpa only [q,zzL,zzN] using e
  cases e1
  rcases hk with rfl | rfl
  ·exact absurd rfl (hc _ hm)
  ·exact hm
theorem aau {en:Env}:∀ {l:List (Str × NameKind)}{x:Str},l.lookup x=some .free->
  (l.map fun (n,k)=>if (k == NameKind.free && en.scope.kind == .function && en.kindOf n == some .cell) then (n,NameKind.cell) else (n,k)).lookup x=some .cell ∨
  (l.map fun (n,k)=>if (k == NameKind.free && en.scope.kind == .function && en.kindOf n == some .cell) then (n,NameKind.cell) else (n,k)).lookup x=some .free
 | (n,k)::r,x,h=>by
  rw [List.map_cons]
  cases hx:x == n with
  | true=>
   simp only [List.lookup_cons,hx] at h
   cases h
   by_cases q:(NameKind.free == NameKind.free && en.scope.kind == .function && en.kindOf n == some .cell)=true
   ·left; simp only [q,zzM,List.lookup_cons,hx]
   ·right; simp only [q,zzL,zzN,List.lookup_cons,hx]
  | false=>
   simp only [List.lookup_cons,hx] at h
   rcases aau (en:=en) h with g | g
   ·left
    by_cases q:(k == NameKind.free && en.scope.kind == .function && en.kindOf n == some .cell)=true
    ·simp only [q,zzM,List.lookup_cons,hx]; exact g
    ·simp only [q,zzL,zzN,List.lookup_cons,hx]; exact g
   ·right
    by_cases q:(k == NameKind.free && en.scope.kind == .function && en.kindOf n == some .cell)=true
    ·simp only [q,zzM,List.lookup_cons,hx]; exact g
    ·simp only [q,zzL,zzN,List.lookup_cons,hx]; exact g
noncomputable def blk (X:Cx) (N':List Str) (sc:Scope) (cl:List (Str × Addr)) (C:Addr) (s0:Shared) (H0:Hp) (fp:List Addr) (pn:List (Addr × Obj)):Cx:=
 { X with N:=N',s₀:=s0,H₀:=H0,env:=compEnvC sc cl C X.env,Ko:=X.stack,ex:=fp,fn:=fun _=>false,pn:=pn,xe:=NoX }
noncomputable def afS (cap:List (Option Nat)) (σ:St):St:=cap.map fun o=>o.bind fun i=>(σ[i]?).join
noncomputable def PTs (X:Cx) (ts:List Expr) (t:TT):Prop:=
 ∀ (Kp:List (Addr × Obj)) (s:Shared) (σ:St) (H:Hp) (Q:Bool->Hp->Prop),Inv X Kp σ H s->t σ H Q->wpAny (model X.prog X.w) X.A (aip ts X.env) (TP X Kp σ Q) X.xe s
noncomputable def aqS:TT:=fun _ H Q=>Q true H
theorem am9 {X:Cx}:PTs X [] aqS:=fun _ _ _ H _ I h=>wpAny_pure ⟨H,I,h⟩
theorem ana {X:Cx}{c:Expr}{t:TT} (h:PT X c t):PTs X [c] t:=fun Kp s σ H Q I hq=>wpAny_tests_one (h Kp s σ H Q I hq)
structure CompOk (X:Cx) (sc:Scope) (N':List Str) (cap:List (Option Nat)):Prop where
 fr:∀ x ∈ sc.names,x.2= .free->X.env.kindOf x.1=some .cell ∨ X.env.kindOf x.1=some .free
 nc:∀ x ∈ sc.names,x.2 ≠ .cell
 kind:sc.kind= .function
 nm:∀ x ∈ sc.names,x.2= .local->sc.names.lookup x.1=some .local
 len:cap.length=N'.length
 cp:∀ (j i:Nat) (x:Str),N'[j]?=some x->cap[j]?=some (some i)->X.N[i]?=some x/\sc.names.lookup x=some .free
noncomputable def aqT (wi:TI) (cap:List (Option Nat)) (g:TG) (tt:TT) (te:TE):TE:=fun σ H Q=>wi σ H fun J H1=>
 ∃ W:Nat->Nat->St->List V->Hp->Prop,(∃ m,W 0 m (afS cap σ) [] H1)/\∀ i m τ ys H,W i m τ ys H->ys.length<sizeLine/\
  ((J.stop i H/\∀ l,H l=none->Q (.ref l) (upd H l (.lst ys))) ∨
   (J.go i H/\∀ x H',J.yld i H x H'->g x τ H' fun τ2 H2=>tt τ2 H2 fun b H3=>if b=true then te τ2 H3 fun y H4=>∃ m',m' < m/\W (i+1) m' τ2 (ys++[y]) H4 else ∃ m',m' < m/\W (i+1) m' τ2 ys H3))
theorem Inv.track {X:Cx}{Kp:List (Addr × Obj)}{σ:St}{H:Hp}{s:Shared}{D:Addr}{o:HO} (I:Inv X Kp σ H s) (hn:H D=none) (h1:X.s₀.heap.objs.size<=D) (h2:D ≠ X.env.locals) (h3:∀ x c,X.env.cells.lookup x=some c->c ≠ D)
  (h4:∀ p ∈ X.pn++Kp,p.1 ≠ D) (new:zN X.prog X.w (upd H D o) s.heap D o):Inv X Kp σ (upd H D o) s:=by
 have nd:∀ b u,H b=some u->b ≠ D:=fun b u e z=>by rw [z,hn] at e; cases e
 have hok:HOk X.prog X.w (upd H D o) s.heap:=fun b u e=>by
  by_cases hb:b=D
  ·subst hb; rw [jp] at e; cases e; exact new
  ·rw [jt hb] at e
   exact (I.hok b u e).stay (fun _ _ _ q=>q) (fun c q=>by rw [jt (nd c _ q)]; exact q) fun c xs q=>by rw [jt (nd c _ q)]; exact q
 refine I.step (h':=s.heap) (g':=s.gens) (d':=s.drawn) (t':=s.toks) (ch:=[D]) (fun b hb=>?_) (fun b o _ _ _ e _=>e) (fun b o _ _ _ e _=>⟨o.slots,e⟩) (fun b o hc _ n=>?_) (fun b o _ e=>⟨o,e⟩) (fun b xs e=>by rw [jt (nd b _ e)]; exact e)
  (fun b ob u e=>by rw [jt (nd b _ e)]; exact e) (fun b ps e=>⟨#[],by rw [jt (nd b _ e),e]; simp⟩) (fun m hm=>hm) hok I.bare
 ·have e:b=D:=by simpa using hb
  subst e
  exact ⟨.inr h1,h2,h3,h4⟩
 ·have e:b ≠ D:=by simpa using hc
  rw [jt e]; exact n
theorem anb {X : Cx} {el tg src : Expr} {ts : List Expr} {sc : Scope} {ps : Pos} {wi : TI} {g : TG} {tt : TT} {te : TE} {N' : List Str} {cap : List (Option Nat)} (hc : X.calm = true) (hi : PI X tg src wi) (ok : CompOk X sc N' cap)
    (body : ∀ cl C s0 H0 fp pn, PG (blk X N' sc cl C s0 H0 fp pn) tg g /\ PTs (blk X N' sc cl C s0 H0 fp pn) ts tt /\ PE (blk X N' sc cl C s0 H0 fp pn) el te)
    (hs : ∀ x, foldedSetIterable src X.env x = pure x := by intro _; rfl) : PE X (.ListComp el [⟨tg, src, ts, 0⟩] sc ps) (aqT wi cap g tt te) := by
  intro Kp s σ H Q I h
  have hfr : ∀ x ∈ sc.names, x.2 = .free -> ∃ c, X.env.cells.lookup x.1 = some c := fun x hx e => I.ok.has x.1 (ok.fr x hx e)
  have hcl := am8 sc X.env hfr
  have clm : ∀ x c, (Z5 X.env sc.names []).lookup x = some c -> X.env.cells.lookup x = some c := fun x c e =>
    adN X.env sc.names [] hfr (fun _ z => nomatch z) (x, c) (PySem.mem_of_lookup e)
  generalize hgl : Z5 X.env sc.names [] = cl at hcl clm
  rw [eval_ListComp]
  refine wpAny_comprehension_free (use := none) rfl hs hcl ok.kind ok.nm ?_
  refine thn (hi Kp s σ H _ I h) fun v s1 h1 => thn h1 fun itv s2 h2 => ?_
  obtain ⟨it, fp, tn, J, H2, e, I2, T, st2, f2, W, ⟨m0, w0⟩, turn⟩ := h2
  subst e
  refine wpAny_newObj_type (wpAny_newFunctionEnv ok.nc (by intro y hy; simp at hy) (fun h4 hns hsb => ?_) ok.kind)
  dsimp only at hns hsb ⊢
  generalize hH3 : s2.heap.push { cls := .type "list", dict := none, data := .seq ([] : List Value).toArray } = h3 at hns hsb ⊢
  have hC : h3.objs.size = s2.heap.objs.size + 1 := by rw [← hH3, Heap.size_push]
  generalize hCC : h3.objs.size = C at hns hsb hC ⊢
  generalize hDD : s2.heap.objs.size = D at hC ⊢
  have hDC : D ≠ C := by rw [hC]; exact Nat.ne_of_lt (Nat.lt_succ_self _)
  have old : ∀ b o, s2.heap.get? b = some o -> h4.get? b = some o := fun b o e => hsb.extBut b o (by have := Heap.lt_size e; rw [hDD] at this; rw [hC]; exact Nat.ne_of_lt (Nat.lt_succ_of_lt this)) (Heap.get?_push_of_some _ (hH3 ▸ Heap.get?_push_of_some _ e))
  have accO : h4.get? D = some { cls := .type "list", data := .seq ([] : List Value).toArray 0 } := hsb.extBut _ _ hDC (Heap.get?_push_of_some _ (by rw [← hH3, ← hDD]; exact Heap.get?_push_size _ rfl))
  have H2D : H2 D = none := I2.hok.fresh (by rw [hDD]; exact Nat.le_refl _)
  have H2C : H2 C = none := I2.hok.fresh (by rw [hDD, hC]; exact Nat.le_succ _)
  have cellsLt : ∀ x c, X.env.cells.lookup x = some c -> c<D := fun x c e => by
    obtain ⟨v, q⟩ := I2.cell x c e
    rw [← hDD]; exact q.lt
  have pinLt : ∀ p ∈ X.pn ++ Kp, p.1<D := fun p hp => by rw [← hDD]; exact Heap.lt_size (I2.pin p hp).1
  have stkLt : ∀ b ∈ frs X.stack, b<D := fun b hb => by
    obtain ⟨_, o, ho, _⟩ := I2.stack.mem hb
    rw [← hDD]; exact Heap.lt_size ho
  have fpLt : ∀ b ∈ fp, b<D := fun b hb => by
    obtain ⟨o, ho, _⟩ := T.obj _ _ st2 b hb
    rw [← hDD]; exact Heap.lt_size ho
  have ltC : ∀ {b : Addr}, b<D -> b ≠ C := fun hb => by rw [hC]; exact Nat.ne_of_lt (Nat.lt_succ_of_lt hb)
  have locLt : X.env.locals<D := by rw [← hDD]; exact I2.lt
  have hDge : s2.heap.objs.size <= D := by rw [hDD]; exact Nat.le_refl _
  have hCge : s2.heap.objs.size <= C := by rw [hDD, hC]; exact Nat.le_succ _
  have bok : (blk X N' sc cl C s2 H2 fp (X.pn ++ Kp)).Ok := by
    refine ⟨I2.ok.mod, ok.kind, I2.ok.glob, I2.ok.blt, hCge, fun x y c e1 e2 => I2.ok.inj x y c (clm x c e1) (clm y c e2), fun x hx => ?_, fun x c z _ => ?_, I2.ok.hd, I2.ok.frames, .inl rfl, fun b hb => ?_, I2.bs, Nat.le_trans I2.ok.bsz I2.sz, fun b o e hb => ?_, fun b hb z => ?_, I2.stack, I2.stkFree⟩
    · have hx' : (relabel sc X.env).names.lookup x = some .cell ∨ (relabel sc X.env).names.lookup x = some .free := hx
      have hm : (x, NameKind.free) ∈ sc.names := by
        rcases hx' with z | z
        · exact abT (PySem.mem_of_lookup z) ok.nc (.inl rfl)
        · exact abT (PySem.mem_of_lookup z) ok.nc (.inr rfl)
      obtain ⟨c, hc⟩ := abi X.env sc.names [] x hm
      rw [hgl] at hc
      exact Qs hc
    · exact absurd (show false = true from z) Bool.false_ne_true
    · exact ⟨ltC (fpLt b hb), fun x c e => (f2 b hb).2.2.2.2.1 x c (clm x c e)⟩
    · rcases (f2 b hb).2.2.2.1 with z | z
      · exact I2.ok.noex b o e z
      · have := Heap.lt_size e
        exact absurd (Nat.lt_of_lt_of_le this (Nat.le_trans I2.ok.bsz z)) (Nat.lt_irrefl _)
    · rcases List.mem_cons.mp (I2.stkSub b z) with q | q
      · exact (f2 b hb).2.1 q
      · exact (f2 b hb).2.2.1 q
  have pinB : ∀ p ∈ X.pn ++ Kp, p.1 ≠ C /\ p.1 ∉ frs X.stack := fun p hp => ⟨ltC (pinLt p hp), fun z => by
    rcases List.mem_cons.mp (I2.stkSub p.1 z) with q | q
    · exact (I2.pin p hp).2.2.1 q
    · exact (I2.pin p hp).2.2.2.1 q⟩
  have I4 : Inv (blk X N' sc cl C s2 H2 fp (X.pn ++ Kp)) [] (afS cap σ) H2 { s2 with heap := h4, toks := s2.toks + ([] : List (Str × Value)).length } := by
    refine ⟨bok, rfl, I2.bare, Un.kept old, ⟨_, hns, fun j x v e1 e2 e3 => ?_⟩, fun x c e => ?_, H2C, fun x c e => I2.freeC x c (clm x c e), fun p hp => ?_, I2.hok.kept old, ?_⟩
    · unfold afS at e2
      rw [List.getElem?_map] at e2
      cases e4 : cap[j]? with
      | none => rw [e4] at e2; cases e2
      | some o =>
        rw [e4] at e2
        cases o with
        | none => cases e2
        | some i =>
          obtain ⟨hNi, hf⟩ := ok.cp j i x e1 e4
          have e5 : (σ[i]?).join = some v := by
            have := Option.some.inj e2
            simpa using this
          have e6 : σ[i]? = some (some v) := by
            cases e7 : σ[i]? with
            | none => rw [e7] at e5; cases e5
            | some z => rw [e7] at e5; cases z with
              | none => cases e5
              | some z => cases e5; rfl
          have hk := ok.fr (x, .free) (PySem.mem_of_lookup hf) rfl
          obtain ⟨m, hn, hl⟩ := I2.loc
          have hv : Vis X.env.scope x := by
            rcases hk with z | z
            · exact .inr (.inl z)
            · exact .inr (.inr z)
          obtain ⟨u, r, lk⟩ := hl i x v hNi e6 hv
          have cellX : ∃ c, X.env.cells.lookup x = some c /\ s2.heap.IsCell c (some u) := by
            rcases lk with ⟨k1, _⟩ | ⟨_, c, e, z⟩
            · rcases hk with z | z
              · have z' : X.env.kindOf x = some .cell := z
                rw [k1] at z'; cases z'
              · have z' : X.env.kindOf x = some .free := z
                rw [k1] at z'; cases z'
            · exact ⟨c, e, z⟩
          obtain ⟨c, hc1, ob, hc2, hc3⟩ := cellX
          obtain ⟨c', hc'⟩ := abi X.env sc.names [] x (PySem.mem_of_lookup hf)
          rw [hgl] at hc'
          obtain ⟨d, hd⟩ := Qs hc'
          have ed : d = c := by
            have := clm x d hd
            rw [hc1] at this; cases this; rfl
          subst ed
          refine ⟨u, r, .inr ⟨?_, d, hd, ob, old _ _ hc2, hc3⟩⟩
          exact aau hf
    · obtain ⟨v, ob, ho, hd⟩ := I2.cell x c (clm x c e)
      exact ⟨v, ob, old _ _ ho, hd⟩
    · have hp' : p ∈ X.pn ++ Kp := by simpa [blk] using hp
      obtain ⟨e1, e2, e3, e4, e5⟩ := I2.pin p hp'
      exact ⟨old _ _ e1, e2, (pinB p hp').1, (pinB p hp').2, e5⟩
    · show (afS cap σ).length = N'.length
      unfold afS
      rw [List.length_map]; exact ok.len
  have fpB : ∀ {H' : Hp} {pl : List (Addr × Obj)}, (∀ b ∈ fp, H' b = none) -> (∀ p ∈ pl, p.1 ∉ fp) -> ∀ b ∈ fp, afJ (blk X N' sc cl C s2 H2 fp (X.pn ++ Kp)) pl H' b := fun {H' pl} hn hpl b hb =>
    ⟨hn b hb, ltC (fpLt b hb), bok.exfs b hb, .inl hb, fun x c e => (f2 b hb).2.2.2.2.1 x c (clm x c e), fun p hp z => by
      rcases List.mem_append.mp (show p ∈ (X.pn ++ Kp) ++ pl from hp) with q | q
      · exact (f2 b hb).2.2.2.2.2 p q z
      · exact hpl p q (by rw [z]; exact hb)⟩
  have Dfp : ∀ (o : Obj), ∀ p ∈ [(D, o)], p.1 ∉ fp := fun o p hp z => by
    have e : p = (D, o) := by simpa using hp
    subst e
    exact Nat.lt_irrefl _ (fpLt D z)
  have Dfs : D ∉ frs X.stack := fun z => Nat.lt_irrefl _ (stkLt D z)
  obtain ⟨bG, bT, bE⟩ := body cl C s2 H2 fp (X.pn ++ Kp)
  have loop : codeAny (model X.prog X.w) X.A (.compLoop (.ListComp el [⟨tg, src, ts, 0⟩] sc ps) 0 (.ref it) (.ref D) (compEnvC sc cl C X.env)) (compPost (model X.prog X.w) X.A X.xe none (EP X Kp σ Q) (.ref D) C)
      { s2 with heap := h4, toks := s2.toks + ([] : List (Str × Value)).length } := by
    refine ajm (fun n s' => ∃ i τ ys us k H', Inv (blk X N' sc cl C s2 H2 fp (X.pn ++ Kp)) [] τ H' s' /\ tn i s'.heap /\ (∀ b ∈ fp, H' b = none) /\ jP ys us /\ s'.heap.get? D = some { cls := .type "list", data := .seq us.toArray k } /\ H' D = none /\ W i n τ ys H') ?_ m0
      ⟨0, _, [], [], 0, H2, I4, T.keep _ _ _ st2 (fun b _ o e => old b o e), fun b hb => (f2 b hb).1, .nil, accO, H2D, w0⟩
    rintro n s5 ⟨i, τ, ys, us, k, H5, I5, st5, fr5, rv5, ho5, hD5, w5⟩
    obtain ⟨hsz, alt⟩ := turn i n τ ys H5 w5
    have I5p : Inv (blk X N' sc cl C s2 H2 fp (X.pn ++ Kp)) [(D, { cls := .type "list", data := .seq us.toArray k })] τ H5 s5 := I5.pins_of fun p hp => by
      have e : p = (D, { cls := .type "list", data := .seq us.toArray k }) := by simpa using hp
      subst e
      exact ⟨ho5, hD5, hDC, Dfs, fun v z => by cases z⟩
    rcases alt with ⟨stop, fin⟩ | ⟨go, step⟩
    · refine thn (T.done (blk X N' sc cl C s2 H2 fp (X.pn ++ Kp)) rfl rfl rfl hc i _ s5 τ H5 NoX I5p (fpB fr5 (Dfp _)) st5 stop) fun r s6 ⟨hr, I6⟩ => ?_
      subst hr
      have ho6 := (I6.pin (D, _) (List.mem_append_right _ (List.mem_singleton.mpr rfl))).1
      obtain ⟨m6, hn6, _⟩ := I6.loc
      refine ⟨m6, hn6, fun h7 hs7 => ?_⟩
      have J6 : Inv X Kp σ H5 s6 := I2.call' (ch := fp) I6.os I6.base I6.hok I6.bare fun b hb => ⟨(f2 b hb).2.2.2.1, (f2 b hb).2.1, (f2 b hb).2.2.2.2.1, (f2 b hb).2.2.2.2.2⟩
      have H5C : H5 C = none := I6.free
      have cne : ∀ {b : Addr}, b<D -> b ≠ C := ltC
      have J7 : Inv X Kp σ H5 { s6 with heap := h7, toks := s6.toks } := J6.turned (it := C) (fun b o hb e => hs7.extBut b o hb e) H5C (Ne.symm (ltC locLt)) (.inr (Nat.le_trans I2.sz hCge)) (fun x c e => ltC (cellsLt x c e)) (fun p hp => ltC (pinLt p hp))
      have ho7 : h7.get? D = some { cls := .type "list", data := .seq us.toArray k } := hs7.extBut D _ hDC ho6
      refine ⟨.ref D, upd H5 D (.lst ys), ?_, rfl, fin D hD5⟩
      exact Inv.track J7 hD5 (Nat.le_trans I2.sz hDge) (Ne.symm (Nat.ne_of_lt locLt)) (fun x c e => Nat.ne_of_lt (cellsLt x c e)) (fun p hp => Nat.ne_of_lt (pinLt p hp)) ⟨Nat.le_of_lt hsz, us, k, rv5, ho7⟩
    · refine thn (T.item (blk X N' sc cl C s2 H2 fp (X.pn ++ Kp)) rfl rfl rfl hc i _ s5 τ H5 NoX I5p (fpB fr5 (Dfp _)) st5 go) fun r s6 ⟨u, hr, h6⟩ => ?_
      subst hr
      refine thn h6 fun _ s7 ⟨x, H7, I7, r7, y7, st7, fr7⟩ => ?_
      have I7p := I7.pinned (fpB fr7 (Dfp _)) (T.obj _ _ st7)
      refine thn (bG _ s7 τ H7 x u _ I7p r7 (step x H7 y7)) fun _ s8 ⟨τ8, H8, I8, q8⟩ => ?_
      have back : ∀ {τ9 : St} {H9 : Hp} {s9 : Shared}, Inv (blk X N' sc cl C s2 H2 fp (X.pn ++ Kp)) ([(D, { cls := .type "list", data := .seq us.toArray k })] ++ acD fp s7.heap) τ9 H9 s9 ->
          tn (i + 1) s9.heap /\ (∀ b ∈ fp, H9 b = none) /\ s9.heap.get? D = some { cls := .type "list", data := .seq us.toArray k } /\ H9 D = none := fun {τ9 H9 s9} I9 => by
        have pD := I9.pin (D, { cls := .type "list", data := .seq us.toArray k }) (List.mem_append_right _ (List.mem_append_left _ (List.mem_singleton.mpr rfl)))
        refine ⟨T.keep _ _ _ st7 fun b hb o e => (I9.pin (b, o) (List.mem_append_right _ (List.mem_append_right _ (QO hb e)))).1, fun b hb => ?_, pD.1, pD.2.1⟩
        obtain ⟨o, e, _⟩ := T.obj _ _ st7 b hb
        exact (I9.pin (b, o) (List.mem_append_right _ (List.mem_append_right _ (QO hb e)))).2.1
      have drop : ∀ {τ9 : St} {H9 : Hp} {s9 : Shared} {pl : List (Addr × Obj)}, Inv (blk X N' sc cl C s2 H2 fp (X.pn ++ Kp)) pl τ9 H9 s9 -> Inv (blk X N' sc cl C s2 H2 fp (X.pn ++ Kp)) [] τ9 H9 s9 := fun I9 => I9.pins_of fun p hp => nomatch hp
      refine thn (bT _ s8 τ8 H8 _ I8 q8) fun b s9 ⟨H9, I9, q9⟩ => ?_
      cases b with
      | false =>
        rw [if_neg Bool.false_ne_true] at q9 ⊢
        obtain ⟨m', hm, w9⟩ := q9
        obtain ⟨t9, f9, o9, d9⟩ := back I9
        exact ⟨m', hm, i + 1, τ8, ys, us, k, H9, drop I9, t9, f9, rv5, o9, d9, w9⟩
      | true =>
        rw [if_pos rfl] at q9 ⊢
        refine thn (bE _ s9 τ8 H9 _ I9 q9) fun y s10 ⟨z, H10, I10, r10, q10⟩ => ?_
        obtain ⟨m', hm, w10⟩ := q10
        obtain ⟨t10, f10, o10, d10⟩ := back I10
        have hl := rv5.length
        refine append_at (hsz := by show us.toArray.size <= sizeLine; rw [List.size_toArray, ← hl]; exact Nat.le_of_lt hsz) o10 fun h11 hs11 hD11 => ?_
        have I11 : Inv (blk X N' sc cl C s2 H2 fp (X.pn ++ Kp)) [] τ8 H10 { s10 with heap := h11, toks := s10.toks } := (drop I10).turned (it := D) (fun b o hb e => hs11.extBut b o hb e) d10 hDC (.inr hDge) (fun x c e => Nat.ne_of_lt (cellsLt x c (clm x c e)))
          (fun p hp => by have hp' : p ∈ X.pn ++ Kp := by simpa [blk] using hp
                          exact Nat.ne_of_lt (pinLt p hp'))
        refine ⟨m', hm, i + 1, τ8, ys ++ [z], us ++ [y], k + 1, H10, I11, T.keep _ _ _ t10 (fun b hb o e => hs11.extBut b o (Nat.ne_of_lt (fpLt b hb)) e), f10, rv5.append (.cons r10 .nil), ?_, d10, w10⟩
        rw [hD11]
        simp
  refine codeAny_compStart_list loop ?_
  exact T.self _ 0 _ _ _ (T.keep _ _ _ st2 (fun b _ o e => old b o e)) loop
theorem jn.tup {K:Fg}{H H':Hp}{a:Addr}{xs:List V} (e:jn H H') (h:SqT K H a xs):SqT K H' a xs:=by
 rcases h with (h | ⟨o,h⟩) | h
 ·exact .inl (.inl (e _ _ h))
 ·exact .inl (.inr ⟨o,e _ _ h⟩)
 ·exact .inr h
noncomputable def scr (ns:List Int):PyData:= .dict (ns.map fun n=>(.int n,.none))
mutual
noncomputable def Rep (K:Fg) (H:Hp):PyData->V->Prop
 | .none,v=>v= .non
 | .bool b,v=>v= .bl b
 | .int i,v=>v= .int i
 | .str x,v=>v= .str x
 | .tuple ds,v=>∃ a xs,v= .ref a/\SqT K H a xs/\Reps K H ds xs
 | .list ds,v=>∃ a xs,v= .ref a/\H a=some (.lst xs)/\Reps K H ds xs
 | .dict kvs,v=>∃ a,v= .ref a/\((∃ ns:List Int,SqL K H a (List.map V.int ns)/\kvs=ns.map (fun n=>(PyData.int n,PyData.none))) ∨ (∃ ks ob,H a=some (.frz ob (.dK ks))/\RepD K H kvs ks) ∨ (∃ x:Str,kvs=[(.str x,.none)]/\PySem.W.nsIn K mainGlobals x=some (some (.ref a))) ∨ (∃ (x:Str) (C:Addr) (oe:Obj),kvs=[(.str x,.bool true)]/\H a=some (.frz oe (.own a))/\PySem.W.nsIn K mainGlobals x=some (some (.ref C))/\oe.cls= .ref C/\oe.dict=none/\∃ vs,oe.data= .fields vs) ∨ kvs=[(.bool true,.int (a:Int))])
noncomputable def Reps (K:Fg) (H:Hp):LP->List V->Prop
 | [],xs=>xs=[]
 | d::ds,xs=>∃ x r,xs=x::r/\Rep K H d x/\Reps K H ds r
noncomputable def RepD (K:Fg) (H:Hp):List (PyData × PyData)->List (Key × V)->Prop
 | [],_=>False
 | (.none,_)::r,ks=>RepM K H r ks
 | _::_,_=>False
noncomputable def RepM (K:Fg) (H:Hp):List (PyData × PyData)->List (Key × V)->Prop
 | [],ks=>ks=[]
 | (k,d)::r,ks=>∃ i x s,k= .int i/\ks=(Sum.inl i,x)::s/\Rep K H d x/\RepM K H r s
end
noncomputable def Je (kvs:List (PyData × PyData)):Bool:=kvs.all fun p=>match p with
 | (.int _,.none)=>true
 | _=>false
theorem abj (ns:List Int):Je (ns.map fun n=>(PyData.int n,PyData.none))=true:=by
 simp [Je]
theorem RepD.out {K:Fg}{H:Hp}:∀ {kvs:List (PyData × PyData)}{ks:List (Key × V)},RepD K H kvs ks->∃ c r,kvs=(.none,c)::r/\RepM K H r ks
 | [],_,h=>h.elim
 | (.none,c)::r,ks,h=>⟨c,r,rfl,h⟩
 | (.bool _,_)::_,_,h=>h.elim
 | (.int _,_)::_,_,h=>h.elim
 | (.str _,_)::_,_,h=>h.elim
 | (.list _,_)::_,_,h=>h.elim
 | (.tuple _,_)::_,_,h=>h.elim
 | (.dict _,_)::_,_,h=>h.elim
theorem Rep.scrOut {K:Fg}{H:Hp}{kvs:List (PyData × PyData)}{v:V} (h:Rep K H (.dict kvs) v) (hs:Je kvs=true):∃ a ns,v= .ref a/\SqL K H a (List.map V.int ns)/\kvs=ns.map (fun n=>(PyData.int n,PyData.none)):=by
 obtain ⟨a,h1,h2 | ⟨ks,ob,h2,h3⟩ | ⟨x,h2,_⟩ | ⟨x,_,_,h2,_⟩ | h2⟩:=h
 ·obtain ⟨ns,q1,q2⟩:=h2; exact ⟨a,ns,h1,q1,q2⟩
 ·obtain ⟨c,r,rfl,_⟩:=h3.out
  simp [Je] at hs
 ·subst h2; simp [Je] at hs
 ·subst h2; simp [Je] at hs
 ·subst h2; simp [Je] at hs
noncomputable def jz (a:Addr):PyData:= .dict [(.bool true,.int (a:Int))]
noncomputable def zk (x:Str):PyData:= .dict [(.str x,.bool true)]
noncomputable def fnD (x:Str):PyData:= .dict [(.str x,.none)]
noncomputable def qf (H H':Hp):Prop:=∀ b o,H b=some o->(∀ φ,o ≠ .ext φ)->H' b=some o
theorem jn.e {H H':Hp} (s:jn H H'):qf H H':=fun b o h _=>s b o h
theorem qf.trans {H H1 H2:Hp} (a:qf H H1) (b:qf H1 H2):qf H H2:=fun c o h n=>b c o (a c o h n) n
theorem qf.tup {K:Fg}{H H':Hp}{a:Addr}{xs:List V} (e:qf H H') (h:SqT K H a xs):SqT K H' a xs:=by
 rcases h with (h | ⟨o,h⟩) | h
 ·exact .inl (.inl (e _ _ h fun _ z=>nomatch z))
 ·exact .inl (.inr ⟨o,e _ _ h fun _ z=>nomatch z⟩)
 ·exact .inr h
theorem qf.sql {K:Fg}{H H':Hp}{a:Addr}{xs:List V} (e:qf H H') (h:SqL K H a xs):SqL K H' a xs:=by
 rcases h with (h | ⟨o,h⟩) | h
 ·exact .inl (.inl (e _ _ h fun _ z=>nomatch z))
 ·exact .inl (.inr ⟨o,e _ _ h fun _ z=>nomatch z⟩)
 ·exact .inr h
section
variable {K:Fg}{H H':Hp}
mutual
theorem Rep.mono (e:jn H H'):∀ (d:PyData) (v:V),Rep K H d v->Rep K H' d v
 | .none,v,h=>h
 | .bool _,v,h=>h
 | .int _,v,h=>h
 | .str _,v,h=>h
 | .tuple ds,v,⟨a,xs,h1,h2,h3⟩=>⟨a,xs,h1,jn.tup e h2,Reps.mono e ds xs h3⟩
 | .list ds,v,⟨a,xs,h1,h2,h3⟩=>⟨a,xs,h1,e _ _ h2,Reps.mono e ds xs h3⟩
 | .dict kvs,v,⟨a,h1,h2⟩=>⟨a,h1,h2.imp (fun ⟨ns,q1,q2⟩=>⟨ns,e.seq q1,q2⟩) fun z=>z.imp (fun ⟨ks,ob,q1,q2⟩=>⟨ks,ob,e _ _ q1,RepD.mono e kvs ks q2⟩) fun y=>y.imp id fun z=>z.imp (fun ⟨x,C,oe,q1,q2,q3⟩=>⟨x,C,oe,q1,e _ _ q2,q3⟩) id⟩
theorem Reps.mono (e:jn H H'):∀ (ds:LP) (xs:List V),Reps K H ds xs->Reps K H' ds xs
 | [],xs,h=>h
 | d::ds,xs,⟨x,r,h1,h2,h3⟩=>⟨x,r,h1,Rep.mono e d x h2,Reps.mono e ds r h3⟩
theorem RepD.mono (e:jn H H'):∀ (kvs:List (PyData × PyData)) (ks:List (Key × V)),RepD K H kvs ks->RepD K H' kvs ks
 | [],_,h=>h
 | (.none,c)::r,ks,h=>RepM.mono e r ks h
 | (.bool _,_)::_,_,h=>h
 | (.int _,_)::_,_,h=>h
 | (.str _,_)::_,_,h=>h
 | (.list _,_)::_,_,h=>h
 | (.tuple _,_)::_,_,h=>h
 | (.dict _,_)::_,_,h=>h
theorem RepM.mono (e:jn H H'):∀ (kvs:List (PyData × PyData)) (ks:List (Key × V)),RepM K H kvs ks->RepM K H' kvs ks
 | [],_,h=>h
 | (k,d)::r,ks,⟨i,x,s,h1,h2,h3,h4⟩=>⟨i,x,s,h1,h2,Rep.mono e d x h3,RepM.mono e r s h4⟩
end
mutual
theorem Rep.monoE (e:qf H H'):∀ (d:PyData) (v:V),Rep K H d v->Rep K H' d v
 | .none,v,h=>h
 | .bool _,v,h=>h
 | .int _,v,h=>h
 | .str _,v,h=>h
 | .tuple ds,v,⟨a,xs,h1,h2,h3⟩=>⟨a,xs,h1,qf.tup e h2,Reps.monoE e ds xs h3⟩
 | .list ds,v,⟨a,xs,h1,h2,h3⟩=>⟨a,xs,h1,e _ _ h2 (fun _ z=>nomatch z),Reps.monoE e ds xs h3⟩
 | .dict kvs,v,⟨a,h1,h2⟩=>⟨a,h1,h2.imp (fun ⟨ns,q1,q2⟩=>⟨ns,qf.sql e q1,q2⟩) fun z=>z.imp (fun ⟨ks,ob,q1,q2⟩=>⟨ks,ob,e _ _ q1 (fun _ z=>nomatch z),RepD.monoE e kvs ks q2⟩) fun y=>y.imp id fun z=>z.imp (fun ⟨x,C,oe,q1,q2,q3⟩=>⟨x,C,oe,q1,e _ _ q2 (fun _ z=>nomatch z),q3⟩) id⟩
theorem Reps.monoE (e:qf H H'):∀ (ds:LP) (xs:List V),Reps K H ds xs->Reps K H' ds xs
 | [],xs,h=>h
 | d::ds,xs,⟨x,r,h1,h2,h3⟩=>⟨x,r,h1,Rep.monoE e d x h2,Reps.monoE e ds r h3⟩
theorem RepD.monoE (e:qf H H'):∀ (kvs:List (PyData × PyData)) (ks:List (Key × V)),RepD K H kvs ks->RepD K H' kvs ks
 | [],_,h=>h
 | (.none,c)::r,ks,h=>RepM.monoE e r ks h
 | (.bool _,_)::_,_,h=>h
 | (.int _,_)::_,_,h=>h
 | (.str _,_)::_,_,h=>h
 | (.list _,_)::_,_,h=>h
 | (.tuple _,_)::_,_,h=>h
 | (.dict _,_)::_,_,h=>h
theorem RepM.monoE (e:qf H H'):∀ (kvs:List (PyData × PyData)) (ks:List (Key × V)),RepM K H kvs ks->RepM K H' kvs ks
 | [],_,h=>h
 | (k,d)::r,ks,⟨i,x,s,h1,h2,h3,h4⟩=>⟨i,x,s,h1,h2,Rep.monoE e d x h3,RepM.monoE e r s h4⟩
end
end
noncomputable def akS:HO->Bool
 | .lst _=>true
 | .tup _=>true
 | .frz _ _=>true
 | _=>false
noncomputable def jE (H H':Hp):Prop:=∀ b o,H b=some o->akS o=true->H' b=some o
section
variable {K:Fg}{H H':Hp}
theorem jE.tup {a:Addr}{xs:List V} (e:jE H H') (h:SqT K H a xs):SqT K H' a xs:=by
 rcases h with (h | ⟨o,h⟩) | h
 ·exact .inl (.inl (e _ _ h rfl))
 ·exact .inl (.inr ⟨o,e _ _ h rfl⟩)
 ·exact .inr h
theorem jE.sql {a:Addr}{xs:List V} (e:jE H H') (h:SqL K H a xs):SqL K H' a xs:=by
 rcases h with (h | ⟨o,h⟩) | h
 ·exact .inl (.inl (e _ _ h rfl))
 ·exact .inl (.inr ⟨o,e _ _ h rfl⟩)
 ·exact .inr h
mutual
theorem Rep.monoA (e:jE H H'):∀ (d:PyData) (v:V),Rep K H d v->Rep K H' d v
 | .none,v,h=>h
 | .bool _,v,h=>h
 | .int _,v,h=>h
 | .str _,v,h=>h
 | .tuple ds,v,⟨a,xs,h1,h2,h3⟩=>⟨a,xs,h1,jE.tup e h2,Reps.monoA e ds xs h3⟩
 | .list ds,v,⟨a,xs,h1,h2,h3⟩=>⟨a,xs,h1,e _ _ h2 rfl,Reps.monoA e ds xs h3⟩
 | .dict kvs,v,⟨a,h1,h2⟩=>⟨a,h1,h2.imp (fun ⟨ns,q1,q2⟩=>⟨ns,jE.sql e q1,q2⟩) fun z=>z.imp (fun ⟨ks,ob,q1,q2⟩=>⟨ks,ob,e _ _ q1 rfl,RepD.monoA e kvs ks q2⟩) fun y=>y.imp id fun z=>z.imp (fun ⟨x,C,oe,q1,q2,q3⟩=>⟨x,C,oe,q1,e _ _ q2 rfl,q3⟩) id⟩
theorem Reps.monoA (e:jE H H'):∀ (ds:LP) (xs:List V),Reps K H ds xs->Reps K H' ds xs
 | [],xs,h=>h
 | d::ds,xs,⟨x,r,h1,h2,h3⟩=>⟨x,r,h1,Rep.monoA e d x h2,Reps.monoA e ds r h3⟩
theorem RepD.monoA (e:jE H H'):∀ (kvs:List (PyData × PyData)) (ks:List (Key × V)),RepD K H kvs ks->RepD K H' kvs ks
 | [],_,h=>h
 | (.none,c)::r,ks,h=>RepM.monoA e r ks h
 | (.bool _,_)::_,_,h=>h
 | (.int _,_)::_,_,h=>h
 | (.str _,_)::_,_,h=>h
 | (.list _,_)::_,_,h=>h
 | (.tuple _,_)::_,_,h=>h
 | (.dict _,_)::_,_,h=>h
theorem RepM.monoA (e:jE H H'):∀ (kvs:List (PyData × PyData)) (ks:List (Key × V)),RepM K H kvs ks->RepM K H' kvs ks
 | [],_,h=>h
 | (k,d)::r,ks,⟨i,x,s,h1,h2,h3,h4⟩=>⟨i,x,s,h1,h2,Rep.monoA e d x h3,RepM.monoA e r s h4⟩
end
end
theorem jn.a {H H':Hp} (s:jn H H'):jE H H':=fun b o h _=>s b o h
theorem qf.a {H H':Hp} (s:qf H H'):jE H H':=fun b o h q=>s b o h fun φ z=>by subst z; cases q
theorem jE.refl (H:Hp):jE H H:=fun _ _ h _=>h
theorem jE.trans {H H1 H2:Hp} (a:jE H H1) (b:jE H1 H2):jE H H2:=fun c o h n=>b c o (a c o h n) n
section
variable {K:Fg}{H H':Hp}
theorem Rep.cel (a:Addr):Rep K H (jz a) (.ref a):=⟨a,rfl,.inr (.inr (.inr (.inr rfl)))⟩
theorem Rep.celOut {a:Addr}{v:V} (h:Rep K H (jz a) v):v= .ref a:=by
 obtain ⟨b,h1,⟨ns,_,h2⟩ | ⟨ks,ob,h2,h3⟩ | ⟨x,h2,_⟩ | ⟨x,_,_,h2,_⟩ | h2⟩:=h
 ·cases ns with
  | nil=>cases h2
  | cons n ns=>simp at h2
 ·exact h3.elim
 ·simp at h2
 ·simp at h2
 ·have z:(a:Int)=(b:Int):=by simpa using h2
  rw [h1,Int.ofNat.inj z]
theorem Reps.length:∀ {ds:LP}{xs:List V},Reps K H ds xs->xs.length=ds.length
 | [],xs,h=>by cases h; rfl
 | d::ds,xs,⟨x,r,h1,h2,h3⟩=>by subst h1; simp [Reps.length h3]
theorem Reps.get:∀ {ds:LP}{xs:List V}{i:Nat}{d:PyData},Reps K H ds xs->ds[i]?=some d->∃ x,xs[i]?=some x/\Rep K H d x
 | [],xs,i,d,h,e=>by simp at e
 | c::ds,xs,0,d,⟨x,r,h1,h2,h3⟩,e=>by subst h1; simp at e; subst e; exact ⟨x,rfl,h2⟩
 | c::ds,xs,i+1,d,⟨x,r,h1,h2,h3⟩,e=>by
  subst h1
  obtain ⟨y,e1,e2⟩:=Reps.get (i:=i) h3 (by simpa using e)
  exact ⟨y,by simpa using e1,e2⟩
theorem Reps.append:∀ {ds es:LP}{xs ys:List V},Reps K H ds xs->Reps K H es ys->Reps K H (ds++es) (xs++ys)
 | [],es,xs,ys,h,g=>by cases h; exact g
 | d::ds,es,xs,ys,⟨x,r,h1,h2,h3⟩,g=>by subst h1; exact ⟨x,r++ys,rfl,h2,Reps.append h3 g⟩
theorem Reps.take:∀ {ds:LP}{xs:List V} (n:Nat),Reps K H ds xs->Reps K H (ds.take n) (xs.take n)
 | ds,xs,0,h=>by simp; rfl
 | [],xs,n+1,h=>by cases h; rfl
 | d::ds,xs,n+1,⟨x,r,h1,h2,h3⟩=>by subst h1; exact ⟨x,_,rfl,h2,Reps.take n h3⟩
theorem Reps.drop:∀ {ds:LP}{xs:List V} (n:Nat),Reps K H ds xs->Reps K H (ds.drop n) (xs.drop n)
 | ds,xs,0,h=>by simpa using h
 | [],xs,n+1,h=>by cases h; rfl
 | d::ds,xs,n+1,⟨x,r,h1,h2,h3⟩=>by subst h1; simpa using Reps.drop n h3
end
section
variable {X:Cx}{Kp:List (Addr × Obj)}{σ:St}{H:Hp}{s:Shared}
mutual
theorem zc (I:Inv X Kp σ H s):∀ (d:PyData) (v:V) (u:Value),Rep X.K H d v->j8 v u->d.canLay0=true->∃ as,Reads s.heap u d as
 | .none,v,u,h,r,_=>by cases h; cases r; exact ⟨_,.none⟩
 | .bool b,v,u,h,r,_=>by cases h; cases r; exact ⟨_,.bool b⟩
 | .int i,v,u,h,r,_=>by cases h; obtain ⟨t,rfl⟩:=r; exact ⟨_,.int i t⟩
 | .str x,v,u,h,r,_=>by cases h; obtain ⟨t,rfl⟩:=r; exact ⟨_,.str x t⟩
 | .tuple ds,v,u,⟨a,xs,h1,h2,h3⟩,r,hc=>by
  subst h1; cases r
  obtain ⟨its,rv,⟨o,e1,e2,n,e3⟩,_⟩:=I.tuple h2
  obtain ⟨as,ra⟩:=readsAll_of I ds xs its h3 rv (by simpa [PyData.canLay0] using hc)
  exact ⟨as,.tuple e1 e2 e3 (by simpa using ra)⟩
 | .list ds,v,u,⟨a,xs,h1,h2,h3⟩,r,hc=>by
  subst h1; cases r
  obtain ⟨its,rv,⟨o,n,e1,e2,e3,e4⟩,_⟩:=I.list (SqL.of h2)
  obtain ⟨as,ra⟩:=readsAll_of I ds xs its h3 rv (by simpa [PyData.canLay0] using hc)
  exact ⟨a::as,.list e1 e2 e4 (by simpa using ra)⟩
 | .dict kvs,v,u,h,r,hc=>by simp [PyData.canLay0] at hc
theorem readsAll_of (I:Inv X Kp σ H s):∀ (ds:LP) (xs:List V) (us:List Value),Reps X.K H ds xs->jP xs us->PyData.canLayAll0 ds=true->∃ as,ReadsAll s.heap us ds as
 | [],xs,us,h,r,_=>by cases h; cases r; exact ⟨_,.nil⟩
 | d::ds,xs,us,⟨x,q,h1,h2,h3⟩,r,hc=>by
  subst h1
  cases r with
  | cons r1 r2=>
   have hc':d.canLay0=true/\PyData.canLayAll0 ds=true:=by simpa [PyData.canLayAll0] using hc
   obtain ⟨as,ra⟩:=zc I d x _ h2 r1 hc'.1
   obtain ⟨bs,rb⟩:=readsAll_of I ds q _ h3 r2 hc'.2
   exact ⟨_,.cons ra rb⟩
end
end
noncomputable abbrev Rho:=List (OP)
abbrev RP:=Rho->OP
structure EnvR (K:Fg) (H:Hp) (ρ:Rho) (σ:St):Prop where
 len:ρ.length=σ.length
 at':∀ (i:Nat) (d:PyData),ρ[i]?=some (some d)->∃ v,σ[i]?=some (some v)/\Rep K H d v
theorem EnvR.mono {K:Fg}{H H':Hp}{ρ:Rho}{σ:St} (e:EnvR K H ρ σ) (h:jn H H'):EnvR K H' ρ σ:=
 ⟨e.len,fun i d q=>let ⟨v,e1,e2⟩:=e.at' i d q; ⟨v,e1,Rep.mono h d v e2⟩⟩
theorem EnvR.set {K:Fg}{H:Hp}{ρ:Rho}{σ:St} (e:EnvR K H ρ σ) {i:Nat}{d:PyData}{v:V} (r:Rep K H d v):EnvR K H (ρ.set i (some d)) (σ.set i (some v)):=by
 refine ⟨by simp [e.len],fun j c q=>?_⟩
 by_cases hj:i=j
 ·subst hj
  rw [List.getElem?_set] at q ⊢
  simp only [zzM] at q ⊢
  by_cases hl:i < ρ.length
  ·rw [if_pos hl] at q
   rw [if_pos (by rw [←e.len]; exact hl)]
   cases q
   exact ⟨v,rfl,r⟩
  ·rw [if_neg hl] at q; cases q
 ·rw [List.getElem?_set_ne hj] at q ⊢
  exact e.at' j c q
noncomputable def lkp (i:Nat) (ρ:Rho):OP:=(ρ[i]?).join
theorem qT {i:Nat}{ρ:Rho}{d:PyData} (h:lkp i ρ=some d):ρ[i]?=some (some d):=by
 unfold lkp at h
 cases e:ρ[i]? with
 | none=>rw [e] at h; cases h
 | some o=>rw [e] at h; cases o with
  | none=>cases h
  | some c=>cases h; rfl
noncomputable def tD (K:Fg) (f:RP):TE:=fun σ H Q=>∃ ρ d,EnvR K H ρ σ/\f ρ=some d/\∀ v H',jn H H'->Rep K H' d v->Q v H'
@[irreducible] noncomputable def PD (X:Cx) (e:Expr) (f:RP):Prop:=PE X e (tD X.K f)
noncomputable def tDT (K:Fg) (f:Rho->Option Bool):TT:=fun σ H Q=>∃ ρ b,EnvR K H ρ σ/\f ρ=some b/\∀ H',jn H H'->Q b H'
@[irreducible] noncomputable def PTD (X:Cx) (e:Expr) (f:Rho->Option Bool):Prop:=PT X e (tDT X.K f)
noncomputable def tDA (K:Fg) (f:Rho->Option (LP)):TA:=fun σ H Q=>∃ ρ ds,EnvR K H ρ σ/\f ρ=some ds/\∀ vs H',jn H H'->Reps K H' ds vs->Q vs H'
@[irreducible] noncomputable def PAD (X:Cx) (es:List Expr) (f:Rho->Option (LP)):Prop:=PA X es (tDA X.K f)
inductive Out where
 | nx (ρ:Rho) | rt (d:PyData) | bk (ρ:Rho) | ct (ρ:Rho)
abbrev RO:=Rho->Option Out
noncomputable def afT (K:Fg) (D:Ends) (H:Hp):Out->Prop
 | .nx ρ=>∀ σ H',jn H H'->EnvR K H' ρ σ->D.nx σ H'
 | .rt d=>∀ v H',jn H H'->Rep K H' d v->D.rt v H'
 | .bk ρ=>∀ σ H',jn H H'->EnvR K H' ρ σ->D.bk σ H'
 | .ct ρ=>∀ σ H',jn H H'->EnvR K H' ρ σ->D.ct σ H'
theorem afT.mono {K:Fg}{D:Ends}{H H':Hp}{o:Out} (h:afT K D H o) (e:jn H H'):afT K D H' o:=by
 cases o with
 | nx ρ=>exact fun σ H2 e2 r=>h σ H2 (e.trans e2) r
 | rt d=>exact fun v H2 e2 r=>h v H2 (e.trans e2) r
 | bk ρ=>exact fun σ H2 e2 r=>h σ H2 (e.trans e2) r
 | ct ρ=>exact fun σ H2 e2 r=>h σ H2 (e.trans e2) r
noncomputable def tDS (K:Fg) (F:RO):TS:=fun D σ H=>∃ ρ o,EnvR K H ρ σ/\F ρ=some o/\afT K D H o
@[irreducible] noncomputable def PSD (X:Cx) (st:Stmt) (F:RO):Prop:=PS X st (tDS X.K F)
@[irreducible] noncomputable def Zb (X:Cx) (st:List Stmt) (F:RO):Prop:=PSs X st (tDS X.K F)
noncomputable def tDG (K:Fg) (ga:PyData->Rho->Option Rho):TG:=fun v σ H Q=>∃ ρ d ρ',EnvR K H ρ σ/\Rep K H d v/\ga d ρ=some ρ'/\∀ σ' H',jn H H'->EnvR K H' ρ' σ'->Q σ' H'
@[irreducible] noncomputable def PGD (X:Cx) (tg:Expr) (ga:PyData->Rho->Option Rho):Prop:=PG X tg (tDG X.K ga)
section
variable {X:Cx}{e a b c:Expr}{es:List Expr}{fa fb fc:RP}{pos:Pos}
theorem PE.imp {t t':TE} (h:PE X e t) (hi:∀ σ H Q,t' σ H Q->t σ H Q):PE X e t':=fun Kp s σ H Q I q=>h Kp s σ H Q I (hi σ H Q q)
theorem PT.imp {t t':TT} (h:PT X e t) (hi:∀ σ H Q,t' σ H Q->t σ H Q):PT X e t':=fun Kp s σ H Q I q=>h Kp s σ H Q I (hi σ H Q q)
theorem PA.imp {t t':TA} (h:PA X es t) (hi:∀ σ H Q,t' σ H Q->t σ H Q):PA X es t':=fun pos Kp s σ H Q I q=>h pos Kp s σ H Q I (hi σ H Q q)
theorem PS.imp {st:Stmt}{t t':TS} (h:PS X st t) (hi:∀ D σ H,t' D σ H->t D σ H):PS X st t':=fun Kp s σ H D I q=>h Kp s σ H D I (hi D σ H q)
theorem PSs.imp {st:List Stmt}{t t':TS} (h:PSs X st t) (hi:∀ D σ H,t' D σ H->t D σ H):PSs X st t':=fun Kp s σ H D I q=>h Kp s σ H D I (hi D σ H q)
theorem PG.imp {t t':TG} (h:PG X e t) (hi:∀ v σ H Q,t' v σ H Q->t v σ H Q):PG X e t':=fun Kp s σ H v u Q I r q=>h Kp s σ H v u Q I r (hi v σ H Q q)
theorem jb (i:Nat) {x:Str}{pos:Pos} (hN:X.N[i]?=some x:=by rfl) (hv:Vis X.env.scope x:=by first | exact Or.inl rfl | exact Or.inr (Or.inl rfl) | exact Or.inr (Or.inr rfl)) (hd:(x == ("__debug__":Str))=false:=by decide)
  (hcd:(x == ("__classdict__":Str))=false:=by decide):PD X (.Name x pos) (lkp i):=by
 with_unfolding_all exact (PE.imp (aac hN hv hd hcd) fun σ H Q ⟨ρ,d,e,h,k⟩=>let ⟨v,e1,e2⟩:=e.at' i d (qT h); ⟨v,e1,k v H (jn.refl H) e2⟩)
noncomputable def cst (d:PyData) (_:Rho):OP:=some d
theorem jg {i j pos}:PD X (.Constant (.int i) j pos) (cst (.int i)):=by
 with_unfolding_all exact (PE.imp aoV fun σ H Q ⟨ρ,d,e,h,k⟩=>by cases h; exact k _ H (jn.refl H) rfl)
theorem Js {i j pos}:PD X (.Constant (.bool i) j pos) (cst (.bool i)):=by
 with_unfolding_all exact (PE.imp aqt fun σ H Q ⟨ρ,d,e,h,k⟩=>by cases h; exact k _ H (jn.refl H) rfl)
theorem akT {j pos}:PD X (.Constant .none j pos) (cst .none):=by
 with_unfolding_all exact (PE.imp akw fun σ H Q ⟨ρ,d,e,h,k⟩=>by cases h; exact k _ H (jn.refl H) rfl)
theorem abk {i j pos}:PD X (.Constant (.str i) j pos) (cst (.str i)):=by
 with_unfolding_all exact (PE.imp akx fun σ H Q ⟨ρ,d,e,h,k⟩=>by cases h; exact k _ H (jn.refl H) rfl)
theorem anc {x:Str}{v:V}{u:Value}{d:PyData} (hg:Gl X x) (hm:X.mg x=some u) (r:j8 v u) (hr:∀ H,Rep X.K H d v) (hd:(x == ("__debug__":Str))=false:=by decide):PD X (.Name x pos) (cst d):=by
 with_unfolding_all exact (PE.imp (ab8 hg hm r hd) fun σ H Q ⟨ρ,d',e,h,k⟩=>by cases h; exact k _ H (jn.refl H) (hr H))
noncomputable def op2 (g:PyData->PyData->OP) (fa fb:RP):RP:=fun ρ=>(fa ρ).bind fun x=>(fb ρ).bind fun y=>g x y
noncomputable def OpD (X:Cx) (f:Value->Value->Sem Value) (g:PyData->PyData->OP):Prop:=
 ∃ r,OpR X f r/\∀ p q d x y H Q,g p q=some d->Rep X.K H p x->Rep X.K H q y->(∀ v H',jn H H'->Rep X.K H' d v->Q v H')->r x y H Q
theorem ane {g:PyData->PyData->OP}{K:Fg}{r:R2} (hr:∀ p q d x y H Q,g p q=some d->Rep K H p x->Rep K H q y->(∀ v H',jn H H'->Rep K H' d v->Q v H')->r x y H Q)
  {σ:St} {H:Hp} {Q:VK} (h:tD K (op2 g fa fb) σ H Q):tOp r (tD K fa) (tD K fb) σ H Q:=by
 obtain ⟨ρ,d,e,h,k⟩:=h
 unfold op2 at h
 cases ha:fa ρ with
 | none=>rw [ha] at h; cases h
 | some p=>
  rw [ha] at h
  cases hb:fb ρ with
  | none=>rw [hb] at h; cases h
  | some q=>
   rw [hb] at h
   refine ⟨ρ,p,e,ha,fun x H1 s1 r1=>⟨ρ,q,e.mono s1,hb,fun y H2 s2 r2=>?_⟩⟩
   exact hr p q d x y H2 Q h (Rep.mono s2 p x r1) r2 fun v H' s3 r3=>k v H' (s1.trans (s2.trans s3)) r3
theorem jr {op:Operator}{g:PyData->PyData->OP} (ho:OpD X (binaryOp op) g) (ha:PD X a fa) (hb:PD X b fb):PD X (.BinOp a op b pos) (op2 g fa fb):=by
 with_unfolding_all
  obtain ⟨r,h1,h2⟩:=ho
  exact PE.imp (aqB h1 ha hb) fun σ H Q h=>ane h2 h
theorem akU {op:CmpOp}{g:PyData->PyData->OP} (ho:OpD X (compareOp op) g) (ha:PD X a fa) (hb:PD X b fb) (hm:behindInMarks op b=false:=by first | exact ahe _ | with_unfolding_all rfl):PD X (.Compare a [op] [b] pos) (op2 g fa fb):=by
 with_unfolding_all
  obtain ⟨r,h1,h2⟩:=ho
  exact PE.imp (amX h1 ha hb hm) fun σ H Q h=>ane h2 h
noncomputable def asB:PyData->Option Bool
 | .bool b=>some b
 | _=>none
noncomputable def tst (f:RP):Rho->Option Bool:=fun ρ=>(f ρ).bind asB
theorem JQ {d:PyData}{b:Bool} (h:asB d=some b):d= .bool b:=by
 cases d <;> simp [asB] at h
 rw [h]
theorem jS {op:CmpOp}{g:PyData->PyData->OP} (ho:OpD X (compareOp op) g) (ha:PD X a fa) (hb:PD X b fb) (hm:behindInMarks op b=false:=by first | exact ahe _ | with_unfolding_all rfl):PTD X (.Compare a [op] [b] pos) (tst (op2 g fa fb)):=by
 with_unfolding_all
  obtain ⟨r,h1,h2⟩:=ho
  refine PT.imp (aig h1 ha hb hm) fun σ H Q ⟨ρ,t,e,h,k⟩=>?_
  cases hd:op2 g fa fb ρ with
  | none=>simp [tst,hd] at h
  | some d=>
   have ht:d= .bool t:=JQ (by simpa [tst,hd] using h)
   subst ht
   exact ane h2 ⟨ρ,_,e,hd,fun v H' s r=>⟨t,r,k H' s⟩⟩
theorem qw (h:PD X e fa) (he:∀ whole,isTrue e X.env whole=(do let v ←whole; standAt e.pos; holding [v] (truthy v)):=by intro _; rfl):PTD X e (tst fa):=by
 with_unfolding_all
  refine PT.imp (aoW h he) fun σ H Q ⟨ρ,t,e,h,k⟩=>?_
  cases hd:fa ρ with
  | none=>simp [tst,hd] at h
  | some d=>
   have ht:d= .bool t:=JQ (by simpa [tst,hd] using h)
   subst ht
   exact ⟨ρ,_,e,hd,fun v H' s r=>⟨t,r,k H' s⟩⟩
variable {ta tb:Rho->Option Bool}{qp:List Expr}
@[irreducible] noncomputable def PWD (X:Cx) (e:Expr) (f:Rho->Option Bool):Prop:=PW X e (tDT X.K f)
theorem PW.imp {t t':TT} (h:PW X e t) (hi:∀ σ H Q,t' σ H Q->t σ H Q):PW X e t':=fun wh Kp s σ H Q I q=>h wh Kp s σ H Q I (hi σ H Q q)
noncomputable def ash (ta tb:Rho->Option Bool):Rho->Option Bool:=fun ρ=>(ta ρ).bind fun x=>if x=true then tb ρ else some false
noncomputable def orB (ta tb:Rho->Option Bool):Rho->Option Bool:=fun ρ=>(ta ρ).bind fun x=>if x=true then some true else tb ρ
noncomputable def zn (ta:Rho->Option Bool):Rho->Option Bool:=fun ρ=>(ta ρ).map (!·)
theorem QQ (ha:PTD X a ta):PWD X (.BoolOp .Or [a] pos) ta:=by
 with_unfolding_all exact (aky ha)
theorem aag (ha:PTD X a ta) (hb:PWD X (.BoolOp .Or (b::qp) pos) tb):PWD X (.BoolOp .Or (a::b::qp) pos) (orB ta tb):=by
 with_unfolding_all
  refine PW.imp (aoz ha hb) fun σ H Q ⟨ρ,t,e,h,k⟩=>?_
  cases h1:ta ρ with
  | none=>simp [orB,h1] at h
  | some x=>
   refine ⟨ρ,x,e,h1,fun H' s=>?_⟩
   cases x with
   | false=>rw [if_neg Bool.false_ne_true]; exact ⟨ρ,t,e.mono s,by simpa [orB,h1] using h,fun H2 s2=>k H2 (s.trans s2)⟩
   | true=>
    rw [if_pos rfl]
    have:t=true:=by simpa [orB,h1] using h.symm
    subst this
    exact k H' s
theorem JR {op:BoolOp}{l:List Expr} (h:PWD X (.BoolOp op l pos) ta):PTD X (.BoolOp op l pos) ta:=by
 with_unfolding_all exact (h.pt)
theorem qx (ha:PTD X a ta):PTD X (.UnaryOp .Not a pos) (zn ta):=by
 with_unfolding_all
  refine PT.imp (akz ha) fun σ H Q ⟨ρ,t,e,h,k⟩=>?_
  cases h1:ta ρ with
  | none=>simp [zn,h1] at h
  | some x=>
   have:(!x)=t:=by simpa [zn,h1] using h
   subst this
   exact ⟨ρ,x,e,h1,fun H' s=>k H' s⟩
noncomputable def ifD (tc:Rho->Option Bool) (fa fb:RP):RP:=fun ρ=>(tc ρ).bind fun x=>if x=true then fa ρ else fb ρ
noncomputable def jv (_:Rho):Option (LP):=some []
noncomputable def jj (fa:RP) (fr:Rho->Option (LP)):Rho->Option (LP):=fun ρ=>(fa ρ).bind fun x=>(fr ρ).map fun r=>x::r
theorem jd:PAD X [] jv:=by
 with_unfolding_all exact (PA.imp zw fun σ H Q ⟨ρ,d,e,h,k⟩=>by cases h; exact k [] H (jn.refl H) rfl)
theorem ja {fr:Rho->Option (LP)} (ha:PD X e fa) (hr:PAD X es fr) (hs:starEach (e::es) X.env=(false,eval e X.env)::starEach es X.env:=by rfl):PAD X (e::es) (jj fa fr):=by
 with_unfolding_all
  refine PA.imp (qv ha hr hs) fun σ H Q ⟨ρ,ds,en,h,k⟩=>?_
  cases h1:fa ρ with
  | none=>simp [jj,h1] at h
  | some x=>
   cases h2:fr ρ with
   | none=>simp [jj,h1,h2] at h
   | some r=>
    have:x::r=ds:=by simpa [jj,h1,h2] using h
    subst this
    exact ⟨ρ,x,en,h1,fun v H1 s1 r1=>⟨ρ,r,en.mono s1,h2,fun vs H2 s2 r2=>k _ H2 (s1.trans s2) ⟨v,vs,rfl,Rep.mono s2 x v r1,r2⟩⟩⟩
noncomputable def few (ds:LP):Bool:=decide (ds.length<1000000)
theorem acI {n:Nat} (h:n<1000000):n<=sizeLine:=Nat.le_of_lt (Nat.lt_of_lt_of_le h (by rw [sizeLine_eq]; decide))
theorem jV {H:Hp}{p:Addr}{o:HO} (hp:H p=none):jn H (upd H p o):=fun b u h=>by rw [jt (qX h hp)]; exact h
noncomputable def ab4 (fr:Rho->Option (LP)):RP:=fun ρ=>(fr ρ).bind fun ds=>if few ds=true then some (.tuple ds) else none
noncomputable def zB (fr:Rho->Option (LP)):RP:=fun ρ=>(fr ρ).bind fun ds=>if few ds=true then some (.list ds) else none
theorem Jx {x1}{fr:Rho->Option (LP)} (h:PAD X es fr):PD X (.Tuple es x1 pos) (ab4 fr):=by
 with_unfolding_all
  refine PE.imp (akL h) fun σ H Q ⟨ρ,d,e,h,k⟩=>?_
  cases h1:fr ρ with
  | none=>simp [ab4,h1] at h
  | some ds=>
   by_cases hf:few ds=true
   ·have:PyData.tuple ds=d:=by simpa [ab4,h1,hf] using h
    subst this
    refine ⟨ρ,ds,e,h1,fun vs H1 s1 r1=>⟨acI (by rw [r1.length]; simpa [few] using hf),fun p hp=>k _ _ (s1.trans (jV hp)) ⟨p,vs,rfl,SqT.of jp,Reps.mono (jV hp) _ _ r1⟩⟩⟩
   ·simp [ab4,h1,hf] at h
theorem zo {fr:Rho->Option (LP)} (h:PAD X es fr):PD X (.List es pos) (zB fr):=by
 with_unfolding_all
  refine PE.imp (ahl h) fun σ H Q ⟨ρ,d,e,h,k⟩=>?_
  cases h1:fr ρ with
  | none=>simp [zB,h1] at h
  | some ds=>
   by_cases hf:few ds=true
   ·have:PyData.list ds=d:=by simpa [zB,h1,hf] using h
    subst this
    refine ⟨ρ,ds,e,h1,fun vs H1 s1 r1=>⟨acI (by rw [r1.length]; simpa [few] using hf),fun p hp=>k _ _ (s1.trans (jV hp)) ⟨p,vs,rfl,jp,Reps.mono (jV hp) _ _ r1⟩⟩⟩
   ·simp [zB,h1,hf] at h
end
end BX
end
section
namespace BX
open PySem PySem.Spec L2
open PyProof.Rows hiding St
section
variable {X:Cx}{e a b c tg src:Expr}{es:List Expr}{st:Stmt}{sts qp:List Stmt}{fa fb fc:RP}{F G:RO}{pos:Pos}
noncomputable def qB (fa:RP):RO:=fun ρ=>(fa ρ).map Out.rt
theorem jy (h:PD X e fa):PSD X (.Return (some e) pos) (qB fa):=by
 with_unfolding_all
  refine PS.imp (aes h) fun D σ H ⟨ρ,o,en,q,k⟩=>?_
  cases h1:fa ρ with
  | none=>simp [qB,h1] at q
  | some d=>
   have:Out.rt d=o:=by simpa [qB,h1] using q
   subst this
   exact ⟨ρ,d,en,h1,k⟩
noncomputable def ifS (tc:Rho->Option Bool) (F G:RO):RO:=fun ρ=>(tc ρ).bind fun x=>if x=true then F ρ else G ρ
theorem qg {l r:List Stmt}{tc:Rho->Option Bool} (hc:PTD X c tc) (hl:Zb X l F) (hr:Zb X r G):PSD X (.If c l r pos) (ifS tc F G):=by
 with_unfolding_all
  refine PS.imp (aoA hc hl hr) fun D σ H ⟨ρ,o,en,q,k⟩=>?_
  cases h1:tc ρ with
  | none=>simp [ifS,h1] at q
  | some x=>
   refine ⟨ρ,x,en,h1,fun H1 s1=>?_⟩
   cases x with
   | true=>rw [if_pos rfl]; exact ⟨ρ,o,en.mono s1,by simpa [ifS,h1] using q,k.mono s1⟩
   | false=>rw [if_neg Bool.false_ne_true]; exact ⟨ρ,o,en.mono s1,by simpa [ifS,h1] using q,k.mono s1⟩
noncomputable def qu:RO:=fun ρ=>some (.nx ρ)
noncomputable def jK (F G:RO):RO:=fun ρ=>(F ρ).bind fun o=>match o with
 | .nx ρ'=>G ρ'
 | o=>some o
theorem jk:Zb X [] qu:=by
 with_unfolding_all
  refine PSs.imp aeq fun D σ H ⟨ρ,o,en,q,k⟩=>?_
  cases q
  exact k σ H (jn.refl H) en
theorem je (h1 : PSD X st F) (h2 : Zb X qp G) : Zb X (st :: qp) (jK F G) := by
  with_unfolding_all
   refine PSs.imp (Qz h1 h2) fun D σ H ⟨ρ, o, en, q, k⟩ => ?_
   cases hf : F ρ with
   | none => simp [jK, hf] at q
   | some p =>
     refine ⟨ρ, p, en, hf, ?_⟩
     cases p with
     | nx ρ' => exact fun σ' H' s' r' => ⟨ρ', o, r', by simpa [jK, hf] using q, k.mono s'⟩
     | rt d => have : Out.rt d = o := by simpa [jK, hf] using q
               subst this; exact k
     | bk d => have : Out.bk d = o := by simpa [jK, hf] using q
               subst this; exact k
     | ct d => have : Out.ct d = o := by simpa [jK, hf] using q
               subst this; exact k
noncomputable def afU:RO:=fun _=>none
theorem ajn:PSD X st afU:=by
 with_unfolding_all exact (PS.imp akC fun D σ H ⟨ρ,o,en,q,k⟩=>by cases q)
theorem zp:Zb X sts afU:=by
 with_unfolding_all exact (PSs.imp ajc fun D σ H ⟨ρ,o,en,q,k⟩=>by cases q)
noncomputable def Jc (fa:RP):RO:=fun ρ=>(fa ρ).map fun _=> .nx ρ
theorem j5 (h:PD X e fa) (hs:swapsWith e none pos.line X.env=pure false:=by rfl):PSD X (.Expr e pos) (Jc fa):=by
 with_unfolding_all
  refine PS.imp (ab9 h hs) fun D σ H ⟨ρ,o,en,q,k⟩=>?_
  cases h1:fa ρ with
  | none=>simp [Jc,h1] at q
  | some d=>
   have:Out.nx ρ=o:=by simpa [Jc,h1] using q
   subst this
   exact ⟨ρ,d,en,h1,fun v H' s r=>k σ H' s (en.mono s)⟩
noncomputable def jO (i:Nat) (d:PyData) (ρ:Rho):Option Rho:=some (ρ.set i (some d))
theorem qU (i:Nat) {x:Str} (hN:X.N.Nodup) (hi:X.N[i]?=some x:=by rfl) (hx:Loc X.env.scope x:=by first | exact Or.inl rfl | exact Or.inr rfl)
  (hf:X.fn x=true ∨ X.env.scope.names.lookup x=some .local:=by first | exact .inl rfl | exact .inr rfl | assumption):PGD X (.Name x pos) (jO i):=by
 with_unfolding_all
  refine PG.imp (aca hN hi hx hf) fun v σ H Q ⟨ρ,d,ρ',en,r,q,k⟩=>?_
  cases q
  exact k _ H (jn.refl H) (en.set r)
@[irreducible] noncomputable def anf (X:Cx) (ts:List Expr) (ga:LP->Rho->Option Rho):Prop:=PGs X ts fun vs σ H Q=>∃ ρ ds ρ',EnvR X.K H ρ σ/\Reps X.K H ds vs/\ga ds ρ=some ρ'/\∀ σ' H',jn H H'->EnvR X.K H' ρ' σ'->Q σ' H'
noncomputable def qq (ds:LP) (ρ:Rho):Option Rho:=match ds with
 | []=>some ρ
 | _=>none
noncomputable def jG (ga:PyData->Rho->Option Rho) (gr:LP->Rho->Option Rho) (ds:LP) (ρ:Rho):Option Rho:=match ds with
 | d::r=>(ga d ρ).bind fun ρ1=>gr r ρ1
 | []=>none
theorem PGs.imp {ts:List Expr}{t t':TGs} (h:PGs X ts t) (hi:∀ v σ H Q,t' v σ H Q->t v σ H Q):PGs X ts t':=fun Kp s σ H v u Q I r q=>h Kp s σ H v u Q I r (hi v σ H Q q)
theorem afV:anf X [] qq:=by
 with_unfolding_all
  refine PGs.imp aif fun vs σ H Q ⟨ρ,ds,ρ',en,r,q,k⟩=>?_
  cases ds with
  | nil=>cases r; cases q; exact ⟨rfl,k σ H (jn.refl H) en⟩
  | cons d ds=>cases q
theorem QA {ga:PyData->Rho->Option Rho}{gr:LP->Rho->Option Rho} (h1:PGD X e ga) (h2:anf X es gr)
  (hs:(assignEach (e::es) X.env).map (·.2)=assign e X.env::(assignEach es X.env).map (·.2):=by rfl):anf X (e::es) (jG ga gr):=by
 with_unfolding_all
  refine PGs.imp (afI h1 h2 hs) fun vs σ H Q ⟨ρ,ds,ρ',en,r,q,k⟩=>?_
  cases ds with
  | nil=>cases q
  | cons d ds=>
   obtain ⟨x,rr,e1,r1,r2⟩:=r
   subst e1
   cases h3:ga d ρ with
   | none=>simp [jG,h3] at q
   | some ρ1=>
    refine ⟨x,rr,rfl,ρ,d,ρ1,en,r1,h3,fun σ1 H1 s1 e1=>⟨ρ1,ds,ρ',e1,Reps.mono s1 ds rr r2,by simpa [jG,h3] using q,fun σ2 H2 s2 e2=>k σ2 H2 (s1.trans s2) e2⟩⟩
noncomputable def zC (n:Nat) (gr:LP->Rho->Option Rho) (d:PyData) (ρ:Rho):Option Rho:=match d with
 | .tuple ds=>if ds.length=n then gr ds ρ else none
 | _=>none
theorem aiq {k n:Nat}{gr:LP->Rho->Option Rho} (hc:X.calm=true) (h:anf X es gr) (hn:(assignEach es X.env).length=n:=by rfl) (hst:(assignEach es X.env).findIdx? (·.1)=none:=by rfl):
  PGD X (.Tuple es k pos) (zC n gr):=by
 with_unfolding_all
  refine PG.imp (akD hc h hn hst) fun v σ H Q ⟨ρ,d,ρ',en,r,q,k⟩=>?_
  cases d with
  | tuple ds=>
   obtain ⟨a,xs,e1,e2,e3⟩:=r
   by_cases hl:ds.length=n
   ·exact ⟨a,xs,e1,e2,by rw [e3.length]; exact hl,ρ,ds,ρ',en,e3,by simpa [zC,hl] using q,k⟩
   ·simp [zC,hl] at q
  | _=>simp [zC] at q
noncomputable def qV (fa:RP) (ga:PyData->Rho->Option Rho):RO:=fun ρ=>(fa ρ).bind fun d=>(ga d ρ).map Out.nx
theorem jM (i:Nat) {x:Str}{pos':Pos} (hN:X.N.Nodup) (he:PD X e fa) (hi:X.N[i]?=some x:=by rfl) (hx:Loc X.env.scope x:=by first | exact Or.inl rfl | exact Or.inr rfl) (hs:swapsWith e (some (.Name x pos')) pos.line X.env=pure false:=by rfl)
  (hf:X.fn x=true ∨ X.env.scope.names.lookup x=some .local:=by first | exact .inl rfl | exact .inr rfl | assumption):PSD X (.Assign [.Name x pos'] e pos) (qV fa (jO i)):=by
 with_unfolding_all
  refine PS.imp (abb hN hi hx he hs hf) fun D σ H ⟨ρ,o,en,q,k⟩=>?_
  cases h1:fa ρ with
  | none=>simp [qV,h1] at q
  | some d=>
   have:Out.nx (ρ.set i (some d))=o:=by simpa [qV,h1,jO] using q
   subst this
   exact ⟨ρ,d,en,h1,fun v H1 s1 r1=>k _ H1 s1 ((en.mono s1).set r1)⟩
noncomputable def akV (K:Fg) (J:It) (ds:LP) (H0:Hp):Prop:=∀ i H,jE H0 H->(i<ds.length->J.go i H)/\(ds.length<=i->J.stop i H)/\∀ x H',J.yld i H x H'->jn H H'/\∀ d,ds[i]?=some d->Rep K H' d x
noncomputable def tDI (K:Fg) (fi:Rho->Option (LP)):TI:=fun σ H R=>∃ ρ ds,EnvR K H ρ σ/\fi ρ=some ds/\∀ J H',jn H H'->akV K J ds H'->R J H'
@[irreducible] noncomputable def PID (X:Cx) (tg src:Expr) (fi:Rho->Option (LP)):Prop:=PI X tg src (tDI X.K fi)
theorem PI.imp {t t':TI} (h:PI X tg src t) (hi:∀ σ H R,t' σ H R->t σ H R):PI X tg src t':=fun Kp s σ H R I q=>h Kp s σ H R I (hi σ H R q)
noncomputable def Zc:PyData->Option (LP)
 | .list ds=>some ds
 | _=>none
noncomputable def abl:PyData->Option (LP)
 | .tuple ds=>some ds
 | _=>none
noncomputable def itL (fa:RP):Rho->Option (LP):=fun ρ=>(fa ρ).bind Zc
noncomputable def itT (fa:RP):Rho->Option (LP):=fun ρ=>(fa ρ).bind abl
theorem Zd (h:PD X e fa):PID X tg e (itL fa):=by
 with_unfolding_all
  refine PI.imp (amU h) fun σ H R ⟨ρ,ds,en,q,k⟩=>?_
  cases h1:fa ρ with
  | none=>simp [itL,h1] at q
  | some d=>
   cases d with
   | list es=>
    have:es=ds:=by simpa [itL,h1,Zc] using q
    subst this
    refine ⟨ρ,_,en,h1,fun v H1 s1 r1=>?_⟩
    obtain ⟨a,xs,e1,e2,e3⟩:=r1
    refine ⟨a,e1,⟨xs,SqL.of e2⟩,k _ H1 s1 fun i H2 s2=>⟨fun hi=>?_,fun hi=>?_,fun x H' y=>?_⟩⟩
    ·exact ⟨xs,xs[i]'(by rw [e3.length]; exact hi),SqL.of (s2 _ _ e2 rfl),by simp [e3.length,hi]⟩
    ·exact ⟨xs,SqL.of (s2 _ _ e2 rfl),by rw [e3.length]; exact hi⟩
    ·obtain ⟨z1,z2⟩:=y
     subst z1
     refine ⟨jn.refl _,fun d hd=>?_⟩
     obtain ⟨y,e4,e5⟩:=(Reps.monoA s2 _ _ e3).get hd
     have:=z2 xs (SqL.of (s2 _ _ e2 rfl))
     rw [e4] at this; cases this
     exact e5
   | _=>simp [itL,h1,Zc] at q
theorem aeA (h:PD X e fa):PID X tg e (itT fa):=by
 with_unfolding_all
  refine PI.imp (ao4 h) fun σ H R ⟨ρ,ds,en,q,k⟩=>?_
  cases h1:fa ρ with
  | none=>simp [itT,h1] at q
  | some d=>
   cases d with
   | tuple es=>
    have:es=ds:=by simpa [itT,h1,abl] using q
    subst this
    refine ⟨ρ,_,en,h1,fun v H1 s1 r1=>?_⟩
    obtain ⟨a,xs,e1,e2,e3⟩:=r1
    refine ⟨a,e1,⟨xs,e2⟩,k _ H1 s1 fun i H2 s2=>⟨fun hi=>?_,fun hi=>?_,fun x H' y=>?_⟩⟩
    ·exact ⟨xs,xs[i]'(by rw [e3.length]; exact hi),jE.tup s2 e2,by simp [e3.length,hi]⟩
    ·exact ⟨xs,jE.tup s2 e2,by rw [e3.length]; exact hi⟩
    ·obtain ⟨z1,z2⟩:=y
     subst z1
     refine ⟨jn.refl _,fun d hd=>?_⟩
     obtain ⟨y,e4,e5⟩:=(Reps.monoA s2 _ _ e3).get hd
     have:=z2 xs (jE.tup s2 e2)
     rw [e4] at this; cases this
     exact e5
   | _=>simp [itT,h1,abl] at q
noncomputable def aav (lo:Int) (n:Nat):LP:=(List.range n).map fun (k:Nat)=>PyData.int (lo+(k:Int))
noncomputable def ahq (ds:LP):Option (LP):=match ds with
 | [.int j]=>if -(2 ^ 62)<=j/\j<2 ^ 62 then some (aav 0 j.toNat) else none
 | _=>none
theorem aeB {K:Fg}{H:Hp} (lo:Int) (n:Nat):akV K (Itr lo n) (aav lo n) H:=fun i H2 s2=>by
 have hl:(aav lo n).length=n:=by simp [aav]
 refine ⟨fun hi=>by rw [hl] at hi; exact hi,fun hi=>by rw [hl] at hi; exact hi,fun x H' y=>?_⟩
 obtain ⟨z1,z2⟩:=y
 subst z1
 refine ⟨jn.refl _,fun d hd=>?_⟩
 have hi:i<n:=by
  have:=(List.getElem?_eq_some_iff.mp hd).1
  rw [hl] at this; exact this
 have:d= .int (lo+i):=by
  simp [aav,hi] at hd
  exact hd.symm
 subst this
 exact z2
theorem aah {p pos:Pos}{fr:Rho->Option (LP)} (hg:Gl X "range") (hm:X.mg "range"=none) (ha:PAD X [a] fr) (hs:starEach [a] X.env=[(false,eval a X.env)]:=by rfl):PID X tg (.Call (.Name "range" p) [a] [] pos) (fun ρ=>(fr ρ).bind ahq):=by
 with_unfolding_all
  refine PI.imp (abc hg hm ha hs) fun σ H R ⟨ρ,ds,en,q,k⟩=>?_
  cases h1:fr ρ with
  | none=>simp [h1] at q
  | some as=>
   have q':ahq as=some ds:=by simpa [h1] using q
   refine ⟨ρ,as,en,h1,fun vs H1 s1 r1=>?_⟩
   unfold ahq at q'
   split at q'
   ·rename_i j
    split at q'
    ·rename_i hj
     cases q'
     obtain ⟨x,r,e1,e2,e3⟩:=r1
     cases (show x=V.int j from e2)
     cases (show r=[] from e3)
     exact ⟨j,e1,hj.1,hj.2,k _ H1 s1 (aeB 0 j.toNat)⟩
    ·cases q'
   ·cases q'
noncomputable def qj (ga:PyData->Rho->Option Rho) (F:RO):LP->RO
 | [],ρ=>some (.nx ρ)
 | d::r,ρ=>(ga d ρ).bind fun ρ1=>(F ρ1).bind fun o=>match o with
  | .nx ρ2=>qj ga F r ρ2
  | .ct ρ2=>qj ga F r ρ2
  | .bk ρ2=>some (.nx ρ2)
  | .rt d=>some (.rt d)
noncomputable def abm (fi:Rho->Option (LP)) (ga:PyData->Rho->Option Rho) (F:RO):RO:=fun ρ=>(fi ρ).bind fun ds=>qj ga F ds ρ
theorem acb {body:List Stmt}{fi:Rho->Option (LP)}{ga:PyData->Rho->Option Rho} (hp:PassesOwn (model X.prog X.w) X.A X.env X.xe) (hc:X.calm=true) (hi:PID X tg src fi) (hg:PGD X tg ga) (hb:Zb X body F)
  (hs:∀ x,foldedSetIterable src X.env x=pure x:=by intro _; rfl):PSD X (.For tg src body [] pos) (abm fi ga F):=by
 with_unfolding_all
  refine PS.imp (abd hp hc hi hg hb hs) fun D σ H ⟨ρ,o,en,q,k⟩=>?_
  cases h1:fi ρ with
  | none=>simp [abm,h1] at q
  | some ds=>
   have q':qj ga F ds ρ=some o:=by simpa [abm,h1] using q
   refine ⟨ρ,ds,en,h1,fun J H1 s1 Y=>?_⟩
   refine ⟨fun i m σ H2=>m=ds.length - i/\i<=ds.length/\jn H1 H2/\∃ ρ2,EnvR X.K H2 ρ2 σ/\qj ga F (ds.drop i) ρ2=some o,⟨ds.length,by simp,Nat.zero_le _,jn.refl _,ρ,en.mono s1,by simpa using q'⟩,?_⟩
   rintro i m σ2 H2 ⟨rfl,hi,s2,ρ2,en2,q2⟩
   obtain ⟨g1,g2,g3⟩:=Y i H2 (jn.a s2)
   by_cases hlt:i<ds.length
   ·right
    have hd:ds.drop i=ds[i]::ds.drop (i+1):=List.drop_eq_getElem_cons hlt
    rw [hd] at q2
    refine ⟨g1 hlt,fun σ3 H3=>jn H1 H3/\∃ ρ3,EnvR X.K H3 ρ3 σ3/\qj ga F (ds.drop (i+1)) ρ3=some o,fun σ3 H3 ⟨a1,ρ3,a2,a3⟩=>⟨ds.length - (i+1),by omega,rfl,hlt,a1,ρ3,a2,a3⟩,fun x H3 y=>?_⟩
    obtain ⟨s3,r3⟩:=g3 x H3 y
    have r3':=r3 ds[i] (by simp [hlt])
    cases h4:ga ds[i] ρ2 with
    | none=>simp [qj,h4] at q2
    | some ρ4=>
     refine ⟨ρ2,ds[i],ρ4,en2.mono s3,r3',h4,fun σ5 H5 s5 en5=>?_⟩
     cases h5:F ρ4 with
     | none=>simp [qj,h4,h5] at q2
     | some p=>
      refine ⟨ρ4,p,en5,h5,?_⟩
      have s15:=s2.trans (s3.trans s5)
      cases p with
      | nx ρ6=>exact fun σ6 H6 s6 en6=>⟨s15.trans s6,ρ6,en6,by simpa [qj,h4,h5] using q2⟩
      | ct ρ6=>exact fun σ6 H6 s6 en6=>⟨s15.trans s6,ρ6,en6,by simpa [qj,h4,h5] using q2⟩
      | bk ρ6=>
       have:Out.nx ρ6=o:=by simpa [qj,h4,h5] using q2
       subst this
       exact fun σ6 H6 s6 en6=>k σ6 H6 (s1.trans (s15.trans s6)) en6
      | rt d=>
       have:Out.rt d=o:=by simpa [qj,h4,h5] using q2
       subst this
       exact fun v H6 s6 r6=>k v H6 (s1.trans (s15.trans s6)) r6
   ·left
    have he:i=ds.length:=by omega
    have hn:ds.drop i=[]:=by rw [he]; simp
    rw [hn] at q2
    have:Out.nx ρ2=o:=by simpa [qj] using q2
    subst this
    exact ⟨g2 (by omega),k σ2 H2 (s1.trans s2) en2⟩
noncomputable def acJ (cap:List (Option Nat)) (ρ:Rho):Rho:=cap.map fun o=>o.bind fun i=>(ρ[i]?).join
theorem EnvR.cap {K:Fg}{H:Hp}{ρ:Rho}{σ:St} (e:EnvR K H ρ σ) (cap:List (Option Nat)):EnvR K H (acJ cap ρ) (afS cap σ):=by
 refine ⟨by simp [acJ,afS],fun j d q=>?_⟩
 unfold acJ at q
 unfold afS
 rw [List.getElem?_map] at q ⊢
 cases h1:cap[j]? with
 | none=>rw [h1] at q; cases q
 | some o=>
  rw [h1] at q
  cases o with
  | none=>cases q
  | some i=>
   have q':lkp i ρ=some d:=by simpa [lkp] using q
   obtain ⟨v,e1,e2⟩:=e.at' i d (qT q')
   exact ⟨v,by simp [e1],e2⟩
noncomputable def JB (ga:PyData->Rho->Option Rho) (ft:Rho->Option Bool) (fe:RP):LP->Rho->Option (LP)
 | [],_=>some []
 | d::r,τ=>(ga d τ).bind fun τ2=>(ft τ2).bind fun b=>if b=true then (fe τ2).bind fun y=>(JB ga ft fe r τ2).map fun ys=>y::ys else JB ga ft fe r τ2
noncomputable def Z6 (fi:Rho->Option (LP)) (cap:List (Option Nat)) (ga:PyData->Rho->Option Rho) (ft:Rho->Option Bool) (fe:RP):RP:=fun ρ=>(fi ρ).bind fun ds=>
 if few ds=true then (JB ga ft fe ds (acJ cap ρ)).map PyData.list else none
@[irreducible] noncomputable def apn (X:Cx) (ts:List Expr) (f:Rho->Option Bool):Prop:=PTs X ts (tDT X.K f)
noncomputable def aqU (_:Rho):Option Bool:=some true
theorem aaw:apn X [] aqU:=by
 with_unfolding_all exact (fun Kp s σ H Q I ⟨ρ,b,en,q,k⟩=>by cases q; exact am9 Kp s σ H Q I (k H (jn.refl H)))
theorem akW {ft:Rho->Option Bool} (h:PTD X c ft):apn X [c] ft:=by
 with_unfolding_all exact (ana h)
theorem aax {el:Expr}{ts:List Expr}{sc:Scope}{ps:Pos}{fi:Rho->Option (LP)}{ga:PyData->Rho->Option Rho}{ft:Rho->Option Bool}{fe:RP} (N':List Str) (cap:List (Option Nat)) (hc:X.calm=true) (hi:PID X tg src fi) (ok:CompOk X sc N' cap)
  (body:∀ cl C s0 H0 fp pn,PGD (blk X N' sc cl C s0 H0 fp pn) tg ga/\apn (blk X N' sc cl C s0 H0 fp pn) ts ft/\PD (blk X N' sc cl C s0 H0 fp pn) el fe)
  (hs:∀ x,foldedSetIterable src X.env x=pure x:=by intro _; rfl):PD X (.ListComp el [⟨tg,src,ts,0⟩] sc ps) (Z6 fi cap ga ft fe):=by
 with_unfolding_all
  refine PE.imp (anb (g:=tDG X.K ga) (tt:=tDT X.K ft) (te:=tD X.K fe) hc hi ok (fun cl C s0 H0 fp pn=>body cl C s0 H0 fp pn) hs) fun σ H Q ⟨ρ,d,en,q,k⟩=>?_
  cases h1:fi ρ with
  | none=>simp [Z6,h1] at q
  | some ds=>
   by_cases hf:few ds=true
   ·cases h2:JB ga ft fe ds (acJ cap ρ) with
    | none=>simp [Z6,h1,hf,h2] at q
    | some ys=>
     have:PyData.list ys=d:=by simpa [Z6,h1,hf,h2] using q
     subst this
     refine ⟨ρ,ds,en,h1,fun J H1 s1 Y=>?_⟩
     refine ⟨fun i m τ us H2=>m=ds.length - i/\i<=ds.length/\jn H1 H2/\us.length<=i/\∃ ρ2 zs ws,EnvR X.K H2 ρ2 τ/\Reps X.K H2 zs us/\JB ga ft fe (ds.drop i) ρ2=some ws/\ys=zs++ws,
      ⟨ds.length,by simp,Nat.zero_le _,jn.refl _,Nat.le_refl _,acJ cap ρ,[],ys,(en.mono s1).cap cap,rfl,by simpa using h2,rfl⟩,?_⟩
     rintro i m τ us H2 ⟨rfl,hi',s2,hu,ρ2,zs,ws,en2,r2,q2,ey⟩
     have hsm:us.length<sizeLine:=Nat.lt_of_le_of_lt (Nat.le_trans hu hi') (Nat.lt_of_lt_of_le (by simpa [few] using hf) (by rw [sizeLine_eq]; decide:1000000<=sizeLine))
     obtain ⟨g1,g2,g3⟩:=Y i H2 (jn.a s2)
     refine ⟨hsm,?_⟩
     by_cases hlt:i<ds.length
     ·right
      have hd:ds.drop i=ds[i]::ds.drop (i+1):=List.drop_eq_getElem_cons hlt
      rw [hd] at q2
      refine ⟨g1 hlt,fun x H3 y=>?_⟩
      obtain ⟨s3,r3⟩:=g3 x H3 y
      have r3':=r3 ds[i] (by simp [hlt])
      cases h4:ga ds[i] ρ2 with
      | none=>simp [JB,h4] at q2
      | some ρ4=>
       refine ⟨ρ2,ds[i],ρ4,en2.mono s3,r3',h4,fun σ5 H5 s5 en5=>?_⟩
       cases h5:ft ρ4 with
       | none=>simp [JB,h4,h5] at q2
       | some b=>
        refine ⟨ρ4,b,en5,h5,fun H6 s6=>?_⟩
        have s26:=s3.trans (s5.trans s6)
        cases b with
        | false=>
         refine asf ?_
         exact ⟨ds.length - (i+1),by omega,rfl,hlt,s2.trans s26,by omega,ρ4,zs,ws,en5.mono s6,Reps.mono s26 _ _ r2,by simpa [JB,h4,h5] using q2,ey⟩
        | true=>
         refine asg ?_
         cases h6:fe ρ4 with
         | none=>simp [JB,h4,h5,h6] at q2
         | some y=>
          cases h7:JB ga ft fe (ds.drop (i+1)) ρ4 with
          | none=>simp [JB,h4,h5,h6,h7] at q2
          | some ws'=>
           have hw:y::ws'=ws:=by simpa [JB,h4,h5,h6,h7] using q2
           refine ⟨ρ4,y,en5.mono s6,h6,fun v H7 s7 r7=>?_⟩
           refine ⟨ds.length - (i+1),by omega,rfl,hlt,s2.trans (s26.trans s7),by rw [List.length_append]; simp; omega,ρ4,zs++[y],ws',(en5.mono s6).mono s7,(Reps.mono (s26.trans s7) _ _ r2).append ⟨v,[],rfl,r7,rfl⟩,h7,?_⟩
           rw [ey,←hw]; simp
     ·left
      have he:i=ds.length:=by omega
      have hn:ds.drop i=[]:=by rw [he]; simp
      rw [hn] at q2
      have hw:[]=ws:=by simpa [JB] using q2
      subst hw
      have ey':ys=zs:=by simpa using ey
      subst ey'
      exact ⟨g2 (by omega),fun l hl=>k _ _ (s1.trans (s2.trans (jV hl))) ⟨l,us,rfl,jp,Reps.mono (jV hl) _ _ r2⟩⟩
   ·simp [Z6,h1,hf] at q
noncomputable def Pur (K:Fg) (n:Nat) (g:LP->OP):Sp:=fun vs H Q _=>∃ ds d,ds.length=n/\Reps K H ds vs/\g ds=some d/\∀ v H',jn H H'->Rep K H' d v->Q v H'
noncomputable def jB (g:LP->OP) (fr:Rho->Option (LP)):RP:=fun ρ=>(fr ρ).bind g
theorem ang {k n:Nat}{f:Addr}{fd:FuncData}{ps:List Str}{g:LP->OP}{x:Str}{p:Pos}{fr:Rho->Option (LP)} (FO:FnOk X.prog X.w X.K X.mg X.base CX0 k f fd ps (Pur X.K n g)) (hr:Room k X.A) (hm:X.mg x=some (.ref f)) (hk:PySem.W.keepIn X.K (.ref f)=true)
  (hb:JA X.K fd ps []) (hn:(e::es).length=n) (ha:PAD X (e::es) fr) (hl:∀ ρ ds,fr ρ=some ds->ds.length=(e::es).length) (hg:Gl X x:=by rfl) (hdb:(x == ("__debug__":Str))=false:=by decide) (he:starEach (e::es) X.env=(false,eval e X.env)::starEach es X.env:=by rfl)
  (hpl:(backTo pos (starEach es X.env)).any (·.1)=false:=by rfl):PD X (.Call (.Name x p) (e::es) [] pos) (jB g fr):=by
 with_unfolding_all
  refine PE.imp (aew FO hr hg hm hk hb .nil abR ha hdb he hpl) fun σ H Q ⟨ρ,d,en,q,k⟩=>?_
  cases h1:fr ρ with
  | none=>simp [jB,h1] at q
  | some ds=>
   refine ⟨ρ,ds,en,h1,fun vs H1 s1 r1=>?_⟩
   refine ⟨ds,d,by rw [hl ρ ds h1,hn],by rw [List.append_nil]; exact r1,by simpa [jB,h1] using q,fun v H' s r=>k v H' (s1.trans s) r⟩
noncomputable def aay (X:Cx) (f:Value) (g:LP->OP):Prop:=∃ r,Q9 X f r/\∀ ds d xs H Q,g ds=some d->Reps X.K H ds xs->(∀ v H',jn H H'->Rep X.K H' d v->Q v H')->r xs H Q
theorem jQ {id:String}{g:LP->OP}{x:Str}{p:Pos}{fr:Rho->Option (LP)} (hc:aay X (.builtin id) g) (hm:X.mg x=none) (hv:bootBuiltins x=some (.builtin id)) (ha:PAD X (e::es) fr) (hg:Gl X x:=by rfl) (hn:x ≠ "__name__":=by decide) (hdb:(x == ("__debug__":Str))=false:=by decide)
  (he:starEach (e::es) X.env=(false,eval e X.env)::starEach es X.env:=by rfl) (hpl:(backTo pos (starEach es X.env)).any (·.1)=false:=by rfl):PD X (.Call (.Name x p) (e::es) [] pos) (jB g fr):=by
 with_unfolding_all
  obtain ⟨r,h1,h2⟩:=hc
  refine PE.imp (Za h1 hg hm hv ha hn hdb he hpl) fun σ H Q ⟨ρ,d,en,q,k⟩=>?_
  cases h3:fr ρ with
  | none=>simp [jB,h3] at q
  | some ds=>exact ⟨ρ,ds,en,h3,fun vs H1 s1 r1=>h2 ds d vs H1 Q (by simpa [jB,h3] using q) r1 fun v H' s r=>k v H' (s1.trans s) r⟩
theorem adO {T:String}{g:LP->OP}{x:Str}{p:Pos}{fr:Rho->Option (LP)} (hc:aay X (.type T) g) (hm:X.mg x=none) (hv:bootBuiltins x=some (.type T)) (ha:PAD X (e::es) fr) (hg:Gl X x:=by rfl) (hn:x ≠ "__name__":=by decide) (hdb:(x == ("__debug__":Str))=false:=by decide)
  (he:starEach (e::es) X.env=(false,eval e X.env)::starEach es X.env:=by rfl) (hpl:(backTo pos (starEach es X.env)).any (·.1)=false:=by rfl):PD X (.Call (.Name x p) (e::es) [] pos) (jB g fr):=by
 with_unfolding_all
  obtain ⟨r,h1,h2⟩:=hc
  refine PE.imp (adL h1 hg hm hv ha hn hdb he hpl) fun σ H Q ⟨ρ,d,en,q,k⟩=>?_
  cases h3:fr ρ with
  | none=>simp [jB,h3] at q
  | some ds=>exact ⟨ρ,ds,en,h3,fun vs H1 s1 r1=>h2 ds d vs H1 Q (by simpa [jB,h3] using q) r1 fun v H' s r=>k v H' (s1.trans s) r⟩
end
noncomputable def jC (N:List Str) (ds:LP):Rho:=ds.map some++List.replicate (N.length - ds.length) none
theorem Ji {K:Fg}{H:Hp}{N:List Str}{ds:LP}{vs:List V} (r:Reps K H ds vs):EnvR K H (jC N ds) (L2.zO N vs):=by
 have hl:=r.length
 refine ⟨by simp [jC,L2.zO,hl],fun i d q=>?_⟩
 unfold jC at q
 by_cases hi:i<ds.length
 ·rw [List.getElem?_append_left (by simpa using hi),List.getElem?_map] at q
  cases e:ds[i]? with
  | none=>rw [e] at q; cases q
  | some c=>
   rw [e] at q; cases q
   obtain ⟨x,e1,e2⟩:=r.get e
   refine ⟨x,?_,e2⟩
   unfold L2.zO
   rw [List.getElem?_append_left (by simp; omega),List.getElem?_map,e1]; rfl
 ·rw [List.getElem?_append_right (by simpa using hi),List.getElem?_replicate] at q
  split at q <;> cases q
noncomputable def jw (N:List Str) (n:Nat) (B:RO) (ds:LP):OP:=if ds.length=n then match B (jC N ds) with
 | some (.rt d)=>some d
 | some (.nx _)=>some .none
 | _=>none else none
section
variable {P:Program}{w:World}{K:Fg}{mg:SV}{base:Heap}
theorem jN {x qual:Str}{st:Stmt}{f:Addr}{fd:FuncData}{N ps:List Str}{k:Nat}{B:RO} (F:Fun K x qual st f fd) (S:FnScope N ps (jf st))
  (body:∀ (Kc:Value) (A:Around) (Ko:List Env) (s:Shared) (H:Hp) (E:XK),Room k (A.deeper (envOfC qual (jf st) s.heap.objs.size f Kc))->
   Zb (zU CX0 P w K mg base N qual (jf st) f Kc A Ko s H E).nox (jR st) B):FnOk P w K mg base CX0 (k+1) f fd ps (Pur K ps.length (jw N ps.length B)):=by
 with_unfolding_all
  refine F.ok S (fun vs H Q E h=>?_) (fun Kc A Ko s H vs Q E hr h=>?_)
  ·obtain ⟨ds,d,h1,h2,_⟩:=h
   rw [h2.length]; exact h1
  ·obtain ⟨ds,d,h1,h2,h3,h4⟩:=h
   refine ⟨_,body Kc A Ko s H E hr,?_⟩
   unfold jw at h3
   rw [if_pos h1] at h3
   cases hB:B (jC N ds) with
   | none=>rw [hB] at h3; cases h3
   | some o=>
    refine ⟨jC N ds,o,Ji h2,hB,?_⟩
    rw [hB] at h3
    cases o with
    | rt c=>cases h3; exact fun v H' s r=>h4 v H' s r
    | nx ρ=>cases h3; exact fun σ H' s r=>h4 .non H' s rfl
    | bk ρ=>cases h3
    | ct ρ=>cases h3
end
section
variable {X:Cx}
noncomputable def aqV (K:Fg):R2:=fun x y H Q=>∃ a b ys,x= .ref a/\y= .ref b/\SqT K H a []/\SqT K H b ys/\Q (.ref b) H
theorem anh:OpR X (binaryOp .Add) (aqV X.K):=by
 intro Kp s σ H x y v u Q I rx ry h
 obtain ⟨a,b,ys,rfl,rfl,ha,hb,q⟩:=h
 cases rx
 cases ry
 obtain ⟨its,r1,p1,_⟩:=I.tuple ha
 obtain ⟨its2,r2,p2,_⟩:=I.tuple hb
 cases r1
 obtain ⟨⟨c1,d1,t1,l1⟩,ho,hc,n,hd⟩:=id p1
 obtain ⟨⟨c2,d2,t2,l2⟩,ho2,hc2,n2,hd2⟩:=id p2
 simp only at hc hd hc2 hd2
 subst hc hd hc2 hd2
 exact concat_meets ⟨_,ho,rfl⟩ ⟨_,ho2,rfl⟩ noFill_tuple_add seq_tuple_add PySem.F.slot_tuple_add PySem.F.entry_tuple_add (PySem.F.args_tuple_add_2 _ _)
  (tuple_addW0 a b _ _ n n2 d1 d2 l1 l2 (by simp)) ⟨ho,ho2,⟨.ref b,H,I,rfl,q⟩⟩
noncomputable def zV:PyData->PyData->OP
 | .int i,.int j=>some (.int (i+j))
 | .list xs,.list ys=>if few (xs++ys)=true then some (.list (xs++ys)) else none
 | .tuple [],.tuple ys=>some (.tuple ys)
 | .tuple (x::xs),.tuple ys=>if few ((x::xs)++ys)=true then some (.tuple ((x::xs)++ys)) else none
 | _,_=>none
theorem jD:OpD X (binaryOp .Add) zV:=by
 refine ⟨_,ao7.or (apk.or (anh.or am3)),fun p q d x y H Q h rx ry k=>?_⟩
 unfold zV at h
 split at h
 ·cases h
  cases (show x=_ from rx)
  cases (show y=_ from ry)
  exact .inl ⟨_,_,rfl,rfl,k _ H (jn.refl H) rfl⟩
 ·rename_i xs ys
  split at h
  ·rename_i hf
   cases h
   obtain ⟨a,us,e1,e2,e3⟩:=rx
   obtain ⟨b,ws,e4,e5,e6⟩:=ry
   have hl:us.length+ws.length<1000000:=by
    rw [e3.length,e6.length]
    simp [few] at hf
    try simp only [List.length_cons]
    omega
   exact .inr (.inl ⟨a,b,us,ws,e1,e4,e2,e5,acI hl,fun p hp=>k _ _ (jV hp) ⟨p,_,rfl,jp,Reps.mono (jV hp) _ _ (e3.append e6)⟩⟩)
  ·cases h
 ·rename_i ys
  cases h
  obtain ⟨a,us,e1,e2,e3⟩:=rx
  cases (show us=[] from e3)
  obtain ⟨b,ws,e4,e5,e6⟩:=ry
  exact .inr (.inr (.inl ⟨a,b,ws,e1,e4,e2,e5,k _ H (jn.refl H) ⟨b,ws,rfl,e5,e6⟩⟩))
 ·rename_i z xs ys
  split at h
  ·rename_i hf
   cases h
   obtain ⟨a,us,e1,e2,e3⟩:=rx
   obtain ⟨b,ws,e4,e5,e6⟩:=ry
   have hl:us.length+ws.length<1000000:=by
    rw [e3.length,e6.length]
    simp [few] at hf
    try simp only [List.length_cons]
    omega
   refine .inr (.inr (.inr ⟨a,b,us,ws,e1,e4,e2,e5,fun z=>?_,acI hl,fun z=>?_,fun _ p hp=>?_⟩))
   ·have:=e3.length; rw [z] at this; simp at this
   ·subst z
    have:=e6.length
    have hy:ys=[]:=List.length_eq_zero_iff.mp (by simpa using this.symm)
    subst hy
    exact k _ H (jn.refl H) ⟨a,us,rfl,e2,by simpa using e3⟩
   ·exact k _ _ (jV hp) ⟨p,_,rfl,SqT.of jp,Reps.mono (jV hp) _ _ (e3.append e6)⟩
  ·cases h
 ·cases h
noncomputable def Z4:PyData->PyData->OP
 | .int i,.int j=>some (.int (i - j))
 | _,_=>none
theorem zg:OpD X (binaryOp .Sub) Z4:=by
 refine ⟨_,ao8,fun p q d x y H Q h rx ry k=>?_⟩
 unfold Z4 at h
 split at h
 ·cases h; cases (show x=_ from rx); cases (show y=_ from ry); exact ⟨_,_,rfl,rfl,k _ H (jn.refl H) rfl⟩
 ·cases h
theorem Reps.rep {K:Fg}{H:Hp}{ds:LP}{xs:List V} (h:Reps K H ds xs):∀ (n:Nat),Reps K H (List.replicate n ds).flatten (List.replicate n xs).flatten
 | 0=>rfl
 | n+1=>by rw [List.replicate_succ,List.replicate_succ,List.flatten_cons,List.flatten_cons]; exact h.append (Reps.rep h n)
noncomputable def Ze:PyData->PyData->OP
 | .int i,.int j=>if (-(2 ^ 64)<i/\i<2 ^ 64) ∨ (-(2 ^ 64)<j/\j<2 ^ 64) then some (.int (i*j)) else none
 | .list xs,.int k=>if k<1000/\xs.length<1000/\-1000<k then some (.list (List.replicate k.toNat xs).flatten) else none
 | _,_=>none
theorem qY:OpD X (binaryOp .Mult) Ze:=by
 refine ⟨_,ao9.or apl,fun p q d x y H Q h rx ry k=>?_⟩
 unfold Ze at h
 split at h
 ·split at h
  ·rename_i hc
   cases h; cases (show x=_ from rx); cases (show y=_ from ry); exact .inl ⟨_,_,rfl,rfl,hc,k _ H (jn.refl H) rfl⟩
  ·cases h
 ·rename_i xs n
  split at h
  ·rename_i hc
   cases h
   obtain ⟨a,us,e1,e2,e3⟩:=rx
   cases (show y=_ from ry)
   have hl:=e3.length
   have hs:us.length*n.toNat<=sizeLine:=by
    rw [sizeLine_eq]
    have h1:us.length<=1000:=by omega
    have h2:n.toNat<=1000:=by omega
    exact Nat.le_trans (Nat.mul_le_mul h1 h2) (by decide)
   exact .inr ⟨a,n,us,e1,rfl,e2,by omega,by omega,hs,fun p hp=>k _ _ (jV hp) ⟨p,_,rfl,jp,Reps.mono (jV hp) _ _ (Reps.rep e3 n.toNat)⟩⟩
  ·cases h
 ·cases h
noncomputable def acK:PyData->PyData->OP
 | .int i,.int j=>if 0<j/\j<1073741824 then some (.int (i / j)) else none
 | _,_=>none
theorem JS:OpD X (binaryOp .FloorDiv) acK:=by
 refine ⟨_,amW,fun p q d x y H Q h rx ry k=>?_⟩
 unfold acK at h
 split at h
 ·split at h
  ·rename_i hc
   cases h; cases (show x=_ from rx); cases (show y=_ from ry); exact ⟨_,_,rfl,rfl,hc,k _ H (jn.refl H) rfl⟩
  ·cases h
 ·cases h
noncomputable def ajo:PyData->PyData->OP
 | .int i,.int j=>if 0<j then some (.int (i % j)) else none
 | _,_=>none
theorem Qd:OpD X (binaryOp .Mod) ajo:=by
 refine ⟨_,apa,fun p q d x y H Q h rx ry k=>?_⟩
 unfold ajo at h
 split at h
 ·split at h
  ·rename_i hc
   cases h; cases (show x=_ from rx); cases (show y=_ from ry); exact ⟨_,_,rfl,rfl,hc,k _ H (jn.refl H) rfl⟩
  ·cases h
 ·cases h
noncomputable def okD (d:PyData):Bool:=d.canLay0 && decide (d.depth<30)
noncomputable def aqW (K:Fg) (neg:Bool):R2:=fun x y H Q=>∃ p q,Rep K H p x/\Rep K H q y/\okD p=true/\okD q=true/\Q (.bl (if neg then !PyData.eqv p q else PyData.eqv p q)) H
theorem qK {d:PyData} (h:okD d=true):d.canLay0=true:=by simp [okD] at h; exact h.1
theorem acd {d:PyData} (h:okD d=true):d.depth<30:=by simp [okD] at h; exact h.2
theorem apo (hu:X.A.units+64<cLine):OpR X (compareOp .Eq) (aqW X.K false):=by
 intro Kp s σ H x y v u Q I rx ry ⟨p,q,h1,h2,h3,h4,k⟩
 obtain ⟨as,ra⟩:=zc I p x v h1 rx (qK h3)
 obtain ⟨bs,rb⟩:=zc I q y u h2 ry (qK h4)
 have d1:=acd h3
 exact SeqAt.compareEq_reads ra rb (qK h3) (qK h4) (by omega) ⟨.bl _,H,I,rfl,k⟩
theorem app (hu:X.A.units+64<cLine):OpR X (compareOp .NotEq) (aqW X.K true):=by
 intro Kp s σ H x y v u Q I rx ry ⟨p,q,h1,h2,h3,h4,k⟩
 obtain ⟨as,ra⟩:=zc I p x v h1 rx (qK h3)
 obtain ⟨bs,rb⟩:=zc I q y u h2 ry (qK h4)
 have d1:=acd h3
 exact SeqAt.compareNe_reads ra rb (qK h3) (qK h4) (by omega) ⟨.bl _,H,I,rfl,k⟩
noncomputable def aqX (K:Fg):R2:=fun x y H Q=>∃ a b ns,x= .ref a/\y= .ref b/\SqL K H a (List.map V.int ns)/\H b=some (.lst [])/\Q (.bl ns.isEmpty) H
theorem Z7 (h:Heap):∀ (ns:List Int) (us:List Value),jP (List.map V.int ns) us->∃ as,ReadsAll h us (ns.map PyData.int) as
 | [],us,r=>by cases r; exact ⟨_,.nil⟩
 | n::ns,us,r=>by
  cases r with
  | cons r1 r2=>
   obtain ⟨t,rfl⟩:=r1
   obtain ⟨as,ra⟩:=Z7 h ns _ r2
   exact ⟨_,.cons (.int n t) ra⟩
theorem afW:∀ ns:List Int,PyData.canLayAll0 (ns.map PyData.int)=true
 | []=>rfl
 | n::ns=>by simp [PyData.canLayAll0,PyData.canLay0,afW ns]
theorem ani (hu:X.A.units+64<cLine):OpR X (compareOp .Eq) (aqX X.K):=by
 intro Kp s σ H x y v u Q I rx ry ⟨a,b,ns,e1,e2,h1,h2,k⟩
 subst e1; subst e2
 cases rx; cases ry
 obtain ⟨its,rv,⟨o,n,g1,g2,g3,g4⟩,_⟩:=I.list h1
 obtain ⟨as,ra⟩:=Z7 s.heap ns its rv
 obtain ⟨bs,rb⟩:=zc I (.list []) (.ref b) (.ref b) ⟨b,[],rfl,h2,rfl⟩ rfl rfl
 have ra':Reads s.heap (.ref a) (.list (ns.map PyData.int)) (a::as):= .list g1 g2 g4 (by simpa using ra)
 refine SeqAt.compareEq_reads ra' rb (by simpa [PyData.canLay0] using afW ns) rfl ?_ ⟨.bl _,H,I,rfl,?_⟩
 ·have:(PyData.list []).depth=1:=rfl
  rw [this]; omega
 ·have:PyData.eqv (.list (ns.map PyData.int)) (.list [])=ns.isEmpty:=by cases ns <;> simp [PyData.eqv,PyData.eqvAll]
  rw [this]; exact k
noncomputable def dEq:PyData->PyData->OP
 | .dict kvs,.list []=>if Je kvs=true then some (.bool kvs.isEmpty) else none
 | p,q=>if okD p=true/\okD q=true then some (.bool (PyData.eqv p q)) else none
theorem zx (hu:X.A.units+64<cLine):OpD X (compareOp .Eq) dEq:=by
 refine ⟨_,(ani hu).or (apo hu),fun p q d x y H Q h rx ry k=>?_⟩
 unfold dEq at h
 split at h
 ·split at h
  ·rename_i hs
   cases h
   obtain ⟨a,ns,e1,e2,e3⟩:=rx.scrOut hs
   obtain ⟨b,ws,e4,e5,e6⟩:=ry
   cases (show ws=[] from e6)
   refine .inl ⟨a,b,ns,e1,e4,e2,e5,?_⟩
   have:ns.isEmpty=(ns.map fun n=>(PyData.int n,PyData.none)).isEmpty:=by simp
   subst e3
   rw [this]
   exact k _ H (jn.refl H) rfl
  ·cases h
 ·split at h
  ·rename_i hc
   cases h
   exact .inr ⟨p,q,rx,ry,hc.1,hc.2,k _ H (jn.refl H) rfl⟩
  ·cases h
noncomputable def dNe:PyData->PyData->OP:=fun p q=>if okD p=true/\okD q=true then some (.bool (!PyData.eqv p q)) else none
theorem zW (hu:X.A.units+64<cLine):OpD X (compareOp .NotEq) dNe:=by
 refine ⟨_,app hu,fun p q d x y H Q h rx ry k=>?_⟩
 unfold dNe at h
 split at h
 ·rename_i hc
  cases h
  exact ⟨p,q,rx,ry,hc.1,hc.2,k _ H (jn.refl H) rfl⟩
 ·cases h
noncomputable def apq (K:Fg) (neg:Bool):R2:=fun x y H Q=>∃ p ds,Rep K H p x/\(Rep K H (.list ds) y ∨ Rep K H (.tuple ds) y)/\okD p=true/\okD (.list ds)=true/\Q (.bl (if neg then !(ds.any fun z=>PyData.eqv z p) else ds.any fun z=>PyData.eqv z p)) H
theorem apr (hu:X.A.units+64<cLine):OpR X (compareOp .In) (apq X.K false):=by
 intro Kp s σ H x y v u Q I rx ry ⟨p,ds,h1,h2,h3,h4,k⟩
 obtain ⟨as,ra⟩:=zc I p x v h1 rx (qK h3)
 have d1:=acd h3
 have hc:PyData.canLayAll0 ds=true:=by simpa [PyData.canLay0] using qK h4
 rcases h2 with h2 | h2
 ·obtain ⟨bs,rb⟩:=zc I (.list ds) y u h2 ry (qK h4)
  exact SeqAt.in_list_reads rb ra hc (qK h3) (by omega) ⟨.bl _,H,I,rfl,k⟩
 ·obtain ⟨bs,rb⟩:=zc I (.tuple ds) y u h2 ry (by simpa [PyData.canLay0] using hc)
  exact SeqAt.in_tuple_reads rb ra hc (qK h3) (by omega) ⟨.bl _,H,I,rfl,k⟩
theorem ajp (hu:X.A.units+64<cLine):OpR X (compareOp .NotIn) (apq X.K true):=by
 intro Kp s σ H x y v u Q I rx ry ⟨p,ds,h1,h2,h3,h4,k⟩
 obtain ⟨as,ra⟩:=zc I p x v h1 rx (qK h3)
 have d1:=acd h3
 have hc:PyData.canLayAll0 ds=true:=by simpa [PyData.canLay0] using qK h4
 rcases h2 with h2 | h2
 ·obtain ⟨bs,rb⟩:=zc I (.list ds) y u h2 ry (qK h4)
  exact SeqAt.notIn_list_reads rb ra hc (qK h3) (by omega) ⟨.bl _,H,I,rfl,k⟩
 ·obtain ⟨bs,rb⟩:=zc I (.tuple ds) y u h2 ry (by simpa [PyData.canLay0] using hc)
  exact SeqAt.notIn_tuple_reads rb ra hc (qK h3) (by omega) ⟨.bl _,H,I,rfl,k⟩
noncomputable def dIn (neg:Bool):PyData->PyData->OP:=fun p q=>match q with
 | .list ds=>if okD p=true/\okD (.list ds)=true then some (.bool (if neg then !(ds.any fun z=>PyData.eqv z p) else ds.any fun z=>PyData.eqv z p)) else none
 | .tuple ds=>if okD p=true/\okD (.list ds)=true then some (.bool (if neg then !(ds.any fun z=>PyData.eqv z p) else ds.any fun z=>PyData.eqv z p)) else none
 | _=>none
theorem aoD {neg:Bool}{p q d:PyData}{x y:V}{H:Hp}{Q:VK}{K:Fg} (h:dIn neg p q=some d) (rx:Rep K H p x) (ry:Rep K H q y) (k:∀ v H',jn H H'->Rep K H' d v->Q v H'):apq K neg x y H Q:=by
 unfold dIn at h
 split at h
 ·split at h
  ·rename_i ds hc
   cases h
   exact ⟨p,ds,rx,.inl ry,hc.1,hc.2,k _ H (jn.refl H) rfl⟩
  ·cases h
 ·split at h
  ·rename_i ds hc
   cases h
   exact ⟨p,ds,rx,.inr ry,hc.1,hc.2,k _ H (jn.refl H) rfl⟩
  ·cases h
 ·cases h
theorem aps (hu:X.A.units+64<cLine):OpD X (compareOp .In) (dIn false):=⟨_,apr hu,fun p q d x y H Q h rx ry k=>aoD h rx ry k⟩
theorem ajq (hu:X.A.units+64<cLine):OpD X (compareOp .NotIn) (dIn true):=⟨_,ajp hu,fun p q d x y H Q h rx ry k=>aoD h rx ry k⟩
noncomputable def Jd (f:Int->Int->Bool):PyData->PyData->OP
 | .int i,.int j=>some (.bool (f i j))
 | _,_=>none
theorem aeC {f:Int->Int->Bool}{p q d:PyData}{x y:V}{H:Hp}{Q:VK}{K:Fg} (h:Jd f p q=some d) (rx:Rep K H p x) (ry:Rep K H q y) (k:∀ v H',jn H H'->Rep K H' d v->Q v H'):rI0 (fun i j=> .bl (f i j)) x y H Q:=by
 unfold Jd at h
 split at h
 ·cases h; cases (show x=_ from rx); cases (show y=_ from ry); exact ⟨_,_,rfl,rfl,k _ H (jn.refl H) rfl⟩
 ·cases h
theorem acL:OpD X (compareOp .Lt) (Jd fun i j=>decide (i<j)):=⟨_,aqE,fun p q d x y H Q h rx ry k=>aeC h rx ry k⟩
theorem aeD:OpD X (compareOp .LtE) (Jd fun i j=>decide (i<=j)):=⟨_,aqF,fun p q d x y H Q h rx ry k=>aeC h rx ry k⟩
theorem ahr:OpD X (compareOp .Gt) (Jd fun i j=>decide (j<i)):=⟨_,aqG,fun p q d x y H Q h rx ry k=>aeC h rx ry k⟩
theorem akX:OpD X (compareOp .GtE) (Jd fun i j=>decide (j<=i)):=⟨_,aqH,fun p q d x y H Q h rx ry k=>aeC h rx ry k⟩
noncomputable def chn (g g':PyData->PyData->OP) (fa fb fc:RP):RP:=fun ρ=>(fa ρ).bind fun x=>(fb ρ).bind fun y=>(g x y).bind fun z=>(asB z).bind fun t=>if t=true then (fc ρ).bind fun w=>g' y w else some (.bool false)
variable {a b c e:Expr}{fa fb fc:RP}{pos:Pos}
theorem aoE {g g':PyData->PyData->OP}{K:Fg}{r r':R2} (hr:∀ p q d x y H Q,g p q=some d->Rep K H p x->Rep K H q y->(∀ v H',jn H H'->Rep K H' d v->Q v H')->r x y H Q)
  (hr':∀ p q d x y H Q,g' p q=some d->Rep K H p x->Rep K H q y->(∀ v H',jn H H'->Rep K H' d v->Q v H')->r' x y H Q) {σ:St} {H:Hp} {Q:VK} (h:tD K (chn g g' fa fb fc) σ H Q):ahf r r' (tD K fa) (tD K fb) (tD K fc) σ H Q:=by
 obtain ⟨ρ,d,en,h,k⟩:=h
 unfold chn at h
 cases ha:fa ρ with
 | none=>rw [ha] at h; cases h
 | some p=>
  cases hb:fb ρ with
  | none=>rw [ha,hb] at h; cases h
  | some q=>
   rw [ha,hb] at h
   cases hg:g p q with
   | none=>simp [hg] at h
   | some z=>
    cases ht:asB z with
    | none=>simp [hg,ht] at h
    | some t=>
     have hz:=JQ ht
     subst hz
     refine ⟨ρ,p,en,ha,fun x H1 s1 r1=>⟨ρ,q,en.mono s1,hb,fun y H2 s2 r2=>?_⟩⟩
     refine hr p q _ x y H2 _ hg (Rep.mono s2 p x r1) r2 fun v H3 s3 r3=>⟨t,r3,?_⟩
     have s13:=s1.trans (s2.trans s3)
     cases t with
     | false=>
      rw [if_neg Bool.false_ne_true]
      have hd:PyData.bool false=d:=by simpa [hg,asB] using h
      subst hd
      exact k _ H3 s13 rfl
     | true=>
      rw [if_pos rfl]
      cases hc:fc ρ with
      | none=>simp [hg,asB,hc] at h
      | some w=>
       refine ⟨ρ,w,en.mono s13,hc,fun z H4 s4 r4=>?_⟩
       exact hr' q w d y z H4 Q (by simpa [hg,asB,hc] using h) (Rep.mono (s3.trans s4) q y r2) r4 fun v H5 s5 r5=>k v H5 (s13.trans (s4.trans s5)) r5
theorem akY {op op':CmpOp}{g g':PyData->PyData->OP} (ho:OpD X (compareOp op) g) (ho':OpD X (compareOp op') g') (ha:PD X a fa) (hb:PD X b fb) (hc:PD X c fc)
  (hm:lastMarks [op,op'] [b,c]=false:=by with_unfolding_all rfl):PD X (.Compare a [op,op'] [b,c] pos) (chn g g' fa fb fc):=by
 with_unfolding_all
  obtain ⟨r,h1,h2⟩:=ho
  obtain ⟨r',h3,h4⟩:=ho'
  exact PE.imp (akH h1 h3 ha hb hc hm) fun σ H Q h=>aoE h2 h4 h
theorem ajr {op op':CmpOp}{g g':PyData->PyData->OP} (ho:OpD X (compareOp op) g) (ho':OpD X (compareOp op') g') (ha:PD X a fa) (hb:PD X b fb) (hc:PD X c fc)
  (hm:lastMarks [op,op'] [b,c]=false:=by with_unfolding_all rfl):PTD X (.Compare a [op,op'] [b,c] pos) (tst (chn g g' fa fb fc)):=by
 with_unfolding_all
  obtain ⟨r,h1,h2⟩:=ho
  obtain ⟨r',h3,h4⟩:=ho'
  refine PT.imp (akI h1 h3 ha hb hc hm) fun σ H Q ⟨ρ,t,en,h,k⟩=>?_
  cases hd:chn g g' fa fb fc ρ with
  | none=>simp [tst,hd] at h
  | some d=>
   have ht:d= .bool t:=JQ (by simpa [tst,hd] using h)
   subst ht
   exact aoE h2 h4 ⟨ρ,_,en,hd,fun v H' s r=>⟨t,r,k H' s⟩⟩
noncomputable def dIx:PyData->PyData->OP
 | .list ds,.int i=>if ds.length<1000000 then atI ds i else none
 | .tuple ds,.int i=>if ds.length<1000000 then atI ds i else none
 | .dict kvs,.int i=>if kvs.length<1000000/\Je kvs=true then (atI kvs i).map (·.1) else none
 | _,_=>none
theorem air {K:Fg}{H:Hp}{ds:LP}{xs:List V}{i:Int}{d:PyData} (r:Reps K H ds xs) (h:atI ds i=some d):∃ x,atI xs i=some x/\Rep K H d x:=by
 have hl:=r.length
 unfold atI at h ⊢
 rw [hl]
 cases e:ixN ds.length i with
 | none=>rw [e] at h; cases h
 | some j=>
  rw [e] at h
  obtain ⟨x,e1,e2⟩:=r.get (show ds[j]?=some d from h)
  exact ⟨x,e1,e2⟩
noncomputable def IxD (X:Cx) (g:PyData->PyData->OP):Prop:=∃ r,IxR X r/\∀ p q d x y H Q,g p q=some d->Rep X.K H p x->Rep X.K H q y->(∀ v H',jn H H'->Rep X.K H' d v->Q v H')->r x y H Q
theorem ixd:IxD X dIx:=by
 refine ⟨_,am4.or api,fun p q d x y H Q h rx ry k=>?_⟩
 unfold dIx at h
 split at h
 ·split at h
  ·obtain ⟨a,us,e1,e2,e3⟩:=rx
   cases (show y=_ from ry)
   obtain ⟨z,g1,g2⟩:=air e3 h
   exact .inl ⟨a,us,_,z,e1,rfl,SqL.of e2,g1,k z H (jn.refl H) g2⟩
  ·cases h
 ·split at h
  ·obtain ⟨a,us,e1,e2,e3⟩:=rx
   cases (show y=_ from ry)
   obtain ⟨z,g1,g2⟩:=air e3 h
   exact .inr ⟨a,us,_,z,e1,rfl,e2,g1,k z H (jn.refl H) g2⟩
  ·cases h
 ·split at h
  ·rename_i hs
   obtain ⟨a,ns,e1,e2,e3⟩:=rx.scrOut hs.2
   cases (show y=_ from ry)
   subst e3
   rename_i i
   unfold atI at h
   rw [List.length_map] at h
   cases e:ixN ns.length i with
   | none=>rw [e] at h; cases h
   | some j=>
    rw [e] at h
    have h':((ns.map fun n=>(PyData.int n,PyData.none))[j]?).map (·.1)=some d:=h
    rw [List.getElem?_map] at h'
    cases e4:ns[j]? with
    | none=>rw [e4] at h'; cases h'
    | some n=>
     rw [e4] at h'
     cases h'
     refine .inl ⟨a,List.map V.int ns,i,.int n,e1,rfl,e2,?_,k _ H (jn.refl H) rfl⟩
     unfold atI
     rw [List.length_map,e]
     show (List.map V.int ns)[j]?=_
     rw [List.getElem?_map,e4]; rfl
  ·cases h
 ·cases h
theorem jJ (ha:PD X a fa) (hb:PD X b fb) (hs:ain b:=by intro _ _; rfl):PD X (.Subscript a b pos) (op2 dIx fa fb):=by
 with_unfolding_all
  obtain ⟨r,h1,h2⟩:=ixd (X:=X)
  exact PE.imp (aqM h1 ha hb hs) fun σ H Q h=>ane h2 h
noncomputable def zl (ds:LP):OP:=match ds with
 | [.list xs]=>some (.int xs.length)
 | [.tuple xs]=>some (.int xs.length)
 | [.dict xs]=>if Je xs=true then some (.int xs.length) else none
 | _=>none
theorem qI:aay X (.builtin "len") zl:=by
 refine ⟨_,aey,fun ds d xs H Q h r k=>?_⟩
 unfold zl at h
 split at h
 ·cases h
  obtain ⟨x,q,e1,e2,e3⟩:=r
  cases (show q=[] from e3)
  obtain ⟨a,us,g1,g2,g3⟩:=e2
  subst g1
  exact ⟨a,us,e1,.inl (SqL.of g2),k _ H (jn.refl H) (by show _=_; rw [g3.length])⟩
 ·cases h
  obtain ⟨x,q,e1,e2,e3⟩:=r
  cases (show q=[] from e3)
  obtain ⟨a,us,g1,g2,g3⟩:=e2
  subst g1
  exact ⟨a,us,e1,.inr g2,k _ H (jn.refl H) (by show _=_; rw [g3.length])⟩
 ·split at h
  ·rename_i hs
   cases h
   obtain ⟨x,q,e1,e2,e3⟩:=r
   cases (show q=[] from e3)
   obtain ⟨a,ns,g1,g2,g3⟩:=e2.scrOut hs
   subst g1; subst g3
   exact ⟨a,_,e1,.inl g2,k _ H (jn.refl H) (by show _=_; simp)⟩
  ·cases h
 ·cases h
noncomputable def afX (ds:LP):OP:=match ds with
 | [.int i,.int j]=>some (.int (if j > i then j else i))
 | _=>none
noncomputable def afY (ds:LP):OP:=match ds with
 | [.int i,.int j]=>some (.int (if j<i then j else i))
 | _=>none
theorem ais (hc:X.calm=true):aay X (.builtin "max") afX:=by
 refine ⟨_,ajf hc,fun ds d xs H Q h r k=>?_⟩
 unfold afX at h
 split at h
 ·cases h
  obtain ⟨x,q,e1,e2,y,q',e3,e4,e5⟩:=r
  cases (show x=_ from e2); cases (show y=_ from e4); cases (show q'=[] from e5); subst e3
  exact ⟨_,_,e1,k _ H (jn.refl H) rfl⟩
 ·cases h
theorem ait (hc:X.calm=true):aay X (.builtin "min") afY:=by
 refine ⟨_,ajg hc,fun ds d xs H Q h r k=>?_⟩
 unfold afY at h
 split at h
 ·cases h
  obtain ⟨x,q,e1,e2,y,q',e3,e4,e5⟩:=r
  cases (show x=_ from e2); cases (show y=_ from e4); cases (show q'=[] from e5); subst e3
  exact ⟨_,_,e1,k _ H (jn.refl H) rfl⟩
 ·cases h
end
section
variable {X:Cx}{Kp:List (Addr × Obj)}{σ:St}{H:Hp}{s:Shared}
theorem ajs {prog:Program}{w:World}{A:Around}{E:Value->SP0}{l:Addr}{its:Array Value}{Q:Value->SP0} (hl:s.heap.IsList l its)
  (h:∀ (h2:Heap) (it:Addr),(h2.IsListIter it l 0/\h2.IsList l its)->(∀ b ∈ [it,l],b<h2.objs.size)->l ≠ it->(∀ b o,s.heap.get? b=some o->h2.get? b=some o)->s.heap.get? it=none->Q (.ref it) { s with heap:=h2 }):
  wpAny (model prog w) A (pyIter (.ref l)) Q E s:=by
 have hlt:l<s.heap.objs.size:=by
  obtain ⟨_,e,_⟩:=hl
  exact Heap.lt_size e
 refine wpAny_pyIter_list hl (h _ _ ⟨⟨_,Heap.get?_push_size _ rfl,rfl,rfl⟩,hl.push _⟩ (fun b hb=>?_) (Nat.ne_of_lt hlt) (fun b o e=>Heap.get?_push_of_some _ e) (Heap.get?_none_of_le (Nat.le_refl _)))
 rw [Heap.size_push]
 rcases List.mem_cons.mp hb with e | hb
 ·rw [e]; exact Nat.lt_succ_self _
 ·have e:b=l:=by simpa using hb
  rw [e]; exact Nat.lt_succ_of_lt hlt
theorem anj {h h2 h3 : Heap} {it : Addr} (k1 : ∀ b o, h.get? b = some o -> h2.get? b = some o) (hn : h.get? it = none) (k2 : ∀ b o, b ∉ [it] -> h2.get? b = some o -> h3.get? b = some o) : ∀ b o, h.get? b = some o -> h3.get? b = some o := fun b o e =>
  k2 b o (fun z => by have e1 : b = it := by simpa using z
                      rw [e1, hn] at e; cases e) (k1 b o e)
theorem aiu:∀ {bs:List Bool}{us:List Value},jP (bs.map V.bl) us->us=bs.map Value.bool
 | [],us,r=>by cases r; rfl
 | b::bs,us,r=>by
  cases r with
  | cons r1 r2=>cases (show _=_ from r1); rw [aiu r2]; rfl
theorem ajt (bs:List Bool):(List.range bs.length).all (fun i=>bs.getD i false)=bs.all id:=by
 have:bs=(List.range bs.length).map (fun i=>bs.getD i false):=by
  apply List.ext_getElem?
  intro i
  rw [List.getElem?_map]
  by_cases h:i<bs.length
  ·rw [List.getElem?_range h]; simp [List.getD,h]
  ·simp [h]
 conv=>rhs; rw [this]
 rw [List.all_map]; rfl
noncomputable def asi (K:Fg):List V->Hp->VK->Prop:=fun xs H Q=>∃ a bs,xs=[.ref a]/\SqL K H a (List.map V.bl bs)/\Q (.bl (bs.all id)) H
theorem aju (hc:X.calm=true):Q9 X (.builtin "all") (asi X.K):=by
 intro Kp s σ H xs us Q I r ⟨a,bs,e,hq,q⟩
 subst e
 obtain ⟨u,rfl,rx⟩:=afK r
 cases rx
 obtain ⟨its,rv,pl,hz⟩:=I.list hq
 have ei:=aiu rv
 have hh:=I.ok.hd hc
 refine call_all_walk (ajs pl.isList fun h2 it st hlt hne k1 hn=>?_)
 refine ⟨it,[it,a],[it],its.toArray.size,(fun i v=>its.toArray[i]?=some v),_,fun i=>bs.getD i false,rfl,Walks.list (A:=X.A.in1) hh it a hne its.toArray,st,?_,fun h3 tk k2=>?_⟩
 ·intro i v s' Q' E' hP hq'
  have:v= .bool (bs.getD i false):=by
   have hP':its[i]?=some v:=by simpa using hP
   rw [ei,List.getElem?_map] at hP'
   cases hb:bs[i]? with
   | none=>rw [hb] at hP'; cases hP'
   | some b=>rw [hb] at hP'; cases hP'; simp [List.getD,hb]
  subst this
  exact wpAny_truthy_bool hq'
 ·have I3:=I.kept (t':=tk) (anj k1 hn k2)
  have hl:its.toArray.size=bs.length:=by rw [ei]; simp
  refine ⟨.bl (bs.all id),H,I3,?_,q⟩
  show _=_
  rw [hl,ajt]
noncomputable def bls:LP->Option (List Bool)
 | []=>some []
 | d::r=>(asB d).bind fun b=>(bls r).map fun q=>b::q
theorem Reps.bls {K:Fg}{H:Hp}:∀ {ds:LP}{bs:List Bool}{xs:List V},BX.bls ds=some bs->Reps K H ds xs->xs=bs.map V.bl
 | [],bs,xs,h,r=>by simp [BX.bls] at h; subst h; exact r
 | d::ds,bs,xs,h,⟨x,q,e1,e2,e3⟩=>by
  subst e1
  cases h1:asB d with
  | none=>simp [BX.bls,h1] at h
  | some b=>
   cases h2:BX.bls ds with
   | none=>simp [BX.bls,h1,h2] at h
   | some r=>
    have:b::r=bs:=by simpa [BX.bls,h1,h2] using h
    subst this
    have hd:=JQ h1
    subst hd
    cases (show x=_ from e2)
    rw [Reps.bls h2 e3]; rfl
noncomputable def akZ (ds:LP):OP:=match ds with
 | [.list xs]=>(bls xs).map fun bs=> .bool (bs.all id)
 | _=>none
theorem ak0 (hc:X.calm=true):aay X (.builtin "all") akZ:=by
 refine ⟨_,aju hc,fun ds d xs H Q h r k=>?_⟩
 unfold akZ at h
 split at h
 ·rename_i ys
  cases hb:bls ys with
  | none=>simp [hb] at h
  | some bs=>
   have:PyData.bool (bs.all id)=d:=by simpa [hb] using h
   subst this
   obtain ⟨x,q,e1,e2,e3⟩:=r
   cases (show q=[] from e3)
   obtain ⟨a,us,g1,g2,g3⟩:=e2
   subst g1
   have:=Reps.bls hb g3
   subst this
   exact ⟨a,bs,e1,SqL.of g2,k _ H (jn.refl H) rfl⟩
 ·cases h
noncomputable def aaz:PyData->Option Int
 | .int i=>some i
 | _=>none
noncomputable def aqY:LP->Option (List Int)
 | []=>some []
 | d::r=>(aaz d).bind fun b=>(aqY r).map fun q=>b::q
end
section
variable {prog:Program}{w:World}{A:Around}{E:Value->SP0}{s:Shared}
theorem aai {it t:Addr}{i:Nat}{ys:Array Value}{x:Value}{Q:Value->SP0} (hit:s.heap.IsTupleIter it t i) (ht:s.heap.IsTuple t ys) (hx:ys[i]?=some x)
  (hQ:∀ h',h'.IsTupleIter it t (i+1)->Heap.SameBut it s.heap h'->Q x { s with heap:=h' }):wpAny (model prog w) A (Builtin.SmallTypes.nextOf (.ref it)) Q E s:=by
 obtain ⟨o,ho,hc,hd⟩:=id hit
 obtain ⟨ot,hot,_,nt,hdt⟩:=ht
 unfold Builtin.SmallTypes.nextOf
 refine wpAny_bind (wpAny_callSpecial?_slot (name:=Str.ofString "__next__") hit.typeIs F.slot_tuple_iterator_next
  (wpAny_call_entry F.slot_tuple_iterator_next hit.typeIs F.entry_tuple_iterator_next ?_
   (F.args_tuple_iterator_next_1 _)))
 refine wpAny_bind (m:=field (.ref it) 0) (wpAny_field ho hd (x:= .ref t) rfl ?_)
 have no:¬ ((Value.ref t == Value.none)=true):=Bool.false_ne_true
 show wpAny _ _ (if (Value.ref t == Value.none)=true then _ else
  _) _ _ s
 rw [if_neg no]
 refine wpAny_bind (m:=field (.ref it) 1) (wpAny_field ho hd (x:= .int i 0) rfl ?_)
 refine wpAny_bind (m:=seqItems? (.ref t)) (wpAny_seqItems hot hdt ?_)
 simp only [Int.toNat_natCast,hx]
 refine wpAny_bind (wpAny_setField ho hd (by simp) (wpAny_pure ⟨x,rfl,wpAny_pure (hQ _ ?_ (Heap.SameBut.update ..))⟩))
 refine ⟨_,Heap.get?_update_self _ ho (Obj.isFreed_of_fields (Obj.data_mapFields hd _)),(Obj.cls_mapFields ..).trans hc,?_⟩
 rw [Obj.data_mapFields hd]
 simp [rawInt]
theorem ajv {it t:Addr}{i:Nat}{ys:Array Value}{Q:Value->SP0} (hh:A.handled=none) (hit:s.heap.IsTupleIter it t i) (ht:s.heap.IsTuple t ys) (hx:ys[i]?=none)
  (hE:∀ h' e,Heap.ExtBut it s.heap h'->(∃ o,h'.get? e=some o/\o.cls= .type "StopIteration")->E (.ref e) { s with heap:=h' }):wpAny (model prog w) A (Builtin.SmallTypes.nextOf (.ref it)) Q E s:=by
 obtain ⟨o,ho,hc,hd⟩:=id hit
 obtain ⟨ot,hot,_,nt,hdt⟩:=ht
 unfold Builtin.SmallTypes.nextOf
 refine wpAny_bind (wpAny_callSpecial?_slot (name:=Str.ofString "__next__") hit.typeIs F.slot_tuple_iterator_next
  (wpAny_call_entry F.slot_tuple_iterator_next hit.typeIs F.entry_tuple_iterator_next ?_
   (F.args_tuple_iterator_next_1 _)))
 refine wpAny_bind (m:=field (.ref it) 0) (wpAny_field ho hd (x:= .ref t) rfl ?_)
 have no:¬ ((Value.ref t == Value.none)=true):=Bool.false_ne_true
 show wpAny _ _ (if (Value.ref t == Value.none)=true then _ else
  _) _ _ s
 rw [if_neg no]
 refine wpAny_bind (m:=field (.ref it) 1) (wpAny_field ho hd (x:= .int i 0) rfl ?_)
 refine wpAny_bind (m:=seqItems? (.ref t)) (wpAny_seqItems hot hdt ?_)
 simp only [Int.toNat_natCast,hx]
 refine wpAny_bind (wpAny_rule (wpAny_bind (wpAny_setField ho hd (by simp) ?_)))
 refine wpAny_bind (m:=newExc (.type "StopIteration") []) ?_
 simp only [newExc,newTuple]
 refine wpAny_bind (wpAny_newObj_type ?_ (by size_fits))
 refine wpAny_bind (m:=firstArgMember _ _) (wpAny_of_eq (a:=Value.none)
  (by first | rfl | (simp only [firstArgMember]; rfl)) ?_)
 refine wpAny_newObj_type ?_ (by size_fits)
 simp only [raiseNew]
 refine wpAny_bind (wpAny_handled ?_)
 rw [show A.in1.handled=none from hh]
 refine wpAny_bind (wpAny_pure (wpAny_throw ?_))
 exact hE _ _ (((Heap.SameBut.update ..).extBut.push _).push _) ⟨_,Heap.get?_push_size _ rfl,rfl⟩
noncomputable abbrev aaA (h:Heap) (T:Addr) (a b c:Value):Prop:=h.get? T=some { cls:= .type "tuple",data:= .seq #[a,b,c] }
theorem acM {T:Addr}{a b c x:Value}{k:Nat}{Q:Unit->SP0} (hT:aaA s.heap T a b c)
  (h:∀ h',h'.get? T=some { cls:= .type "tuple",data:= .seq ((#[a,b,c]:Array Value).setIfInBounds k x) }->Heap.SameBut T s.heap h'->Q () { s with heap:=h' }):
  wpAny (model prog w) A (updateSeq T (·.setIfInBounds k x)) Q E s:=by
 refine wpAny_updateSeq hT rfl (h _ ?_ (Heap.SameBut.update ..))
 rw [Heap.get?_update_self _ hT rfl]
 simp [Obj.mapSeq]
structure Apart3 (z TI TO i1 i2 i3 t1 t2 t3:Addr):Prop where
 nd:[z,TO,i1,i2,i3].Nodup
 ti:TI ∉ [z,TO,i1,i2,i3]
 s1:t1 ∉ [z,TO,i1,i2,i3]
 s2:t2 ∉ [z,TO,i1,i2,i3]
 s3:t3 ∉ [z,TO,i1,i2,i3]
structure Zip3 (h:Heap) (z TI TO i1 i2 i3 t1 t2 t3:Addr) (xs ys zs:Array Value) (f0:Value) (k:Nat):Prop where
 hz:IsZip h z TI TO f0
 hTI:aaA h TI (.ref i1) (.ref i2) (.ref i3)
 hTO:∃ a b c,aaA h TO a b c
 g1:h.IsTupleIter i1 t1 k
 g2:h.IsTupleIter i2 t2 k
 g3:h.IsTupleIter i3 t3 k
 a1:h.IsTuple t1 xs
 a2:h.IsTuple t2 ys
 a3:h.IsTuple t3 zs
noncomputable def But (l:List Addr) (h h':Heap):Prop:=∀ b o,b ∉ l->h.get? b=some o->h'.get? b=some o
theorem But.of {b:Addr}{l:List Addr}{h h':Heap} (x:Heap.ExtBut b h h') (hb:b ∈ l):But l h h':=fun c o hc e=>x c o (fun z=>hc (by rw [z]; exact hb)) e
theorem But.trans {l:List Addr}{h h1 h2:Heap} (a:But l h h1) (b:But l h1 h2):But l h h2:=fun c o hc e=>b c o hc (a c o hc e)
theorem ajw {z TI TO i1 i2 i3 t1 t2 t3:Addr}{xs ys zs:Array Value}{k:Nat}{x y v:Value}{Q:Value->SP0} (D:Apart3 z TI TO i1 i2 i3 t1 t2 t3) (S:Zip3 s.heap z TI TO i1 i2 i3 t1 t2 t3 xs ys zs .none k)
  (hx:xs[k]?=some x) (hy:ys[k]?=some y) (hv:zs[k]?=some v)
  (hQ:∀ h',Zip3 h' z TI TO i1 i2 i3 t1 t2 t3 xs ys zs (rawInt s.heap.objs.size) (k+1)->aaA h' s.heap.objs.size x y v->But [z,TO,i1,i2,i3] s.heap h'->Q (.ref s.heap.objs.size) { s with heap:=h' }):
  wpAny (model prog w) A (Builtin.«zip.__next__» ⟨[.ref z],[]⟩) (fun fin s'=>∃ v,fin= .done (.ret v)/\Q v s') E s:=by
 obtain ⟨hz,hTI,⟨a,b,c,hTO⟩,g1,g2,g3,a1,a2,a3⟩:=S
 obtain ⟨nd,ti,s1,s2,s3⟩:=D
 simp only [List.nodup_cons,List.mem_cons,List.not_mem_nil,or_false,not_or] at nd ti s1 s2 s3
 obtain ⟨⟨n1,n2,n3,n4⟩,⟨n5,n6,n7⟩,⟨n8,n9⟩,n10,_⟩:=nd
 obtain ⟨t1z,t1o,t11,t12,t13⟩:=s1
 obtain ⟨t2z,t2o,t21,t22,t23⟩:=s2
 obtain ⟨t3z,t3o,t31,t32,t33⟩:=s3
 obtain ⟨tiz,tio,ti1,ti2,ti3⟩:=ti
 refine wpAny_bind (m:=field (.ref z) 2) (wpAny_field hz rfl (x:= .bool false) rfl ?_)
 refine wpAny_bind (m:=field (.ref z) 3) (wpAny_field hz rfl (x:= .ref TI) rfl ?_)
 refine wpAny_bind (wpAny_seqItems hTI rfl ?_)
 refine wpAny_bind (m:=Builtin.SmallTypes.ownedTupleIsFree (.ref z)) ?_
 unfold Builtin.SmallTypes.ownedTupleIsFree
 refine wpAny_bind (wpAny_field hz rfl (x:= .none) rfl (wpAny_pure ?_))
 simp only [zzM]
 refine wpAny_bind (wpAny_rule ?_)
 refine wpAny_bind (wpAny_field hz rfl (x:= .ref TO) rfl ?_)
 refine wpAny_bind (wpAny_setField_rec hz (by simp) fun h1 hz1 b1=>?_)
 replace hz1:IsZip h1 z TI TO .ellipsis:=hz1
 refine wpAny_bind ?_
 simp only [List.zipIdx_cons,List.zipIdx_nil,List.forIn_cons,List.forIn_nil]
 refine wpAny_bind (wpAny_bind (wpAny_onRaise ?_))
 refine wpAny_bind (m:=Builtin.SmallTypes.nextOf (.ref i1)) ?_
 refine aai (g1.extBut b1.extBut (Ne.symm n2)) (a1.extBut b1.extBut t1z) hx fun h2 g1' b2=>wpAny_pure ?_
 have o2:aaA h2 TO a b c:=b2.extBut _ _ n5 (b1.extBut _ _ (Ne.symm n1) hTO)
 refine wpAny_bind (wpAny_seqItems o2 rfl ?_)
 refine wpAny_bind (acM o2 fun h3 o3 b3=>?_)
 replace o3:aaA h3 TO x b c:=o3
 refine wpAny_bind (wpAny_letGo (wpAny_pure ?_))
 refine wpAny_bind (wpAny_bind (wpAny_onRaise ?_))
 refine wpAny_bind (m:=Builtin.SmallTypes.nextOf (.ref i2)) ?_
 refine aai (((g2.extBut b1.extBut (Ne.symm n3)).extBut b2.extBut (Ne.symm n8)).extBut b3.extBut (Ne.symm n6)) (((a2.extBut b1.extBut t2z).extBut b2.extBut t21).extBut b3.extBut t2o) hy fun h4 g2' b4=>wpAny_pure ?_
 have o4:aaA h4 TO x b c:=b4.extBut _ _ n6 o3
 refine wpAny_bind (wpAny_seqItems o4 rfl ?_)
 refine wpAny_bind (acM o4 fun h5 o5 b5=>?_)
 replace o5:aaA h5 TO x y c:=o5
 refine wpAny_bind (wpAny_letGo (wpAny_pure ?_))
 refine wpAny_bind (wpAny_bind (wpAny_onRaise ?_))
 refine wpAny_bind (m:=Builtin.SmallTypes.nextOf (.ref i3)) ?_
 refine aai (((((g3.extBut b1.extBut (Ne.symm n4)).extBut b2.extBut (Ne.symm n9)).extBut b3.extBut (Ne.symm n7)).extBut b4.extBut (Ne.symm n10)).extBut b5.extBut (Ne.symm n7))
  (((((a3.extBut b1.extBut t3z).extBut b2.extBut t31).extBut b3.extBut t3o).extBut b4.extBut t32).extBut b5.extBut t3o) hv fun h6 g3' b6=>wpAny_pure ?_
 have o6:aaA h6 TO x y c:=b6.extBut _ _ n7 o5
 refine wpAny_bind (wpAny_seqItems o6 rfl ?_)
 refine wpAny_bind (acM o6 fun h7 o7 b7=>?_)
 replace o7:aaA h7 TO x y v:=o7
 refine wpAny_bind (wpAny_letGo (wpAny_pure (wpAny_pure ?_)))
 refine wpAny_bind (wpAny_seqItems o7 rfl ?_)
 refine wpAny_bind (wpAny_newTuple ?_)
 have sz:h7.objs.size=s.heap.objs.size:=by rw [b7.1,b6.1,b5.1,b4.1,b3.1,b2.1,b1.1]
 have B:But [z,TO,i1,i2,i3] s.heap h7:=
  ((((((But.of b1.extBut (by simp)).trans (But.of b2.extBut (by simp))).trans (But.of b3.extBut (by simp))).trans (But.of b4.extBut (by simp))).trans (But.of b5.extBut (by simp))).trans (But.of b6.extBut (by simp))).trans (But.of b7.extBut (by simp))
 have z7:IsZip h7 z TI TO .ellipsis:=b7.extBut _ _ n1 (b6.extBut _ _ n4 (b5.extBut _ _ n1 (b4.extBut _ _ n3 (b3.extBut _ _ n1 (b2.extBut _ _ n2 hz1)))))
 have i17:h7.IsTupleIter i1 t1 (k+1):=((((g1'.extBut b3.extBut (Ne.symm n5)).extBut b4.extBut n8).extBut b5.extBut (Ne.symm n5)).extBut b6.extBut n9).extBut b7.extBut (Ne.symm n5)
 have i27:h7.IsTupleIter i2 t2 (k+1):=((g2'.extBut b5.extBut (Ne.symm n6)).extBut b6.extBut n10).extBut b7.extBut (Ne.symm n6)
 have i37:h7.IsTupleIter i3 t3 (k+1):=g3'.extBut b7.extBut (Ne.symm n7)
 refine wpAny_bind (m:=Builtin.SmallTypes.ownedTupleHandOut (.ref z) (.ref h7.objs.size)) ?_
 unfold Builtin.SmallTypes.ownedTupleHandOut
 have z8:IsZip (h7.push { cls:= .type "tuple",data:= .seq #[x,y,v] }) z TI TO .ellipsis:=Heap.get?_push_of_some _ z7
 refine wpAny_bind (wpAny_setField_rec z8 (by simp) fun h9 z9 b9=>?_)
 replace z9:IsZip h9 z TI TO (rawInt h7.objs.size):=z9
 refine wpAny_setField_rec z9 (by simp) fun h10 z10 b10=>?_
 replace z10:IsZip h10 z TI TO (rawInt h7.objs.size):=z10
 have up:∀ c o,c ≠ z->h7.get? c=some o->h10.get? c=some o:=fun c o c1 e=>b10.extBut _ _ c1 (b9.extBut _ _ c1 (Heap.get?_push_of_some _ e))
 have zlt:z<h7.objs.size:=Heap.lt_size z7
 have T10:aaA h10 h7.objs.size x y v:=b10.extBut _ _ (Nat.ne_of_gt zlt) (b9.extBut _ _ (Nat.ne_of_gt zlt) (Heap.get?_push_size _ rfl))
 rw [sz] at z10 T10
 refine wpAny_pure ⟨_,rfl,?_⟩
 show Q (.ref h7.objs.size) _
 rw [sz]
 have itk:∀ {i t:Addr} {m:Nat},i ≠ z->h7.IsTupleIter i t m->h10.IsTupleIter i t m:=fun ne ⟨o,e,r⟩=>⟨o,up _ o ne e,r⟩
 have tuk:∀ {t:Addr} {us:Array Value},t ∉ [z,TO,i1,i2,i3]->s.heap.IsTuple t us->h10.IsTuple t us:=fun ne ⟨o,e,r⟩=>⟨o,up _ o (fun q=>ne (by simp [q])) (B _ o ne e),r⟩
 refine hQ h10 ⟨z10,up _ _ tiz (B _ _ (by simp [tiz,tio,ti1,ti2,ti3]) hTI),⟨x,y,v,up _ _ (Ne.symm n1) o7⟩,itk (Ne.symm n2) i17,itk (Ne.symm n3) i27,itk (Ne.symm n4) i37,
  tuk (by simp [t1z,t1o,t11,t12,t13]) a1,tuk (by simp [t2z,t2o,t21,t22,t23]) a2,tuk (by simp [t3z,t3o,t31,t32,t33]) a3⟩ T10 fun c o hc e=>up c o (fun q=>hc (by simp [q])) (B c o hc e)
theorem ak1 {z TI TO i1 i2 i3 t1 t2 t3:Addr}{xs ys zs:Array Value}{k:Nat}{Q:Fin->SP0} (hh:A.handled=none) (D:Apart3 z TI TO i1 i2 i3 t1 t2 t3) (S:Zip3 s.heap z TI TO i1 i2 i3 t1 t2 t3 xs ys zs .none k) (hx:xs[k]?=none)
  (hE:∀ h' e,But [z,TO,i1,i2,i3] s.heap h'->(∃ o,h'.get? e=some o/\o.cls= .type "StopIteration")->E (.ref e) { s with heap:=h' }):
  wpAny (model prog w) A (Builtin.«zip.__next__» ⟨[.ref z],[]⟩) Q E s:=by
 obtain ⟨hz,hTI,⟨a,b,c,hTO⟩,g1,g2,g3,a1,a2,a3⟩:=S
 obtain ⟨nd,ti,s1,s2,s3⟩:=D
 simp only [List.nodup_cons,List.mem_cons,List.not_mem_nil,or_false,not_or] at nd ti s1 s2 s3
 obtain ⟨⟨n1,n2,n3,n4⟩,⟨n5,n6,n7⟩,⟨n8,n9⟩,n10,_⟩:=nd
 refine wpAny_bind (m:=field (.ref z) 2) (wpAny_field hz rfl (x:= .bool false) rfl ?_)
 refine wpAny_bind (m:=field (.ref z) 3) (wpAny_field hz rfl (x:= .ref TI) rfl ?_)
 refine wpAny_bind (wpAny_seqItems hTI rfl ?_)
 refine wpAny_bind (m:=Builtin.SmallTypes.ownedTupleIsFree (.ref z)) ?_
 unfold Builtin.SmallTypes.ownedTupleIsFree
 refine wpAny_bind (wpAny_field hz rfl (x:= .none) rfl (wpAny_pure ?_))
 simp only [zzM]
 refine wpAny_bind (wpAny_rule ?_)
 refine wpAny_bind (wpAny_field hz rfl (x:= .ref TO) rfl ?_)
 refine wpAny_bind (wpAny_setField_rec hz (by simp) fun h1 hz1 b1=>?_)
 replace hz1:IsZip h1 z TI TO .ellipsis:=hz1
 refine wpAny_bind ?_
 simp only [List.zipIdx_cons,List.zipIdx_nil,List.forIn_cons,List.forIn_nil]
 refine wpAny_bind (wpAny_bind (wpAny_onRaise ?_))
 refine wpAny_bind (m:=Builtin.SmallTypes.nextOf (.ref i1)) ?_
 refine ajv hh (g1.extBut b1.extBut (Ne.symm n2)) (a1.extBut b1.extBut s1.1) hx fun h2 e b2 he=>?_
 obtain ⟨oe,ho,hc⟩:=he
 have z2:IsZip h2 z TI TO .ellipsis:=b2 _ _ n2 hz1
 have ez:e ≠ z:=fun q=>by subst q; rw [z2] at ho; cases ho; simp at hc
 refine wpAny_setField_rec z2 (by simp) fun h3 _ b3=>?_
 exact hE h3 e (((But.of b1.extBut (by simp)).trans (But.of b2 (by simp))).trans (But.of b3.extBut (by simp))) ⟨oe,b3.extBut _ _ ez ho,hc⟩
end
structure ZipC (h:Heap) (z TI TO i1 i2 i3 t1 t2 t3:Addr) (f0:Value) (k:Nat):Prop where
 hz:IsZip h z TI TO f0
 hTI:aaA h TI (.ref i1) (.ref i2) (.ref i3)
 hTO:∃ a b c,aaA h TO a b c
 g1:h.IsTupleIter i1 t1 k
 g2:h.IsTupleIter i2 t2 k
 g3:h.IsTupleIter i3 t3 k
theorem ZipC.all {h:Heap}{z TI TO i1 i2 i3 t1 t2 t3:Addr}{f0:Value}{k:Nat} (S:ZipC h z TI TO i1 i2 i3 t1 t2 t3 f0 k) {xs ys zs:Array Value} (a1:h.IsTuple t1 xs) (a2:h.IsTuple t2 ys) (a3:h.IsTuple t3 zs):
  Zip3 h z TI TO i1 i2 i3 t1 t2 t3 xs ys zs f0 k:=⟨S.hz,S.hTI,S.hTO,S.g1,S.g2,S.g3,a1,a2,a3⟩
theorem Zip3.c {h:Heap}{z TI TO i1 i2 i3 t1 t2 t3:Addr}{xs ys zs:Array Value}{f0:Value}{k:Nat} (S:Zip3 h z TI TO i1 i2 i3 t1 t2 t3 xs ys zs f0 k):ZipC h z TI TO i1 i2 i3 t1 t2 t3 f0 k:=⟨S.hz,S.hTI,S.hTO,S.g1,S.g2,S.g3⟩
theorem ZipC.keep {h h':Heap}{z TI TO i1 i2 i3 t1 t2 t3:Addr}{f0:Value}{k:Nat} (S:ZipC h z TI TO i1 i2 i3 t1 t2 t3 f0 k) (kp:∀ b ∈ [z,TI,TO,i1,i2,i3],∀ o,h.get? b=some o->h'.get? b=some o):
  ZipC h' z TI TO i1 i2 i3 t1 t2 t3 f0 k:=by
 obtain ⟨hz,hTI,⟨a,b,c,hTO⟩,⟨o1,e1,r1⟩,⟨o2,e2,r2⟩,⟨o3,e3,r3⟩⟩:=S
 exact ⟨kp z (by simp) _ hz,kp TI (by simp) _ hTI,⟨a,b,c,kp TO (by simp) _ hTO⟩,⟨o1,kp i1 (by simp) _ e1,r1⟩,⟨o2,kp i2 (by simp) _ e2,r2⟩,⟨o3,kp i3 (by simp) _ e3,r3⟩⟩
noncomputable def Itz (K:Fg) (t1 t2 t3:Addr):It:=
 ⟨fun i H=>∃ xs ys zs x y v,SqT K H t1 xs/\SqT K H t2 ys/\SqT K H t3 zs/\xs[i]?=some x/\ys[i]?=some y/\zs[i]?=some v,
  fun i H u H'=>∃ p x y v,u= .ref p/\H p=none/\H'=upd H p (.tup [x,y,v])/\∀ xs ys zs,SqT K H t1 xs->SqT K H t2 ys->SqT K H t3 zs->xs[i]?=some x/\ys[i]?=some y/\zs[i]?=some v,
  fun i H=>∃ xs ys zs,SqT K H t1 xs/\SqT K H t2 ys/\SqT K H t3 zs/\xs.length<=i⟩
theorem ak2 {P:Program}{w:World}{K:Fg}{elts:List Expr}{x1:Nat}{pos:Pos}{z TI TO i1 i2 i3 t1 t2 t3:Addr} (nd:[z,TO,i1,i2,i3].Nodup) (ti:TI ∉ [z,TO,i1,i2,i3]):
  Turn P w K (.Tuple elts x1 pos) (Itz K t1 t2 t3) [z,TI,TO,i1,i2,i3] z (fun i h=>ZipC h z TI TO i1 i2 i3 t1 t2 t3 .none i) where
 mem:=by simp
 obj:=fun i h st b hb=>by
  obtain ⟨hz,hTI,⟨a,b',c,hTO⟩,⟨o1,e1,_,d1⟩,⟨o2,e2,_,d2⟩,⟨o3,e3,_,d3⟩⟩:=st
  simp only [List.mem_cons,List.not_mem_nil,or_false] at hb
  rcases hb with rfl | rfl | rfl | rfl | rfl | rfl
  ·exact ⟨_,hz,fun v q=>by cases q⟩
  ·exact ⟨_,hTI,fun v q=>by cases q⟩
  ·exact ⟨_,hTO,fun v q=>by cases q⟩
  ·exact ⟨o1,e1,fun v q=>by rw [d1] at q; cases q⟩
  ·exact ⟨o2,e2,fun v q=>by rw [d2] at q; cases q⟩
  ·exact ⟨o3,e3,fun v q=>by rw [d3] at q; cases q⟩
 keep:=fun i h h' st k=>st.keep k
 item:=by
  intro X hP hw hK hc i Kp s σ H E I hf st hg
  subst hP hw hK
  obtain ⟨xs,ys,zs,x,y,v,q1,q2,q3,ex,ey,ev⟩:=hg
  obtain ⟨us1,r1,p1,z1⟩:=I.tuple q1
  obtain ⟨us2,r2,p2,z2⟩:=I.tuple q2
  obtain ⟨us3,r3,p3,z3⟩:=I.tuple q3
  obtain ⟨u1,m1,l1⟩:=r1.get ex
  obtain ⟨u2,m2,l2⟩:=r2.get ey
  obtain ⟨u3,m3,l3⟩:=r3.get ev
  have trk:∀ {t:Addr} {ws:List V},SqT X.K H t ws->t ∉ [z,TO,i1,i2,i3]:=fun {t ws} hq hb=>by
   have hb':t ∈ [z,TI,TO,i1,i2,i3]:=by
    simp only [List.mem_cons,List.not_mem_nil,or_false] at hb ⊢
    rcases hb with e | e | e | e | e <;> simp [e]
   rcases hq with (e | ⟨o,e⟩) | ⟨o,its,n,hk,hcl,hs,_,_⟩
   ·have:=(hf t hb').1; rw [e] at this; cases this
   ·have:=(hf t hb').1; rw [e] at this; cases this
   ·-- an object of the module is no iterator of ours
    obtain ⟨f0,f1,f2,f3,f4,f5⟩:=hf t hb'
    have hbase:=I.mod.kin t o hk
    rcases f3 with q | q
    ·exact I.ok.noex t o hbase q
    ·exact absurd (Nat.lt_of_lt_of_le (Heap.lt_size hbase) (Nat.le_trans I.ok.bsz q)) (Nat.lt_irrefl _)
  have D:Apart3 z TI TO i1 i2 i3 t1 t2 t3:=⟨nd,ti,trk q1,trk q2,trk q3⟩
  have S:=st.all (xs:=us1.toArray) (ys:=us2.toArray) (zs:=us3.toArray) p1 p2 p3
  have hT:s.TypeIs (.ref z) "zip":=⟨_,st.hz,rfl⟩
  unfold pyNext
  refine wpAny_bind (wpAny_attempt (wpAny_callSpecial?_slot (name:=Str.ofString "__next__") hT F.slot_zip_next
   (wpAny_call_entry F.slot_zip_next hT F.entry_zip_next (ajw D S (by simpa using m1) (by simpa using m2) (by simpa using m3) fun h1 S1 T1 B1=>wpAny_pure ?_)
    (F.args_zip_next_1 _))))
  refine ⟨_,rfl,?_⟩
  refine wpAny_letOwnedTupleGo_zip (s:={ s with heap:=h1 }) S1.hz fun h2 z2' b2=>?_
  have nT:H s.heap.objs.size=none:=I.hok.fresh (Nat.le_refl _)
  have zlt:z<s.heap.objs.size:=Heap.lt_size st.hz
  have T2:aaA h2 s.heap.objs.size u1 u2 u3:=b2.extBut _ _ (Nat.ne_of_gt zlt) T1
  have B2:But [z,TO,i1,i2,i3] s.heap h2:=B1.trans (But.of b2.extBut (by simp))
  have inF:∀ b ∈ [z,TO,i1,i2,i3],b ∈ [z,TI,TO,i1,i2,i3]:=fun b hb=>by
   simp only [List.mem_cons,List.not_mem_nil,or_false] at hb ⊢
   rcases hb with e | e | e | e | e <;> simp [e]
  have ntr:∀ b u,H b=some u->b ∉ [z,TO,i1,i2,i3]:=fun b u e hb=>by
   have:=(hf b (inF b hb)).1
   rw [e] at this; cases this
  have neT:∀ b u,H b=some u->b ≠ s.heap.objs.size:=fun b u e q=>by rw [q,nT] at e; cases e
  have hok2:HOk X.prog X.w (upd H s.heap.objs.size (.tup [x,y,v])) h2:=fun b u e=>by
   by_cases hb:b=s.heap.objs.size
   ·subst hb
    rw [jp] at e
    cases e
    exact ⟨by show 3<=sizeLine; rw [sizeLine_eq]; decide,[u1,u2,u3],.cons l1 (.cons l2 (.cons l3 .nil)),⟨_,T2,rfl,_,rfl⟩⟩
   ·rw [jt hb] at e
    refine (I.hok b u e).stay (fun c o hc' q=>B2 c o ?_ q) (fun c q=>by rw [jt (neT c _ q)]; exact q) fun c ws q=>by rw [jt (neT c _ q)]; exact q
    rcases hc' with q' | q'
    ·rw [q']; exact ntr b u e
    ·exact ntr c _ q'
  have I2:Inv X Kp σ (upd H s.heap.objs.size (.tup [x,y,v])) { s with heap:=h2,toks:=s.toks }:=by
   refine I.step (g':=s.gens) (d':=s.drawn) (ch:=[z,TO,i1,i2,i3]) (fun b hb=>?_) (fun b o _ _ hb e _=>B2 b o hb e) (fun b o _ _ hb e _=>⟨o.slots,B2 b o hb e⟩) (fun b o hb e n=>?_) (fun b o hb e=>⟨o,B2 b o hb e⟩)
    (fun b ws e=>by rw [jt (neT b _ e)]; exact e) (fun b ob ws e=>by rw [jt (neT b _ e)]; exact e) (fun b ps e=>⟨#[],by rw [jt (neT b _ e),e]; simp⟩) (fun m hm=>?_) hok2 I.bare
   ·obtain ⟨f0,f1,f2,f3,f4,f5⟩:=hf b (inF b hb)
    exact ⟨f3,f1,f4,f5⟩
   ·rw [jt (Nat.ne_of_lt (Heap.lt_size e))]; exact n
   ·obtain ⟨o,es,ep,ho,r⟩:=hm
    refine ⟨o,es,ep,B2 _ o (fun hb=>?_) ho,r⟩
    exact (hf _ (inF _ hb)).2.1 rfl
  refine ⟨.ref s.heap.objs.size,_,I2,rfl,⟨_,x,y,v,rfl,nT,rfl,fun as bs cs g1 g2 g3=>?_⟩,?_,fun b hb=>?_⟩
  ·rw [I.tuple_inj g1 q1,I.tuple_inj g2 q2,I.tuple_inj g3 q3]
   exact ⟨ex,ey,ev⟩
  ·have c1:=S1.c
   obtain ⟨_,hTI,⟨a,b,c,hTO⟩,⟨o1,e1,w1⟩,⟨o2,e2,w2⟩,⟨o3,e3,w3⟩⟩:=c1
   simp only [List.nodup_cons,List.mem_cons,List.not_mem_nil,or_false,not_or] at nd ti
   obtain ⟨⟨n1,n2,n3,n4⟩,_⟩:=nd
   exact ⟨z2',b2.extBut _ _ ti.1 hTI,⟨a,b,c,b2.extBut _ _ (Ne.symm n1) hTO⟩,⟨o1,b2.extBut _ _ (Ne.symm n2) e1,w1⟩,⟨o2,b2.extBut _ _ (Ne.symm n3) e2,w2⟩,⟨o3,b2.extBut _ _ (Ne.symm n4) e3,w3⟩⟩
  ·obtain ⟨o,ho,_⟩:∃ o,s.heap.get? b=some o/\True:=by
    obtain ⟨hz,hTI,⟨a,b',c,hTO⟩,⟨o1,e1,_⟩,⟨o2,e2,_⟩,⟨o3,e3,_⟩⟩:=st
    simp only [List.mem_cons,List.not_mem_nil,or_false] at hb
    rcases hb with rfl | rfl | rfl | rfl | rfl | rfl
    ·exact ⟨_,hz,trivial⟩
    ·exact ⟨_,hTI,trivial⟩
    ·exact ⟨_,hTO,trivial⟩
    ·exact ⟨_,e1,trivial⟩
    ·exact ⟨_,e2,trivial⟩
    ·exact ⟨_,e3,trivial⟩
   rw [jt (Nat.ne_of_lt (Heap.lt_size ho))]
   exact (hf b hb).1
 done:=by
  intro X hP hw hK hc i Kp s σ H E I hf st hg
  subst hP hw hK
  obtain ⟨xs,ys,zs,q1,q2,q3,hl⟩:=hg
  obtain ⟨us1,r1,p1,z1⟩:=I.tuple q1
  obtain ⟨us2,r2,p2,z2⟩:=I.tuple q2
  obtain ⟨us3,r3,p3,z3⟩:=I.tuple q3
  have trk:∀ {t:Addr} {ws:List V},SqT X.K H t ws->t ∉ [z,TO,i1,i2,i3]:=fun {t ws} hq hb=>by
   have hb':t ∈ [z,TI,TO,i1,i2,i3]:=by
    simp only [List.mem_cons,List.not_mem_nil,or_false] at hb ⊢
    rcases hb with e | e | e | e | e <;> simp [e]
   rcases hq with (e | ⟨o,e⟩) | ⟨o,its,n,hk,hcl,hs,_,_⟩
   ·have:=(hf t hb').1; rw [e] at this; cases this
   ·have:=(hf t hb').1; rw [e] at this; cases this
   ·obtain ⟨f0,f1,f2,f3,f4,f5⟩:=hf t hb'
    have hbase:=I.mod.kin t o hk
    rcases f3 with q | q
    ·exact I.ok.noex t o hbase q
    ·exact absurd (Nat.lt_of_lt_of_le (Heap.lt_size hbase) (Nat.le_trans I.ok.bsz q)) (Nat.lt_irrefl _)
  have D:Apart3 z TI TO i1 i2 i3 t1 t2 t3:=⟨nd,ti,trk q1,trk q2,trk q3⟩
  have S:=st.all (xs:=us1.toArray) (ys:=us2.toArray) (zs:=us3.toArray) p1 p2 p3
  have hT:s.TypeIs (.ref z) "zip":=⟨_,st.hz,rfl⟩
  have hlen:=r1.length
  unfold pyNext
  refine wpAny_bind (wpAny_attempt (wpAny_callSpecial?_slot (name:=Str.ofString "__next__") hT F.slot_zip_next
   (wpAny_call_entry F.slot_zip_next hT F.entry_zip_next (ak1 (I.ok.hd hc) D S (by simp; omega) fun h1 e B1 he=>?_)
    (F.args_zip_next_1 _))))
  obtain ⟨o,ho,hcl⟩:=he
  refine wpAny_bind (wpAny_isInstance (T:="StopIteration") (b:=true) ⟨o,ho,hcl⟩ isSubtype_stop ?_)
  refine wpAny_pure ⟨rfl,?_⟩
  have inF:∀ b ∈ [z,TO,i1,i2,i3],b ∈ [z,TI,TO,i1,i2,i3]:=fun b hb=>by
   simp only [List.mem_cons,List.not_mem_nil,or_false] at hb ⊢
   rcases hb with e | e | e | e | e <;> simp [e]
  have ntr:∀ b u,H b=some u->b ∉ [z,TO,i1,i2,i3]:=fun b u e hb=>by
   have:=(hf b (inF b hb)).1
   rw [e] at this; cases this
  refine I.step (t':=s.toks) (g':=s.gens) (d':=s.drawn) (ch:=[z,TO,i1,i2,i3]) (fun b hb=>?_) (fun b o _ _ hb e _=>B1 b o hb e) (fun b o _ _ hb e _=>⟨o.slots,B1 b o hb e⟩) (fun b o hb e n=>n) (fun b o hb e=>⟨o,B1 b o hb e⟩)
   (fun b ws e=>e) (fun b ob ws e=>e) (fun b ps e=>⟨#[],by rw [e]; simp⟩) (fun m hm=>?_) (fun b u e=>?_) I.bare
  ·obtain ⟨f0,f1,f2,f3,f4,f5⟩:=hf b (inF b hb)
   exact ⟨f3,f1,f4,f5⟩
  ·obtain ⟨o,es,ep,ho,r⟩:=hm
   refine ⟨o,es,ep,B1 _ o (fun hb=>?_) ho,r⟩
   exact (hf _ (inF _ hb)).2.1 rfl
  ·refine (I.hok b u e).stay (fun c o hc' q=>B1 c o ?_ q) (fun c q=>q) fun c ws q=>q
   rcases hc' with q' | q'
   ·rw [q']; exact ntr b u e
   ·exact ntr c _ q'
 self:=fun _ _ _ _ _ st h=>wpAny_pyIter_zip st.hz h
theorem adu (a b c:Value):checkTypeCall "zip" ⟨[a,b,c],[]⟩=pure ():=by kernel_rfl
theorem aeE (a b c:Value):checkBuiltinCall "zip.__new__" ⟨[.type "zip",a,b,c],[]⟩=pure ():=by kernel_rfl
theorem ahs (a b c d:Value):argsOk "object.__init__" ⟨[a,b,c,d],[]⟩:=by
 unfold argsOk
 rw [signature?_of (id:="object.__init__") (n:=['_','_','t','i','n','i','_','_'])
  (o:=['t','c','e','j','b','o']) (by kernel_rfl) F.owner_object]
 kernel_rfl
noncomputable abbrev apt (t:Addr):Obj:={ cls:= .type "tuple_iterator",data:= .fields #[.ref t,.int 0 0] }
noncomputable abbrev zh1 (h:Heap) (a:Addr):Heap:=h.push (apt a)
noncomputable abbrev zh2 (h:Heap) (a b:Addr):Heap:=(zh1 h a).push (apt b)
noncomputable abbrev zh3 (h:Heap) (a b c:Addr):Heap:=(zh2 h a b).push (apt c)
noncomputable abbrev zh4 (h:Heap) (a b c:Addr):Heap:=(zh3 h a b c).push { cls:= .type "tuple",data:= .seq #[.ref h.objs.size,.ref (zh1 h a).objs.size,.ref (zh2 h a b).objs.size] }
noncomputable abbrev zh5 (h:Heap) (a b c:Addr):Heap:=(zh4 h a b c).push { cls:= .type "tuple",data:= .seq #[.none,.none,.none] }
noncomputable abbrev zh6 (h:Heap) (a b c:Addr):Heap:=(zh5 h a b c).push { cls:= .type "zip",data:= .fields #[.none,.bool false,.bool false,.ref (zh3 h a b c).objs.size,.ref (zh4 h a b c).objs.size] }
theorem ak3 (a b c:Addr) (xs ys zs:Array Value):
  Meets (Builtin.«zip.__new__» ⟨[.type "zip",.ref a,.ref b,.ref c],[]⟩) (fun _ R s=>s.heap.IsTuple a xs/\s.heap.IsTuple b ys/\s.heap.IsTuple c zs/\
   R (.ok (.ret (.ref (zh5 s.heap a b c).objs.size))) { s with heap:=zh6 s.heap a b c }):=
 .of_wp fun prog w A R s h=>by
  obtain ⟨hp,g,d,tk,os⟩:=s
  obtain ⟨h1,h2,h3,h⟩:=h
  have hsub:=sub_zip
  have k1:Heap.IsTuple (Shared.heap ⟨hp,g,d,tk,os⟩) a xs:=h1
  have k2:Heap.IsTuple (Shared.heap ⟨zh1 hp a,g,d,tk,os⟩) b ys:=Heap.IsTuple.push h2 _
  have k3:Heap.IsTuple (Shared.heap ⟨zh2 hp a b,g,d,tk,os⟩) c zs:=Heap.IsTuple.push (Heap.IsTuple.push h3 _) _
  wp_walk using wpAny_pyIter_tuple k1,wpAny_pyIter_tuple k2,wpAny_pyIter_tuple k3
  exact ⟨_,rfl,h⟩
section
variable {X:Cx}
noncomputable def aqZ (K:Fg) (ta:TA):TI:=fun σ H R=>ta σ H fun vs H1=>∃ a b c xs ys zs,vs=[.ref a,.ref b,.ref c]/\SqT K H1 a xs/\SqT K H1 b ys/\SqT K H1 c zs/\R (Itz K a b c) H1
theorem ank {ea eb ec:Expr}{elts:List Expr}{x1:Nat}{tp:Pos}{ta:TA}{p pos:Pos} (hg:Gl X "zip") (hm:X.mg "zip"=none) (ha:PA X [ea,eb,ec] ta)
  (hs:starEach [ea,eb,ec] X.env=[(false,eval ea X.env),(false,eval eb X.env),(false,eval ec X.env)]:=by rfl) (hs2:starEach [eb,ec] X.env=[(false,eval eb X.env),(false,eval ec X.env)]:=by rfl):
  PI X (.Tuple elts x1 tp) (.Call (.Name "zip" p) [ea,eb,ec] [] pos) (aqZ X.K ta):=by
 intro Kp s σ H R I h
 refine Call_ (Q8 I hg hm boot_zip (PyProof.Rows.callWith_type1 (thn (ha pos Kp s σ H _ I h) fun us s1 ⟨vs,H1,I1,r1,q1⟩=>?_) (by rw [hs,hs2]) (by rw [hs2]; rfl)))
 obtain ⟨a,b,c,xs,ys,zs,e,q1,q2,q3,q⟩:=q1
 subst e
 cases r1 with
 | cons r1 rr=>
  cases rr with
  | cons r2 rr=>
   cases rr with
   | cons r3 rr=>
    cases rr
    cases r1; cases r2; cases r3
    obtain ⟨us1,v1,p1,z1⟩:=I1.tuple q1
    obtain ⟨us2,v2,p2,z2⟩:=I1.tuple q2
    obtain ⟨us3,v3,p3,z3⟩:=I1.tuple q3
    refine callType_new F.called_zip (by decide) (adu _ _ _) (aeE _ _ _) (fun obj=>ahs obj _ _ _) F.entry_zip_new
     (ak3 a b c us1.toArray us2.toArray us3.toArray) ⟨p1,p2,p3,?_⟩
    have n1:(zh1 s1.heap a).objs.size=s1.heap.objs.size+1:=Heap.size_push ..
    have n2:(zh2 s1.heap a b).objs.size=s1.heap.objs.size+2:=by rw [Heap.size_push,n1]
    have n3:(zh3 s1.heap a b c).objs.size=s1.heap.objs.size+3:=by rw [Heap.size_push,n2]
    have n4:(zh4 s1.heap a b c).objs.size=s1.heap.objs.size+4:=by rw [Heap.size_push,n3]
    have n5:(zh5 s1.heap a b c).objs.size=s1.heap.objs.size+5:=by rw [Heap.size_push,n4]
    have g6:(zh6 s1.heap a b c).get? (zh5 s1.heap a b c).objs.size=some _:=Heap.get?_push_size _ rfl
    have g5:(zh6 s1.heap a b c).get? (zh4 s1.heap a b c).objs.size=some _:=Heap.get?_push_of_some _ (Heap.get?_push_size _ rfl)
    have g4:(zh6 s1.heap a b c).get? (zh3 s1.heap a b c).objs.size=some _:=Heap.get?_push_of_some _ (Heap.get?_push_of_some _ (Heap.get?_push_size _ rfl))
    have up3:∀ x o,(zh3 s1.heap a b c).get? x=some o->(zh6 s1.heap a b c).get? x=some o:=fun x o e=>Heap.get?_push_of_some _ (Heap.get?_push_of_some _ (Heap.get?_push_of_some _ e))
    have g3:(zh6 s1.heap a b c).get? (zh2 s1.heap a b).objs.size=some _:=up3 _ _ (Heap.get?_push_size _ rfl)
    have g2:(zh6 s1.heap a b c).get? (zh1 s1.heap a).objs.size=some _:=up3 _ _ (Heap.get?_push_of_some _ (Heap.get?_push_size _ rfl))
    have g1:(zh6 s1.heap a b c).get? s1.heap.objs.size=some _:=up3 _ _ (Heap.get?_push_of_some _ (Heap.get?_push_of_some _ (Heap.get?_push_size _ rfl)))
    have kp:∀ x o,s1.heap.get? x=some o->(zh6 s1.heap a b c).get? x=some o:=fun x o e=>up3 _ _ (Heap.get?_push_of_some _ (Heap.get?_push_of_some _ (Heap.get?_push_of_some _ e)))
    show _/\_
    refine ⟨⟨_,g6,rfl⟩,?_⟩
    refine wpAny_pyIter_zip g6 ?_
    have I2:Inv X Kp σ H1 { s1 with heap:=zh6 s1.heap a b c }:=I1.kept (t':=s1.toks) kp
    refine ⟨_,[(zh5 s1.heap a b c).objs.size,(zh3 s1.heap a b c).objs.size,(zh4 s1.heap a b c).objs.size,s1.heap.objs.size,(zh1 s1.heap a).objs.size,(zh2 s1.heap a b).objs.size],
     _,_,H1,rfl,I2,ak2 (z:=(zh5 s1.heap a b c).objs.size) (TI:=(zh3 s1.heap a b c).objs.size) (TO:=(zh4 s1.heap a b c).objs.size) (i1:=s1.heap.objs.size) (i2:=(zh1 s1.heap a).objs.size) (i3:=(zh2 s1.heap a b).objs.size) (t1:=a) (t2:=b) (t3:=c) ?_ ?_,
     ⟨g6,g4,⟨_,_,_,g5⟩,⟨_,g1,rfl,rfl⟩,⟨_,g2,rfl,rfl⟩,⟨_,g3,rfl,rfl⟩⟩,fun x hx=>?_,q⟩
    ·rw [n5,n4,n1,n2]
     simp [List.nodup_cons]
    ·rw [n3,n5,n4,n1,n2]
     simp
    ·have hle:s1.heap.objs.size<=x:=by
      rw [n5,n3,n4,n1,n2] at hx
      simp only [List.mem_cons,List.not_mem_nil,or_false] at hx
      rcases hx with e | e | e | e | e | e <;> rw [e] <;> first | exact Nat.le_refl _ | exact Nat.le_add_right _ _
     exact I1.fpOk hle (I1.hok.fresh hle)
noncomputable def Zf:LP->LP->LP->LP
 | x::xs,y::ys,z::zs=> .tuple [x,y,z]::Zf xs ys zs
 | _,_,_=>[]
noncomputable def aiv (ds:LP):Option (LP):=match ds with
 | [.tuple xs,.tuple ys,.tuple zs]=>if xs.length=ys.length/\ys.length=zs.length then some (Zf xs ys zs) else none
 | _=>none
theorem adP:∀ (xs ys zs:LP),xs.length=ys.length->ys.length=zs.length->(Zf xs ys zs).length=xs.length
 | [],_,_,_,_=>by simp [Zf]
 | x::xs,[],_,h,_=>by simp at h
 | x::xs,y::ys,[],_,h=>by simp at h
 | x::xs,y::ys,z::zs,h,g=>by simp [Zf,adP xs ys zs (by simpa using h) (by simpa using g)]
theorem adQ:∀ (xs ys zs:LP) (i:Nat) (d:PyData),(Zf xs ys zs)[i]?=some d->∃ x y z,xs[i]?=some x/\ys[i]?=some y/\zs[i]?=some z/\d= .tuple [x,y,z]
 | [],_,_,i,d,h=>by simp [Zf] at h
 | x::xs,[],_,i,d,h=>by simp [Zf] at h
 | x::xs,y::ys,[],i,d,h=>by simp [Zf] at h
 | x::xs,y::ys,z::zs,0,d,h=>by simp [Zf] at h; exact ⟨x,y,z,rfl,rfl,rfl,h.symm⟩
 | x::xs,y::ys,z::zs,i+1,d,h=>by
  obtain ⟨a,b,c,e1,e2,e3,e4⟩:=adQ xs ys zs i d (by simpa [Zf] using h)
  exact ⟨a,b,c,by simpa using e1,by simpa using e2,by simpa using e3,e4⟩
theorem ak4 {ea eb ec:Expr}{elts:List Expr}{x1:Nat}{tp:Pos}{p pos:Pos}{fr:Rho->Option (LP)} (hm:X.mg "zip"=none) (ha:PAD X [ea,eb,ec] fr) (hg:Gl X "zip":=by rfl)
  (hs:starEach [ea,eb,ec] X.env=[(false,eval ea X.env),(false,eval eb X.env),(false,eval ec X.env)]:=by rfl) (hs2:starEach [eb,ec] X.env=[(false,eval eb X.env),(false,eval ec X.env)]:=by rfl):
  PID X (.Tuple elts x1 tp) (.Call (.Name "zip" p) [ea,eb,ec] [] pos) (fun ρ=>(fr ρ).bind aiv):=by
 with_unfolding_all
  refine PI.imp (ank hg hm ha hs hs2) fun σ H R ⟨ρ,ds,en,q,k⟩=>?_
  cases h1:fr ρ with
  | none=>simp [h1] at q
  | some as=>
   have q':aiv as=some ds:=by simpa [h1] using q
   refine ⟨ρ,as,en,h1,fun vs H1 s1 r1=>?_⟩
   unfold aiv at q'
   split at q'
   ·rename_i xs ys zs
    split at q'
    ·rename_i hl
     cases q'
     obtain ⟨v1,w1,e1,⟨a,us1,ea',qa,ra⟩,v2,w2,e2,⟨b,us2,eb',qb,rb⟩,v3,w3,e3,⟨c,us3,ec',qc,rc⟩,e4⟩:=r1
     cases (show w3=[] from e4)
     subst ea'; subst eb'; subst ec'; subst e3; subst e2
     have l1:=ra.length
     have l2:=rb.length
     have l3:=rc.length
     have lz:=adP xs ys zs hl.1 hl.2
     refine ⟨a,b,c,us1,us2,us3,e1,qa,qb,qc,k _ H1 s1 fun i H2 s2=>⟨fun hi=>?_,fun hi=>?_,fun u H3 y=>?_⟩⟩
     ·rw [lz] at hi
      exact ⟨us1,us2,us3,us1[i]'(by omega),us2[i]'(by omega),us3[i]'(by omega),jE.tup s2 qa,jE.tup s2 qb,jE.tup s2 qc,by simp <;> omega,by simp <;> omega,by simp <;> omega⟩
     ·rw [lz] at hi
      exact ⟨us1,us2,us3,jE.tup s2 qa,jE.tup s2 qb,jE.tup s2 qc,by omega⟩
     ·obtain ⟨pp,x,y,v,e5,e6,e7,e8⟩:=y
      subst e5; subst e7
      refine ⟨jV e6,fun d hd=>?_⟩
      obtain ⟨dx,dy,dz,g1,g2,g3,g4⟩:=adQ xs ys zs i d hd
      subst g4
      obtain ⟨f1,f2,f3⟩:=e8 us1 us2 us3 (jE.tup s2 qa) (jE.tup s2 qb) (jE.tup s2 qc)
      have m:=s2.trans (jn.a (jV (o:= .tup [x,y,v]) e6))
      obtain ⟨x',a1,a2⟩:=(Reps.monoA m _ _ ra).get g1
      obtain ⟨y',b1,b2⟩:=(Reps.monoA m _ _ rb).get g2
      obtain ⟨z',c1,c2⟩:=(Reps.monoA m _ _ rc).get g3
      rw [f1] at a1; cases a1
      rw [f2] at b1; cases b1
      rw [f3] at c1; cases c1
      exact ⟨pp,[x,y,v],rfl,SqT.of jp,x,_,rfl,a2,y,_,rfl,b2,v,_,rfl,c2,rfl⟩
    ·cases q'
   ·cases q'
noncomputable def tyn:PyData->String
 | .none=>"NoneType"
 | .bool _=>"bool"
 | .int _=>"int"
 | .str _=>"str"
 | .tuple _=>"tuple"
 | .list _=>"list"
 | .dict kvs=>if Je kvs then "list" else "dict"
noncomputable def isFn:PyData->Bool
 | .dict [(.str _,_)]=>true
 | .dict [(.bool _,_)]=>true
 | _=>false
noncomputable def aaB (T:String) (d:PyData):OP:=if isFn d=true then none else some (.bool (tyn d == T || (T == "int" && tyn d == "bool")))
theorem ak5 {Kp:List (Addr × Obj)}{σ:St}{H:Hp}{s:Shared}{E:Value->SP0}{Q:Value->SP0}{d:PyData}{v:V}{u c:Value}{b:Bool} (I:Inv X Kp σ H s) (r:Rep X.K H d v) (hF:isFn d=false) (rv:j8 v u)
  (e:PySem.W.kitOne X.K (.type (tyn d)) c=some b) (h:∀ tk,Q (.bool b) { s with toks:=tk }):wpAny (model X.prog X.w) X.A (call (.builtin "isinstance") [u,c]) Q E s:=by
 cases d with
 | none=>cases r; cases rv; exact PySem.W.kia_one PySem.W.kitx_none I.kIn True.intro e (fun z=>nomatch z) h
 | bool y=>cases r; cases rv; exact PySem.W.kia_one PySem.W.kitx_bool I.kIn True.intro e (fun z=>nomatch z) h
 | int i=>cases r; obtain ⟨t,rfl⟩:=rv; exact PySem.W.kia_one PySem.W.kitx_int I.kIn True.intro e (fun z=>nomatch z) h
 | str y=>cases r; obtain ⟨t,rfl⟩:=rv; exact PySem.W.kia_one PySem.W.kitx_str I.kIn True.intro e (fun z=>nomatch z) h
 | tuple ds=>
  obtain ⟨a,xs,e1,e2,e3⟩:=r
  subst e1; cases rv
  obtain ⟨its,_,⟨o,h1,h2,_⟩,_⟩:=I.tuple e2
  exact PySem.W.kia_one PySem.W.kitx_tuple I.kIn ⟨o,h1,h2⟩ e (fun z=>nomatch z) h
 | list ds=>
  obtain ⟨a,xs,e1,e2,e3⟩:=r
  subst e1; cases rv
  obtain ⟨its,_,⟨o,n,h1,h2,_⟩,_⟩:=I.list (SqL.of e2)
  exact PySem.W.kia_one PySem.W.kitx_list I.kIn ⟨o,h1,h2⟩ e (fun z=>nomatch z) h
 | dict ds=>
  obtain ⟨a,e1,⟨ns,e2,e3⟩ | ⟨ks,ob,e2,e3⟩ | ⟨x,e2,_⟩ | ⟨x,_,_,e2,_⟩ | e2⟩:=r
  ·subst e1; cases rv
   subst e3
   have e:PySem.W.kitOne X.K (.type "list") c=some b:=by simpa [tyn,abj] using e
   obtain ⟨its,_,⟨o,n,h1,h2,_⟩,_⟩:=I.list e2
   exact PySem.W.kia_one PySem.W.kitx_list I.kIn ⟨o,h1,h2⟩ e (fun z=>nomatch z) h
  ·subst e1; cases rv
   obtain ⟨cc,rr,rfl,e4⟩:=e3.out
   have e:PySem.W.kitOne X.K (.type "dict") c=some b:=by simpa [tyn,Je] using e
   obtain ⟨_,_,vs,_,dd⟩:=aqR I.hok (.inr ⟨ob,e2⟩)
   obtain ⟨o,es,ep,h1,h2,_⟩:=dd
   exact PySem.W.kia_one PySem.W.kitx_dict I.kIn ⟨o,h1,h2.1⟩ e (fun z=>nomatch z) h
  ·subst e2; simp [isFn] at hF
  ·subst e2; simp [isFn] at hF
  ·subst e2; simp [isFn] at hF
noncomputable def asj (K:Fg) (T:String):List V->Hp->VK->Prop:=fun xs H Q=>∃ x d b,xs=[x,.ty T]/\Rep K H d x/\isFn d=false/\PySem.W.kitOne K (.type (tyn d)) (.type T)=some b/\Q (.bl b) H
theorem ak6 {T:String}:Q9 X (.builtin "isinstance") (asj X.K T):=by
 intro Kp s σ H xs us Q I r ⟨x,d,b,e,h1,hF,h2,q⟩
 subst e
 obtain ⟨u,w',rfl,r1,r2⟩:=afL r
 cases (show w'=_ from r2)
 exact ak5 I h1 hF r1 h2 fun tk=>⟨.bl b,H,I.tok tk,rfl,q⟩
noncomputable def Qt (T:String) (d:PyData):Bool:=tyn d == T || (T == "int" && tyn d == "bool")
@[simp] theorem aqq (T:String):aaB T .none=some (.bool (Qt T .none)):=rfl
@[simp] theorem aqr (T:String) (b:Bool):aaB T (.bool b)=some (.bool (Qt T (.bool b))):=rfl
@[simp] theorem aq0 (T:String) (i:Int):aaB T (.int i)=some (.bool (Qt T (.int i))):=rfl
@[simp] theorem aq1 (T:String) (x:Str):aaB T (.str x)=some (.bool (Qt T (.str x))):=rfl
@[simp] theorem apu (T:String) (ds:LP):aaB T (.tuple ds)=some (.bool (Qt T (.tuple ds))):=rfl
@[simp] theorem aqs (T:String) (ds:LP):aaB T (.list ds)=some (.bool (Qt T (.list ds))):=rfl
theorem ak7 {T:String}{d e:PyData} (h:aaB T d=some e):isFn d=false/\e= .bool (Qt T d):=by
 unfold aaB at h
 split at h
 ·cases h
 ·rename_i hf; cases h; exact ⟨by simpa using hf,rfl⟩
theorem anl {K:Fg}{T:String} (hT:T="bool" ∨ T="int" ∨ T="tuple") (d:PyData):PySem.W.kitOne K (.type (tyn d)) (.type T)=some (Qt T d):=by
 rcases hT with rfl | rfl | rfl <;> cases d <;> first | rfl | (rename_i kvs; by_cases h:Je kvs=true <;> simp only [tyn,Qt,h] <;> rfl)
theorem abn {a:Expr}{fa:RP}{T:Str}{Tn:String}{p p2 pos:Pos} (hT:Tn="bool" ∨ Tn="int" ∨ Tn="tuple") (hm1:X.mg "isinstance"=none) (hm2:X.mg T=none) (hv:bootBuiltins T=some (.type Tn)) (ha:PD X a fa)
  (hg1:Gl X "isinstance":=by rfl) (hg2:Gl X T:=by rfl) (hn:T ≠ "__name__":=by decide) (hd:(T == ("__debug__":Str))=false:=by decide)
  (he:starEach [a,.Name T p2] X.env=[(false,eval a X.env),(false,eval (.Name T p2) X.env)]:=by rfl) (he2:starEach [.Name T p2] X.env=[(false,eval (.Name T p2) X.env)]:=by rfl) (hpl:(backTo pos (starEach [.Name T p2] X.env)).any (·.1)=false:=by rfl):
  PD X (.Call (.Name "isinstance" p) [a,.Name T p2] [] pos) (fun ρ=>(fa ρ).bind fun d=>aaB Tn d):=by
 with_unfolding_all
  have hT2:PE X (.Name T p2) (tC (.ty Tn)):=aie hg2 hm2 hv rfl hn hd
  refine PE.imp (Za (ak6 (T:=Tn)) hg1 hm1 (by decide +kernel) (qv ha (qv hT2 zw (by rw [he2]; rfl)) (by rw [he,he2])) (by decide) (by decide) (by rw [he,he2]) hpl) fun σ H Q ⟨ρ,d,en,q,k⟩=>?_
  cases h1:fa ρ with
  | none=>simp [h1] at q
  | some c=>
   obtain ⟨hF,rfl⟩:=ak7 (show aaB Tn c=some d by simpa [h1] using q)
   exact ⟨ρ,c,en,h1,fun v H1 s1 r1=>⟨v,c,_,rfl,r1,hF,anl hT c,k _ H1 s1 rfl⟩⟩
end
noncomputable def JC (H H':Hp):Prop:=∀ b o,H b=some o->(∀ xs,o ≠ .lst xs)->H' b=some o
theorem jn.n {H H':Hp} (e:jn H H'):JC H H':=fun b o h _=>e b o h
theorem JC.trans {H H1 H2:Hp} (a:JC H H1) (b:JC H1 H2):JC H H2:=fun c o h n=>b c o (a c o h n) n
theorem JC.upd {H:Hp}{p:Addr}{xs ys:List V} (hp:H p=some (.lst xs)):JC H (upd H p (.lst ys)):=fun b o h n=>by
 have:b ≠ p:=fun e=>by subst e; rw [hp] at h; cases h; exact n _ rfl
 rw [jt this]; exact h
mutual
noncomputable def noL:PyData->Bool
 | .none=>true
 | .bool _=>true
 | .int _=>true
 | .str _=>true
 | .tuple ds=>noLs ds
 | .list _=>false
 | .dict _=>false
noncomputable def noLs:LP->Bool
 | []=>true
 | d::ds=>noL d && noLs ds
end
section
variable {K:Fg}{H H':Hp}
theorem JC.tup {a:Addr}{xs:List V} (e:JC H H') (h:SqT K H a xs):SqT K H' a xs:=by
 rcases h with (h | ⟨o,h⟩) | h
 ·exact .inl (.inl (e _ _ h fun _ z=>nomatch z))
 ·exact .inl (.inr ⟨o,e _ _ h fun _ z=>nomatch z⟩)
 ·exact .inr h
mutual
theorem Rep.monoN (e:JC H H'):∀ (d:PyData) (v:V),noL d=true->Rep K H d v->Rep K H' d v
 | .none,v,_,h=>h
 | .bool _,v,_,h=>h
 | .int _,v,_,h=>h
 | .str _,v,_,h=>h
 | .tuple ds,v,n,⟨a,xs,h1,h2,h3⟩=>⟨a,xs,h1,JC.tup e h2,Reps.monoN e ds xs (by simpa [noL] using n) h3⟩
 | .list ds,v,n,h=>by simp [noL] at n
 | .dict ds,v,n,h=>by simp [noL] at n
theorem Reps.monoN (e:JC H H'):∀ (ds:LP) (xs:List V),noLs ds=true->Reps K H ds xs->Reps K H' ds xs
 | [],xs,_,h=>h
 | d::ds,xs,n,⟨x,r,h1,h2,h3⟩=>by
  have n':noL d=true/\noLs ds=true:=by simpa [noLs] using n
  exact ⟨x,r,h1,Rep.monoN e d x n'.1 h2,Reps.monoN e ds r n'.2 h3⟩
end
theorem Zg:∀ (ds es:LP),noLs (ds++es)=(noLs ds && noLs es)
 | [],es=>by simp [noLs]
 | d::ds,es=>by simp [noLs,Zg ds es,Bool.and_assoc]
theorem acN:∀ {ds:LP},(∀ d ∈ ds,noL d=true)->noLs ds=true
 | [],_=>rfl
 | d::ds,h=>by simp [noLs,h d List.mem_cons_self,acN fun x hx=>h x (List.mem_cons_of_mem _ hx)]
end
end BX
end
section
namespace BX
open PySem PySem.Spec L2
open PyProof.Rows hiding St
noncomputable def jl (P:Program) (w:World) (K:Fg) (mg:SV) (base:Heap) (x:Str) (ps:List Str) (k n:Nat) (g:LP->OP):Prop:=
 ∃ (f:Addr) (fd:FuncData),FnOk P w K mg base CX0 k f fd ps (Pur K n g)/\mg x=some (.ref f)/\PySem.W.keepIn K (.ref f)=true/\JA K fd ps []
theorem jh:∀ (ρ:Rho) (ds:LP),jv ρ=some ds->ds.length=0:=fun ρ ds h=>by cases h; rfl
theorem jc {fa:RP}{fr:Rho->Option (LP)}{n:Nat} (h:∀ (ρ:Rho) (ds:LP),fr ρ=some ds->ds.length=n):∀ (ρ:Rho) (ds:LP),jj fa fr ρ=some ds->ds.length=n+1:=fun ρ ds q=>by
 cases h1:fa ρ with
 | none=>simp [jj,h1] at q
 | some x=>
  cases h2:fr ρ with
  | none=>simp [jj,h1,h2] at q
  | some r=>
   have:x::r=ds:=by simpa [jj,h1,h2] using q
   subst this
   simp [h ρ r h2]
section
variable {X:Cx}{e:Expr}{es:List Expr}{pos:Pos}
theorem ji {k j n:Nat}{ps:List Str}{g:LP->OP}{x:Str}{p:Pos}{fr:Rho->Option (LP)} (c:jl X.prog X.w X.K X.mg X.base x ps k n g) (hr:Room j X.A) (hkj:k<=j) (ha:PAD X (e::es) fr)
  (hl:∀ (ρ:Rho) (ds:LP),fr ρ=some ds->ds.length=n) (hn:(e::es).length=n:=by rfl) (hg:Gl X x:=by rfl) (hdb:(x == ("__debug__":Str))=false:=by decide) (he:starEach (e::es) X.env=(false,eval e X.env)::starEach es X.env:=by rfl)
  (hpl:(backTo pos (starEach es X.env)).any (·.1)=false:=by rfl):PD X (.Call (.Name x p) (e::es) [] pos) (jB g fr):=by
 with_unfolding_all
  obtain ⟨f,fd,h1,h2,h3,h4⟩:=c
  exact ang h1 (hr.mono hkj) h2 h3 h4 hn ha (fun ρ ds q=>by rw [hl ρ ds q,hn]) hg hdb he hpl
end
theorem acO {ft:Rho->Option Bool}{fe:RP}{i:Nat} (p:PyData->Bool) (h:PyData->PyData):∀ (ds:LP) (τ:Rho),(∀ d ∈ ds,ft (τ.set i (some d))=some (p d))->(∀ d ∈ ds,p d=true->fe (τ.set i (some d))=some (h d))->
  JB (jO i) ft fe ds τ=some ((ds.filter p).map h)
 | [],τ,_,_=>rfl
 | d::ds,τ,h1,h2=>by
  have ih:=acO p h ds (τ.set i (some d)) (fun c hc=>by rw [List.set_set]; exact h1 c (List.mem_cons_of_mem _ hc)) (fun c hc hp=>by rw [List.set_set]; exact h2 c (List.mem_cons_of_mem _ hc) hp)
  simp only [JB,jO,zzD,h1 d List.mem_cons_self]
  by_cases hp:p d=true
  ·simp [hp,h2 d List.mem_cons_self hp,ih,List.filter_cons]
  ·simp [hp,ih,List.filter_cons]
theorem QB {fe:RP}{i:Nat} (h:PyData->PyData) (ds:LP) (τ:Rho) (h2:∀ d ∈ ds,fe (τ.set i (some d))=some (h d)):JB (jO i) aqU fe ds τ=some (ds.map h):=by
 rw [acO (fun _=>true) h ds τ (fun _ _=>rfl) (fun d hd _=>h2 d hd),List.filter_eq_self.mpr (fun _ _=>rfl)]
noncomputable def aiw (st:Scope) (N:List Str) (sc:Scope) (N':List Str) (cap:List (Option Nat)):Bool:=
 sc.names.all (fun x=>!decide (x.2= .free) || decide (st.names.lookup x.1=some .cell) || decide (st.names.lookup x.1=some .free)) && sc.names.all (fun x=>!decide (x.2= .cell)) && decide (sc.kind= .function) &&
 sc.names.all (fun x=>!decide (x.2= .local) || decide (sc.names.lookup x.1=some .local)) && decide (cap.length=N'.length) &&
 (List.range N'.length).all (fun j=>match N'[j]?,cap[j]? with
  | some x,some (some i)=>decide (N[i]?=some x) && decide (sc.names.lookup x=some .free)
  | _,_=>true)
theorem aaC {X:Cx}{sc:Scope}{N':List Str}{cap:List (Option Nat)} (st:Scope) (N:List Str) (h:aiw st N sc N' cap=true) (hst:X.env.scope=st:=by rfl) (hN:X.N=N:=by rfl):CompOk X sc N' cap:=by
 simp only [aiw,Bool.and_eq_true,List.all_eq_true,Bool.or_eq_true,Bool.not_eq_true',decide_eq_true_eq,decide_eq_false_iff_not] at h
 obtain ⟨⟨⟨⟨⟨h1,h2⟩,h3⟩,h4⟩,h5⟩,h6⟩:=h
 subst hst; subst hN
 refine ⟨fun x hx e=>?_,h2,h3,fun x hx e=>?_,h5,fun j i x e1 e2=>?_⟩
 ·rcases h1 x hx with (z | z) | z
  ·exact absurd e z
  ·exact .inl z
  ·exact .inr z
 ·rcases h4 x hx with z | z
  ·exact absurd e z
  ·exact z
 ·have hj:j<N'.length:=(List.getElem?_eq_some_iff.mp e1).1
  have:=h6 j (List.mem_range.mpr hj)
  rw [e1,e2] at this
  simpa using this
noncomputable def Cx.inB (X:Cx):Cx:={ X with A:=X.A.in1,xe:=NoX }
theorem Cx.Ok.inB {X:Cx} (ok:X.Ok):(Cx.inB X).Ok:=
 ⟨ok.mod,ok.kind,ok.glob,ok.blt,ok.above,ok.inj,ok.has,ok.cab,fun h=>ok.hd h,ok.frames,ok.stk,ok.exf,ok.bs,ok.bsz,ok.noex,ok.exfs,ok.funs,ok.frf⟩
theorem Cx.Ok.outB {X:Cx} (ok:(Cx.inB X).Ok):X.Ok:=
 ⟨ok.mod,ok.kind,ok.glob,ok.blt,ok.above,ok.inj,ok.has,ok.cab,fun h=>ok.hd h,ok.frames,ok.stk,ok.exf,ok.bs,ok.bsz,ok.noex,ok.exfs,ok.funs,ok.frf⟩
section
variable {X:Cx}{Kp:List (Addr × Obj)}{σ:St}{H:Hp}{s:Shared}
theorem Inv.inB (I:Inv X Kp σ H s):Inv (Cx.inB X) Kp σ H s:=⟨Cx.Ok.inB I.ok,I.os,I.bare,I.base,I.loc,I.cell,I.free,I.freeC,I.pin,I.hok,I.len⟩
theorem Inv.outB (I:Inv (Cx.inB X) Kp σ H s):Inv X Kp σ H s:=⟨Cx.Ok.outB I.ok,I.os,I.bare,I.base,I.loc,I.cell,I.free,I.freeC,I.pin,I.hok,I.len⟩
end
theorem aq2 {prog:Program}{w:World}{A:Around}{E:Value->SP0}{s:Shared}{a b:Int}{t u:Tok}{Q:Value->SP0} (h:Q (.bool (decide (a<b))) s):wpAny (model prog w) A (richCompare .Lt (.int a t) (.int b u)) Q E s:=
 CmpOf.ints_lt (prog:=prog) (w:=w) (A:=A) (P:=fun (i:Nat) v=>∃ t,v= .int (if i=0 then a else b) t) (fun i=>if i=0 then a else b) (fun _ _ q=>q) 0 1 _ _ _ _ _ ⟨t,rfl⟩ ⟨u,rfl⟩ h
noncomputable def Z8 (kf:PyData->Int):PyData->LP->PyData
 | b,[]=>b
 | b,d::r=>if kf d<kf b then Z8 kf d r else Z8 kf b r
noncomputable def adv (kf:PyData->Int):OP->LP->PyData
 | none,[]=> .none
 | none,d::r=>Z8 kf d r
 | some b,r=>Z8 kf b r
noncomputable def lob (us:Array Value) (c:Nat):Obj:={ cls:= .type "list",data:= .seq us c }
structure Own1 (X:Cx) (Kp:List (Addr × Obj)) (b:Addr):Prop where
 h1:b ≠ X.env.locals
 h2:b ∉ X.fs
 h3:X.s₀.heap.objs.size<=b
 h4:∀ x c,X.env.cells.lookup x=some c->c ≠ b
 h5:∀ p ∈ X.pn++Kp,p.1 ≠ b
noncomputable def ak8 (K:Fg) (H:Hp) (h:Heap) (S:Addr) (kf:PyData->Int):OP->Prop
 | none=>∃ c,h.get? S=some (lob #[] c)
 | some b=>∃ x u t c,Rep K H b x/\j8 x u/\h.get? S=some (lob #[u,.int (kf b) t] c)
theorem aix {h:Heap}{S:Addr}{us ws:Array Value}{c:Nat} (ho:h.get? S=some (lob us c)):∃ c2,(h.update S (Obj.mapSeq fun _=>ws)).get? S=some (lob ws c2):=by
 have e:=Heap.get?_update_self (Obj.mapSeq fun _=>ws) ho rfl
 exact ⟨_,e⟩
theorem aaD:(toString "min"++toString ".loop":String)="min.loop":=by decide
theorem ajx {X:Cx}{k:Nat}{f:Addr}{fd:FuncData}{ps:List Str}{g:LP->OP}{kf:PyData->Int}{ds:LP}{xs:List V}{l it S:Addr}{Kp:List (Addr × Obj)}{σ:St}{R:Result->SP0} (hc:X.calm=true)
  (FO:FnOk X.prog X.w X.K X.mg X.base CX0 k f fd ps (Pur X.K 1 g)) (hr:Room (k+1) X.A) (hb:JA X.K fd ps []) (hk:∀ d ∈ ds,g [d]=some (.int (kf d))) (oI:Own1 X Kp it) (oS:Own1 X Kp S) (nIS:it ≠ S) (nlI:l ≠ it) (nlS:l ≠ S):
  ∀ (r:LP) (i:Nat) (bo:OP) (s:Shared) (H:Hp),ds.drop i=r->Inv (Cx.inB X) Kp σ H s->H l=some (.lst xs)->Reps X.K H ds xs->H it=none->H S=none->s.heap.IsListIter it l i->ak8 X.K H s.heap S kf bo->
   (∀ v u s' H',Inv (Cx.inB X) Kp σ H' s'->jn H H'->j8 v u->Rep X.K H' (adv kf bo r) v->R (.ok (.ret u)) s')->
   codeAny (model X.prog X.w) X.A (.builtin "min.loop" ⟨[.ref it,.ref f,.ref S],[("default",.none)]⟩) R s:=by
 have fpo:∀ {b:Addr} {H:Hp} {pl:List (Addr × Obj)},Own1 X Kp b->H b=none->(∀ p ∈ pl,p.1 ≠ b)->afJ (Cx.inB X) (Kp++pl) H b:=fun {b H pl} o hn hp=>⟨hn,o.h1,o.h2,.inr o.h3,o.h4,fun p hq z=>by
  rcases List.mem_append.mp (show p ∈ X.pn++(Kp++pl) from hq) with q | q
  ·exact o.h5 p (List.mem_append_left _ q) z
  ·rcases List.mem_append.mp q with q | q
   ·exact o.h5 p (List.mem_append_right _ q) z
   ·exact hp p q z⟩
 intro r
 induction r with
 | nil=>
  intro i bo s H hd I hl hR hI hS st hB fin
  obtain ⟨its,rv,p,hz⟩:=I.list (SqL.of (K:=X.K) hl)
  have hle:ds.length<=i:=by
   have:=congrArg List.length hd
   simp at this; omega
  have hlen:=hR.length
  have hvl:=rv.length
  have f0:=fpo (pl:=[]) oI hI (fun _ z=>nomatch z)
  obtain ⟨q0,q1,q2,q3,q4,q5⟩:=f0
  refine codeAny_builtin PySem.F.entry_min_loop ?_
  rw [Around.under_plainId PySem.F.plain_min_loop _]
  cases bo with
  | none=>
   obtain ⟨c,hSo⟩:=hB
   refine wpAny_bind (m:=seqItems? (.ref S)) (wpAny_seqItems hSo rfl ?_)
   refine wpAny_bind (m:=tryCatch (pyNext (.ref it)) _) (wpAny_tryCatch (wpAny_pyNext_list_end (I.ok.hd hc) st p.isList (by simp; omega) fun h' eb=>?_))
   have I1:Inv (Cx.inB X) Kp σ H { s with heap:=h' }:=I.turned (t':=s.toks) (it:=it) (fun b o hb e=>eb b o hb e) hI oI.h1 (.inr oI.h3) oI.h4 oI.h5
   refine wpAny_bind (m:=rule _) (wpAny_rule ?_)
   exact wpAny_pure (fin .non _ _ H I1 (jn.refl H) rfl rfl)
  | some b=>
   obtain ⟨x,u,t,c,rx,ru,hSo⟩:=hB
   refine wpAny_bind (m:=seqItems? (.ref S)) (wpAny_seqItems hSo rfl ?_)
   refine wpAny_bind (m:=tryCatch (pyNext (.ref it)) _) (wpAny_tryCatch (wpAny_pyNext_list_end (I.ok.hd hc) st p.isList (by simp; omega) fun h' eb=>?_))
   have I1:Inv (Cx.inB X) Kp σ H { s with heap:=h' }:=I.turned (t':=s.toks) (it:=it) (fun b o hb e=>eb b o hb e) hI oI.h1 (.inr oI.h3) oI.h4 oI.h5
   have hS1:h'.get? S=some (lob #[u,.int (kf b) t] c):=eb S _ (Ne.symm nIS) hSo
   refine wpAny_bind (m:=updateSeq S fun _=>#[]) ?_
   refine wpAny_updateSeq hS1 rfl (wpAny_bind (wpAny_letGo (wpAny_pure ?_)))
   have I2:Inv (Cx.inB X) Kp σ H { s with heap:=h'.update S (Obj.mapSeq fun _=>(#[]:Array Value)) }:=Inv.turned (s:={ s with heap:=h' }) I1 (t':=s.toks) (it:=S) (fun b o hb e=>((Heap.SameBut.update h' S _).2 b hb).trans e) hS oS.h1 (.inr oS.h3) oS.h4 oS.h5
   exact fin x u _ H I2 (jn.refl H) ru rx
 | cons d r ih=>
  intro i bo s H hd I hl hR hI hS st hB fin
  obtain ⟨its,rv,p,hz⟩:=I.list (SqL.of (K:=X.K) hl)
  have hi:ds[i]?=some d:=by
   have:(ds.drop i)[0]?=some d:=by rw [hd]; rfl
   simpa using this
  have hd':ds.drop (i+1)=r:=by
   have:(ds.drop i).drop 1=r:=by rw [hd]; rfl
   simpa [List.drop_drop,Nat.add_comm] using this
  have hmem:d ∈ ds:=List.mem_of_getElem? hi
  obtain ⟨x,hx,rx⟩:=hR.get hi
  obtain ⟨u,hu,ru⟩:=rv.get hx
  refine codeAny_builtin PySem.F.entry_min_loop ?_
  rw [Around.under_plainId PySem.F.plain_min_loop _]
  obtain ⟨olds,hSo⟩:∃ olds:Obj,s.heap.get? S=some olds/\(∀ v,olds.data ≠ .cell v):=by
   cases bo with
   | none=>obtain ⟨c,e⟩:=hB; exact ⟨_,e,fun v z=>by cases z⟩
   | some b=>obtain ⟨_,_,_,c,_,_,e⟩:=hB; exact ⟨_,e,fun v z=>by cases z⟩
  obtain ⟨hSo,hSc⟩:=hSo
  have nxt:∀ {Q2:Option Value->SP0} {E2:Value->SP0},(∀ h' oi,Inv (Cx.inB X) (Kp++[(S,olds),(it,oi)]) σ H { s with heap:=h' }->(oi.cls= .type "list_iterator"/\oi.data= .fields #[.ref l,.int ((i+1:Nat):Int) 0])->Q2 (some u) { s with heap:=h' })->
    wpAny (model X.prog X.w) X.A.in1 (pyNext (.ref it)) Q2 E2 s:=by
   intro Q2 E2 go
   refine wpAny_pyNext_list_item st p.isList (x:=u) (by simpa using hu) fun h' st' sb=>?_
   have I1:Inv (Cx.inB X) Kp σ H { s with heap:=h' }:=I.turned (t':=s.toks) (it:=it) (fun b o hb e=>(sb.2 b hb).trans e) hI oI.h1 (.inr oI.h3) oI.h4 oI.h5
   have hS1:h'.get? S=some olds:=(sb.2 S (Ne.symm nIS)).trans hSo
   obtain ⟨oi,hoi,hci,hdi⟩:=id st'
   refine go h' oi (I1.pins_of fun q hq=>?_) ⟨hci,hdi⟩
   rcases List.mem_append.mp hq with z | z
   ·exact I1.pin q (List.mem_append_right _ z)
   ·rcases List.mem_cons.mp z with e | z
    ·subst e; exact ⟨hS1,hS,oS.h1,oS.h2,hSc⟩
    ·have e:q=(it,oi):=by simpa using z
     subst e; exact ⟨hoi,hI,oI.h1,oI.h2,fun v z=>by rw [hdi] at z; cases z⟩
  have key:∀ {Q3:Value->SP0} {E3:Value->SP0} {h':Heap} {oi:Obj},Inv (Cx.inB X) (Kp++[(S,olds),(it,oi)]) σ H { s with heap:=h' }->(oi.cls= .type "list_iterator"/\oi.data= .fields #[.ref l,.int ((i+1:Nat):Int) 0])->
    (∀ t s2 H2,Inv (Cx.inB X) Kp σ H2 s2->jn H H2->H2 it=none->H2 S=none->s2.heap.IsListIter it l (i+1)->s2.heap.get? S=some olds->Q3 (.int (kf d) t) s2)->wpAny (model X.prog X.w) X.A.in1 (call (.ref f) [u]) Q3 E3 { s with heap:=h' }:=by
   intro Q3 E3 h' oi I1p ho go
   have kk:(Pur X.K 1 g) [x] H (fun v H2=>v= .int (kf d)/\jn H H2) E0:=⟨[d],.int (kf d),rfl,⟨x,[],rfl,rx,rfl⟩,hk d hmem,fun v H2 s2 r2=>⟨r2,s2⟩⟩
   refine wpAny_mono (acG (X:=Cx.inB X) (dvs:=[]) (ds:=[]) (E:=E0) FO (Room.in1 hr) hb .nil abR I1p (.cons ru .nil) (by simpa using kk)) (fun kv s2 h2=>?_) fun _ _ z=>z.elim
   obtain ⟨v2,H2,I2,r2,e2,s2'⟩:=h2
   subst e2
   obtain ⟨t,rfl⟩:=r2
   have pS:=I2.pin (S,olds) (List.mem_append_right _ (List.mem_append_right _ (by simp)))
   have pI:=I2.pin (it,oi) (List.mem_append_right _ (List.mem_append_right _ (by simp)))
   have I2d:Inv (Cx.inB X) Kp σ H2 s2:=I2.pins_of fun q hq=>I2.pin q (List.mem_append_right _ (List.mem_append_left _ hq))
   exact go t s2 H2 I2d s2' pI.2.1 pS.2.1 ⟨oi,pI.1,ho.1,ho.2⟩ pS.1
  have back:∀ {b2:PyData} {s2:Shared} {H2:Hp},Inv (Cx.inB X) Kp σ H2 s2->jn H H2->H2 it=none->H2 S=none->s2.heap.IsListIter it l (i+1)->ak8 X.K H2 s2.heap S kf (some b2)->adv kf bo (d::r)=adv kf (some b2) r->
    codeAny (model X.prog X.w) X.A (.builtin "min.loop" ⟨[.ref it,.ref f,.ref S],[("default",.none)]⟩) R s2:=fun {b2 s2 H2} I2 s12 hI2 hS2 st2 hB2 em=>
   ih (i+1) (some b2) s2 H2 hd' I2 (s12 _ _ hl) (Reps.mono s12 _ _ hR) hI2 hS2 st2 hB2 fun v u s' H' I' s' r' q'=>fin v u _ H' I' (s12.trans s') r' (by rw [em]; exact q')
  cases bo with
  | none=>
   obtain ⟨c,hSn⟩:=hB
   rw [hSn] at hSo; cases hSo
   refine wpAny_bind (m:=seqItems? (.ref S)) (wpAny_seqItems hSn rfl ?_)
   refine wpAny_bind (m:=tryCatch (pyNext (.ref it)) _) (wpAny_tryCatch (nxt fun h' oi I1p ho=>?_))
   refine wpAny_bind (m:=tryCatch (holding [u] (call (.ref f) [u])) _) (wpAny_tryCatch (wpAny_holding (key I1p ho fun t s2 H2 I2 s12 hI2 hS2 st2 hS2o=>?_)))
   refine wpAny_bind (m:=updateSeq S fun _=>#[u,.int (kf d) t]) ?_
   refine wpAny_updateSeq hS2o rfl ?_
   obtain ⟨c2,hc2⟩:=aix (ws:=#[u,.int (kf d) t]) hS2o
   have sb:=Heap.SameBut.update s2.heap S (Obj.mapSeq fun _=>#[u,.int (kf d) t])
   have I3:Inv (Cx.inB X) Kp σ H2 { s2 with heap:=s2.heap.update S (Obj.mapSeq fun _=>#[u,.int (kf d) t]) }:=I2.turned (t':=s2.toks) (it:=S) (fun b o hb e=>(sb.2 b hb).trans e) hS2 oS.h1 (.inr oS.h3) oS.h4 oS.h5
   obtain ⟨oi,e1,e2⟩:=st2
   rw [aaD]
   exact wpAny_pure ⟨plainId_quiet PySem.F.plain_min_loop _,back (b2:=d) I3 s12 hI2 hS2 ⟨oi,(sb.2 it nIS).trans e1,e2⟩ ⟨x,u,t,c2,Rep.mono s12 _ _ rx,ru,hc2⟩ rfl⟩
  | some b=>
   obtain ⟨xb,ub,tb,c,rb,rub,hSn⟩:=hB
   rw [hSn] at hSo; cases hSo
   refine wpAny_bind (m:=seqItems? (.ref S)) (wpAny_seqItems hSn rfl ?_)
   refine wpAny_bind (m:=tryCatch (pyNext (.ref it)) _) (wpAny_tryCatch (nxt fun h' oi I1p ho=>?_))
   refine wpAny_bind (m:=tryCatch (holding [u] (call (.ref f) [u])) _) (wpAny_tryCatch (wpAny_holding (key I1p ho fun t s2 H2 I2 s12 hI2 hS2 st2 hS2o=>?_)))
   refine wpAny_bind (m:=tryCatch (holding [u,.int (kf d) t] (richCompare .Lt (.int (kf d) t) (.int (kf b) tb) >>= _)) _) (wpAny_tryCatch (wpAny_holding (wpAny_bind (aq2 ?_))))
   refine wpAny_bind (wpAny_holding (wpAny_truthy_bool ?_))
   refine wpAny_bind (wpAny_letGo (wpAny_pure ?_))
   by_cases hlt:kf d<kf b
   ·simp only [hlt,decide_true,zzM]
    refine wpAny_bind (m:=updateSeq S fun _=>#[u,.int (kf d) t]) ?_
    refine wpAny_updateSeq hS2o rfl (wpAny_bind (wpAny_letGo ?_))
    obtain ⟨c2,hc2⟩:=aix (ws:=#[u,.int (kf d) t]) hS2o
    have sb:=Heap.SameBut.update s2.heap S (Obj.mapSeq fun _=>#[u,.int (kf d) t])
    have I3:Inv (Cx.inB X) Kp σ H2 { s2 with heap:=s2.heap.update S (Obj.mapSeq fun _=>#[u,.int (kf d) t]) }:=I2.turned (t':=s2.toks) (it:=S) (fun b o hb e=>(sb.2 b hb).trans e) hS2 oS.h1 (.inr oS.h3) oS.h4 oS.h5
    obtain ⟨oi,e1,e2⟩:=st2
    rw [aaD]
    exact wpAny_pure ⟨plainId_quiet PySem.F.plain_min_loop _,back (b2:=d) I3 s12 hI2 hS2 ⟨oi,(sb.2 it nIS).trans e1,e2⟩ ⟨x,u,t,c2,Rep.mono s12 _ _ rx,ru,hc2⟩ (by simp [adv,Z8,hlt])⟩
   ·simp only [hlt,decide_false,zzL,zzN]
    refine wpAny_bind (wpAny_letGo ?_)
    rw [aaD]
    exact wpAny_pure ⟨plainId_quiet PySem.F.plain_min_loop _,back (b2:=b) I2 s12 hI2 hS2 st2 ⟨xb,ub,tb,c,Rep.mono s12 _ _ rb,rub,hS2o⟩ (by simp [adv,Z8,hlt])⟩
theorem aht (a v d:Value):argsOk "min" ⟨[a],[("key",v),("default",d)]⟩:=by unfold argsOk; kernel_rfl
theorem afZ {X:Cx}{Kp:List (Addr × Obj)}{σ:St}{H:Hp}{s:Shared} (I:Inv X Kp σ H s) {b:Addr} (hb:s.heap.objs.size<=b):Own1 X Kp b:=by
 obtain ⟨_,h1,h2,h3,h4,h5⟩:=I.fpOk (H':=fun _=>none) hb rfl
 exact ⟨h1,h2,Nat.le_trans I.sz hb,h4,h5⟩
theorem ahu {X:Cx}{k:Nat}{f:Addr}{fd:FuncData}{ps:List Str}{g:LP->OP}{kf:PyData->Int}{ds:LP}{xs:List V}{l:Addr}{Kp:List (Addr × Obj)}{σ:St}{H:Hp}{s:Shared}{Q:VK} (hc:X.calm=true)
  (FO:FnOk X.prog X.w X.K X.mg X.base CX0 k f fd ps (Pur X.K 1 g)) (hr:Room (k+1) X.A) (hb:JA X.K fd ps []) (hk:∀ d ∈ ds,g [d]=some (.int (kf d))) (I:Inv X Kp σ H s) (hl:H l=some (.lst xs)) (hR:Reps X.K H ds xs)
  (q:∀ v H',jn H H'->Rep X.K H' (adv kf none ds) v->Q v H'):
  wpAny (model X.prog X.w) X.A (call (.builtin "min") [.ref l] [("key",.ref f),("default",.none)]) (EP X Kp σ Q) X.xe s:=by
 obtain ⟨its,rv,p,hz⟩:=I.list (SqL.of (K:=X.K) hl)
 have hlt:l<s.heap.objs.size:=I.hok.lt hl
 refine PyProof.Rows.kmk_tree PySem.F.kind_min PySem.F.plain_min PySem.F.entry_min (aht _ _ _) ?_
 refine wpAny_bind (m:=Builtin.Builtins.bindParams "min" ["key","default"] 0 ⟨[],[("key",.ref f),("default",.none)]⟩)
  (wpAny_of_eq (show _=pure [some (.ref f),some .none] from rfl) ?_)
 refine wpAny_bind (wpAny_pure ?_)
 refine wpAny_bind (wpAny_pyIter_list p.isList ?_)
 refine wpAny_bind (wpAny_newList ?_ (Nat.zero_le _))
 rw [aaD]
 refine wpAny_pure ⟨plainId_quiet PySem.F.plain_min_loop _,?_⟩
 generalize hh1:s.heap.push { cls:= .type "list_iterator",data:= .fields #[.ref l,.int 0 0] }=h1
 have n1:h1.objs.size=s.heap.objs.size+1:=by rw [←hh1]; exact Heap.size_push ..
 have k2:∀ b o,s.heap.get? b=some o->(h1.push { cls:= .type "list",data:= .seq ([]:List Value).toArray }).get? b=some o:=fun b o e=>Heap.get?_push_of_some _ (by rw [←hh1]; exact Heap.get?_push_of_some _ e)
 have I2:Inv X Kp σ H { s with heap:=h1.push { cls:= .type "list",data:= .seq ([]:List Value).toArray } }:=I.kept (t':=s.toks) k2
 refine ajx (kf:=kf) hc FO hr hb hk (afZ I (Nat.le_refl _)) (afZ I (b:=h1.objs.size) (by rw [n1]; exact Nat.le_succ _)) (by rw [n1]; exact Nat.ne_of_lt (Nat.lt_succ_self _)) (Nat.ne_of_lt hlt) (by rw [n1]; exact Nat.ne_of_lt (Nat.lt_succ_of_lt hlt))
  ds 0 none _ H rfl (Inv.inB I2) hl hR (I.hok.fresh (Nat.le_refl _)) (I.hok.fresh (by rw [n1]; exact Nat.le_succ _)) ⟨_,Heap.get?_push_of_some _ (by rw [←hh1]; exact Heap.get?_push_size _ rfl),rfl,rfl⟩ ⟨0,Heap.get?_push_size _ rfl⟩ fun v u s' H' I' s1 r' q'=>?_
 exact ⟨v,H',Inv.outB I',r',q v H' s1 q'⟩
noncomputable def acP (g:LP->OP) (ds:LP):Bool:=ds.all fun d=>((g [d]).bind aaz).isSome
noncomputable def aaE (g:LP->OP) (d:PyData):Int:=((g [d]).bind aaz).getD 0
noncomputable def abo (g:LP->OP):PyData->OP
 | .list ds=>if acP g ds=true then some (adv (aaE g) none ds) else none
 | _=>none
theorem ajy {d:PyData}{i:Int} (h:aaz d=some i):d= .int i:=by
 cases d <;> simp [aaz] at h
 rw [h]
theorem ak9 {g:LP->OP}{ds:LP} (h:acP g ds=true):∀ d ∈ ds,g [d]=some (.int (aaE g d)):=fun d hd=>by
 have:=List.all_eq_true.mp h d hd
 cases e:g [d] with
 | none=>simp [e] at this
 | some c=>
  cases e2:aaz c with
  | none=>simp [e,e2] at this
  | some i=>
   have:=ajy e2
   subst this
   simp [aaE,e,aaz]
theorem aeF:bootBuiltins "min"=some (.builtin "min"):=by decide +kernel
theorem ahv:bootBuiltins "max"=some (.builtin "max"):=by decide +kernel
section
variable {X:Cx}{a:Expr}{fa:RP}{pos p p2 p3 kp kp2:Pos}{j3:Nat}
theorem ala {k j:Nat}{ps:List Str}{g:LP->OP}{x:Str} (hc:X.calm=true) (c:jl X.prog X.w X.K X.mg X.base x ps k 1 g) (hr:Room j X.A) (hkj:k+1<=j) (hm:X.mg "min"=none) (ha:PD X a fa) (hg:Gl X "min":=by rfl) (hgx:Gl X x:=by rfl)
  (hdb:(x == ("__debug__":Str))=false:=by decide) (hs:starEach [a] X.env=[(false,eval a X.env)]:=by rfl):
  PD X (.Call (.Name "min" p) [a] [⟨some "key",.Name x p2,kp⟩,⟨some "default",.Constant .none j3 p3,kp2⟩] pos) (fun ρ=>(fa ρ).bind (abo g)):=by
 with_unfolding_all
  obtain ⟨f,fd,FO,hmx,hkp,hb⟩:=c
  intro Kp s σ H Q I h
  obtain ⟨ρ,d,en,q,kq⟩:=h
  cases h1:fa ρ with
  | none=>simp [h1] at q
  | some y=>
   have q':abo g y=some d:=by simpa [h1] using q
   refine wpAny_Call_Name_kw (Q8 I hg hm aeF ?_)
   have hA:PA X [a] (afM (tD X.K fa) am1):=qv ha zw (by rw [hs]; rfl)
   have hK:PK X [⟨some "key",.Name x p2,kp⟩,⟨some "default",.Constant .none j3 p3,kp2⟩] (afM (tC (.ref f)) (afM (tC .non) am1)):=aih (ab8 hgx hmx rfl hdb) (aih akw apg)
   refine callWith_kw (thn (hA pos Kp s σ H (fun vs H1=>∃ v,vs=[v]/\jn H H1/\Rep X.K H1 y v) I ⟨ρ,y,en,h1,fun v H1 s1 r1=>⟨v,rfl,s1,r1⟩⟩) fun us s1 ⟨vs,H1,I1,r1,v,e1,s1',rv⟩=>?_) (by rw [hs]; rfl) (by rw [hs]; rfl)
   subst e1
   obtain ⟨u,rfl,ru⟩:=afK r1
   refine thn (hK pos Kp s1 σ H1 (fun zs H2=>zs=[.ref f,.non]/\H2=H1) I1 ⟨rfl,rfl⟩) fun ws s2 ⟨zs,H2,I2,r2,e2,e3⟩=>?_
   subst e2; subst e3
   obtain ⟨w1,w2,rfl,a1,a2⟩:=afL r2
   cases (show w1=_ from a1)
   cases (show w2=_ from a2)
   cases y with
   | list ds=>
    by_cases hko:acP g ds=true
    ·have:adv (aaE g) none ds=d:=by simpa [abo,hko] using q'
     subst this
     obtain ⟨l,xs,e4,e5,e6⟩:=rv
     subst e4
     cases (show u=_ from ru)
     exact ahu (kf:=aaE g) hc FO (hr.mono hkj) hb (ak9 hko) I2 e5 e6 fun v H' s' r'=>kq v H' (s1'.trans s') r'
    ·simp [abo,hko] at q'
   | _=>simp [abo] at q'
end
noncomputable def aiy:Int->List Int->Int
 | b,[]=>b
 | b,d::r=>if d > b then aiy d r else aiy b r
noncomputable def apv:Option Int->List Int->PyData
 | none,[]=> .none
 | none,d::r=> .int (aiy d r)
 | some b,r=> .int (aiy b r)
section
variable {X:Cx}{a:Expr}{fa:RP}{pos p p3 kp2:Pos}{j3:Nat}
end
end BX
end
section
namespace BX.Srt
open PySem PySem.W
open PyProof.Rows (mirror bubble mirror_size mirror_perm bubble_size bubble_perm getElem?_mirror_all getElem?_bubble)
section
variable (rk:Nat->Int) (n:Nat)
noncomputable def val (p:Array Nat) (k:Nat):Int:=rk (p.getD k 0)
noncomputable def OKp (p:Array Nat):Prop:=p.Perm (List.range n).toArray
end
section
variable {rk:Nat->Int}{n:Nat}{p p':Array Nat}
end
variable {rk:Nat->Int}{n:Nat}{cmp:Nat->Nat->(Bool->SP0)->SP0}
section
variable {s:Shared} (hc:∀ i j (C:Bool->SP0),i<n->j<n->C (decide (rk i<rk j)) s->cmp i j C s)
include hc
end
end BX.Srt
end
section
namespace BX
open PySem PySem.Spec L2
open PyProof.Rows hiding St
section
variable {prog:Program}{w:World}{A:Around}{E:Value->SP0}{s:Shared}
end
noncomputable def alb (p:Int × Int):PyData:= .tuple [.int p.1,.int p.2]
noncomputable def inB (p:Int × Int):Bool:=decide (0<=p.2) && decide (p.2<1000000)
structure PairAt (h:Heap) (u:Value) (p:Int × Int):Prop where
 ex:∃ a o k t t',u= .ref a/\h.get? a=some o/\o.cls= .type "tuple"/\o.data= .seq #[.int p.1 t,.int p.2 t'] k
section
variable {X:Cx}
variable {a b:Expr}{fa fb:RP}{pos p2:Pos}
noncomputable def anm:PyData->OP
 | .int i=>some (.int (-i))
 | _=>none
theorem Zh (h:PD X a fa):PD X (.UnaryOp .USub a pos) (fun ρ=>(fa ρ).bind anm):=by
 with_unfolding_all
  refine PE.imp (aqC apb h) fun σ H Q ⟨ρ,d,en,q,k⟩=>?_
  cases h1:fa ρ with
  | none=>simp [h1] at q
  | some y=>
   refine ⟨ρ,y,en,h1,fun v H1 s1 r1=>?_⟩
   have q':anm y=some d:=by simpa [h1] using q
   cases y with
   | int i=>cases q'; cases (show v=_ from r1); exact ⟨i,rfl,k _ H1 s1 rfl⟩
   | _=>cases q'
end
variable {X:Cx}
end BX
end
section
namespace BX
open PySem PySem.Spec L2
open PyProof.Rows hiding St
variable {X:Cx}
noncomputable def adw (f:Expr->OP):List Expr->Option (LP)
 | []=>some []
 | e::es=>(f e).bind fun d=>(adw f es).map fun ds=>d::ds
noncomputable def lit:Nat->Expr->OP
 | 0,_=>none
 | n+1,e=>match e with
  | .Constant (.int i) _ _=>some (.int i)
  | .Constant (.bool b) _ _=>some (.bool b)
  | .Constant .none _ _=>some .none
  | .Constant (.str x) _ _=>some (.str x)
  | .Tuple es _ _=>(adw (lit n) es).bind fun ds=>if few ds=true then some (.tuple ds) else none
  | .List es _=>(adw (lit n) es).bind fun ds=>if few ds=true then some (.list ds) else none
  | _=>none
theorem PD.as {e:Expr}{F G:RP} (h:PD X e F) (hi:∀ ρ d,G ρ=some d->F ρ=some d):PD X e G:=by
 with_unfolding_all exact (PE.imp h fun σ H Q ⟨ρ,d,en,q,k⟩=>⟨ρ,d,en,hi ρ d q,k⟩)
theorem PAD.as {es:List Expr}{F G:Rho->Option (LP)} (h:PAD X es F) (hi:∀ ρ d,G ρ=some d->F ρ=some d):PAD X es G:=by
 with_unfolding_all exact (PA.imp h fun σ H Q ⟨ρ,d,en,q,k⟩=>⟨ρ,d,en,hi ρ d q,k⟩)
noncomputable def alc (e:Expr):Prop:=∀ (es:List Expr) (env:Env),starEach (e::es) env=(false,eval e env)::starEach es env
theorem aeG {f:Expr->OP} (hf:∀ e d,f e=some d->PD X e (cst d)/\alc e):∀ (es:List Expr) (ds:LP),adw f es=some ds->PAD X es (fun _=>some ds)
 | [],ds,h=>by cases h; exact jd
 | e::es,ds,h=>by
  cases h1:f e with
  | none=>simp [adw,h1] at h
  | some d=>
   cases h2:adw f es with
   | none=>simp [adw,h1,h2] at h
   | some r=>
    have:d::r=ds:=by with_unfolding_all simpa [adw,h1,h2] using h
    subst this
    obtain ⟨p,st⟩:=hf e d h1
    exact (ja p (aeG hf es r h2) (st es X.env)).as fun ρ d' q=>by cases q; simp [jj,cst]
theorem ahw:∀ (n:Nat) (e:Expr) (d:PyData),lit n e=some d->PD X e (cst d)/\alc e
 | 0,e,d,h=>by cases h
 | n+1,e,d,h=>by
  unfold lit at h
  split at h
  ·cases h; exact ⟨jg,fun _ _=>rfl⟩
  ·cases h; exact ⟨Js,fun _ _=>rfl⟩
  ·cases h; exact ⟨akT,fun _ _=>rfl⟩
  ·cases h; exact ⟨abk,fun _ _=>rfl⟩
  ·rename_i es x1 pos
   cases h1:adw (lit n) es with
   | none=>simp [h1] at h
   | some ds=>
    by_cases hf:few ds=true
    ·have:PyData.tuple ds=d:=by with_unfolding_all simpa [h1,hf] using h
     subst this
     exact ⟨(Jx (aeG (ahw n) es ds h1)).as fun ρ d' q=>by cases q; simp [ab4,hf],fun _ _=>rfl⟩
    ·simp [h1,hf] at h
  ·rename_i es pos
   cases h1:adw (lit n) es with
   | none=>simp [h1] at h
   | some ds=>
    by_cases hf:few ds=true
    ·have:PyData.list ds=d:=by simpa [h1,hf] using h
     subst this
     exact ⟨(zo (aeG (ahw n) es ds h1)).as fun ρ d' q=>by cases q; simp [zB,hf],fun _ _=>rfl⟩
    ·simp [h1,hf] at h
  ·cases h
theorem JT (n:Nat) {e:Expr} (d:PyData) (h:lit n e=some d):PD X e (cst d):=by
 with_unfolding_all exact ((ahw n e d h).1)
end BX
end
section
namespace BX
open PySem L2
open PyProof.Rows hiding St
noncomputable def jU (K:Fg) (x:Str) (st:Stmt):Prop:=
 ∃ (f:Addr) (oc:Value) (od an:Option Addr) (kV doc pm Kc ct:Value) (osl:Array (Option Value)),PySem.W.nsIn K mainGlobals x=some (some (.ref f))/\
  K.lookup f=some ⟨oc,od,.func (PySem.W.fnOf x x (Jq st) (jR st) (jf st) .none kV doc pm an Kc ct),osl⟩/\PySem.W.codeIn K Kc x=true/\PySem.W.keepIn K (.ref f)=true
theorem ald {K:Fg}{x:Str}{st:Stmt}{f:Addr}{oc:Value}{od an:Option Addr}{kV doc pm Kc ct:Value}{osl:Array (Option Value)} (a:PySem.W.nsIn K mainGlobals x=some (some (.ref f)))
  (l:K.lookup f=some ⟨oc,od,.func (PySem.W.fnOf x x (Jq st) (jR st) (jf st) .none kV doc pm an Kc ct),osl⟩) (c:PySem.W.codeIn K Kc x=true) (k:PySem.W.keepIn K (.ref f)=true):jU K x st:=
 ⟨f,oc,od,an,kV,doc,pm,Kc,ct,osl,a,l,c,k⟩
noncomputable abbrev ju (x:Str) (st:Stmt) (ps:List Str):Prop:=∀ (kV doc pm:Value) (an:Option Addr) (Kc ct:Value) (us:List Value),us.length=ps.length->bindArgs (PySem.W.fnOf x x (Jq st) (jR st) (jf st) .none kV doc pm an Kc ct) ⟨us,[]⟩=pure (ps.zip us)
theorem jU.callee {P:Program}{w:World}{K:Fg}{mg:SV}{base h:Heap}{x:Str}{st:Stmt}{ps:List Str}{k n:Nat}{g:LP->OP} (T:jU K x st) (X:K.In h) (G:h.Ns mainGlobals mg)
  (hb:ju x st ps) (F:∀ (f:Addr) (fd:FuncData),Fun K x x st f fd->FnOk P w K mg base CX0 k f fd ps (Pur K n g)):jl P w K mg base x ps k n g:=by
 obtain ⟨f,oc,od,an,kV,doc,pm,Kc,ct,osl,a,l,c,kp⟩:=T
 have F1:=aaf (st:=st) l c kp
 exact ⟨f,_,F f _ F1,PySem.W.mg_of X G a,kp,F1.binds hb⟩
theorem af0 {K:Fg}{mg:SV}{h:Heap}{x:Str}{a:Addr}{ob:Obj}{ds:LP} (X:K.In h) (G:h.Ns mainGlobals mg) (e:PySem.W.nsIn K mainGlobals x=some (some (.ref a))) (l:K.lookup a=some ob)
  (hc:ob.cls= .type "tuple") (hi:∃ (its:Array Value) (n:Nat) (xs:List V),ob.data= .seq its n/\its.size<=sizeLine/\jP xs its.toList/\∀ H,Reps K H ds xs):∃ v u,mg x=some u/\j8 v u/\∀ H,Rep K H (.tuple ds) v:=by
 obtain ⟨its,n,xs,h1,h2,h3,h4⟩:=hi
 exact ⟨.ref a,.ref a,PySem.W.mg_of X G e,rfl,fun H=>⟨a,xs,rfl,.inr ⟨ob,its,n,l,hc,h1,h2,h3⟩,h4 H⟩⟩
end BX
end
section
namespace BX
open PySem PySem.Spec L2
open PyProof.Rows hiding St
noncomputable def qt (a:Addr) (xs:List V):HO:= .ext fun h=>xs.length<=sizeLine/\∃ (its:List Value) (n:Nat),jP xs its/\h.get? a=some { cls:= .type "list",data:= .seq its.toArray n }
noncomputable def aoF (P:Program) (w:World) (a:Addr) (ob:Obj) (ks:List (Key × V)):HO:= .ext fun h=>h.get? a=some ob/\ks.length<=sizeLine/\(a == sysModules)=false/\∃ vs,KV ks vs/\h.DictOf (aas P w) a vs
inductive Seal (P:Program) (w:World) (a:Addr):HO->HO->Prop where
 | l (xs:List V):Seal P w a (qt a xs) (.lst xs)
 | d (ob:Obj) (ks:List (Key × V)):Seal P w a (aoF P w a ob ks) (.frz ob (.dK ks))
theorem Seal.ext {P:Program}{w:World}{a:Addr}{c o:HO} (S:Seal P w a c o):∃ φ,c= .ext φ:=by cases S <;> exact ⟨_,rfl⟩
section
variable {X:Cx}{Kp:List (Addr × Obj)}{σ:St}{H:Hp}{s:Shared}{a:Addr}{c o:HO}
theorem Inv.opened (I:Inv X Kp σ H s) (S:Seal X.prog X.w a c o) (e:H a=some c):Inv X Kp σ (upd H a o) s:=by
 have q:=I.hok a c e
 have mu:Mut (H a):=by rw [e]; obtain ⟨φ,rfl⟩:=S.ext; trivial
 cases S with
 | l xs=>
  obtain ⟨h1,h2,_⟩:=q
  exact I.write (x:=a) (e:=a) (h':=s.heap) (t':=s.toks) mu (.inl rfl) (fun _ _ _ z=>z) h2 h1
 | d ob ks=>
  obtain ⟨h1,h2,_⟩:=q
  exact I.write (x:=a) (e:=a) (h':=s.heap) (t':=s.toks) mu (.inl rfl) (fun _ _ _ z=>z) h2 ⟨h1.1,h1.2⟩
theorem Inv.redesc {o1 o2:HO} (I:Inv X Kp σ H s) (h1:H a=some o1) (n1:∀ y,o1 ≠ .own y) (n2:∀ xs,o1 ≠ .tup xs) (n3:∀ ps,o1 ≠ .tbl ps) (nf:∀ ob u,X.H₀ a ≠ some (.frz ob u)) (new:zN X.prog X.w (upd H a o2) s.heap a o2):Inv X Kp σ (upd H a o2) s:=by
 have na:∀ b,H b=none->upd H a o2 b=none:=fun b z=>by
  have:b ≠ a:=fun q=>by subst q; rw [h1] at z; cases z
  rw [jt this]; exact z
 refine ⟨I.ok,I.os,I.bare,⟨I.base.keep,I.base.slot,fun b u q n hx=>na b (I.base.free b u q n hx),I.base.there,fun b xs q=>?_,fun b ob u q=>?_,fun b ps q=>?_⟩,I.loc,I.cell,na _ I.free,fun x c' q=>na _ (I.freeC x c' q),fun p hp=>?_,fun b u q=>?_,I.len⟩
 ·have q':=I.base.tups b xs q
  have:b ≠ a:=fun z=>by subst z; rw [h1] at q'; cases q'; exact n2 _ rfl
  rw [jt this]; exact q'
 ·have:b ≠ a:=fun z=>by subst z; exact nf _ _ q
  rw [jt this]; exact I.base.frzs b ob u q
 ·obtain ⟨more,q'⟩:=I.base.tbls b ps q
  have:b ≠ a:=fun z=>by subst z; rw [h1] at q'; cases q'; exact n3 _ rfl
  exact ⟨more,by rw [jt this]; exact q'⟩
 ·obtain ⟨g1,g2,g3⟩:=I.pin p hp
  exact ⟨g1,na _ g2,g3⟩
 ·by_cases hb:b=a
  ·subst hb
   rw [jp] at q; cases q
   exact new
  ·rw [jt hb] at q
   refine (I.hok b u q).stay (fun c' v _ z=>z) (fun c' z=>?_) fun c' xs z=>?_
   ·have:c' ≠ a:=fun m=>by subst m; rw [h1] at z; cases z; exact n1 _ rfl
    rw [jt this]; exact z
   ·have:c' ≠ a:=fun m=>by subst m; rw [h1] at z; cases z; exact n2 _ rfl
    rw [jt this]; exact z
theorem Inv.nofrz {φ:Heap->Prop} (I:Inv X Kp σ H s) (e:H a=some (.ext φ)):∀ ob u,X.H₀ a ≠ some (.frz ob u):=fun ob u z=>by
 have:=I.base.frzs _ _ _ z
 rw [e] at this; cases this
theorem Inv.closed (I:Inv X Kp σ H s) (S:Seal X.prog X.w a c o) (e:H a=some o) (nf:∀ ob u,X.H₀ a ≠ some (.frz ob u)):Inv X Kp σ (upd H a c) s:=by
 have q:=I.hok a o e
 cases S with
 | l xs=>
  obtain ⟨h1,its,n,h2,h3⟩:=q
  refine I.write (x:=a) (e:=a) (h':=s.heap) (t':=s.toks) (by rw [e]; trivial) (.inl rfl) (fun _ _ _ z=>z) ⟨_,h3⟩ ⟨⟨h1,its,n,h2,h3⟩,⟨_,h3⟩,?_⟩
  rintro g1 g2 ⟨z1,its,n,z2,z3⟩ k
  exact ⟨z1,its,n,z2,k _ z3⟩
 | d ob ks=>
  obtain ⟨h0,h1,h2,vs,h3,ob',es,ep,h4,h5⟩:=q
  refine Inv.redesc I e (fun _ z=>nomatch z) (fun _ z=>nomatch z) (fun _ z=>nomatch z) nf ⟨⟨h0,h1,h2,vs,h3,ob',es,ep,h4,h5⟩,⟨_,h4⟩,?_⟩
  rintro g1 g2 ⟨z0,z1,z2,vs,z3,ob',es,ep,z4,z5⟩ k
  exact ⟨k _ z0,z1,z2,vs,z3,ob',es,ep,k _ z4,z5⟩
end
mutual
noncomputable def noD:PyData->Bool
 | .tuple ds=>noDs ds
 | .list ds=>noDs ds
 | .dict _=>false
 | _=>true
noncomputable def noDs:LP->Bool
 | []=>true
 | d::ds=>noD d && noDs ds
end
noncomputable def af1 (H H':Hp):Prop:=∀ b o,H b=some o->(∀ ob ks,o ≠ .frz ob (.dK ks))->H' b=some o
section
variable {K:Fg}{H H':Hp}
theorem af1.tup {a:Addr}{xs:List V} (e:af1 H H') (h:SqT K H a xs):SqT K H' a xs:=by
 rcases h with (h | ⟨o,h⟩) | h
 ·exact .inl (.inl (e _ _ h fun _ _ z=>nomatch z))
 ·exact .inl (.inr ⟨o,e _ _ h fun _ _ z=>nomatch z⟩)
 ·exact .inr h
mutual
theorem Rep.monoM (e:af1 H H'):∀ (d:PyData) (v:V),noD d=true->Rep K H d v->Rep K H' d v
 | .none,v,_,h=>h
 | .bool _,v,_,h=>h
 | .int _,v,_,h=>h
 | .str _,v,_,h=>h
 | .tuple ds,v,n,⟨a,xs,h1,h2,h3⟩=>⟨a,xs,h1,af1.tup e h2,Reps.monoM e ds xs (by simpa [noD] using n) h3⟩
 | .list ds,v,n,⟨a,xs,h1,h2,h3⟩=>⟨a,xs,h1,e _ _ h2 (fun _ _ z=>nomatch z),Reps.monoM e ds xs (by simpa [noD] using n) h3⟩
 | .dict ds,v,n,h=>by simp [noD] at n
theorem Reps.monoM (e:af1 H H'):∀ (ds:LP) (xs:List V),noDs ds=true->Reps K H ds xs->Reps K H' ds xs
 | [],xs,_,h=>h
 | d::ds,xs,n,⟨x,r,h1,h2,h3⟩=>by
  have n':noD d=true/\noDs ds=true:=by simpa [noDs] using n
  exact ⟨x,r,h1,Rep.monoM e d x n'.1 h2,Reps.monoM e ds r n'.2 h3⟩
end
end
noncomputable def okB (c d:PyData):Bool:=match c with
 | .list _=>noL d
 | .dict _=>noD d
 | _=>false
noncomputable def aaF (P:Program) (w:World) (K:Fg) (H:Hp) (a:Addr):PyData->Prop
 | .list ds=>∃ xs,H a=some (qt a xs)/\Reps K H ds xs
 | .dict kvs=>∃ ks r ob,kvs=(.none,.none)::r/\H a=some (aoF P w a ob ks)/\RepM K H r ks
 | _=>False
theorem aaF.out {P:Program}{w:World}{K:Fg}{H:Hp}{a:Addr}{d:PyData} (h:aaF P w K H a d):∃ c o,Seal P w a c o/\H a=some c/\
  (∀ H',qf H H'->H' a=some o->Rep K H' d (.ref a))/\(∀ H',qf H H'->H' a=some c->aaF P w K H' a d)/\
  ∀ x H3 v,okB d x=true->H3 a=some o->Rep K H3 x v->Rep K (upd H3 a c) x v:=by
 cases d with
 | list ds=>
  obtain ⟨xs,h1,h2⟩:=h
  exact ⟨_,_,.l xs,h1,fun H' e q=>⟨a,xs,rfl,q,Reps.monoE e _ _ h2⟩,fun H' e q=>⟨xs,q,Reps.monoE e _ _ h2⟩,fun x H3 v n q r=>Rep.monoN (fun b u hb m=>by
   have:b ≠ a:=fun z=>by subst z; rw [q] at hb; cases hb; exact m _ rfl
   rw [jt this]; exact hb) x v n r⟩
 | dict kvs=>
  obtain ⟨ks,r,ob,rfl,h1,h2⟩:=h
  exact ⟨_,_,.d ob ks,h1,fun H' e q=>⟨a,rfl,.inr (.inl ⟨ks,ob,q,show RepM K H' r ks from RepM.monoE e _ _ h2⟩)⟩,fun H' e q=>⟨ks,r,ob,rfl,q,RepM.monoE e _ _ h2⟩,fun x H3 v n q r=>Rep.monoM (fun b u hb m=>by
   have:b ≠ a:=fun z=>by subst z; rw [q] at hb; cases hb; exact m _ _ rfl
   rw [jt this]; exact hb) x v n r⟩
 | none=>exact h.elim
 | bool _=>exact h.elim
 | int _=>exact h.elim
 | str _=>exact h.elim
 | tuple _=>exact h.elim
theorem qf.upd {H:Hp}{a:Addr}{φ:Heap->Prop}{o:HO} (e:H a=some (.ext φ)):qf H (upd H a o):=fun b u h n=>by
 have:b ≠ a:=fun z=>by subst z; rw [e] at h; cases h; exact n _ rfl
 rw [jt this]; exact h
structure EnvO (P:Program) (w:World) (K:Fg) (Hs H:Hp) (own:Option Nat) (ρ:Rho) (σ:St):Prop where
 len:ρ.length=σ.length
 sm:jn Hs H
 pl:∀ i d,ρ[i]?=some (some d)->own ≠ some i->∃ v,σ[i]?=some (some v)/\Rep K H d v
 ow:∀ i,own=some i->∃ d a,ρ[i]?=some (some d)/\σ[i]?=some (some (.ref a))/\Hs a=none/\aaF P w K H a d
noncomputable def hid (own:Option Nat) (ρ:Rho):Rho:=match own with
 | none=>ρ
 | some i=>ρ.set i none
section
variable {P:Program}{w:World}{K:Fg}{Hs H H':Hp}{own:Option Nat}{ρ:Rho}{σ:St}
theorem EnvO.of (e:EnvR K H ρ σ) (s:jn Hs H):EnvO P w K Hs H none ρ σ:=⟨e.len,s,fun i d h _=>e.at' i d h,fun i z=>nomatch z⟩
theorem EnvO.to (e:EnvO P w K Hs H none ρ σ):EnvR K H ρ σ:=⟨e.len,fun i d h=>e.pl i d h (fun z=>nomatch z)⟩
theorem EnvO.hid (e:EnvO P w K Hs H own ρ σ):EnvR K H (hid own ρ) σ:=by
 cases own with
 | none=>exact e.to
 | some i=>
  refine ⟨by simp [BX.hid,e.len],fun j d h=>?_⟩
  by_cases hj:i=j
  ·subst hj
   simp only [BX.hid] at h
   rw [List.getElem?_set] at h
   simp at h
  ·simp only [BX.hid] at h
   rw [List.getElem?_set_ne hj] at h
   exact e.pl j d h (fun z=>hj (Option.some.inj z))
theorem aaF.mono {a:Addr}{d:PyData} (h:aaF P w K H a d) (s:jn H H'):aaF P w K H' a d:=by
 obtain ⟨c,o,_,h1,_,h2,_⟩:=h.out
 exact h2 H' (jn.e s) (s _ _ h1)
theorem EnvO.mono (e:EnvO P w K Hs H own ρ σ) (s:jn H H'):EnvO P w K Hs H' own ρ σ:=
 ⟨e.len,e.sm.trans s,fun i d h n=>let ⟨v,h1,h2⟩:=e.pl i d h n; ⟨v,h1,Rep.mono s d v h2⟩,fun i n=>let ⟨d,a,h1,h2,h3,h4⟩:=e.ow i n; ⟨d,a,h1,h2,h3,h4.mono s⟩⟩
theorem EnvO.opn {i:Nat} (e:EnvO P w K Hs H (some i) ρ σ):∃ d a c o,ρ[i]?=some (some d)/\σ[i]?=some (some (.ref a))/\Hs a=none/\Seal P w a c o/\H a=some c/\EnvR K (upd H a o) ρ σ/\jn Hs (upd H a o)/\
  (∀ H3,jn (upd H a o) H3->qf H (upd H3 a c)/\EnvO P w K Hs (upd H3 a c) (some i) ρ σ)/\∀ x H3 v,okB d x=true->H3 a=some o->Rep K H3 x v->Rep K (upd H3 a c) x v:=by
 obtain ⟨d,a,h1,h2,h3,h4⟩:=e.ow i rfl
 obtain ⟨c,o,S,h5,h6,h7,h8⟩:=h4.out
 obtain ⟨φ,rfl⟩:=S.ext
 have s1:qf H (upd H a o):=qf.upd h5
 have sH:∀ {H2:Hp},(∀ b u,b ≠ a->H b=some u->H2 b=some u)->jn Hs H2:=fun {H2} k b u q=>k b u (fun z=>by subst z; rw [h3] at q; cases q) (e.sm b u q)
 refine ⟨d,a,_,o,h1,h2,h3,S,h5,⟨e.len,fun j x q=>?_⟩,sH fun b u n q=>by rw [jt n]; exact q,fun H3 s3=>⟨fun b u q m=>?_,e.len,sH fun b u n q=>by rw [jt n]; exact s3 b u (by rw [jt n]; exact q),fun j x q n=>?_,fun j n=>?_⟩,h8⟩
 ·by_cases hj:i=j
  ·subst hj
   rw [h1] at q; cases q
   exact ⟨.ref a,h2,h6 _ s1 jp⟩
  ·obtain ⟨v,g1,g2⟩:=e.pl j x q (fun z=>hj (Option.some.inj z))
   exact ⟨v,g1,Rep.monoE s1 _ _ g2⟩
 ·have:b ≠ a:=fun z=>by subst z; rw [h5] at q; cases q; exact m _ rfl
  rw [jt this]
  exact s3 b u (by rw [jt this]; exact q)
 ·have s4:qf H (upd H3 a (.ext φ)):=fun b u q m=>by
   have:b ≠ a:=fun z=>by subst z; rw [h5] at q; cases q; exact m _ rfl
   rw [jt this]
   exact s3 b u (by rw [jt this]; exact q)
  obtain ⟨v,g1,g2⟩:=e.pl j x q n
  exact ⟨v,g1,Rep.monoE s4 _ _ g2⟩
 ·cases n
  have s4:qf H (upd H3 a (.ext φ)):=fun b u q m=>by
   have:b ≠ a:=fun z=>by subst z; rw [h5] at q; cases q; exact m _ rfl
   rw [jt this]
   exact s3 b u (by rw [jt this]; exact q)
  exact ⟨d,a,h1,h2,h3,h7 _ s4 jp⟩
end
end BX
end
section
namespace BX
open PySem PySem.Spec L2
open PyProof.Rows hiding St
noncomputable def brw (own:Option Nat) (f:RP):RP:=fun ρ=>match f (hid own ρ) with
 | some d=>some d
 | none=>match own with
  | none=>none
  | some i=>match f ρ,lkp i ρ with
   | some d,some c=>if okB c d=true then some d else none
   | _,_=>none
theorem ann {own:Option Nat}{f:RP}{ρ:Rho}{d:PyData} (h:brw own f ρ=some d):f (hid own ρ)=some d ∨ ∃ i c,own=some i/\f ρ=some d/\ρ[i]?=some (some c)/\okB c d=true:=by
 unfold brw at h
 cases h1:f (hid own ρ) with
 | some x=>rw [h1] at h; exact .inl h
 | none=>
  rw [h1] at h
  cases own with
  | none=>cases h
  | some i=>
   simp only at h
   cases h2:f ρ with
   | none=>rw [h2] at h; cases h
   | some x=>
    rw [h2] at h
    cases h3:lkp i ρ with
    | none=>rw [h3] at h; cases h
    | some c=>
     rw [h3] at h
     simp only at h
     split at h
     ·rename_i ok
      cases h
      exact .inr ⟨i,c,rfl,rfl,qT h3,ok⟩
     ·cases h
section
variable {X:Cx}{e a b c tg src:Expr}{es:List Expr}{st:Stmt}{sts qp:List Stmt}{fa fb fc:RP}{F G:RO}{pos:Pos}{own:Option Nat}
noncomputable def tE (P:Program) (w:World) (K:Fg) (own:Option Nat) (f:RP):TE:=fun σ H Q=>∃ Hs ρ d,EnvO P w K Hs H own ρ σ/\brw own f ρ=some d/\∀ v H',qf H H'->EnvO P w K Hs H' own ρ σ->Rep K H' d v->Q v H'
theorem ahx (h:PD X e fa):PE X e (tE X.prog X.w X.K own fa):=by
 with_unfolding_all
  intro Kp s σ H Q I ⟨Hs,ρ,d,E,hb,k⟩
  rcases ann hb with h1 | ⟨i,c,ho,h1,h2,ok⟩
  ·exact h Kp s σ H Q I ⟨hid own ρ,d,E.hid,h1,fun v H' s r=>k v H' (jn.e s) (E.mono s) r⟩
  ·subst ho
   obtain ⟨d0,a,cl,o,g1,g2,g3,S,g4,env,sm,back,keep⟩:=E.opn
   rw [h2] at g1; cases g1
   refine thn (h Kp s σ (upd H a o) (fun v H3=>jn (upd H a o) H3/\Rep X.K H3 d v) (Inv.opened I S g4) ⟨ρ,d,env,h1,fun v H3 s3 r3=>⟨s3,r3⟩⟩) fun u s1 ⟨v,H3,I3,r,s3,r3⟩=>?_
   have e3:H3 a=some o:=s3 _ _ jp
   exact ⟨v,upd H3 a cl,Inv.closed I3 S e3 (by obtain ⟨φ,rfl⟩:=S.ext; exact Inv.nofrz I g4),r,k v _ (back H3 s3).1 (back H3 s3).2 (keep d H3 v ok e3 r3)⟩
noncomputable def tT (P:Program) (w:World) (K:Fg) (own:Option Nat) (f:Rho->Option Bool):TT:=fun σ H Q=>∃ Hs ρ d,EnvO P w K Hs H own ρ σ/\f ρ=some d/\∀ H',qf H H'->EnvO P w K Hs H' own ρ σ->Q d H'
theorem apw {tc:Rho->Option Bool} (h:PTD X e tc):PT X e (tT X.prog X.w X.K own tc):=by
 with_unfolding_all
  intro Kp s σ H Q I ⟨Hs,ρ,d,E,h1,k⟩
  cases own with
  | none=>exact h Kp s σ H Q I ⟨ρ,d,E.to,h1,fun H' s=>k H' (jn.e s) (E.mono s)⟩
  | some i=>
   obtain ⟨d0,a,cl,o,g1,g2,g3,S,g4,env,sm,back,keep⟩:=E.opn
   refine thn (h Kp s σ (upd H a o) (fun b H3=>b=d/\jn (upd H a o) H3) (Inv.opened I S g4) ⟨ρ,d,env,h1,fun H3 s3=>⟨rfl,s3⟩⟩) fun b s1 ⟨H3,I3,hb,s3⟩=>?_
   subst hb
   exact ⟨upd H3 a cl,Inv.closed I3 S (s3 _ _ jp) (by obtain ⟨φ,rfl⟩:=S.ext; exact Inv.nofrz I g4),k _ (back H3 s3).1 (back H3 s3).2⟩
noncomputable def tF (P:Program) (w:World) (K:Fg) (own:Option Nat) (f:RP):TE:=fun σ H Q=>∃ Hs ρ d,EnvO P w K Hs H own ρ σ/\f ρ=some d/\∀ v H',jn Hs H'->Rep K H' d v->Q v H'
theorem apx (h:PD X e fa):PE X e (tF X.prog X.w X.K own fa):=by
 with_unfolding_all
  intro Kp s σ H Q I ⟨Hs,ρ,d,E,h1,k⟩
  cases own with
  | none=>exact h Kp s σ H Q I ⟨ρ,d,E.to,h1,fun v H' s r=>k v H' (E.sm.trans s) r⟩
  | some i=>
   obtain ⟨d0,a,cl,o,g1,g2,g3,S,g4,env,sm,back,keep⟩:=E.opn
   exact h Kp s σ (upd H a o) Q (Inv.opened I S g4) ⟨ρ,d,env,h1,fun v H3 s3 r3=>k v H3 (sm.trans s3) r3⟩
noncomputable def aq3 (P:Program) (w:World) (K:Fg) (Hs:Hp) (own:Option Nat) (D:Ends):Out->Prop
 | .nx ρ=>∀ σ H,EnvO P w K Hs H own ρ σ->D.nx σ H
 | .rt d=>∀ v H,jn Hs H->Rep K H d v->D.rt v H
 | .bk ρ=>∀ σ H,EnvO P w K Hs H own ρ σ->D.bk σ H
 | .ct ρ=>∀ σ H,EnvO P w K Hs H own ρ σ->D.ct σ H
noncomputable def tOS (P:Program) (w:World) (K:Fg) (own:Option Nat) (F:RO):TS:=fun D σ H=>∃ Hs ρ o,EnvO P w K Hs H own ρ σ/\F ρ=some o/\aq3 P w K Hs own D o
@[irreducible] noncomputable def PSO (X:Cx) (own:Option Nat) (st:Stmt) (F:RO):Prop:=PS X st (tOS X.prog X.w X.K own F)
@[irreducible] noncomputable def adx (X:Cx) (own:Option Nat) (sts:List Stmt) (F:RO):Prop:=PSs X sts (tOS X.prog X.w X.K own F)
theorem acQ (h:adx X none sts F):Zb X sts F:=by
 with_unfolding_all
  refine PSs.imp h fun D σ H ⟨ρ,o,en,q,k⟩=>⟨H,ρ,o,EnvO.of en (jn.refl H),q,?_⟩
  cases o with
  | nx ρ'=>exact fun σ' H' E=>k σ' H' E.sm E.to
  | rt d=>exact fun v H' s r=>k v H' s r
  | bk ρ'=>exact fun σ' H' E=>k σ' H' E.sm E.to
  | ct ρ'=>exact fun σ' H' E=>k σ' H' E.sm E.to
theorem JU:adx X own [] qu:=by
 with_unfolding_all
  refine PSs.imp aeq fun D σ H ⟨Hs,ρ,o,E,q,k⟩=>?_
  cases q
  exact k σ H E
theorem j6 (h1 : PSO X own st F) (h2 : adx X own qp G) : adx X own (st :: qp) (jK F G) := by
  with_unfolding_all
   refine PSs.imp (Qz h1 h2) fun D σ H ⟨Hs, ρ, o, E, q, k⟩ => ?_
   cases hf : F ρ with
   | none => simp [jK, hf] at q
   | some p =>
     refine ⟨Hs, ρ, p, E, hf, ?_⟩
     cases p with
     | nx ρ' => exact fun σ' H' E' => ⟨Hs, ρ', o, E', by simpa [jK, hf] using q, k⟩
     | rt d => have : Out.rt d = o := by simpa [jK, hf] using q
               subst this; exact k
     | bk d => have : Out.bk d = o := by simpa [jK, hf] using q
               subst this; exact k
     | ct d => have : Out.ct d = o := by simpa [jK, hf] using q
               subst this; exact k
theorem aeH (h:PD X e fa):PSO X own (.Return (some e) pos) (qB fa):=by
 with_unfolding_all
  refine PS.imp (aes (apx (own:=own) h)) fun D σ H ⟨Hs,ρ,o,E,q,k⟩=>?_
  cases h1:fa ρ with
  | none=>simp [qB,h1] at q
  | some d=>
   have:Out.rt d=o:=by simpa [qB,h1] using q
   subst this
   exact ⟨Hs,ρ,d,E,h1,k⟩
theorem EnvO.set {P:Program}{w:World}{K:Fg}{Hs H:Hp}{ρ:Rho}{σ:St}{i:Nat}{d:PyData}{v:V} (E:EnvO P w K Hs H own ρ σ) (hi:own ≠ some i) (r:Rep K H d v):EnvO P w K Hs H own (ρ.set i (some d)) (σ.set i (some v)):=by
 refine ⟨by simp [E.len],E.sm,fun j x q n=>?_,fun j n=>?_⟩
 ·by_cases hj:i=j
  ·subst hj
   rw [List.getElem?_set] at q ⊢
   simp only [zzM] at q ⊢
   by_cases hl:i < ρ.length
   ·rw [if_pos hl] at q
    rw [if_pos (by rw [←E.len]; exact hl)]
    cases q
    exact ⟨v,rfl,r⟩
   ·rw [if_neg hl] at q; cases q
  ·rw [List.getElem?_set_ne hj] at q ⊢
   exact E.pl j x q n
 ·have hj:i ≠ j:=fun z=>by subst z; exact hi n
  rw [List.getElem?_set_ne hj,List.getElem?_set_ne hj]
  exact E.ow j n
theorem Qe (i:Nat) {x:Str}{pos':Pos} (hN:X.N.Nodup) (he:PD X e fa) (ho:own ≠ some i:=by decide) (hi:X.N[i]?=some x:=by rfl) (hx:Loc X.env.scope x:=by first | exact Or.inl rfl | exact Or.inr rfl) (hs:swapsWith e (some (.Name x pos')) pos.line X.env=pure false:=by rfl)
  (hf:X.fn x=true ∨ X.env.scope.names.lookup x=some .local:=by first | exact .inl rfl | exact .inr rfl | assumption):PSO X own (.Assign [.Name x pos'] e pos) (qV (brw own fa) (jO i)):=by
 with_unfolding_all
  refine PS.imp (abb hN hi hx (ahx (own:=own) he) hs hf) fun D σ H ⟨Hs,ρ,o,E,q,k⟩=>?_
  cases h1:brw own fa ρ with
  | none=>simp [qV,h1] at q
  | some d=>
   have:Out.nx (ρ.set i (some d))=o:=by simpa [qV,h1,jO] using q
   subst this
   exact ⟨Hs,ρ,d,E,h1,fun v H1 _ E1 r1=>k _ H1 (E1.set ho r1)⟩
end
section
variable {X:Cx}{e a b c tg src:Expr}{es:List Expr}{st:Stmt}{sts qp body:List Stmt}{fa fb fc:RP}{F G:RO}{pos:Pos}{own:Option Nat}
@[irreducible] noncomputable def PGO (X:Cx) (own:Option Nat) (tg:Expr) (ga:PyData->Rho->Option Rho):Prop:=
 PG X tg fun v σ H Q=>∃ Hs ρ d ρ',EnvO X.prog X.w X.K Hs H own ρ σ/\Rep X.K H d v/\ga d ρ=some ρ'/\∀ σ' H',EnvO X.prog X.w X.K Hs H' own ρ' σ'->Q σ' H'
@[irreducible] noncomputable def ano (X:Cx) (own:Option Nat) (ts:List Expr) (ga:LP->Rho->Option Rho):Prop:=
 PGs X ts fun vs σ H Q=>∃ Hs ρ ds ρ',EnvO X.prog X.w X.K Hs H own ρ σ/\Reps X.K H ds vs/\ga ds ρ=some ρ'/\∀ σ',EnvO X.prog X.w X.K Hs H own ρ' σ'->Q σ' H
theorem acR:ano X own [] qq:=by
 with_unfolding_all
  refine PGs.imp aif fun vs σ H Q ⟨Hs,ρ,ds,ρ',E,r,q,k⟩=>?_
  cases ds with
  | nil=>cases r; cases q; exact ⟨rfl,k σ E⟩
  | cons d ds=>cases q
theorem JL (i:Nat) {x:Str}{gr:LP->Rho->Option Rho} (hN:X.N.Nodup) (h2:ano X own es gr) (ho:own ≠ some i:=by decide) (hi:X.N[i]?=some x:=by rfl) (hx:Loc X.env.scope x:=by first | exact Or.inl rfl | exact Or.inr rfl)
  (hf:X.fn x=true ∨ X.env.scope.names.lookup x=some .local:=by first | exact .inl rfl | exact .inr rfl | assumption)
  (hs:(assignEach (.Name x pos::es) X.env).map (·.2)=assign (.Name x pos) X.env::(assignEach es X.env).map (·.2):=by rfl):ano X own (.Name x pos::es) (jG (jO i) gr):=by
 with_unfolding_all
  refine PGs.imp (afI (aca hN hi hx hf) h2 hs) fun vs σ H Q ⟨Hs,ρ,ds,ρ',E,r,q,k⟩=>?_
  cases ds with
  | nil=>cases q
  | cons d ds=>
   obtain ⟨y,rr,e1,r1,r2⟩:=r
   subst e1
   exact ⟨y,rr,rfl,Hs,_,ds,ρ',E.set ho r1,r2,by simpa [jG,jO] using q,k⟩
theorem aeI {k n:Nat}{gr:LP->Rho->Option Rho} (hc:X.calm=true) (h:ano X own es gr) (hn:(assignEach es X.env).length=n:=by rfl) (hst:(assignEach es X.env).findIdx? (·.1)=none:=by rfl):
  PGO X own (.Tuple es k pos) (zC n gr):=by
 with_unfolding_all
  refine PG.imp (akD hc h hn hst) fun v σ H Q ⟨Hs,ρ,d,ρ',E,r,q,k⟩=>?_
  cases d with
  | tuple ds=>
   obtain ⟨a,xs,e1,e2,e3⟩:=r
   by_cases hl:ds.length=n
   ·exact ⟨a,xs,e1,e2,by rw [e3.length]; exact hl,Hs,ρ,ds,ρ',E,e3,by simpa [zC,hl] using q,fun σ' E'=>k σ' H E'⟩
   ·simp [zC,hl] at q
  | _=>simp [zC] at q
theorem EnvO.rebase {P:Program}{w:World}{K:Fg}{Hs H:Hp}{ρ:Rho}{σ:St} (E:EnvO P w K Hs H own ρ σ):∃ Hb,EnvO P w K Hb H own ρ σ/\(∀ H3,jn Hb H3->qf H H3)/\
  (∀ H3 ρ3 σ3,EnvO P w K Hb H3 own ρ3 σ3->EnvO P w K Hs H3 own ρ3 σ3)/\∀ H3,jn Hb H3->jn Hs H3:=by
 cases own with
 | none=>exact ⟨H,⟨E.len,jn.refl H,E.pl,fun i z=>nomatch z⟩,fun _ s=>jn.e s,fun H3 ρ3 σ3 E3=>⟨E3.len,E.sm.trans E3.sm,E3.pl,fun i z=>nomatch z⟩,fun _ s=>E.sm.trans s⟩
 | some i=>
  obtain ⟨d,a,h1,h2,h3,h4⟩:=E.ow i rfl
  obtain ⟨c,o,S,h5,_⟩:=h4.out
  obtain ⟨φ,rfl⟩:=S.ext
  let Hb:Hp:=fun b=>if b=a then none else H b
  have ha:Hb a=none:=if_pos rfl
  have hb:∀ b,b ≠ a->Hb b=H b:=fun b n=>if_neg n
  have sH:∀ H3,jn Hb H3->jn Hs H3:=fun H3 s b u q=>by
   have n:b ≠ a:=fun z=>by subst z; rw [h3] at q; cases q
   exact s b u (by rw [hb b n]; exact E.sm b u q)
  refine ⟨Hb,⟨E.len,fun b u q=>?_,E.pl,fun j n=>?_⟩,fun H3 s b u q m=>?_,fun H3 ρ3 σ3 E3=>⟨E3.len,sH H3 E3.sm,E3.pl,fun j n=>?_⟩,sH⟩
  ·by_cases n:b=a
   ·subst n; rw [ha] at q; cases q
   ·rw [hb b n] at q; exact q
  ·cases n
   exact ⟨d,a,h1,h2,ha,h4⟩
  ·have n:b ≠ a:=fun z=>by subst z; rw [h5] at q; cases q; exact m _ rfl
   exact s b u (by rw [hb b n]; exact q)
  ·obtain ⟨d3,a3,g1,g2,g3,g4⟩:=E3.ow j n
   refine ⟨d3,a3,g1,g2,?_,g4⟩
   by_cases z:a3=a
   ·rw [z]; exact h3
   ·rw [hb a3 z] at g3
    cases q:Hs a3 with
    | none=>rfl
    | some u=>have:=E.sm _ _ q; rw [g3] at this; cases this
theorem aiz {fi:Rho->Option (LP)}{ga:PyData->Rho->Option Rho} (hp:PassesOwn (model X.prog X.w) X.A X.env X.xe) (hc:X.calm=true) (hi:PID X tg src fi) (hg:PGO X own tg ga) (hb:adx X own body F)
  (hs:∀ x,foldedSetIterable src X.env x=pure x:=by intro _; rfl):PSO X own (.For tg src body [] pos) (abm (fun ρ=>fi (hid own ρ)) ga F):=by
 with_unfolding_all
  refine PS.imp (abd hp hc hi hg hb hs) fun D σ H ⟨Hs,ρ,o,E,q,k⟩=>?_
  cases h1:fi (hid own ρ) with
  | none=>simp [abm,h1] at q
  | some ds=>
   have q':qj ga F ds ρ=some o:=by simpa [abm,h1] using q
   refine ⟨hid own ρ,ds,E.hid,h1,fun J H1 s1 Y=>?_⟩
   obtain ⟨Hb,Eb,sE,back,sb⟩:=(E.mono s1).rebase
   refine ⟨fun i m σ H2=>m=ds.length - i/\i<=ds.length/\∃ ρ2,EnvO X.prog X.w X.K Hb H2 own ρ2 σ/\qj ga F (ds.drop i) ρ2=some o,⟨ds.length,by simp,Nat.zero_le _,ρ,Eb,by simpa using q'⟩,?_⟩
   rintro i m σ2 H2 ⟨rfl,hi,ρ2,en2,q2⟩
   obtain ⟨g1,g2,g3⟩:=Y i H2 (qf.a (sE H2 en2.sm))
   by_cases hlt:i<ds.length
   ·right
    have hd:ds.drop i=ds[i]::ds.drop (i+1):=List.drop_eq_getElem_cons hlt
    rw [hd] at q2
    refine ⟨g1 hlt,fun σ3 H3=>∃ ρ3,EnvO X.prog X.w X.K Hb H3 own ρ3 σ3/\qj ga F (ds.drop (i+1)) ρ3=some o,fun σ3 H3 ⟨ρ3,a2,a3⟩=>⟨ds.length - (i+1),by omega,rfl,hlt,ρ3,a2,a3⟩,fun x H3 y=>?_⟩
    obtain ⟨s3,r3⟩:=g3 x H3 y
    have r3':=r3 ds[i] (by simp [hlt])
    cases h4:ga ds[i] ρ2 with
    | none=>simp [qj,h4] at q2
    | some ρ4=>
     refine ⟨Hb,ρ2,ds[i],ρ4,en2.mono s3,r3',h4,fun σ5 H5 en5=>?_⟩
     cases h5:F ρ4 with
     | none=>simp [qj,h4,h5] at q2
     | some p=>
      refine ⟨Hb,ρ4,p,en5,h5,?_⟩
      cases p with
      | nx ρ6=>exact fun σ6 H6 en6=>⟨ρ6,en6,by simpa [qj,h4,h5] using q2⟩
      | ct ρ6=>exact fun σ6 H6 en6=>⟨ρ6,en6,by simpa [qj,h4,h5] using q2⟩
      | bk ρ6=>
       have:Out.nx ρ6=o:=by simpa [qj,h4,h5] using q2
       subst this
       exact fun σ6 H6 en6=>k σ6 H6 (back _ _ _ en6)
      | rt d=>
       have:Out.rt d=o:=by simpa [qj,h4,h5] using q2
       subst this
       exact fun v H6 s6 r6=>k v H6 (sb _ s6) r6
   ·left
    have he:i=ds.length:=by omega
    have hn:ds.drop i=[]:=by rw [he]; simp
    rw [hn] at q2
    have:Out.nx ρ2=o:=by simpa [qj] using q2
    subst this
    exact ⟨g2 (by omega),k σ2 H2 (back _ _ _ en2)⟩
noncomputable def zX (tc:Rho->Option Bool) (F:RO):Nat->RO
 | 0,_=>none
 | n+1,ρ=>(tc ρ).bind fun x=>if x=true then (F ρ).bind fun o=>match o with
   | .nx ρ2=>zX tc F n ρ2
   | .ct ρ2=>zX tc F n ρ2
   | .bk ρ2=>some (.nx ρ2)
   | .rt d=>some (.rt d)
  else some (.nx ρ)
theorem ajz (n:Nat) {tc:Rho->Option Bool} (hp:PassesOwn (model X.prog X.w) X.A X.env X.xe) (hc:PTD X c tc) (hb:adx X own body F):PSO X own (.While c body [] pos) (zX tc F n):=by
 with_unfolding_all
  refine PS.imp (akE hp (apw (own:=own) hc) hb) fun D σ H ⟨Hs,ρ,o,E,q,k⟩=>?_
  refine ⟨fun m σ H=>∃ ρ,EnvO X.prog X.w X.K Hs H own ρ σ/\zX tc F m ρ=some o,⟨n,ρ,E,q⟩,?_⟩
  rintro m σ2 H2 ⟨ρ2,E2,q2⟩
  cases m with
  | zero=>cases q2
  | succ m=>
   cases h1:tc ρ2 with
   | none=>simp [zX,h1] at q2
   | some x=>
    refine ⟨Hs,ρ2,x,E2,h1,fun H3 _ E3=>?_⟩
    cases x with
    | false=>
     rw [if_neg Bool.false_ne_true]
     have:Out.nx ρ2=o:=by simpa [zX,h1] using q2
     subst this
     exact k σ2 H3 E3
    | true=>
     rw [if_pos rfl]
     refine ⟨fun σ4 H4=>∃ ρ4,EnvO X.prog X.w X.K Hs H4 own ρ4 σ4/\zX tc F m ρ4=some o,fun σ4 H4 ⟨ρ4,a1,a2⟩=>⟨m,Nat.lt_succ_self m,ρ4,a1,a2⟩,?_⟩
     cases h5:F ρ2 with
     | none=>simp [zX,h1,h5] at q2
     | some p=>
      refine ⟨Hs,ρ2,p,E3,h5,?_⟩
      cases p with
      | nx ρ6=>exact fun σ6 H6 en6=>⟨ρ6,en6,by simpa [zX,h1,h5] using q2⟩
      | ct ρ6=>exact fun σ6 H6 en6=>⟨ρ6,en6,by simpa [zX,h1,h5] using q2⟩
      | bk ρ6=>
       have:Out.nx ρ6=o:=by simpa [zX,h1,h5] using q2
       subst this
       exact fun σ6 H6 en6=>k σ6 H6 en6
      | rt d=>
       have:Out.rt d=o:=by simpa [zX,h1,h5] using q2
       subst this
       exact fun v H6 s6 r6=>k v H6 s6 r6
end
theorem QN {H:Hp}{a:Addr}{o o':HO}:upd (upd H a o) a o'=upd H a o':=by
 funext b
 by_cases h:b=a
 ·subst h; rw [jp,jp]
 ·rw [jt h,jt h,jt h]
section
variable {P:Program}{w:World}{K:Fg}{Hs H:Hp}{ρ:Rho}{σ:St}{i:Nat}
theorem EnvO.put {a:Addr}{d d':PyData}{φ:Heap->Prop}{H3:Hp}{c:HO} (E:EnvO P w K Hs H (some i) ρ σ) (h0:ρ[i]?=some (some d)) (h2:σ[i]?=some (some (.ref a))) (h3:Hs a=none) (h5:H a=some (.ext φ))
  (s3:∀ b u,b ≠ a->H b=some u->H3 b=some u) (ow:aaF P w K (upd H3 a c) a d'):EnvO P w K Hs (upd H3 a c) (some i) (ρ.set i (some d')) σ:=by
 have hi:i < ρ.length:=(List.getElem?_eq_some_iff.mp h0).1
 have s4:qf H (upd H3 a c):=fun b u q m=>by
  have:b ≠ a:=fun z=>by subst z; rw [h5] at q; cases q; exact m _ rfl
  rw [jt this]; exact s3 b u this q
 refine ⟨by simp [E.len],fun b u q=>?_,fun j x q n=>?_,fun j n=>?_⟩
 ·have:b ≠ a:=fun z=>by subst z; rw [h3] at q; cases q
  rw [jt this]; exact s3 b u this (E.sm b u q)
 ·have hj:i ≠ j:=fun z=>n (by rw [z])
  rw [List.getElem?_set_ne hj] at q
  obtain ⟨v,g1,g2⟩:=E.pl j x q n
  exact ⟨v,g1,Rep.monoE s4 _ _ g2⟩
 ·cases n
  exact ⟨d',a,by rw [List.getElem?_set_self hi],h2,h3,ow⟩
theorem EnvO.opnL {ds:LP} (E:EnvO P w K Hs H (some i) ρ σ) (h:ρ[i]?=some (some (.list ds))):∃ a xs,σ[i]?=some (some (.ref a))/\Hs a=none/\H a=some (qt a xs)/\Reps K H ds xs/\EnvR K (upd H a (.lst xs)) ρ σ:=by
 obtain ⟨d,a,h1,h2,h3,h4⟩:=E.ow i rfl
 rw [h] at h1; cases h1
 obtain ⟨xs,h5,h6⟩:=h4
 have s1:qf H (upd H a (.lst xs)):=qf.upd h5
 refine ⟨a,xs,h2,h3,h5,h6,E.len,fun j x q=>?_⟩
 by_cases hj:i=j
 ·subst hj
  rw [h] at q; cases q
  exact ⟨.ref a,h2,a,xs,rfl,jp,Reps.monoE s1 _ _ h6⟩
 ·obtain ⟨v,g1,g2⟩:=E.pl j x q (fun z=>hj (Option.some.inj z))
  exact ⟨v,g1,Rep.monoE s1 _ _ g2⟩
end
section
variable {X:Cx}{e a b c tg src:Expr}{es:List Expr}{st:Stmt}{sts qp body:List Stmt}{fa fb fc:RP}{F G:RO}{pos:Pos}
noncomputable def apy (P:Program) (w:World) (K:Fg) (i:Nat) (g:RP):TE:=fun σ H Q=>∃ Hs ρ d',EnvO P w K Hs H (some i) ρ σ/\g ρ=some d'/\∀ H',EnvO P w K Hs H' (some i) (ρ.set i (some d')) σ->Q .non H'
noncomputable def ale (i:Nat) (g:RP):RO:=fun ρ=>(g ρ).map fun d=> .nx (ρ.set i (some d))
theorem aeJ {i:Nat}{g:RP} (h:PE X e (apy X.prog X.w X.K i g)) (hs:swapsWith e none pos.line X.env=pure false:=by rfl):PSO X (some i) (.Expr e pos) (ale i g):=by
 with_unfolding_all
  refine PS.imp (ab9 h hs) fun D σ H ⟨Hs,ρ,o,E,q,k⟩=>?_
  cases h1:g ρ with
  | none=>simp [ale,h1] at q
  | some d=>
   have:Out.nx (ρ.set i (some d))=o:=by simpa [ale,h1] using q
   subst this
   exact ⟨Hs,ρ,d,E,h1,fun H' E'=>k σ H' E'⟩
theorem aaj {n:Nat} (h:n<1000000):n<sizeLine:=Nat.lt_of_lt_of_le h (by rw [sizeLine_eq]; decide)
end
section
variable {X:Cx}{e a b c tg src:Expr}{es:List Expr}{st:Stmt}{sts qp body:List Stmt}{fa fb fc:RP}{F G:RO}{pos:Pos}
@[irreducible] noncomputable def PN (X:Cx) (e:Expr) (f:RP):Prop:=
 PE X e fun σ H Q=>∃ ρ d,EnvR X.K H ρ σ/\f ρ=some d/\∀ a H',jn H H'->H a=none->aaF X.prog X.w X.K H' a d->Q (.ref a) H'
theorem acS {fr:Rho->Option (LP)} (h:PAD X es fr):PN X (.List es pos) (zB fr):=by
 with_unfolding_all
  intro Kp s σ H Q I ⟨ρ,d,en,hf,k⟩
  cases h1:fr ρ with
  | none=>simp [zB,h1] at hf
  | some ds=>
   by_cases hfew:few ds=true
   ·have:PyData.list ds=d:=by simpa [zB,h1,hfew] using hf
    subst this
    refine thn (ahl h Kp s σ H (fun v H2=>∃ a xs H1,v= .ref a/\H1 a=none/\jn H H1/\H2=upd H1 a (.lst xs)/\Reps X.K H1 ds xs) I ⟨ρ,ds,en,h1,fun vs H1 s1 r1=>⟨by rw [r1.length]; exact acI (by simpa [few] using hfew),fun l hl=>⟨l,vs,H1,rfl,hl,s1,rfl,r1⟩⟩⟩) fun u s1 ⟨v,H2,I2,r,a,xs,H1,e1,e2,s1',e3,r1⟩=>?_
    subst e1
    have e4:H2 a=some (.lst xs):=by rw [e3]; exact jp
    have e5:upd H2 a (qt a xs)=upd H1 a (qt a xs):=by rw [e3,QN]
    have s2:jn H1 (upd H2 a (qt a xs)):=by rw [e5]; exact jV e2
    exact ⟨.ref a,_,Inv.closed I2 (.l xs) e4 (fun ob u z=>by have:=I.base.frzs _ _ _ z; rw [s1'.free e2] at this; cases this),r,k a _ (s1'.trans s2) (s1'.free e2) ⟨xs,jp,Reps.mono s2 _ _ r1⟩⟩
   ·simp [zB,h1,hfew] at hf
noncomputable def abp (i:Nat) (f:RP) (G:RO):RO:=fun ρ=>(f ρ).bind fun d=>if i < ρ.length then (G (ρ.set i (some d))).bind fun o=>match o with
  | .rt c=>some (.rt c)
  | _=>none
 else none
theorem acT (i:Nat) {x:Str}{pos':Pos} (hN:X.N.Nodup) (he:PN X e fa) (h:adx X (some i) qp G) (hi:X.N[i]?=some x:=by rfl) (hx:Loc X.env.scope x:=by first | exact Or.inl rfl | exact Or.inr rfl) (hs:swapsWith e (some (.Name x pos')) pos.line X.env=pure false:=by rfl)
  (hf:X.fn x=true ∨ X.env.scope.names.lookup x=some .local:=by first | exact .inl rfl | exact .inr rfl | assumption):adx X none (.Assign [.Name x pos'] e pos::qp) (abp i fa G):=by
 with_unfolding_all
  refine PSs.imp (Qz (abb hN hi hx he hs hf) h) fun D σ H ⟨Hs,ρ,o,E,q,k⟩=>?_
  cases h1:fa ρ with
  | none=>simp [abp,h1] at q
  | some d=>
   by_cases hl:i < ρ.length
   ·cases h2:G (ρ.set i (some d)) with
    | none=>simp [abp,h1,h2] at q
    | some p=>
     cases p with
     | rt c=>
      have:Out.rt c=o:=by simpa [abp,h1,h2,hl] using q
      subst this
      refine ⟨ρ,d,E.to,h1,fun a H' s hn ow=>⟨Hs,ρ.set i (some d),.rt c,⟨by simp [E.len],E.sm.trans s,fun j y q n=>?_,fun j n=>?_⟩,h2,k⟩⟩
      ·have hj:i ≠ j:=fun z=>n (by rw [z])
       rw [List.getElem?_set_ne hj] at q ⊢
       obtain ⟨v,g1,g2⟩:=E.pl j y q (fun z=>nomatch z)
       exact ⟨v,g1,Rep.mono s _ _ g2⟩
      ·cases n
       refine ⟨d,a,by rw [List.getElem?_set_self hl],by rw [List.getElem?_set_self (by rw [←E.len]; exact hl)],E.sm.free hn,ow⟩
     | nx _=>simp [abp,h1,h2,hl] at q
     | bk _=>simp [abp,h1,h2,hl] at q
     | ct _=>simp [abp,h1,h2,hl] at q
   ·simp [abp,h1,hl] at q
noncomputable def isI (n:Int):PyData->Bool
 | .int m=>decide (m=n)
 | _=>false
noncomputable def asH (r:List (PyData × PyData)) (n:Int) (d:PyData):List (PyData × PyData):=if r.any (fun p=>isI n p.1)=true then r.map (fun p=>if isI n p.1=true then (p.1,d) else p) else r++[(.int n,d)]
end
section
variable {X:Cx}{e a b c tg src:Expr}{es:List Expr}{fa fb fc:RP}{pos:Pos}
end
section
variable {X:Cx}{e a b c tg src:Expr}{es:List Expr}{fa fb fc:RP}{pos:Pos}
end
end BX
end
section
namespace BX
open PySem PySem.Spec L2
theorem af2 (l:Addr) (items:Array Value) (n:Nat) (u:Tok) (dd:Option Addr) (sl:Array (Option Value)):
  Meets (Builtin.«tuple.__mul__» ⟨[.ref l,.int 1 u],[]⟩) (fun _ R s=>s.heap.get? l=some { cls:= .type "tuple",dict:=dd,data:= .seq items n,slots:=sl }/\R (.ok (.ret (.ref l))) s):=
 .of_wp fun prog w A R s h=>by
  obtain ⟨hp,g,d,tk,os⟩:=s
  obtain ⟨hl,h⟩:=h
  have e1:(items.isEmpty || (1:Int) == 1)=true:=by simp
  wp_walk
  exact ⟨_,rfl,h⟩
theorem af3 (l:Addr) (items:Array Value) (n:Nat) (x:Int) (u:Tok) (dd:Option Addr) (sl:Array (Option Value)) (hx:x<=0) (hx2:-(2 ^ 63)<=x) (hi:items.isEmpty=false):
  Meets (Builtin.«tuple.__mul__» ⟨[.ref l,.int x u],[]⟩) (fun _ R s=>s.heap.get? l=some { cls:= .type "tuple",dict:=dd,data:= .seq items n,slots:=sl }/\R (.ok (.ret (.ref s.heap.objs.size))) { s with heap:=s.heap.push { cls:= .type "tuple",data:= .seq #[] } }):=
 .of_wp fun prog w A R s h=>by
  obtain ⟨hp,g,d,tk,os⟩:=s
  obtain ⟨hl,h⟩:=h
  have e0:(decide (x < -(2 ^ 63)) || decide (x >= 2 ^ 63))=false:=by simp; omega
  have e1:(items.isEmpty || x == 1)=false:=by rw [hi]; simp; omega
  have e2:(decide (x<=0) || items.isEmpty)=true:=by simp [hx]
  wp_walk
  refine wpAny_ite_false (by rw [e0]; rfl) ?_
  wp_walk
  refine wpAny_ite_false (by rw [e1]; rfl) ?_
  wp_walk
  exact ⟨_,rfl,h⟩
theorem af4 (l:Addr) (items:Array Value) (n:Nat) (x:Int) (u:Tok) (dd:Option Addr) (sl:Array (Option Value)) (hx:2<=x) (hx2:x<2 ^ 63) (hi:items.isEmpty=false) (hz:(items.size:Int)*x<=sizeLine) (hsz:(List.foldl (fun x1 x2=>x1++x2) #[] (List.replicate x.toNat items)).size<=sizeLine):
  Meets (Builtin.«tuple.__mul__» ⟨[.ref l,.int x u],[]⟩) (fun _ R s=>s.heap.get? l=some { cls:= .type "tuple",dict:=dd,data:= .seq items n,slots:=sl }/\R (.ok (.ret (.ref s.heap.objs.size))) { s with heap:=s.heap.push { cls:= .type "tuple",data:= .seq (List.foldl (fun x1 x2=>x1++x2) #[] (List.replicate x.toNat items)) } }):=
 .of_wp fun prog w A R s h=>by
  obtain ⟨hp,g,d,tk,os⟩:=s
  obtain ⟨hl,h⟩:=h
  have hs:((2 ^ 63 - 1) / 8:Int) >= (sizeLine:Int):=by rw [sizeLine_eq]; decide
  have e0:(decide (x < -(2 ^ 63)) || decide (x >= 2 ^ 63))=false:=by simp; omega
  have e1:(items.isEmpty || x == 1)=false:=by rw [hi]; simp; omega
  have e2:(decide (x<=0) || items.isEmpty)=false:=by rw [hi]; simp; omega
  have e3:¬ (items.size:Int)*x > (2 ^ 63 - 1) / 8:=by omega
  have e4:Builtin.Tuple.tupleTooMany ((items.size:Int)*x)=false:=by simp [Builtin.Tuple.tupleTooMany]; omega
  wp_walk
  refine wpAny_ite_false (by rw [e0]; rfl) ?_
  wp_walk
  refine wpAny_ite_false (by rw [e1]; rfl) ?_
  wp_walk
  refine wpAny_ite_false (by rw [e2]; rfl) ?_
  wp_walk
  rw [if_neg e3]
  refine wpAny_ite_false (by rw [e4]; rfl) ?_
  wp_walk
  exact ⟨_,rfl,h⟩
theorem abq:fillsNumberSlot (.type "tuple") "mul"=pure false:=
 PySem.fillsNumberSlot_seq (id:="tuple.__mul__") (r:=some (.builtin "tuple.__rmul__")) F.slot_tuple_mul.lookup (by decide +kernel) F.slot_tuple_rmul.lookup (by decide +kernel)
theorem aeK:seqRepeat? (.type "tuple")=pure (some (.builtin "tuple.__mul__")):=by
 unfold seqRepeat?
 rw [PySem.seqSlot_of (T:="tuple") (name:="__mul__") (id:="tuple.__mul__") F.slot_tuple_mul.lookup (by decide +kernel),PySem.seqSlot_of (T:="tuple") (name:="__rmul__") (id:="tuple.__rmul__") F.slot_tuple_rmul.lookup (by decide +kernel)]
 rfl
theorem acU (a:Int) (t:Tok) (l:Addr) (items:Array Value) (n:Nat) (dd:Option Addr) (sl:Array (Option Value)):
  Meets (Builtin.«int.__rmul__» ⟨[.int a t,.ref l],[]⟩) (fun _ R s=>s.heap.get? l=some { cls:= .type "tuple",dict:=dd,data:= .seq items n,slots:=sl }/\R (.ok (.ret Value.notImplemented)) s):=
 .of_wp fun prog w A R s h=>by
  obtain ⟨hp,g,d,tk,os⟩:=s; obtain ⟨hl,h⟩:=h
  wp_walk
  exact ⟨_,rfl,h⟩
section
open PyProof.Rows hiding St
variable {X:Cx}{e a b c tg src:Expr}{es:List Expr}{fa fb fc:RP}{pos:Pos}{qp:List Expr}
noncomputable def aq4 (K:Fg):R2:=fun x y H Q=>∃ l k xs,x= .ref l/\y= .int k/\SqT K H l xs/\0<xs.length/\-(2 ^ 63)<=k/\k<2 ^ 63/\(xs.length:Int)*k<=sizeLine/\
 (∀ p,H p=none->Q (.ref p) (upd H p (.tup (List.replicate k.toNat xs).flatten)))/\(k=1->Q (.ref l) H)
theorem anp:OpR X (binaryOp .Mult) (aq4 X.K):=by
 intro Kp s σ H x y v u Q I rx ry h
 obtain ⟨l,k,xs,rfl,rfl,hH,hne,h1,h2,hz,q,q1⟩:=h
 cases rx
 obtain ⟨t,rfl⟩:=ry
 obtain ⟨its,r,⟨⟨oc,od,odt,osl⟩,e,c,n,d⟩,hlz⟩:=I.tuple hH
 have hl:=r.length
 cases c
 cases (show odt=_ from d)
 have hi:its.toArray.isEmpty=false:=by
  cases its with
  | nil=>rw [hl] at hne; simp at hne
  | cons a r'=>simp
 refine wpAny_binaryOp_repeat_ref (T:="tuple") (U:="int") (by decide) ⟨_,e,rfl⟩ (fun s'=>typeIs_int s' k t) abq F.fills_int_mul F.slot_int_rmul aeK F.slot_int_index.lookup
  (call_meets F.slot_int_rmul (typeIs_int s k t) F.entry_int_rmul (F.args_int_rmul_2 _ _) (acU k t l its.toArray n od osl) ⟨e,rfl,⟨_,e,rfl⟩,?_⟩)
 have fresh:∀ {ys:List V} {jts:List Value},jP ys jts->ys.length<=sizeLine->Inv X Kp σ (upd H s.heap.objs.size (.tup ys)) { s with heap:=s.heap.push { cls:= .type "tuple",data:= .seq jts.toArray } }:=fun {ys jts} rv hy=>
  I.laid (t':=s.toks) (fun b o e=>Heap.get?_push_of_some _ e) (Nat.le_refl _) (show zN X.prog X.w _ _ _ (.tup ys) from ⟨hy,jts,rv,IsTup.new _ _⟩)
 by_cases k1:k=1
 ·subst k1
  exact call_meets F.slot_tuple_mul ⟨_,e,rfl⟩ F.entry_tuple_mul (F.args_tuple_mul_2 _ _) (af2 l its.toArray n t od osl) ⟨e,.ref l,H,I,rfl,q1 rfl⟩
 ·by_cases k0:k<=0
  ·have hk:k.toNat=0:=by omega
   refine call_meets F.slot_tuple_mul ⟨_,e,rfl⟩ F.entry_tuple_mul (F.args_tuple_mul_2 _ _) (af3 l its.toArray n k t od osl k0 h1 hi) ⟨e,.ref _,_,fresh (ys:=[]) (jts:=[]) .nil (Nat.zero_le _),rfl,?_⟩
   have:=q _ (I.hok.fresh (Nat.le_refl _))
   rw [hk] at this
   exact this
  ·have hnew:List.foldl (fun x1 x2=>x1++x2) #[] (List.replicate k.toNat its.toArray)=(List.replicate k.toNat its).flatten.toArray:=by
    have:=abh its k.toNat []
    rw [List.nil_append] at this
    exact this
   have hlen:((List.replicate k.toNat xs).flatten.length:Int)=xs.length*k:=by
    rw [aio,Int.natCast_mul,Int.mul_comm,Int.toNat_of_nonneg (by omega)]
   have hlen2:(List.replicate k.toNat xs).flatten.length<=sizeLine:=by omega
   have hl2:=(r.rep k.toNat).length
   refine call_meets F.slot_tuple_mul ⟨_,e,rfl⟩ F.entry_tuple_mul (F.args_tuple_mul_2 _ _) (af4 l its.toArray n k t od osl (by omega) h2 hi (by rw [List.size_toArray,←hl]; exact hz) (by rw [hnew,List.size_toArray,←hl2]; exact hlen2)) ⟨e,?_⟩
   rw [hnew]
   exact ⟨.ref _,_,fresh (r.rep k.toNat) hlen2,rfl,q _ (I.hok.fresh (Nat.le_refl _))⟩
end
end BX
end
section
namespace BX
open PySem PySem.Spec L2
open PyProof.Rows hiding St
section
variable {X:Cx}{e a b c tg src:Expr}{es:List Expr}{fa fb fc:RP}{pos:Pos}{qp:List Expr}
noncomputable def aiA (p q:PyData):OP:=match p,q with
 | .tuple ds,.int k=>if 0<ds.length/\ds.length<1000/\-1000<k/\k<1000 then some (.tuple (List.replicate k.toNat ds).flatten) else none
 | _,_=>none
theorem alf:OpD X (binaryOp .Mult) aiA:=by
 refine ⟨_,anp,fun p q d x y H Q h rx ry k=>?_⟩
 unfold aiA at h
 split at h
 ·rename_i ds n
  split at h
  ·rename_i hc
   cases h
   obtain ⟨a,us,e1,e2,e3⟩:=rx
   cases (show y=V.int n from ry)
   have hl:=e3.length
   have hz:(us.length:Int)*n<=1000000:=by
    have h1:(us.length:Int)*n<=us.length*1000:=Int.mul_le_mul_of_nonneg_left (by omega) (by omega)
    omega
   refine ⟨a,n,us,e1,rfl,e2,by omega,by omega,by omega,Int.le_trans hz (by rw [sizeLine_eq]; decide),fun p hp=>?_,fun h1=>?_⟩
   ·have s1:=jV (o:= .tup (List.replicate n.toNat us).flatten) hp
    exact k _ _ s1 ⟨p,_,rfl,SqT.of jp,Reps.mono s1 _ _ (e3.rep _)⟩
   ·subst h1
    refine k _ H (jn.refl H) ⟨a,us,rfl,e2,?_⟩
    simpa using e3
  ·cases h
 ·cases h
noncomputable def aeL (fa fb:RP):RP:=fun ρ=>(fa ρ).bind fun x=>(asB x).bind fun t=>if t=true then fb ρ else some (.bool false)
theorem alg {op:BoolOp} (ha:PD X a fa):PD X (.BoolOp op [a] pos) fa:=by
 with_unfolding_all exact (aoX ha)
theorem alh (ha:PD X a fa) (hb:PD X (.BoolOp .And (b::qp) pos) fb):PD X (.BoolOp .And (a::b::qp) pos) (aeL fa fb):=by
 with_unfolding_all
  refine PE.imp (aoY ha hb) fun σ H Q ⟨ρ,d,en,h,k⟩=>?_
  cases h1:fa ρ with
  | none=>simp [aeL,h1] at h
  | some x=>
   cases h2:asB x with
   | none=>simp [aeL,h1,h2] at h
   | some t=>
    have hx:=JQ h2
    subst hx
    refine ⟨ρ,_,en,h1,fun v H1 s1 r1=>⟨t,r1,?_⟩⟩
    cases t with
    | true=>rw [if_pos rfl]; exact ⟨ρ,d,en.mono s1,by simpa [aeL,h1,h2] using h,fun v H2 s2 r2=>k v H2 (s1.trans s2) r2⟩
    | false=>
     rw [if_neg Bool.false_ne_true]
     have:PyData.bool false=d:=by simpa [aeL,h1,h2] using h
     subst this
     exact k _ H1 s1 rfl
end
section
variable {X:Cx}{e a b c tg src:Expr}{es:List Expr}{fa fb fc:RP}{pos:Pos}
noncomputable def anq (c d:OP):OP:=match c,d with
 | some (.list ds),some (.list es)=>if noLs es=true/\ds.length+es.length<1000000 then some (.list (ds++es)) else none
 | _,_=>none
noncomputable def aq5 (i:Nat) (fa:RP):RP:=fun ρ=>anq (lkp i ρ) (fa ρ)
theorem ali {c d:OP}{r:PyData} (h:anq c d=some r):∃ ds es,c=some (.list ds)/\d=some (.list es)/\noLs es=true/\ds.length+es.length<1000000/\r= .list (ds++es):=by
 unfold anq at h
 split at h
 ·split at h
  ·rename_i hc
   cases h
   exact ⟨_,_,rfl,rfl,hc.1,hc.2,rfl⟩
  ·cases h
 ·cases h
theorem adR (i:Nat) {x:Str}{p1 apos cpos:Pos} (h:PD X e fa) (hN:X.N[i]?=some x:=by rfl) (hv:Vis X.env.scope x:=by first | exact Or.inl rfl | exact Or.inr (Or.inl rfl) | exact Or.inr (Or.inr rfl)) (hd:(x == ("__debug__":Str))=false:=by decide)
  (hcd:(x == ("__classdict__":Str))=false:=by decide) (hbase:attributeBase (.Name x p1) "extend" X.env (eval (.Name x p1) X.env)=eval (.Name x p1) X.env:=by rfl)
  (hfew:((backTo cpos (starEach [e] X.env)).all (fun x=>!x.1) && (backToKw cpos (keywordEach [] X.env)).all (fun x=>x.1.isSome) && decide ([e].length+([]:List Keyword).length+(if ([]:List Keyword).isEmpty then 0 else 1)<30))=true:=by rfl)
  (hline:(apos.endLine == cpos.line)=true:=by rfl) (hs:starEach [e] X.env=(false,eval e X.env)::starEach [] X.env:=by rfl) (hplain:(backTo cpos (starEach [] X.env)).any (·.1)=false:=by rfl):
  PE X (.Call (.Attribute (.Name x p1) "extend" apos) [e] [] cpos) (apy X.prog X.w X.K i (aq5 i fa)):=by
 with_unfolding_all
  intro Kp s σ H Q I ⟨Hs,ρ,d',E,hg,k⟩
  obtain ⟨ds,es,q1,q2,hn,hl,rfl⟩:=ali hg
  obtain ⟨a,xs,g2,g3,g4,g5,env⟩:=E.opnL (qT q1)
  have hlen:=g5.length
  have W:=afQ (X:=X) (cpos:=cpos) (apos:=apos) PySem.F.plainAttrs_list PySem.F.slot_list_extend PySem.F.type_list_extend ajj (aac hN hv hd hcd) (qv h zw hs) hbase hfew hline hs hplain
  refine thn (W Kp s σ (upd H a (.lst xs)) (fun v H4=>∃ H3 zs,v= .non/\H4=upd H3 a (.lst (xs++zs))/\jn (upd H a (.lst xs)) H3/\Reps X.K H3 es zs) (Inv.opened I (.l xs) g4)
   ⟨.ref a,g2,.inl ⟨rfl,_,SqL.of jp⟩,ρ,.list es,env,q2,fun y H3 s3 r3=>?_⟩) fun u s1 ⟨v,H4,I4,r,H3,zs,e1,e2,s3,r3⟩=>?_
  ·obtain ⟨b,zs,z1,z2,z3⟩:=r3
   have hz:=z3.length
   exact ⟨a,b,xs,zs,rfl,by rw [z1],s3 _ _ jp,z2,by rw [hlen,hz]; exact Nat.le_of_lt (aaj hl),H3,zs,rfl,rfl,s3,z3⟩
  subst e1
  have e4:H4 a=some (.lst (xs++zs)):=by rw [e2]; exact jp
  have sb:∀ b u,b ≠ a->H b=some u->H4 b=some u:=fun b u n q=>by rw [e2,jt n]; exact s3 b u (by rw [jt n]; exact q)
  refine ⟨.non,upd H4 a (qt a (xs++zs)),Inv.closed I4 (.l _) e4 (Inv.nofrz I g4),r,k _ (E.put (qT q1) g2 g3 g4 sb ⟨xs++zs,jp,?_⟩)⟩
  have s5:qf H (upd H4 a (qt a (xs++zs))):=fun b u q m=>by
   have:b ≠ a:=fun z=>by subst z; rw [g4] at q; cases q; exact m _ rfl
   rw [jt this]; exact sb b u this q
  have s6:JC H3 (upd H4 a (qt a (xs++zs))):=fun b u q m=>by
   have e3:H3 a=some (.lst xs):=s3 _ _ jp
   have:b ≠ a:=fun z=>by subst z; rw [e3] at q; cases q; exact m _ rfl
   rw [jt this,e2,jt this]; exact q
  exact (Reps.monoE s5 _ _ g5).append (Reps.monoN s6 _ _ hn r3)
noncomputable def aq6:V->List V->Hp->VK->Prop:=fun x vs H Q=>∃ l xs y,x= .ref l/\vs=[.int 0,y]/\H l=some (.lst xs)/\xs.length<sizeLine/\Q .non (upd H l (.lst (y::xs)))
theorem ahy:MtM X "list.insert" aq6:=by
 intro Kp s σ H x vs v us Q I rx rv h
 obtain ⟨l,xs,y,rfl,rfl,hH,hz,q⟩:=h
 cases rx
 cases rv with
 | cons r0 rv=>
  obtain ⟨t,rfl⟩:=r0
  obtain ⟨u,rfl,ru⟩:=jP.one rv
  obtain ⟨z,its,n,r,hl,e⟩:=I.lstM hH
  refine call_meets F.slot_list_insert ⟨_,e,rfl⟩ F.entry_list_insert (F.args_list_insert_3 _ _ _) (AutoSeq1.list_insert_list_int_val_1 l its.toArray n 0 t u (by decide) (by rw [List.size_toArray]; omega)) ⟨e,?_⟩
  refine ⟨.non,_,I.lset (its':=u::its) (t':=s.toks) hH e ?_ (.cons ru r) ?_,rfl,q⟩
  ·simp
  ·rw [List.length_cons]; omega
noncomputable def anr (c z d:OP):OP:=match c,z,d with
 | some (.list ds),some (.int 0),some d=>if noL d=true/\ds.length<1000000 then some (.list (d::ds)) else none
 | _,_,_=>none
noncomputable def aq7 (i:Nat) (fz fa:RP):RP:=fun ρ=>anr (lkp i ρ) (fz ρ) (fa ρ)
theorem alj {c z d:OP}{r:PyData} (h:anr c z d=some r):∃ ds x,c=some (.list ds)/\z=some (.int 0)/\d=some x/\noL x=true/\ds.length<1000000/\r= .list (x::ds):=by
 unfold anr at h
 split at h
 ·split at h
  ·rename_i hc
   cases h
   exact ⟨_,_,rfl,rfl,rfl,hc.1,hc.2,rfl⟩
  ·cases h
 ·cases h
theorem ahz (i:Nat) {x:Str}{p1 apos cpos:Pos}{fz:RP} (hz:PD X b fz) (h:PD X e fa) (hN:X.N[i]?=some x:=by rfl) (hv:Vis X.env.scope x:=by first | exact Or.inl rfl | exact Or.inr (Or.inl rfl) | exact Or.inr (Or.inr rfl)) (hd:(x == ("__debug__":Str))=false:=by decide)
  (hcd:(x == ("__classdict__":Str))=false:=by decide) (hbase:attributeBase (.Name x p1) "insert" X.env (eval (.Name x p1) X.env)=eval (.Name x p1) X.env:=by rfl)
  (hfew:((backTo cpos (starEach [b,e] X.env)).all (fun x=>!x.1) && (backToKw cpos (keywordEach [] X.env)).all (fun x=>x.1.isSome) && decide ([b,e].length+([]:List Keyword).length+(if ([]:List Keyword).isEmpty then 0 else 1)<30))=true:=by rfl)
  (hline:(apos.endLine == cpos.line)=true:=by rfl) (hs:starEach [b,e] X.env=(false,eval b X.env)::starEach [e] X.env:=by rfl) (hs2:starEach [e] X.env=(false,eval e X.env)::starEach [] X.env:=by rfl) (hplain:(backTo cpos (starEach [e] X.env)).any (·.1)=false:=by rfl):
  PE X (.Call (.Attribute (.Name x p1) "insert" apos) [b,e] [] cpos) (apy X.prog X.w X.K i (aq7 i fz fa)):=by
 with_unfolding_all
  intro Kp s σ H Q I ⟨Hs,ρ,d',E,hg,k⟩
  obtain ⟨ds,d,q1,q0,q2,hn,hl,rfl⟩:=alj hg
  obtain ⟨a,xs,g2,g3,g4,g5,env⟩:=E.opnL (qT q1)
  have hlen:=g5.length
  have W:=afQ (X:=X) (cpos:=cpos) (apos:=apos) PySem.F.plainAttrs_list PySem.F.slot_list_insert PySem.F.type_list_insert ahy (aac hN hv hd hcd) (qv hz (qv h zw hs2) hs) hbase hfew hline hs hplain
  refine thn (W Kp s σ (upd H a (.lst xs)) (fun v H4=>∃ H3 y,v= .non/\H4=upd H3 a (.lst (y::xs))/\jn (upd H a (.lst xs)) H3/\Rep X.K H3 d y) (Inv.opened I (.l xs) g4)
   ⟨.ref a,g2,.inl ⟨rfl,_,SqL.of jp⟩,ρ,.int 0,env,q0,fun y0 H2 s2 r2=>⟨ρ,d,env.mono s2,q2,fun y H3 s3 r3=>?_⟩⟩) fun u s1 ⟨v,H4,I4,r,H3,y,e1,e2,s3,r3⟩=>?_
  ·cases (show y0=V.int 0 from r2)
   exact ⟨a,xs,y,rfl,rfl,s3 _ _ (s2 _ _ jp),by rw [hlen]; exact aaj hl,H3,y,rfl,rfl,s2.trans s3,r3⟩
  subst e1
  have e4:H4 a=some (.lst (y::xs)):=by rw [e2]; exact jp
  have sb:∀ b u,b ≠ a->H b=some u->H4 b=some u:=fun b u n q=>by rw [e2,jt n]; exact s3 b u (by rw [jt n]; exact q)
  refine ⟨.non,upd H4 a (qt a (y::xs)),Inv.closed I4 (.l _) e4 (Inv.nofrz I g4),r,k _ (E.put (qT q1) g2 g3 g4 sb ⟨y::xs,jp,?_⟩)⟩
  have s5:qf H (upd H4 a (qt a (y::xs))):=fun b u q m=>by
   have:b ≠ a:=fun z=>by subst z; rw [g4] at q; cases q; exact m _ rfl
   rw [jt this]; exact sb b u this q
  have s6:JC H3 (upd H4 a (qt a (y::xs))):=fun b u q m=>by
   have e3:H3 a=some (.lst xs):=s3 _ _ jp
   have:b ≠ a:=fun z=>by subst z; rw [e3] at q; cases q; exact m _ rfl
   rw [jt this,e2,jt this]; exact q
  exact ⟨y,xs,rfl,Rep.monoN s6 _ _ hn r3,Reps.monoE s5 _ _ g5⟩
end
section
variable {X:Cx}{e a b c tg src:Expr}{es:List Expr}{fa fb fc:RP}{pos:Pos}
noncomputable def aq8:V->V->V->Hp->(Hp->Prop)->Prop:=fun o k v H Q=>∃ a xs n j,o= .ref a/\k= .int n/\H a=some (qt a xs)/\ixN xs.length n=some j/\Q (upd H a (qt a (xs.set j v)))
theorem alk:ao0 X aq8:=by
 intro Kp s σ H o k v ov iv u Q I ro rk rv ⟨a,xs,n,j,e1,e2,h1,h2,q⟩
 subst e1; subst e2
 refine thn (akP Kp s σ (upd H a (.lst xs)) (.ref a) (.int n) v ov iv u (fun H'=>H'=upd (upd H a (.lst xs)) a (.lst (xs.set j v))) (Inv.opened I (.l xs) h1) ro rk rv ⟨a,xs,n,j,rfl,rfl,jp,h2,rfl⟩) fun _ s1 ⟨H',I',e⟩=>?_
 subst e
 have I2:=Inv.closed I' (.l (xs.set j v)) jp (Inv.nofrz I h1)
 rw [QN,QN] at I2
 exact ⟨_,I2,q⟩
noncomputable def alm (c v k:OP):OP:=match c,v,k with
 | some (.list ds),some d,some (.int n)=>(ixN ds.length n).map fun j=> .list (ds.set j d)
 | _,_,_=>none
theorem aln {c v k:OP}{o:PyData} (h:alm c v k=some o):∃ ds d n j,c=some (.list ds)/\v=some d/\k=some (.int n)/\ixN ds.length n=some j/\o= .list (ds.set j d):=by
 unfold alm at h
 split at h
 ·rename_i ds d n
  cases q:ixN ds.length n with
  | none=>rw [q] at h; cases h
  | some j=>rw [q] at h; cases h; exact ⟨_,_,_,_,rfl,rfl,rfl,q,rfl⟩
 ·cases h
theorem Reps.set {K:Fg}{H:Hp}{d:PyData}{v:V} (r:Rep K H d v):∀ {ds:LP}{xs:List V} (j:Nat),Reps K H ds xs->Reps K H (ds.set j d) (xs.set j v)
 | [],xs,j,h=>by cases (show xs=[] from h); exact rfl
 | _::ds,xs,0,⟨x,q,h1,h2,h3⟩=>by subst h1; exact ⟨v,q,rfl,r,h3⟩
 | _::ds,xs,j+1,⟨x,q,h1,h2,h3⟩=>by subst h1; exact ⟨x,_,rfl,h2,Reps.set r j h3⟩
noncomputable def ans (i:Nat) (fk fv:RP):RO:=fun ρ=>(alm (lkp i ρ) (brw (some i) fv ρ) (brw (some i) fk ρ)).map fun d=> .nx (ρ.set i (some d))
theorem alo (i:Nat) {x:Str}{p1 p2:Pos}{fk fv:RP} (hk:PD X b fk) (he:PD X e fv) (hN:X.N[i]?=some x:=by rfl) (hv:Vis X.env.scope x:=by first | exact Or.inl rfl | exact Or.inr (Or.inl rfl) | exact Or.inr (Or.inr rfl))
  (hd:(x == ("__debug__":Str))=false:=by decide) (hcd:(x == ("__classdict__":Str))=false:=by decide)
  (ha:∀ v,assign (.Subscript (.Name x p1) b p2) X.env v=(do
   let ov ←holding [v] (eval (.Name x p1) X.env)
   let iv ←holding [v,ov] (eval b X.env)
   standAt p2
   holding [v,ov,iv] (setItem ov iv v)
   release [v,ov,iv] []):=by intro _; rfl)
  (hs:swapsWithSole [.Subscript (.Name x p1) b p2] e pos.line X.env=pure false:=by rfl) (hw:swappedStores [.Subscript (.Name x p1) b p2] e X.env=pure none:=by rfl)
  (h1:(assignEach [.Subscript (.Name x p1) b p2] X.env).map (·.2)=[assign (.Subscript (.Name x p1) b p2) X.env]:=by rfl):PSO X (some i) (.Assign [.Subscript (.Name x p1) b p2] e pos) (ans i fk fv):=by
 with_unfolding_all
  refine PS.imp (ao2 (ahx (own:=some i) he) (ao1 (aac hN hv hd hcd) (ahx (own:=some i) hk) alk ha) hs hw h1) fun D σ H ⟨Hs,ρ,o,E,q,k⟩=>?_
  cases hp:alm (lkp i ρ) (brw (some i) fv ρ) (brw (some i) fk ρ) with
  | none=>simp [ans,hp] at q
  | some nw=>
   have:Out.nx (ρ.set i (some nw))=o:=by simpa [ans,hp] using q
   subst this
   obtain ⟨ds,d,n,j,q1,q2,q3,hl,rfl⟩:=aln hp
   refine ⟨Hs,ρ,d,E,q2,fun v H1 s1 E1 r1=>?_⟩
   obtain ⟨d0,a,g1,g2,g3,g4⟩:=E1.ow i rfl
   rw [qT q1] at g1; cases g1
   refine ⟨.ref a,g2,Hs,ρ,.int n,E1,q3,fun kv H2 s2 E2 r2=>?_⟩
   cases (show kv=V.int n from r2)
   obtain ⟨d1,a1,f1,f2,f3,f4⟩:=E2.ow i rfl
   rw [qT q1] at f1; cases f1
   rw [g2] at f2; cases f2
   obtain ⟨xs,e2,e3⟩:=f4
   refine ⟨a,xs,n,j,rfl,rfl,e2,by rw [e3.length]; exact hl,k _ _ (E2.put (qT q1) g2 f3 e2 (fun _ _ _ z=>z) ⟨_,jp,?_⟩)⟩
   have s5:qf H2 (upd H2 a (qt a (xs.set j v))):=qf.upd e2
   exact Reps.set (Rep.monoE (s2.trans s5) _ _ r1) j (Reps.monoE s5 _ _ e3)
noncomputable def ace (ds:LP):OP:=match ds with
 | [.list xs]=>some (.list xs)
 | [.tuple xs]=>some (.list xs)
 | _=>none
noncomputable def aeM (ds:LP):OP:=match ds with
 | [.list xs]=>some (.tuple xs)
 | [.tuple xs]=>some (.tuple xs)
 | _=>none
theorem af5:aay X (.type "tuple") aeM:=by
 refine ⟨_,adt,fun ds d xs H Q h r k=>?_⟩
 unfold aeM at h
 split at h
 ·cases h
  obtain ⟨x,q,e1,e2,e3⟩:=r
  cases (show q=[] from e3)
  obtain ⟨a,us,g1,g2,g3⟩:=e2
  subst g1
  refine ⟨a,us,e1,.inl ⟨SqL.of g2,fun l hl=>?_⟩⟩
  have s1:=jV (o:= .tup us) hl
  exact k _ _ s1 ⟨l,us,rfl,SqT.of jp,Reps.mono s1 _ _ g3⟩
 ·cases h
  obtain ⟨x,q,e1,e2,e3⟩:=r
  cases (show q=[] from e3)
  obtain ⟨a,us,g1,g2,g3⟩:=e2
  subst g1
  exact ⟨a,us,e1,.inr ⟨g2,k _ H (jn.refl H) ⟨a,us,rfl,g2,g3⟩⟩⟩
 ·cases h
theorem ajA {p:Pos}{fr:Rho->Option (LP)} (hm:X.mg "list"=none) (hv:bootBuiltins "list"=some (.type "list")) (ha:PAD X [e] fr) (hg:Gl X "list":=by rfl)
  (he:starEach [e] X.env=(false,eval e X.env)::starEach [] X.env:=by rfl) (hpl:(backTo pos (starEach [] X.env)).any (·.1)=false:=by rfl):PN X (.Call (.Name "list" p) [e] [] pos) (jB ace fr):=by
 with_unfolding_all
  intro Kp s σ H Q I ⟨ρ,d,en,hf,k⟩
  cases h1:fr ρ with
  | none=>simp [jB,h1] at hf
  | some as=>
   have q':ace as=some d:=by simpa [jB,h1] using hf
   have W:=adL (X:=X) (pos:=pos) (p:=p) aez hg hm hv ha (by decide) (by decide) he hpl
   refine thn (W Kp s σ H (fun v H2=>∃ a ys H1 ds,v= .ref a/\H1 a=none/\jn H H1/\H2=upd H1 a (.lst ys)/\d= .list ds/\Reps X.K H1 ds ys) I ⟨ρ,as,en,h1,fun vs H1 s1 r1=>?_⟩) fun u s1 ⟨v,H2,I2,r,a,ys,H1,ds,e1,e2,s1',e3,e0,r1⟩=>?_
   ·unfold ace at q'
    split at q'
    ·cases q'
     obtain ⟨x,q,z1,z2,z3⟩:=r1
     cases (show q=[] from z3)
     obtain ⟨a,us,g1,g2,g3⟩:=z2
     subst g1
     exact ⟨a,us,z1,.inl (SqL.of g2),fun l hl=>⟨l,us,H1,_,rfl,hl,s1,rfl,rfl,g3⟩⟩
    ·cases q'
     obtain ⟨x,q,z1,z2,z3⟩:=r1
     cases (show q=[] from z3)
     obtain ⟨a,us,g1,g2,g3⟩:=z2
     subst g1
     exact ⟨a,us,z1,.inr g2,fun l hl=>⟨l,us,H1,_,rfl,hl,s1,rfl,rfl,g3⟩⟩
    ·cases q'
   ·subst e1; subst e0
    have e4:H2 a=some (.lst ys):=by rw [e3]; exact jp
    have e5:upd H2 a (qt a ys)=upd H1 a (qt a ys):=by rw [e3,QN]
    have s2:jn H1 (upd H2 a (qt a ys)):=by rw [e5]; exact jV e2
    exact ⟨.ref a,_,Inv.closed I2 (.l ys) e4 (fun ob u z=>by have:=I.base.frzs _ _ _ z; rw [s1'.free e2] at this; cases this),r,k a _ (s1'.trans s2) (s1'.free e2) ⟨ys,jp,Reps.mono s2 _ _ r1⟩⟩
end
section
variable {X:Cx}{e a b c:Expr}{fa fb fc:RP}{pos p2:Pos}
noncomputable def aeN (ds:LP) (lo hi:Option Int):LP:=(ds.drop (HT.sIx ds.length 0 lo)).take (HT.sIx ds.length ds.length hi - HT.sIx ds.length 0 lo)
noncomputable def inI:PyData->Option Int
 | .int i=>some i
 | _=>none
theorem af6 {d:PyData}{i:Int} (h:inI d=some i):d= .int i:=by cases d <;> simp [inI] at h; rw [h]
end
section
variable {prog:Program}{w:World}{A:Around}{E:Value->SP0}{s:Shared}
noncomputable def ItA (g:Bool) (h:Heap) (i t:Addr) (k:Nat):Prop:=match g with
 | true=>h.IsListIter i t k
 | false=>h.IsTupleIter i t k
noncomputable def SrA (g:Bool) (h:Heap) (t:Addr) (xs:Array Value):Prop:=match g with
 | true=>h.IsList t xs
 | false=>h.IsTuple t xs
structure Apart2 (z TI TO i1 i2 t1 t2:Addr):Prop where
 nd:[z,TO,i1,i2].Nodup
 ti:TI ∉ [z,TO,i1,i2]
 s1:t1 ∉ [z,TO,i1,i2]
 s2:t2 ∉ [z,TO,i1,i2]
structure Zip2 (ga gb:Bool) (h:Heap) (z TI TO i1 i2 t1 t2:Addr) (f0:Value) (k:Nat):Prop where
 hz:IsZip h z TI TO f0
 hTI:IsPair h TI (.ref i1) (.ref i2)
 hTO:∃ a b,IsPair h TO a b
 g1:ItA ga h i1 t1 k
 g2:ItA gb h i2 t2 k
end
noncomputable def Sq (g:Bool) (K:Fg) (H:Hp) (t:Addr) (xs:List V):Prop:=match g with
 | true=>SqL K H t xs
 | false=>SqT K H t xs
section
variable {X:Cx}
end
section
variable {X:Cx}{e a b c:Expr}{fa fb fc:RP}{pos p2:Pos}
theorem Zy:∀ {is:List Int}{us:List Value},jP (is.map V.int) us->∀ (j:Nat) (i:Int),is[j]?=some i->∃ t,us[j]?=some (.int i t)
 | [],us,r,j,i,h=>by simp at h
 | i0::is,u::us,.cons r rr,j,i,h=>by
  cases j with
  | zero=>cases h; obtain ⟨t,rfl⟩:=r; exact ⟨t,rfl⟩
  | succ j=>exact Zy rr j i (by simpa using h)
end
structure OneCell (sc:Scope) (y0:Str) (pre post:List (Str × NameKind)):Prop where
 split:sc.names=pre++(y0,.cell)::post
 pre:∀ x ∈ pre,x.2 ≠ .cell
 post:∀ x ∈ post,x.2 ≠ .cell
structure CompOk1 (X:Cx) (sc:Scope) (N':List Str) (cap:List (Option Nat)) (y0:Str):Prop where
 fr:∀ x ∈ sc.names,x.2= .free->X.env.kindOf x.1=some .cell ∨ X.env.kindOf x.1=some .free
 one:∃ pre post,OneCell sc y0 pre post
 lk:sc.names.lookup y0=some .cell
 kind:sc.kind= .function
 nm:∀ x ∈ sc.names,x.2= .local->sc.names.lookup x.1=some .local
 len:cap.length=N'.length
 cp:∀ (j i:Nat) (x:Str),N'[j]?=some x->cap[j]?=some (some i)->X.N[i]?=some x/\sc.names.lookup x=some .free
section
variable {X:Cx}{e:Expr}{fa:RP}
end
section
variable {X:Cx}{tg src:Expr}{pos pos':Pos}
end
structure Mine (X:Cx) (H:Hp) (b:Addr):Prop where
 un:H b=none
 new:X.s₀.heap.get? b=none
 loc:b ≠ X.env.locals
 cel:∀ x c,X.env.cells.lookup x=some c->c ≠ b
 pin:∀ p ∈ X.pn,p.1 ≠ b
structure Xc (X:Cx) (H:Hp) (h:Heap) (e C:Addr):Prop where
 mine:Mine X H e
 ob:∃ oe vs,h.get? e=some oe/\(oe.cls= .ref C/\oe.dict=none)/\oe.data= .fields vs/\1<vs.size/\
  (vs[1]?=some .none ∨ ∃ T oT ts,vs[1]?=some (.ref T)/\T ≠ e/\Mine X H T/\h.get? T=some oT/\oT.data= .fields ts/\3<ts.size)
theorem Inv.exIn {X:Cx}{Kp:List (Addr × Obj)}{σ:St}{H:Hp}{s:Shared}{ch:List Addr} (I:Inv X Kp σ H s) (hn:∀ b ∈ ch,X.s₀.heap.get? b=none/\b ≠ X.env.locals/\∀ x c,X.env.cells.lookup x=some c->c ≠ b):Inv { X with ex:=ch++X.ex } Kp σ H s:=by
 have no:∀ b,b ∉ ch++X.ex->b ∉ X.ex:=fun b h z=>h (List.mem_append_right _ z)
 refine ⟨⟨I.ok.mod,I.ok.kind,I.ok.glob,I.ok.blt,I.ok.above,I.ok.inj,I.ok.has,I.ok.cab,I.ok.hd,I.ok.frames,I.ok.stk,fun b hb=>?_,I.ok.bs,I.ok.bsz,fun b o e hb=>?_,fun b hb z=>?_,I.ok.funs,I.ok.frf⟩,I.os,I.bare,
  ⟨fun b o e n hf hx=>I.base.keep b o e n hf (no b hx),fun b o e n hf hx=>I.base.slot b o e n hf (no b hx),fun b o e n hx=>I.base.free b o e n (no b hx),fun b o e hx=>I.base.there b o e (no b hx),I.base.tups,I.base.frzs,I.base.tbls⟩,I.loc,I.cell,I.free,I.freeC,I.pin,I.hok,I.len⟩
 ·rcases List.mem_append.mp hb with q | q
  ·exact (hn b q).2
  ·exact I.ok.exf b q
 ·rcases List.mem_append.mp hb with q | q
  ·have:=(I.ok.bs b o e).1
   rw [(hn b q).1] at this; cases this
  ·exact I.ok.noex b o e q
 ·rcases List.mem_append.mp hb with q | q
  ·obtain ⟨_,o,ho,_⟩:=I.ok.funs.mem z
   rw [(hn b q).1] at ho; cases ho
  ·exact I.ok.exfs b q z
theorem Inv.exOut {X:Cx}{Kp:List (Addr × Obj)}{σ:St}{H:Hp}{s:Shared}{ch:List Addr} (I:Inv { X with ex:=ch++X.ex } Kp σ H s) (ok:X.Ok) (hn:∀ b ∈ ch,X.s₀.heap.get? b=none):Inv X Kp σ H s:=by
 have no:∀ b o,X.s₀.heap.get? b=some o->b ∉ X.ex->b ∉ ch++X.ex:=fun b o e h z=>by
  rcases List.mem_append.mp z with q | q
  ·rw [hn b q] at e; cases e
  ·exact h q
 exact ⟨ok,I.os,I.bare,⟨fun b o e n hf hx=>I.base.keep b o e n hf (no b o e hx),fun b o e n hf hx=>I.base.slot b o e n hf (no b o e hx),fun b o e n hx=>I.base.free b o e n (no b o e hx),fun b o e hx=>I.base.there b o e (no b o e hx),I.base.tups,I.base.frzs,I.base.tbls⟩,I.loc,I.cell,I.free,I.freeC,I.pin,I.hok,I.len⟩
section
variable {X:Cx}{σ:St}{H:Hp}{s:Shared}{h':Heap}{e C:Addr}{E:Value->SP0}{A:Around}
theorem Inv.shake {ch:List Addr} (I:Inv X [] σ H s) (hm:∀ b ∈ ch,Mine X H b) (keep:∀ b o,b ∉ frs X.stack->b ∉ ch->s.heap.get? b=some o->h'.get? b=some o)
  (slot:∀ b o,b ∈ frs X.stack->b ∉ ch->s.heap.get? b=some o->∃ sl,h'.get? b=some { o with slots:=sl }):Inv X [] σ H { s with heap:=h' }:=by
 have u:Un (frs X.stack) ch H H s.heap h':=⟨fun b o q _ nf nc=>keep b o nf nc q,fun b o q _ hf nc=>slot b o hf nc q,fun _ _ _ n _=>n,fun b o q nc=>by
  by_cases hf:b ∈ frs X.stack
  ·obtain ⟨sl,z⟩:=slot b o hf nc q; exact ⟨_,z⟩
  ·exact ⟨o,keep b o hf nc q⟩,fun _ _ q=>q,fun _ _ _ q=>q,fun _ ps q=>⟨#[],by rw [q]; simp⟩⟩
 have hok:HOk X.prog X.w H h':=fun b o q=>(I.hok b o q).stay (fun c v hc r=>by
  have hb:H c ≠ none:=by
   rcases hc with rfl | hc
   ·rw [q]; exact fun z=>nomatch z
   ·rw [hc]; exact fun z=>nomatch z
  exact keep c v (fun z=>hb (I.stkFree c z)) (fun z=>hb (hm c z).un) r) (fun _ r=>r) fun _ _ r=>r
 exact Inv.exOut (Inv.call (X:={ X with ex:=ch++X.ex }) (g':=s.gens) (d':=s.drawn) (t':=s.toks) (Inv.exIn I fun b hb=>⟨(hm b hb).new,(hm b hb).loc,(hm b hb).cel⟩) u hok I.bare fun b hb=>⟨.inl (List.mem_append_left _ hb),(hm b hb).loc,(hm b hb).cel,fun p hp=>(hm b hb).pin p (by simpa using hp)⟩) I.ok fun b hb=>(hm b hb).new
structure XcT (X:Cx) (H:Hp) (h:Heap) (e C:Addr):Prop where
 mine:Mine X H e
 ob:∃ oe vs T oT ts,h.get? e=some oe/\(oe.cls= .ref C/\oe.dict=none)/\oe.data= .fields vs/\vs[1]?=some (.ref T)/\T ≠ e/\Mine X H T/\h.get? T=some oT/\oT.data= .fields ts/\3<ts.size
theorem XcT.c {h:Heap} (x:XcT X H h e C):Xc X H h e C:=by
 obtain ⟨oe,vs,T,oT,ts,h1,h2,h3,h4,h5,h6,h7,h8,h9⟩:=x.ob
 exact ⟨x.mine,oe,vs,h1,h2,h3,(Array.getElem?_eq_some_iff.mp h4).1,.inr ⟨T,oT,ts,h4,h5,h6,h7,h8,h9⟩⟩
structure Top0 (X:Cx):Prop where
 st:X.stack=X.env::X.Ko
 fr:X.env.frame=some X.env.locals
 ex:X.ex=[]
theorem Mine.nofr {b:Addr} (m:Mine X H b) (I:Inv X [] σ H s):b ∉ frs X.stack:=fun z=>by
 rcases List.mem_cons.mp (I.stkSub b z) with q | q
 ·exact m.loc q
 ·obtain ⟨_,o,ho,_⟩:=I.ok.funs.mem q
  rw [m.new] at ho; cases ho
theorem ant {P:Program}{w:World}{h:Heap}{b:Addr}{u:HO} (hok:HOk P w H h) (hH:H b=some u) (hb:h.get? b=none):False:=by
 have x:=hok b u hH
 have no:∀ {o:Obj},h.get? b=some o->False:=fun {o} q=>by rw [hb] at q; cases q
 cases u with
 | lst xs=>obtain ⟨_,_,_,_,e⟩:=x; exact no e
 | tup xs=>obtain ⟨_,_,_,⟨_,e,_⟩⟩:=x; exact no e
 | dK kvs=>obtain ⟨_,_,_,_,o,_,_,e,_⟩:=x; exact no e
 | dT kvs=>obtain ⟨_,_,_,_,o,_,_,e,_⟩:=x; exact no e
 | set S n=>obtain ⟨o,_,_,_,e,_⟩:=x; exact no e
 | ins C dx fs=>obtain ⟨_,_,_,e,_⟩:=x; exact no e
 | own y=>obtain ⟨_,e⟩:=x; exact no e
 | xd fs=>obtain ⟨_,⟨_,_,_,e,_⟩,_⟩:=x; exact no e
 | rng lo hi=>obtain ⟨_,_,_,e⟩:=x; exact no e
 | frz ob u=>obtain ⟨e,_⟩:=x; exact no e
 | tbl ps=>exact no (show h.get? b=some _ from x)
 | met f y=>exact no (show h.get? b=some _ from x)
 | ext φ=>obtain ⟨_,⟨_,e⟩,_⟩:=x; exact no e
theorem aaG (hx:X.ex=[]) (I:Inv X [] σ H s) {b:Addr} (hb:s.heap.get? b=none):Mine X H b:=by
 have no:∀ {o:Obj},s.heap.get? b=some o->False:=fun {o} q=>by rw [hb] at q; cases q
 refine ⟨?_,?_,fun z=>?_,fun x c q z=>?_,fun p hp z=>?_⟩
 ·cases hH:H b with
  | none=>rfl
  | some u=>exact (ant I.hok hH hb).elim
 ·cases h0:X.s₀.heap.get? b with
  | none=>rfl
  | some o=>
   obtain ⟨o',q⟩:=I.base.there b o h0 (by rw [hx]; simp)
   exact (no q).elim
 ·subst z
  obtain ⟨m,⟨o,_,_,ho,_⟩,_⟩:=I.loc
  exact no ho
 ·obtain ⟨v,o,ho,_⟩:=I.cell x c q
  subst z
  exact no ho
 ·have:=(I.pin p (List.mem_append_left _ hp)).1
  rw [z] at this
  exact no this
theorem af7 {oe:Obj}{vs:Array Value}{head:Value}{hadNext:Bool} (T0:Top0 X) (hA:A.frames=some X.stack) (I:Inv X [] σ H s) (me:Mine X H e) (he:s.heap.get? e=some oe) (hc:oe.cls= .ref C/\oe.dict=none) (hd:oe.data= .fields vs) (hsz:1<vs.size):
  wpAny (model X.prog X.w) A (do let a ←frameOf X.env; let pl ←entryPlaceOf X.env.locals hadNext; let b ←EntryCells.newEntry head a .none (rawInt X.env.locals) .none pl; setField (.ref e) 1 b) (fun _ s'=>Inv X [] σ H s'/\XcT X H s'.heap e C) E s:=by
 have hst:=T0.st
 have hfn:=I.stack
 rw [hst] at hfn hA
 have hene:e ∉ (X.env::X.Ko).filterMap (·.frame):=by
  have:=me.nofr I
  rw [hst] at this; exact this
 refine wpAny_bind (wpAny_frameOf_fun hA hfn T0.fr fun h₁ hs₁=>?_)
 refine wpAny_bind (wpAny_entryPlaceOf fun pl hpl=>?_)
 unfold EntryCells.newEntry newFields
 refine wpAny_bind (wpAny_newObj_type ?_ (hpl.sizeOk5 _ _ _ _ _))
 have he₁:h₁.get? e=some oe:=(hs₁.2.1 e hene).trans he
 generalize hob:({ cls:= .type "traceback",dict:=none,data:= .fields ([head,Value.ref X.env.locals,.none,rawInt X.env.locals,.none]++(if pl.isEmpty then List.replicate 6 Value.none else pl)).toArray }:Obj)=ob
 have obd:ob.data= .fields ([head,Value.ref X.env.locals,.none,rawInt X.env.locals,.none]++(if pl.isEmpty then List.replicate 6 Value.none else pl)).toArray:=by rw [←hob]
 have obf:ob.isFreed=false:=by rw [←hob]; rfl
 have he₂:(h₁.push ob).get? e=some oe:=Heap.get?_push_of_some ob he₁
 refine wpAny_setField he₂ hd hsz ?_
 have hTe:h₁.objs.size ≠ e:=Nat.ne_of_gt (Heap.lt_size he₁)
 have hd₃:=Obj.data_mapFields hd (·.setIfInBounds 1 (Value.ref h₁.objs.size))
 have he₃:=Heap.get?_update_self (Obj.mapFields (·.setIfInBounds 1 (Value.ref h₁.objs.size))) he₂ (Obj.isFreed_of_fields hd₃)
 have hT₃:((h₁.push ob).update e (Obj.mapFields (·.setIfInBounds 1 (Value.ref h₁.objs.size)))).get? h₁.objs.size=some ob:=(Heap.get?_update_other _ _ (Ne.symm hTe)).trans (Heap.get?_push_size h₁ obf)
 have keep:∀ b o,b ≠ e->h₁.get? b=some o->((h₁.push ob).update e (Obj.mapFields (·.setIfInBounds 1 (Value.ref h₁.objs.size)))).get? b=some o:=fun b o hb q=>by
  rw [Heap.get?_update_other _ _ (Ne.symm hb)]
  exact Heap.get?_push_of_some _ q
 have hfr:frs X.stack=(X.env::X.Ko).filterMap (·.frame):=by rw [hst]; rfl
 have sz:h₁.objs.size=s.heap.objs.size:=hs₁.1
 have J:Inv X [] σ H { s with heap:=(h₁.push ob).update e (Obj.mapFields (·.setIfInBounds 1 (Value.ref h₁.objs.size))) }:=by
  refine Inv.shake (s:=s) (ch:=[e]) I (fun b hb=>by rw [List.mem_singleton.mp hb]; exact me) (fun b o nf nc q=>keep b o (fun z=>nc (by simp [z])) ((hs₁.2.1 b (by rw [←hfr]; exact nf)).trans q)) (fun b o _ nc q=>?_)
  obtain ⟨sl,z⟩:=hs₁.2.2 b o q
  exact ⟨sl,keep b _ (fun w=>nc (by simp [w])) z⟩
 refine ⟨J,me,_,_,h₁.objs.size,ob,_,he₃,?_,hd₃,by simp [hsz],hTe,?_,hT₃,obd,?_⟩
 ·rw [Obj.cls_mapFields]; exact ⟨hc.1,by unfold Obj.mapFields; split <;> exact hc.2⟩
 ·exact aaG T0.ex I (Heap.get?_none_of_le (by rw [sz]; exact Nat.le_refl _))
 ·simp only [List.size_toArray,List.length_append,List.length_cons,List.length_nil]; omega
theorem aaH (T0:Top0 X) (hA:A.frames=some X.stack) (I:Inv X [] σ H s) (x:Xc X H s.heap e C):wpAny (model X.prog X.w) A (noteFrame (.ref e) X.env) (fun _ s'=>Inv X [] σ H s'/\XcT X H s'.heap e C) E s:=by
 obtain ⟨oe,vs,he,hc,hd,hsz,hT⟩:=x.ob
 unfold noteFrame
 simp only [T0.fr]
 rcases hT with h1 | ⟨T,oT,ts,h1,hTe,mT,hT,hdT,h3⟩
 ·refine wpAny_bind (wpAny_field he hd h1 ?_)
  rw [if_neg (by decide)]
  exact af7 T0 hA I x.mine he hc hd hsz
 ·refine wpAny_bind (wpAny_field he hd h1 ?_)
  rw [if_pos (show (Value.ref T != Value.none)=true from by simp)]
  refine wpAny_bind (wpAny_field hT hdT (x:=ts[3]) (by simp [h3]) ?_)
  by_cases hq:(ts[3] == rawInt X.env.locals)=true
  ·rw [if_pos hq]
   exact wpAny_pure ⟨I,x.mine,oe,vs,T,oT,ts,he,hc,hd,h1,hTe,mT,hT,hdT,h3⟩
  ·rw [if_neg hq]
   refine wpAny_bind (wpAny_setField hT hdT h3 ?_)
   have other:∀ b,b ≠ T->(s.heap.update T (Obj.mapFields (·.setIfInBounds 3 Value.none))).get? b=s.heap.get? b:=fun b hb=>Heap.get?_update_other _ _ (Ne.symm hb)
   have J:Inv X [] σ H { s with heap:=s.heap.update T (Obj.mapFields (·.setIfInBounds 3 Value.none)) }:=
    Inv.shake (s:=s) (ch:=[T]) I (fun b hb=>by rw [List.mem_singleton.mp hb]; exact mT) (fun b o _ nc q=>(other b fun z=>nc (by simp [z])).trans q) fun b o _ nc q=>⟨o.slots,(other b fun z=>nc (by simp [z])).trans q⟩
   exact af7 (s:={ s with heap:=s.heap.update T (Obj.mapFields (·.setIfInBounds 3 Value.none)) }) T0 hA J x.mine ((other e (Ne.symm hTe)).trans he) hc hd hsz
theorem zP (fl:Option Addr) (I:Inv X [] σ H s) (x:XcT X H s.heap e C):wpAny (model X.prog X.w) A (setFlight (.ref e) fl) (fun _ s'=>Inv X [] σ H s'/\XcT X H s'.heap e C) E s:=by
 obtain ⟨oe,vs,T,oT,ts,he,hc,hd,h1,hTe,mT,hT,hdT,h3⟩:=x.ob
 unfold setFlight
 refine wpAny_bind (wpAny_field he hd h1 ?_)
 rw [if_pos (show (Value.ref T != Value.none)=true from by simp)]
 refine wpAny_setField hT hdT h3 ?_
 have other:∀ b,b ≠ T->(s.heap.update T (Obj.mapFields (·.setIfInBounds 3 (fl.elim Value.none fun f=>rawInt f)))).get? b=s.heap.get? b:=fun b hb=>Heap.get?_update_other _ _ (Ne.symm hb)
 have J:Inv X [] σ H { s with heap:=s.heap.update T (Obj.mapFields (·.setIfInBounds 3 (fl.elim Value.none fun f=>rawInt f))) }:=
  Inv.shake (s:=s) (ch:=[T]) I (fun b hb=>by rw [List.mem_singleton.mp hb]; exact mT) (fun b o _ nc q=>(other b fun z=>nc (by simp [z])).trans q) fun b o _ nc q=>⟨o.slots,(other b fun z=>nc (by simp [z])).trans q⟩
 exact ⟨J,x.mine,oe,vs,T,_,_,(other e (Ne.symm hTe)).trans he,hc,hd,h1,hTe,mT,Heap.get?_update_self _ hT (Obj.isFreed_of_fields (Obj.data_mapFields hdT _)),Obj.data_mapFields hdT _,by simpa using h3⟩
theorem apz {P:Value->SP0} (T0:Top0 X) (hA:A.frames=some X.stack) (hP:∀ e s,P e s->∃ a C σ H,e= .ref a/\Inv X [] σ H s/\Xc X H s.heap a C/\∀ s',Inv X [] σ H s'->XcT X H s'.heap a C->P e s'):PassesOwn (model X.prog X.w) A X.env P:=fun ev s' h=>by
 obtain ⟨a,C,σ,H,rfl,I,x,back⟩:=hP ev s' h
 refine wpAny_mono (aaH (E:=fun _ _=>False) T0 hA I x) (fun _ s2 ⟨I2,x2⟩=>?_) fun _ _ z=>z.elim
 obtain ⟨oe,vs,T,oT,ts,he,hc,hd,h1,r⟩:=id x2.ob
 unfold cameBackBy
 refine wpAny_bind (wpAny_field he hd h1 ?_)
 rw [if_neg (by simp)]
 first
  | exact wpAny_mono (zP (E:=fun _ _=>False) _ I2 x2) (fun _ s3 ⟨I3,x3⟩=>back s3 I3 x3) fun _ _ z=>z.elim
  | exact wpAny_bind (wpAny_pure (wpAny_mono (zP (E:=fun _ _=>False) _ I2 x2) (fun _ s3 ⟨I3,x3⟩=>back s3 I3 x3) fun _ _ z=>z.elim))
end
structure XcO (h0:Heap) (H:Hp) (h:Heap) (e C:Addr):Prop where
 un:H e=none
 new:h0.get? e=none
 ob:∃ oe vs T oT ts,h.get? e=some oe/\(oe.cls= .ref C/\oe.dict=none)/\oe.data= .fields vs/\vs[1]?=some (.ref T)/\T ≠ e/\H T=none/\h0.get? T=none/\h.get? T=some oT/\oT.data= .fields ts/\3<ts.size
noncomputable def CXt (P:Program) (w:World):CXT:=fun Ko H s E ev s'=>∃ e C H',ev= .ref e/\s'.os=s.os/\AllBare s'.gens/\Un (frs Ko) [] H H' s.heap s'.heap/\HOk P w H' s'.heap/\XcO s.heap H' s'.heap e C/\E (.ref C) none H'
section
variable {X:Cx}
theorem Xc.of (hx:X.ex=[]) {Kp:List (Addr × Obj)}{σ:St}{H H':Hp}{s s':Shared}{e0 C:Addr} (I:Inv X Kp σ H s) (x:XcO s.heap H' s'.heap e0 C):Xc X H' s'.heap e0 C:=by
 have J:Inv X [] σ H s:=I.pins_of fun p hp=>nomatch hp
 obtain ⟨oe,ws,T,oT,ts,h1,h2,h3,h4,h5,h6,h7,h8,h9,h10⟩:=x.ob
 have m1:=aaG hx J x.new
 have m2:=aaG hx J h7
 exact ⟨⟨x.un,m1.new,m1.loc,m1.cel,m1.pin⟩,oe,ws,h1,h2,h3,(Array.getElem?_eq_some_iff.mp h4).1,.inr ⟨T,oT,ts,h4,h5,⟨h6,m2.new,m2.loc,m2.cel,m2.pin⟩,h8,h9,h10⟩⟩
end
noncomputable def Thr (X:Cx) (H:Hp) (c:Str) (ev:Value) (s':Shared):Prop:=∃ e C σ' H',ev= .ref e/\X.mg c=some (.ref C)/\Inv X [] σ' H' s'/\jn H H'/\Xc X H' s'.heap e C
theorem Thr.mono {X:Cx}{H H1:Hp}{c:Str}{ev:Value}{s':Shared} (s:jn H H1) (h:Thr X H1 c ev s'):Thr X H c ev s':=by
 obtain ⟨e,C,σ',H',h1,h2,h3,h4,h5⟩:=h
 exact ⟨e,C,σ',H',h1,h2,h3,s.trans h4,h5⟩
@[irreducible] noncomputable def PDX (X:Cx) (e:Expr) (fx:Rho->Option Str):Prop:=∀ (s:Shared) (σ:St) (H:Hp) (ρ:Rho) (c:Str),Inv X [] σ H s->EnvR X.K H ρ σ->fx ρ=some c->(∀ ev s',Thr X H c ev s'->X.xe ev s')->wpAny (model X.prog X.w) X.A (eval e X.env) (fun _ _=>False) X.xe s
@[irreducible] noncomputable def PSX (X:Cx) (st:Stmt) (fx:Rho->Option Str):Prop:=∀ (s:Shared) (σ:St) (H:Hp) (ρ:Rho) (c:Str),Inv X [] σ H s->EnvR X.K H ρ σ->fx ρ=some c->(∀ ev s',Thr X H c ev s'->X.xe ev s')->wpAny (model X.prog X.w) X.A (exec st X.env) (fun _ _=>False) X.xe s
@[irreducible] noncomputable def abr (X:Cx) (sts:List Stmt) (fx:Rho->Option Str):Prop:=∀ (s:Shared) (σ:St) (H:Hp) (ρ:Rho) (c:Str),Inv X [] σ H s->EnvR X.K H ρ σ->fx ρ=some c->(∀ ev s',Thr X H c ev s'->X.xe ev s')->wpAny (model X.prog X.w) X.A (execs sts X.env) (fun _ _=>False) X.xe s
noncomputable def vB:List Value:=[.type "ValueError",.type "Exception",.type "BaseException",.type "object"]
noncomputable def acV (K:Fg) (mg:SV) (x:Str):Prop:=∃ C,mg x=some (.ref C)/\PySem.W.excIn K C vB "ValueError.__new__"=true
theorem anu {K:Fg}{h:Heap}{C:Addr} (X:K.In h) (q:PySem.W.excIn K C vB "ValueError.__new__"=true):
  ∃ bm N nm qn bs hdct sn sub ab col dd k0 k1 k2 k3 k5 mN,h.get? C=some (excClassObj nm qn C N bs bm hdct sn sub ab col dd k0 k1 k2 k3 k5 "ValueError.__new__")/\h.Ns N mN/\mN "__init__"=none/\OwnTail h vB bm:=by
 unfold PySem.W.excIn at q
 split at q
 ·rename_i dd cd sl ho
  split at q
  ·rename_i C' bm k0 k1 k2 k3 n k5 hm hs
   simp only [Bool.and_eq_true,beq_iff_eq,Bool.not_eq_true'] at q
   obtain ⟨⟨⟨⟨⟨rfl,rfl⟩,hdel⟩,ht⟩,hok⟩,hni⟩:=q
   obtain ⟨nm,bs,mro,ns,qn,hd,sn,sub,ab,col,del⟩:=cd
   dsimp only at hm hdel hok hni
   subst hm hdel
   have hsl:sl=#[k0,k1,k2,k3,some (.builtin "ValueError.__new__"),k5]:=by
    obtain ⟨l⟩:=sl
    simp only at hs
    rw [hs]
   subst hsl
   exact ⟨bm,ns,nm,qn,bs,hd,sn,sub,ab,col,dd,k0,k1,k2,k3,k5,_,X _ _ ho,.of_isNs (PySem.W.isNs_of_in X hok),PySem.W.nsMap_none_of_in X hok hni,PySem.W.tail_of_in X ht⟩
  ·cases q
 ·cases q
section
variable {X:Cx}{e a b c:Expr}{es:List Expr}{st:Stmt}{sts qp:List Stmt}{fx gx:Rho->Option Str}{F:RO}{pos:Pos}
theorem jA (h:PSX X st fx):abr X (st::qp) fx:=by
 with_unfolding_all
  intro s σ H ρ c I en q k
  exact wpAny_execs_cons (wpAny_mono (h s σ H ρ c I en q k) (fun _ _ z=>z.elim) fun _ _ z=>z)
noncomputable def nxX (F:RO) (gx:Rho->Option Str):Rho->Option Str:=fun ρ=>(F ρ).bind fun o=>match o with
 | .nx ρ'=>gx ρ'
 | _=>none
theorem qk (h1:PSD X st F) (h2:abr X qp gx):abr X (st::qp) (nxX F gx):=by
 with_unfolding_all
  intro s σ H ρ c I en q k
  cases hF:F ρ with
  | none=>simp [nxX,hF] at q
  | some o=>
   cases o with
   | nx ρ'=>
    have q':gx ρ'=some c:=by simpa [nxX,hF] using q
    refine wpAny_execs_cons (wpAny_mono (h1 [] s σ H { nx:=fun σ' H'=>jn H H'/\EnvR X.K H' ρ' σ',rt:=fun _ _=>False,bk:=fun _ _=>False,ct:=fun _ _=>False } I ⟨ρ,.nx ρ',en,hF,fun σ' H' s1 e1=>⟨s1,e1⟩⟩) (fun f s1 z=>?_) fun _ _ z=>z)
    cases f with
    | next=>
     obtain ⟨σ',H',I',sm,e1⟩:=z
     exact wpAny_mono (h2 s1 σ' H' ρ' c I' e1 q' fun ev s' t=>k ev s' (t.mono sm)) (fun _ _ z=>z.elim) fun _ _ z=>z
    | brk=>obtain ⟨_,_,_,z⟩:=z; exact z.elim
    | cont=>obtain ⟨_,_,_,z⟩:=z; exact z.elim
    | ret u=>obtain ⟨_,_,_,_,_,z⟩:=z; exact z.elim
   | _=>simp [nxX,hF] at q
noncomputable def ifX (tc:Rho->Option Bool) (fx gx:Rho->Option Str):Rho->Option Str:=fun ρ=>(tc ρ).bind fun x=>if x=true then fx ρ else gx ρ
noncomputable def ahA:Rho->Option Str:=fun _=>none
theorem qZ:abr X sts ahA:=by
 with_unfolding_all
  intro s σ H ρ c I en q k
  cases q
theorem QR {l r:List Stmt}{tc:Rho->Option Bool} (hc:PTD X a tc) (hl:abr X l fx) (hr:abr X r gx):PSX X (.If a l r pos) (ifX tc fx gx):=by
 with_unfolding_all
  intro s σ H ρ c I en q k
  cases ht:tc ρ with
  | none=>simp [ifX,ht] at q
  | some x=>
   refine wpAny_If (wpAny_mono (hc [] s σ H (fun b H'=>b=x/\jn H H') I ⟨ρ,x,en,ht,fun H' s1=>⟨rfl,s1⟩⟩) (fun d s1 z=>?_) fun _ _ z=>z)
   obtain ⟨H1,I1,rfl,s1'⟩:=z
   cases d with
   | true=>exact hl s1 σ H1 ρ c I1 (en.mono s1') (by simpa [ifX,ht] using q) fun ev s' t=>k ev s' (t.mono s1')
   | false=>exact hr s1 σ H1 ρ c I1 (en.mono s1') (by simpa [ifX,ht] using q) fun ev s' t=>k ev s' (t.mono s1')
theorem QS (h:PDX X e fx):PSX X (.Return (some e) pos) fx:=by
 with_unfolding_all
  intro s σ H ρ c I en q k
  exact wpAny_Return_some (wpAny_mono (h s σ H ρ c I en q k) (fun _ _ z=>z.elim) fun _ _ z=>z)
theorem zq (h:PDX X e fx) (hs:swapsWith e none pos.line X.env=pure false:=by rfl):PSX X (.Expr e pos) fx:=by
 with_unfolding_all
  intro s σ H ρ c I en q k
  exact wpAny_Expr_any (wpAny_mono (h s σ H ρ c I en q k) (fun _ _ z=>z.elim) fun _ _ z=>z) I.quiet hs
theorem anv {x:Str}{pos':Pos} (h:PDX X e fx) (hs:swapsWith e (some (.Name x pos')) pos.line X.env=pure false:=by rfl):PSX X (.Assign [.Name x pos'] e pos) fx:=by
 with_unfolding_all
  intro s σ H ρ c I en q k
  exact wpAny_Assign_Name (wpAny_mono (h s σ H ρ c I en q k) (fun _ _ z=>z.elim) fun _ _ z=>z) hs
end
noncomputable def af8 (K:Fg) (mg:SV) (n:Nat) (gx:LP->Option Str):Sp:=fun vs H _ E=>∃ ds c,ds.length=n/\Reps K H ds vs/\gx ds=some c/\∀ C H',mg c=some (.ref C)->jn H H'->E (.ref C) none H'
noncomputable def qC (P:Program) (w:World) (K:Fg) (mg:SV) (base:Heap) (x:Str) (ps:List Str) (k n:Nat) (gx:LP->Option Str):Prop:=
 ∃ (f:Addr) (fd:FuncData),FnOk P w K mg base (CXt P w) k f fd ps (af8 K mg n gx)/\mg x=some (.ref f)/\PySem.W.keepIn K (.ref f)=true/\JA K fd ps []
section
variable {X:Cx}{e a b c:Expr}{es:List Expr}{st:Stmt}{sts qp:List Stmt}{fx gx:Rho->Option Str}{F:RO}{pos:Pos}
theorem j9 {k j n:Nat}{ps:List Str}{g:LP->Option Str}{x:Str}{p:Pos}{fr:Rho->Option (LP)} (hxe:X.ex=[]) (C:qC X.prog X.w X.K X.mg X.base x ps k n g) (hr:Room j X.A) (hkj:k<=j) (ha:PAD X (e::es) fr) (hl:∀ ρ ds,fr ρ=some ds->ds.length=n)
  (hg:Gl X x:=by rfl) (hdb:(x == ("__debug__":Str))=false:=by decide) (he:starEach (e::es) X.env=(false,eval e X.env)::starEach es X.env:=by rfl)
  (hpl:(backTo pos (starEach es X.env)).any (·.1)=false:=by rfl):PDX X (.Call (.Name x p) (e::es) [] pos) (fun ρ=>(fr ρ).bind g):=by
 with_unfolding_all
  intro s σ H ρ c I en q k'
  obtain ⟨f,fd,F,hm,hk,hb⟩:=C
  cases hd:fr ρ with
  | none=>simp [hd] at q
  | some ds=>
   have q':g ds=some c:=by simpa [hd] using q
   refine wpAny_Call_Name_kw (JF I hg hm ?_ hdb)
   refine PySem.W.callWith_K (h₀:=X.base) I.ok.mod.kin hk (thn (ha pos [] s σ H (fun vs H1=>jn H H1/\Reps X.K H1 ds vs) I ⟨ρ,ds,en,hd,fun vs H1 s1 r1=>⟨s1,r1⟩⟩) fun us s1 ⟨vs,H1,I1,r,sm,rd⟩=>⟨I1.kIn,?_⟩) he hpl
   have hsp:af8 X.K X.mg n g vs H1 (fun _ _=>False) (fun cls _ H'=>X.mg c=some cls/\jn H1 H')->vs.length=ps.length:=fun z=>F.len _ _ _ _ z
   by_cases hn:ds.length=n
   ·have sp:af8 X.K X.mg n g vs H1 (fun _ _=>False) (fun cls _ H'=>X.mg c=some cls/\jn H1 H'):=⟨ds,c,hn,rd,q',fun C H' hC s2=>⟨hC,s2⟩⟩
    have hlu:(us++[]).length=ps.length:=by rw [List.append_nil,←r.length]; exact hsp sp
    have hbd:=hb s1 us I1.kIn hlu
    rw [List.append_nil] at hbd
    refine wpAny_call (codeAny_mono (F.run X.A X.stack s1 H1 ⟨us,[]⟩ us vs _ _ (hr.mono hkj) I1.env0 hbd r sp) fun rs s' hq=>?_)
    cases rs with
    | error ev=>
     obtain ⟨e0,C,H',rfl,os,bare,un,hok,xc,hC,sm2⟩:=hq
     have J':Inv X [] σ H' s':=I1.call' (ch:=[]) os un hok bare fun b z=>nomatch z
     exact k' _ _ ⟨e0,C,σ,H',rfl,hC,J',sm.trans sm2,Xc.of hxe I1 xc⟩
    | ok fl=>
     cases fl with
     | ret u=>obtain ⟨v,H',_,_,_,_,_,z⟩:=hq; exact z.elim
     | next=>exact False.elim hq
     | brk=>exact False.elim hq
     | cont=>exact False.elim hq
   ·exact absurd (hl ρ ds hd) hn
theorem zu {x m:Str}{k0:_}{np p3 cpos:Pos} (hxe:X.ex=[]) (hE:acV X.K X.mg x) (hc:X.calm=true) (hg:Gl X x:=by rfl) (hdb:(x == ("__debug__":Str))=false:=by decide)
  (he:starEach [.Constant (.str m) k0 p3] X.env=[(false,eval (.Constant (.str m) k0 p3) X.env)]:=by rfl):PSX X (.Raise (some (.Call (.Name x np) [.Constant (.str m) k0 p3] [] cpos)) none pos) (fun _=>some x):=by
 with_unfolding_all
  intro s σ H ρ c I en q k
  cases q
  obtain ⟨C,hm,hex⟩:=hE
  obtain ⟨bm,N,nm,qn,bs,hdct,sn,sub,ab,col,dd,k0',k1,k2,k3,k5,mN,hC,hN,hni,TL⟩:=anu (h:=X.base) I.ok.mod.kin hex
  have hpl:(backTo cpos (starEach [.Constant (.str m) k0 p3] X.env)).any (·.1)=false:=by rw [he]; rfl
  refine wpAny_Raise_call_subT (C:=C) (nm:=nm) (q:=qn) (N:=N) (bs:=bs) (bm:=bm) (hdct:=hdct) (sn:=sn) (sub:=sub) (ab:=ab) (col:=col) (dd:=dd) (k0:=k0') (k1:=k1) (k2:=k2) (k3:=k3) (k5:=k5) PySem.F.excBase_ValueError (mN:=mN) (TL.hasType rfl) (I.ok.hd hc) hpl hni ?_
  refine wpAny_mono (ab8 (pos:=np) hg hm (show j8 (.ref C) (.ref C) from rfl) hdb [] s σ H (fun v H'=>v= .ref C/\H'=H) I ⟨rfl,rfl⟩) (fun v s1 ⟨y,H1,I1,r1,e1,e2⟩=>?_) fun _ _ z=>z
  subst e1; subst e2
  obtain rfl:v=Value.ref C:=r1
  refine ⟨rfl,?_⟩
  have pa:PA X [.Constant (.str m) k0 p3] _:=qv (X:=X) akx zw he
  have hsp:=pa cpos [] s1 σ H1 (fun vs H'=>vs.length=1/\H'=H1) I1 ⟨rfl,rfl⟩
  rw [he] at hsp ⊢
  refine Calls.evalArgs_plain (wpAny_mono hsp (fun us s2 ⟨vs,H2,I2,r2,l2,e2⟩=>?_) fun _ _ z=>z)
  subst e2
  have kp:∀ b o,X.base.get? b=some o->s2.heap.get? b=some o:=fun b o e=>(I2.bs b o e).1
  refine ⟨rfl,?_,kp _ _ hC,hN.keeps kp,TL.keeps kp,fun h' e0 md=>?_⟩
  ·show us.length<=sizeLine
   rw [←r2.length,l2,sizeLine_eq]; decide
  ·obtain ⟨t,h1,h2,h3⟩:=md.there
   have I3:Inv X [] σ H2 { s2 with heap:=h' }:=I2.kept (t':=s2.toks) md.keeps
   have m0:=aaG hxe I2 md.new
   exact k _ _ ⟨e0,C,σ,H2,rfl,hm,I3,jn.refl _,m0,_,_,h1,⟨rfl,rfl⟩,rfl,by simp,.inl rfl⟩
end
theorem aeO {CX:CXT}{P:Program}{w:World}{K:Fg}{mg:SV}{base:Heap}{k:Nat}{f:Addr}{name qual:Str}{params:Arguments}{body:List Stmt}{scope:Scope}{dV kV doc pm Kc ct oc:Value}{an od:Option Addr}
  {osl:Array (Option Value)} {N ps:List Str} {sp:Sp} (lk:K.lookup f=some ⟨oc,od,.func (PySem.W.fnOf name qual params body scope dV kV doc pm an Kc ct),osl⟩) (hcd:PySem.W.codeIn K Kc qual=true) (S:FnScope N ps scope)
  (len:∀ vs H Q E,sp vs H Q E->vs.length=ps.length)
  (hbody:∀ (A:Around) (Ko:List Env) (s:Shared) (H:Hp) (vs:List V) (Q:VK) (E:XK) (s1:Shared),Room k (A.deeper (envOfC qual scope s.heap.objs.size f Kc))->sp vs H Q E->
   Inv (zU CX P w K mg base N qual scope f Kc A Ko s H E) [] (L2.zO N vs) H s1->
   wpAny (model P w) (A.deeper (envOfC qual scope s.heap.objs.size f Kc)) (execs body (envOfC qual scope s.heap.objs.size f Kc)) (SP (zU CX P w K mg base N qual scope f Kc A Ko s H E) [] { nx:=fun _ H'=>Q .non H',rt:=Q }) (zU CX P w K mg base N qual scope f Kc A Ko s H E).xe s1):
  FnOk P w K mg base CX (k+1) f (PySem.W.fnOf name qual params body scope dV kV doc pm an Kc ct) ps sp:=by
 refine ⟨len,fun A Ko s H args us vs Q E hr e0 hb r hsp=>?_⟩
 have hl:=len _ _ _ _ hsp
 have KX:K.In s.heap:=e0.mod.kin.keeps fun b o e=>(e0.bs b o e).1
 have lim:s.heap.NoLimit:=e0.mod.nolimit.keeps fun b o e=>(e0.bs b o e).1
 have hkind:∀ y ∈ ps.zip us,scope.names.lookup y.1=some .local ∨ (scope.names.lookup y.1=some .cell/\((cellsFrom (s.heap.objs.size+1) scope.names []).lookup y.1).isSome=true):=fun ⟨n,v⟩ hy=>by
  rcases S.par n (List.of_mem_zip hy).1 with q | q
  ·exact .inl q
  ·exact .inr ⟨q,PySem.W.cellsFrom_some _ _ _ (.inl q)⟩
 refine codeAny_call_function hr.depth (KX _ _ lk) rfl S.co S.gen rfl (PySem.W.codeRec_of KX hcd) (hb _ _ _ _ ?_)
 refine wpAny_newFunctionEnv_cells S.kind hkind fun env he s1 x=>?_
 subst he
 refine ⟨lim.keeps x.toInCall.keep,codeAny_func ?_⟩
 have I:Inv (zU CX P w K mg base N qual scope f Kc A Ko s H E) [] (L2.zO N vs) H s1:=abg S hr.hd e0 hl r x
 refine wpAny_mono (hbody A Ko s H vs Q E s1 (hr.deeper _) hsp I) (fun fl s' hs=>?_) fun e s' hs=>hs
 have fin:∀ {σ':St} {H':Hp} {v:V} {u:Value},Inv (zU CX P w K mg base N qual scope f Kc A Ko s H E) [] σ' H' s'->j8 v u->Q v H'->CE Ko P w H s Q u s':=
  fun {σ' H' v u} J rv q=>⟨v,H',J.os,J.bare,J.base,J.hok,rv,q⟩
 cases fl with
 | ret u=>
  obtain ⟨v,σ',H',J,rv,q⟩:=hs
  exact fin J rv q
 | next=>
  obtain ⟨σ',H',J,q⟩:=hs
  exact fin (v:=V.non) (u:=Value.none) J rfl q
 | brk=>
  obtain ⟨_,_,_,q⟩:=hs
  exact False.elim q
 | cont=>
  obtain ⟨_,_,_,q⟩:=hs
  exact False.elim q
theorem abt {CX:CXT}{P:Program}{w:World}{K:Fg}{mg:SV}{base:Heap}{N:List Str}{qual:Str}{scope:Scope}{f:Addr}{cd:Value}{A:Around}{Ko:List Env}{s:Shared}{H:Hp}{E:XK}:Top0 (zU CX P w K mg base N qual scope f cd A Ko s H E):=⟨rfl,rfl,rfl⟩
section
variable {P:Program}{w:World}{K:Fg}{mg:SV}{base:Heap}
noncomputable def zr (N:List Str) (n:Nat) (Fx:Rho->Option Str) (ds:LP):Option Str:=if ds.length=n then Fx (jC N ds) else none
theorem zy {x qual:Str}{st:Stmt}{f:Addr}{fd:FuncData}{N ps:List Str}{k:Nat}{Fx:Rho->Option Str} (F:Fun K x qual st f fd) (S:FnScope N ps (jf st))
  (body:∀ (Kc:Value) (A:Around) (Ko:List Env) (s:Shared) (H:Hp) (E:XK),Room k (A.deeper (envOfC qual (jf st) s.heap.objs.size f Kc))->abr (zU (CXt P w) P w K mg base N qual (jf st) f Kc A Ko s H E) (jR st) Fx):
  FnOk P w K mg base (CXt P w) (k+1) f fd ps (af8 K mg ps.length (zr N ps.length Fx)):=by
 with_unfolding_all
  obtain ⟨oc,od,kV,doc,pm,an,Kc,ct,osl,rfl,lk,hcd⟩:=F.ex
  refine aeO lk hcd S (fun vs H Q E h=>?_) fun A Ko s H vs Q E s1 hr h I=>?_
  ·obtain ⟨ds,c,h1,h2,_⟩:=h
   rw [h2.length]; exact h1
  ·obtain ⟨ds,c,h1,h2,h3,h4⟩:=h
   unfold zr at h3
   rw [if_pos h1] at h3
   refine wpAny_mono (body Kc A Ko s H E hr s1 (L2.zO N vs) H (jC N ds) c I (Ji h2) h3 fun ev s' t=>?_) (fun _ _ z=>z.elim) fun _ _ z=>z
   obtain ⟨e,C,σ',H',rfl,hC,J,sm,xc⟩:=t
   have T0:Top0 (zU (CXt P w) P w K mg base N qual (jf st) f Kc A Ko s H E):=abt
   show wpAny (model P w) (A.deeper (envOfC qual (jf st) s.heap.objs.size f Kc)) (leaving (envOfC qual (jf st) s.heap.objs.size f Kc) (.ref e)) (fun _ s''=>CXt P w Ko H s E (.ref e) s'') (fun e' s''=>CXt P w Ko H s E e' s'') s'
   have n1:=aaH (E:=fun _ _=>False) (A:=A.deeper (envOfC qual (jf st) s.heap.objs.size f Kc)) T0 J.ok.frames J xc
   unfold leaving
   refine wpAny_bind (wpAny_mono n1 (fun _ s2 ⟨J2,t2⟩=>?_) fun _ _ z=>z.elim)
   have n2:=zP (E:=fun _ _=>False) (A:=A.deeper (envOfC qual (jf st) s.heap.objs.size f Kc)) none J2 t2
   refine wpAny_mono n2 (fun _ s3 ⟨J3,t3⟩=>?_) fun _ _ z=>z.elim
   obtain ⟨oe,ws,T,oT,ts,g1,g2,g3,g4,g5,g6,g7,g8,g9⟩:=t3.ob
   exact ⟨e,C,H',rfl,J3.os,J3.bare,J3.base,J3.hok,⟨t3.mine.un,t3.mine.new,oe,ws,T,oT,ts,g1,g2,g3,g4,g5,g6.un,g6.new,g7,g8,g9⟩,h4 C H' hC sm⟩
end
theorem Inv.asA {X:Cx}{Kp:List (Addr × Obj)}{σ:St}{H:Hp}{s:Shared}{A:Around}{cm:Bool}{xe:Value->SP0} (I:Inv X Kp σ H s) (hf:A.frames=some X.stack) (hd:cm=true->A.handled=none):Inv { X with A:=A,calm:=cm,xe:=xe } Kp σ H s:=
 ⟨⟨I.ok.mod,I.ok.kind,I.ok.glob,I.ok.blt,I.ok.above,I.ok.inj,I.ok.has,I.ok.cab,hd,hf,I.ok.stk,I.ok.exf,I.ok.bs,I.ok.bsz,I.ok.noex,I.ok.exfs,I.ok.funs,I.ok.frf⟩,I.os,I.bare,I.base,I.loc,I.cell,I.free,I.freeC,I.pin,I.hok,I.len⟩
theorem Inv.ofA {X:Cx}{Kp:List (Addr × Obj)}{σ:St}{H:Hp}{s:Shared}{A:Around}{cm:Bool}{xe:Value->SP0} (ok:X.Ok) (I:Inv { X with A:=A,calm:=cm,xe:=xe } Kp σ H s):Inv X Kp σ H s:=
 ⟨ok,I.os,I.bare,I.base,I.loc,I.cell,I.free,I.freeC,I.pin,I.hok,I.len⟩
theorem Mine.unwish {X:Cx}{E:Value->SP0}{H:Hp}{b:Addr} (m:Mine (X.wish E) H b):Mine X H b:=⟨m.un,m.new,m.loc,m.cel,m.pin⟩
theorem Xc.unwish {X:Cx}{E:Value->SP0}{H:Hp}{h:Heap}{e C:Addr} (x:Xc (X.wish E) H h e C):Xc X H h e C:=by
 obtain ⟨oe,vs,h1,h2,h3,h4,h5⟩:=x.ob
 refine ⟨x.mine.unwish,oe,vs,h1,h2,h3,h4,?_⟩
 rcases h5 with q | ⟨T,oT,ts,q1,q2,q3,q4⟩
 ·exact .inl q
 ·exact .inr ⟨T,oT,ts,q1,q2,q3.unwish,q4⟩
@[irreducible] noncomputable def PS0 (X:Cx) (st:Stmt) (F:RO):Prop:=∀ (s:Shared) (σ:St) (H:Hp) (D:Ends),Inv X [] σ H s->tDS X.K F D σ H->wpAny (model X.prog X.w) X.A (exec st X.env) (SP X [] D) X.xe s
@[irreducible] noncomputable def alp (X:Cx) (sts:List Stmt) (F:RO):Prop:=∀ (s:Shared) (σ:St) (H:Hp) (D:Ends),Inv X [] σ H s->tDS X.K F D σ H->wpAny (model X.prog X.w) X.A (execs sts X.env) (SP X [] D) X.xe s
section
variable {X:Cx}{st:Stmt}{sts qp tb hb:List Stmt}{F G:RO}{pos:Pos}
theorem anw (h:Zb X sts F):alp X sts F:=by
 with_unfolding_all
  exact fun s σ H D I t=>h [] s σ H D I t
theorem ajB (h1:PS0 X st F) (h2:alp X qp G):alp X (st::qp) (jK F G):=by
 with_unfolding_all
  intro s σ H D I ⟨ρ,o,en,q,k⟩
  cases hF:F ρ with
  | none=>simp [jK,hF] at q
  | some o1=>
   cases o1 with
   | nx ρ1=>
    have q':G ρ1=some o:=by simpa [jK,hF] using q
    refine wpAny_execs_cons (thn (h1 s σ H { D with nx:=fun σ' H'=>jn H H'/\EnvR X.K H' ρ1 σ' } I ⟨ρ,.nx ρ1,en,hF,fun σ' H' s1 e1=>⟨s1,e1⟩⟩) fun f s1 z=>?_)
    cases f with
    | next=>
     obtain ⟨σ',H',I',sm,e1⟩:=z
     exact h2 s1 σ' H' D I' ⟨ρ1,o,e1,q',k.mono sm⟩
    | brk=>exact z
    | cont=>exact z
    | ret u=>exact z
   | rt d=>
    have q':Out.rt d=o:=by simpa [jK,hF] using q
    subst q'
    refine wpAny_execs_cons (thn (h1 s σ H { D with nx:=fun _ _=>False } I ⟨ρ,.rt d,en,hF,k⟩) fun f s1 z=>?_)
    cases f with
    | next=>obtain ⟨_,_,_,z⟩:=z; exact z.elim
    | brk=>exact z
    | cont=>exact z
    | ret u=>exact z
   | bk ρ1=>
    have q':Out.bk ρ1=o:=by simpa [jK,hF] using q
    subst q'
    refine wpAny_execs_cons (thn (h1 s σ H { D with nx:=fun _ _=>False } I ⟨ρ,.bk ρ1,en,hF,k⟩) fun f s1 z=>?_)
    cases f with
    | next=>obtain ⟨_,_,_,z⟩:=z; exact z.elim
    | brk=>exact z
    | cont=>exact z
    | ret u=>exact z
   | ct ρ1=>
    have q':Out.ct ρ1=o:=by simpa [jK,hF] using q
    subst q'
    refine wpAny_execs_cons (thn (h1 s σ H { D with nx:=fun _ _=>False } I ⟨ρ,.ct ρ1,en,hF,k⟩) fun f s1 z=>?_)
    cases f with
    | next=>obtain ⟨_,_,_,z⟩:=z; exact z.elim
    | brk=>exact z
    | cont=>exact z
    | ret u=>exact z
end
section
variable {X:Cx}{st b0:Stmt}{sts qp tb hb:List Stmt}{F G:RO}{fx:Rho->Option Str}{pos:Pos}
noncomputable def JV (n:Nat):Rho:=List.replicate n none
noncomputable abbrev hX (X:Cx) (e:Addr):Cx:={ X with A:=X.A.mark (some (.ref e)),calm:=false,xe:=fun _ _=>False }
theorem SP.ofA {A:Around}{cm:Bool}{xe:Value->SP0}{D:Ends}{f:Flow}{s':Shared} (ok:X.Ok) (h:SP { X with A:=A,calm:=cm,xe:=xe } [] D f s'):SP X [] D f s':=by
 cases f with
 | next=>obtain ⟨σ',H',I,q⟩:=h; exact ⟨σ',H',Inv.ofA ok I,q⟩
 | brk=>obtain ⟨σ',H',I,q⟩:=h; exact ⟨σ',H',Inv.ofA ok I,q⟩
 | cont=>obtain ⟨σ',H',I,q⟩:=h; exact ⟨σ',H',Inv.ofA ok I,q⟩
 | ret u=>obtain ⟨v,σ',H',I,r,q⟩:=h; exact ⟨v,σ',H',Inv.ofA ok I,r,q⟩
end
section
variable {P:Program}{w:World}{K:Fg}{mg:SV}{base:Heap}
theorem alq {x qual:Str}{st:Stmt}{f:Addr}{fd:FuncData}{N ps:List Str}{k:Nat}{B:RO} (F:Fun K x qual st f fd) (S:FnScope N ps (jf st))
  (body:∀ (Kc:Value) (A:Around) (Ko:List Env) (s:Shared) (H:Hp) (E:XK),Room k (A.deeper (envOfC qual (jf st) s.heap.objs.size f Kc))->alp (zU CX0 P w K mg base N qual (jf st) f Kc A Ko s H E) (jR st) B):
  FnOk P w K mg base CX0 (k+1) f fd ps (Pur K ps.length (jw N ps.length B)):=by
 with_unfolding_all
  obtain ⟨oc,od,kV,doc,pm,an,Kc,ct,osl,rfl,lk,hcd⟩:=F.ex
  refine aeO lk hcd S (fun vs H Q E h=>?_) fun A Ko s H vs Q E s1 hr h I=>?_
  ·obtain ⟨ds,d,h1,h2,_⟩:=h
   rw [h2.length]; exact h1
  ·obtain ⟨ds,d,h1,h2,h3,h4⟩:=h
   unfold jw at h3
   rw [if_pos h1] at h3
   cases hB:B (jC N ds) with
   | none=>rw [hB] at h3; cases h3
   | some o=>
    rw [hB] at h3
    refine body Kc A Ko s H E hr s1 (L2.zO N vs) H _ I ⟨jC N ds,o,Ji h2,hB,?_⟩
    cases o with
    | rt c=>cases h3; exact fun v H' sm r=>h4 v H' sm r
    | nx ρ=>cases h3; exact fun σ H' sm e=>h4 .non H' sm rfl
    | bk ρ=>cases h3
    | ct ρ=>cases h3
end
theorem aaI {t sl:Addr}{items:Array Value}{vl vu:Value}{lo hi:Option Int}{Q:Value->SP0} (ht:IsTup s.heap t items) (hs:s.heap.IsSliceOf sl vl vu .none) (pl:IsPart vl lo) (pu:IsPart vu hi)
  (hw:HT.sIx items.size 0 lo=0/\HT.sIx items.size items.size hi=items.size) (h:Q (.ref t) s):wpAny (model prog w) A (getItem (.ref t) (.ref sl)) Q E s:=by
 obtain ⟨os,hos,hcs,hds⟩:=id hs
 have hTs:s.TypeIs (.ref sl) "slice":=⟨os,hos,hcs⟩
 unfold getItem
 first | (with_reducible refine wpAny_holding ?_) | skip
 first | refine wpAny_bind (wpAny_pure ?_) | skip
 refine wpAny_bind (wpAny_sequenceKey ht.typeIs (by decide) ?_)
 refine wpAny_bind (wpAny_callSpecial?_slot (name:=Str.ofString "__getitem__") ht.typeIs PyProof.Rows.slot_tuple_getitem (wpAny_call_entry PyProof.Rows.slot_tuple_getitem ht.typeIs entry_tuple_getitem ?_ (args_tuple_getitem _ _)))
 show wpAny _ _ (Builtin.Tuple.tupleItemsOf (.ref t) >>= _) _ _ s
 refine wpAny_bind (tupleItemsOf_ ht (wpAny_bind (wpAny_typeOf hTs ?_)))
 rw [if_pos (show (Value.type "slice" == Value.type "slice")=true by decide)]
 refine wpAny_bind (HT.sliceApplied_gen hs pl pu ?_)
 rw [hw.1,hw.2]
 have hyes:((((0:Nat):Int) == 0 && (1:Int) == 1 && (items.size - 0) == items.size)=true):=by simp
 show wpAny _ _ (if ((((0:Nat):Int) == 0 && (1:Int) == 1 && (items.size - 0) == items.size)=true) then _ else _) _ _ s
 rw [if_pos hyes]
 obtain ⟨o,ho,hc,hd⟩:=id ht
 have hT:s.TypeIs (.ref t) "tuple":=⟨o,ho,hc⟩
 have ex:∀ {R:Bool->SP0} {A':Around} {E':Value->SP0},R true s->wpAny (model prog w) A' (Builtin.Tuple.tupleIsExact (.ref t)) R E' s:=fun {R A' E'} hR=>by
  unfold Builtin.Tuple.tupleIsExact
  first
   | exact wpAny_bind (wpAny_typeOf hT (wpAny_pure hR))
   | (wp_walk; exact hR)
 first
  | exact wpAny_bind (ex (wpAny_bind (wpAny_rule (wpAny_pure ⟨_,rfl,wpAny_pure h⟩))))
  | exact wpAny_bind (ex (by rw [if_pos rfl]; exact wpAny_bind (wpAny_rule (wpAny_pure ⟨_,rfl,wpAny_pure h⟩))))
  | (refine wpAny_bind (ex ?_); wp_walk; exact ⟨_,rfl,wpAny_pure h⟩)
  | (refine wpAny_bind (wpAny_bind (ex ?_)); wp_walk; exact ⟨_,rfl,wpAny_pure h⟩)
section
variable {X:Cx}{e a b c:Expr}{fa fb fc:RP}{pos p2:Pos}
noncomputable def aq9 (K:Fg):V->Option Int->Option Int->Hp->VK->Prop:=fun x lo hi H Q=>∃ a xs,x= .ref a/\SqT K H a xs/\(HT.sIx xs.length 0 lo=0/\HT.sIx xs.length xs.length hi=xs.length)/\Q (.ref a) H
theorem af9:SlR X (aq9 X.K):=by
 intro Kp s σ H x v vl vu lo hi sl Q I rx hs pl pu h
 obtain ⟨a,xs,rfl,hx,hw,q⟩:=h
 cases rx
 obtain ⟨its,r,ht,hz⟩:=I.tuple hx
 have hlen:its.toArray.size=xs.length:=by rw [List.size_toArray]; exact r.length.symm
 exact ⟨"tuple",_,PyProof.Rows.slot_tuple_getitem.lookup,ht.typeIs,aaI ht hs pl pu (by rw [hlen]; exact hw) ⟨.ref a,H,I,rfl,q⟩⟩
noncomputable def aga (p:PyData) (lo hi:Option Int):OP:=match p with
 | .tuple ds=>some (.tuple (aeN ds lo hi))
 | _=>none
theorem alr {K:Fg}{p d:PyData}{lo hi:Option Int}{x:V}{H:Hp}{Q:VK} (h:aga p lo hi=some d) (r:Rep K H p x) (k:∀ v H',jn H H'->Rep K H' d v->Q v H'):aqK K x lo hi H Q ∨ aq9 K x lo hi H Q:=by
 unfold aga at h
 split at h
 ·rename_i ds
  cases h
  obtain ⟨a,xs,e1,e2,e3⟩:=r
  have hl:=e3.length
  have rr:Reps K H (aeN ds lo hi) (aex xs lo hi):=by
   unfold aex aeN
   rw [hl]
   exact (e3.drop _).take _
  by_cases hw:HT.sIx xs.length 0 lo=0/\HT.sIx xs.length xs.length hi=xs.length
  ·refine .inr ⟨a,xs,e1,e2,hw,k _ H (jn.refl H) ⟨a,xs,rfl,e2,?_⟩⟩
   have ex:aex xs lo hi=xs:=by unfold aex; rw [hw.1,hw.2]; simp
   rw [ex] at rr
   exact rr
  ·refine .inl ⟨a,xs,e1,e2,hw,fun q hq=>?_⟩
   have s1:=jV (o:= .tup (aex xs lo hi)) hq
   exact k _ _ s1 ⟨q,_,rfl,SqT.of jp,Reps.mono s1 _ _ rr⟩
 ·cases h
noncomputable def abU (fa fb:RP):RP:=fun ρ=>(fa ρ).bind fun p=>(fb ρ).bind fun q=>(inI q).bind fun i=>aga p none (some i)
theorem agb (ha:PD X a fa) (hb:PD X b fb):PD X (.Subscript a (.Slice none (some b) none p2) pos) (abU fa fb):=by
 with_unfolding_all
  refine PE.imp (afO (akO.or af9) ha aij (aik hb)) fun σ H Q ⟨ρ,d,en,q,k⟩=>?_
  cases h1:fa ρ with
  | none=>simp [abU,h1] at q
  | some y=>
   cases h2:fb ρ with
   | none=>simp [abU,h1,h2] at q
   | some z=>
    cases h3:inI z with
    | none=>simp [abU,h1,h2,h3] at q
    | some i=>
     have q':aga y none (some i)=some d:=by simpa [abU,h1,h2,h3] using q
     have hz:=af6 h3
     subst hz
     refine ⟨ρ,y,en,h1,fun v H1 s1 r1=>⟨ρ,_,en.mono s1,h2,fun u H2 s2 r2=>?_⟩⟩
     cases (show u=_ from r2)
     exact ⟨i,rfl,alr q' (Rep.mono s2 _ _ r1) fun v H' s r=>k v H' (s1.trans (s2.trans s)) r⟩
noncomputable def Zz (fa fb:RP):RP:=fun ρ=>(fa ρ).bind fun p=>(fb ρ).bind fun q=>(inI q).bind fun i=>aga p (some i) none
theorem ahB (ha:PD X a fa) (hb:PD X b fb):PD X (.Subscript a (.Slice (some b) none none p2) pos) (Zz fa fb):=by
 with_unfolding_all
  refine PE.imp (afO (akO.or af9) ha (aik hb) aij) fun σ H Q ⟨ρ,d,en,q,k⟩=>?_
  cases h1:fa ρ with
  | none=>simp [Zz,h1] at q
  | some y=>
   cases h2:fb ρ with
   | none=>simp [Zz,h1,h2] at q
   | some z=>
    cases h3:inI z with
    | none=>simp [Zz,h1,h2,h3] at q
    | some i=>
     have q':aga y (some i) none=some d:=by simpa [Zz,h1,h2,h3] using q
     have hz:=af6 h3
     subst hz
     refine ⟨ρ,y,en,h1,fun v H1 s1 r1=>⟨ρ,_,en.mono s1,h2,fun u H2 s2 r2=>?_⟩⟩
     cases (show u=_ from r2)
     exact ⟨i,rfl,alr q' (Rep.mono s2 _ _ r1) fun v H' s r=>k v H' (s1.trans (s2.trans s)) r⟩
end
section
variable {X:Cx}
end
section
variable {X:Cx}
end
section
variable {X:Cx}{e a b c:Expr}{fa fb fc:RP}{pos p2:Pos}
end
noncomputable def Ite (K:Fg) (l:Addr):It:=
 ⟨fun i H=>∃ xs x,SqL K H l xs/\xs[i]?=some x,
  fun i H u H'=>∃ p x,u= .ref p/\H p=none/\H'=upd H p (.tup [.int (i:Int),x])/\∀ xs,SqL K H l xs->xs[i]?=some x,
  fun i H=>∃ xs,SqL K H l xs/\xs.length<=i⟩
theorem ajC {P:Program}{w:World}{K:Fg}{elts:List Expr}{x1:Nat}{pos:Pos}{e it l:Addr} (hei:e ≠ it):
  Turn P w K (.Tuple elts x1 pos) (Ite K l) [e,it] e (fun i h=>(∃ old,IsEnum h e it i old)/\h.IsListIter it l i) where
 mem:=by simp
 obj:=fun i h st b hb=>by
  obtain ⟨⟨old,he⟩,⟨o,ho,hc,hd⟩⟩:=st
  simp only [List.mem_cons,List.not_mem_nil,or_false] at hb
  rcases hb with rfl | rfl
  ·exact ⟨_,he,fun v q=>by cases q⟩
  ·exact ⟨o,ho,fun v q=>by rw [hd] at q; cases q⟩
 keep:=fun i h h' st k=>by
  obtain ⟨⟨old,he⟩,⟨o,ho,r⟩⟩:=st
  exact ⟨⟨old,k e (by simp) _ he⟩,o,k it (by simp) o ho,r⟩
 item:=by
  intro X hP hw hK hc i Kp s σ H E I hf st hg
  subst hP hw hK
  obtain ⟨xs,x,q1,ex⟩:=hg
  obtain ⟨us1,r1,p1,_⟩:=I.list q1
  have p1:=p1.isList
  obtain ⟨u1,m1,l1⟩:=r1.get ex
  obtain ⟨⟨old,he⟩,hit⟩:=st
  refine wpAny_pyNext_enum_item he hit p1 (by simpa using m1) hei fun h1 ho hit1 hT hsz hk=>⟨_,rfl,?_⟩
  refine wpAny_letOwnedTupleGo_enum (s:={ s with heap:=h1,toks:=s.toks+1 }) ho fun h2 he2 hs2=>?_
  have nT:H s.heap.objs.size=none:=I.hok.fresh (Nat.le_refl _)
  have elt:e<s.heap.objs.size:=Heap.lt_size he
  have B2:∀ b o,b ∉ [e,it]->s.heap.get? b=some o->h2.get? b=some o:=fun b o hb q=>by
   simp only [List.mem_cons,List.not_mem_nil,or_false,not_or] at hb
   exact (hs2.2 b hb.1).trans (hk b o hb.1 hb.2 q)
  have T2:h2.get? s.heap.objs.size=some { cls:= .type "tuple",data:= .seq #[.int i s.toks,u1] }:=(hs2.2 _ (Nat.ne_of_gt elt)).trans hT
  have hit2:h2.IsListIter it l (i+1):=by
   obtain ⟨o,ho',r⟩:=hit1
   exact ⟨o,(hs2.2 it hei.symm).trans ho',r⟩
  have ntr:∀ b u,H b=some u->b ∉ [e,it]:=fun b u q hb=>by
   have:=(hf b hb).1
   rw [q] at this; cases this
  have neT:∀ b u,H b=some u->b ≠ s.heap.objs.size:=fun b u e q=>by rw [q,nT] at e; cases e
  have hok2:HOk X.prog X.w (upd H s.heap.objs.size (.tup [.int (i:Int),x])) h2:=fun b u q=>by
   by_cases hb:b=s.heap.objs.size
   ·subst hb
    rw [jp] at q
    cases q
    exact ⟨by show 2<=sizeLine; rw [sizeLine_eq]; decide,[.int i s.toks,u1],.cons ⟨_,rfl⟩ (.cons l1 .nil),⟨_,T2,rfl,_,rfl⟩⟩
   ·rw [jt hb] at q
    refine (I.hok b u q).stay (fun c o hc' z=>B2 c o ?_ z) (fun c z=>by rw [jt (neT c _ z)]; exact z) fun c ws z=>by rw [jt (neT c _ z)]; exact z
    rcases hc' with q' | q'
    ·rw [q']; exact ntr b u q
    ·exact ntr c _ q'
  have I2:Inv X Kp σ (upd H s.heap.objs.size (.tup [.int (i:Int),x])) { s with heap:=h2,toks:=s.toks+1 }:=by
   refine I.step (g':=s.gens) (d':=s.drawn) (ch:=[e,it]) (fun b hb=>?_) (fun b o _ _ hb q _=>B2 b o hb q) (fun b o _ _ hb q _=>⟨o.slots,B2 b o hb q⟩) (fun b o hb q n=>?_) (fun b o hb q=>⟨o,B2 b o hb q⟩)
    (fun b ws q=>by rw [jt (neT b _ q)]; exact q) (fun b ob ws q=>by rw [jt (neT b _ q)]; exact q) (fun b ps q=>⟨#[],by rw [jt (neT b _ q),q]; simp⟩) (fun m hm=>?_) hok2 I.bare
   ·obtain ⟨f0,f1,f2,f3,f4,f5⟩:=hf b hb
    exact ⟨f3,f1,f4,f5⟩
   ·rw [jt (Nat.ne_of_lt (Heap.lt_size q))]; exact n
   ·obtain ⟨o,es,ep,ho',r⟩:=hm
    refine ⟨o,es,ep,B2 _ o (fun hb=>?_) ho',r⟩
    exact (hf _ hb).2.1 rfl
  refine ⟨.ref s.heap.objs.size,_,I2,rfl,⟨_,x,rfl,nT,rfl,fun as g1=>?_⟩,⟨⟨_,by simpa using he2⟩,hit2⟩,fun b hb=>?_⟩
  ·rw [I.list_inj g1 q1]; exact ex
  ·have hlt:b<s.heap.objs.size:=by
    simp only [List.mem_cons,List.not_mem_nil,or_false] at hb
    rcases hb with rfl | rfl
    ·exact elt
    ·obtain ⟨o,ho',_⟩:=hit; exact Heap.lt_size ho'
   rw [jt (Nat.ne_of_lt hlt)]
   exact (hf b hb).1
 done:=by
  intro X hP hw hK hc i Kp s σ H E I hf st hg
  subst hP hw hK
  obtain ⟨xs,q1,hl⟩:=hg
  obtain ⟨us1,r1,p1,_⟩:=I.list q1
  have p1:=p1.isList
  have hlen:=r1.length
  obtain ⟨⟨old,he⟩,hit⟩:=st
  refine wpAny_pyNext_enum_end (I.ok.hd hc) he hit p1 (by simp; omega) fun h1 hx=>⟨rfl,?_⟩
  have ntr:∀ b u,H b=some u->b ≠ it:=fun b u q hb=>by
   have:=(hf it (by simp)).1
   rw [hb] at q
   rw [q] at this; cases this
  refine I.step (t':=s.toks) (g':=s.gens) (d':=s.drawn) (ch:=[it]) (fun b hb=>?_) (fun b o _ _ hb q _=>hx b o (by simpa using hb) q) (fun b o _ _ hb q _=>⟨o.slots,hx b o (by simpa using hb) q⟩) (fun b o hb q n=>n) (fun b o hb q=>⟨o,hx b o (by simpa using hb) q⟩)
   (fun b ws q=>q) (fun b ob ws q=>q) (fun b ps q=>⟨#[],by rw [q]; simp⟩) (fun m hm=>?_) (fun b u q=>?_) I.bare
  ·obtain ⟨f0,f1,f2,f3,f4,f5⟩:=hf b (by simp only [List.mem_cons,List.not_mem_nil,or_false] at hb ⊢; exact .inr hb)
   exact ⟨f3,f1,f4,f5⟩
  ·obtain ⟨o,es,ep,ho,r⟩:=hm
   refine ⟨o,es,ep,hx _ o (fun hb=>?_) ho,r⟩
   exact (hf it (by simp)).2.1 hb.symm
  ·refine (I.hok b u q).stay (fun c o hc' z=>hx c o ?_ z) (fun c z=>z) fun c ws z=>z
   rcases hc' with q' | q'
   ·rw [q']; exact ntr b u q
   ·exact ntr c _ q'
 self:=fun _ _ _ _ _ st h=>by
  obtain ⟨⟨old,he⟩,_⟩:=st
  exact wpAny_pyIter_enum he h
section
variable {X:Cx}
noncomputable def ara (K:Fg) (ta:TA):TI:=fun σ H R=>ta σ H fun vs H1=>∃ a xs,vs=[.ref a]/\SqL K H1 a xs/\R (Ite K a) H1
theorem anx {ea:Expr}{elts:List Expr}{x1:Nat}{tp:Pos}{ta:TA}{p pos:Pos} (hg:Gl X "enumerate") (hm:X.mg "enumerate"=none) (ha:PA X [ea] ta)
  (hs:starEach [ea] X.env=[(false,eval ea X.env)]:=by rfl):
  PI X (.Tuple elts x1 tp) (.Call (.Name "enumerate" p) [ea] [] pos) (ara X.K ta):=by
 intro Kp s σ H R I h
 refine Call_ (Q8 I hg hm boot_enumerate (PyProof.Rows.callWith_type1 (thn (ha pos Kp s σ H _ I h) fun us s1 ⟨vs,H1,I1,r1,q1⟩=>?_) (by rw [hs]; rfl) (by rfl)))
 obtain ⟨a,xs,e,q1,q⟩:=q1
 subst e
 cases r1 with
 | cons r1 rr=>
  cases rr
  cases r1
  obtain ⟨us1,v1,p1,_⟩:=I1.list q1
  refine call_enumerate_list p1.isList fun h' he hit hz kp=>?_
  refine wpAny_pyIter_enum he ?_
  have I2:Inv X Kp σ H1 { s1 with heap:=h' }:=I1.kept (t':=s1.toks) kp
  refine ⟨_,[s1.heap.objs.size+1,s1.heap.objs.size],_,_,H1,rfl,I2,ajC (e:=s1.heap.objs.size+1) (it:=s1.heap.objs.size) (l:=a) (Nat.succ_ne_self _),⟨⟨_,he⟩,hit⟩,fun x hx=>?_,q⟩
  have hle:s1.heap.objs.size<=x:=by
   simp only [List.mem_cons,List.not_mem_nil,or_false] at hx
   rcases hx with e | e <;> rw [e] <;> omega
  exact I1.fpOk hle (I1.hok.fresh hle)
noncomputable def JD:Nat->LP->LP
 | _,[]=>[]
 | i,d::ds=> .tuple [.int (i:Int),d]::JD (i+1) ds
noncomputable def aaJ (ds:LP):Option (LP):=match ds with
 | [.list xs]=>some (JD 0 xs)
 | _=>none
theorem adS:∀ (xs:LP) (k:Nat),(JD k xs).length=xs.length
 | [],_=>rfl
 | _::xs,k=>by simp [JD,adS xs]
theorem adT:∀ (xs:LP) (k i:Nat) (d:PyData),(JD k xs)[i]?=some d->∃ x,xs[i]?=some x/\d= .tuple [.int ((k+i:Nat):Int),x]
 | [],_,_,_,h=>by simp [JD] at h
 | x::xs,k,0,d,h=>by simp [JD] at h; exact ⟨x,rfl,h.symm⟩
 | x::xs,k,i+1,d,h=>by
  simp only [JD,zzB] at h
  obtain ⟨y,h1,h2⟩:=adT xs (k+1) i d h
  exact ⟨y,by simpa using h1,by rw [h2,show k+1+i=k+(i+1) by omega]⟩
theorem agc {ea:Expr}{elts:List Expr}{x1:Nat}{tp:Pos}{p pos:Pos}{fr:Rho->Option (LP)} (hm:X.mg "enumerate"=none) (ha:PAD X [ea] fr) (hg:Gl X "enumerate":=by rfl)
  (hs:starEach [ea] X.env=[(false,eval ea X.env)]:=by rfl):
  PID X (.Tuple elts x1 tp) (.Call (.Name "enumerate" p) [ea] [] pos) (fun ρ=>(fr ρ).bind aaJ):=by
 with_unfolding_all
  refine PI.imp (anx hg hm ha hs) fun σ H R ⟨ρ,ds,en,q,k⟩=>?_
  cases h1:fr ρ with
  | none=>simp [h1] at q
  | some as=>
   have q':aaJ as=some ds:=by simpa [h1] using q
   refine ⟨ρ,as,en,h1,fun vs H1 s1 r1=>?_⟩
   unfold aaJ at q'
   split at q'
   ·rename_i xs
    cases q'
    obtain ⟨v1,w1,e1,rp,e4⟩:=r1
    cases (show w1=[] from e4)
    obtain ⟨a,us,g1,g2,ra⟩:=rp
    subst g1
    have l1:=ra.length
    have lz:=adS xs 0
    have qa:SqL X.K H1 a us:=SqL.of g2
    refine ⟨a,us,e1,qa,k _ H1 s1 fun i H2 s2=>⟨fun hi=>?_,fun hi=>?_,fun u H3 y=>?_⟩⟩
    ·rw [lz] at hi
     exact ⟨us,us[i]'(by omega),jE.sql s2 qa,by simp <;> omega⟩
    ·rw [lz] at hi
     exact ⟨us,jE.sql s2 qa,by omega⟩
    ·obtain ⟨pp,x,e5,e6,e7,e8⟩:=y
     subst e5; subst e7
     refine ⟨jV e6,fun d hd=>?_⟩
     obtain ⟨dx,g3,g4⟩:=adT xs 0 i d hd
     subst g4
     have f1:=e8 us (jE.sql s2 qa)
     have m:=s2.trans (jn.a (jV (o:= .tup [.int (i:Int),x]) e6))
     obtain ⟨x',a1,a2⟩:=(Reps.monoA m _ _ ra).get g3
     rw [f1] at a1; cases a1
     exact ⟨pp,[.int (i:Int),x],rfl,SqT.of jp,_,_,rfl,by show V.int (i:Int)=V.int ((0+i:Nat):Int); rw [Nat.zero_add],x,_,rfl,a2,rfl⟩
   ·cases q'
end
section
variable {X:Cx}{e:Expr}{es:List Expr}{pos p:Pos}
theorem als {CX:CXT}{k i:Nat}{f:Addr}{fd:FuncData}{ps:List Str}{sp:Sp}{E:XK}{x y:Str}{t:TA} (F:FnOk X.prog X.w X.K X.mg X.base CX k f fd ps sp) (hr:Room k X.A) (hm:X.mg x=some (.ref f)) (hk:PySem.W.keepIn X.K (.ref f)=true) (hb:JA X.K fd ps []) (hx:aev CX X E)
  (hN:X.N[i]?=some y) (hv:Vis X.env.scope y) (ha:PA X (e::es) t) (hdb:(y == ("__debug__":Str))=false:=by decide) (hcd:(y == ("__classdict__":Str))=false:=by decide) (he:starEach (e::es) X.env=(false,eval e X.env)::starEach es X.env:=by rfl) (hpl:(backTo pos (starEach es X.env)).any (·.1)=false:=by rfl):
  PE X (.Call (.Name y p) (e::es) [] pos) (fun σ H Q=>aoU i σ H fun v H1=>(∃ a,v= .ref a/\PySem.W.nsIn X.K mainGlobals x=some (some (.ref a)))/\akM sp [] E t σ H1 Q):=by
 intro Kp s σ H Q I h
 refine wpAny_Call_Name_kw (thn (aac hN hv hdb hcd Kp s σ H _ I h) fun u s1 ⟨v,H1,I1,rv,⟨a,ev,ea⟩,q⟩=>?_)
 subst ev
 cases rv
 have hf:=(PySem.W.mg_of I1.mod.kin I1.mod.glob ea).symm.trans hm
 cases hf
 refine PySem.W.callWith_K (h₀:=X.base) I1.ok.mod.kin hk (thn (ha pos Kp s1 σ H1 _ I1 q) fun us s2 ⟨vs,H2,I2,r,q2⟩=>⟨I2.kIn,?_⟩) he hpl
 exact acG F hr hb .nil hx I2 r q2
noncomputable def Jf (x:Str):PyData->Bool
 | .dict [(.str y,.none)]=>decide (y=x)
 | _=>false
theorem aaK {x:Str}{d:PyData} (h:Jf x d=true):d=fnD x:=by
 unfold Jf at h
 split at h
 ·rw [of_decide_eq_true h]; rfl
 ·cases h
@[simp] theorem qR (x:Str):Jf x (fnD x)=true:=by simp [Jf,fnD]
noncomputable def ahC (i:Nat) (x:Str) (g:LP->OP) (fr:Rho->Option (LP)):RP:=fun ρ=>(lkp i ρ).bind fun d=>if Jf x d=true then (fr ρ).bind g else none
theorem acf {K:Fg}{H:Hp}{x:Str}{v:V} (h:Rep K H (fnD x) v):∃ a,v= .ref a/\PySem.W.nsIn K mainGlobals x=some (some (.ref a)):=by
 obtain ⟨a,h1,⟨ns,h2,h3⟩ | ⟨ks,ob,h2,h3⟩ | ⟨y,h2,h3⟩ | ⟨y,_,_,h2,_⟩ | h2⟩:=h
 ·cases ns with
  | nil=>cases h3
  | cons n ns=>cases h3
 ·exact h3.elim
 ·cases h2
  exact ⟨a,h1,h3⟩
 ·cases h2
 ·cases h2
theorem agd {k j n:Nat} (i:Nat) {ps:List Str}{g:LP->OP}{x y:Str}{fr:Rho->Option (LP)} (c:jl X.prog X.w X.K X.mg X.base x ps k n g) (hr:Room j X.A) (hkj:k<=j) (ha:PAD X (e::es) fr)
  (hl:∀ (ρ:Rho) (ds:LP),fr ρ=some ds->ds.length=n) (hn:(e::es).length=n:=by rfl) (hN:X.N[i]?=some y:=by rfl) (hv:Vis X.env.scope y:=by first | exact Or.inl rfl | exact Or.inr (Or.inl rfl) | exact Or.inr (Or.inr rfl))
  (hdb:(y == ("__debug__":Str))=false:=by decide) (hcd:(y == ("__classdict__":Str))=false:=by decide) (he:starEach (e::es) X.env=(false,eval e X.env)::starEach es X.env:=by rfl)
  (hpl:(backTo pos (starEach es X.env)).any (·.1)=false:=by rfl):PD X (.Call (.Name y p) (e::es) [] pos) (ahC i x g fr):=by
 with_unfolding_all
  obtain ⟨f,fd,c1,c2,c3,c4⟩:=c
  refine PE.imp (als c1 (hr.mono hkj) c2 c3 c4 abR hN hv ha hdb hcd he hpl) fun σ H Q ⟨ρ,d,en,q,k⟩=>?_
  cases h0:lkp i ρ with
  | none=>simp [ahC,h0] at q
  | some d0=>
   cases hF:Jf x d0 with
   | false=>simp [ahC,h0,hF] at q
   | true=>
    have:=aaK hF
    subst this
    cases h1:fr ρ with
    | none=>simp [ahC,h0,hF,h1] at q
    | some ds=>
     have q':g ds=some d:=by simpa [ahC,h0,hF,h1] using q
     obtain ⟨v,e1,e2⟩:=en.at' i _ (qT h0)
     refine ⟨v,e1,acf e2,ρ,ds,en,h1,fun vs H1 s1 r1=>?_⟩
     exact ⟨ds,d,hl ρ ds h1,by rw [List.append_nil]; exact r1,q',fun v H' s r=>k v H' (s1.trans s) r⟩
end
@[irreducible] noncomputable def PAX (X:Cx) (es:List Expr) (fx:Rho->Option Str):Prop:=∀ (pos:Pos) (s:Shared) (σ:St) (H:Hp) (ρ:Rho) (c:Str),Inv X [] σ H s->EnvR X.K H ρ σ->fx ρ=some c->(∀ ev s',Thr X H c ev s'->X.xe ev s')->wpAny (model X.prog X.w) X.A (spliced (backTo pos (starEach es X.env))) (fun _ _=>False) X.xe s
section
variable {X:Cx}{e a b c:Expr}{es:List Expr}{fa:RP}{fx gx:Rho->Option Str}{pos:Pos}
theorem alu (h:PDX X e fx) (hs:starEach (e::es) X.env=(false,eval e X.env)::starEach es X.env:=by rfl):PAX X (e::es) fx:=by
 with_unfolding_all
  intro pos s σ H ρ c I en q k
  rw [hs]
  show wpAny _ _ (spliced ((false,eval e X.env)::backTo pos (starEach es X.env))) _ _ s
  exact Calls.spliced_cons (wpAny_mono (h s σ H ρ c I en q k) (fun _ _ z=>z.elim) fun _ _ z=>z)
noncomputable def anz (fa:RP) (gx:Rho->Option Str):Rho->Option Str:=fun ρ=>(fa ρ).bind fun _=>gx ρ
theorem alv (ha:PD X e fa) (h:PAX X es gx) (hs:starEach (e::es) X.env=(false,eval e X.env)::starEach es X.env:=by rfl):PAX X (e::es) (anz fa gx):=by
 with_unfolding_all
  intro pos s σ H ρ c I en q k
  cases h1:fa ρ with
  | none=>simp [anz,h1] at q
  | some d=>
   have q':gx ρ=some c:=by simpa [anz,h1] using q
   rw [hs]
   show wpAny _ _ (spliced ((false,eval e X.env)::backTo pos (starEach es X.env))) _ _ s
   refine Calls.spliced_cons (wpAny_mono (ha [] s σ H (fun v H'=>jn H H'/\Rep X.K H' d v) I ⟨ρ,d,en,h1,fun v H' s1 r=>⟨s1,r⟩⟩) (fun u s1 z=>?_) fun _ _ z=>z)
   obtain ⟨v,H1,I1,_,sm,_⟩:=z
   exact wpAny_mono (h pos s1 σ H1 ρ c I1 (en.mono sm) q' fun ev s' t=>k ev s' (t.mono sm)) (fun _ _ z=>z.elim) fun _ _ z=>z
theorem alw {k n:Nat}{ps:List Str}{g:LP->OP}{x:Str}{p:Pos} (C:jl X.prog X.w X.K X.mg X.base x ps k n g) (ha:PAX X (e::es) fx)
  (hg:Gl X x:=by rfl) (hdb:(x == ("__debug__":Str))=false:=by decide) (he:starEach (e::es) X.env=(false,eval e X.env)::starEach es X.env:=by rfl)
  (hpl:(backTo pos (starEach es X.env)).any (·.1)=false:=by rfl):PDX X (.Call (.Name x p) (e::es) [] pos) fx:=by
 with_unfolding_all
  intro s σ H ρ c I en q k'
  obtain ⟨f,fd,_,hm,hk,_⟩:=C
  refine wpAny_Call_Name_kw (JF I hg hm ?_ hdb)
  exact PySem.W.callWith_K (h₀:=X.base) I.ok.mod.kin hk (wpAny_mono (ha pos s σ H ρ c I en q k') (fun _ _ z=>z.elim) fun _ _ z=>z) he hpl
end
@[irreducible] noncomputable def apA (X:Cx) (own:Option Nat) (st:Stmt) (fx:Rho->Option Str):Prop:=∀ (s:Shared) (σ:St) (H Hs:Hp) (ρ:Rho) (c:Str),Inv X [] σ H s->EnvO X.prog X.w X.K Hs H own ρ σ->fx ρ=some c->(∀ ev s',Thr X Hs c ev s'->X.xe ev s')->wpAny (model X.prog X.w) X.A (exec st X.env) (fun _ _=>False) X.xe s
@[irreducible] noncomputable def acW (X:Cx) (own:Option Nat) (sts:List Stmt) (fx:Rho->Option Str):Prop:=∀ (s:Shared) (σ:St) (H Hs:Hp) (ρ:Rho) (c:Str),Inv X [] σ H s->EnvO X.prog X.w X.K Hs H own ρ σ->fx ρ=some c->(∀ ev s',Thr X Hs c ev s'->X.xe ev s')->wpAny (model X.prog X.w) X.A (execs sts X.env) (fun _ _=>False) X.xe s
section
variable {X:Cx}{own:Option Nat}{e a b c tg src:Expr}{es:List Expr}{st:Stmt}{sts qp body:List Stmt}{fx gx:Rho->Option Str}{F:RO}{fa:RP}{pos:Pos}
theorem acX (h:apA X own st fx):acW X own (st::qp) fx:=by
 with_unfolding_all
  intro s σ H Hs ρ c I E q k
  exact wpAny_execs_cons (wpAny_mono (h s σ H Hs ρ c I E q k) (fun _ _ z=>z.elim) fun _ _ z=>z)
theorem ahD (h1:PSO X own st F) (h2:acW X own qp gx):acW X own (st::qp) (nxX F gx):=by
 with_unfolding_all
  intro s σ H Hs ρ c I E q k
  cases hF:F ρ with
  | none=>simp [nxX,hF] at q
  | some o=>
   cases o with
   | nx ρ'=>
    have q':gx ρ'=some c:=by simpa [nxX,hF] using q
    refine wpAny_execs_cons (wpAny_mono (h1 [] s σ H { nx:=fun σ' H'=>EnvO X.prog X.w X.K Hs H' own ρ' σ',rt:=fun _ _=>False,bk:=fun _ _=>False,ct:=fun _ _=>False } I ⟨Hs,ρ,.nx ρ',E,hF,fun σ' H' e1=>e1⟩) (fun f s1 z=>?_) fun _ _ z=>z)
    cases f with
    | next=>
     obtain ⟨σ',H',I',e1⟩:=z
     exact wpAny_mono (h2 s1 σ' H' Hs ρ' c I' e1 q' k) (fun _ _ z=>z.elim) fun _ _ z=>z
    | brk=>obtain ⟨_,_,_,z⟩:=z; exact z.elim
    | cont=>obtain ⟨_,_,_,z⟩:=z; exact z.elim
    | ret u=>obtain ⟨_,_,_,_,_,z⟩:=z; exact z.elim
   | _=>simp [nxX,hF] at q
noncomputable def apB (own:Option Nat) (fx:Rho->Option Str):Rho->Option Str:=fun ρ=>fx (hid own ρ)
theorem alx {x:Str}{pos':Pos} (h:PDX X e fx) (hs:swapsWith e (some (.Name x pos')) pos.line X.env=pure false:=by rfl):apA X own (.Assign [.Name x pos'] e pos) (apB own fx):=by
 with_unfolding_all
  intro s σ H Hs ρ c I E q k
  exact wpAny_Assign_Name (wpAny_mono (h s σ H (hid own ρ) c I E.hid q fun ev s' t=>k ev s' (t.mono E.sm)) (fun _ _ z=>z.elim) fun _ _ z=>z) hs
theorem aly (h:acW X none sts fx):abr X sts fx:=by
 with_unfolding_all
  intro s σ H ρ c I en q k
  exact h s σ H H ρ c I (EnvO.of en (jn.refl H)) q k
noncomputable def ahE (i:Nat) (f:RP) (gx:Rho->Option Str):Rho->Option Str:=fun ρ=>(f ρ).bind fun d=>if i < ρ.length then gx (ρ.set i (some d)) else none
theorem ajD (i:Nat) {x:Str}{pos':Pos} (hN:X.N.Nodup) (he:PN X e fa) (h:acW X (some i) qp gx) (hi:X.N[i]?=some x:=by rfl) (hx:Loc X.env.scope x:=by first | exact Or.inl rfl | exact Or.inr rfl) (hs:swapsWith e (some (.Name x pos')) pos.line X.env=pure false:=by rfl)
  (hf:X.fn x=true ∨ X.env.scope.names.lookup x=some .local:=by first | exact .inl rfl | exact .inr rfl | assumption):acW X none (.Assign [.Name x pos'] e pos::qp) (ahE i fa gx):=by
 with_unfolding_all
  intro s σ H Hs ρ c I E q k
  cases h1:fa ρ with
  | none=>simp [ahE,h1] at q
  | some d=>
   by_cases hl:i < ρ.length
   ·have q':gx (ρ.set i (some d))=some c:=by simpa [ahE,h1,hl] using q
    refine wpAny_execs_cons (wpAny_mono (abb hN hi hx he hs hf [] s σ H { nx:=fun σ' H'=>EnvO X.prog X.w X.K Hs H' (some i) (ρ.set i (some d)) σ',rt:=fun _ _=>False,bk:=fun _ _=>False,ct:=fun _ _=>False } I
     ⟨ρ,d,E.to,h1,fun a H' s hn ow=>⟨by simp [E.len],E.sm.trans s,fun j y q n=>?_,fun j n=>?_⟩⟩) (fun f s1 z=>?_) fun _ _ z=>z)
    ·have hj:i ≠ j:=fun z=>n (by rw [z])
     rw [List.getElem?_set_ne hj] at q ⊢
     obtain ⟨v,g1,g2⟩:=E.pl j y q (fun z=>nomatch z)
     exact ⟨v,g1,Rep.mono s _ _ g2⟩
    ·cases n
     refine ⟨d,a,by rw [List.getElem?_set_self hl],by rw [List.getElem?_set_self (by rw [←E.len]; exact hl)],E.sm.free hn,ow⟩
    ·cases f with
     | next=>
      obtain ⟨σ',H',I',e1⟩:=z
      exact wpAny_mono (h s1 σ' H' Hs _ c I' e1 q' k) (fun _ _ z=>z.elim) fun _ _ z=>z
     | brk=>obtain ⟨_,_,_,z⟩:=z; exact z.elim
     | cont=>obtain ⟨_,_,_,z⟩:=z; exact z.elim
     | ret u=>obtain ⟨_,_,_,_,_,z⟩:=z; exact z.elim
   ·simp [ahE,h1,hl] at q
theorem Thr.unwish {W:Value->SP0}{Hb Hs:Hp}{c:Str}{ev:Value}{s':Shared} (sb:∀ H3,jn Hb H3->jn Hs H3) (h:Thr (X.wish W) Hb c ev s'):Thr X Hs c ev s':=by
 obtain ⟨e,C,σ',H',h1,h2,h3,h4,h5⟩:=h
 exact ⟨e,C,σ',H',h1,h2,h3.unwish,sb _ h4,h5.unwish⟩
noncomputable def QC (ga:PyData->Rho->Option Rho) (F:RO) (fx:Rho->Option Str):LP->Rho->Option Str
 | [],_=>none
 | d::r,ρ=>(ga d ρ).bind fun ρ1=>match F ρ1 with
  | some (.nx ρ2)=>QC ga F fx r ρ2
  | some _=>none
  | none=>fx ρ1
noncomputable def age (fi:Rho->Option (LP)) (ga:PyData->Rho->Option Rho) (F:RO) (fx:Rho->Option Str):Rho->Option Str:=fun ρ=>(fi ρ).bind fun ds=>QC ga F fx ds ρ
theorem alz {fi:Rho->Option (LP)}{ga:PyData->Rho->Option Rho} (T0:Top0 X) (hc:X.calm=true) (hi:∀ W,PID (X.wish W) tg src fi) (hg:∀ W,PGO (X.wish W) own tg ga) (hb:∀ W,adx (X.wish W) own body F) (hx:∀ W,acW (X.wish W) own body fx)
  (hs:∀ x,foldedSetIterable src X.env x=pure x:=by intro _; rfl):apA X own (.For tg src body [] pos) (age (fun ρ=>fi (hid own ρ)) ga F fx):=by
 with_unfolding_all
  intro s σ H Hs ρ c I E q k
  cases h1:fi (hid own ρ) with
  | none=>simp [age,h1] at q
  | some ds=>
   have q':QC ga F fx ds ρ=some c:=by simpa [age,h1] using q
   let W:Value->SP0:=fun ev s'=>Thr X Hs c ev s'
   have hp:PassesOwn (model X.prog X.w) X.A X.env W:=apz (X:=X) T0 I.ok.frames fun ev s' t=>by
    obtain ⟨e,C,σ',H',h1,h2,h3,h4,h5⟩:=t
    exact ⟨e,C,σ',H',h1,h3,h5,fun s'' J xt=>⟨e,C,σ',H',h1,h2,J,h4,xt.c⟩⟩
   have hb':PSs (X.wish W) body (fun D σ H=>(∃ Hs ρ o,EnvO X.prog X.w X.K Hs H own ρ σ/\F ρ=some o/\(match o with
     | .nx ρ'=>∀ σ' H',EnvO X.prog X.w X.K Hs H' own ρ' σ'->D.nx σ' H'
     | _=>False)) ∨ ∃ Hs ρ c,EnvO X.prog X.w X.K Hs H own ρ σ/\fx ρ=some c/\∀ ev s',Thr (X.wish W) Hs c ev s'->W ev s'):=by
    intro Kp s σ H D I h
    rcases h with ⟨Hs,ρ,o,E,q,k⟩ | ⟨Hs,ρ,c,E,q,k⟩
    ·cases o with
     | nx ρ'=>exact hb W Kp s σ H D I ⟨Hs,ρ,.nx ρ',E,q,k⟩
     | _=>exact k.elim
    ·exact wpAny_mono (hx W s σ H Hs ρ c (I.pins_of fun p hp=>nomatch hp) E q k) (fun _ _ z=>z.elim) fun _ _ z=>z
   refine wpAny_mono (abd (X:=X.wish W) hp hc (hi W) (hg W) hb' hs [] s σ H { nx:=fun _ _=>False,rt:=fun _ _=>False,bk:=fun _ _=>False,ct:=fun _ _=>False } (I.wish W)
    ⟨hid own ρ,ds,E.hid,h1,fun J H1 s1 Y=>?_⟩) (fun f s1 z=>?_) fun ev s' z=>k ev s' z
   ·obtain ⟨Hb,Eb,sE,back,sb⟩:=(E.mono s1).rebase
    refine ⟨fun i m σ H2=>m=ds.length - i/\i<=ds.length/\∃ ρ2,EnvO X.prog X.w X.K Hb H2 own ρ2 σ/\QC ga F fx (ds.drop i) ρ2=some c,⟨ds.length,by simp,Nat.zero_le _,ρ,Eb,by simpa using q'⟩,?_⟩
    rintro i m σ2 H2 ⟨rfl,hi,ρ2,en2,q2⟩
    obtain ⟨g1,g2,g3⟩:=Y i H2 (qf.a (sE H2 en2.sm))
    by_cases hlt:i<ds.length
    ·right
     have hd:ds.drop i=ds[i]::ds.drop (i+1):=List.drop_eq_getElem_cons hlt
     rw [hd] at q2
     refine ⟨g1 hlt,fun σ3 H3=>∃ ρ3,EnvO X.prog X.w X.K Hb H3 own ρ3 σ3/\QC ga F fx (ds.drop (i+1)) ρ3=some c,fun σ3 H3 ⟨ρ3,a2,a3⟩=>⟨ds.length - (i+1),by omega,rfl,hlt,ρ3,a2,a3⟩,fun x H3 y=>?_⟩
     obtain ⟨s3,r3⟩:=g3 x H3 y
     have r3':=r3 ds[i] (by simp [hlt])
     cases h4:ga ds[i] ρ2 with
     | none=>simp [QC,h4] at q2
     | some ρ4=>
      refine ⟨Hb,ρ2,ds[i],ρ4,en2.mono s3,r3',h4,fun σ5 H5 en5=>?_⟩
      cases h5:F ρ4 with
      | none=>
       have q3:fx ρ4=some c:=by simpa [QC,h4,h5] using q2
       exact .inr ⟨Hb,ρ4,c,en5,q3,fun ev s' t=>Thr.unwish sb t⟩
      | some p=>
       cases p with
       | nx ρ6=>exact .inl ⟨Hb,ρ4,.nx ρ6,en5,h5,fun σ6 H6 en6=>⟨ρ6,en6,by simpa [QC,h4,h5] using q2⟩⟩
       | _=>simp [QC,h4,h5] at q2
    ·exfalso
     have he:i=ds.length:=by omega
     have hn:ds.drop i=[]:=by rw [he]; simp
     rw [hn] at q2
     cases q2
   ·cases f with
    | next=>obtain ⟨_,_,_,z⟩:=z; exact z.elim
    | brk=>obtain ⟨_,_,_,z⟩:=z; exact z.elim
    | cont=>obtain ⟨_,_,_,z⟩:=z; exact z.elim
    | ret u=>obtain ⟨_,_,_,_,_,z⟩:=z; exact z.elim
end
section
variable {X:Cx}{e a b c:Expr}{es:List Expr}{st:Stmt}{sts qp:List Stmt}{fx gx:Rho->Option Str}{F:RO}{pos p:Pos}
noncomputable def orX (fx gx:Rho->Option Str):Rho->Option Str:=fun ρ=>match fx ρ with
 | some c=>some c
 | none=>gx ρ
theorem zY (h1:abr X sts fx) (h2:abr X sts gx):abr X sts (orX fx gx):=by
 with_unfolding_all
  intro s σ H ρ c I en q k
  cases hf:fx ρ with
  | some c'=>
   have:c'=c:=by simpa [orX,hf] using q
   subst this
   exact h1 s σ H ρ c' I en hf k
  | none=>exact h2 s σ H ρ c I en (by simpa [orX,hf] using q) k
noncomputable def acY (i:Nat) (x:Str) (g:LP->Option Str) (fr:Rho->Option (LP)):Rho->Option Str:=fun ρ=>(lkp i ρ).bind fun d=>if Jf x d=true then (fr ρ).bind g else none
theorem ajE {k j n:Nat} (i:Nat) {ps:List Str}{g:LP->Option Str}{x y:Str}{fr:Rho->Option (LP)} (hxe:X.ex=[]) (C:qC X.prog X.w X.K X.mg X.base x ps k n g) (hr:Room j X.A) (hkj:k<=j) (ha:PAD X (e::es) fr) (hl:∀ ρ ds,fr ρ=some ds->ds.length=n)
  (hN:X.N[i]?=some y:=by rfl) (hv:Vis X.env.scope y:=by first | exact Or.inl rfl | exact Or.inr (Or.inl rfl) | exact Or.inr (Or.inr rfl))
  (hdb:(y == ("__debug__":Str))=false:=by decide) (hcd:(y == ("__classdict__":Str))=false:=by decide) (he:starEach (e::es) X.env=(false,eval e X.env)::starEach es X.env:=by rfl)
  (hpl:(backTo pos (starEach es X.env)).any (·.1)=false:=by rfl):PDX X (.Call (.Name y p) (e::es) [] pos) (acY i x g fr):=by
 with_unfolding_all
  intro s σ H ρ c I en q k'
  obtain ⟨f,fd,F,hm,hk,hb⟩:=C
  cases h0:lkp i ρ with
  | none=>simp [acY,h0] at q
  | some d0=>
   cases hF:Jf x d0 with
   | false=>simp [acY,h0,hF] at q
   | true=>
    have:=aaK hF
    subst this
    cases hd:fr ρ with
    | none=>simp [acY,h0,hF,hd] at q
    | some ds=>
     have q':g ds=some c:=by simpa [acY,h0,hF,hd] using q
     obtain ⟨v0,e1,e2⟩:=en.at' i _ (qT h0)
     refine wpAny_Call_Name_kw (thn (aac hN hv hdb hcd [] s σ H (fun v H1=>v=v0/\H1=H) I ⟨v0,e1,rfl,rfl⟩) fun u s1 ⟨v,H1,I1,rv,ev,eH⟩=>?_)
     subst ev; subst eH
     obtain ⟨a,ea,na⟩:=acf e2
     subst ea
     cases rv
     have hf:=(PySem.W.mg_of I1.mod.kin I1.mod.glob na).symm.trans hm
     cases hf
     refine PySem.W.callWith_K (h₀:=X.base) I1.ok.mod.kin hk (thn (ha pos [] s1 σ H1 (fun vs H2=>jn H1 H2/\Reps X.K H2 ds vs) I1 ⟨ρ,ds,en,hd,fun vs H2 s1 r1=>⟨s1,r1⟩⟩) fun us s2 ⟨vs,H2,I2,r,sm,rd⟩=>⟨I2.kIn,?_⟩) he hpl
     have hn:ds.length=n:=hl ρ ds hd
     have sp:af8 X.K X.mg n g vs H2 (fun _ _=>False) (fun cls _ H'=>X.mg c=some cls/\jn H2 H'):=⟨ds,c,hn,rd,q',fun C H' hC s2=>⟨hC,s2⟩⟩
     have hlu:(us++[]).length=ps.length:=by rw [List.append_nil,←r.length]; exact F.len _ _ _ _ sp
     have hbd:=hb s2 us I2.kIn hlu
     rw [List.append_nil] at hbd
     refine wpAny_call (codeAny_mono (F.run X.A X.stack s2 H2 ⟨us,[]⟩ us vs _ _ (hr.mono hkj) I2.env0 hbd r sp) fun rs s' hq=>?_)
     cases rs with
     | error ev=>
      obtain ⟨e0,C,H',rfl,os,bare,un,hok,xc,hC,sm2⟩:=hq
      have J':Inv X [] σ H' s':=I2.call' (ch:=[]) os un hok bare fun b z=>nomatch z
      exact k' _ _ ⟨e0,C,σ,H',rfl,hC,J',sm.trans sm2,Xc.of hxe I2 xc⟩
     | ok fl=>
      cases fl with
      | ret u=>obtain ⟨v,H',_,_,_,_,_,z⟩:=hq; exact z.elim
      | next=>exact False.elim hq
      | brk=>exact False.elim hq
      | cont=>exact False.elim hq
end
section
variable {X:Cx}{a b c:Expr}{tc ta tb:Rho->Option Bool}{pos:Pos}
end
section
variable {X:Cx}{a b:Expr}{fa fb:RP}
theorem acZ:∀ {is:List Bool}{us:List Value},jP (is.map V.bl) us->us=is.map Value.bool
 | [],us,r=>by cases r; rfl
 | i0::is,u::us,.cons r rr=>by
  rw [List.map_cons,←acZ rr,show u=Value.bool i0 from r]
noncomputable def ajF (k:Bool):Value->Bool
 | .bool i=>i == k
 | _=>false
noncomputable def anA:V->List V->Hp->VK->Prop:=fun x vs H Q=>∃ (l:Addr) (is:List Bool) (k:Bool) (j:Nat),x= .ref l/\vs=[.bl k]/\H l=some (.lst (is.map V.bl))/\is.findIdx? (· == k)=some j/\Q (.int j) H
noncomputable def anB:V->List V->Hp->VK->Prop:=fun x vs H Q=>∃ (l:Addr) (is:List Bool) (k:Bool),x= .ref l/\vs=[.bl k]/\H l=some (.lst (is.map V.bl))/\Q (.int (is.countP (· == k))) H
theorem ajG:MtR X "list.index" anA:=by
 intro Kp s σ H x vs v us Q I rx rv h
 obtain ⟨l,is,k,j,rfl,rfl,hH,hj,q⟩:=h
 cases rx
 obtain ⟨u,rfl,ru⟩:=jP.one rv
 cases (show u=Value.bool k from ru)
 obtain ⟨z,its,n,r,hl,e⟩:=I.lstM hH
 have hlen:=r.length
 simp only [List.length_map] at hlen
 have hits:=acZ r
 subst hits
 obtain ⟨hj1,hj2,hj3⟩:=List.findIdx?_eq_some_iff_getElem.mp hj
 have hln:=abe
 have z':=z
 rw [List.length_map] at z'
 refine call_meets F.slot_list_index ⟨_,e,rfl⟩ F.entry_list_index (F.args_list_index_2 _ _) (SeqAt.list_indexAt l (is.map Value.bool).toArray n none #[] (.bool k) (ajF k) j (by simp; omega) ?_ ?_ ?_) ⟨e,?_,?_⟩
 ·omega
 ·simp [ajF]; exact beq_iff_eq.mp hj2
 ·intro m hm hmj
  simp [ajF]
  have:=hj3 m hmj
  exact fun z=>this (by rw [z]; exact beq_self_eq_true k)
 ·intro y hy
  have hy':y ∈ is.map Value.bool:=by simpa using hy
  obtain ⟨i,_,rfl⟩:=List.mem_map.mp hy'
  exact SeqAt.EqAt.bool_bool _ _
 ·exact ⟨.int j,H,I.tok _,⟨_,rfl⟩,q⟩
theorem ajH:MtR X "list.count" anB:=by
 intro Kp s σ H x vs v us Q I rx rv h
 obtain ⟨l,is,k,rfl,rfl,hH,q⟩:=h
 cases rx
 obtain ⟨u,rfl,ru⟩:=jP.one rv
 cases (show u=Value.bool k from ru)
 obtain ⟨z,its,n,r,hl,e⟩:=I.lstM hH
 have hits:=acZ r
 subst hits
 have hc:((is.map Value.bool).toArray.toList.countP (ajF k))=is.countP (· == k):=by
  show (is.map Value.bool).countP (ajF k)=_
  rw [List.countP_map]; rfl
 refine call_meets F.slot_list_count ⟨_,e,rfl⟩ F.entry_list_count (F.args_list_count_2 _ _) (SeqAt.list_countAt l (is.map Value.bool).toArray n none #[] (.bool k) (ajF k)) ⟨e,?_,?_⟩
 ·intro y hy
  have hy':y ∈ is.map Value.bool:=by simpa using hy
  obtain ⟨i,_,rfl⟩:=List.mem_map.mp hy'
  exact SeqAt.EqAt.bool_bool _ _
 ·exact ⟨.int (is.countP (· == k)),H,I.tok _,⟨_,by rw [←hc]⟩,q⟩
noncomputable def agf:LP->Option (List Bool)
 | []=>some []
 | .bool i::r=>(agf r).map (i::·)
 | _=>none
theorem ahF {K:Fg}{H:Hp}:∀ {ds:LP}{is:List Bool}{xs:List V},agf ds=some is->Reps K H ds xs->xs=is.map V.bl
 | [],is,xs,h,r=>by cases h; exact r
 | d::ds,is,xs,h,r=>by
  obtain ⟨x,ys,e1,e2,e3⟩:=r
  cases d with
  | bool i=>
   simp only [agf,Option.map_eq_some_iff] at h
   obtain ⟨js,h1,h2⟩:=h
   subst h2
   cases (show x=_ from e2)
   rw [e1,ahF h1 e3]; rfl
  | _=>simp [agf] at h
noncomputable def aeP (p q:PyData):OP:=match p,q with
 | .list ds,.bool k=>(agf ds).bind fun is=>(is.findIdx? (· == k)).map fun (j:Nat)=>PyData.int j
 | _,_=>none
noncomputable def aeQ (p q:PyData):OP:=match p,q with
 | .list ds,.bool k=>(agf ds).map fun is=>PyData.int (is.countP (· == k))
 | _,_=>none
theorem ajI {apos cpos:Pos} (ha:PD X a fa) (hb:PD X b fb) (hbase:attributeBase a "index" X.env (eval a X.env)=eval a X.env:=by rfl)
  (hfew:((backTo cpos (starEach [b] X.env)).all (fun x=>!x.1) && (backToKw cpos (keywordEach [] X.env)).all (fun x=>x.1.isSome) && decide ([b].length+([]:List Keyword).length+(if ([]:List Keyword).isEmpty then 0 else 1)<30))=true:=by rfl)
  (hline:(apos.endLine == cpos.line)=true:=by rfl) (hs:starEach [b] X.env=(false,eval b X.env)::starEach [] X.env:=by rfl) (hplain:(backTo cpos (starEach [] X.env)).any (fun x=>x.1)=false:=by rfl):
  PD X (.Call (.Attribute a "index" apos) [b] [] cpos) (op2 aeP fa fb):=by
 with_unfolding_all
  refine PE.imp (afQ PySem.F.plainAttrs_list PySem.F.slot_list_index PySem.F.type_list_index ajG ha (qv hb zw hs) hbase hfew hline hs hplain) fun σ H Q ⟨ρ,d,en,h,k⟩=>?_
  cases h1:fa ρ with
  | none=>simp [op2,h1] at h
  | some p=>
   cases h2:fb ρ with
   | none=>simp [op2,h1,h2] at h
   | some q=>
    have h':aeP p q=some d:=by simpa [op2,h1,h2] using h
    unfold aeP at h'
    split at h'
    ·rename_i ds n
     cases h3:agf ds with
     | none=>simp [h3] at h'
     | some is=>
      cases h4:is.findIdx? (· == n) with
      | none=>simp [h3,h4] at h'
      | some j=>
       simp only [h3,h4,zzD,zzE,Option.some.injEq] at h'
       subst h'
       refine ⟨ρ,_,en,h1,fun v H1 s1 r1=>?_⟩
       obtain ⟨l,xs,e1,e2,e3⟩:=r1
       subst e1
       refine ⟨.inl ⟨rfl,xs,SqL.of e2⟩,ρ,_,en.mono s1,h2,fun y H2 s2 r2=>?_⟩
       cases (show y=V.bl n from r2)
       refine ⟨l,is,n,j,rfl,rfl,?_,h4,k _ H2 (s1.trans s2) rfl⟩
       rw [←ahF h3 e3]
       exact s2 _ _ e2
    ·cases h'
theorem ajJ {apos cpos:Pos} (ha:PD X a fa) (hb:PD X b fb) (hbase:attributeBase a "count" X.env (eval a X.env)=eval a X.env:=by rfl)
  (hfew:((backTo cpos (starEach [b] X.env)).all (fun x=>!x.1) && (backToKw cpos (keywordEach [] X.env)).all (fun x=>x.1.isSome) && decide ([b].length+([]:List Keyword).length+(if ([]:List Keyword).isEmpty then 0 else 1)<30))=true:=by rfl)
  (hline:(apos.endLine == cpos.line)=true:=by rfl) (hs:starEach [b] X.env=(false,eval b X.env)::starEach [] X.env:=by rfl) (hplain:(backTo cpos (starEach [] X.env)).any (fun x=>x.1)=false:=by rfl):
  PD X (.Call (.Attribute a "count" apos) [b] [] cpos) (op2 aeQ fa fb):=by
 with_unfolding_all
  refine PE.imp (afQ PySem.F.plainAttrs_list PySem.F.slot_list_count PySem.F.type_list_count ajH ha (qv hb zw hs) hbase hfew hline hs hplain) fun σ H Q ⟨ρ,d,en,h,k⟩=>?_
  cases h1:fa ρ with
  | none=>simp [op2,h1] at h
  | some p=>
   cases h2:fb ρ with
   | none=>simp [op2,h1,h2] at h
   | some q=>
    have h':aeQ p q=some d:=by simpa [op2,h1,h2] using h
    unfold aeQ at h'
    split at h'
    ·rename_i ds n
     cases h3:agf ds with
     | none=>simp [h3] at h'
     | some is=>
      simp only [h3,zzE,Option.some.injEq] at h'
      subst h'
      refine ⟨ρ,_,en,h1,fun v H1 s1 r1=>?_⟩
      obtain ⟨l,xs,e1,e2,e3⟩:=r1
      subst e1
      refine ⟨.inl ⟨rfl,xs,SqL.of e2⟩,ρ,_,en.mono s1,h2,fun y H2 s2 r2=>?_⟩
      cases (show y=V.bl n from r2)
      refine ⟨l,is,n,rfl,rfl,?_,k _ H2 (s1.trans s2) rfl⟩
      rw [←ahF h3 e3]
      exact s2 _ _ e2
    ·cases h'
end
structure RoomH (k:Nat) (A:Around):Prop where
 dp:A.depth+3*k+5<recursionLimit
 un:A.units+16*k+200<cLine
theorem RoomH.deeper {k:Nat}{A:Around} (r:RoomH (k+1) A) (env:Env):RoomH k (A.deeper env):=
 ⟨by have:=r.dp; show A.depth+1+3*k+5<_; omega,by have:=r.un; show A.units+3+16*k+200<_; omega⟩
theorem Room.h {k:Nat}{A:Around} (r:Room k A):RoomH k A:=⟨r.dp,r.un⟩
theorem RoomH.mark {k:Nat}{A:Around}{v:Option Value} (r:RoomH k A):RoomH k (A.mark v):=⟨r.dp,r.un⟩
structure FnH (P:Program) (w:World) (K:Fg) (mg:SV) (base:Heap) (k:Nat) (f:Addr) (fd:FuncData) (ps:List Str) (sp:Sp):Prop where
 len:∀ vs H Q E,sp vs H Q E->vs.length=ps.length
 run:∀ (A:Around) (Ko:List Env) (s:Shared) (H:Hp) (args:Args) (us:List Value) (vs:List V) (Q:VK) (E:XK),RoomH k A->Env0 P w K mg base A Ko s H->BindsTo s fd args (ps.zip us)->jP vs us->sp vs H Q E->
  codeAny (model P w) A (.call (.ref f) args) (CR CX0 Ko P w H s Q E) s
noncomputable abbrev cxH (P:Program) (w:World) (K:Fg) (mg:SV) (base:Heap) (N:List Str) (qual:Str) (scope:Scope) (f:Addr) (cd:Value) (A:Around) (Ko:List Env) (s:Shared) (H:Hp) (E:XK):Cx:=
 { zU CX0 P w K mg base N qual scope f cd { A with handled:=none } Ko s H E with A:=A.deeper (envOfC qual scope s.heap.objs.size f cd),calm:=false,xe:=fun _ _=>False }
noncomputable def ZA (P:Program) (w:World) (K:Fg) (mg:SV) (base:Heap) (x:Str) (ps:List Str) (k n:Nat) (g:LP->OP):Prop:=
 ∃ (f:Addr) (fd:FuncData),FnH P w K mg base k f fd ps (Pur K n g)/\mg x=some (.ref f)/\PySem.W.keepIn K (.ref f)=true/\JA K fd ps []
section
variable {P:Program}{w:World}{K:Fg}{mg:SV}{base:Heap}
theorem ask {x qual:Str}{st:Stmt}{f:Addr}{fd:FuncData}{N ps:List Str}{k:Nat}{B:RO} (F:Fun K x qual st f fd) (S:FnScope N ps (jf st))
  (body:∀ (Kc:Value) (A:Around) (Ko:List Env) (s:Shared) (H:Hp) (E:XK),RoomH k (A.deeper (envOfC qual (jf st) s.heap.objs.size f Kc))->Zb (cxH P w K mg base N qual (jf st) f Kc A Ko s H E) (jR st) B):
  FnH P w K mg base (k+1) f fd ps (Pur K ps.length (jw N ps.length B)):=by
 with_unfolding_all
  obtain ⟨oc,od,kV,doc,pm,an,Kc,ct,osl,rfl,lk,hcd⟩:=F.ex
  have len:∀ vs H Q E,Pur K ps.length (jw N ps.length B) vs H Q E->vs.length=ps.length:=fun vs H Q E h=>by
   obtain ⟨ds,d,h1,h2,_⟩:=h
   rw [h2.length]; exact h1
  refine ⟨len,fun A Ko s H args us vs Q E hr e0 hb r hsp=>?_⟩
  have hl:=len _ _ _ _ hsp
  have KX:K.In s.heap:=e0.mod.kin.keeps fun b o e=>(e0.bs b o e).1
  have lim:s.heap.NoLimit:=e0.mod.nolimit.keeps fun b o e=>(e0.bs b o e).1
  have hkind:∀ y ∈ ps.zip us,(jf st).names.lookup y.1=some .local ∨ ((jf st).names.lookup y.1=some .cell/\((cellsFrom (s.heap.objs.size+1) (jf st).names []).lookup y.1).isSome=true):=fun ⟨n,v⟩ hy=>by
   rcases S.par n (List.of_mem_zip hy).1 with q | q
   ·exact .inl q
   ·exact .inr ⟨q,PySem.W.cellsFrom_some _ _ _ (.inl q)⟩
  have hdp:A.depth<recursionLimit:=by have:=hr.dp; omega
  refine codeAny_call_function hdp (KX _ _ lk) rfl S.co S.gen rfl (PySem.W.codeRec_of KX hcd) (hb _ _ _ _ ?_)
  refine wpAny_newFunctionEnv_cells S.kind hkind fun env he s1 x=>?_
  subst he
  refine ⟨lim.keeps x.toInCall.keep,codeAny_func ?_⟩
  have e1:Env0 P w K mg base { A with handled:=none } Ko s H:=⟨e0.frames,e0.mod,e0.bs,e0.bsz,e0.funs,e0.frf,e0.hok,e0.bare⟩
  have I0:Inv (zU CX0 P w K mg base N qual (jf st) f Kc { A with handled:=none } Ko s H E) [] (L2.zO N vs) H s1:=abg S rfl e1 hl r x
  have I:Inv (cxH P w K mg base N qual (jf st) f Kc A Ko s H E) [] (L2.zO N vs) H s1:=Inv.asA I0 I0.ok.frames (fun z=>nomatch z)
  obtain ⟨ds,d,h1,h2,h3,h4⟩:=hsp
  unfold jw at h3
  rw [if_pos h1] at h3
  cases hB:B (jC N ds) with
  | none=>rw [hB] at h3; cases h3
  | some o=>
   rw [hB] at h3
   have bd:=body Kc A Ko s H E (hr.deeper _) [] s1 (L2.zO N vs) H { nx:=fun _ H'=>Q .non H',rt:=Q } I ⟨jC N ds,o,Ji h2,hB,by
    cases o with
    | rt c=>cases h3; exact fun v H' sm r=>h4 v H' sm r
    | nx ρ=>cases h3; exact fun σ H' sm e=>h4 .non H' sm rfl
    | bk ρ=>cases h3
    | ct ρ=>cases h3⟩
   refine wpAny_mono bd (fun fl s' hs=>?_) fun e s' hs=>hs.elim
   have fin:∀ {σ':St} {H':Hp} {v:V} {u:Value},Inv (cxH P w K mg base N qual (jf st) f Kc A Ko s H E) [] σ' H' s'->j8 v u->Q v H'->CE Ko P w H s Q u s':=
    fun {σ' H' v u} J rv q=>⟨v,H',J.os,J.bare,J.base,J.hok,rv,q⟩
   cases fl with
   | ret u=>
    obtain ⟨v,σ',H',J,rv,q⟩:=hs
    exact fin J rv q
   | next=>
    obtain ⟨σ',H',J,q⟩:=hs
    exact fin (v:=V.non) (u:=Value.none) J rfl q
   | brk=>
    obtain ⟨_,_,_,q⟩:=hs
    exact False.elim q
   | cont=>
    obtain ⟨_,_,_,q⟩:=hs
    exact False.elim q
end
section
variable {X:Cx}{e:Expr}{es:List Expr}{pos:Pos}
theorem ac0 {k n:Nat}{ps:List Str}{g:LP->OP}{x:Str}{p:Pos}{fr:Rho->Option (LP)} (c:ZA X.prog X.w X.K X.mg X.base x ps k n g) (hr:RoomH k X.A) (ha:PAD X (e::es) fr)
  (hl:∀ (ρ:Rho) (ds:LP),fr ρ=some ds->ds.length=n) (hn:(e::es).length=n:=by rfl) (hg:Gl X x:=by rfl) (hdb:(x == ("__debug__":Str))=false:=by decide) (he:starEach (e::es) X.env=(false,eval e X.env)::starEach es X.env:=by rfl)
  (hpl:(backTo pos (starEach es X.env)).any (·.1)=false:=by rfl):PD X (.Call (.Name x p) (e::es) [] pos) (jB g fr):=by
 with_unfolding_all
  obtain ⟨f,fd,F,hm,hk,hb⟩:=c
  have run:∀ {Kp:List (Addr × Obj)} {σ:St} {H:Hp} {s:Shared} {Q:VK} {us:List Value} {vs:List V},Inv X Kp σ H s->jP vs us->Pur X.K n g vs H Q (fun _ _ _=>False)->wpAny (model X.prog X.w) X.A (call (.ref f) us) (EP X Kp σ Q) X.xe s:=by
   intro Kp σ H s Q us vs I r h
   have hl:us.length=ps.length:=by rw [←r.length]; exact F.len _ _ _ _ h
   have hb':=hb s us I.kIn (by rw [List.append_nil]; exact hl)
   rw [List.append_nil] at hb'
   refine wpAny_call (codeAny_mono (F.run X.A X.stack s H ⟨us,[]⟩ us vs Q (fun _ _ _=>False) hr I.env0 hb' r h) fun r s' hq=>?_)
   cases r with
   | error e=>exact (abR [] σ H s e s' (I.pins_of fun p hp=>nomatch hp) hq:X.xe e s')
   | ok fl=>
    cases fl with
    | ret u=>exact I.after hq
    | next=>exact False.elim hq
    | brk=>exact False.elim hq
    | cont=>exact False.elim hq
  have pc:PE X (.Call (.Name x p) (e::es) [] pos) (akM (Pur X.K n g) [] (fun _ _ _=>False) (tDA X.K fr)):=by
   intro Kp s σ H Q I h
   refine wpAny_Call_Name_kw (JF I hg hm ?_ hdb)
   refine PySem.W.callWith_K (h₀:=X.base) I.ok.mod.kin hk (thn (ha pos Kp s σ H _ I h) fun us s1 ⟨vs,H1,I1,r,q⟩=>⟨I1.kIn,?_⟩) he hpl
   have q':Pur X.K n g (vs++[]) H1 Q (fun _ _ _=>False):=q
   rw [List.append_nil] at q'
   exact run I1 r q'
  refine PE.imp pc fun σ H Q ⟨ρ,d,en,q,k⟩=>?_
  cases h1:fr ρ with
  | none=>simp [jB,h1] at q
  | some ds=>
   refine ⟨ρ,ds,en,h1,fun vs H1 s1 r1=>?_⟩
   exact ⟨ds,d,by rw [hl ρ ds h1],by rw [List.append_nil]; exact r1,by simpa [jB,h1] using q,fun v H' s r=>k v H' (s1.trans s) r⟩
end
structure ExcK (K:Fg) (C:Addr):Prop where
 exc:PySem.W.excIn K C vB "ValueError.__new__"=true
 ga:PySem.W.findIn K (.ref C) "__getattribute__"=some (some (.builtin "BaseException.__getattribute__"))
 gt:PySem.W.findIn K (.ref C) "__getattr__"=some none
 cl:PySem.W.findIn K (.ref C) "__class__"=some (some (.builtin "object.__class__"))
 mo:PySem.W.mroIn K C (.type "object")=some true
 mb:PySem.W.mroIn K C (.type "BaseException")=some true
theorem agg {K:Fg}{C:Addr}{t:Value}{b:Bool} (h:PySem.W.mroIn K C t=some b):(PySem.W.clsIn K C).isSome=true:=by
 unfold PySem.W.mroIn at h
 cases hc:PySem.W.clsIn K C with
 | none=>rw [hc] at h; cases h
 | some cd=>rfl
theorem ExcK.ci {K:Fg}{C:Addr} (h:ExcK K C):(PySem.W.clsIn K C).isSome=true:=agg h.mo
structure ClsG (K:Fg):Prop where
 gt:PySem.W.specialIn K (.builtin "object.__class__") "__get__"=some (some (.builtin "getset_descriptor.__get__"))
 tk:PySem.W.takesIn K (.builtin "object.__class__")=some true
section
variable {prog:Program}{w:World}{A:Around}{E:Value->SP0}{s:Shared}{K:Fg}{a C:Addr}{oe:Obj}
theorem alA (hg:ClsG K) (hc:ExcK K C):PySem.W.findObj K C none "__class__"=some (.bind (.builtin "getset_descriptor.__get__") (.builtin "object.__class__")):=by
 obtain ⟨cd,h1⟩:=Option.isSome_iff_exists.mp hc.ci
 unfold PySem.W.findObj
 rw [h1,zzD,hc.cl,zzD]
 simp [hg.gt,hg.tk]
theorem ajK {nameV:Value}{Q:Unit->SP0} (X:K.In s.heap) (hc:ExcK K C) (I:PySem.W.InstAt s.heap a oe C none) (hq:Q () s):wpAny (model prog w) A (checkBuiltinCall "BaseException.__getattribute__" ⟨[.ref a,nameV],[]⟩) Q E s:=by
 have hk:builtinKind "BaseException.__getattribute__"=some .slot:=by decide +kernel
 have hsplit:splitId "BaseException.__getattribute__"=some ("BaseException","__getattribute__"):=by decide +kernel
 have ha:=F.args_bexc_ga (.ref a) nameV
 have L0:=I.type (M:=model prog w)
 have L1:=PySem.W.looks_mroIn (M:=model prog w) X hc.mb
 obtain ⟨hh,g,d,t,os⟩:=s
 simp only [checkBuiltinCall,hk,hsplit]
 refine wpAny_bind ?_
 unfold isInstance
 repeat (first | with_reducible refine L0.at ?_ | with_reducible refine L1.at ?_ | wp_step)
 exact hq
theorem ajL {tk:Tok}{Q:Fin->SP0} (X:K.In s.heap) (hg:ClsG K) (hc:ExcK K C) (I:PySem.W.InstAt s.heap a oe C none) (hq:Q (.done (.ret (.ref C))) s):
  wpAny (model prog w) A (Builtin.«object.__getattribute__» ⟨[.ref a,.str "__class__" tk],[]⟩) Q E s:=by
 have L0:=I.type (M:=model prog w)
 have L1:=PySem.W.looks_find (M:=model prog w) X I (alA hg hc)
 obtain ⟨hh,g,d,t,os⟩:=s
 refine wpAny_bind (wpAny_pure (wpAny_bind (wpAny_pure (wpAny_bind (L0.at (wpAny_bind (L1.at ?_)))))))
 show wpAny _ _ (holding [Value.builtin "object.__class__"] (call (.builtin "getset_descriptor.__get__") [.builtin "object.__class__",.ref a,.ref C]) >>= ret) _ _ _
 refine wpAny_bind (wpAny_holding (wpAny_call (PySem.W.class_get (ox:=oe) (od:=none) X I hc.mo ?_)))
 exact wpAny_pure hq
theorem anC {Q:Option Value->SP0} (X:K.In s.heap) (hg:ClsG K) (hc:ExcK K C) (I:PySem.W.InstAt s.heap a oe C none) (hq:Q (some (.ref C)) { s with toks:=s.toks+1 }):wpAny (model prog w) A (getAttr? (.ref a) "__class__") Q E s:=by
 have L0:=I.type (M:=model prog w)
 have L1:=PySem.W.looks_findIn (M:=model prog w) X hc.ga
 have L2:=PySem.W.looks_findIn (M:=model prog w) X hc.gt
 obtain ⟨hh,g,d,t,os⟩:=s
 unfold getAttr? getAttrBy? getAttrBy
 refine wpAny_bind (wpAny_mkText (wpAny_bind (wpAny_attempt (wpAny_holding (wpAny_bind (L0.at (wpAny_bind (L1.at ?_))))))))
 have hx2:(Value.builtin "BaseException.__getattribute__" == Value.builtin "object.__getattribute__")=false:=by decide +kernel
 have hx1:(onTheHeap (Value.ref C) && Value.builtin "BaseException.__getattribute__" == Value.builtin "object.__getattribute__")=false:=by rw [hx2]; rfl
 dsimp only
 rw [hx1]
 show wpAny _ _ (getAttrByItsOwn _ _ _ _ _ _) _ _ _
 unfold getAttrByItsOwn hookBefore
 rw [if_pos (show onTheHeap (Value.ref C)=true from rfl)]
 refine wpAny_bind (L2.at (wpAny_bind (wpAny_attempt (wpAny_holding ?_))))
 unfold callGetattribute
 rw [if_neg (by simp)]
 have f3:=PySem.F.attr_ValueError.ga.bind (.ref a)
 have fin:codeAny (model prog w) A (.call (.builtin "BaseException.__getattribute__") ⟨[.ref a,.str "__class__" t],[]⟩) (fun r s'=>match r with | .ok (.ret v)=>v= .ref C/\s'=⟨hh,g,d,t+1,os⟩ | _=>False) ⟨hh,g,d,t+1,os⟩:=
  codeAny_call_builtin PySem.F.attr_ValueError.ga.plain F.entry_bexc_ga (ajK (s:=⟨hh,g,d,t+1,os⟩) X hc I (ajL (s:=⟨hh,g,d,t+1,os⟩) X hg hc I ⟨rfl,rfl⟩))
 unfold boundAndCalled
 rw [f3]
 refine wpAny_bind (wpAny_pure (wpAny_call (codeAny_mono fin fun r s' hr=>?_)))
 cases r with
 | error e=>exact hr.elim
 | ok fl=>
  cases fl with
  | ret v=>
   obtain ⟨rfl,rfl⟩:=hr
   exact PySem.W.handed_on rfl (wpAny_pure hq)
  | next=>exact hr.elim
  | brk=>exact hr.elim
  | cont=>exact hr.elim
theorem alB (hg:ClsG K) (hc:ExcK K C):PySem.W.KitX K (.ref a) (.ref C) (fun h=>∃ oe,PySem.W.InstAt h a oe C none) where
 ty:=fun _ _ _ ⟨_,I⟩=>I.type
 it:=fun _ _ X _=>by
  obtain ⟨cdD,hcD⟩:=Option.isSome_iff_exists.mp hc.ci
  unfold PySem.W.clsIn at hcD
  split at hcD
  ·rename_i ho
   intro A' Q' E' s' k q
   unfold isType loadHead
   exact wpAny_bind (wpAny_loadPart (k _ _ (X _ _ ho)) (wpAny_pure q))
  ·cases hcD
 ne:=fun h tp dd its n sl X htp=>by
  obtain ⟨cdD,hcD⟩:=Option.isSome_iff_exists.mp hc.ci
  refine Bool.eq_false_iff.mpr fun q=>?_
  have e:C=tp:=Value.ref.inj (beq_iff_eq.mp q)
  subst e
  unfold PySem.W.clsIn at hcD
  split at hcD
  ·rename_i ho
   have z:=(X _ _ ho).symm.trans htp
   cases z
  ·cases hcD
 ca:=fun X ⟨_,I⟩ k=>anC X hg hc I k
end
noncomputable def adr (K:Fg) (c:Str):Option Addr:=match PySem.W.nsIn K mainGlobals c with
 | some (some (.ref C))=>some C
 | _=>none
theorem apC {K:Fg}{c:Str}{C:Addr} (h:PySem.W.nsIn K mainGlobals c=some (some (.ref C))):adr K c=some C:=by
 unfold adr; rw [h]
theorem aeR {K:Fg}{c:Str}{C:Addr} (h:adr K c=some C):PySem.W.nsIn K mainGlobals c=some (some (.ref C)):=by
 unfold adr at h
 split at h
 ·rename_i q; cases h; exact q
 ·cases h
noncomputable def apD (K:Fg) (C:Addr):Bool:=PySem.W.excIn K C vB "ValueError.__new__" && ((PySem.W.findIn K (.ref C) "__getattribute__" == some (some (.builtin "BaseException.__getattribute__"))) && ((PySem.W.findIn K (.ref C) "__getattr__" == some none) && ((PySem.W.findIn K (.ref C) "__class__" == some (some (.builtin "object.__class__"))) && ((PySem.W.mroIn K C (.type "object") == some true) && (PySem.W.mroIn K C (.type "BaseException") == some true)))))
theorem alC {K:Fg}{C:Addr} (h:apD K C=true):ExcK K C:=by
 unfold apD at h
 simp only [Bool.and_eq_true,beq_iff_eq] at h
 obtain ⟨h1,h2,h3,h4,h5,h6⟩:=h
 exact ⟨h1,h2,h3,h4,h5,h6⟩
noncomputable def aeS (K:Fg) (y:Str) (cs:List Str):Bool:=(PySem.W.specialIn K (.builtin "object.__class__") "__get__" == some (some (.builtin "getset_descriptor.__get__"))) && ((PySem.W.takesIn K (.builtin "object.__class__") == some true) && (match adr K y with
 | none=>false
 | some B=>(PySem.W.typeIn K (.ref B) == some (.type "type")) && ((PySem.W.mroIn K B (.type "BaseException") == some true) && cs.all fun c=>match adr K c with
  | none=>false
  | some C=>apD K C && ((PySem.W.mroIn K C (.ref B) == some true) && ((PySem.W.kitOne K (.ref C) (.type "ValueError") == some true) && cs.all fun d=>match adr K d with
   | none=>false
   | some D=>PySem.W.kitOne K (.ref C) (.ref D) == some (c == d))))))
structure ErrT (K:Fg) (mg:SV) (y:Str) (cs:List Str):Prop where
 tab:aeS K y cs=true
 mgs:∀ c C,adr K c=some C->mg c=some (.ref C)
section
variable {K:Fg}{mg:SV}{y:Str}{cs:List Str}
theorem ErrT.g (h:ErrT K mg y cs):ClsG K:=by
 have:=h.tab
 unfold aeS at this
 simp only [Bool.and_eq_true,beq_iff_eq] at this
 exact ⟨this.1,this.2.1⟩
theorem ErrT.par (h:ErrT K mg y cs):∃ B,adr K y=some B/\mg y=some (.ref B)/\PySem.W.typeIn K (.ref B)=some (.type "type")/\PySem.W.mroIn K B (.type "BaseException")=some true/\
  ∀ c ∈ cs,∃ C,adr K c=some C/\mg c=some (.ref C)/\ExcK K C/\PySem.W.mroIn K C (.ref B)=some true/\PySem.W.kitOne K (.ref C) (.type "ValueError")=some true/\∀ d ∈ cs,∃ D,adr K d=some D/\mg d=some (.ref D)/\PySem.W.kitOne K (.ref C) (.ref D)=some (c == d):=by
 have q:=h.tab
 unfold aeS at q
 simp only [Bool.and_eq_true,beq_iff_eq] at q
 obtain ⟨_,_,q⟩:=q
 cases hB:adr K y with
 | none=>rw [hB] at q; cases q
 | some B=>
  rw [hB] at q
  simp only [Bool.and_eq_true,beq_iff_eq,List.all_eq_true] at q
  obtain ⟨q1,q2,q3⟩:=q
  refine ⟨B,rfl,h.mgs y B hB,q1,q2,fun c hc=>?_⟩
  have z:=q3 c hc
  cases hC:adr K c with
  | none=>rw [hC] at z; cases z
  | some C=>
   rw [hC] at z
   simp only [Bool.and_eq_true,beq_iff_eq,List.all_eq_true] at z
   obtain ⟨z1,z2,z3,z4⟩:=z
   refine ⟨C,rfl,h.mgs c C hC,alC z1,z2,z3,fun d hd=>?_⟩
   have v:=z4 d hd
   cases hD:adr K d with
   | none=>rw [hD] at v; cases v
   | some D=>
    rw [hD] at v
    exact ⟨D,rfl,h.mgs d D hD,beq_iff_eq.mp v⟩
theorem ErrT.err (h:ErrT K mg y cs) {c:Str} (hc:c ∈ cs):acV K mg c:=by
 obtain ⟨B,_,_,_,_,q⟩:=h.par
 obtain ⟨C,_,q2,q3,_⟩:=q c hc
 exact ⟨C,q2,q3.exc⟩
end
noncomputable def adU:PyData->Option Str
 | .dict [(.str c,.bool true)]=>some c
 | _=>none
theorem agh {d:PyData}{c:Str} (h:adU d=some c):d=zk c:=by
 unfold adU at h
 split at h
 ·cases h; rfl
 ·cases h
@[simp] theorem apE (c:Str):adU (zk c)=some c:=rfl
theorem alD {K:Fg}{H:Hp}{x:Str}{v:V} (h:Rep K H (zk x) v):∃ a C oe,v= .ref a/\H a=some (.frz oe (.own a))/\PySem.W.nsIn K mainGlobals x=some (some (.ref C))/\oe.cls= .ref C/\oe.dict=none/\∃ vs,oe.data= .fields vs:=by
 obtain ⟨a,h1,⟨ns,h2,h3⟩ | ⟨ks,ob,h2,h3⟩ | ⟨y,h2,_⟩ | ⟨y,C,oe,h2,h3,h4,h5⟩ | h2⟩:=h
 ·cases ns with
  | nil=>cases h3
  | cons n ns=>cases h3
 ·exact h3.elim
 ·cases h2
 ·cases h2
  exact ⟨a,C,oe,h1,h3,h4,h5⟩
 ·cases h2
noncomputable def ajM (cs:List Str) (f:Str->Bool) (d:PyData):OP:=(adU d).bind fun c=>if c ∈ cs then some (.bool (f c)) else none
section
variable {X:Cx}{a:Expr}{fa:RP}{pos p p2:Pos}{y:Str}{cs:List Str}
noncomputable def arb (K:Fg) (w:V):List V->Hp->VK->Prop:=fun xs H Q=>∃ x c C b,xs=[x,w]/\Rep K H (zk c) x/\adr K c=some C/\ExcK K C/\(∀ u,j8 w u->PySem.W.kitOne K (.ref C) u=some b)/\Q (.bl b) H
theorem adV {w:V} (G:ClsG X.K):Q9 X (.builtin "isinstance") (arb X.K w):=by
 intro Kp s σ H xs us Q I r ⟨x,c,C,b,e,h1,hC,hK,h2,q⟩
 subst e
 obtain ⟨u,w',rfl,r1,r2⟩:=afL r
 obtain ⟨a,C',oe,rfl,e2,e3,e4,e5,vs,e6⟩:=alD h1
 have:=apC e3
 rw [hC] at this; cases this
 cases (show u=Value.ref a from r1)
 have at':s.heap.get? a=some oe:=(I.hok _ _ e2).1
 exact PySem.W.kia_one (alB G hK) I.kIn ⟨oe,at',e4,by unfold PySem.W.notCls; rw [e6],by rw [e5]; trivial⟩ (h2 w' r2) (fun z=>nomatch z) fun tk=>⟨.bl b,H,I.tok tk,rfl,q⟩
theorem ZB {T:Str} (hE:ErrT X.K X.mg y cs) (hm1:X.mg "isinstance"=none) (ha:PD X a fa) (hT:T ∈ cs:=by decide) (hg1:Gl X "isinstance":=by rfl) (hg2:Gl X T:=by rfl) (hd:(T == ("__debug__":Str))=false:=by decide)
  (he:starEach [a,.Name T p2] X.env=[(false,eval a X.env),(false,eval (.Name T p2) X.env)]:=by rfl) (he2:starEach [.Name T p2] X.env=[(false,eval (.Name T p2) X.env)]:=by rfl) (hpl:(backTo pos (starEach [.Name T p2] X.env)).any (·.1)=false:=by rfl):
  PD X (.Call (.Name "isinstance" p) [a,.Name T p2] [] pos) (fun ρ=>(fa ρ).bind (ajM cs fun c=>c == T)):=by
 with_unfolding_all
  obtain ⟨B,_,_,_,_,par⟩:=hE.par
  obtain ⟨D,d1,d2,_⟩:=par T hT
  have hT2:PE X (.Name T p2) (tC (.ref D)):=ab8 hg2 d2 rfl hd
  refine PE.imp (Za (adV (w:= .ref D) hE.g) hg1 hm1 (by decide +kernel) (qv ha (qv hT2 zw (by rw [he2]; rfl)) (by rw [he,he2])) (by decide) (by decide) (by rw [he,he2]) hpl) fun σ H Q ⟨ρ,d,en,q,k⟩=>?_
  cases h1:fa ρ with
  | none=>simp [h1] at q
  | some c0=>
   have q':ajM cs (fun c=>c == T) c0=some d:=by simpa [h1] using q
   unfold ajM at q'
   cases h2:adU c0 with
   | none=>rw [h2] at q'; cases q'
   | some c=>
    rw [h2,zzD] at q'
    by_cases hc:c ∈ cs
    ·rw [if_pos hc] at q'
     cases q'
     have:=agh h2
     subst this
     obtain ⟨C,c1,c2,c3,c4,c5,c6⟩:=par c hc
     obtain ⟨D',d1',d2',d3'⟩:=c6 T hT
     rw [d1] at d1'; cases d1'
     exact ⟨ρ,_,en,h1,fun v H1 s1 r1=>⟨v,c,C,_,rfl,r1,c1,c3,fun u ru=>by cases (show u=Value.ref D from ru); exact d3',k _ H1 s1 rfl⟩⟩
    ·rw [if_neg hc] at q'; cases q'
theorem anD (hE:ErrT X.K X.mg y cs) (hm1:X.mg "isinstance"=none) (hm2:X.mg "ValueError"=none) (ha:PD X a fa) (hg1:Gl X "isinstance":=by rfl) (hg2:Gl X "ValueError":=by rfl)
  (he:starEach [a,.Name "ValueError" p2] X.env=[(false,eval a X.env),(false,eval (.Name "ValueError" p2) X.env)]:=by rfl) (he2:starEach [.Name "ValueError" p2] X.env=[(false,eval (.Name "ValueError" p2) X.env)]:=by rfl) (hpl:(backTo pos (starEach [.Name "ValueError" p2] X.env)).any (·.1)=false:=by rfl):
  PD X (.Call (.Name "isinstance" p) [a,.Name "ValueError" p2] [] pos) (fun ρ=>(fa ρ).bind (ajM cs fun _=>true)):=by
 with_unfolding_all
  obtain ⟨B,_,_,_,_,par⟩:=hE.par
  have hT2:PE X (.Name "ValueError" p2) (tC (.ty "ValueError")):=aie hg2 hm2 (u:= .type "ValueError") (by decide +kernel) rfl (by decide) (by decide)
  refine PE.imp (Za (adV (w:= .ty "ValueError") hE.g) hg1 hm1 (by decide +kernel) (qv ha (qv hT2 zw (by rw [he2]; rfl)) (by rw [he,he2])) (by decide) (by decide) (by rw [he,he2]) hpl) fun σ H Q ⟨ρ,d,en,q,k⟩=>?_
  cases h1:fa ρ with
  | none=>simp [h1] at q
  | some c0=>
   have q':ajM cs (fun _=>true) c0=some d:=by simpa [h1] using q
   unfold ajM at q'
   cases h2:adU c0 with
   | none=>rw [h2] at q'; cases q'
   | some c=>
    rw [h2,zzD] at q'
    by_cases hc:c ∈ cs
    ·rw [if_pos hc] at q'
     cases q'
     have:=agh h2
     subst this
     obtain ⟨C,c1,c2,c3,c4,c5,c6⟩:=par c hc
     exact ⟨ρ,_,en,h1,fun v H1 s1 r1=>⟨v,c,C,_,rfl,r1,c1,c3,fun u ru=>by cases (show u=Value.type "ValueError" from ru); exact c5,k _ H1 s1 rfl⟩⟩
    ·rw [if_neg hc] at q'; cases q'
end
section
variable {X:Cx}{σ:St}{H:Hp}{s:Shared}{e C:Addr}
theorem Inv.take {oe:Obj} (I:Inv X [] σ H s) (m:Mine X H e) (he:s.heap.get? e=some oe):Inv X [] σ (upd H e (.frz oe (.own e))) s/\jn H (upd H e (.frz oe (.own e))):=by
 have ne:∀ b o,H b=some o->b ≠ e:=fun b o q z=>by subst z; rw [m.un] at q; cases q
 have sm:jn H (upd H e (.frz oe (.own e))):=fun b o q=>by rw [jt (ne b o q)]; exact q
 have u:Un (frs X.stack) [e] H (upd H e (.frz oe (.own e))) s.heap s.heap:=⟨fun b o q _ _ _=>q,fun b o q _ _ _=>⟨o.slots,q⟩,fun b o q n nc=>by rw [jt (fun z=>nc (by simp [z]))]; exact n,fun b o q _=>⟨o,q⟩,fun b xs q=>sm b _ q,fun b o v q=>sm b _ q,fun b ps q=>⟨#[],by rw [sm b _ q]; simp⟩⟩
 have hok:HOk X.prog X.w (upd H e (.frz oe (.own e))) s.heap:=fun b o q=>by
  by_cases hb:b=e
  ·subst hb
   rw [jp] at q; cases q
   exact ⟨he,_,he⟩
  ·rw [jt hb] at q
   exact (I.hok b o q).stay (fun c v hc r=>r) (fun c r=>sm _ _ r) fun c v r=>sm _ _ r
 refine ⟨?_,sm⟩
 have J:=Inv.call (X:={ X with ex:=[e]++X.ex }) (g':=s.gens) (d':=s.drawn) (t':=s.toks) (Inv.exIn I fun b hb=>by rw [List.mem_singleton.mp hb]; exact ⟨m.new,m.loc,m.cel⟩) u hok I.bare fun b hb=>by
  rw [List.mem_singleton.mp hb]
  exact ⟨.inl (List.mem_append_left _ (by simp)),m.loc,m.cel,fun p hp=>m.pin p (by simpa using hp)⟩
 exact Inv.exOut J I.ok fun b hb=>by rw [List.mem_singleton.mp hb]; exact m.new
theorem aiB {M:Model}{A:Around}{E:Value->SP0}{x:Str}{pos:Pos}{Q:Unit->SP0} (I:Inv X [] σ H s) (hl:X.env.kindOf x=some .local) (h:∀ s',Inv X [] (List.replicate σ.length none) H s'->Q () s'):
  wpAny M A (do bindName X.env x .none; unbindBehindTheSuite X.env x pos) Q E s:=by
 obtain ⟨m,hn,_⟩:=id I.loc
 have hcls:(X.env.scope.kind == .class || (X.env.scope.kind == .module && X.env.locals != X.env.globals))=false:=by rw [I.ok.kind]; rfl
 have cne:=I.cne
 refine wpAny_nameGoes hl hn hcls fun h' m' hn' hs=>?_
 obtain ⟨oL,_,_,hoL,_⟩:=id hn
 have tracked:HOk X.prog X.w H h':=fun b ob e=>by
  refine (I.hok b ob e).stay (fun c w' hc q=>(hs.2 c ?_).trans q) (fun _ q=>q) fun _ _ q=>q
  rintro rfl
  rcases hc with rfl | hc
  ·rw [I.free] at e; cases e
  ·rw [I.free] at hc; cases hc
 refine h _ ⟨I.ok,I.os,I.bare,⟨fun b o e n hb hx=>?_,fun b o e n hb hx=>?_,I.base.free,fun b o e hx=>?_,I.base.tups,I.base.frzs,I.base.tbls⟩,⟨_,hn',fun j y v' e1 e2 e3=>?_⟩,fun y c e=>?_,I.free,I.freeC,fun p hp=>?_,tracked,by simpa using I.len⟩
 ·exact (hs.2 b (Nat.ne_of_lt (Nat.lt_of_lt_of_le (Heap.lt_size e) I.ok.above))).trans (I.base.keep b o e n hb hx)
 ·obtain ⟨sl,e1⟩:=I.base.slot b o e n hb hx
  exact ⟨sl,(hs.2 b (Nat.ne_of_lt (Nat.lt_of_lt_of_le (Heap.lt_size e) I.ok.above))).trans e1⟩
 ·obtain ⟨o',e1⟩:=I.base.there b o e hx
  exact ⟨o',(hs.2 b (Nat.ne_of_lt (Nat.lt_of_lt_of_le (Heap.lt_size e) I.ok.above))).trans e1⟩
 ·rw [List.getElem?_replicate] at e2
  split at e2 <;> cases e2
 ·obtain ⟨w',z⟩:=I.cell y c e
  exact ⟨w',z.sameBut hs (cne y c e)⟩
 ·obtain ⟨e,n,ne,nf,d⟩:=I.pin p hp
  exact ⟨(hs.2 p.1 ne).trans e,n,ne,nf,d⟩
theorem abV {M:Model}{A:Around}{E:Value->SP0}{K:Fg}{B:Addr}{oe:Obj}{Q:Bool->SP0} (X:K.In s.heap) (he:s.heap.get? e=some oe) (hc:oe.cls= .ref C)
  (ht:PySem.W.typeIn K (.ref B)=some (.type "type")) (hB:PySem.W.mroIn K B (.type "BaseException")=some true) (hm:PySem.W.mroIn K C (.ref B)=some true) (hq:Q true s):wpAny M A (excMatches (.ref e) (.ref B)) Q E s:=by
 have L0:=PySem.W.looks_typeIn (M:=M) X ht
 have L1:=PySem.W.looks_mroIn (M:=M) X hB
 have L2':=PySem.W.looks_mroIn (M:=M) X hm
 have Lt:PySem.W.Looks M s.heap (isType (.ref B)) true:=by
  obtain ⟨cdD,hcD⟩:=Option.isSome_iff_exists.mp (agg hB)
  unfold PySem.W.clsIn at hcD
  split at hcD
  ·rename_i ho
   intro A' Q' E' s' k q
   unfold isType loadHead
   exact wpAny_bind (wpAny_loadPart (k _ _ (X _ _ ho)) (wpAny_pure q))
  ·cases hcD
 have f:=tc_notTuple
 obtain ⟨hp,g,d,tk,os⟩:=s
 unfold excMatches isInstance isExcClass
 repeat (first | (with_reducible refine wpAny_loadPart_at he ?_; rw [hc]) | with_reducible refine L0.at ?_ | with_reducible refine L1.at ?_ | with_reducible refine L2'.at ?_ | with_reducible refine Lt.at ?_ | wp_step)
 exact hq
end
noncomputable def Zi (n i:Nat) (cs:List Str) (F:RO) (fx:Rho->Option Str) (G:RO):RO:=fun ρ=>match F ρ with
 | some o=>some o
 | none=>match fx ρ with
  | some c=>if c ∈ cs then (match G ((JV n).set i (some (zk c))) with
   | some (.rt d)=>some (.rt d)
   | _=>none) else none
  | none=>none
section
variable {X:Cx}{st b0:Stmt}{sts qp tb hb:List Stmt}{F G:RO}{fx:Rho->Option Str}{pos:Pos}
theorem alE {y x:Str}{np hpos:Pos}{n:Nat}{cs:List Str} (i:Nat) (T0:Top0 X) (hN:X.N.length=n) (hnd:X.N.Nodup) (hE:ErrT X.K X.mg y cs) (hn:∀ E,Zb (X.wish E) tb F) (hx:∀ E,abr (X.wish E) tb fx) (hh:∀ e,Zb (hX X e) (b0::hb) G)
  (hi:X.N[i]?=some x:=by rfl) (hl:X.env.kindOf x=some .local:=by rfl) (hlk:X.env.scope.names.lookup x=some .local:=by rfl) (hg:Gl X y:=by rfl) (hdb:(y == ("__debug__":Str))=false:=by decide):PS0 X (.Try tb [.ExceptHandler (some (.Name y np)) (some x) (b0::hb) hpos] [] [] pos) (Zi n i cs F fx G):=by
 with_unfolding_all
  intro s σ H D I ⟨ρ,o,en,q,k⟩
  refine wpAny_Try_except ?_
  let E':Value->SP0:=fun ev s1=>wpAny (model X.prog X.w) X.A (noteFrame ev X.env) (fun _ s₂=>wpAny (model X.prog X.w) X.A (setFlight ev none) (fun _ s₃=>wpAny (model X.prog X.w) X.A (handleBy ev X.env [.ExceptHandler (some (.Name y np)) (some x) (b0::hb) hpos]) (SP X [] D) X.xe s₃) X.xe s₂) X.xe s1
  cases hF:F ρ with
  | some o1=>
   have e1:o1=o:=by simpa [Zi,hF] using q
   subst e1
   refine wpAny_mono (hn E' [] s σ H D (I.wish E') ⟨ρ,o1,en,hF,k⟩) (fun f s1 z=>?_) fun _ _ z=>z
   have z':=SP.unwish z
   cases f with
   | next=>exact wpAny_execs_nil z'
   | brk=>exact z'
   | cont=>exact z'
   | ret u=>exact z'
  | none=>
   cases hc:fx ρ with
   | none=>simp [Zi,hF,hc] at q
   | some c=>
    by_cases hy:c ∈ cs
    ·cases hG:G ((JV n).set i (some (zk c))) with
     | none=>simp [Zi,hF,hc,hy,hG] at q
     | some o1=>
     cases o1 with
     | nx ρ1=>simp [Zi,hF,hc,hy,hG] at q
     | bk ρ1=>simp [Zi,hF,hc,hy,hG] at q
     | ct ρ1=>simp [Zi,hF,hc,hy,hG] at q
     | rt d=>
     have q':Out.rt d=o:=by simpa [Zi,hF,hc,hy,hG] using q
     subst q'
     obtain ⟨B,aB,mB,tB,bB,par⟩:=hE.par
     obtain ⟨C',aC,mC,xC,pC,_⟩:=par c hy
     refine wpAny_mono (hx E' s σ H ρ c (I.wish E') en hc fun ev s1 t=>?_) (fun _ _ z=>z.elim) fun _ _ z=>z
     obtain ⟨e,C,σ1,H1,rfl,hm,J,sm,xc⟩:=t
     have J0:=J.unwish
     have x0:=xc.unwish
     show wpAny _ X.A (noteFrame (.ref e) X.env) _ _ s1
     refine wpAny_mono (aaH (E:=fun _ _=>False) T0 J0.ok.frames J0 x0) (fun _ s2 ⟨J2,t2⟩=>?_) fun _ _ z=>z.elim
     refine wpAny_mono (zP (E:=fun _ _=>False) none J2 t2) (fun _ s3 ⟨J3,t3⟩=>?_) fun _ _ z=>z.elim
     have ok:=J3.ok
     have hm0:X.mg c=some (.ref C):=hm
     rw [hm0] at mC; cases mC
     have fr:(X.A.mark (some (.ref e))).frames=some X.stack:=ok.frames
     have J4:Inv (hX X e) [] σ1 H1 s3:=Inv.asA J3 fr (fun z=>nomatch z)
     refine wpAny_handleBy_cons (codeAny_handlers_test ?_) (fun z=>nomatch z)
     refine JF (X:=hX X e) J4 hg mB ?_ hdb
     obtain ⟨oe,ws,T,oT,ts,g1,g2,g3,g4,g5,g6,g7,g8,g9⟩:=id t3.ob
     refine abV J4.kIn g1 g2.1 tB bB pC ?_
     refine codeAny_handlers_suite_as ?_
     refine wpAny_mono (zP (A:=X.A.mark (some (.ref e))) (E:=fun _ _=>False) none J3 t3) (fun _ s5 ⟨J5,t5⟩=>?_) fun _ _ z=>z.elim
     obtain ⟨oe5,ws5,T5,oT5,ts5,g51,g52,g53,_⟩:=id t5.ob
     obtain ⟨J6,sm6⟩:=Inv.take J5 t5.mine g51
     have J7:Inv (hX X e) [] σ1 (upd H1 e (.frz oe5 (.own e))) s5:=Inv.asA J6 fr (fun z=>nomatch z)
     have hlen:σ1.length=n:=by rw [←hN,←J5.len]
     refine aat (X:=hX X e) J7 hnd hi (.inl hlk) (v:= .ref e) rfl (fun s6 J8=>?_) (.inr hlk)
     have re:Rep X.K (upd H1 e (.frz oe5 (.own e))) (zk c) (.ref e):=⟨e,rfl,.inr (.inr (.inr (.inl ⟨c,_,oe5,rfl,jp,aeR aC,g52.1,g52.2,ws5,g53⟩)))⟩
     have eb:EnvR X.K (upd H1 e (.frz oe5 (.own e))) ((JV n).set i (some (zk c))) (σ1.set i (some (.ref e))):=by
      refine ⟨by simp [JV,hlen],fun j d qd=>?_⟩
      by_cases hj:j=i
      ·subst hj
       rw [List.getElem?_set_self (by simp only [JV,List.length_replicate]; rw [←hN]; exact (List.getElem?_eq_some_iff.mp hi).1)] at qd
       cases qd
       exact ⟨.ref e,List.getElem?_set_self (by rw [hlen,←hN]; exact (List.getElem?_eq_some_iff.mp hi).1),re⟩
      ·rw [List.getElem?_set_ne (Ne.symm hj)] at qd
       simp [JV,List.getElem?_replicate] at qd
     refine wpAny_mono (hh e [] s6 _ _ { D with nx:=fun _ _=>False,bk:=fun _ _=>False,ct:=fun _ _=>False } J8 ⟨_,.rt d,eb,hG,fun v H' sm' r=>k v H' ((sm.trans sm6).trans sm') r⟩) (fun f s7 z=>?_) fun _ _ z=>z.elim
     have z':=SP.ofA J5.ok z
     cases f with
     | next=>obtain ⟨_,_,_,z⟩:=z'; exact z.elim
     | brk=>obtain ⟨_,_,_,z⟩:=z'; exact z.elim
     | cont=>obtain ⟨_,_,_,z⟩:=z'; exact z.elim
     | ret u=>
      obtain ⟨v,σ',H',I',r,z⟩:=z'
      exact aiB I' hl fun s8 I8=>⟨v,_,H',I8,r,z⟩
    ·simp [Zi,hF,hc,hy] at q
end
noncomputable abbrev asl:=Int × (Int × Int)
structure TripAt (h:Heap) (u:Value) (t:asl):Prop where
 ex:∃ a o k tk a2,u= .ref a/\h.get? a=some o/\o.cls= .type "tuple"/\o.data= .seq #[.int t.1 tk,.ref a2] k/\PairAt h (.ref a2) t.2
section
variable {X:Cx}
theorem alF {Kp:List (Addr × Obj)}{σ:St}{H:Hp}{s:Shared}{a:Addr}{o:Obj}{xs:Array Value}{k:Nat} (I:Inv X Kp σ H s) (eo:s.heap.get? a=some o) (dk:o.data= .seq xs k):a ≠ X.env.locals:=fun z=>by
 obtain ⟨_,⟨o',es,ep,h1,h2,_⟩,_⟩:=I.loc
 rw [z] at eo; rw [eo] at h1; cases h1
 rw [dk] at h2; cases h2
theorem anE {Kp:List (Addr × Obj)}{σ:St}{H:Hp}{s:Shared}{v:V}{p:Int × Int}{u:Value}{h':Heap} (I:Inv X Kp σ H s) (r:Rep X.K H (alb p) v) (rv:j8 v u) (kp:∀ b o,b ≠ X.env.locals->s.heap.get? b=some o->h'.get? b=some o):∃ a,u= .ref a/\PairAt h' u p:=by
 obtain ⟨a2,ws,e2,e3,x1,r1,e4,e5,x2,r2,e6,e7,e8⟩:=r
 cases (show x1=_ from e5)
 cases (show x2=_ from e7)
 cases (show r2=[] from e8)
 subst e6; subst e4; subst e2
 cases rv
 obtain ⟨its,r3,⟨o,eo,co,k,dk⟩,_⟩:=I.tuple e3
 cases r3 with
 | cons y1 r3=>
  cases r3 with
  | cons y2 r3=>
   cases r3
   obtain ⟨t,rfl⟩:=y1
   obtain ⟨t',rfl⟩:=y2
   exact ⟨a2,rfl,a2,o,k,t,t',rfl,kp a2 o (alF I eo dk) eo,co,by simpa using dk⟩
end
section
variable {α:Type}
end
section
variable {X:Cx}{e a b c:Expr}{es qp:List Expr}{st:Stmt}{sts srest:List Stmt}{fx gx:Rho->Option Str}{fa fb:RP}{F:RO}{pos:Pos}
theorem alG (h1:PDX X e fx) (h2:PDX X e gx):PDX X e (orX fx gx):=by
 with_unfolding_all
  intro s σ H ρ c I en q k
  cases hf:fx ρ with
  | some c'=>
   have:c'=c:=by simpa [orX,hf] using q
   subst this
   exact h1 s σ H ρ c' I en hf k
  | none=>exact h2 s σ H ρ c I en (by simpa [orX,hf] using q) k
theorem apF (h1:PSX X st fx) (h2:PSX X st gx):PSX X st (orX fx gx):=by
 with_unfolding_all
  intro s σ H ρ c I en q k
  cases hf:fx ρ with
  | some c'=>
   have:c'=c:=by simpa [orX,hf] using q
   subst this
   exact h1 s σ H ρ c' I en hf k
  | none=>exact h2 s σ H ρ c I en (by simpa [orX,hf] using q) k
noncomputable def orD (f g:RP):RP:=fun ρ=>(f ρ).orElse fun _=>g ρ
theorem alH (h1:PD X e fa) (h2:PD X e fb):PD X e (orD fa fb):=by
 with_unfolding_all
  intro Kp s σ H Q I ⟨ρ,d,en,q,k⟩
  cases hf:fa ρ with
  | some d'=>
   have:d'=d:=by simpa [orD,hf] using q
   subst this
   exact h1 Kp s σ H Q I ⟨ρ,d',en,hf,k⟩
  | none=>exact h2 Kp s σ H Q I ⟨ρ,d,en,by simpa [orD,hf] using q,k⟩
noncomputable def items:PyData->Option (LP)
 | .list ds=>some ds
 | .tuple ds=>some ds
 | _=>none
noncomputable def itS (fa:RP):Rho->Option (LP):=fun ρ=>(fa ρ).bind items
theorem anF {tg:Expr} (h:PD X e fa):PID X tg e (itS fa):=by
 with_unfolding_all
  intro Kp s σ H R I ⟨ρ,ds,en,q,k⟩
  cases hf:fa ρ with
  | none=>simp [itS,hf] at q
  | some d=>
   have q':items d=some ds:=by simpa [itS,hf] using q
   cases d with
   | list es=>
    cases q'
    exact Zd (tg:=tg) h Kp s σ H R I ⟨ρ,ds,en,by simp [itL,hf,Zc],k⟩
   | tuple es=>
    cases q'
    exact aeA (tg:=tg) h Kp s σ H R I ⟨ρ,ds,en,by simp [itT,hf,abl],k⟩
   | _=>cases q'
end
theorem RoomH.units {k:Nat}{A:Around} (r:RoomH k A):A.units+64<cLine:=by have:=r.un; omega
section
variable {X:Cx}{a b:Expr}{pos:Pos}
end
@[irreducible] noncomputable def PTX (X:Cx) (e:Expr) (fx:Rho->Option Str):Prop:=∀ (s:Shared) (σ:St) (H:Hp) (ρ:Rho) (c:Str),Inv X [] σ H s->EnvR X.K H ρ σ->fx ρ=some c->(∀ ev s',Thr X H c ev s'->X.xe ev s')->wpAny (model X.prog X.w) X.A (isTrue e X.env (eval e X.env)) (fun _ _=>False) X.xe s
section
variable {X:Cx}{e a b c:Expr}{l r:List Stmt}{fx gx:Rho->Option Str}{pos:Pos}
theorem anG (h:PDX X e fx) (he:∀ whole,isTrue e X.env whole=(do let v ←whole; standAt e.pos; holding [v] (truthy v)):=by intro _; rfl):PTX X e fx:=by
 with_unfolding_all
  intro s σ H ρ c I en q k
  exact isTrue_plain (wpAny_mono (h s σ H ρ c I en q k) (fun _ _ z=>z.elim) fun _ _ z=>z) (he _)
theorem anH (h:PTX X e fx):PTX X (.UnaryOp .Not e pos) fx:=by
 with_unfolding_all
  intro s σ H ρ c I en q k
  exact isTrue_not (wpAny_mono (h s σ H ρ c I en q k) (fun _ _ z=>z.elim) fun _ _ z=>z)
theorem anI (h:PTX X e fx):PSX X (.If e l r pos) fx:=by
 with_unfolding_all
  intro s σ H ρ c I en q k
  exact wpAny_If (wpAny_mono (h s σ H ρ c I en q k) (fun _ _ z=>z.elim) fun _ _ z=>z)
end
section
variable {X:Cx}{own:Option Nat}{tg:Expr}{st:Stmt}{sts:List Stmt}{fx:Rho->Option Str}{F:RO}
end
theorem aaL (a i:Expr) (fp:Pos) (args:List Expr) (pos:Pos) (env:Env):eval (.Call (.Subscript a i fp) args [] pos) env=(do
  callWith pos (←eval (.Subscript a i fp) env) [] (backTo pos (starEach args env)) (backToKw pos (keywordEach [] env))):=rfl
section
variable {X:Cx}{a i e:Expr}{es:List Expr}{pos fp:Pos}
noncomputable def abu (x:Str) (g:LP->OP) (ff:RP) (fr:Rho->Option (LP)):RP:=fun ρ=>(ff ρ).bind fun d=>if Jf x d=true then (fr ρ).bind g else none
theorem ac1 {k j n:Nat}{ps:List Str}{g:LP->OP}{x:Str}{ff:RP}{fr:Rho->Option (LP)} (c:jl X.prog X.w X.K X.mg X.base x ps k n g) (hr:Room j X.A) (hkj:k<=j) (hf:PD X (.Subscript a i fp) ff) (ha:PAD X (e::es) fr)
  (hl:∀ (ρ:Rho) (ds:LP),fr ρ=some ds->ds.length=n) (he:starEach (e::es) X.env=(false,eval e X.env)::starEach es X.env:=by rfl)
  (hpl:(backTo pos (starEach es X.env)).any (·.1)=false:=by rfl):PD X (.Call (.Subscript a i fp) (e::es) [] pos) (abu x g ff fr):=by
 with_unfolding_all
  obtain ⟨f,fd,c1,c2,c3,c4⟩:=c
  intro Kp s σ H Q I ⟨ρ,d,en,q,k⟩
  cases h0:ff ρ with
  | none=>simp [abu,h0] at q
  | some d0=>
   cases hF:Jf x d0 with
   | false=>simp [abu,h0,hF] at q
   | true=>
    have:=aaK hF
    subst this
    cases h1:fr ρ with
    | none=>simp [abu,h0,hF,h1] at q
    | some ds=>
     have q':g ds=some d:=by simpa [abu,h0,hF,h1] using q
     rw [aaL]
     refine wpAny_bind (thn (hf Kp s σ H (fun v H1=>jn H H1/\Rep X.K H1 (fnD x) v) I ⟨ρ,_,en,h0,fun v H1 s1 r1=>⟨s1,r1⟩⟩) fun u s1 ⟨v,H1,I1,rv,sm,re⟩=>?_)
     obtain ⟨ad,ev,ea⟩:=acf re
     subst ev
     cases rv
     have hff:=(PySem.W.mg_of I1.mod.kin I1.mod.glob ea).symm.trans c2
     cases hff
     refine PySem.W.callWith_K (h₀:=X.base) I1.ok.mod.kin c3 (thn (ha pos Kp s1 σ H1 (fun vs H2=>jn H1 H2/\Reps X.K H2 ds vs) I1 ⟨ρ,ds,en.mono sm,h1,fun vs H2 s2 r2=>⟨s2,r2⟩⟩) fun us s2 ⟨vs,H2,I2,r,sm2,rd⟩=>⟨I2.kIn,?_⟩) he hpl
     have sp:Pur X.K n g (vs++[]) H2 Q (fun _ _ _=>False):=⟨ds,d,hl ρ ds h1,by rw [List.append_nil]; exact rd,q',fun v H' s r=>k v H' (sm.trans (sm2.trans s)) r⟩
     exact acG c1 (hr.mono hkj) c4 .nil abR I2 r sp
noncomputable def QD (x:Str) (g:LP->Option Str) (ff:RP) (fr:Rho->Option (LP)):Rho->Option Str:=fun ρ=>(ff ρ).bind fun d=>if Jf x d=true then (fr ρ).bind g else none
theorem abv {k j n:Nat}{ps:List Str}{g:LP->Option Str}{x:Str}{ff:RP}{fr:Rho->Option (LP)} (hxe:X.ex=[]) (C:qC X.prog X.w X.K X.mg X.base x ps k n g) (hr:Room j X.A) (hkj:k<=j) (hf:PD X (.Subscript a i fp) ff) (ha:PAD X (e::es) fr) (hl:∀ ρ ds,fr ρ=some ds->ds.length=n)
  (he:starEach (e::es) X.env=(false,eval e X.env)::starEach es X.env:=by rfl)
  (hpl:(backTo pos (starEach es X.env)).any (·.1)=false:=by rfl):PDX X (.Call (.Subscript a i fp) (e::es) [] pos) (QD x g ff fr):=by
 with_unfolding_all
  intro s σ H ρ c I en q k'
  obtain ⟨f,fd,F,hm,hk,hb⟩:=C
  cases h0:ff ρ with
  | none=>simp [QD,h0] at q
  | some d0=>
   cases hF:Jf x d0 with
   | false=>simp [QD,h0,hF] at q
   | true=>
    have:=aaK hF
    subst this
    cases hd:fr ρ with
    | none=>simp [QD,h0,hF,hd] at q
    | some ds=>
     have q':g ds=some c:=by simpa [QD,h0,hF,hd] using q
     rw [aaL]
     refine wpAny_bind (thn (hf [] s σ H (fun v H1=>jn H H1/\Rep X.K H1 (fnD x) v) I ⟨ρ,_,en,h0,fun v H1 s1 r1=>⟨s1,r1⟩⟩) fun u s1 ⟨v,H1,I1,rv,sm0,re⟩=>?_)
     obtain ⟨ad,ev,ea⟩:=acf re
     subst ev
     cases rv
     have hff:=(PySem.W.mg_of I1.mod.kin I1.mod.glob ea).symm.trans hm
     cases hff
     refine PySem.W.callWith_K (h₀:=X.base) I1.ok.mod.kin hk (thn (ha pos [] s1 σ H1 (fun vs H2=>jn H1 H2/\Reps X.K H2 ds vs) I1 ⟨ρ,ds,en.mono sm0,hd,fun vs H2 s1 r1=>⟨s1,r1⟩⟩) fun us s2 ⟨vs,H2,I2,r,sm,rd⟩=>⟨I2.kIn,?_⟩) he hpl
     have hn:ds.length=n:=hl ρ ds hd
     have sp:af8 X.K X.mg n g vs H2 (fun _ _=>False) (fun cls _ H'=>X.mg c=some cls/\jn H2 H'):=⟨ds,c,hn,rd,q',fun C H' hC s2=>⟨hC,s2⟩⟩
     have hlu:(us++[]).length=ps.length:=by rw [List.append_nil,←r.length]; exact F.len _ _ _ _ sp
     have hbd:=hb s2 us I2.kIn hlu
     rw [List.append_nil] at hbd
     refine wpAny_call (codeAny_mono (F.run X.A X.stack s2 H2 ⟨us,[]⟩ us vs _ _ (hr.mono hkj) I2.env0 hbd r sp) fun rs s' hq=>?_)
     cases rs with
     | error ev=>
      obtain ⟨e0,C,H',rfl,os,bare,un,hok,xc,hC,sm2⟩:=hq
      have J':Inv X [] σ H' s':=I2.call' (ch:=[]) os un hok bare fun b z=>nomatch z
      exact k' _ _ ⟨e0,C,σ,H',rfl,hC,J',sm0.trans (sm.trans sm2),Xc.of hxe I2 xc⟩
     | ok fl=>
      cases fl with
      | ret u=>obtain ⟨v,H',_,_,_,_,_,z⟩:=hq; exact z.elim
      | next=>exact False.elim hq
      | brk=>exact False.elim hq
      | cont=>exact False.elim hq
end
section
variable {X:Cx}{own:Option Nat}{e a b c:Expr}{es:List Expr}{st:Stmt}{sts qp:List Stmt}{fa fb fc:RP}{F G:RO}{pos:Pos}
end
section
variable {X:Cx}{tg src:Expr}{pos pos':Pos}{own:Option Nat}
end
noncomputable def arc (ps:List (Int × Int)):PyData:= .tuple (ps.map alb)
noncomputable def aeT (h:Heap):List Value->List (Int × Int)->Prop
 | [],ps=>ps=[]
 | v::vs,ps=>∃ p r a,ps=p::r/\v= .ref a/\PairAt h (.ref a) p/\aeT h vs r
structure SetAt (h:Heap) (u:Value) (ps:List (Int × Int)):Prop where
 ex:∃ a o k vs,u= .ref a/\h.get? a=some o/\o.cls= .type "tuple"/\o.data= .seq (List.toArray vs) k/\aeT h vs ps
section
variable {X:Cx}
theorem agi {Kp:List (Addr × Obj)}{σ:St}{H:Hp}{s:Shared}{h':Heap} (I:Inv X Kp σ H s) (kp:∀ b o,b ≠ X.env.locals->s.heap.get? b=some o->h'.get? b=some o):∀ (ps:List (Int × Int)) (xs:List V) (us:List Value),Reps X.K H (ps.map alb) xs->jP xs us->aeT h' us ps
 | [],xs,us,r,v=>by
  cases (show xs=[] from r)
  cases v
  rfl
 | p::ps,xs,us,r,v=>by
  obtain ⟨x,q,rfl,e2,e3⟩:=r
  cases v with
  | cons y v=>
   obtain ⟨a,rfl,pp⟩:=anE I e2 y kp
   exact ⟨p,ps,a,rfl,rfl,pp,agi I kp ps _ _ e3 v⟩
theorem JW {Kp:List (Addr × Obj)}{σ:St}{H:Hp}{s:Shared}{v:V}{p:List (Int × Int)}{u:Value}{h':Heap} (I:Inv X Kp σ H s) (r:Rep X.K H (arc p) v) (rv:j8 v u) (kp:∀ b o,b ≠ X.env.locals->s.heap.get? b=some o->h'.get? b=some o):SetAt h' u p:=by
 obtain ⟨a2,ws,e2,e3,e4⟩:=r
 subst e2
 cases rv
 obtain ⟨its,r3,⟨o,eo,co,k,dk⟩,_⟩:=I.tuple e3
 exact ⟨a2,o,k,its,rfl,kp a2 o (alF I eo dk) eo,co,dk,agi I kp p ws its e4 r3⟩
end
set_option maxHeartbeats 4000000 in
section
variable {X:Cx}
end
section
variable {prog:Program}{w:World}{A:Around}{E:Value->SP0}{s:Shared}
end
section
variable {X:Cx}{a:Expr}{fa:RP}{pos p1 p2 p3:Pos}{j:Nat}
end
section
variable {X:Cx}{e b ev:Expr}{qp:List Stmt}{fe fk fv:RP}{G:RO}{pos pos2:Pos}
end
section
variable {X:Cx}
end
section
variable {X:Cx}{σ:St}{H:Hp}{s:Shared}{h':Heap}{e C:Addr}{E:Value->SP0}{A:Around}
end
section
variable {X:Cx}{e a b c:Expr}{es:List Expr}{pos:Pos}
end
section
variable {prog:Program}{w:World}{A:Around}{s:Shared}{R:Result->SP0}
end
section
variable {X:Cx}{tg src:Expr}
end
section
variable {X:Cx}{e:Expr}{st:Stmt}{qp:List Stmt}{fa:RP}{G F:RO}{pos:Pos}
end
section
variable {X:Cx}{e a b c:Expr}{fa fb fc:RP}{pos p2:Pos}
end
section
variable {X:Cx}{own:Option Nat}{e a b c tg src:Expr}{body:List Stmt}{F:RO}{pos:Pos}
variable {es:List Expr}
end
inductive Cell where
 | lst (ds:LP)
 | ins (x:Str) (fs:List (Str × PyData))
noncomputable abbrev jL:=Addr->Option Cell
noncomputable def zD (μ:jL) (a:Addr) (c:Cell):jL:=fun b=>if b=a then some c else μ b
theorem jY {μ:jL}{a:Addr}{c:Cell}:zD μ a c a=some c:=if_pos rfl
theorem j7 {μ:jL}{a b:Addr}{c:Cell} (h:b ≠ a):zD μ a c b=μ b:=if_neg h
noncomputable def QE (K:Fg) (H:Hp):List (Str × PyData)->List (Str × V)->Prop
 | [],vs=>vs=[]
 | (f,d)::fs,vs=>∃ v r,vs=(f,v)::r/\Rep K H d v/\QE K H fs r
noncomputable def anJ (f:Str) (d:PyData):List (Str × PyData)->List (Str × PyData)
 | []=>[(f,d)]
 | (k,x)::r=>if k=f then (k,d)::r else (k,x)::anJ f d r
section
variable {K:Fg}{H H':Hp}
theorem QE.monoA (s:jE H H'):∀ {fs:List (Str × PyData)}{vs:List (Str × V)},QE K H fs vs->QE K H' fs vs
 | [],_,h=>h
 | (f,d)::fs,_,⟨v,r,h1,h2,h3⟩=>⟨v,r,h1,Rep.monoA s d v h2,QE.monoA s h3⟩
theorem QE.length:∀ {fs:List (Str × PyData)}{vs:List (Str × V)},QE K H fs vs->vs.length=fs.length
 | [],_,h=>by cases h; rfl
 | (f,d)::fs,_,⟨v,r,h1,h2,h3⟩=>by subst h1; simp [QE.length h3]
theorem QE.look {f:Str}{d:PyData}:∀ {fs:List (Str × PyData)}{vs:List (Str × V)},QE K H fs vs->fs.lookup f=some d->∃ v,vs.lookup f=some v/\Rep K H d v
 | [],_,_,q=>by cases q
 | (k,x)::fs,_,⟨v,r,h1,h2,h3⟩,q=>by
  subst h1
  simp only [List.lookup] at q ⊢
  cases hb:f == k with
  | true=>rw [hb] at q; cases q; exact ⟨v,rfl,h2⟩
  | false=>rw [hb] at q; exact QE.look h3 q
theorem QE.lookN {f:Str}:∀ {fs:List (Str × PyData)}{vs:List (Str × V)},QE K H fs vs->fs.lookup f=none->vs.lookup f=none
 | [],_,h,q=>by cases h; rfl
 | (k,x)::fs,_,⟨v,r,h1,h2,h3⟩,q=>by
  subst h1
  simp only [List.lookup] at q ⊢
  cases hb:f == k with
  | true=>rw [hb] at q; cases q
  | false=>rw [hb] at q; exact QE.lookN h3 q
theorem QE.put {f:Str}{d:PyData}{v:V} (rv:Rep K H d v):∀ {fs:List (Str × PyData)}{vs:List (Str × V)},QE K H fs vs->QE K H (anJ f d fs) (QP f v vs)
 | [],_,h=>by cases h; exact ⟨v,[],rfl,rv,rfl⟩
 | (k,x)::fs,_,⟨w,r,h1,h2,h3⟩=>by
  subst h1
  show QE K H (if k=f then (k,d)::fs else (k,x)::anJ f d fs) (if k=f then (k,v)::r else (k,w)::QP f v r)
  by_cases hk:k=f
  ·rw [if_pos hk,if_pos hk]; exact ⟨v,r,rfl,rv,h3⟩
  ·rw [if_neg hk,if_neg hk]; exact ⟨w,_,rfl,h2,QE.put rv h3⟩
end
noncomputable def Zj (K:Fg) (H:Hp) (a:Addr):Cell->Prop
 | .lst ds=>∃ xs,H a=some (qt a xs)/\Reps K H ds xs
 | .ins x fs=>∃ C dx vs,PySem.W.nsIn K mainGlobals x=some (some (.ref C))/\H a=some (.ins C dx vs)/\QE K H fs vs
noncomputable def qy (K:Fg) (H:Hp) (μ:jL):Prop:=∀ a c,μ a=some c->Zj K H a c
section
variable {K:Fg}{H H':Hp}{μ:jL}{a:Addr}{c:Cell}{ρ:Rho}{σ:St}
theorem EnvR.monoA (e:EnvR K H ρ σ) (h:jE H H'):EnvR K H' ρ σ:=⟨e.len,fun i d q=>let ⟨v,e1,e2⟩:=e.at' i d q; ⟨v,e1,Rep.monoA h d v e2⟩⟩
theorem Zj.to (h:Zj K H a c) (s:jE H H') (e:H' a=H a):Zj K H' a c:=by
 cases c with
 | lst ds=>obtain ⟨xs,h1,h2⟩:=h; exact ⟨xs,e.trans h1,Reps.monoA s _ _ h2⟩
 | ins x fs=>obtain ⟨C,dx,vs,h1,h2,h3⟩:=h; exact ⟨C,dx,vs,h1,e.trans h2,h3.monoA s⟩
theorem Zj.there (h:Zj K H a c):∃ o,H a=some o/\akS o=false:=by
 cases c with
 | lst ds=>obtain ⟨xs,h1,h2⟩:=h; exact ⟨_,h1,rfl⟩
 | ins x fs=>obtain ⟨C,dx,vs,h1,h2,h3⟩:=h; exact ⟨_,h2,rfl⟩
theorem qy.mono (cs:qy K H μ) (s:jn H H'):qy K H' μ:=fun a c h=>by
 obtain ⟨o,h1,_⟩:=(cs a c h).there
 exact (cs a c h).to (jn.a s) ((s _ _ h1).trans h1.symm)
theorem qy.free (cs:qy K H μ) (h:H a=none):μ a=none:=by
 cases q:μ a with
 | none=>rfl
 | some c=>obtain ⟨o,h1,_⟩:=(cs a c q).there; rw [h] at h1; cases h1
theorem qy.put (cs:qy K H μ) (s:jE H H') (k:∀ b,b ≠ a->∀ o,H b=some o->H' b=some o) (new:Zj K H' a c):qy K H' (zD μ a c):=fun b d h=>by
 by_cases hb:b=a
 ·subst hb; rw [jY] at h; cases h; exact new
 ·rw [j7 hb] at h
  obtain ⟨o,h1,_⟩:=(cs b d h).there
  exact (cs b d h).to s ((k b hb o h1).trans h1.symm)
theorem qy.upd {o:HO} (cs:qy K H μ) (s:jE H (L2.upd H a o)) (new:Zj K (L2.upd H a o) a c):qy K (L2.upd H a o) (zD μ a c):=
 cs.put s (fun b hb o h=>by rw [jt hb]; exact h) new
theorem jE.upd {o u:HO} (h:H a=some u) (hu:akS u=false):jE H (L2.upd H a o):=fun b x q d=>by
 have:b ≠ a:=fun z=>by subst z; rw [h] at q; cases q; rw [hu] at d; cases d
 rw [jt this]; exact q
end
inductive Res (α:Type) where
 | ok (d:α) | er (c:Str)
noncomputable abbrev TR (α:Type):=Rho->jL->(Res α->jL->Prop)->Prop
inductive OutC where
 | nx (ρ:Rho) | rt (d:PyData) | bk (ρ:Rho) | ct (ρ:Rho) | er (c:Str)
noncomputable abbrev TRS:=Rho->jL->(OutC->jL->Prop)->Prop
noncomputable def aeU (X:Cx) (H:Hp) (μ:jL) (c:Str) (ev:Value) (s':Shared):Prop:=∃ e C σ' H',ev= .ref e/\X.mg c=some (.ref C)/\Inv X [] σ' H' s'/\jE H H'/\qy X.K H' μ/\Xc X H' s'.heap e C
theorem aeU.mono {X:Cx}{H H1:Hp}{μ:jL}{c:Str}{ev:Value}{s':Shared} (s:jE H H1) (h:aeU X H1 μ c ev s'):aeU X H μ c ev s':=by
 obtain ⟨e,C,σ',H',h1,h2,h3,h4,h5⟩:=h
 exact ⟨e,C,σ',H',h1,h2,h3,s.trans h4,h5⟩
noncomputable def Jg {α:Type} (X:Cx) (H:Hp) (P:α->Hp->Prop):Res α->jL->Prop
 | .ok d,μ=>∀ H',jE H H'->qy X.K H' μ->P d H'
 | .er c,μ=>∀ ev s',aeU X H μ c ev s'->X.xe ev s'
noncomputable def Qf (X:Cx) (H:Hp) (D:Ends):OutC->jL->Prop
 | .nx ρ,μ=>∀ σ H',jE H H'->EnvR X.K H' ρ σ->qy X.K H' μ->D.nx σ H'
 | .rt d,μ=>∀ v H',jE H H'->Rep X.K H' d v->qy X.K H' μ->D.rt v H'
 | .bk ρ,μ=>∀ σ H',jE H H'->EnvR X.K H' ρ σ->qy X.K H' μ->D.bk σ H'
 | .ct ρ,μ=>∀ σ H',jE H H'->EnvR X.K H' ρ σ->qy X.K H' μ->D.ct σ H'
 | .er c,μ=>∀ ev s',aeU X H μ c ev s'->X.xe ev s'
section
variable {X:Cx}{α β:Type}{H H1:Hp}{σ:St}
theorem Jg.mono {P:α->Hp->Prop}{o:Res α}{μ:jL} (h:Jg X H P o μ) (s:jE H H1):Jg X H1 P o μ:=by
 cases o with
 | ok d=>exact fun H' s1 c=>h H' (s.trans s1) c
 | er c=>exact fun ev s' t=>h ev s' (t.mono s)
theorem Qf.mono {D:Ends}{o:OutC}{μ:jL} (h:Qf X H D o μ) (s:jE H H1):Qf X H1 D o μ:=by
 cases o with
 | nx ρ=>exact fun σ H' s1 e c=>h σ H' (s.trans s1) e c
 | rt d=>exact fun v H' s1 e c=>h v H' (s.trans s1) e c
 | bk ρ=>exact fun σ H' s1 e c=>h σ H' (s.trans s1) e c
 | ct ρ=>exact fun σ H' s1 e c=>h σ H' (s.trans s1) e c
 | er c=>exact fun ev s' t=>h ev s' (t.mono s)
noncomputable def AtC (X:Cx) (σ:St) (H:Hp) (T:TR α) (P:α->Hp->Prop):Prop:=∃ ρ μ R,EnvR X.K H ρ σ/\qy X.K H μ/\T ρ μ R/\∀ o μ',R o μ'->Jg X H P o μ'
noncomputable def AtS (X:Cx) (σ:St) (H:Hp) (T:TRS) (D:Ends):Prop:=∃ ρ μ R,EnvR X.K H ρ σ/\qy X.K H μ/\T ρ μ R/\∀ o μ',R o μ'->Qf X H D o μ'
noncomputable def bindC (T:TR α) (k:α->TR β):TR β:=fun ρ μ R=>T ρ μ fun o μ'=>match o with
 | .ok d=>k d ρ μ' R
 | .er c=>R (.er c) μ'
noncomputable def qW (T:TR α) (k:α->TRS):TRS:=fun ρ μ R=>T ρ μ fun o μ'=>match o with
 | .ok d=>k d ρ μ' R
 | .er c=>R (.er c) μ'
noncomputable def qF (f:Rho->Option α):TR α:=fun ρ μ R=>∃ d,f ρ=some d/\R (.ok d) μ
noncomputable def zK (o:Option α):TR α:=fun _ μ R=>∃ d,o=some d/\R (.ok d) μ
theorem AtC.bind {T:TR α}{k:α->TR β}{P:β->Hp->Prop} (h:AtC X σ H (bindC T k) P):AtC X σ H T fun d H1=>jE H H1/\AtC X σ H1 (k d) P:=by
 obtain ⟨ρ,μ,R,en,cs,t,kk⟩:=h
 refine ⟨ρ,μ,_,en,cs,t,fun o μ1 r=>?_⟩
 cases o with
 | ok d=>exact fun H1 s1 cs1=>⟨s1,ρ,μ1,R,en.monoA s1,cs1,r,fun o μ' q=>(kk o μ' q).mono s1⟩
 | er c=>exact kk (.er c) μ1 r
theorem AtS.bind {T:TR α}{k:α->TRS}{D:Ends} (h:AtS X σ H (qW T k) D):AtC X σ H T fun d H1=>jE H H1/\AtS X σ H1 (k d) D:=by
 obtain ⟨ρ,μ,R,en,cs,t,kk⟩:=h
 refine ⟨ρ,μ,_,en,cs,t,fun o μ1 r=>?_⟩
 cases o with
 | ok d=>exact fun H1 s1 cs1=>⟨s1,ρ,μ1,R,en.monoA s1,cs1,r,fun o μ' q=>(kk o μ' q).mono s1⟩
 | er c=>exact kk (.er c) μ1 r
theorem AtC.imp {T:TR α}{P P':α->Hp->Prop} (h:AtC X σ H T P) (hp:∀ d H1,jE H H1->P d H1->P' d H1):AtC X σ H T P':=by
 obtain ⟨ρ,μ,R,en,cs,t,kk⟩:=h
 refine ⟨ρ,μ,R,en,cs,t,fun o μ1 r=>?_⟩
 have q:=kk o μ1 r
 cases o with
 | ok d=>exact fun H1 s1 c1=>hp d H1 s1 (q H1 s1 c1)
 | er c=>exact q
theorem AtC.pure {f:Rho->Option α}{P:α->Hp->Prop} (h:AtC X σ H (qF f) P):∃ ρ d,EnvR X.K H ρ σ/\f ρ=some d/\∀ H',jn H H'->P d H':=by
 obtain ⟨ρ,μ,R,en,cs,⟨d,hf,hR⟩,kk⟩:=h
 exact ⟨ρ,d,en,hf,fun H' s=>kk _ _ hR H' (jn.a s) (cs.mono s)⟩
theorem AtC.ret {o:Option α}{P:α->Hp->Prop} (h:AtC X σ H (zK o) P):∃ d,o=some d/\∀ H',jn H H'->P d H':=by
 obtain ⟨ρ,μ,R,en,cs,⟨d,hf,hR⟩,kk⟩:=h
 exact ⟨d,hf,fun H' s=>kk _ _ hR H' (jn.a s) (cs.mono s)⟩
end
noncomputable def tC (X:Cx) (T:TR PyData):TE:=fun σ H Q=>AtC X σ H T fun d H'=>∀ v,Rep X.K H' d v->Q v H'
noncomputable def tCT (X:Cx) (T:TR Bool):TT:=fun σ H Q=>AtC X σ H T Q
noncomputable def tCA (X:Cx) (T:TR (LP)):TA:=fun σ H Q=>AtC X σ H T fun ds H'=>∀ vs,Reps X.K H' ds vs->Q vs H'
noncomputable def tCS (X:Cx) (T:TRS):TS:=fun D σ H=>AtS X σ H T D
@[irreducible] noncomputable def PEC (X:Cx) (e:Expr) (T:TR PyData):Prop:=PE X e (tC X T)
@[irreducible] noncomputable def PTC (X:Cx) (e:Expr) (T:TR Bool):Prop:=PT X e (tCT X T)
@[irreducible] noncomputable def PWC (X:Cx) (e:Expr) (T:TR Bool):Prop:=PW X e (tCT X T)
@[irreducible] noncomputable def PAC (X:Cx) (es:List Expr) (T:TR (LP)):Prop:=PA X es (tCA X T)
@[irreducible] noncomputable def PSC (X:Cx) (st:Stmt) (T:TRS):Prop:=PS X st (tCS X T)
@[irreducible] noncomputable def ab5 (X:Cx) (sts:List Stmt) (T:TRS):Prop:=PSs X sts (tCS X T)
section
variable {X:Cx}{e a b c:Expr}{es:List Expr}{st:Stmt}{sts qp:List Stmt}{fa:RP}{Ta Tb To:TR PyData}{Tt Tu:TR Bool}{F:RO}{S S':TRS}{pos:Pos}
theorem jx (h:PD X e fa):PEC X e (qF fa):=by
 with_unfolding_all
  exact PE.imp h fun σ H Q h=>let ⟨ρ,d,en,hf,k⟩:=h.pure; ⟨ρ,d,en,hf,fun v H' s r=>k H' s v r⟩
theorem abw {tc:Rho->Option Bool} (h:PTD X e tc):PTC X e (qF tc):=by
 with_unfolding_all
  exact PT.imp h fun σ H Q h=>let ⟨ρ,d,en,hf,k⟩:=h.pure; ⟨ρ,d,en,hf,fun H' s=>k H' s⟩
theorem qm:PAC X [] (zK (some [])):=by
 with_unfolding_all
  exact PA.imp zw fun σ H Q h=>by
   obtain ⟨d,hd,k⟩:=AtC.ret h
   cases hd
   exact k H (jn.refl H) [] rfl
noncomputable def zQ (Ta:TR PyData) (Tr:TR (LP)):TR (LP):=bindC Ta fun d=>bindC Tr fun ds=>zK (some (d::ds))
theorem jF {Tr:TR (LP)} (ha:PEC X e Ta) (hr:PAC X es Tr) (hs:starEach (e::es) X.env=(false,eval e X.env)::starEach es X.env:=by rfl):PAC X (e::es) (zQ Ta Tr):=by
 with_unfolding_all
  exact PA.imp (qv ha hr hs) fun σ H Q h=>(AtC.bind h).imp fun d H1 _ ⟨s1,h1⟩ x rx=>h1.bind.imp fun ds H2 _ ⟨s2,h2⟩ xs rxs=>by
   obtain ⟨d',hd,k⟩:=h2.ret
   cases hd
   exact k H2 (jn.refl _) (x::xs) ⟨x,xs,rfl,Rep.monoA s2 _ _ rx,rxs⟩
noncomputable def opC (g:PyData->PyData->OP) (Ta Tb:TR PyData):TR PyData:=bindC Ta fun p=>bindC Tb fun q=>zK (g p q)
theorem ard {g:PyData->PyData->OP}{r:R2} (hr:∀ p q d x y H Q,g p q=some d->Rep X.K H p x->Rep X.K H q y->(∀ v H',jn H H'->Rep X.K H' d v->Q v H')->r x y H Q)
  {σ:St} {H:Hp} {Q:VK} (h:tC X (opC g Ta Tb) σ H Q):tOp r (tC X Ta) (tC X Tb) σ H Q:=
 (AtC.bind h).imp fun p H1 _ ⟨s1,h1⟩ x rx=>h1.bind.imp fun q H2 _ ⟨s2,h2⟩ y ry=>by
  obtain ⟨d,hd,k⟩:=h2.ret
  exact hr p q d x y H2 Q hd (Rep.monoA s2 _ _ rx) ry fun v H' s rv=>k H' s v rv
noncomputable def ajN (T:TR PyData):TR Bool:=bindC T fun d=>zK (asB d)
theorem are {σ:St}{H:Hp}{Q:Bool->Hp->Prop} (h:tCT X (ajN Ta) σ H Q):tC X Ta σ H fun x H'=>∃ k,x= .bl k/\Q k H':=
 (AtC.bind h).imp fun d H1 _ ⟨s1,h1⟩ x rx=>by
  obtain ⟨b,hb,k⟩:=h1.ret
  cases JQ hb
  exact ⟨b,rx,k H1 (jn.refl _)⟩
theorem Qg {op:CmpOp}{g:PyData->PyData->OP} (ho:OpD X (compareOp op) g) (ha:PEC X a Ta) (hb:PEC X b Tb) (hm:behindInMarks op b=false:=by first | exact ahe _ | with_unfolding_all rfl):PTC X (.Compare a [op] [b] pos) (ajN (opC g Ta Tb)):=by
 with_unfolding_all
  obtain ⟨r,h1,h2⟩:=ho
  exact PT.imp (aig h1 ha hb hm) fun σ H Q h=>ard h2 (are h)
noncomputable def apG (T:TR Bool):TR Bool:=bindC T fun b=>zK (some (!b))
theorem anK (h:PTC X a Tt):PTC X (.UnaryOp .Not a pos) (apG Tt):=by
 with_unfolding_all
  exact PT.imp (akz h) fun σ H Q h=>(AtC.bind h).imp fun b H1 _ ⟨s1,h1⟩=>by
   obtain ⟨d,hd,k⟩:=h1.ret
   cases hd
   exact k H1 (jn.refl _)
noncomputable def orC (T U:TR Bool):TR Bool:=bindC T fun b=>if b=true then zK (some true) else U
variable {er:List Expr}
theorem aiC (ha:PTC X a Tt):PWC X (.BoolOp .Or [a] pos) Tt:=by
 with_unfolding_all exact (aky ha)
theorem aeV (ha:PTC X a Tt) (hb:PWC X (.BoolOp .Or (b::er) pos) Tu):PWC X (.BoolOp .Or (a::b::er) pos) (orC Tt Tu):=by
 with_unfolding_all
  exact PW.imp (aoz ha hb) fun σ H Q h=>(AtC.bind h).imp fun b H1 _ ⟨s1,h1⟩=>by
   cases b with
   | true=>
    rw [if_pos rfl] at h1 ⊢
    obtain ⟨d,hd,k⟩:=h1.ret
    cases hd
    exact k H1 (jn.refl _)
   | false=>
    rw [if_neg Bool.false_ne_true] at h1 ⊢
    exact h1
theorem agj (h:PWC X e Tt):PTC X e Tt:=by
 with_unfolding_all exact (PW.pt h)
theorem apH {Tc:TR Bool} (hc:PTC X c Tc) (ha:PEC X a Ta) (hb:PEC X b Tb):PEC X (.IfExp c a b pos) (bindC Tc fun x=>if x=true then Ta else Tb):=by
 with_unfolding_all
  exact PE.imp (akA hc ha hb) fun σ H Q h=>(AtC.bind h).imp fun x H1 _ ⟨s1,h1⟩=>by
   cases x with
   | true=>exact h1
   | false=>exact h1
noncomputable def qD (S S':TRS):TRS:=fun ρ μ R=>S ρ μ fun o μ'=>match o with
 | .nx ρ'=>S' ρ' μ' R
 | o=>R o μ'
noncomputable def agk:TRS:=fun ρ μ R=>R (.nx ρ) μ
theorem jH:ab5 X [] agk:=by
 with_unfolding_all
  exact PSs.imp aeq fun D σ H ⟨ρ,μ,R,en,cs,t,k⟩=>k _ _ t σ H (jE.refl _) en cs
theorem jq (h1:PSC X st S) (h2:ab5 X qp S'):ab5 X (st::qp) (qD S S'):=by
 with_unfolding_all
  refine PSs.imp (Qz h1 h2) fun D σ H ⟨ρ,μ,R,en,cs,t,k⟩=>⟨ρ,μ,_,en,cs,t,fun o μ' r=>?_⟩
  cases o with
  | nx ρ'=>exact fun σ' H' s e c=>⟨ρ',μ',R,e,c,r,fun o μ2 q=>(k o μ2 q).mono s⟩
  | rt d=>exact k (.rt d) μ' r
  | bk d=>exact k (.bk d) μ' r
  | ct d=>exact k (.ct d) μ' r
  | er d=>exact k (.er d) μ' r
noncomputable def aoG:Out->OutC
 | .nx ρ=> .nx ρ
 | .rt d=> .rt d
 | .bk ρ=> .bk ρ
 | .ct ρ=> .ct ρ
noncomputable def alI (F:RO):TRS:=fun ρ μ R=>∃ o,F ρ=some o/\R (aoG o) μ
theorem ahG {H:Hp}{D:Ends}{o:Out}{μ:jL} (cs:qy X.K H μ) (h:Qf X H D (aoG o) μ):afT X.K D H o:=by
 cases o with
 | nx ρ=>exact fun σ H' s e=>h σ H' (jn.a s) e (cs.mono s)
 | rt d=>exact fun v H' s e=>h v H' (jn.a s) e (cs.mono s)
 | bk ρ=>exact fun σ H' s e=>h σ H' (jn.a s) e (cs.mono s)
 | ct ρ=>exact fun σ H' s e=>h σ H' (jn.a s) e (cs.mono s)
theorem zZ (h:PSD X st F):PSC X st (alI F):=by
 with_unfolding_all
  exact PS.imp h fun D σ H ⟨ρ,μ,R,en,cs,⟨o,hF,hR⟩,k⟩=>⟨ρ,o,en,hF,ahG cs (k _ _ hR)⟩
noncomputable def apI (fx:Rho->Option Str):TRS:=fun ρ μ R=>∃ c,fx ρ=some c/\R (.er c) μ
theorem arf {H:Hp}{μ:jL}{c:Str}{ev:Value}{s':Shared} (cs:qy X.K H μ) (h:Thr X H c ev s'):aeU X H μ c ev s':=by
 obtain ⟨e,C,σ',H',h1,h2,h3,h4,h5⟩:=h
 exact ⟨e,C,σ',H',h1,h2,h3,jn.a h4,cs.mono h4,h5⟩
theorem ajO {fx:Rho->Option Str} (h:PSX X st fx):PSC X st (apI fx):=by
 with_unfolding_all
  intro Kp s σ H D I ⟨ρ,μ,R,en,cs,⟨c,hc,hR⟩,k⟩
  exact wpAny_mono (h s σ H ρ c (I.pins_of fun p hp=>nomatch hp) en hc fun ev s' t=>k _ _ hR ev s' (arf cs t)) (fun _ _ z=>z.elim) fun _ _ z=>z
noncomputable def arh (i:Nat) (d:PyData):TRS:=fun ρ μ R=>R (.nx (ρ.set i (some d))) μ
theorem acg (i:Nat) {x:Str}{pos':Pos} (hN:X.N.Nodup) (he:PEC X e Ta) (hi:X.N[i]?=some x:=by rfl) (hx:Loc X.env.scope x:=by first | exact Or.inl rfl | exact Or.inr rfl) (hs:swapsWith e (some (.Name x pos')) pos.line X.env=pure false:=by rfl)
  (hf:X.fn x=true ∨ X.env.scope.names.lookup x=some .local:=by first | exact .inl rfl | exact .inr rfl | assumption):PSC X (.Assign [.Name x pos'] e pos) (qW Ta (arh i)):=by
 with_unfolding_all
  exact PS.imp (abb hN hi hx he hs hf) fun D σ H h=>(AtS.bind h).imp fun d H1 _ ⟨s1,ρ,μ,R,en,cs,t,k⟩ v rv=>k _ _ t _ H1 (jE.refl _) (en.set rv) cs
noncomputable def anL (_:PyData):TRS:=fun ρ μ R=>R (.nx ρ) μ
theorem ac2 (h:PEC X e Ta) (hs:swapsWith e none pos.line X.env=pure false:=by rfl):PSC X (.Expr e pos) (qW Ta anL):=by
 with_unfolding_all
  exact PS.imp (ab9 h hs) fun D σ H h=>(AtS.bind h).imp fun d H1 _ ⟨s1,ρ,μ,R,en,cs,t,k⟩ v rv=>k _ _ t σ H1 (jE.refl _) en cs
noncomputable def rtC (d:PyData):TRS:=fun _ μ R=>R (.rt d) μ
theorem zh (h:PEC X e Ta):PSC X (.Return (some e) pos) (qW Ta rtC):=by
 with_unfolding_all
  exact PS.imp (aes h) fun D σ H h=>(AtS.bind h).imp fun d H1 _ ⟨s1,ρ,μ,R,en,cs,t,k⟩ v rv=>k _ _ t v H1 (jE.refl _) rv cs
noncomputable def ifC (T:TR Bool) (S S':TRS):TRS:=qW T fun b=>if b=true then S else S'
theorem JX {l r:List Stmt} (hc:PTC X c Tt) (hl:ab5 X l S) (hr:ab5 X r S'):PSC X (.If c l r pos) (ifC Tt S S'):=by
 with_unfolding_all
  exact PS.imp (aoA hc hl hr) fun D σ H h=>(AtS.bind h).imp fun b H1 _ ⟨s1,h1⟩=>by
   cases b with
   | true=>exact h1
   | false=>exact h1
end
theorem alJ {a b:Addr} (h:jz a=jz b):a=b:=by
 have:(a:Int)=(b:Int):=by simpa [jz] using h
 exact Int.ofNat.inj this
noncomputable def Jt (K:Fg) (x f:Str):Prop:=∀ C,PySem.W.nsIn K mainGlobals x=some (some (.ref C))->Cls K C/\aad K C f
section
variable {X:Cx}{e a b c o value:Expr}{es:List Expr}{st:Stmt}{Ta Tb To Tv:TR PyData}{Tr:TR (LP)}{pos pos' apos:Pos}{x f m:Str}
noncomputable def Zk (x f:Str) (d:PyData):TR PyData:=fun _ μ R=>∃ a fs v,d=jz a/\μ a=some (.ins x fs)/\fs.lookup f=some v/\R (.ok v) μ
theorem qS (hC:Jt X.K x f) (h:PEC X e To) (hb:attributeBase e f X.env (eval e X.env)=eval e X.env:=by rfl):PEC X (.Attribute e f pos) (bindC To (Zk x f)):=by
 with_unfolding_all
  exact PE.imp (apd h hb) fun σ H Q h=>(AtC.bind h).imp fun d H1 _ ⟨s1,ρ,μ,R,en,cs,⟨a,fs,v,hd,hm,hl,hR⟩,kk⟩ y ry=>by
   subst hd
   cases Rep.celOut ry
   obtain ⟨C,dx,vs,h1,h2,h3⟩:=cs a _ hm
   obtain ⟨w,h4,h5⟩:=h3.look hl
   exact ⟨a,C,dx,vs,w,rfl,h2,(hC C h1).1,(hC C h1).2,h4,kk _ _ hR H1 (jE.refl _) cs w h5⟩
noncomputable def alK (x f:Str) (d od:PyData):TRS:=fun ρ μ R=>∃ a fs,od=jz a/\μ a=some (.ins x fs)/\fs.length<1000/\R (.nx ρ) (zD μ a (.ins x (anJ f d fs)))
theorem aaM (hC:Jt X.K x f) (ho:PEC X o To) (hv:PEC X value Tv) (hs:swapsWith value (some (.Attribute o f pos')) pos.line X.env=pure false:=by rfl):PSC X (.Assign [.Attribute o f pos'] value pos) (qW Tv fun d=>qW To (alK x f d)):=by
 with_unfolding_all
  exact PS.imp (ape ho hv hs) fun D σ H h=>(AtS.bind h).imp fun d H1 _ ⟨s1,h1⟩ y ry=>h1.bind.imp fun od H2 _ ⟨s2,ρ,μ,R,en,cs,⟨a,fs,hd,hm,hl,hR⟩,kk⟩ z rz=>by
   subst hd
   cases Rep.celOut rz
   obtain ⟨C,dx,vs,h1,h2,h3⟩:=cs a _ hm
   have sA:jE H2 (upd H2 a (.ins C dx (QP f y vs))):=jE.upd h2 rfl
   exact ⟨a,C,dx,vs,rfl,h2,(hC C h1).1,(hC C h1).2,by rw [h3.length]; exact hl,kk _ _ hR σ _ sA (en.monoA sA) (cs.upd sA ⟨C,dx,_,h1,jp,(h3.monoA sA).put (Rep.monoA (s2.trans sA) _ _ ry)⟩)⟩
noncomputable abbrev GC3:=LP->jL->(Res PyData->jL->Prop)->Prop
noncomputable def agl (K:Fg) (mg:SV) (n:Nat) (g:GC3):Sp:=fun vs H Q E=>∃ ds μ R,ds.length=n/\Reps K H ds vs/\qy K H μ/\g ds μ R/\(∀ d μ',R (.ok d) μ'->∀ v H',jE H H'->Rep K H' d v->qy K H' μ'->Q v H')/\
 ∀ c μ',R (.er c) μ'->∀ C H',mg c=some (.ref C)->jE H H'->qy K H' μ'->E (.ref C) none H'
noncomputable def Jj (P:Program) (w:World) (K:Fg) (mg:SV) (base:Heap) (x m:Str) (ps:List Str) (k n:Nat) (g:GC3):Prop:=
 ∃ (C f:Addr) (fd:FuncData),PySem.W.nsIn K mainGlobals x=some (some (.ref C))/\Cls K C/\Meth K C m f/\FnOk P w K mg base (CXt P w) k f fd ps (agl K mg n g)/\JA K fd ps []
noncomputable def alL (P:Program) (w:World) (K:Fg) (mg:SV) (base:Heap) (x:Str) (ps:List Str) (k n:Nat) (g:GC3):Prop:=
 ∃ (C f:Addr) (fd:FuncData),PySem.W.nsIn K mainGlobals x=some (some (.ref C))/\mg x=some (.ref C)/\Mk K C f/\FnOk P w K mg base (CXt P w) k f fd ps (agl K mg n g)/\JA K fd ps []
end
section
variable {X:Cx}{e a b c o value:Expr}{es:List Expr}{st:Stmt}{Ta Tb To Tv:TR PyData}{Tr:TR (LP)}{pos pos' apos:Pos}{x f m:Str}
theorem aoH {Kp:List (Addr × Obj)}{σ:St}{H:Hp}{s:Shared}{Q:VK}{us:List Value}{vs:List V}{k n:Nat}{f:Addr}{fd:FuncData}{ps:List Str}{g:GC3}{ds:LP}{μ:jL}{R:Res PyData->jL->Prop} (hxe:X.ex=[])
  (F:FnOk X.prog X.w X.K X.mg X.base (CXt X.prog X.w) k f fd ps (agl X.K X.mg n g)) (hr:Room k X.A) (hb:JA X.K fd ps []) (I:Inv X Kp σ H s) (r:jP vs us) (rd:Reps X.K H ds vs) (cs:qy X.K H μ) (hn:ds.length=n) (hg:g ds μ R)
  (kk:∀ o μ',R o μ'->Jg X H (fun d H'=>∀ v,Rep X.K H' d v->Q v H') o μ'):wpAny (model X.prog X.w) X.A (call (.ref f) us) (EP X Kp σ Q) X.xe s:=by
 have sp:agl X.K X.mg n g vs H Q (fun cls _ H'=>∃ c μ',X.mg c=some cls/\R (.er c) μ'/\jE H H'/\qy X.K H' μ'):=
  ⟨ds,μ,R,hn,rd,cs,hg,fun d μ' q v H' sA rv c=>(kk (.ok d) μ' q:Jg X H (fun d H'=>∀ v,Rep X.K H' d v->Q v H') (.ok d) μ') H' sA c v rv,fun c μ' q C H' hC sA c'=>⟨c,μ',hC,q,sA,c'⟩⟩
 have hlu:(us++[]).length=ps.length:=by rw [List.append_nil,←r.length]; exact F.len _ _ _ _ sp
 have hbd:=hb s us I.kIn hlu
 rw [List.append_nil] at hbd
 refine wpAny_call (codeAny_mono (F.run X.A X.stack s H ⟨us,[]⟩ us vs _ _ hr I.env0 hbd r sp) fun rs s' hq=>?_)
 cases rs with
 | error ev=>
  obtain ⟨e0,C,H',rfl,os,bare,un,hok,xc,c,μ',hC,hR,sA,c'⟩:=hq
  have J':Inv X Kp σ H' s':=I.call' (ch:=[]) os un hok bare fun b z=>nomatch z
  have J0:Inv X [] σ H' s':=J'.pins_of fun p hp=>nomatch hp
  have k1:Jg X H (fun d H'=>∀ v,Rep X.K H' d v->Q v H') (.er c) μ':=kk (.er c) μ' hR
  have x1:=Xc.of hxe I xc
  have t1:aeU X H μ' c (.ref e0) s':=⟨e0,C,σ,H',rfl,hC,J0,sA,c',x1⟩
  exact k1 (.ref e0) s' t1
 | ok fl=>
  cases fl with
  | ret u=>exact I.after hq
  | next=>exact False.elim hq
  | brk=>exact False.elim hq
  | cont=>exact False.elim hq
end
section
variable {X:Cx}{e a b c o value:Expr}{es:List Expr}{st:Stmt}{Ta Tb To Tv:TR PyData}{Tr:TR (LP)}{pos pos' apos:Pos}{x f m:Str}
noncomputable def JY (g:GC3) (n:Nat) (ds:LP):TR PyData:=fun _ μ R=>ds.length=n/\g ds μ R
end
section
variable {X:Cx}{e a b c o value:Expr}{es:List Expr}{st:Stmt}{Ta Tb To Tv:TR PyData}{Tr:TR (LP)}{pos pos' apos:Pos}{x f m:Str}
noncomputable def QT (x m:Str) (g:GC3) (n:Nat) (Tr:TR (LP)) (od:PyData):TR PyData:=fun ρ μ R=>(∃ a fs,od=jz a/\μ a=some (.ins x fs)/\fs.lookup m=none)/\bindC Tr (fun ds=>JY g n (od::ds)) ρ μ R
theorem Ju {k j n:Nat}{ps:List Str}{g:GC3}{pl:Sem Bool} (hxe:X.ex=[]) (C:Jj X.prog X.w X.K X.mg X.base x m ps k n g) (hr:Room j X.A) (hkj:k<=j) (ho:PEC X o To) (ha:PAC X (e::es) Tr)
  (hst:starEach (e::es) X.env=(false,eval e X.env)::starEach es X.env:=by rfl) (hpl:(backTo pos (starEach es X.env)).any (·.1)=false:=by rfl)
  (ht:eval (.Call (.Attribute o m apos) (e::es) [] pos) X.env=(do
   let ov ←eval o X.env
   standAt apos.atName
   let (f,first) ←holding [ov] (getMethod ov m pl)
   callWith pos f first (backTo pos (starEach (e::es) X.env)) (backToKw pos (keywordEach [] X.env))):=by rfl):
  PEC X (.Call (.Attribute o m apos) (e::es) [] pos) (bindC To (QT x m g n Tr)):=by
 with_unfolding_all
  intro Kp s σ H Q I h
  obtain ⟨C,f,fd,hC,hcls,hmeth,F,hb⟩:=C
  refine PySem.W.methodCall_KW (pl:=pl) (thn (ho Kp s σ H (fun y H1=>∃ od,Rep X.K H1 od y/\AtC X σ H1 (QT x m g n Tr od) fun d H'=>∀ v,Rep X.K H' d v->Q v H') I ((AtC.bind h).imp fun od H1 _ ⟨s1,h1⟩ y ry=>⟨od,ry,h1⟩)) fun u s1 ⟨y,H1,I1,ry,od,rod,ρ,μ,R,en,cs,⟨⟨a,fs,hd,hm,hl⟩,t⟩,kk⟩=>?_) ht
  subst hd
  cases Rep.celOut rod
  obtain rfl:u=Value.ref a:=ry
  obtain ⟨C',dx,vs,h1,h2,h3⟩:=cs a _ hm
  rw [hC] at h1; cases h1
  refine acF I1 h2 hcls hmeth (h3.lookN hl) ?_
  refine PySem.W.callWith_K (first:=[.ref a]) (h₀:=X.base) I.ok.mod.kin hmeth.kp (thn (ha pos Kp s1 σ H1 (fun ws H2=>∃ ds,Reps X.K H2 ds ws/\AtC X σ H2 (JY g n (jz a::ds)) fun d H'=>∀ v,Rep X.K H' d v->Q v H') I1 ((AtC.bind (show AtC X σ H1 (bindC Tr fun ds=>JY g n (jz a::ds)) _ from ⟨ρ,μ,R,en,cs,t,kk⟩)).imp fun ds H2 _ ⟨s2,h2⟩ ws rw=>⟨ds,rw,h2⟩)) fun us s2 ⟨ws,H2,I2,r,ds,rd,q⟩=>⟨I2.kIn,?_⟩) hst hpl
  obtain ⟨ρ2,μ2,R2,en2,cs2,⟨hn,hG⟩,kk2⟩:=q
  exact aoH (us:= .ref a::us) (vs:= .ref a::ws) hxe F (hr.mono hkj) hb I2 (.cons rfl r) (show Reps X.K H2 (jz a::ds) (V.ref a::ws) from ⟨_,_,rfl,Rep.cel a,rd⟩) cs2 hn hG kk2
end
section
variable {X:Cx}{e a b c o value:Expr}{es:List Expr}{st:Stmt}{Ta Tb To Tv:TR PyData}{Tr:TR (LP)}{pos pos' apos:Pos}{x f m:Str}
theorem zR {k j n:Nat}{ps:List Str}{g:GC3}{pl:Sem Bool} (hxe:X.ex=[]) (C:Jj X.prog X.w X.K X.mg X.base x m ps k n g) (hr:Room j X.A) (hkj:k<=j) (ho:PEC X o To)
  (ht:eval (.Call (.Attribute o m apos) [] [] pos) X.env=(do
   let ov ←eval o X.env
   standAt apos.atName
   let (f,first) ←holding [ov] (getMethod ov m pl)
   callWith pos f first (backTo pos (starEach [] X.env)) (backToKw pos (keywordEach [] X.env))):=by rfl):
  PEC X (.Call (.Attribute o m apos) [] [] pos) (bindC To (QT x m g n (zK (some [])))):=by
 with_unfolding_all
  intro Kp s σ H Q I h
  obtain ⟨C,f,fd,hC,hcls,hmeth,F,hb⟩:=C
  refine PySem.W.methodCall_KW (pl:=pl) (thn (ho Kp s σ H (fun y H1=>∃ od,Rep X.K H1 od y/\AtC X σ H1 (QT x m g n (zK (some [])) od) fun d H'=>∀ v,Rep X.K H' d v->Q v H') I ((AtC.bind h).imp fun od H1 _ ⟨s1,h1⟩ y ry=>⟨od,ry,h1⟩)) fun u s1 ⟨y,H1,I1,ry,od,rod,ρ,μ,R,en,cs,⟨⟨a,fs,hd,hm,hl⟩,t⟩,kk⟩=>?_) ht
  subst hd
  cases Rep.celOut rod
  obtain rfl:u=Value.ref a:=ry
  obtain ⟨C',dx,vs,h1,h2,h3⟩:=cs a _ hm
  rw [hC] at h1; cases h1
  refine acF I1 h2 hcls hmeth (h3.lookN hl) ?_
  obtain ⟨ds,hds,hn,hG⟩:=t
  cases hds
  exact PySem.W.callWith_K0 (first:=[.ref a]) I1.kIn hmeth.kp (aoH (us:=[.ref a]) (vs:=[.ref a]) hxe F (hr.mono hkj) hb I1 (.cons rfl .nil) (show Reps X.K H1 [jz a] [V.ref a] from ⟨_,_,rfl,Rep.cel a,rfl⟩) cs hn hG kk)
end
section
variable {X:Cx}{e a b c o value:Expr}{es:List Expr}{st:Stmt}{Ta Tb To Tv:TR PyData}{Tr:TR (LP)}{pos pos' apos:Pos}{x f m:Str}
noncomputable def anM (x:Str) (g:GC3) (n:Nat) (ds:LP):TR PyData:=fun _ μ R=>(ds.length+1=n)/\∀ a,μ a=none->g (jz a::ds) (zD μ a (.ins x [])) fun o μ'=>match o with
 | .ok d=>d= .none/\R (.ok (jz a)) μ'
 | .er c=>R (.er c) μ'
theorem agm {k j n:Nat}{ps:List Str}{g:GC3}{p:Pos} (hxe:X.ex=[]) (C:alL X.prog X.w X.K X.mg X.base x ps k n g) (hr:Room j X.A) (hkj:k+1<=j) (ha:PAC X (e::es) Tr)
  (hg:Gl X x:=by rfl) (hdb:(x == ("__debug__":Str))=false:=by decide) (he:starEach (e::es) X.env=(false,eval e X.env)::starEach es X.env:=by rfl)
  (hpl:(backTo pos (starEach es X.env)).any (·.1)=false:=by rfl):PEC X (.Call (.Name x p) (e::es) [] pos) (bindC Tr (anM x g n)):=by
 with_unfolding_all
  intro Kp s σ H Q I h
  obtain ⟨C,f,fd,hC,hm,M,F,hb⟩:=C
  refine wpAny_Call_Name_kw (JF I hg hm ?_ hdb)
  refine PySem.W.callWith_K (h₀:=X.base) I.ok.mod.kin M.kp (thn (ha pos Kp s σ H (fun vs H1=>∃ ds,Reps X.K H1 ds vs/\AtC X σ H1 (anM x g n ds) fun d H'=>∀ v,Rep X.K H' d v->Q v H') I ((AtC.bind h).imp fun ds H1 _ ⟨s1,h1⟩ vs rv=>⟨ds,rv,h1⟩)) fun us s1 ⟨vs,H1,I1,r,ds,rd,q⟩=>⟨I1.kIn,?_⟩) he hpl
  obtain ⟨ρ,μ,R,en,cs,⟨hn,hG⟩,kk⟩:=q
  have hA:H1 (s1.heap.objs.size+1)=none:=I1.hok.fresh (Nat.le_succ _)
  have hD:H1 s1.heap.objs.size=none:=I1.hok.fresh (Nat.le_refl _)
  have ne:s1.heap.objs.size ≠ s1.heap.objs.size+1:=Nat.ne_of_lt (Nat.lt_succ_self _)
  have hq:=hG (s1.heap.objs.size+1) (cs.free hA)
  have I2:=Inv.made (C:=C) I1
  have sm:jn H1 (upd (upd H1 s1.heap.objs.size (.own (s1.heap.objs.size+1))) (s1.heap.objs.size+1) (.ins C s1.heap.objs.size [])):=fun b o q=>by
   have n1:b ≠ s1.heap.objs.size+1:=fun z=>by subst z; rw [hA] at q; cases q
   have n2:b ≠ s1.heap.objs.size:=fun z=>by subst z; rw [hD] at q; cases q
   rw [jt n1,jt n2]; exact q
  have cs2:qy X.K (upd (upd H1 s1.heap.objs.size (.own (s1.heap.objs.size+1))) (s1.heap.objs.size+1) (.ins C s1.heap.objs.size [])) (zD μ (s1.heap.objs.size+1) (.ins x [])):=
   cs.put (jn.a sm) (fun b _ o q=>sm b o q) ⟨C,_,[],hC,jp,rfl⟩
  have sp:agl X.K X.mg n g (V.ref (s1.heap.objs.size+1)::vs) (upd (upd H1 s1.heap.objs.size (.own (s1.heap.objs.size+1))) (s1.heap.objs.size+1) (.ins C s1.heap.objs.size [])) (fun v H2=>v= .non/\Q (.ref (s1.heap.objs.size+1)) H2)
    (fun cls _ H'=>∃ c μ',X.mg c=some cls/\R (.er c) μ'/\jE H1 H'/\qy X.K H' μ'):=
   ⟨jz (s1.heap.objs.size+1)::ds,_,_,hn,⟨V.ref (s1.heap.objs.size+1),vs,rfl,Rep.cel _,Reps.mono sm _ _ rd⟩,cs2,hq,fun d μ' q v H' sA rv c=>by
    obtain ⟨q1,q2⟩:=q
    subst q1
    exact ⟨rv,kk _ _ q2 H' ((jn.a sm).trans sA) c _ (Rep.cel _)⟩,fun c μ' q C H' hC' sA c'=>⟨c,μ',hC',q,(jn.a sm).trans sA,c'⟩⟩
  have r2:jP (V.ref (s1.heap.objs.size+1)::vs) (Value.ref (s1.heap.objs.size+1)::us):= .cons rfl r
  have hl:(Value.ref (s1.heap.objs.size+1)::us++[]).length=ps.length:=by
   rw [List.append_nil,←r2.length]
   exact F.len _ _ _ _ sp
  have hbd:=hb _ (Value.ref (s1.heap.objs.size+1)::us) I2.kIn hl
  rw [List.append_nil] at hbd
  refine wpAny_call (akK (f:=f) I1.kIn M.makes M.init (beq_iff_eq.mp M.fn) (codeAny_mono (F.run _ X.stack _ _ ⟨Value.ref (s1.heap.objs.size+1)::us,[]⟩ (Value.ref (s1.heap.objs.size+1)::us) _ _ _ ((hr.mono hkj).make C us [])
   (I2.env0.make C us []) hbd r2 sp) fun rs s' hq'=>?_))
  cases rs with
  | error ev=>
   obtain ⟨e0,C0,H',rfl,os,bare,un,hok,xc,c,μ',hC',hR,sA,c'⟩:=hq'
   have J':Inv X Kp σ H' s':=I2.call' (ch:=[]) os un hok bare fun b z=>nomatch z
   have J0:Inv X [] σ H' s':=J'.pins_of fun p hp=>nomatch hp
   have k1:Jg X H1 (fun d H'=>∀ v,Rep X.K H' d v->Q v H') (.er c) μ':=kk (.er c) μ' hR
   have x1:=Xc.of hxe I2 xc
   have t1:aeU X H1 μ' c (.ref e0) s':=⟨e0,C0,σ,H',rfl,hC',J0,sA,c',x1⟩
   exact k1 (.ref e0) s' t1
  | ok fl=>
   cases fl with
   | ret u=>
    obtain ⟨v,H',I3,rv,ev,q3⟩:=I2.after hq'
    subst ev
    exact ⟨rv,⟨V.ref (s1.heap.objs.size+1),H',I3,rfl,q3⟩⟩
   | next=>exact False.elim hq'
   | brk=>exact False.elim hq'
   | cont=>exact False.elim hq'
end
theorem Reps.dropLast {K:Fg}{H:Hp}{ds:LP}{xs:List V} (h:Reps K H ds xs):Reps K H ds.dropLast xs.dropLast:=by
 rw [List.dropLast_eq_take,List.dropLast_eq_take,h.length]
 exact Reps.take _ h
section
variable {X:Cx}{e a b c o value:Expr}{es:List Expr}{st:Stmt}{Ta Tb To Tv:TR PyData}{Tr:TR (LP)}{pos pos' apos cpos:Pos}{x f m:Str}
noncomputable def aiD (od:PyData) (μ:jL):Prop:=∃ a ds,od=jz a/\μ a=some (.lst ds)
theorem aiE {Kp:List (Addr × Obj)}{σ:St}{H:Hp}{s:Shared}{a:Addr}{xs:List V} (I:Inv X Kp σ H s) (h:H a=some (qt a xs)):s.TypeIs (.ref a) "list"/\∀ b,Value.ref a= .ref b->∃ o,s.heap.get? b=some o/\o.dict=none:=
 akQ (T:="list") (Inv.opened I (.l xs) h) (x:= .ref a) (v:= .ref a) rfl (.inl ⟨rfl,xs,SqL.of jp⟩)
theorem agn {Kp:List (Addr × Obj)}{σ:St}{H H4:Hp}{s s':Shared}{a:Addr}{xs ys:List V} (I:Inv X Kp σ H s) (h:H a=some (qt a xs)) (e4:H4=upd (upd H a (.lst xs)) a (.lst ys)) (I4:Inv X Kp σ H4 s'):Inv X Kp σ (upd H a (qt a ys)) s':=by
 subst e4
 have:=Inv.closed I4 (.l ys) jp (Inv.nofrz I h)
 rw [L2.QN,L2.QN] at this
 exact this
noncomputable def ajP (od d:PyData):TR PyData:=fun _ μ R=>∃ a ds,od=jz a/\μ a=some (.lst ds)/\ds.length<1000000/\R (.ok .none) (zD μ a (.lst (ds++[d])))
theorem ac3 (ho:PEC X o To) (ha:PEC X e Ta) (hbase:attributeBase o "append" X.env (eval o X.env)=eval o X.env:=by rfl)
  (hfew:((backTo cpos (starEach [e] X.env)).all (fun x=>!x.1) && (backToKw cpos (keywordEach [] X.env)).all (fun x=>x.1.isSome)
   && decide ([e].length+([]:List Keyword).length+(if ([]:List Keyword).isEmpty then 0 else 1)<30))=true:=by rfl)
  (hline:(apos.endLine == cpos.line)=true:=by rfl) (hs:starEach [e] X.env=(false,eval e X.env)::starEach [] X.env:=by rfl) (hplain:(backTo cpos (starEach [] X.env)).any (·.1)=false:=by rfl):
  PEC X (.Call (.Attribute o "append" apos) [e] [] cpos) (bindC To fun od ρ μ R=>aiD od μ/\bindC Ta (ajP od) ρ μ R):=by
 with_unfolding_all
  intro Kp s σ H Q I h
  refine wpAny_Call_method_late hbase hfew hline rfl (thn (ho Kp s σ H (fun y H1=>∃ od,Rep X.K H1 od y/\AtC X σ H1 (fun ρ μ R=>aiD od μ/\bindC Ta (ajP od) ρ μ R) fun d H'=>∀ v,Rep X.K H' d v->Q v H') I ((AtC.bind h).imp fun od H1 _ ⟨s1,h1⟩ y ry=>⟨od,ry,h1⟩)) fun v s1 ⟨y,H1,I1,ry,od,rod,ρ,μ,R,en,cs,⟨⟨l,ds0,hd,hm⟩,t⟩,kk⟩=>?_)
  subst hd
  cases Rep.celOut rod
  obtain rfl:v=Value.ref l:=ry
  obtain ⟨xs0,h2,_⟩:=cs l _ hm
  obtain ⟨t1,t2⟩:=aiE I1 h2
  refine ⟨"list","list.append",PySem.F.plainAttrs_list,PySem.F.slot_list_append,PySem.F.type_list_append,t1,t2,?_⟩
  have pa:PA X [e] _:=qv (X:=X) ha zw hs
  have hA:=pa cpos Kp s1 σ H1 (fun ws H2=>∃ y d,ws=[y]/\Rep X.K H2 d y/\AtC X σ H2 (ajP (jz l) d) fun d H'=>∀ v,Rep X.K H' d v->Q v H') I1
   ((AtC.bind (show AtC X σ H1 (bindC Ta (ajP (jz l))) _ from ⟨ρ,μ,R,en,cs,t,kk⟩)).imp fun d H2 _ ⟨s2,h2⟩ y ry=>⟨y,d,rfl,ry,h2⟩)
  rw [hs] at hA ⊢
  refine Calls.callWith_builtin (by show (false || (backTo cpos (starEach [] X.env)).any (·.1))=false; rw [hplain] <;> rfl) (Calls.evalArgs_plain ?_)
  refine thn hA fun us s2 ⟨ws,H2,I2,r2,y,d,hws,ry,ρ2,μ2,R2,en2,cs2,⟨l2,ds,hd2,hm2,hl,hR⟩,kk2⟩=>?_
  subst hws
  cases alJ hd2
  obtain ⟨xs,h3,rs⟩:=cs2 l _ hm2
  refine thn (adM Kp s2 σ (upd H2 l (.lst xs)) (.ref l) [y] (.ref l) us (fun w H4=>w= .non/\H4=upd (upd H2 l (.lst xs)) l (.lst (xs++[y]))) (Inv.opened I2 (.l xs) h3) rfl r2 ⟨l,xs,y,rfl,rfl,jp,by rw [rs.length]; exact aaj hl,rfl,rfl⟩) fun u s3 ⟨w,H4,I4,r4,e1,e4⟩=>?_
  subst e1
  have sA:jE H2 (upd H2 l (qt l (xs++[y]))):=jE.upd h3 rfl
  have k1:=(kk2 (.ok .none) _ hR:Jg X H2 (fun d H'=>∀ v,Rep X.K H' d v->Q v H') (.ok .none) _)
  exact ⟨.non,_,agn I2 h3 e4 I4,r4,k1 _ sA (cs2.upd sA ⟨_,jp,(Reps.monoA sA _ _ rs).append ⟨y,[],rfl,Rep.monoA sA _ _ ry,rfl⟩⟩) .non rfl⟩
noncomputable def anN (od:PyData):TR PyData:=fun _ μ R=>∃ a ds d,od=jz a/\μ a=some (.lst ds)/\ds[ds.length - 1]?=some d/\R (.ok d) (zD μ a (.lst ds.dropLast))
theorem aiF (ho:PEC X o To) (hbase:attributeBase o "pop" X.env (eval o X.env)=eval o X.env:=by rfl) (hline:(apos.endLine == cpos.line)=true:=by rfl):PEC X (.Call (.Attribute o "pop" apos) [] [] cpos) (bindC To anN):=by
 with_unfolding_all
  intro Kp s σ H Q I h
  refine wpAny_Call_method0_late hbase hline (thn (ho Kp s σ H (fun y H1=>∃ od,Rep X.K H1 od y/\AtC X σ H1 (anN od) fun d H'=>∀ v,Rep X.K H' d v->Q v H') I ((AtC.bind h).imp fun od H1 _ ⟨s1,h1⟩ y ry=>⟨od,ry,h1⟩)) fun v s1 ⟨y,H1,I1,ry,od,rod,ρ,μ,R,en,cs,⟨l,ds,d,hd,hm,hl,hR⟩,kk⟩=>?_)
  subst hd
  cases Rep.celOut rod
  obtain rfl:v=Value.ref l:=ry
  obtain ⟨xs,h2,rs⟩:=cs l _ hm
  obtain ⟨t1,t2⟩:=aiE I1 h2
  obtain ⟨z,hz,rz⟩:=rs.get hl
  refine ⟨"list","list.pop",PySem.F.plainAttrs_list,PySem.F.slot_list_pop,PySem.F.type_list_pop,t1,t2,Calls.callWith_builtin rfl (PySem.evalArgs_none ?_)⟩
  refine thn (apj Kp s1 σ (upd H1 l (.lst xs)) (.ref l) [] (.ref l) [] (fun w H4=>w=z/\H4=upd (upd H1 l (.lst xs)) l (.lst xs.dropLast)) (Inv.opened I1 (.l xs) h2) rfl .nil ⟨l,xs,z,rfl,rfl,jp,by rw [rs.length]; exact hz,rfl,rfl⟩) fun u s3 ⟨w,H4,I4,r4,e1,e4⟩=>?_
  subst e1
  have sA:jE H1 (upd H1 l (qt l xs.dropLast)):=jE.upd h2 rfl
  have k1:=(kk (.ok d) _ hR:Jg X H1 (fun d H'=>∀ v,Rep X.K H' d v->Q v H') (.ok d) _)
  exact ⟨w,_,agn I1 h2 e4 I4,r4,k1 _ sA (cs.upd sA ⟨_,jp,Reps.dropLast (Reps.monoA sA _ _ rs)⟩) w (Rep.monoA sA _ _ rz)⟩
noncomputable def apJ (f:RP):TR PyData:=fun ρ μ R=>∃ ds,f ρ=some (.list ds)/\∀ a,μ a=none->R (.ok (jz a)) (zD μ a (.lst ds))
theorem aiG {fe:RP} (h:PN X e fe):PEC X e (apJ fe):=by
 with_unfolding_all
  exact PE.imp h fun σ H Q ⟨ρ,μ,R,en,cs,⟨ds,hf,hR⟩,kk⟩=>⟨ρ,_,en,hf,fun l H' s hn ow=>by
   have k1:=(kk (.ok (jz l)) _ (hR l (cs.free hn)):Jg X H (fun d H'=>∀ v,Rep X.K H' d v->Q v H') (.ok (jz l)) _)
   exact k1 H' (jn.a s) (cs.put (jn.a s) (fun b _ o q=>s b o q) ow) (.ref l) (Rep.cel l)⟩
end
section
variable {X:Cx}{e a b c o value:Expr}{es:List Expr}{st:Stmt}{Ta Tb To Tv:TR PyData}{Tr:TR (LP)}{fa:RP}{pos pos' apos cpos:Pos}{x f m:Str}
theorem ago {H:Hp}{ρ:Rho}{σ:St}{i:Nat}{l:Addr}{ds:LP}{xs:List V} (en:EnvR X.K H ρ σ) (hi:lkp i ρ=some (jz l)) (h:H l=some (qt l xs)) (rs:Reps X.K H ds xs):EnvR X.K (upd H l (.lst xs)) (ρ.set i (some (.list ds))) σ:=by
 have sA:jE H (upd H l (.lst xs)):=jE.upd h rfl
 have hi':=qT hi
 have hl:i < ρ.length:=(List.getElem?_eq_some_iff.mp hi').1
 refine ⟨by rw [List.length_set]; exact en.len,fun j d q=>?_⟩
 by_cases hj:i=j
 ·subst hj
  rw [List.getElem?_set_self hl] at q; cases q
  obtain ⟨v,h1,h2⟩:=en.at' i _ hi'
  cases Rep.celOut h2
  exact ⟨_,h1,l,xs,rfl,jp,Reps.monoA sA _ _ rs⟩
 ·rw [List.getElem?_set_ne hj] at q
  exact (en.monoA sA).at' j d q
theorem ac4 {H H3:Hp}{l:Addr}{xs:List V}{o:HO} (h:H l=some (qt l xs)) (s:jn (upd H l o) H3):jE H (upd H3 l (qt l xs))/\∀ b,b ≠ l->∀ u,H b=some u->upd H3 l (qt l xs) b=some u:=
 have k:∀ b,b ≠ l->∀ u,H b=some u->upd H3 l (qt l xs) b=some u:=fun b hb u q=>by rw [jt hb]; exact s b u (by rw [jt hb]; exact q)
 ⟨fun b u q d=>k b (fun z=>by subst z; rw [h] at q; cases q; cases d) u q,k⟩
theorem QU {H H3:Hp}{μ:jL}{l:Addr}{ds:LP}{xs:List V}{o:HO} (cs:qy X.K H μ) (hm:μ l=some (.lst ds)) (h:H l=some (qt l xs)) (s:jn (upd H l o) H3):qy X.K (upd H3 l (qt l xs)) μ:=fun b c q=>by
 obtain ⟨sA,k⟩:=ac4 h s
 by_cases hb:b=l
 ·subst hb
  exact (cs b c q).to sA (by rw [jp,h])
 ·obtain ⟨u,h1,_⟩:=(cs b c q).there
  exact (cs b c q).to sA ((k b hb u h1).trans h1.symm)
noncomputable def alM (i:Nat) (f:RP):TR PyData:=fun ρ μ R=>∃ a ds d,lkp i ρ=some (jz a)/\μ a=some (.lst ds)/\f (ρ.set i (some (.list ds)))=some d/\noL d=true/\R (.ok d) μ
theorem ZC (i:Nat) (h:PD X e fa):PEC X e (alM i fa):=by
 with_unfolding_all
  intro Kp s σ H Q I ⟨ρ,μ,R,en,cs,⟨l,ds,d,hi,hm,hf,hn,hR⟩,kk⟩
  obtain ⟨xs,h1,rs⟩:=cs l _ hm
  refine thn (h Kp s σ (upd H l (.lst xs)) (fun v H3=>jn (upd H l (.lst xs)) H3/\Rep X.K H3 d v) (Inv.opened I (.l xs) h1) ⟨_,d,ago en hi h1 rs,hf,fun v H3 s3 r3=>⟨s3,r3⟩⟩) fun u s1 ⟨v,H3,I3,r,s3,r3⟩=>?_
  have e3:H3 l=some (.lst xs):=s3 _ _ jp
  have k1:=(kk (.ok d) _ hR:Jg X H (fun d H'=>∀ v,Rep X.K H' d v->Q v H') (.ok d) _)
  refine ⟨v,upd H3 l (qt l xs),Inv.closed I3 (.l xs) e3 (Inv.nofrz I h1),r,k1 _ (ac4 h1 s3).1 (QU cs hm h1 s3) v (Rep.monoN (fun b u hb m=>?_) d v hn r3)⟩
  have:b ≠ l:=fun z=>by subst z; rw [e3] at hb; cases hb; exact m _ rfl
  rw [jt this]; exact hb
noncomputable def apK (i:Nat) (f:Rho->Option Bool):TR Bool:=fun ρ μ R=>∃ a ds d,lkp i ρ=some (jz a)/\μ a=some (.lst ds)/\f (ρ.set i (some (.list ds)))=some d/\R (.ok d) μ
theorem anO (i:Nat) {tc:Rho->Option Bool} (h:PTD X e tc):PTC X e (apK i tc):=by
 with_unfolding_all
  intro Kp s σ H Q I ⟨ρ,μ,R,en,cs,⟨l,ds,d,hi,hm,hf,hR⟩,kk⟩
  obtain ⟨xs,h1,rs⟩:=cs l _ hm
  refine thn (h Kp s σ (upd H l (.lst xs)) (fun b H3=>b=d/\jn (upd H l (.lst xs)) H3) (Inv.opened I (.l xs) h1) ⟨_,d,ago en hi h1 rs,hf,fun H3 s3=>⟨rfl,s3⟩⟩) fun b s1 ⟨H3,I3,hb,s3⟩=>?_
  subst hb
  have e3:H3 l=some (.lst xs):=s3 _ _ jp
  have k1:=(kk (.ok b) _ hR:Jg X H Q (.ok b) _)
  exact ⟨upd H3 l (qt l xs),Inv.closed I3 (.l xs) e3 (Inv.nofrz I h1),k1 _ (ac4 h1 s3).1 (QU cs hm h1 s3)⟩
noncomputable def apL (g:LP->OP) (od:PyData):TR PyData:=fun _ μ R=>∃ a ds d,od=jz a/\μ a=some (.lst ds)/\g [.list ds]=some d/\noL d=true/\R (.ok d) μ
theorem anP {id:String}{g:LP->OP}{p:Pos} (hc:aay X (.builtin id) g) (hm0:X.mg x=none) (hv:bootBuiltins x=some (.builtin id)) (ho:PEC X e To) (hg:Gl X x:=by rfl) (hn0:x ≠ "__name__":=by decide) (hdb:(x == ("__debug__":Str))=false:=by decide)
  (he:starEach [e] X.env=(false,eval e X.env)::starEach [] X.env:=by rfl) (hpl:(backTo pos (starEach [] X.env)).any (·.1)=false:=by rfl):PEC X (.Call (.Name x p) [e] [] pos) (bindC To (apL g)):=by
 with_unfolding_all
  intro Kp s σ H Q I h
  obtain ⟨r,h1,h2⟩:=hc
  refine wpAny_Call_Name_kw (Q8 I hg hm0 hv ?_ hn0 hdb)
  have pa:PA X [e] _:=qv (X:=X) ho zw he
  refine PyProof.Rows.callWith_builtin1 (thn (pa pos Kp s σ H (fun ws H1=>∃ y od,ws=[y]/\Rep X.K H1 od y/\AtC X σ H1 (apL g od) fun d H'=>∀ v,Rep X.K H' d v->Q v H') I ((AtC.bind h).imp fun od H1 _ ⟨s1,h1⟩ y ry=>⟨y,od,rfl,ry,h1⟩)) fun us s1 ⟨ws,H1,I1,r1,y,od,hws,rod,ρ,μ,R,en,cs,⟨l,ds,d,hd,hm,hf,hn,hR⟩,kk⟩=>?_) he hpl
  subst hws
  subst hd
  cases Rep.celOut rod
  obtain ⟨xs,h3,rs⟩:=cs l _ hm
  have sA:jE H1 (upd H1 l (.lst xs)):=jE.upd h3 rfl
  refine thn (h1 Kp s1 σ (upd H1 l (.lst xs)) [.ref l] us (fun v H3=>jn (upd H1 l (.lst xs)) H3/\Rep X.K H3 d v) (Inv.opened I1 (.l xs) h3) r1 (h2 [.list ds] d [.ref l] _ _ hf ⟨.ref l,[],rfl,⟨l,xs,rfl,jp,Reps.monoA sA _ _ rs⟩,rfl⟩ fun v H3 s3 r3=>⟨s3,r3⟩)) fun u s2 ⟨v,H3,I3,r,s3,r3⟩=>?_
  have e3:H3 l=some (.lst xs):=s3 _ _ jp
  have k1:=(kk (.ok d) _ hR:Jg X H1 (fun d H'=>∀ v,Rep X.K H' d v->Q v H') (.ok d) _)
  refine ⟨v,upd H3 l (qt l xs),Inv.closed I3 (.l xs) e3 (Inv.nofrz I1 h3),r,k1 _ (ac4 h3 s3).1 (QU cs hm h3 s3) v (Rep.monoN (fun b u hb m=>?_) d v hn r3)⟩
  have:b ≠ l:=fun z=>by subst z; rw [e3] at hb; cases hb; exact m _ rfl
  rw [jt this]; exact hb
noncomputable def anQ (od:PyData):TR Bool:=fun _ μ R=>∃ a ds,od=jz a/\μ a=some (.lst ds)/\R (.ok (!ds.isEmpty)) μ
theorem anR (ho:PEC X e To) (he:∀ whole,isTrue e X.env whole=(do let v ←whole; standAt e.pos; holding [v] (truthy v)):=by intro _; rfl):PTC X e (bindC To anQ):=by
 with_unfolding_all
  intro Kp s σ H Q I h
  refine isTrue_plain (thn (ho Kp s σ H (fun y H1=>∃ od,Rep X.K H1 od y/\AtC X σ H1 (anQ od) Q) I ((AtC.bind h).imp fun od H1 _ ⟨s1,h1⟩ y ry=>⟨od,ry,h1⟩)) fun v s1 ⟨y,H1,I1,ry,od,rod,ρ,μ,R,en,cs,⟨l,ds,hd,hm,hR⟩,kk⟩=>?_) (he _)
  subst hd
  cases Rep.celOut rod
  obtain ⟨xs,h3,rs⟩:=cs l _ hm
  have ee:xs.isEmpty=ds.isEmpty:=by
   have:=rs.length
   cases xs <;> cases ds <;> first | rfl | simp at this
  refine thn (apc Kp s1 σ (upd H1 l (.lst xs)) (.ref l) v (fun k H3=>k=!xs.isEmpty/\H3=upd H1 l (.lst xs)) (Inv.opened I1 (.l xs) h3) ry ⟨!xs.isEmpty,.inl ⟨xs,SqL.of jp,rfl⟩,rfl,rfl⟩) fun b s2 ⟨H3,I3,hb,e3⟩=>?_
  subst hb
  have k1:=(kk (.ok (!ds.isEmpty)) _ hR:Jg X H1 Q (.ok (!ds.isEmpty)) _)
  have s3:jn (upd H1 l (.lst xs)) H3:=by rw [e3]; exact jn.refl _
  rw [ee]
  exact ⟨upd H3 l (qt l xs),Inv.closed I3 (.l xs) (s3 _ _ jp) (Inv.nofrz I1 h3),k1 _ (ac4 h3 s3).1 (QU cs hm h3 s3)⟩
theorem alN {k j n:Nat}{ps:List Str}{g:LP->OP}{p:Pos} (C:jl X.prog X.w X.K X.mg X.base x ps k n g) (hr:Room j X.A) (hkj:k<=j) (ha:PAC X (e::es) Tr)
  (hg:Gl X x:=by rfl) (hdb:(x == ("__debug__":Str))=false:=by decide) (he:starEach (e::es) X.env=(false,eval e X.env)::starEach es X.env:=by rfl)
  (hpl:(backTo pos (starEach es X.env)).any (·.1)=false:=by rfl):PEC X (.Call (.Name x p) (e::es) [] pos) (bindC Tr fun ds=>zK (if ds.length=n then g ds else none)):=by
 with_unfolding_all
  obtain ⟨f,fd,h1,h2,h3,h4⟩:=C
  exact PE.imp (aew h1 (hr.mono hkj) hg h2 h3 h4 .nil abR ha hdb he hpl) fun σ H Q h=>(AtC.bind h).imp fun ds H1 _ ⟨s1,h1⟩ vs rv=>by
   obtain ⟨d,hd,k⟩:=h1.ret
   by_cases hn:ds.length=n
   ·rw [if_pos hn] at hd
    exact ⟨ds,d,hn,by rw [List.append_nil]; exact rv,hd,fun v H' s r=>k H' s v r⟩
   ·rw [if_neg hn] at hd; cases hd
noncomputable def ab6 (n:Nat) (g:LP->OP) (t:LP->Option Str) (ds:LP):TR PyData:=fun _ μ R=>ds.length=n/\((∃ d,g ds=some d/\R (.ok d) μ) ∨ ∃ c,t ds=some c/\R (.er c) μ)
theorem QF {k k' j n:Nat}{ps:List Str}{g:LP->OP}{gx:LP->Option Str}{p:Pos} (hxe:X.ex=[]) (C:jl X.prog X.w X.K X.mg X.base x ps k n g) (C':qC X.prog X.w X.K X.mg X.base x ps k' n gx) (hr:Room j X.A) (hkj:k<=j) (hkj':k'<=j) (ha:PAC X (e::es) Tr)
  (hg:Gl X x:=by rfl) (hdb:(x == ("__debug__":Str))=false:=by decide) (he:starEach (e::es) X.env=(false,eval e X.env)::starEach es X.env:=by rfl)
  (hpl:(backTo pos (starEach es X.env)).any (·.1)=false:=by rfl):PEC X (.Call (.Name x p) (e::es) [] pos) (bindC Tr (ab6 n g gx)):=by
 with_unfolding_all
  intro Kp s σ H Q I h
  obtain ⟨f,fd,F,hm,hk,hb⟩:=C
  obtain ⟨f',fd',F',hm',hk',hb'⟩:=C'
  rw [hm] at hm'
  have ef:f=f':=by cases hm'; rfl
  subst ef
  refine wpAny_Call_Name_kw (JF I hg hm ?_ hdb)
  refine PySem.W.callWith_K (h₀:=X.base) I.ok.mod.kin hk (thn (ha pos Kp s σ H (fun vs H1=>∃ ds,Reps X.K H1 ds vs/\AtC X σ H1 (ab6 n g gx ds) fun d H'=>∀ v,Rep X.K H' d v->Q v H') I ((AtC.bind h).imp fun ds H1 _ ⟨s1,h1⟩ vs rv=>⟨ds,rv,h1⟩)) fun us s1 ⟨vs,H1,I1,r,ds,rd,q⟩=>⟨I1.kIn,?_⟩) he hpl
  obtain ⟨ρ,μ,R,en,cs,⟨hn,hG⟩,kk⟩:=q
  rcases hG with ⟨d,hd,hR⟩ | ⟨c,hc,hR⟩
  ·have k1:=(kk (.ok d) _ hR:Jg X H1 (fun d H'=>∀ v,Rep X.K H' d v->Q v H') (.ok d) _)
   exact acG F (hr.mono hkj) hb .nil abR I1 r ⟨ds,d,hn,by rw [List.append_nil]; exact rd,hd,fun v H' s r=>k1 H' (jn.a s) (cs.mono s) v r⟩
  ·have sp:af8 X.K X.mg n gx vs H1 (fun _ _=>False) (fun cls _ H'=>X.mg c=some cls/\jn H1 H'):=⟨ds,c,hn,rd,hc,fun C H' hC s2=>⟨hC,s2⟩⟩
   have hlu:(us++[]).length=ps.length:=by rw [List.append_nil,←r.length]; exact F'.len _ _ _ _ sp
   have hbd:=hb' s1 us I1.kIn hlu
   rw [List.append_nil] at hbd
   refine wpAny_call (codeAny_mono (F'.run X.A X.stack s1 H1 ⟨us,[]⟩ us vs _ _ (hr.mono hkj') I1.env0 hbd r sp) fun rs s' hq=>?_)
   cases rs with
   | error ev=>
    obtain ⟨e0,C,H',rfl,os,bare,un,hok,xc,hC,sm2⟩:=hq
    have J':Inv X Kp σ H' s':=I1.call' (ch:=[]) os un hok bare fun b z=>nomatch z
    have J0:Inv X [] σ H' s':=J'.pins_of fun p hp=>nomatch hp
    have k1:=(kk (.er c) _ hR:Jg X H1 (fun d H'=>∀ v,Rep X.K H' d v->Q v H') (.er c) _)
    have x1:=Xc.of hxe I1 xc
    have t1:aeU X H1 μ c (.ref e0) s':=⟨e0,C,σ,H',rfl,hC,J0,jn.a sm2,cs.mono sm2,x1⟩
    exact k1 (.ref e0) s' t1
   | ok fl=>
    cases fl with
    | ret u=>obtain ⟨v,H',_,_,_,_,_,z⟩:=hq; exact z.elim
    | next=>exact False.elim hq
    | brk=>exact False.elim hq
    | cont=>exact False.elim hq
theorem ajQ {id:String}{g:LP->OP}{p:Pos} (hc:aay X (.builtin id) g) (hm:X.mg x=none) (hv:bootBuiltins x=some (.builtin id)) (ha:PAC X (e::es) Tr) (hg:Gl X x:=by rfl) (hn:x ≠ "__name__":=by decide) (hdb:(x == ("__debug__":Str))=false:=by decide)
  (he:starEach (e::es) X.env=(false,eval e X.env)::starEach es X.env:=by rfl) (hpl:(backTo pos (starEach es X.env)).any (·.1)=false:=by rfl):PEC X (.Call (.Name x p) (e::es) [] pos) (bindC Tr fun ds=>zK (g ds)):=by
 with_unfolding_all
  obtain ⟨r,h1,h2⟩:=hc
  exact PE.imp (Za h1 hg hm hv ha hn hdb he hpl) fun σ H Q h=>(AtC.bind h).imp fun ds H1 _ ⟨s1,h3⟩ vs rv=>by
   obtain ⟨d,hd,k⟩:=h3.ret
   exact h2 ds d vs H1 Q hd rv fun v H' s r=>k H' s v r
end
section
variable {X:Cx}{e a b c o tg src:Expr}{es:List Expr}{st:Stmt}{body:List Stmt}{S:TRS}{Tt:TR Bool}{Tr:TR (LP)}{pos:Pos}{x:Str}
noncomputable def aoI (nx:Rho->jL->Prop) (R:OutC->jL->Prop):OutC->jL->Prop
 | .nx ρ,μ=>nx ρ μ
 | .ct ρ,μ=>nx ρ μ
 | .bk ρ,μ=>R (.nx ρ) μ
 | .rt d,μ=>R (.rt d) μ
 | .er c,μ=>R (.er c) μ
noncomputable def adW (ga:PyData->Rho->Option Rho) (S:TRS):LP->TRS
 | []=>fun ρ μ R=>R (.nx ρ) μ
 | d::r=>fun ρ μ R=>∃ ρ1,ga d ρ=some ρ1/\S ρ1 μ (aoI (fun ρ2 μ2=>adW ga S r ρ2 μ2 R) R)
noncomputable def asm (fi:Rho->Option (LP)) (ga:PyData->Rho->Option Rho) (S:TRS):TRS:=fun ρ μ R=>∃ ds,fi ρ=some ds/\adW ga S ds ρ μ R
theorem anS {fi:Rho->Option (LP)}{ga:PyData->Rho->Option Rho} (hp:PassesOwn (model X.prog X.w) X.A X.env X.xe) (hc:X.calm=true) (hi:PID X tg src fi) (hg:PGD X tg ga) (hb:ab5 X body S)
  (hs:∀ x,foldedSetIterable src X.env x=pure x:=by intro _; rfl):PSC X (.For tg src body [] pos) (asm fi ga S):=by
 with_unfolding_all
  refine PS.imp (abd hp hc hi hg hb hs) fun D σ H ⟨ρ,μ,R,en,cs,⟨ds,h1,q'⟩,k⟩=>?_
  refine ⟨ρ,ds,en,h1,fun J H1 s1 Y=>?_⟩
  refine ⟨fun i m σ2 H2=>m=ds.length - i/\i<=ds.length/\∃ ρ2 μ2,jE H1 H2/\EnvR X.K H2 ρ2 σ2/\qy X.K H2 μ2/\adW ga S (ds.drop i) ρ2 μ2 R,⟨ds.length,by simp,Nat.zero_le _,ρ,μ,jE.refl _,en.mono s1,cs.mono s1,by simpa using q'⟩,?_⟩
  rintro i m σ2 H2 ⟨rfl,hi,ρ2,μ2,sA,en2,cs2,q2⟩
  obtain ⟨g1,g2,g3⟩:=Y i H2 sA
  by_cases hlt:i<ds.length
  ·right
   rw [List.drop_eq_getElem_cons hlt] at q2
   obtain ⟨ρ4,h4,q3⟩:=q2
   refine ⟨g1 hlt,fun σ3 H3=>∃ ρ3 μ3,jE H1 H3/\EnvR X.K H3 ρ3 σ3/\qy X.K H3 μ3/\adW ga S (ds.drop (i+1)) ρ3 μ3 R,fun σ3 H3 z=>⟨ds.length - (i+1),by omega,rfl,hlt,z⟩,fun x H3 y=>?_⟩
   obtain ⟨s3,r3⟩:=g3 x H3 y
   have r3':=r3 ds[i] (by simp [hlt])
   refine ⟨ρ2,ds[i],ρ4,en2.mono s3,r3',h4,fun σ5 H5 s5 en5=>?_⟩
   have s15:jE H1 H5:=(sA.trans (jn.a s3)).trans (jn.a s5)
   have s05:jE H H5:=(jn.a s1).trans s15
   refine ⟨ρ4,μ2,_,en5,(cs2.mono s3).mono s5,q3,fun o μ' r=>?_⟩
   cases o with
   | nx ρ6=>exact fun σ6 H6 s6 e6 c6=>⟨ρ6,μ',s15.trans s6,e6,c6,r⟩
   | ct ρ6=>exact fun σ6 H6 s6 e6 c6=>⟨ρ6,μ',s15.trans s6,e6,c6,r⟩
   | bk ρ6=>exact fun σ6 H6 s6 e6 c6=>(k (.nx ρ6) μ' r:Qf X H D (.nx ρ6) μ') σ6 H6 (s05.trans s6) e6 c6
   | rt d=>exact fun v H6 s6 e6 c6=>(k (.rt d) μ' r:Qf X H D (.rt d) μ') v H6 (s05.trans s6) e6 c6
   | er c=>exact fun ev s' t=>(k (.er c) μ' r:Qf X H D (.er c) μ') ev s' (t.mono s05)
  ·left
   have hn:ds.drop i=[]:=List.drop_of_length_le (by omega)
   rw [hn] at q2
   exact ⟨g2 (by omega),(k (.nx ρ2) μ2 q2:Qf X H D (.nx ρ2) μ2) σ2 H2 ((jn.a s1).trans sA) en2 cs2⟩
end
noncomputable def aaN (R:Res PyData->jL->Prop):OutC->jL->Prop
 | .rt d,μ=>R (.ok d) μ
 | .nx _,μ=>R (.ok .none) μ
 | .er c,μ=>R (.er c) μ
 | _,_=>False
noncomputable def qG (N:List Str) (T:TRS):GC3:=fun ds μ R=>T (jC N ds) μ (aaN R)
noncomputable def ac5 (K:Fg) (n:Nat) (g:GC3):Sp:=fun vs H Q _=>∃ ds μ R,ds.length=n/\Reps K H ds vs/\qy K H μ/\g ds μ R/\(∀ d μ',R (.ok d) μ'->∀ v H',jE H H'->Rep K H' d v->qy K H' μ'->Q v H')/\∀ c μ',¬ R (.er c) μ'
noncomputable def adX (P:Program) (w:World) (K:Fg) (mg:SV) (base:Heap) (x:Str) (ps:List Str) (k n:Nat) (g:GC3):Prop:=
 ∃ (f:Addr) (fd:FuncData),FnOk P w K mg base CX0 k f fd ps (ac5 K n g)/\mg x=some (.ref f)/\PySem.W.keepIn K (.ref f)=true/\JA K fd ps []
section
variable {P:Program}{w:World}{K:Fg}{mg:SV}{base:Heap}
theorem ady {x qual:Str}{st:Stmt}{f:Addr}{fd:FuncData}{N ps:List Str}{k:Nat}{T:TRS} (F:Fun K x qual st f fd) (S:FnScope N ps (jf st))
  (body:∀ (Kc:Value) (A:Around) (Ko:List Env) (s:Shared) (H:Hp) (E:XK),Room k (A.deeper (envOfC qual (jf st) s.heap.objs.size f Kc))->ab5 (zU (CXt P w) P w K mg base N qual (jf st) f Kc A Ko s H E) (jR st) T):
  FnOk P w K mg base (CXt P w) (k+1) f fd ps (agl K mg ps.length (qG N T)):=by
 with_unfolding_all
  obtain ⟨oc,od,kV,doc,pm,an,Kc,ct,osl,rfl,lk,hcd⟩:=F.ex
  refine aeO lk hcd S (fun vs H Q E h=>?_) fun A Ko s H vs Q E s1 hr h I=>?_
  ·obtain ⟨ds,μ,R,h1,h2,_⟩:=h
   rw [h2.length]; exact h1
  ·obtain ⟨ds,μ,R,h1,h2,h3,h4,h5,h6⟩:=h
   refine body Kc A Ko s H E hr [] s1 (L2.zO N vs) H _ I ⟨jC N ds,μ,_,Ji h2,h3,h4,fun o μ' r=>?_⟩
   cases o with
   | rt d=>exact fun v H' sA rv c=>h5 d μ' r v H' sA rv c
   | nx ρ=>exact fun σ H' sA e c=>h5 .none μ' r .non H' sA rfl c
   | bk ρ=>exact r.elim
   | ct ρ=>exact r.elim
   | er c=>
    intro ev s' t
    obtain ⟨e,C,σ',H',rfl,hC,J,sm,cs',xc⟩:=t
    have T0:Top0 (zU (CXt P w) P w K mg base N qual (jf st) f Kc A Ko s H E):=abt
    show wpAny (model P w) (A.deeper (envOfC qual (jf st) s.heap.objs.size f Kc)) (leaving (envOfC qual (jf st) s.heap.objs.size f Kc) (.ref e)) (fun _ s''=>CXt P w Ko H s E (.ref e) s'') (fun e' s''=>CXt P w Ko H s E e' s'') s'
    have n1:=aaH (E:=fun _ _=>False) (A:=A.deeper (envOfC qual (jf st) s.heap.objs.size f Kc)) T0 J.ok.frames J xc
    unfold leaving
    refine wpAny_bind (wpAny_mono n1 (fun _ s2 ⟨J2,t2⟩=>?_) fun _ _ z=>z.elim)
    have n2:=zP (E:=fun _ _=>False) (A:=A.deeper (envOfC qual (jf st) s.heap.objs.size f Kc)) none J2 t2
    refine wpAny_mono n2 (fun _ s3 ⟨J3,t3⟩=>?_) fun _ _ z=>z.elim
    obtain ⟨oe,ws,T,oT,ts,g1,g2,g3,g4,g5,g6,g7,g8,g9⟩:=t3.ob
    exact ⟨e,C,H',rfl,J3.os,J3.bare,J3.base,J3.hok,⟨t3.mine.un,t3.mine.new,oe,ws,T,oT,ts,g1,g2,g3,g4,g5,g6.un,g6.new,g7,g8,g9⟩,h6 c μ' r C H' hC sm cs'⟩
theorem ari {x qual:Str}{st:Stmt}{f:Addr}{fd:FuncData}{N ps:List Str}{k:Nat}{T:TRS} (F:Fun K x qual st f fd) (S:FnScope N ps (jf st))
  (body:∀ (Kc:Value) (A:Around) (Ko:List Env) (s:Shared) (H:Hp) (E:XK),Room k (A.deeper (envOfC qual (jf st) s.heap.objs.size f Kc))->ab5 (zU CX0 P w K mg base N qual (jf st) f Kc A Ko s H E).nox (jR st) T):
  FnOk P w K mg base CX0 (k+1) f fd ps (ac5 K ps.length (qG N T)):=by
 with_unfolding_all
  refine F.ok S (fun vs H Q E h=>?_) (fun Kc A Ko s H vs Q E hr h=>?_)
  ·obtain ⟨ds,μ,R,h1,h2,_⟩:=h
   rw [h2.length]; exact h1
  ·obtain ⟨ds,μ,R,h1,h2,h3,h4,h5,h6⟩:=h
   refine ⟨_,body Kc A Ko s H E hr,jC N ds,μ,_,Ji h2,h3,h4,fun o μ' r=>?_⟩
   cases o with
   | rt d=>exact fun v H' sA rv c=>h5 d μ' r v H' sA rv c
   | nx ρ=>exact fun σ H' sA e c=>h5 .none μ' r .non H' sA rfl c
   | bk ρ=>exact r.elim
   | ct ρ=>exact r.elim
   | er c=>exact (h6 c μ' r).elim
end
section
variable {X:Cx}{e:Expr}{es:List Expr}{Tr:TR (LP)}{pos:Pos}{x:Str}
noncomputable def asn (R:Res PyData->jL->Prop):Res PyData->jL->Prop
 | .ok d,μ=>R (.ok d) μ
 | .er _,_=>False
noncomputable def aoJ (g:GC3) (n:Nat) (ds:LP):TR PyData:=fun _ μ R=>ds.length=n/\g ds μ (asn R)
theorem QV {k j n:Nat}{ps:List Str}{g:GC3}{p:Pos} (C:adX X.prog X.w X.K X.mg X.base x ps k n g) (hr:Room j X.A) (hkj:k<=j) (ha:PAC X (e::es) Tr)
  (hg:Gl X x:=by rfl) (hdb:(x == ("__debug__":Str))=false:=by decide) (he:starEach (e::es) X.env=(false,eval e X.env)::starEach es X.env:=by rfl)
  (hpl:(backTo pos (starEach es X.env)).any (·.1)=false:=by rfl):PEC X (.Call (.Name x p) (e::es) [] pos) (bindC Tr (aoJ g n)):=by
 with_unfolding_all
  obtain ⟨f,fd,h1,h2,h3,h4⟩:=C
  exact PE.imp (aew h1 (hr.mono hkj) hg h2 h3 h4 .nil abR ha hdb he hpl) fun σ H Q h=>(AtC.bind h).imp fun ds H1 _ ⟨s1,ρ,μ,R,en,cs,⟨hn,t⟩,k⟩ vs rv=>
   ⟨ds,μ,_,hn,by rw [List.append_nil]; exact rv,cs,t,fun d μ' r v H' s rd c=>(k (.ok d) μ' r:Jg X H1 (fun d H'=>∀ v,Rep X.K H' d v->Q v H') (.ok d) μ') H' s c v rd,fun c μ' r=>r⟩
end
@[irreducible] noncomputable def arj (X:Cx) (st:Stmt) (T:TRS):Prop:=∀ (s:Shared) (σ:St) (H:Hp) (D:Ends),Inv X [] σ H s->AtS X σ H T D->wpAny (model X.prog X.w) X.A (exec st X.env) (SP X [] D) X.xe s
@[irreducible] noncomputable def agp (X:Cx) (sts:List Stmt) (T:TRS):Prop:=∀ (s:Shared) (σ:St) (H:Hp) (D:Ends),Inv X [] σ H s->AtS X σ H T D->wpAny (model X.prog X.w) X.A (execs sts X.env) (SP X [] D) X.xe s
section
variable {X:Cx}{st b0:Stmt}{sts qp tb hb:List Stmt}{S S':TRS}{G:RO}{pos:Pos}
theorem agq (h:ab5 X sts S):agp X sts S:=by
 with_unfolding_all
  exact fun s σ H D I t=>h [] s σ H D I t
theorem ac6 (h1:arj X st S) (h2:agp X qp S'):agp X (st::qp) (qD S S'):=by
 with_unfolding_all
  intro s σ H D I ⟨ρ,μ,R,en,cs,t,k⟩
  refine wpAny_execs_cons (thn (h1 s σ H { D with nx:=fun σ' H'=>AtS X σ' H' S' D } I ⟨ρ,μ,_,en,cs,t,fun o μ' r=>?_⟩) fun f s1 q=>?_)
  ·cases o with
   | nx ρ'=>exact fun σ' H' s e c=>⟨ρ',μ',R,e,c,r,fun o μ2 q=>(k o μ2 q).mono s⟩
   | rt d=>exact k (.rt d) μ' r
   | bk d=>exact k (.bk d) μ' r
   | ct d=>exact k (.ct d) μ' r
   | er d=>exact k (.er d) μ' r
  ·cases f with
   | next=>
    obtain ⟨σ',H',I',q⟩:=q
    exact h2 s1 σ' H' D I' q
   | ret v=>exact q
   | brk=>exact q
   | cont=>exact q
noncomputable def aso (n i:Nat) (cs:List Str) (G:RO) (R:OutC->jL->Prop):OutC->jL->Prop
 | .er c,μ=>c ∈ cs/\∃ d,G ((JV n).set i (some (zk c)))=some (.rt d)/\R (.rt d) μ
 | o,μ=>R o μ
noncomputable def asp (n i:Nat) (cs:List Str) (S:TRS) (G:RO):TRS:=fun ρ μ R=>S ρ μ (aso n i cs G R)
theorem adY {y x:Str}{np hpos:Pos}{n:Nat}{cs:List Str} (i:Nat) (T0:Top0 X) (hN:X.N.length=n) (hnd:X.N.Nodup) (hE:ErrT X.K X.mg y cs) (hn:∀ E,ab5 (X.wish E) tb S) (hh:∀ e,Zb (hX X e) (b0::hb) G)
  (hi:X.N[i]?=some x:=by rfl) (hl:X.env.kindOf x=some .local:=by rfl) (hlk:X.env.scope.names.lookup x=some .local:=by rfl) (hg:Gl X y:=by rfl) (hdb:(y == ("__debug__":Str))=false:=by decide):arj X (.Try tb [.ExceptHandler (some (.Name y np)) (some x) (b0::hb) hpos] [] [] pos) (asp n i cs S G):=by
 with_unfolding_all
  intro s σ H D I ⟨ρ,μ,R,en,cs0,t0,k⟩
  refine wpAny_Try_except ?_
  let E':Value->SP0:=fun ev s1=>wpAny (model X.prog X.w) X.A (noteFrame ev X.env) (fun _ s₂=>wpAny (model X.prog X.w) X.A (setFlight ev none) (fun _ s₃=>wpAny (model X.prog X.w) X.A (handleBy ev X.env [.ExceptHandler (some (.Name y np)) (some x) (b0::hb) hpos]) (SP X [] D) X.xe s₃) X.xe s₂) X.xe s1
  refine wpAny_mono (hn E' [] s σ H D (I.wish E') ⟨ρ,μ,_,en,cs0,t0,fun o μ' r=>?_⟩) (fun f s1 z=>?_) fun _ _ z=>z
  ·cases o with
   | nx ρ'=>exact (k (.nx ρ') μ' r:Qf X H D (.nx ρ') μ')
   | rt d=>exact (k (.rt d) μ' r:Qf X H D (.rt d) μ')
   | bk d=>exact (k (.bk d) μ' r:Qf X H D (.bk d) μ')
   | ct d=>exact (k (.ct d) μ' r:Qf X H D (.ct d) μ')
   | er c=>
    obtain ⟨hy,d,hG,hR⟩:=r
    intro ev s1 t
    obtain ⟨B,aB,mB,tB,bB,par⟩:=hE.par
    obtain ⟨C',aC,mC,xC,pC,_⟩:=par c hy
    obtain ⟨e,C,σ1,H1,rfl,hm,J,sm,c1,xc⟩:=t
    have J0:=J.unwish
    have x0:=xc.unwish
    show wpAny _ X.A (noteFrame (.ref e) X.env) _ _ s1
    refine wpAny_mono (aaH (E:=fun _ _=>False) T0 J0.ok.frames J0 x0) (fun _ s2 ⟨J2,t2⟩=>?_) fun _ _ z=>z.elim
    refine wpAny_mono (zP (E:=fun _ _=>False) none J2 t2) (fun _ s3 ⟨J3,t3⟩=>?_) fun _ _ z=>z.elim
    have ok:=J3.ok
    have hm0:X.mg c=some (.ref C):=hm
    rw [hm0] at mC; cases mC
    have fr:(X.A.mark (some (.ref e))).frames=some X.stack:=ok.frames
    have J4:Inv (hX X e) [] σ1 H1 s3:=Inv.asA J3 fr (fun z=>nomatch z)
    refine wpAny_handleBy_cons (codeAny_handlers_test ?_) (fun z=>nomatch z)
    refine JF (X:=hX X e) J4 hg mB ?_ hdb
    obtain ⟨oe,ws,T,oT,ts,g1,g2,g3,g4,g5,g6,g7,g8,g9⟩:=id t3.ob
    refine abV J4.kIn g1 g2.1 tB bB pC ?_
    refine codeAny_handlers_suite_as ?_
    refine wpAny_mono (zP (A:=X.A.mark (some (.ref e))) (E:=fun _ _=>False) none J3 t3) (fun _ s5 ⟨J5,t5⟩=>?_) fun _ _ z=>z.elim
    obtain ⟨oe5,ws5,T5,oT5,ts5,g51,g52,g53,_⟩:=id t5.ob
    obtain ⟨J6,sm6⟩:=Inv.take J5 t5.mine g51
    have J7:Inv (hX X e) [] σ1 (upd H1 e (.frz oe5 (.own e))) s5:=Inv.asA J6 fr (fun z=>nomatch z)
    have hlen:σ1.length=n:=by rw [←hN,←J5.len]
    refine aat (X:=hX X e) J7 hnd hi (.inl hlk) (v:= .ref e) rfl (fun s6 J8=>?_) (.inr hlk)
    have re:Rep X.K (upd H1 e (.frz oe5 (.own e))) (zk c) (.ref e):=⟨e,rfl,.inr (.inr (.inr (.inl ⟨c,_,oe5,rfl,jp,aeR aC,g52.1,g52.2,ws5,g53⟩)))⟩
    have eb:EnvR X.K (upd H1 e (.frz oe5 (.own e))) ((JV n).set i (some (zk c))) (σ1.set i (some (.ref e))):=by
     refine ⟨by simp [JV,hlen],fun j d qd=>?_⟩
     by_cases hj:j=i
     ·subst hj
      rw [List.getElem?_set_self (by simp only [JV,List.length_replicate]; rw [←hN]; exact (List.getElem?_eq_some_iff.mp hi).1)] at qd
      cases qd
      exact ⟨.ref e,List.getElem?_set_self (by rw [hlen,←hN]; exact (List.getElem?_eq_some_iff.mp hi).1),re⟩
     ·rw [List.getElem?_set_ne (Ne.symm hj)] at qd
      simp [JV,List.getElem?_replicate] at qd
    have k1:=(k (.rt d) μ' hR:Qf X H D (.rt d) μ')
    refine wpAny_mono (hh e [] s6 _ _ { D with nx:=fun _ _=>False,bk:=fun _ _=>False,ct:=fun _ _=>False } J8 ⟨_,.rt d,eb,hG,fun v H' sm' r=>k1 v H' (sm.trans (jn.a (sm6.trans sm'))) r (c1.mono (sm6.trans sm'))⟩) (fun f s7 z=>?_) fun _ _ z=>z.elim
    have z':=SP.ofA J5.ok z
    cases f with
    | next=>obtain ⟨_,_,_,z⟩:=z'; exact z.elim
    | brk=>obtain ⟨_,_,_,z⟩:=z'; exact z.elim
    | cont=>obtain ⟨_,_,_,z⟩:=z'; exact z.elim
    | ret u=>
     obtain ⟨v,σ',H',I',r,z⟩:=z'
     exact aiB I' hl fun s8 I8=>⟨v,_,H',I8,r,z⟩
  ·have z':=SP.unwish z
   cases f with
   | next=>exact wpAny_execs_nil z'
   | brk=>exact z'
   | cont=>exact z'
   | ret u=>exact z'
end
section
variable {P:Program}{w:World}{K:Fg}{mg:SV}{base:Heap}
theorem alO {x qual:Str}{st:Stmt}{f:Addr}{fd:FuncData}{N ps:List Str}{k:Nat}{T:TRS} (F:Fun K x qual st f fd) (S:FnScope N ps (jf st))
  (body:∀ (Kc:Value) (A:Around) (Ko:List Env) (s:Shared) (H:Hp) (E:XK),Room k (A.deeper (envOfC qual (jf st) s.heap.objs.size f Kc))->agp (zU CX0 P w K mg base N qual (jf st) f Kc A Ko s H E) (jR st) T):
  FnOk P w K mg base CX0 (k+1) f fd ps (ac5 K ps.length (qG N T)):=by
 with_unfolding_all
  obtain ⟨oc,od,kV,doc,pm,an,Kc,ct,osl,rfl,lk,hcd⟩:=F.ex
  refine aeO lk hcd S (fun vs H Q E h=>?_) fun A Ko s H vs Q E s1 hr h I=>?_
  ·obtain ⟨ds,μ,R,h1,h2,_⟩:=h
   rw [h2.length]; exact h1
  ·obtain ⟨ds,μ,R,h1,h2,h3,h4,h5,h6⟩:=h
   refine body Kc A Ko s H E hr s1 (L2.zO N vs) H _ I ⟨jC N ds,μ,_,Ji h2,h3,h4,fun o μ' r=>?_⟩
   cases o with
   | rt d=>exact fun v H' sA rv c=>h5 d μ' r v H' sA rv c
   | nx ρ=>exact fun σ H' sA e c=>h5 .none μ' r .non H' sA rfl c
   | bk ρ=>exact r.elim
   | ct ρ=>exact r.elim
   | er c=>exact (h6 c μ' r).elim
noncomputable def JZ (K:Fg) (x m qual:Str) (st:Stmt):Prop:=
 ∃ (C f:Addr) (oc:Value) (od an:Option Addr) (kV doc pm Kc ct:Value) (osl:Array (Option Value)),PySem.W.nsIn K mainGlobals x=some (some (.ref C))/\PySem.W.findIn K (.ref C) m=some (some (.ref f))/\PySem.W.isFn K (.ref f)=true/\
  K.lookup f=some ⟨oc,od,.func (PySem.W.fnOf m qual (Jq st) (jR st) (jf st) .none kV doc pm an Kc ct),osl⟩/\PySem.W.codeIn K Kc qual=true/\PySem.W.keepIn K (.ref f)=true
theorem zE {x m qual:Str}{st:Stmt}{C f:Addr}{oc:Value}{od an:Option Addr}{kV doc pm Kc ct:Value}{osl:Array (Option Value)} (a:PySem.W.nsIn K mainGlobals x=some (some (.ref C))) (b:PySem.W.findIn K (.ref C) m=some (some (.ref f))) (i:PySem.W.isFn K (.ref f)=true)
  (l:K.lookup f=some ⟨oc,od,.func (PySem.W.fnOf m qual (Jq st) (jR st) (jf st) .none kV doc pm an Kc ct),osl⟩) (c:PySem.W.codeIn K Kc qual=true) (k:PySem.W.keepIn K (.ref f)=true):JZ K x m qual st:=
 ⟨C,f,oc,od,an,kV,doc,pm,Kc,ct,osl,a,b,i,l,c,k⟩
noncomputable def ajR (K:Fg) (x:Str):Prop:=∃ C,PySem.W.nsIn K mainGlobals x=some (some (.ref C))/\Cls K C/\PySem.W.makesIn K C=true/\PySem.W.keepIn K (.ref C)=true
theorem anT {x:Str}{C:Addr} (a:PySem.W.nsIn K mainGlobals x=some (some (.ref C))) (b:PySem.W.plainGet K C Str.empty=true) (c:PySem.W.hasDictIn K C=true) (d:PySem.W.plainOver K C=true) (e:PySem.W.findIn K (.ref C) "__setattr__"=some (some (.builtin "object.__setattr__")))
  (f:PySem.W.makesIn K C=true) (g:PySem.W.keepIn K (.ref C)=true):ajR K x:=⟨C,a,⟨b,c,d,e⟩,f,g⟩
theorem anU {x f:Str}{C:Addr} (T:ajR K x) (a:PySem.W.nsIn K mainGlobals x=some (some (.ref C))) (b:PySem.W.findIn K (.ref C) f=some none):Jt K x f:=fun C' h=>by
 obtain ⟨D,d1,d2,_⟩:=T
 rw [a] at h; cases h
 rw [a] at d1; cases d1
 exact ⟨d2,b⟩
noncomputable abbrev qA (x qual:Str) (st:Stmt) (ps:List Str):Prop:=∀ (kV doc pm:Value) (an:Option Addr) (Kc ct:Value) (us:List Value),us.length=ps.length->bindArgs (PySem.W.fnOf x qual (Jq st) (jR st) (jf st) .none kV doc pm an Kc ct) ⟨us,[]⟩=pure (ps.zip us)
theorem JZ.met {x m qual:Str}{st:Stmt}{ps:List Str}{k n:Nat}{g:GC3} (T:JZ K x m qual st) (Tc:ajR K x) (hb:qA m qual st ps)
  (F:∀ (f:Addr) (fd:FuncData),Fun K m qual st f fd->FnOk P w K mg base (CXt P w) k f fd ps (agl K mg n g)):Jj P w K mg base x m ps k n g:=by
 obtain ⟨C,f,oc,od,an,kV,doc,pm,Kc,ct,osl,a,b,i,l,c,kp⟩:=T
 obtain ⟨C',a',cl,_⟩:=Tc
 rw [a] at a'; cases a'
 have F1:=aaf (st:=st) l c kp
 exact ⟨C,f,_,a,cl,⟨b,i,kp⟩,F f _ F1,F1.binds hb⟩
theorem JZ.mak {h:Heap}{x qual:Str}{st:Stmt}{ps:List Str}{k n:Nat}{g:GC3} (T:JZ K x "__init__" qual st) (Tc:ajR K x) (X:K.In h) (G:h.Ns mainGlobals mg) (hb:qA "__init__" qual st ps)
  (F:∀ (f:Addr) (fd:FuncData),Fun K "__init__" qual st f fd->FnOk P w K mg base (CXt P w) k f fd ps (agl K mg n g)):alL P w K mg base x ps k n g:=by
 obtain ⟨C,f,oc,od,an,kV,doc,pm,Kc,ct,osl,a,b,i,l,c,kp⟩:=T
 obtain ⟨C',a',cl,mk,kc⟩:=Tc
 rw [a] at a'; cases a'
 have F1:=aaf (st:=st) l c kp
 exact ⟨C,f,_,a,PySem.W.mg_of X G a,⟨mk,b,i,kc⟩,F f _ F1,F1.binds hb⟩
theorem jU.cal0 {h:Heap}{x:Str}{st:Stmt}{ps:List Str}{k n:Nat}{g:GC3} (T:jU K x st) (X:K.In h) (G:h.Ns mainGlobals mg)
  (hb:ju x st ps) (F:∀ (f:Addr) (fd:FuncData),Fun K x x st f fd->FnOk P w K mg base CX0 k f fd ps (ac5 K n g)):adX P w K mg base x ps k n g:=by
 obtain ⟨f,oc,od,an,kV,doc,pm,Kc,ct,osl,a,l,c,kp⟩:=T
 have F1:=aaf (st:=st) l c kp
 exact ⟨f,_,F f _ F1,PySem.W.mg_of X G a,kp,F1.binds hb⟩
end
section
variable {X:Cx}{e a b tg src:Expr}{es:List Expr}{Tr:TR (LP)}{S:TRS}{body:List Stmt}{pos:Pos}
end
section
variable {X:Cx}{e a b c tg src:Expr}{es:List Expr}{Ta Tb:TR PyData}{Tr:TR (LP)}{S:TRS}{body:List Stmt}{pos:Pos}{x:Str}
end
noncomputable def ajS (K:Fg) (x f:Str):Prop:=∃ C,PySem.W.nsIn K mainGlobals x=some (some (.ref C))/\PySem.W.findIn K (.ref C) f=some none
theorem aeW {K:Fg}{x f:Str}{C:Addr} (a:PySem.W.nsIn K mainGlobals x=some (some (.ref C))) (b:PySem.W.findIn K (.ref C) f=some none):ajS K x f:=⟨C,a,b⟩
theorem ajS.cls {K:Fg}{x f:Str} (h:ajS K x f) (T:ajR K x):Jt K x f:=by
 obtain ⟨C,a,b⟩:=h
 exact anU T a b
end BX
end
local macro_rules
  | `(tactic| dsimp? [$xs,*])=>`(tactic| simp only [BX.jK,BX.ifS,BX.ifD,BX.ifX,BX.ash,BX.orB,BX.zn,BX.tst,BX.op2,BX.chn,BX.jB,BX.ab4,BX.zB,BX.jj,BX.jv,BX.lkp,BX.cst,BX.qB,BX.Jc,BX.qV,BX.jO,BX.qu,BX.nxX,BX.orX,BX.ahA,BX.afU,BX.asB,zzA,zzB,zzC,zzD,zzH,zzE,zzI,zzF,zzG,zzJ,zzK,zzL,zzM,zzN,$(⟨xs.elemsAndSeps⟩),*])
section
namespace Rods
open PySem L2 BX
open PyProof.Rows hiding St
noncomputable def top (i:Nat):Stmt:=PySem.Challenge.pw_beadrods_k50_hands.main.body.getD i (.Pass ⟨0,0,0,0⟩)
structure Bare (mg:SV):Prop where
 isi:mg "isinstance"=none
 bool:mg "bool"=none
 int:mg "int"=none
 tuple:mg "tuple"=none
 zip:mg "zip"=none
 range:mg "range"=none
 all:mg "all"=none
 len:mg "len"=none
 max:mg "max"=none
 min:mg "min"=none
 sum:mg "sum"=none
 sorted:mg "sorted"=none
 abs:mg "abs"=none
 list:mg "list"=none
 enum:mg "enumerate"=none
 vale:mg "ValueError"=none
 str:mg "str"=none
 set:mg "set"=none
 dict:mg "dict"=none
theorem anV:bootBuiltins "bool"=some (.type "bool"):=by decide +kernel
theorem apM:bootBuiltins "int"=some (.type "int"):=by decide +kernel
theorem QG:bootBuiltins "tuple"=some (.type "tuple"):=by decide +kernel
theorem anW:bootBuiltins "list"=some (.type "list"):=by decide +kernel
theorem alP:bootBuiltins "all"=some (.builtin "all"):=by decide +kernel
theorem qJ:bootBuiltins "len"=some (.builtin "len"):=by decide +kernel
theorem ahv:bootBuiltins "max"=some (.builtin "max"):=by decide +kernel
theorem aeF:bootBuiltins "min"=some (.builtin "min"):=by decide +kernel
noncomputable abbrev aaO:Stmt:=top 9
noncomputable abbrev ZD:Stmt:=top 18
noncomputable abbrev aaP:Stmt:=top 17
noncomputable abbrev aeX:Stmt:=top 20
noncomputable abbrev zm (C:Program->World->Fg->(SV)->Heap->Prop) (qual:Str) (st:Stmt) (N:List Str) (k:Nat) (B:RO):Prop:=
 ∀ (P:Program) (w:World) (K:Fg) (mg:SV) (base:Heap) (f:Addr) (Kc:Value) (A:Around) (Ko:List Env) (s:Shared) (H:Hp) (E:XK),C P w K mg base->Room k (A.deeper (envOfC qual (jf st) s.heap.objs.size f Kc))->
  Zb (zU CX0 P w K mg base N qual (jf st) f Kc A Ko s H E).nox (jR st) B
theorem ahH:FnScope ["thing","least","most"] ["thing","least","most"] (jf aaO):=⟨rfl,rfl,rfl,by decide +kernel,rfl,by decide +kernel,by decide +kernel⟩
noncomputable def aaQ:{ B:RO // zm (fun _ _ _ mg _=>Bare mg) "is_whole" aaO ["thing","least","most"] 0 B }:=
 ⟨_,fun P w K mg base f Kc A Ko s H E T hr=>
  je (qg (JR (aag (qw (abn (.inl rfl) T.isi T.bool anV (jb 0))) (QQ (qx (qw (abn (.inr (.inl rfl)) T.isi T.int apM (jb 0))))))) (je (jy Js) jk) jk)
  (je (jy (akY aeD aeD (jb 1) (jb 0) (jb 2))) jk)⟩
noncomputable def jW:LP->OP:=jw ["thing","least","most"] 3 aaQ.1
theorem agr:FnScope ["manner","rod"] ["manner","rod"] (jf ZD):=⟨rfl,rfl,rfl,by decide +kernel,rfl,by decide +kernel,by decide +kernel⟩
noncomputable def abx:{ B:RO // zm (fun _ _ _ _ _=>True) "rod_worth" ZD ["manner","rod"] 0 B }:=
 ⟨_,fun P w K mg base f Kc A Ko s H E T hr=>
  je (jy (jr jD (jr qY (jJ (jb 1) jg) (jJ (jb 0) jg)) (jJ (jb 1) jg))) jk⟩
noncomputable def qN:LP->OP:=jw ["manner","rod"] 2 abx.1
theorem alQ:FnScope ["rod"] ["rod"] (jf aeX):=⟨rfl,rfl,rfl,by decide +kernel,rfl,by decide +kernel,by decide +kernel⟩
noncomputable def ahI:{ B:RO // zm (fun _ _ _ _ _=>True) "beads" aeX ["rod"] 0 B }:=
 ⟨_,fun P w K mg base f Kc A Ko s H E T hr=>je (jy (jr jD (jJ (jb 0) jg) (jJ (jb 0) jg))) jk⟩
noncomputable def Jy:LP->OP:=jw ["rod"] 1 ahI.1
noncomputable def Qu (i:Nat) (m:Nat):LP:=(List.range m).map fun (j:Nat)=>PyData.tuple [.int (i:Int),.int (j:Int)]
noncomputable def Q5 (n m:Nat):LP:=(List.range n).flatMap fun (i:Nat)=>Qu i m
theorem ags (i m:Nat):Qu i (m+1)=Qu i m++[PyData.tuple [.int (i:Int),.int (m:Int)]]:=by simp [Qu,List.range_succ]
theorem aak (n m:Nat):Q5 (n+1) m=Q5 n m++Qu n m:=by simp [Q5,List.range_succ]
theorem agt (i m:Nat):noLs (Qu i m)=true:=acN fun d hd=>by
 obtain ⟨j,_,rfl⟩:=List.mem_map.mp hd
 simp [noL,noLs]
theorem ajT (n m:Nat):noLs (Q5 n m)=true:=by
 induction n with
 | zero=>simp [Q5,noLs]
 | succ n ih=>rw [aak,Zg,ih,agt]; rfl
theorem aiH (i m:Nat):(Qu i m).length=m:=by simp [Qu]
theorem agu (n m:Nat):(Q5 n m).length=n*m:=by
 induction n with
 | zero=>simp [Q5]
 | succ n ih=>rw [aak,List.length_append,ih,aiH,Nat.succ_mul]
noncomputable def J1 (ds:LP):OP:=match ds with
 | [.tuple [.int u,.int _,.int l,.int _]]=>if 0<=u/\u<1000/\0<=l/\l<1000 then some (.list (Q5 (u+1).toNat (l+1).toNat)) else none
 | _=>none
theorem QW:FnScope ["manner","rods","upper","lower"] ["manner"] (jf aaP):=⟨rfl,rfl,rfl,by decide +kernel,rfl,by decide +kernel,by decide +kernel⟩
section
variable {P:Program}{w:World}{K:Fg}{mg:SV}{base:Heap}
theorem ahJ {f:Addr}{fd:FuncData} (F:Fun K "all_rods" "all_rods" aaP f fd) (T:Bare mg):FnOk P w K mg base CX0 1 f fd ["manner"] (Pur K 1 J1):=by
 with_unfolding_all
  refine F.ok QW (fun vs H Q E h=>?_) (fun Kc A Ko s H vs Q E hr h=>?_)
  ·obtain ⟨ds,d,h1,h2,_⟩:=h
   rw [h2.length]; exact h1
  ·obtain ⟨ds,d,h1,h2,h3,k⟩:=h
   unfold J1 at h3
   split at h3
   ·rename_i u e l b
    split at h3
    ·rename_i hb
     obtain ⟨hu0,hu1,hl0,hl1⟩:=hb
     cases h3
     refine ⟨_,Qz (abb (i:=1) QW.nd rfl (Or.inl rfl) (ahl zw))
      (Qz (abd PassesOwn.never rfl (abc rfl T.range (ja (jr jD (jJ (jb 0) jg) jg) jd)) (aca (i:=2) QW.nd rfl (Or.inl rfl))
       (aer (abd PassesOwn.never rfl (abc rfl T.range (ja (jr jD (jJ (jb 0) jg) jg) jd)) (aca (i:=3) QW.nd rfl (Or.inl rfl))
        (aer (ab9 (afQ PySem.F.plainAttrs_list PySem.F.slot_list_append PySem.F.type_list_append adM (pv 1) (qv (akL (qv (pv 2) (qv (pv 3) zw))) zw)))))))
      (aer (aes (pv 1)))),?_⟩
     obtain ⟨mv,rr,e1,em,e2⟩:=h2
     cases (show rr=[] from e2)
     subst e1
     have nm:noL (PyData.tuple [.int u,.int e,.int l,.int b])=true:=by simp [noL,noLs]
     refine ⟨Nat.zero_le _,fun p hp=>?_⟩
     have envr:∀ {H2:Hp} {x2 x3:Option V} {y:Option V},jn H H2->EnvR K H2 [some (PyData.tuple [.int u,.int e,.int l,.int b]),none,none,none] [some mv,y,x2,x3]:=fun {H2 x2 x3 y} s2=>
      ⟨rfl,fun i d q=>by
       cases i with
       | zero=>cases q; exact ⟨mv,rfl,Rep.mono s2 _ _ em⟩
       | succ i=>
        match i,q with
        | 0,q=>cases q
        | 1,q=>cases q
        | 2,q=>cases q
        | j+3,q=>simp at q⟩
     refine ⟨_,[.int (u+1)],envr (jV hp),by simp [jj,jv,op2,lkp,dIx,atI,ixN,cst,zV],fun vs1 H1 s1 r1=>?_⟩
     obtain ⟨y1,q1,f1,f2,f3⟩:=r1
     cases (show y1=V.int (u+1) from f2)
     cases (show q1=[] from f3)
     subst f1
     refine ⟨u+1,rfl,by omega,by omega,adG (n:=(u+1).toNat) (fun i σ H2=>∃ x2 x3 xs,σ=[some mv,some (.ref p),x2,x3]/\jn H H2/\H2 p=some (.lst xs)/\Reps K H2 (Q5 i (l+1).toNat) xs)
      ⟨none,none,[],rfl,(jV hp).trans s1,s1 _ _ jp,rfl⟩ ?_ ?_⟩
     ·rintro i σ H2 hi ⟨x2,x3,xs,rfl,s2,hp2,r2⟩
      refine ⟨_,[.int (l+1)],envr s2,by simp [jj,jv,op2,lkp,dIx,atI,ixN,cst,zV],fun vs2 H3 s3 r3=>?_⟩
      obtain ⟨y2,q2,g1,g2,g3⟩:=r3
      cases (show y2=V.int (l+1) from g2)
      cases (show q2=[] from g3)
      subst g1
      refine ⟨l+1,rfl,by omega,by omega,adG (n:=(l+1).toNat) (fun j σ H4=>∃ x3 ys,σ=[some mv,some (.ref p),some (.int (0+i)),x3]/\jn H H4/\H4 p=some (.lst ys)/\Reps K H4 (Q5 i (l+1).toNat++Qu i j) ys)
       ⟨x3,xs,rfl,s2.trans s3,s3 _ _ hp2,by simpa [Qu] using Reps.mono s3 _ _ r2⟩ ?_ ?_⟩
      ·rintro j σ H4 hj ⟨x3',ys,rfl,s4,hp4,r4⟩
       have hlen:ys.length<sizeLine:=by
        rw [r4.length,List.length_append,agu,aiH,sizeLine_eq]
        have h1:i*(l+1).toNat<=1000*1001:=Nat.mul_le_mul (by omega) (by omega)
        omega
       refine ⟨_,rfl,.inl ⟨rfl,ys,SqL.of hp4⟩,_,rfl,_,rfl,by show 2<=sizeLine; rw [sizeLine_eq]; decide,fun q hq=>?_⟩
       have npq:p ≠ q:=qX hp4 hq
       refine ⟨p,ys,.ref q,rfl,rfl,by rw [jt npq]; exact hp4,hlen,?_⟩
       have t1:JC H4 (upd (upd H4 q (.tup [.int (0+(i:Int)),.int (0+(j:Int))])) p (.lst (ys++[.ref q]))):=
        (jn.n (jV hq)).trans (JC.upd (xs:=ys) (by rw [jt npq]; exact hp4))
       refine ⟨_,ys++[.ref q],rfl,fun c o hc=>?_,jp,?_⟩
       ·have hc4:=s4 c o hc
        rw [jt (qX hc hp),jt (qX hc4 hq)]
        exact hc4
       ·rw [ags,←List.append_assoc]
        refine (Reps.monoN t1 _ _ (by rw [Zg,ajT,agt]; rfl) r4).append ⟨.ref q,[],rfl,⟨q,_,rfl,SqT.of (by rw [jt (Ne.symm npq)]; exact jp),?_⟩,rfl⟩
        exact ⟨_,_,rfl,by show _=V.int _; rw [Int.zero_add],_,_,rfl,by show _=V.int _; rw [Int.zero_add],rfl⟩
      ·rintro σ H4 ⟨x3',ys,rfl,s4,hp4,r4⟩
       exact ⟨_,x3',ys,rfl,s4,hp4,by rw [aak]; exact r4⟩
     ·rintro σ H2 ⟨x2,x3,xs,rfl,s2,hp2,r2⟩
      exact ⟨_,rfl,k _ _ s2 ⟨p,xs,rfl,hp2,r2⟩⟩
    ·cases h3
   ·cases h3
end
noncomputable abbrev ZE:Stmt:=top 14
noncomputable abbrev ZF:Stmt:=top 13
noncomputable abbrev CC:=Program->World->Fg->(SV)->Heap->Prop
structure CHasAll (P:Program) (w:World) (K:Fg) (mg:SV) (base:Heap):Prop where
 t:Bare mg
 allRods:jl P w K mg base "all_rods" ["manner"] 1 1 J1
 rodWorth:jl P w K mg base "rod_worth" ["manner","rod"] 1 2 qN
theorem adZ:FnScope ["manner","worths"] ["manner"] (jf ZE):=⟨rfl,rfl,rfl,by decide +kernel,rfl,by decide +kernel,by decide +kernel⟩
theorem nd2:(["rod","manner"]:List Str).Nodup:=by decide +kernel
theorem nd3:(["digit","worths"]:List Str).Nodup:=by decide +kernel
noncomputable def aeY:{ B:RO // zm CHasAll "has_all_digits" ZE ["manner","worths"] 1 B }:=
 ⟨_,fun P w K mg base f Kc A Ko s H E C hr=>
  je (jM 1 adZ.nd (aax ["rod","manner"] [none,some 0] rfl (Zd (ji C.allRods hr (Nat.le_refl _) (ja (jb 0) jd) (jc jh))) (aaC (jf ZE) ["manner","worths"] (by decide +kernel))
   fun cl C' s0 H0 fp pn=>⟨qU 0 nd2,aaw,ji C.rodWorth hr (Nat.le_refl _) (ja (jb 1) (ja (jb 0) jd)) (jc (jc jh))⟩))
  (je (jy (jQ (ak0 rfl) C.t.all alP (ja (aax ["digit","worths"] [none,some 1] rfl (aah rfl C.t.range (ja (jJ (jb 0) jg) jd)) (aaC (jf ZE) ["manner","worths"] (by decide +kernel))
   fun cl C' s0 H0 fp pn=>⟨qU 0 nd3,aaw,akU (aps hr.units) (jb 0) (jb 1)⟩) jd))) jk)⟩
noncomputable abbrev ac7:Stmt:=top 15
noncomputable abbrev QH:Stmt:=top 19
noncomputable abbrev ach:Stmt:=top 21
noncomputable def GC (K:Fg) (mg:SV) (x:Str) (d:PyData):Prop:=∃ v u,mg x=some u/\j8 v u/\∀ H,Rep K H d v
theorem qP {X:Cx}{pos:Pos}{x:Str}{d:PyData} (c:GC X.K X.mg x d) (hg:Gl X x:=by rfl) (hd:(x == ("__debug__":Str))=false:=by decide):PD X (.Name x pos) (cst d):=by
 with_unfolding_all
  obtain ⟨v,u,h1,h2,h3⟩:=c
  exact anc hg h1 h2 h3 hd
noncomputable def aaR:LP->OP:=jw ["manner","worths"] 1 aeY.1
structure CIsManner (P:Program) (w:World) (K:Fg) (mg:SV) (base:Heap):Prop where
 t:Bare mg
 least:GC K mg "LEAST_PARTS" (.tuple [.int 0,.int 1,.int 0,.int 2])
 most:GC K mg "MOST_PARTS" (.tuple [.int 3,.int 16,.int 12,.int 16])
 isWhole:jl P w K mg base "is_whole" ["thing","least","most"] 1 3 jW
 hasAll:jl P w K mg base "has_all_digits" ["manner"] 2 1 aaR
theorem Qh:FnScope ["thing","part","least","most"] ["thing"] (jf ZF):=⟨rfl,rfl,rfl,by decide +kernel,rfl,by decide +kernel,by decide +kernel⟩
noncomputable def aby:{ B:RO // zm CIsManner "is_manner" ZF ["thing","part","least","most"] 2 B }:=
 ⟨_,fun P w K mg base f Kc A Ko s H E C hr=>
  je (qg (JR (aag (qx (qw (abn (.inr (.inr rfl)) C.t.isi C.t.tuple QG (jb 0)))) (QQ (jS (zW hr.units) (jQ qI C.t.len qJ (ja (jb 0) jd)) (jQ qI C.t.len qJ (ja (qP C.most) jd)))))) (je (jy Js) jk) jk)
  (je (acb PassesOwn.never rfl (ak4 C.t.zip (ja (jb 0) (ja (qP C.least) (ja (qP C.most) jd)))) (aiq (n:=3) rfl (QA (qU 1 Qh.nd) (QA (qU 2 Qh.nd) (QA (qU 3 Qh.nd) afV))))
   (je (qg (qx (qw (ji C.isWhole hr (by decide) (ja (jb 1) (ja (jb 2) (ja (jb 3) jd))) (jc (jc (jc jh)))))) (je (jy Js) jk) jk) jk))
  (je (jy (ji C.hasAll hr (Nat.le_refl _) (ja (jb 0) jd) (jc jh))) jk))⟩
noncomputable def qH:LP->OP:=jw ["thing","part","least","most"] 1 aby.1
structure CCheck (P:Program) (w:World) (K:Fg) (mg:SV) (base:Heap):Prop where
 isManner:jl P w K mg base "is_manner" ["thing"] 3 1 qH
theorem agv:FnScope ["thing"] ["thing"] (jf ac7):=⟨rfl,rfl,rfl,by decide +kernel,rfl,by decide +kernel,by decide +kernel⟩
noncomputable def aeZ:{ B:RO // zm CCheck "check_manner" ac7 ["thing"] 3 B }:=
 ⟨_,fun P w K mg base f Kc A Ko s H E C hr=>
  je (qg (qx (qw (ji C.isManner hr (Nat.le_refl _) (ja (jb 0) jd) (jc jh)))) zp jk) jk⟩
noncomputable def Jk:LP->OP:=jw ["thing"] 1 aeZ.1
structure CRodsWith (P:Program) (w:World) (K:Fg) (mg:SV) (base:Heap):Prop where
 allRods:jl P w K mg base "all_rods" ["manner"] 1 1 J1
 rodWorth:jl P w K mg base "rod_worth" ["manner","rod"] 1 2 qN
theorem agw:FnScope ["manner","worth"] ["manner","worth"] (jf QH):=⟨rfl,rfl,rfl,by decide +kernel,rfl,by decide +kernel,by decide +kernel⟩
theorem nd4:(["rod","manner","worth"]:List Str).Nodup:=by decide +kernel
noncomputable def abz:{ B:RO // zm CRodsWith "rods_with" QH ["manner","worth"] 1 B }:=
 ⟨_,fun P w K mg base f Kc A Ko s H E C hr=>
  je (jy (aax ["rod","manner","worth"] [none,some 0,some 1] rfl (Zd (ji C.allRods hr (Nat.le_refl _) (ja (jb 0) jd) (jc jh))) (aaC (jf QH) ["manner","worth"] (by decide +kernel))
   fun cl C' s0 H0 fp pn=>⟨qU 0 nd4,akW (jS (zx hr.units) (ji C.rodWorth hr (Nat.le_refl _) (ja (jb 1) (ja (jb 0) jd)) (jc (jc jh))) (jb 2)),jb 0⟩)) jk⟩
noncomputable def ZG:LP->OP:=jw ["manner","worth"] 2 abz.1
structure CFewest (P:Program) (w:World) (K:Fg) (mg:SV) (base:Heap):Prop where
 t:Bare mg
 rodsWith:jl P w K mg base "rods_with" ["manner","worth"] 2 2 ZG
 beads:jl P w K mg base "beads" ["rod"] 1 1 Jy
theorem ajU:FnScope ["manner","worth"] ["manner","worth"] (jf ach):=⟨rfl,rfl,rfl,by decide +kernel,rfl,by decide +kernel,by decide +kernel⟩
noncomputable def ae0:{ B:RO // zm CFewest "fewest_beads" ach ["manner","worth"] 2 B }:=
 ⟨_,fun P w K mg base f Kc A Ko s H E C hr=>
  je (jy (ala rfl C.beads hr (Nat.le_refl _) C.t.min (ji C.rodsWith hr (by decide) (ja (jb 0) (ja (jb 1) jd)) (jc (jc jh))))) jk⟩
noncomputable def Qi:LP->OP:=jw ["manner","worth"] 2 ae0.1
noncomputable abbrev J9:Stmt:=top 27
noncomputable abbrev Ja:Stmt:=top 28
noncomputable abbrev Jv:Stmt:=top 29
noncomputable abbrev JM:Stmt:=top 30
noncomputable abbrev alR (C:CC) (qual:Str) (st:Stmt) (N:List Str) (k:Nat) (sts:List Stmt) (B:RO):Prop:=
 ∀ (P:Program) (w:World) (K:Fg) (mg:SV) (base:Heap) (f:Addr) (Kc:Value) (A:Around) (Ko:List Env) (s:Shared) (H:Hp) (E:XK),C P w K mg base->Room k (A.deeper (envOfC qual (jf st) s.heap.objs.size f Kc))->
  Zb (zU CX0 P w K mg base N qual (jf st) f Kc A Ko s H E).nox sts B
noncomputable abbrev alS (own:Nat) (C:CC) (qual:Str) (st:Stmt) (N:List Str) (k:Nat) (sts:List Stmt) (B:RO):Prop:=
 ∀ (P:Program) (w:World) (K:Fg) (mg:SV) (base:Heap) (f:Addr) (Kc:Value) (A:Around) (Ko:List Env) (s:Shared) (H:Hp) (E:XK),C P w K mg base->Room k (A.deeper (envOfC qual (jf st) s.heap.objs.size f Kc))->
  adx (zU CX0 P w K mg base N qual (jf st) f Kc A Ko s H E).nox (some own) sts B
noncomputable def ZH:Stmt->List Stmt
 | .For _ _ b _ _=>b
 | _=>[]
noncomputable def ahK (l:List Stmt) (i:Nat):Stmt:=l.getD i (.Pass ⟨0,0,0,0⟩)
structure CNum (P:Program) (w:World) (K:Fg) (mg:SV) (base:Heap):Prop where
 rodWorth:jl P w K mg base "rod_worth" ["manner","rod"] 1 2 qN
noncomputable abbrev anX:List Str:=["manner","setting","number","rod"]
theorem ae1:FnScope anX ["manner","setting"] (jf JM):=⟨rfl,rfl,rfl,by decide +kernel,rfl,by decide +kernel,by decide +kernel⟩
noncomputable def ae2:{ B:RO // alR CNum "number_on" JM anX 1 (ZH (ahK (jR JM) 1)) B }:=
 ⟨_,fun P w K mg base f Kc A Ko s H E C hr=>
  je (jM 2 ae1.nd (jr jD (jr qY (jb 2) (jJ (jb 0) jg)) (ji C.rodWorth hr (Nat.le_refl _) (ja (jb 0) (ja (jb 3) jd)) (jc (jc jh))))) jk⟩
noncomputable def anY:{ B:RO // zm CNum "number_on" JM anX 1 B }:=
 ⟨_,fun P w K mg base f Kc A Ko s H E C hr=>
  je (jM 2 ae1.nd jg) (je (acb PassesOwn.never rfl (aeA (jb 1)) (qU 3 ae1.nd) (ae2.2 P w K mg base f Kc A Ko s H E C hr)) (je (jy (jb 2)) jk))⟩
noncomputable def Qv:LP->OP:=jw anX 2 anY.1
structure CChkRods (P:Program) (w:World) (K:Fg) (mg:SV) (base:Heap):Prop where
 isWhole:jl P w K mg base "is_whole" ["thing","least","most"] 1 3 jW
 most:GC K mg "MOST_RODS" (.int 4)
theorem ac8:FnScope ["rods"] ["rods"] (jf J9):=⟨rfl,rfl,rfl,by decide +kernel,rfl,by decide +kernel,by decide +kernel⟩
noncomputable def Zl:{ B:RO // zm CChkRods "check_rods" J9 ["rods"] 1 B }:=
 ⟨_,fun P w K mg base f Kc A Ko s H E C hr=>
  je (qg (qx (qw (ji C.isWhole hr (Nat.le_refl _) (ja (jb 0) (ja jg (ja (qP C.most) jd))) (jc (jc (jc jh)))))) zp jk) jk⟩
noncomputable def zd:LP->OP:=jw ["rods"] 1 Zl.1
structure CChkNum (P:Program) (w:World) (K:Fg) (mg:SV) (base:Heap):Prop where
 isWhole:jl P w K mg base "is_whole" ["thing","least","most"] 1 3 jW
 most:GC K mg "MOST_NUMBER" (.int 99999)
theorem ad0:FnScope ["number"] ["number"] (jf Ja):=⟨rfl,rfl,rfl,by decide +kernel,rfl,by decide +kernel,by decide +kernel⟩
noncomputable def aaS:{ B:RO // zm CChkNum "check_number" Ja ["number"] 1 B }:=
 ⟨_,fun P w K mg base f Kc A Ko s H E C hr=>
  je (qg (qx (qw (ji C.isWhole hr (Nat.le_refl _) (ja (jb 0) (ja jg (ja (qP C.most) jd))) (jc (jc (jc jh)))))) zp jk) jk⟩
noncomputable def qo:LP->OP:=jw ["number"] 1 aaS.1
structure CAsked (P:Program) (w:World) (K:Fg) (mg:SV) (base:Heap):Prop where
 check:jl P w K mg base "check_manner" ["thing"] 4 1 Jk
 rods:jl P w K mg base "check_rods" ["rods"] 2 1 zd
 num:jl P w K mg base "check_number" ["number"] 2 1 qo
theorem agx:FnScope ["manner","rods","number"] ["manner","rods","number"] (jf Jv):=⟨rfl,rfl,rfl,by decide +kernel,rfl,by decide +kernel,by decide +kernel⟩
noncomputable def abA:{ B:RO // zm CAsked "check_asked" Jv ["manner","rods","number"] 4 B }:=
 ⟨_,fun P w K mg base f Kc A Ko s H E C hr=>
  je (j5 (ji C.check hr (Nat.le_refl _) (ja (jb 0) jd) (jc jh)))
  (je (j5 (ji C.rods hr (by decide) (ja (jb 1) jd) (jc jh)))
  (je (j5 (ji C.num hr (by decide) (ja (jb 2) jd) (jc jh))) jk))⟩
noncomputable def zL:LP->OP:=jw ["manner","rods","number"] 3 abA.1
noncomputable abbrev ae3:Stmt:=top 16
noncomputable abbrev Jl:Stmt:=top 25
noncomputable abbrev zF:Stmt:=top 26
noncomputable abbrev aaT:Stmt:=top 31
noncomputable abbrev ZI:Stmt:=top 32
noncomputable abbrev ZJ:Stmt:=top 33
noncomputable abbrev anZ:List Str:=["base","rods","number","digits","left"]
noncomputable def ajV:Stmt->List Stmt
 | .While _ b _ _=>b
 | _=>[]
theorem ae4:FnScope anZ ["base","rods","number"] (jf ZJ):=⟨rfl,rfl,rfl,by decide +kernel,rfl,by decide +kernel,by decide +kernel⟩
noncomputable def aal:{ B:RO // alS 3 (fun _ _ _ mg _=>Bare mg) "digits_by_rods" ZJ anZ 0 (ajV (ahK (jR ZJ) 2)) B }:=
 ⟨_,fun P w K mg base f Kc A Ko s H E C hr=>
  j6 (aeJ (ahz 3 jg (jr Qd (jb 4) (jb 0))))
  (j6 (Qe 4 ae4.nd (jr JS (jb 4) (jb 0))) JU)⟩
noncomputable def an0:{ B:RO // zm (fun _ _ _ mg _=>Bare mg) "digits_by_rods" ZJ anZ 0 B }:=
 ⟨_,fun P w K mg base f Kc A Ko s H E C hr=>
  acQ (acT 3 ae4.nd (acS jd)
  (j6 (Qe 4 ae4.nd (jb 2))
  (j6 (ajz 10 PassesOwn.never (jS acL (jQ qI C.len qJ (ja (jb 3) jd)) (jr zg (jb 1) jg)) (aal.2 P w K mg base f Kc A Ko s H E C hr))
  (j6 (aeH (jr jD (zo (ja (jb 4) jd)) (jb 3))) JU))))⟩
noncomputable def ab7:LP->OP:=jw anZ 3 an0.1
structure CPlainR (P:Program) (w:World) (K:Fg) (mg:SV) (base:Heap):Prop where
 t:Bare mg
 dig:jl P w K mg base "digits_by_rods" ["base","rods","number"] 1 3 ab7
 fewest:jl P w K mg base "fewest_beads" ["manner","worth"] 3 2 Qi
noncomputable abbrev ZK:List Str:=["manner","rods","number","digits"]
theorem ZL:FnScope ZK ["manner","rods","number"] (jf ZI):=⟨rfl,rfl,rfl,by decide +kernel,rfl,by decide +kernel,by decide +kernel⟩
theorem ndd:(["digit","manner"]:List Str).Nodup:=by decide +kernel
noncomputable def ZM:{ B:RO // zm CPlainR "plain_rods" ZI ZK 3 B }:=
 ⟨_,fun P w K mg base f Kc A Ko s H E C hr=>
  je (jM 3 ZL.nd (ji C.dig hr (by decide) (ja (jJ (jb 0) jg) (ja (jb 1) (ja (jb 2) jd))) (jc (jc (jc jh)))))
  (je (qg (jS akX (jJ (jb 3) jg) (jJ (jb 0) jg)) zp jk)
  (je (jy (adO af5 C.t.tuple QG (ja (aax ["digit","manner"] [none,some 0] rfl (Zd (jb 3)) (aaC (jf ZI) ZK (by decide +kernel))
   fun cl C' s0 H0 fp pn=>⟨qU 0 ndd,aaw,ji C.fewest hr (Nat.le_refl _) (ja (jb 1) (ja (jb 0) jd)) (jc (jc jh))⟩) jd))) jk))⟩
noncomputable def JG:LP->OP:=jw ZK 3 ZM.1
structure CPlainS (P:Program) (w:World) (K:Fg) (mg:SV) (base:Heap):Prop where
 asked:jl P w K mg base "check_asked" ["manner","rods","number"] 5 3 zL
 rods:jl P w K mg base "plain_rods" ["manner","rods","number"] 4 3 JG
theorem ad1:FnScope ["manner","rods","number"] ["manner","rods","number"] (jf aaT):=⟨rfl,rfl,rfl,by decide +kernel,rfl,by decide +kernel,by decide +kernel⟩
noncomputable def aaU:{ B:RO // zm CPlainS "plain_setting" aaT ["manner","rods","number"] 5 B }:=
 ⟨_,fun P w K mg base f Kc A Ko s H E C hr=>
  je (j5 (ji C.asked hr (Nat.le_refl _) (ja (jb 0) (ja (jb 1) (ja (jb 2) jd))) (jc (jc (jc jh)))))
  (je (jy (ji C.rods hr (by decide) (ja (jb 0) (ja (jb 1) (ja (jb 2) jd))) (jc (jc (jc jh))))) jk)⟩
noncomputable def qL:LP->OP:=jw ["manner","rods","number"] 3 aaU.1
structure CIsRod (P:Program) (w:World) (K:Fg) (mg:SV) (base:Heap):Prop where
 t:Bare mg
 isWhole:jl P w K mg base "is_whole" ["thing","least","most"] 1 3 jW
theorem alT:FnScope ["manner","thing"] ["manner","thing"] (jf ae3):=⟨rfl,rfl,rfl,by decide +kernel,rfl,by decide +kernel,by decide +kernel⟩
noncomputable def abB:{ B:RO // zm CIsRod "is_rod" ae3 ["manner","thing"] 1 B }:=
 ⟨_,fun P w K mg base f Kc A Ko s H E C hr=>
  je (qg (JR (aag (qx (qw (abn (.inr (.inr rfl)) C.t.isi C.t.tuple QG (jb 1)))) (QQ (jS (zW hr.units) (jQ qI C.t.len qJ (ja (jb 1) jd)) jg)))) (je (jy Js) jk) jk)
  (je (jy (alh (ji C.isWhole hr (Nat.le_refl _) (ja (jJ (jb 1) jg) (ja jg (ja (jJ (jb 0) jg) jd))) (jc (jc (jc jh)))) (alg (ji C.isWhole hr (Nat.le_refl _) (ja (jJ (jb 1) jg) (ja jg (ja (jJ (jb 0) jg) jd))) (jc (jc (jc jh))))))) jk)⟩
noncomputable def Qw:LP->OP:=jw ["manner","thing"] 2 abB.1
structure CIsSet (P:Program) (w:World) (K:Fg) (mg:SV) (base:Heap):Prop where
 t:Bare mg
 check:jl P w K mg base "check_manner" ["thing"] 4 1 Jk
 isRod:jl P w K mg base "is_rod" ["manner","thing"] 2 2 Qw
 most:GC K mg "MOST_RODS" (.int 4)
theorem agy:FnScope ["manner","thing"] ["manner","thing"] (jf Jl):=⟨rfl,rfl,rfl,by decide +kernel,rfl,by decide +kernel,by decide +kernel⟩
theorem ndp:(["part","manner"]:List Str).Nodup:=by decide +kernel
noncomputable def abC:{ B:RO // zm CIsSet "is_setting" Jl ["manner","thing"] 4 B }:=
 ⟨_,fun P w K mg base f Kc A Ko s H E C hr=>
  je (j5 (ji C.check hr (Nat.le_refl _) (ja (jb 0) jd) (jc jh)))
  (je (qg (JR (aag (qx (qw (abn (.inr (.inr rfl)) C.t.isi C.t.tuple QG (jb 1)))) (QQ (qx (ajr aeD aeD jg (jQ qI C.t.len qJ (ja (jb 1) jd)) (qP C.most)))))) (je (jy Js) jk) jk)
  (je (jy (jQ (ak0 rfl) C.t.all alP (ja (aax ["part","manner"] [none,some 0] rfl (aeA (jb 1)) (aaC (jf Jl) ["manner","thing"] (by decide +kernel))
   fun cl C' s0 H0 fp pn=>⟨qU 0 ndp,aaw,ji C.isRod hr (by decide) (ja (jb 1) (ja (jb 0) jd)) (jc (jc jh))⟩) jd))) jk))⟩
noncomputable def ac9:LP->OP:=jw ["manner","thing"] 2 abC.1
structure CChkSet (P:Program) (w:World) (K:Fg) (mg:SV) (base:Heap):Prop where
 isSet:jl P w K mg base "is_setting" ["manner","thing"] 5 2 ac9
theorem ad2:FnScope ["manner","thing"] ["manner","thing"] (jf zF):=⟨rfl,rfl,rfl,by decide +kernel,rfl,by decide +kernel,by decide +kernel⟩
noncomputable def aci:{ B:RO // zm CChkSet "check_setting" zF ["manner","thing"] 5 B }:=
 ⟨_,fun P w K mg base f Kc A Ko s H E C hr=>
  je (qg (qx (qw (ji C.isSet hr (Nat.le_refl _) (ja (jb 0) (ja (jb 1) jd)) (jc (jc jh))))) zp jk) jk⟩
noncomputable def qi:LP->OP:=jw ["manner","thing"] 2 aci.1
noncomputable abbrev aiI:Stmt:=top 53
noncomputable abbrev ae5:Stmt:=top 54
noncomputable abbrev acj:Stmt:=top 55
theorem an1:FnScope ["_law_script","_law_k"] ["_law_script","_law_k"] (jf aiI):=⟨rfl,rfl,rfl,by decide +kernel,rfl,by decide +kernel,by decide +kernel⟩
noncomputable def aiJ:{ B:RO // zm (fun _ _ _ mg _=>Bare mg) "_law_cell" aiI ["_law_script","_law_k"] 0 B }:=
 ⟨_,fun P w K mg base f Kc A Ko s H E C hr=>
  je (qg (jS (zx hr.units) (jb 0) (zo jd)) (je (jy (jr qY jg (jb 1))) jk) jk)
  (je (jy (jr jD (jJ (jb 0) (jr Qd (jb 1) (jQ qI C.len qJ (ja (jb 0) jd)))) (jr qY jg (jr JS (jb 1) (jQ qI C.len qJ (ja (jb 0) jd)))))) jk)⟩
noncomputable def agz:LP->OP:=jw ["_law_script","_law_k"] 2 aiJ.1
structure CDrawn (P:Program) (w:World) (K:Fg) (mg:SV) (base:Heap):Prop where
 cell:jl P w K mg base "_law_cell" ["_law_script","_law_k"] 1 2 agz
theorem ada:FnScope ["_law_script","_law_k","_law_many","_law_cell_here"] ["_law_script","_law_k","_law_many"] (jf ae5):=⟨rfl,rfl,rfl,by decide +kernel,rfl,by decide +kernel,by decide +kernel⟩
noncomputable def ahL:{ B:RO // zm CDrawn "_law_drawn" ae5 ["_law_script","_law_k","_law_many","_law_cell_here"] 1 B }:=
 ⟨_,fun P w K mg base f Kc A Ko s H E C hr=>
  je (jM 3 ada.nd (jr Qd (jr jD (jr qY (jr Qd (ji C.cell hr (Nat.le_refl _) (ja (jb 0) (ja (jb 1) jd)) (jc (jc jh))) jg) jg) (jr qY jg (jr jD (jb 1) jg))) jg))
  (je (jM 3 ada.nd (jr Qd (jr jD (jr qY (jb 3) (jb 3)) (jr JS (jb 3) jg)) jg))
  (je (jy (jr Qd (jr JS (jr Qd (jr jD (jr qY (jb 3) (jb 3)) (jr JS (jb 3) jg)) jg) jg) (jb 2))) jk))⟩
noncomputable def zM:LP->OP:=jw ["_law_script","_law_k","_law_many","_law_cell_here"] 3 ahL.1
noncomputable abbrev ae6:List Str:=["_law_script","_law_at","_law_known","_law_way","_law_each","_law_upper","_law_lower"]
structure CManner (P:Program) (w:World) (K:Fg) (mg:SV) (base:Heap):Prop where
 t:Bare mg
 drawn:jl P w K mg base "_law_drawn" ["_law_script","_law_k","_law_many"] 2 3 zM
theorem Jm:FnScope ae6 ["_law_script","_law_at"] (jf acj):=⟨rfl,rfl,rfl,by decide +kernel,rfl,by decide +kernel,by decide +kernel⟩
noncomputable def jm (a b c d:Int):PyData:= .tuple [.int a,.int b,.int c,.int d]
noncomputable def abD:LP:=[jm 1 5 4 10,jm 2 5 5 10,jm 0 1 9 10,jm 1 5 5 10,jm 0 1 10 10,jm 1 2 1 4,jm 0 1 1 2]
noncomputable def abE:LP:=[jm 1 4 3 8,jm 1 3 2 5,jm 3 4 3 16,jm 2 3 2 7,jm 1 1 1 3]
noncomputable def ack:{ B:RO // zm CManner "_law_manner" acj ae6 2 B }:=
 ⟨_,fun P w K mg base f Kc A Ko s H E C hr=>
  je (jM 2 Jm.nd (JT 3 (.list abD) (by kernel_rfl)))
  (je (jM 2 Jm.nd (jr jD (jb 2) (JT 3 (.list abE) (by kernel_rfl))))
  (je (jM 3 Jm.nd (ji C.drawn hr (Nat.le_refl _) (ja (jb 0) (ja (jb 1) (ja (jr qY jg (jQ qI C.t.len qJ (ja (jb 2) jd))) jd))) (jc (jc (jc jh)))))
  (je (qg (jS acL (jb 3) (jQ qI C.t.len qJ (ja (jb 2) jd))) (je (jy (jJ (jb 2) (jb 3))) jk) jk)
  (je (jM 4 Jm.nd (jr jD jg (ji C.drawn hr (Nat.le_refl _) (ja (jb 0) (ja (jr jD (jb 1) jg) (ja jg jd))) (jc (jc (jc jh))))))
  (je (jM 5 Jm.nd (ji C.drawn hr (Nat.le_refl _) (ja (jb 0) (ja (jr jD (jb 1) jg) (ja jg jd))) (jc (jc (jc jh)))))
  (je (jM 6 Jm.nd (jr jD (jQ (ais rfl) C.t.max ahv (ja (jr zg (jb 4) jg) (ja jg jd))) (ji C.drawn hr (Nat.le_refl _) (ja (jb 0) (ja (jr jD (jb 1) jg) (ja jg jd))) (jc (jc (jc jh))))))
  (je (jy (Jx (ja (jb 5) (ja (jb 4) (ja (jb 6) (ja (jr jD jg (ji C.drawn hr (Nat.le_refl _) (ja (jb 0) (ja (jr jD (jb 1) jg) (ja (jQ (ait rfl) C.t.min aeF (ja jg (ja (jr jD (jr qY (jb 5) (jb 4)) (jb 6)) jd))) jd))) (jc (jc (jc jh))))) jd)))))) jk)))))))⟩
noncomputable def ZN:LP->OP:=jw ae6 2 ack.1
noncomputable abbrev JE (C:CC) (qual:Str) (st:Stmt) (N:List Str) (k:Nat) (Fx:Rho->Option Str):Prop:=
 ∀ (P:Program) (w:World) (K:Fg) (mg:SV) (base:Heap) (f:Addr) (Kc:Value) (A:Around) (Ko:List Env) (s:Shared) (H:Hp) (E:XK),C P w K mg base->Room k (A.deeper (envOfC qual (jf st) s.heap.objs.size f Kc))->
  abr (zU (CXt P w) P w K mg base N qual (jf st) f Kc A Ko s H E) (jR st) Fx
noncomputable abbrev aaV:Stmt:=top 49
noncomputable abbrev agA:Stmt:=top 48
noncomputable abbrev ZO:Stmt:=top 47
noncomputable abbrev sDA:Stmt:=top 46
noncomputable abbrev ahM:Stmt:=top 45
noncomputable abbrev alU:Stmt:=top 44
noncomputable abbrev aaW:Stmt:=top 42
noncomputable abbrev adb:Stmt:=top 43
structure CEnough (P:Program) (w:World) (K:Fg) (mg:SV) (base:Heap):Prop where
 num:jl P w K mg base "number_on" ["manner","setting"] 2 2 Qv
theorem ad3:FnScope ["manner","setting","number"] ["manner","setting","number"] (jf aaV):=⟨rfl,rfl,rfl,by decide +kernel,rfl,by decide +kernel,by decide +kernel⟩
noncomputable def ZP:{ B:RO // zm CEnough "check_enough" aaV ["manner","setting","number"] 2 B }:=
 ⟨_,fun P w K mg base f Kc A Ko s H E C hr=>
  (je (qg (jS ahr (jb 2) (ji C.num hr (by decide) (ja (jb 0) (ja (jb 1) jd)) (jc (jc jh)))) zp jk)
  jk)⟩
noncomputable def aaX:LP->OP:=jw ["manner","setting","number"] 3 ZP.1
structure CLess (P:Program) (w:World) (K:Fg) (mg:SV) (base:Heap):Prop where
 t:Bare mg
 chkSet:jl P w K mg base "check_setting" ["manner","thing"] 6 2 qi
 chkNum:jl P w K mg base "check_number" ["number"] 2 1 qo
 enough:jl P w K mg base "check_enough" ["manner","setting","number"] 3 3 aaX
 plainR:jl P w K mg base "plain_rods" ["manner","rods","number"] 4 3 JG
 num:jl P w K mg base "number_on" ["manner","setting"] 2 2 Qv
theorem aiK:FnScope ["manner","setting","number"] ["manner","setting","number"] (jf agA):=⟨rfl,rfl,rfl,by decide +kernel,rfl,by decide +kernel,by decide +kernel⟩
noncomputable def aaY:{ B:RO // zm CLess "less" agA ["manner","setting","number"] 6 B }:=
 ⟨_,fun P w K mg base f Kc A Ko s H E C hr=>
  (je (j5 (ji C.chkSet hr (by decide) (ja (jb 0) (ja (jb 1) jd)) (jc (jc jh))))
  (je (j5 (ji C.chkNum hr (by decide) (ja (jb 2) jd) (jc jh)))
  (je (j5 (ji C.enough hr (by decide) (ja (jb 0) (ja (jb 1) (ja (jb 2) jd))) (jc (jc (jc jh)))))
  (je (jy (ji C.plainR hr (by decide) (ja (jb 0) (ja (jQ qI C.t.len qJ (ja (jb 1) jd)) (ja (jr zg (ji C.num hr (by decide) (ja (jb 0) (ja (jb 1) jd)) (jc (jc jh))) (jb 2)) jd))) (jc (jc (jc jh)))))
  jk))))⟩
noncomputable def Q6:LP->OP:=jw ["manner","setting","number"] 3 aaY.1
noncomputable abbrev an2:List Str:=["setting","changes","now","rod","fresh"]
theorem ae7:FnScope an2 ["setting","changes"] (jf ZO):=⟨rfl,rfl,rfl,by decide +kernel,rfl,by decide +kernel,by decide +kernel⟩
noncomputable def adc:{ B:RO // alS 2 (fun _ _ _ mg _=>Bare mg) "behind_changes" ZO an2 0 (ZH (ahK (jR ZO) 1)) B }:=
 ⟨_,fun P w K mg base f Kc A Ko s H E C hr=>
  (j6 (alo 2 (jb 3) (jb 4)) JU)⟩
noncomputable def an3:{ B:RO // zm (fun _ _ _ mg _=>Bare mg) "behind_changes" ZO an2 0 B }:=
 ⟨_,fun P w K mg base f Kc A Ko s H E C hr=>
  acQ (acT 2 ae7.nd (ajA C.list anW (ja (jb 0) jd))
  (j6 (aiz PassesOwn.never rfl (Zd (jb 1)) (aeI (n:=2) rfl (JL 3 ae7.nd (JL 4 ae7.nd acR))) (adc.2 P w K mg base f Kc A Ko s H E C hr))
  (j6 (aeH (adO af5 C.tuple QG (ja (jb 2) jd))) JU)))⟩
noncomputable def ahN:LP->OP:=jw an2 2 an3.1
structure CDA (g:LP->OP) (d:Nat) (P:Program) (w:World) (K:Fg) (mg:SV) (base:Heap):Prop where
 rodWorth:jl P w K mg base "rod_worth" ["manner","rod"] 1 2 qN
 fewest:jl P w K mg base "fewest_beads" ["manner","worth"] 3 2 Qi
 self:jl P w K mg base "digit_added" ["manner","setting","rod","digit"] (d+3) 4 g
noncomputable abbrev nDA:List Str:=["manner","setting","rod","digit","whole","ahead"]
theorem agB:FnScope nDA ["manner","setting","rod","digit"] (jf sDA):=⟨rfl,rfl,rfl,by decide +kernel,rfl,by decide +kernel,by decide +kernel⟩
noncomputable def bDA (g:LP->OP) (d:Nat):{ B:RO // zm (CDA g d) "digit_added" sDA nDA (d+3) B }:=
 ⟨_,fun P w K mg base f Kc A Ko s H E C hr=>
  (je (qg (jS (zx hr.units) (jb 3) jg) (je (jy (zo jd)) jk) jk)
  (je (qg (jS acL (jb 2) jg) zp jk)
  (je (jM 4 agB.nd (jr jD (ji C.rodWorth hr (by omega) (ja (jb 0) (ja (jJ (jb 1) (jb 2)) jd)) (jc (jc jh))) (jb 3)))
  (je (jM 5 agB.nd (ji C.self hr (by omega) (ja (jb 0) (ja (jb 1) (ja (jr zg (jb 2) jg) (ja (jr JS (jb 4) (jJ (jb 0) jg)) jd)))) (jc (jc (jc (jc jh))))))
  (je (jy (jr jD (jb 5) (zo (ja (Jx (ja (jb 2) (ja (ji C.fewest hr (by omega) (ja (jb 0) (ja (jr Qd (jb 4) (jJ (jb 0) jg)) jd)) (jc (jc jh))) jd))) jd))))
  jk)))))⟩
noncomputable def gDA:Nat->LP->OP
 | 0=>fun _=>none
 | d+1=>jw nDA 4 (bDA (gDA d) d).1
structure CCbd (x:Str) (g:LP->OP) (P:Program) (w:World) (K:Fg) (mg:SV) (base:Heap):Prop where
 t:Bare mg
 dig:jl P w K mg base "digits_by_rods" ["base","rods","number"] 1 3 ab7
 beh:jl P w K mg base "behind_changes" ["setting","changes"] 1 2 ahN
 fn:jl P w K mg base x ["manner","setting","rod","digit"] 9 4 g
noncomputable abbrev ajW:List Str:=["manner","setting","number","digit_changes","changes","now","rod","digit","several"]
theorem Jb:FnScope ajW ["manner","setting","number","digit_changes"] (jf ahM):=⟨rfl,rfl,rfl,by decide +kernel,rfl,by decide +kernel,by decide +kernel⟩
noncomputable def zt (x:Str) (g:LP->OP):{ B:RO // alS 4 (CCbd x g) "changes_by_digits" ahM ajW 9 (ZH (ahK (jR ahM) 2)) B }:=
 ⟨_,fun P w K mg base f Kc A Ko s H E C hr=>
  (j6 (Qe 8 Jb.nd (agd 3 C.fn hr (by decide) (ja (jb 0) (ja (jb 5) (ja (jb 6) (ja (jb 7) jd)))) (jc (jc (jc (jc jh))))))
  (j6 (Qe 5 Jb.nd (ji C.beh hr (by decide) (ja (jb 5) (ja (jb 8) jd)) (jc (jc jh))))
  (j6 (aeJ (adR 4 (jb 8)))
  JU)))⟩
noncomputable def ajX (x:Str) (g:LP->OP):{ B:RO // zm (CCbd x g) "changes_by_digits" ahM ajW 9 B }:=
 ⟨_,fun P w K mg base f Kc A Ko s H E C hr=>
  acQ (acT 4 Jb.nd (acS jd)
  (j6 (Qe 5 Jb.nd (jb 1))
  (j6 (aiz PassesOwn.never rfl (agc C.t.enum (ja (ji C.dig hr (by decide) (ja (jJ (jb 0) jg) (ja (jQ qI C.t.len qJ (ja (jb 1) jd)) (ja (jb 2) jd))) (jc (jc (jc jh)))) jd)) (aeI (n:=2) rfl (JL 6 Jb.nd (JL 7 Jb.nd acR))) ((zt x g).2 P w K mg base f Kc A Ko s H E C hr))
  (j6 (aeH (jb 4)) JU))))⟩
noncomputable def apN (x:Str) (g:LP->OP):LP->OP:=jw ajW 4 (ajX x g).1
noncomputable abbrev gCA:LP->OP:=apN "digit_added" (gDA 6)
structure CChA (P:Program) (w:World) (K:Fg) (mg:SV) (base:Heap):Prop where
 cbd:jl P w K mg base "changes_by_digits" ["manner","setting","number","digit_changes"] 10 4 gCA
 fn:GC K mg "digit_added" (fnD "digit_added")
theorem alV:FnScope ["manner","setting","number"] ["manner","setting","number"] (jf alU):=⟨rfl,rfl,rfl,by decide +kernel,rfl,by decide +kernel,by decide +kernel⟩
noncomputable def ajY:{ B:RO // zm CChA "changes_adding" alU ["manner","setting","number"] 10 B }:=
 ⟨_,fun P w K mg base f Kc A Ko s H E C hr=>
  (je (jy (ji C.cbd hr (by decide) (ja (jb 0) (ja (jb 1) (ja (jb 2) (ja (qP C.fn) jd)))) (jc (jc (jc (jc jh))))))
  jk)⟩
noncomputable def agC:LP->OP:=jw ["manner","setting","number"] 3 ajY.1
structure CAdding (P:Program) (w:World) (K:Fg) (mg:SV) (base:Heap):Prop where
 chkSet:jl P w K mg base "check_setting" ["manner","thing"] 6 2 qi
 chkNum:jl P w K mg base "check_number" ["number"] 2 1 qo
 chA:jl P w K mg base "changes_adding" ["manner","setting","number"] 11 3 agC
theorem ad4:FnScope ["manner","setting","number"] ["manner","setting","number"] (jf aaW):=⟨rfl,rfl,rfl,by decide +kernel,rfl,by decide +kernel,by decide +kernel⟩
noncomputable def aaZ:{ B:RO // zm CAdding "adding" aaW ["manner","setting","number"] 11 B }:=
 ⟨_,fun P w K mg base f Kc A Ko s H E C hr=>
  (je (j5 (ji C.chkSet hr (by decide) (ja (jb 0) (ja (jb 1) jd)) (jc (jc jh))))
  (je (j5 (ji C.chkNum hr (by decide) (ja (jb 2) jd) (jc jh)))
  (je (jy (ji C.chA hr (by decide) (ja (jb 0) (ja (jb 1) (ja (jb 2) jd))) (jc (jc (jc jh)))))
  jk)))⟩
noncomputable def Jr:LP->OP:=jw ["manner","setting","number"] 3 aaZ.1
structure CAdded (P:Program) (w:World) (K:Fg) (mg:SV) (base:Heap):Prop where
 adding:jl P w K mg base "adding" ["manner","setting","number"] 12 3 Jr
 beh:jl P w K mg base "behind_changes" ["setting","changes"] 1 2 ahN
theorem agD:FnScope ["manner","setting","number"] ["manner","setting","number"] (jf adb):=⟨rfl,rfl,rfl,by decide +kernel,rfl,by decide +kernel,by decide +kernel⟩
noncomputable def ae8:{ B:RO // zm CAdded "added" adb ["manner","setting","number"] 12 B }:=
 ⟨_,fun P w K mg base f Kc A Ko s H E C hr=>
  (je (jy (ji C.beh hr (by decide) (ja (jb 1) (ja (ji C.adding hr (by decide) (ja (jb 0) (ja (jb 1) (ja (jb 2) jd))) (jc (jc (jc jh)))) jd)) (jc (jc jh))))
  jk)⟩
noncomputable def Qa:LP->OP:=jw ["manner","setting","number"] 3 ae8.1
structure XDA (g:LP->OP) (t:LP->Option Str) (d:Nat) (P:Program) (w:World) (K:Fg) (mg:SV) (base:Heap):Prop where
 n:CDA g d P w K mg base
 err:acV K mg "TooGreat"
 self:qC P w K mg base "digit_added" ["manner","setting","rod","digit"] (d+3) 4 t
noncomputable def xDA (g:LP->OP) (t:LP->Option Str) (d:Nat):{ F:Rho->Option Str // JE (XDA g t d) "digit_added" sDA nDA (d+3) F }:=
 ⟨_,fun P w K mg base f Kc A Ko s H E C hr=>
  (zY (qk (qg (jS (zx hr.units) (jb 3) jg) (je (jy (zo jd)) jk) jk) (jA (QR (jS acL (jb 2) jg) (jA (zu rfl C.err rfl)) qZ)))
  (qk (qg (jS (zx hr.units) (jb 3) jg) (je (jy (zo jd)) jk) jk) (qk (qg (jS acL (jb 2) jg) zp jk) (qk (jM 4 agB.nd (jr jD (ji C.n.rodWorth hr (by omega) (ja (jb 0) (ja (jJ (jb 1) (jb 2)) jd)) (jc (jc jh))) (jb 3))) (jA (anv (j9 rfl C.self hr (by omega) (ja (jb 0) (ja (jb 1) (ja (jr zg (jb 2) jg) (ja (jr JS (jb 4) (jJ (jb 0) jg)) jd)))) (jc (jc (jc (jc jh)))))))))))⟩
noncomputable def tDA:Nat->LP->Option Str
 | 0=>fun _=>none
 | d+1=>zr nDA 4 (xDA (gDA d) (tDA d) d).1
structure XCbd (x:Str) (g:LP->OP) (t:LP->Option Str) (P:Program) (w:World) (K:Fg) (mg:SV) (base:Heap):Prop where
 n:CCbd x g P w K mg base
 fn:qC P w K mg base x ["manner","setting","rod","digit"] 9 4 t
noncomputable def ark (x:Str) (g:LP->OP) (t:LP->Option Str):{ F:Rho->Option Str // JE (XCbd x g t) "changes_by_digits" ahM ajW 9 F }:=
 ⟨_,fun P w K mg base f Kc A Ko s H E C hr=>
  (aly (ajD 4 Jb.nd (acS jd)
  (ahD (Qe 5 Jb.nd (jb 1))
  (acX (alz abt rfl (fun W=>agc C.n.t.enum (ja (ji C.n.dig hr (by decide) (ja (jJ (jb 0) jg) (ja (jQ qI C.n.t.len qJ (ja (jb 1) jd)) (ja (jb 2) jd))) (jc (jc (jc jh)))) jd)) (fun W=>aeI (n:=2) rfl (JL 6 Jb.nd (JL 7 Jb.nd acR)))
   (fun W=>(j6 (Qe 8 Jb.nd (agd 3 C.n.fn hr (by decide) (ja (jb 0) (ja (jb 5) (ja (jb 6) (ja (jb 7) jd)))) (jc (jc (jc (jc jh))))))
  (j6 (Qe 5 Jb.nd (ji C.n.beh hr (by decide) (ja (jb 5) (ja (jb 8) jd)) (jc (jc jh))))
  (j6 (aeJ (adR 4 (jb 8)))
  JU))))
   (fun W=>acX (alx (ajE 3 rfl C.fn hr (by decide) (ja (jb 0) (ja (jb 5) (ja (jb 6) (ja (jb 7) jd)))) (jc (jc (jc (jc jh))))))))))))⟩
noncomputable def tCA:LP->Option Str:=zr ajW 4 (ark "digit_added" (gDA 6) (tDA 6)).1
structure XChA (P:Program) (w:World) (K:Fg) (mg:SV) (base:Heap):Prop where
 n:CChA P w K mg base
 thr:qC P w K mg base "changes_by_digits" ["manner","setting","number","digit_changes"] 10 4 tCA
noncomputable def an4:{ F:Rho->Option Str // JE XChA "changes_adding" alU ["manner","setting","number"] 10 F }:=
 ⟨_,fun P w K mg base f Kc A Ko s H E C hr=>
  (jA (QS (j9 rfl C.thr hr (by decide) (ja (jb 0) (ja (jb 1) (ja (jb 2) (ja (qP C.n.fn) jd)))) (jc (jc (jc (jc jh)))))))⟩
noncomputable def alW:LP->Option Str:=zr ["manner","setting","number"] 3 an4.1
noncomputable def aam (k:Bool):PyData:= .str (if k=true then "lower" else "upper")
noncomputable def mv (r:Int) (k:Bool) (c:Int):PyData:= .tuple [.int r,aam k,.int c]
section
variable {u e l b:Int}
noncomputable def dig (b:Int) (r:Nat) (n:Int) (i:Nat):Int:=if 0<i then n / b ^ (r - 1 - i) % b else n / b ^ (r - 1 - i)
end
noncomputable abbrev jX:List Str:=["NoManner","NoSetting","NoNumber","NoMove","TooGreat","Nothing"]
noncomputable abbrev Qj:Stmt:=top 37
structure CNamesBeads (P:Program) (w:World) (K:Fg) (mg:SV) (base:Heap):Prop where
 t:Bare mg
 c_isWhole:jl P w K mg base "is_whole" ["thing","least","most"] 1 3 jW
 k_DECKS:GC K mg "DECKS" (.tuple [.str "upper",.str "lower"])
noncomputable abbrev Zm:List Str:=["setting","thing"]
theorem adz:FnScope Zm ["setting","thing"] (jf Qj):=⟨rfl,rfl,rfl,by decide +kernel,rfl,by decide +kernel,by decide +kernel⟩
noncomputable def qQ:{ B:RO // zm CNamesBeads "names_beads" Qj Zm 1 B }:=
 ⟨_,fun P w K mg base f Kc A Ko s H E C hr=>
  (je (qg (JR (aag (qx (qw (abn (.inr (.inr rfl)) C.t.isi C.t.tuple QG (jb 1)))) (QQ (jS (zW hr.units) (jQ qI C.t.len qJ (ja (jb 1) jd)) jg)))) (je (jy Js)
  jk) jk)
  (je (qg (JR (aag (qx (qw (ji C.c_isWhole hr (by decide) (ja (jJ (jb 1) jg) (ja jg (ja (jr zg (jQ qI C.t.len qJ (ja (jb 0) jd)) jg) jd))) (jc (jc (jc jh)))))) (QQ (jS (ajq hr.units) (jJ (jb 1) jg) (qP C.k_DECKS))))) (je (jy Js)
  jk) jk)
  (je (jy (alh (ji C.c_isWhole hr (by decide) (ja (jJ (jb 1) jg) (ja (Zh jg) (ja jg jd))) (jc (jc (jc jh)))) (alg (akU (zW hr.units) (jJ (jb 1) jg) jg))))
  jk)))⟩
noncomputable def zS:LP->OP:=jw Zm 2 qQ.1
noncomputable abbrev acl:Stmt:=top 38
structure CPushed (P:Program) (w:World) (K:Fg) (mg:SV) (base:Heap):Prop where
 tr:True
noncomputable abbrev ae9:List Str:=["rod","deck","by"]
theorem ajZ:FnScope ae9 ["rod","deck","by"] (jf acl):=⟨rfl,rfl,rfl,by decide +kernel,rfl,by decide +kernel,by decide +kernel⟩
noncomputable def aa0:{ B:RO // zm CPushed "pushed" acl ae9 0 B }:=
 ⟨_,fun P w K mg base f Kc A Ko s H E C hr=>
  (je (qg (jS (zx hr.units) (jb 1) abk) (je (jy (Jx (ja (jr jD (jJ (jb 0) jg) (jb 2)) (ja (jJ (jb 0) jg) jd))))
  jk) jk)
  (je (jy (Jx (ja (jJ (jb 0) jg) (ja (jr jD (jJ (jb 0) jg) (jb 2)) jd))))
  jk))⟩
noncomputable def acm:LP->OP:=jw ae9 3 aa0.1
noncomputable abbrev aa1:Stmt:=top 36
structure CCanMove (P:Program) (w:World) (K:Fg) (mg:SV) (base:Heap):Prop where
 c_NamesBeads:jl P w K mg base "names_beads" ["setting","thing"] 2 2 zS
 c_isRod:jl P w K mg base "is_rod" ["manner","thing"] 2 2 Qw
 c_Pushed:jl P w K mg base "pushed" ["rod","deck","by"] 1 3 acm
noncomputable abbrev add:List Str:=["manner","setting","thing"]
theorem ahO:FnScope add ["manner","setting","thing"] (jf aa1):=⟨rfl,rfl,rfl,by decide +kernel,rfl,by decide +kernel,by decide +kernel⟩
noncomputable def QI:{ B:RO // zm CCanMove "can_move" aa1 add 2 B }:=
 ⟨_,fun P w K mg base f Kc A Ko s H E C hr=>
  (je (qg (qx (qw (ji C.c_NamesBeads hr (by decide) (ja (jb 1) (ja (jb 2) jd)) (jc (jc jh))))) (je (jy Js)
  jk) jk)
  (je (jy (ji C.c_isRod hr (by decide) (ja (jb 0) (ja (ji C.c_Pushed hr (by decide) (ja (jJ (jb 1) (jJ (jb 2) jg)) (ja (jJ (jb 2) jg) (ja (jJ (jb 2) jg) jd))) (jc (jc (jc jh)))) jd)) (jc (jc jh))))
  jk))⟩
noncomputable def Qb:LP->OP:=jw add 3 QI.1
noncomputable abbrev Qk:Stmt:=top 39
structure CBehindMove (P:Program) (w:World) (K:Fg) (mg:SV) (base:Heap):Prop where
 c_Pushed:jl P w K mg base "pushed" ["rod","deck","by"] 1 3 acm
noncomputable abbrev Zn:List Str:=["setting","move","at"]
theorem Z9:FnScope Zn ["setting","move"] (jf Qk):=⟨rfl,rfl,rfl,by decide +kernel,rfl,by decide +kernel,by decide +kernel⟩
noncomputable def Ql:{ B:RO // zm CBehindMove "behind_move" Qk Zn 1 B }:=
 ⟨_,fun P w K mg base f Kc A Ko s H E C hr=>
  (je (jM 2 Z9.nd (jJ (jb 1) jg))
  (je (jy (jr jD (jr jD (agb (jb 0) (jb 2)) (Jx (ja (ji C.c_Pushed hr (by decide) (ja (jJ (jb 0) (jb 2)) (ja (jJ (jb 1) jg) (ja (jJ (jb 1) jg) jd))) (jc (jc (jc jh)))) jd))) (ahB (jb 0) (jr jD (jb 2) jg))))
  jk))⟩
noncomputable def Qm:LP->OP:=jw Zn 2 Ql.1
noncomputable abbrev ade:Stmt:=top 40
structure CMoved (P:Program) (w:World) (K:Fg) (mg:SV) (base:Heap):Prop where
 c_chkSet:jl P w K mg base "check_setting" ["manner","thing"] 6 2 qi
 c_CanMove:jl P w K mg base "can_move" ["manner","setting","thing"] 3 3 Qb
 c_BehindMove:jl P w K mg base "behind_move" ["setting","move"] 2 2 Qm
noncomputable abbrev adf:List Str:=["manner","setting","move"]
theorem agE:FnScope adf ["manner","setting","move"] (jf ade):=⟨rfl,rfl,rfl,by decide +kernel,rfl,by decide +kernel,by decide +kernel⟩
noncomputable def adg:{ B:RO // zm CMoved "moved" ade adf 6 B }:=
 ⟨_,fun P w K mg base f Kc A Ko s H E C hr=>
  (je (j5 (ji C.c_chkSet hr (by decide) (ja (jb 0) (ja (jb 1) jd)) (jc (jc jh))))
  (je (qg (qx (qw (ji C.c_CanMove hr (by decide) (ja (jb 0) (ja (jb 1) (ja (jb 2) jd))) (jc (jc (jc jh)))))) (je ajn
  jk) jk)
  (je (jy (ji C.c_BehindMove hr (by decide) (ja (jb 1) (ja (jb 2) jd)) (jc (jc jh))))
  jk)))⟩
noncomputable def Qc:LP->OP:=jw adf 3 adg.1
structure XCheck (P:Program) (w:World) (K:Fg) (mg:SV) (base:Heap):Prop where
 c_isManner:jl P w K mg base "is_manner" ["thing"] 3 1 qH
 e_NoManner:acV K mg "NoManner"
noncomputable def abF:{ F:Rho->Option Str // JE XCheck "check_manner" ac7 ["thing"] 3 F }:=
 ⟨_,fun P w K mg base f Kc A Ko s H E C hr=>
  (jA (QR (qx (qw (ji C.c_isManner hr (by decide) (ja (jb 0) jd) (jc jh)))) (jA (zu rfl C.e_NoManner rfl)) qZ))⟩
noncomputable def Zo:LP->Option Str:=zr ["thing"] 1 abF.1
structure XIsSet (P:Program) (w:World) (K:Fg) (mg:SV) (base:Heap):Prop where
 x_check:qC P w K mg base "check_manner" ["thing"] 4 1 Zo
noncomputable def afa:{ F:Rho->Option Str // JE XIsSet "is_setting" Jl ["manner","thing"] 4 F }:=
 ⟨_,fun P w K mg base f Kc A Ko s H E C hr=>
  (jA (zq (j9 rfl C.x_check hr (by decide) (ja (jb 0) jd) (jc jh))))⟩
noncomputable def ahP:LP->Option Str:=zr ["manner","thing"] 2 afa.1
structure XChkSet (P:Program) (w:World) (K:Fg) (mg:SV) (base:Heap):Prop where
 c_isSet:jl P w K mg base "is_setting" ["manner","thing"] 5 2 ac9
 x_isSet:qC P w K mg base "is_setting" ["manner","thing"] 5 2 ahP
 e_NoSetting:acV K mg "NoSetting"
noncomputable def acn:{ F:Rho->Option Str // JE XChkSet "check_setting" zF ["manner","thing"] 5 F }:=
 ⟨_,fun P w K mg base f Kc A Ko s H E C hr=>
  (jA (apF (anI (anH (anG (j9 rfl C.x_isSet hr (by decide) (ja (jb 0) (ja (jb 1) jd)) (jc (jc jh)))))) (QR (qx (qw (ji C.c_isSet hr (by decide) (ja (jb 0) (ja (jb 1) jd)) (jc (jc jh))))) (jA (zu rfl C.e_NoSetting rfl)) qZ)))⟩
noncomputable def zI:LP->Option Str:=zr ["manner","thing"] 2 acn.1
structure XChkRods (P:Program) (w:World) (K:Fg) (mg:SV) (base:Heap):Prop where
 c_isWhole:jl P w K mg base "is_whole" ["thing","least","most"] 1 3 jW
 k_MOST_RODS:GC K mg "MOST_RODS" (.int 4)
 e_NoNumber:acV K mg "NoNumber"
noncomputable def QJ:{ F:Rho->Option Str // JE XChkRods "check_rods" J9 ["rods"] 1 F }:=
 ⟨_,fun P w K mg base f Kc A Ko s H E C hr=>
  (jA (QR (qx (qw (ji C.c_isWhole hr (by decide) (ja (jb 0) (ja jg (ja (qP C.k_MOST_RODS) jd))) (jc (jc (jc jh)))))) (jA (zu rfl C.e_NoNumber rfl)) qZ))⟩
noncomputable def QK:LP->Option Str:=zr ["rods"] 1 QJ.1
structure XChkNum (P:Program) (w:World) (K:Fg) (mg:SV) (base:Heap):Prop where
 c_isWhole:jl P w K mg base "is_whole" ["thing","least","most"] 1 3 jW
 k_MOST_NUMBER:GC K mg "MOST_NUMBER" (.int 99999)
 e_NoNumber:acV K mg "NoNumber"
noncomputable def ZQ:{ F:Rho->Option Str // JE XChkNum "check_number" Ja ["number"] 1 F }:=
 ⟨_,fun P w K mg base f Kc A Ko s H E C hr=>
  (jA (QR (qx (qw (ji C.c_isWhole hr (by decide) (ja (jb 0) (ja jg (ja (qP C.k_MOST_NUMBER) jd))) (jc (jc (jc jh)))))) (jA (zu rfl C.e_NoNumber rfl)) qZ))⟩
noncomputable def zJ:LP->Option Str:=zr ["number"] 1 ZQ.1
structure XAsked (P:Program) (w:World) (K:Fg) (mg:SV) (base:Heap):Prop where
 c_chkRods:jl P w K mg base "check_rods" ["rods"] 2 1 zd
 c_check:jl P w K mg base "check_manner" ["thing"] 4 1 Jk
 x_check:qC P w K mg base "check_manner" ["thing"] 4 1 Zo
 x_chkRods:qC P w K mg base "check_rods" ["rods"] 2 1 QK
 x_chkNum:qC P w K mg base "check_number" ["number"] 2 1 zJ
noncomputable def Qx:{ F:Rho->Option Str // JE XAsked "check_asked" Jv ["manner","rods","number"] 4 F }:=
 ⟨_,fun P w K mg base f Kc A Ko s H E C hr=>
  (zY (jA (zq (j9 rfl C.x_check hr (by decide) (ja (jb 0) jd) (jc jh)))) (qk (j5 (ji C.c_check hr (by decide) (ja (jb 0) jd) (jc jh)))
  (zY (jA (zq (j9 rfl C.x_chkRods hr (by decide) (ja (jb 1) jd) (jc jh)))) (qk (j5 (ji C.c_chkRods hr (by decide) (ja (jb 1) jd) (jc jh)))
  (jA (zq (j9 rfl C.x_chkNum hr (by decide) (ja (jb 2) jd) (jc jh))))))))⟩
noncomputable def Zp:LP->Option Str:=zr ["manner","rods","number"] 3 Qx.1
structure XPlainR (P:Program) (w:World) (K:Fg) (mg:SV) (base:Heap):Prop where
 c_digits:jl P w K mg base "digits_by_rods" ["base","rods","number"] 1 3 ab7
 e_TooGreat:acV K mg "TooGreat"
noncomputable def aco:{ F:Rho->Option Str // JE XPlainR "plain_rods" ZI ZK 3 F }:=
 ⟨_,fun P w K mg base f Kc A Ko s H E C hr=>
  (qk (jM 3 ZL.nd (ji C.c_digits hr (by decide) (ja (jJ (jb 0) jg) (ja (jb 1) (ja (jb 2) jd))) (jc (jc (jc jh)))))
  (jA (QR (jS akX (jJ (jb 3) jg) (jJ (jb 0) jg)) (jA (zu rfl C.e_TooGreat rfl)) qZ)))⟩
noncomputable def ZR:LP->Option Str:=zr ZK 3 aco.1
structure XPlainS (P:Program) (w:World) (K:Fg) (mg:SV) (base:Heap):Prop where
 c_asked:jl P w K mg base "check_asked" ["manner","rods","number"] 5 3 zL
 x_asked:qC P w K mg base "check_asked" ["manner","rods","number"] 5 3 Zp
 x_plainR:qC P w K mg base "plain_rods" ["manner","rods","number"] 4 3 ZR
noncomputable def ZS:{ F:Rho->Option Str // JE XPlainS "plain_setting" aaT ["manner","rods","number"] 5 F }:=
 ⟨_,fun P w K mg base f Kc A Ko s H E C hr=>
  (zY (jA (zq (j9 rfl C.x_asked hr (by decide) (ja (jb 0) (ja (jb 1) (ja (jb 2) jd))) (jc (jc (jc jh)))))) (qk (j5 (ji C.c_asked hr (by decide) (ja (jb 0) (ja (jb 1) (ja (jb 2) jd))) (jc (jc (jc jh)))))
  (jA (QS (j9 rfl C.x_plainR hr (by decide) (ja (jb 0) (ja (jb 1) (ja (jb 2) jd))) (jc (jc (jc jh))))))))⟩
noncomputable def zi:LP->Option Str:=zr ["manner","rods","number"] 3 ZS.1
structure XEnough (P:Program) (w:World) (K:Fg) (mg:SV) (base:Heap):Prop where
 c_num:jl P w K mg base "number_on" ["manner","setting"] 2 2 Qv
 e_TooGreat:acV K mg "TooGreat"
noncomputable def ZT:{ F:Rho->Option Str // JE XEnough "check_enough" aaV ["manner","setting","number"] 2 F }:=
 ⟨_,fun P w K mg base f Kc A Ko s H E C hr=>
  (jA (QR (jS ahr (jb 2) (ji C.c_num hr (by decide) (ja (jb 0) (ja (jb 1) jd)) (jc (jc jh)))) (jA (zu rfl C.e_TooGreat rfl)) qZ))⟩
noncomputable def acp:LP->Option Str:=zr ["manner","setting","number"] 3 ZT.1
structure XAdding (P:Program) (w:World) (K:Fg) (mg:SV) (base:Heap):Prop where
 c_chkNum:jl P w K mg base "check_number" ["number"] 2 1 qo
 c_chkSet:jl P w K mg base "check_setting" ["manner","thing"] 6 2 qi
 x_chkSet:qC P w K mg base "check_setting" ["manner","thing"] 6 2 zI
 x_chkNum:qC P w K mg base "check_number" ["number"] 2 1 zJ
 x_chA:qC P w K mg base "changes_adding" ["manner","setting","number"] 11 3 alW
noncomputable def ZU:{ F:Rho->Option Str // JE XAdding "adding" aaW ["manner","setting","number"] 11 F }:=
 ⟨_,fun P w K mg base f Kc A Ko s H E C hr=>
  (zY (jA (zq (j9 rfl C.x_chkSet hr (by decide) (ja (jb 0) (ja (jb 1) jd)) (jc (jc jh))))) (qk (j5 (ji C.c_chkSet hr (by decide) (ja (jb 0) (ja (jb 1) jd)) (jc (jc jh))))
  (zY (jA (zq (j9 rfl C.x_chkNum hr (by decide) (ja (jb 2) jd) (jc jh)))) (qk (j5 (ji C.c_chkNum hr (by decide) (ja (jb 2) jd) (jc jh)))
  (jA (QS (j9 rfl C.x_chA hr (by decide) (ja (jb 0) (ja (jb 1) (ja (jb 2) jd))) (jc (jc (jc jh))))))))))⟩
noncomputable def aa2:LP->Option Str:=zr ["manner","setting","number"] 3 ZU.1
structure XAdded (P:Program) (w:World) (K:Fg) (mg:SV) (base:Heap):Prop where
 c_beh:jl P w K mg base "behind_changes" ["setting","changes"] 1 2 ahN
 x_adding:qC P w K mg base "adding" ["manner","setting","number"] 12 3 aa2
noncomputable def afb:{ F:Rho->Option Str // JE XAdded "added" adb ["manner","setting","number"] 12 F }:=
 ⟨_,fun P w K mg base f Kc A Ko s H E C hr=>
  (jA (QS (alw C.c_beh (alv (jb 1) (alu (j9 rfl C.x_adding hr (by decide) (ja (jb 0) (ja (jb 1) (ja (jb 2) jd))) (jc (jc (jc jh)))))))))⟩
noncomputable def aan:LP->Option Str:=zr ["manner","setting","number"] 3 afb.1
structure XLess (P:Program) (w:World) (K:Fg) (mg:SV) (base:Heap):Prop where
 t:Bare mg
 c_num:jl P w K mg base "number_on" ["manner","setting"] 2 2 Qv
 c_enough:jl P w K mg base "check_enough" ["manner","setting","number"] 3 3 aaX
 c_chkNum:jl P w K mg base "check_number" ["number"] 2 1 qo
 c_chkSet:jl P w K mg base "check_setting" ["manner","thing"] 6 2 qi
 x_chkSet:qC P w K mg base "check_setting" ["manner","thing"] 6 2 zI
 x_chkNum:qC P w K mg base "check_number" ["number"] 2 1 zJ
 x_enough:qC P w K mg base "check_enough" ["manner","setting","number"] 3 3 acp
 x_plainR:qC P w K mg base "plain_rods" ["manner","rods","number"] 4 3 ZR
noncomputable def abW:{ F:Rho->Option Str // JE XLess "less" agA ["manner","setting","number"] 6 F }:=
 ⟨_,fun P w K mg base f Kc A Ko s H E C hr=>
  (zY (jA (zq (j9 rfl C.x_chkSet hr (by decide) (ja (jb 0) (ja (jb 1) jd)) (jc (jc jh))))) (qk (j5 (ji C.c_chkSet hr (by decide) (ja (jb 0) (ja (jb 1) jd)) (jc (jc jh))))
  (zY (jA (zq (j9 rfl C.x_chkNum hr (by decide) (ja (jb 2) jd) (jc jh)))) (qk (j5 (ji C.c_chkNum hr (by decide) (ja (jb 2) jd) (jc jh)))
  (zY (jA (zq (j9 rfl C.x_enough hr (by decide) (ja (jb 0) (ja (jb 1) (ja (jb 2) jd))) (jc (jc (jc jh)))))) (qk (j5 (ji C.c_enough hr (by decide) (ja (jb 0) (ja (jb 1) (ja (jb 2) jd))) (jc (jc (jc jh)))))
  (jA (QS (j9 rfl C.x_plainR hr (by decide) (ja (jb 0) (ja (jQ qI C.t.len qJ (ja (jb 1) jd)) (ja (jr zg (ji C.c_num hr (by decide) (ja (jb 0) (ja (jb 1) jd)) (jc (jc jh))) (jb 2)) jd))) (jc (jc (jc jh))))))))))))⟩
noncomputable def aa3:LP->Option Str:=zr ["manner","setting","number"] 3 abW.1
structure XMoved (P:Program) (w:World) (K:Fg) (mg:SV) (base:Heap):Prop where
 c_CanMove:jl P w K mg base "can_move" ["manner","setting","thing"] 3 3 Qb
 c_chkSet:jl P w K mg base "check_setting" ["manner","thing"] 6 2 qi
 x_chkSet:qC P w K mg base "check_setting" ["manner","thing"] 6 2 zI
 e_NoMove:acV K mg "NoMove"
noncomputable def afc:{ F:Rho->Option Str // JE XMoved "moved" ade adf 6 F }:=
 ⟨_,fun P w K mg base f Kc A Ko s H E C hr=>
  (zY (jA (zq (j9 rfl C.x_chkSet hr (by decide) (ja (jb 0) (ja (jb 1) jd)) (jc (jc jh))))) (qk (j5 (ji C.c_chkSet hr (by decide) (ja (jb 0) (ja (jb 1) jd)) (jc (jc jh))))
  (jA (QR (qx (qw (ji C.c_CanMove hr (by decide) (ja (jb 0) (ja (jb 1) (ja (jb 2) jd))) (jc (jc (jc jh)))))) (jA (zu rfl C.e_NoMove rfl)) qZ))))⟩
noncomputable def aao:LP->Option Str:=zr adf 3 afc.1
noncomputable abbrev aaa (C:CC) (qual:Str) (st:Stmt) (N:List Str) (k:Nat) (T:TRS):Prop:=
 ∀ (P:Program) (w:World) (K:Fg) (mg:SV) (base:Heap) (f:Addr) (Kc:Value) (A:Around) (Ko:List Env) (s:Shared) (H:Hp) (E:XK),C P w K mg base->Room k (A.deeper (envOfC qual (jf st) s.heap.objs.size f Kc))->
  ab5 (zU (CXt P w) P w K mg base N qual (jf st) f Kc A Ko s H E) (jR st) T
noncomputable abbrev aoK (C:CC) (qual:Str) (st:Stmt) (N:List Str) (k:Nat) (sts:List Stmt) (T:TRS):Prop:=
 ∀ (P:Program) (w:World) (K:Fg) (mg:SV) (base:Heap) (f:Addr) (Kc:Value) (A:Around) (Ko:List Env) (s:Shared) (H:Hp) (E:XK),C P w K mg base->Room k (A.deeper (envOfC qual (jf st) s.heap.objs.size f Kc))->
  ab5 (zU CX0 P w K mg base N qual (jf st) f Kc A Ko s H E).nox sts T
noncomputable abbrev aoL (C:CC) (qual:Str) (st:Stmt) (N:List Str) (k:Nat) (T:TRS):Prop:=
 ∀ (P:Program) (w:World) (K:Fg) (mg:SV) (base:Heap) (f:Addr) (Kc:Value) (A:Around) (Ko:List Env) (s:Shared) (H:Hp) (E:XK),C P w K mg base->Room k (A.deeper (envOfC qual (jf st) s.heap.objs.size f Kc))->
  agp (zU CX0 P w K mg base N qual (jf st) f Kc A Ko s H E) (jR st) T
noncomputable abbrev afd:Stmt:=Jp (top 51) 0
structure CMInit (P:Program) (w:World) (K:Fg) (mg:SV) (base:Heap):Prop where
 f_now:Jt K "Hand" "now"
 f_manner:Jt K "Hand" "manner"
 f_past:Jt K "Hand" "past"
 c_plainS:jl P w K mg base "plain_setting" ["manner","rods","number"] 6 3 qL
 x_plainS:qC P w K mg base "plain_setting" ["manner","rods","number"] 6 3 zi
noncomputable abbrev ahQ:List Str:=["self","manner","rods"]
theorem alX:FnScope ahQ ["self","manner","rods"] (jf afd):=⟨rfl,rfl,rfl,by decide +kernel,rfl,by decide +kernel,by decide +kernel⟩
noncomputable def afe:{ B:TRS // aaa CMInit "Hand.__init__" afd ahQ 6 B }:=
 ⟨_,fun P w K mg base f Kc A Ko s H E C hr=>
  (jq (aaM C.f_now (jx (jb 0)) (QF rfl C.c_plainS C.x_plainS hr (by decide) (by decide) (jF (jx (jb 1)) (jF (jx (jb 2)) (jF (jx jg) qm)))))
  (jq (aaM C.f_manner (jx (jb 0)) (jx (jb 1)))
  (jq (aaM C.f_past (jx (jb 0)) (aiG (acS jd)))
  jH)))⟩
noncomputable def QX:GC3:=qG ahQ afe.1
noncomputable abbrev ZV:Stmt:=Jp (top 51) 1
structure CMSetting (P:Program) (w:World) (K:Fg) (mg:SV) (base:Heap):Prop where
 f_now:Jt K "Hand" "now"
noncomputable abbrev abG:List Str:=["self"]
theorem agF:FnScope abG ["self"] (jf ZV):=⟨rfl,rfl,rfl,by decide +kernel,rfl,by decide +kernel,by decide +kernel⟩
noncomputable def abH:{ B:TRS // aaa CMSetting "Hand.setting" ZV abG 0 B }:=
 ⟨_,fun P w K mg base f Kc A Ko s H E C hr=>
  (jq (zh (qS C.f_now (jx (jb 0))))
  jH)⟩
noncomputable def JN:GC3:=qG abG abH.1
noncomputable abbrev acq:Stmt:=Jp (top 51) 2
structure CMValue (P:Program) (w:World) (K:Fg) (mg:SV) (base:Heap):Prop where
 f_manner:Jt K "Hand" "manner"
 f_now:Jt K "Hand" "now"
 c_num:jl P w K mg base "number_on" ["manner","setting"] 2 2 Qv
noncomputable abbrev aff:List Str:=["self"]
theorem aj0:FnScope aff ["self"] (jf acq):=⟨rfl,rfl,rfl,by decide +kernel,rfl,by decide +kernel,by decide +kernel⟩
noncomputable def afg:{ B:TRS // aaa CMValue "Hand.value" acq aff 2 B }:=
 ⟨_,fun P w K mg base f Kc A Ko s H E C hr=>
  (jq (zh (alN C.c_num hr (by decide) (jF (qS C.f_manner (jx (jb 0))) (jF (qS C.f_now (jx (jb 0))) qm))))
  jH)⟩
noncomputable def QY:GC3:=qG aff afg.1
noncomputable abbrev afh:Stmt:=Jp (top 51) 7
structure CMGoOn (P:Program) (w:World) (K:Fg) (mg:SV) (base:Heap):Prop where
 f_past:Jt K "Hand" "past"
 f_now:Jt K "Hand" "now"
 m_value:Jj P w K mg base "Hand" "value" ["self"] 3 1 QY
noncomputable abbrev ahR:List Str:=["self","fresh"]
theorem alY:FnScope ahR ["self","fresh"] (jf afh):=⟨rfl,rfl,rfl,by decide +kernel,rfl,by decide +kernel,by decide +kernel⟩
noncomputable def ahS:{ B:TRS // aaa CMGoOn "Hand.go_on" afh ahR 3 B }:=
 ⟨_,fun P w K mg base f Kc A Ko s H E C hr=>
  (jq (ac2 (ac3 (qS C.f_past (jx (jb 0))) (qS C.f_now (jx (jb 0)))))
  (jq (aaM C.f_now (jx (jb 0)) (jx (jb 1)))
  (jq (zh (zR rfl C.m_value hr (by decide) (jx (jb 0))))
  jH)))⟩
noncomputable def aap:GC3:=qG ahR ahS.1
noncomputable abbrev aiL:Stmt:=Jp (top 51) 3
structure CMLay (P:Program) (w:World) (K:Fg) (mg:SV) (base:Heap):Prop where
 f_manner:Jt K "Hand" "manner"
 f_now:Jt K "Hand" "now"
 m_go_on:Jj P w K mg base "Hand" "go_on" ["self","fresh"] 4 2 aap
 t:Bare mg
 c_plainS:jl P w K mg base "plain_setting" ["manner","rods","number"] 6 3 qL
 x_plainS:qC P w K mg base "plain_setting" ["manner","rods","number"] 6 3 zi
noncomputable abbrev alZ:List Str:=["self","number"]
theorem an5:FnScope alZ ["self","number"] (jf aiL):=⟨rfl,rfl,rfl,by decide +kernel,rfl,by decide +kernel,by decide +kernel⟩
noncomputable def aiM:{ B:TRS // aaa CMLay "Hand.lay" aiL alZ 6 B }:=
 ⟨_,fun P w K mg base f Kc A Ko s H E C hr=>
  (jq (zh (Ju rfl C.m_go_on hr (by decide) (jx (jb 0)) (jF (QF rfl C.c_plainS C.x_plainS hr (by decide) (by decide) (jF (qS C.f_manner (jx (jb 0))) (jF (ajQ qI C.t.len qJ (jF (qS C.f_now (jx (jb 0))) qm)) (jF (jx (jb 1)) qm)))) qm)))
  jH)⟩
noncomputable def abX:GC3:=qG alZ aiM.1
noncomputable abbrev aiN:Stmt:=Jp (top 51) 4
structure CMAdd (P:Program) (w:World) (K:Fg) (mg:SV) (base:Heap):Prop where
 f_manner:Jt K "Hand" "manner"
 f_now:Jt K "Hand" "now"
 m_go_on:Jj P w K mg base "Hand" "go_on" ["self","fresh"] 4 2 aap
 c_added:jl P w K mg base "added" ["manner","setting","number"] 13 3 Qa
 x_added:qC P w K mg base "added" ["manner","setting","number"] 13 3 aan
noncomputable abbrev al0:List Str:=["self","number"]
theorem an6:FnScope al0 ["self","number"] (jf aiN):=⟨rfl,rfl,rfl,by decide +kernel,rfl,by decide +kernel,by decide +kernel⟩
noncomputable def aiO:{ B:TRS // aaa CMAdd "Hand.add" aiN al0 13 B }:=
 ⟨_,fun P w K mg base f Kc A Ko s H E C hr=>
  (jq (zh (Ju rfl C.m_go_on hr (by decide) (jx (jb 0)) (jF (QF rfl C.c_added C.x_added hr (by decide) (by decide) (jF (qS C.f_manner (jx (jb 0))) (jF (qS C.f_now (jx (jb 0))) (jF (jx (jb 1)) qm)))) qm)))
  jH)⟩
noncomputable def abY:GC3:=qG al0 aiO.1
noncomputable abbrev afi:Stmt:=Jp (top 51) 5
structure CMTake (P:Program) (w:World) (K:Fg) (mg:SV) (base:Heap):Prop where
 f_manner:Jt K "Hand" "manner"
 f_now:Jt K "Hand" "now"
 m_go_on:Jj P w K mg base "Hand" "go_on" ["self","fresh"] 4 2 aap
 c_less:jl P w K mg base "less" ["manner","setting","number"] 7 3 Q6
 x_less:qC P w K mg base "less" ["manner","setting","number"] 7 3 aa3
noncomputable abbrev ahT:List Str:=["self","number"]
theorem al1:FnScope ahT ["self","number"] (jf afi):=⟨rfl,rfl,rfl,by decide +kernel,rfl,by decide +kernel,by decide +kernel⟩
noncomputable def afj:{ B:TRS // aaa CMTake "Hand.take" afi ahT 7 B }:=
 ⟨_,fun P w K mg base f Kc A Ko s H E C hr=>
  (jq (zh (Ju rfl C.m_go_on hr (by decide) (jx (jb 0)) (jF (QF rfl C.c_less C.x_less hr (by decide) (by decide) (jF (qS C.f_manner (jx (jb 0))) (jF (qS C.f_now (jx (jb 0))) (jF (jx (jb 1)) qm)))) qm)))
  jH)⟩
noncomputable def Zq:GC3:=qG ahT afj.1
noncomputable abbrev afk:Stmt:=Jp (top 51) 6
structure CMPush (P:Program) (w:World) (K:Fg) (mg:SV) (base:Heap):Prop where
 f_manner:Jt K "Hand" "manner"
 f_now:Jt K "Hand" "now"
 m_go_on:Jj P w K mg base "Hand" "go_on" ["self","fresh"] 4 2 aap
 c_Moved:jl P w K mg base "moved" ["manner","setting","move"] 7 3 Qc
 x_Moved:qC P w K mg base "moved" ["manner","setting","move"] 7 3 aao
noncomputable abbrev ahU:List Str:=["self","move"]
theorem al2:FnScope ahU ["self","move"] (jf afk):=⟨rfl,rfl,rfl,by decide +kernel,rfl,by decide +kernel,by decide +kernel⟩
noncomputable def afl:{ B:TRS // aaa CMPush "Hand.push" afk ahU 7 B }:=
 ⟨_,fun P w K mg base f Kc A Ko s H E C hr=>
  (jq (zh (Ju rfl C.m_go_on hr (by decide) (jx (jb 0)) (jF (QF rfl C.c_Moved C.x_Moved hr (by decide) (by decide) (jF (qS C.f_manner (jx (jb 0))) (jF (qS C.f_now (jx (jb 0))) (jF (jx (jb 1)) qm)))) qm)))
  jH)⟩
noncomputable def Zr:GC3:=qG ahU afl.1
noncomputable abbrev afm:Stmt:=Jp (top 51) 8
structure CMUndo (P:Program) (w:World) (K:Fg) (mg:SV) (base:Heap):Prop where
 f_past:Jt K "Hand" "past"
 f_now:Jt K "Hand" "now"
 m_value:Jj P w K mg base "Hand" "value" ["self"] 3 1 QY
 e_Nothing:acV K mg "Nothing"
noncomputable abbrev ahV:List Str:=["self"]
theorem al3:FnScope ahV ["self"] (jf afm):=⟨rfl,rfl,rfl,by decide +kernel,rfl,by decide +kernel,by decide +kernel⟩
noncomputable def afn:{ B:TRS // aaa CMUndo "Hand.undo" afm ahV 3 B }:=
 ⟨_,fun P w K mg base f Kc A Ko s H E C hr=>
  (jq (JX (anK (anR (qS C.f_past (jx (jb 0))))) (jq (ajO (zu rfl C.e_Nothing rfl))
  jH) jH)
  (jq (aaM C.f_now (jx (jb 0)) (aiF (qS C.f_past (jx (jb 0)))))
  (jq (zh (zR rfl C.m_value hr (by decide) (jx (jb 0))))
  jH)))⟩
noncomputable def Zs:GC3:=qG ahV afn.1
noncomputable abbrev afo:Stmt:=Jp (top 51) 9
structure CMMany (P:Program) (w:World) (K:Fg) (mg:SV) (base:Heap):Prop where
 f_past:Jt K "Hand" "past"
 t:Bare mg
noncomputable abbrev ahW:List Str:=["self"]
theorem al4:FnScope ahW ["self"] (jf afo):=⟨rfl,rfl,rfl,by decide +kernel,rfl,by decide +kernel,by decide +kernel⟩
noncomputable def ahX:{ B:TRS // aaa CMMany "Hand.many" afo ahW 0 B }:=
 ⟨_,fun P w K mg base f Kc A Ko s H E C hr=>
  (jq (zh (anP qI C.t.len qJ (qS C.f_past (jx (jb 0)))))
  jH)⟩
noncomputable def adh:GC3:=qG ahW ahX.1
noncomputable abbrev ZW:Stmt:=top 57
structure CLValue (P:Program) (w:World) (K:Fg) (mg:SV) (base:Heap):Prop where
 tr:True
noncomputable abbrev acr:List Str:=["_law_manner_here","_law_setting_here","_law_found","_law_upper","_law_lower"]
theorem QL:FnScope acr ["_law_manner_here","_law_setting_here"] (jf ZW):=⟨rfl,rfl,rfl,by decide +kernel,rfl,by decide +kernel,by decide +kernel⟩
noncomputable def aa4:{ B:RO // alR CLValue "_law_value" ZW acr 0 (ZH (ahK (jR ZW) 1)) B }:=
 ⟨_,fun P w K mg base f Kc A Ko s H E C hr=>
  (je (jM 2 QL.nd (jr jD (jr jD (jr qY (jJ (jb 0) jg) (jb 2)) (jr qY (jb 3) (jJ (jb 0) jg))) (jb 4)))
  jk)⟩
noncomputable def acs:{ B:RO // zm CLValue "_law_value" ZW acr 0 B }:=
 ⟨_,fun P w K mg base f Kc A Ko s H E C hr=>
  (je (jM 2 QL.nd jg)
  (je (acb PassesOwn.never rfl (anF (jb 1)) (aiq (n:=2) rfl (QA (qU 3 QL.nd) (QA (qU 4 QL.nd) afV))) (aa4.2 P w K mg base f Kc A Ko s H E C hr))
  (je (jy (jb 2))
  jk)))⟩
noncomputable def ZX:LP->OP:=jw acr 2 acs.1
noncomputable abbrev JO:Stmt:=top 61
structure CLRefused (P:Program) (w:World) (K:Fg) (mg:SV) (base:Heap):Prop where
 t:Bare mg
 errT:ErrT K mg "BeadError" jX
noncomputable abbrev abI:List Str:=["_law_e","_law_flags"]
theorem Zt:FnScope abI ["_law_e"] (jf JO):=⟨rfl,rfl,rfl,by decide +kernel,rfl,by decide +kernel,by decide +kernel⟩
noncomputable def ad5:{ B:RO // ∀ (P:Program) (w:World) (K:Fg) (mg:SV) (base:Heap) (f:Addr) (Kc:Value) (A:Around) (Ko:List Env) (s:Shared) (H:Hp) (E:XK),CLRefused P w K mg base->RoomH 0 (A.deeper (envOfC "_law_refused" (jf JO) s.heap.objs.size f Kc))->
  Zb (cxH P w K mg base abI "_law_refused" (jf JO) f Kc A Ko s H E) (jR JO) B }:=
 ⟨_,fun P w K mg base f Kc A Ko s H E C hr=>
  (je (jM 1 Zt.nd (zo (ja (ZB C.errT C.t.isi (jb 0)) (ja (ZB C.errT C.t.isi (jb 0)) (ja (ZB C.errT C.t.isi (jb 0)) jd)))))
  (je (jM 1 Zt.nd (jr jD (jb 1) (zo (ja (ZB C.errT C.t.isi (jb 0)) (ja (ZB C.errT C.t.isi (jb 0)) (ja (ZB C.errT C.t.isi (jb 0)) jd))))))
  (je (qg (JR (aag (jS (zW hr.units) (ajJ (jb 1) Js) jg) (QQ (qx (qw (anD C.errT C.t.isi C.t.vale (jb 0))))))) (je (jy (Jx (ja abk (ja (Zh jg) jd))))
  jk) jk)
  (je (jy (Jx (ja abk (ja (ajI (jb 1) Js) jd))))
  jk))))⟩
noncomputable def jT:LP->OP:=jw abI 1 ad5.1
noncomputable abbrev afp:Stmt:=top 62
structure CLTold (P:Program) (w:World) (K:Fg) (mg:SV) (base:Heap):Prop where
 m_lay:Jj P w K mg base "Hand" "lay" ["self","number"] 7 2 abX
 m_add:Jj P w K mg base "Hand" "add" ["self","number"] 14 2 abY
 m_take:Jj P w K mg base "Hand" "take" ["self","number"] 8 2 Zq
 m_push:Jj P w K mg base "Hand" "push" ["self","move"] 8 2 Zr
 m_undo:Jj P w K mg base "Hand" "undo" ["self"] 4 1 Zs
 h_LRefused:ZA P w K mg base "_law_refused" ["_law_e"] 1 1 jT
 errT:ErrT K mg "BeadError" jX
noncomputable abbrev ahY:List Str:=["_law_hand","_law_way","_law_thing","_law_e"]
theorem agG:FnScope ahY ["_law_hand","_law_way","_law_thing"] (jf afp):=⟨rfl,rfl,rfl,by decide +kernel,rfl,by decide +kernel,by decide +kernel⟩
noncomputable def qM:{ B:TRS // aoL CLTold "_law_told" afp ahY 14 B }:=
 ⟨_,fun P w K mg base f Kc A Ko s H E C hr=>
  (ac6 (adY (n:=4) 3 abt rfl agG.nd C.errT
   (fun E'=>(jq (JX (abw (jS (zx hr.units) (jb 1) jg)) (jq (zh (Ju rfl C.m_lay hr (by decide) (jx (jb 0)) (jF (jx (jb 2)) qm)))
  jH) jH)
  (jq (JX (abw (jS (zx hr.units) (jb 1) jg)) (jq (zh (Ju rfl C.m_add hr (by decide) (jx (jb 0)) (jF (jx (jb 2)) qm)))
  jH) jH)
  (jq (JX (abw (jS (zx hr.units) (jb 1) jg)) (jq (zh (Ju rfl C.m_take hr (by decide) (jx (jb 0)) (jF (jx (jb 2)) qm)))
  jH) jH)
  (jq (zh (apH (abw (jS (zx hr.units) (jb 1) jg)) (Ju rfl C.m_push hr (by decide) (jx (jb 0)) (jF (jx (jb 2)) qm)) (zR rfl C.m_undo hr (by decide) (jx (jb 0)))))
  jH)))))
   (fun e=>(je (jy (ac0 C.h_LRefused (RoomH.mark (BX.Room.h (hr.mono (j:=1) (by decide)))) (ja (jb 3) jd) (jc jh))) jk))) (agq jH))⟩
noncomputable def zz:GC3:=qG ahY qM.1
noncomputable abbrev abJ:Stmt:=top 63
structure CLNext (P:Program) (w:World) (K:Fg) (mg:SV) (base:Heap):Prop where
 t:Bare mg
 c_plainS:jl P w K mg base "plain_setting" ["manner","rods","number"] 6 3 qL
 c_added:jl P w K mg base "added" ["manner","setting","number"] 13 3 Qa
 c_less:jl P w K mg base "less" ["manner","setting","number"] 7 3 Q6
 c_Moved:jl P w K mg base "moved" ["manner","setting","move"] 7 3 Qc
 k_added:GC K mg "added" (fnD "added")
 k_less:GC K mg "less" (fnD "less")
 k_moved:GC K mg "moved" (fnD "moved")
 x_plainS:qC P w K mg base "plain_setting" ["manner","rods","number"] 6 3 zi
 x_added:qC P w K mg base "added" ["manner","setting","number"] 13 3 aan
 x_less:qC P w K mg base "less" ["manner","setting","number"] 7 3 aa3
 x_Moved:qC P w K mg base "moved" ["manner","setting","move"] 7 3 aao
 h_LRefused:ZA P w K mg base "_law_refused" ["_law_e"] 1 1 jT
 errT:ErrT K mg "BeadError" jX
noncomputable abbrev ahZ:List Str:=["_law_manner_here","_law_setting_here","_law_way","_law_thing","_law_e"]
theorem agH:FnScope ahZ ["_law_manner_here","_law_setting_here","_law_way","_law_thing"] (jf abJ):=⟨rfl,rfl,rfl,by decide +kernel,rfl,by decide +kernel,by decide +kernel⟩
noncomputable def zf:{ B:RO // ∀ (P:Program) (w:World) (K:Fg) (mg:SV) (base:Heap) (f:Addr) (Kc:Value) (A:Around) (Ko:List Env) (s:Shared) (H:Hp) (E:XK),CLNext P w K mg base->Room 13 (A.deeper (envOfC "_law_next" (jf abJ) s.heap.objs.size f Kc))->
  alp (zU CX0 P w K mg base ahZ "_law_next" (jf abJ) f Kc A Ko s H E) (jR abJ) B }:=
 ⟨_,fun P w K mg base f Kc A Ko s H E C hr=>
  (ajB (alE (n:=5) 4 abt rfl agH.nd C.errT
   (fun E'=>(je (qg (jS (zx hr.units) (jb 2) jg) (je (jy (ji C.c_plainS hr (by decide) (ja (jb 0) (ja (jQ qI C.t.len qJ (ja (jb 1) jd)) (ja (jb 3) jd))) (jc (jc (jc jh)))))
  jk) jk)
  (je (jy (alH (ac1 C.c_added hr (by decide) (jJ (zo (ja (qP C.k_added) (ja (qP C.k_less) (ja (qP C.k_moved) jd)))) (jr zg (jb 2) jg)) (ja (jb 0) (ja (jb 1) (ja (jb 3) jd))) (jc (jc (jc jh)))) (alH (ac1 C.c_less hr (by decide) (jJ (zo (ja (qP C.k_added) (ja (qP C.k_less) (ja (qP C.k_moved) jd)))) (jr zg (jb 2) jg)) (ja (jb 0) (ja (jb 1) (ja (jb 3) jd))) (jc (jc (jc jh)))) (ac1 C.c_Moved hr (by decide) (jJ (zo (ja (qP C.k_added) (ja (qP C.k_less) (ja (qP C.k_moved) jd)))) (jr zg (jb 2) jg)) (ja (jb 0) (ja (jb 1) (ja (jb 3) jd))) (jc (jc (jc jh)))))))
  jk)))
   (fun E'=>(zY (jA (QR (jS (zx hr.units) (jb 2) jg) (jA (QS (j9 rfl C.x_plainS hr (by decide) (ja (jb 0) (ja (jQ qI C.t.len qJ (ja (jb 1) jd)) (ja (jb 3) jd))) (jc (jc (jc jh)))))) qZ)) (qk (qg (jS (zx hr.units) (jb 2) jg) (je (jy (ji C.c_plainS hr (by decide) (ja (jb 0) (ja (jQ qI C.t.len qJ (ja (jb 1) jd)) (ja (jb 3) jd))) (jc (jc (jc jh)))))
  jk) jk)
  (jA (QS (alG (abv rfl C.x_added hr (by decide) (jJ (zo (ja (qP C.k_added) (ja (qP C.k_less) (ja (qP C.k_moved) jd)))) (jr zg (jb 2) jg)) (ja (jb 0) (ja (jb 1) (ja (jb 3) jd))) (jc (jc (jc jh)))) (alG (abv rfl C.x_less hr (by decide) (jJ (zo (ja (qP C.k_added) (ja (qP C.k_less) (ja (qP C.k_moved) jd)))) (jr zg (jb 2) jg)) (ja (jb 0) (ja (jb 1) (ja (jb 3) jd))) (jc (jc (jc jh)))) (abv rfl C.x_Moved hr (by decide) (jJ (zo (ja (qP C.k_added) (ja (qP C.k_less) (ja (qP C.k_moved) jd)))) (jr zg (jb 2) jg)) (ja (jb 0) (ja (jb 1) (ja (jb 3) jd))) (jc (jc (jc jh)))))))))))
   (fun e=>(je (jy (ac0 C.h_LRefused (RoomH.mark (BX.Room.h (hr.mono (j:=1) (by decide)))) (ja (jb 4) jd) (jc jh))) jk))) (anw jk))⟩
noncomputable def Jz:LP->OP:=jw ahZ 4 zf.1
noncomputable abbrev acu:Stmt:=top 64
structure CLBegun (P:Program) (w:World) (K:Fg) (mg:SV) (base:Heap):Prop where
 m_setting:Jj P w K mg base "Hand" "setting" ["self"] 1 1 JN
 mk_Hand:alL P w K mg base "Hand" ["self","manner","rods"] 7 3 QX
 h_LRefused:ZA P w K mg base "_law_refused" ["_law_e"] 1 1 jT
 errT:ErrT K mg "BeadError" jX
noncomputable abbrev afq:List Str:=["_law_manner_here","_law_rods_here","_law_e"]
theorem ad6:FnScope afq ["_law_manner_here","_law_rods_here"] (jf acu):=⟨rfl,rfl,rfl,by decide +kernel,rfl,by decide +kernel,by decide +kernel⟩
noncomputable def ZY:{ B:TRS // aoL CLBegun "_law_begun" acu afq 8 B }:=
 ⟨_,fun P w K mg base f Kc A Ko s H E C hr=>
  (ac6 (adY (n:=3) 2 abt rfl ad6.nd C.errT
   (fun E'=>(jq (zh (zR rfl C.m_setting hr (by decide) (agm rfl C.mk_Hand hr (by decide) (jF (jx (jb 0)) (jF (jx (jb 1)) qm)))))
  jH))
   (fun e=>(je (jy (ac0 C.h_LRefused (RoomH.mark (BX.Room.h (hr.mono (j:=1) (by decide)))) (ja (jb 2) jd) (jc jh))) jk))) (agq jH))⟩
noncomputable def acv:GC3:=qG afq ZY.1
noncomputable abbrev ah0:Stmt:=top 65
structure CLaw (P:Program) (w:World) (K:Fg) (mg:SV) (base:Heap):Prop where
 m_value:Jj P w K mg base "Hand" "value" ["self"] 3 1 QY
 m_many:Jj P w K mg base "Hand" "many" ["self"] 1 1 adh
 m_setting:Jj P w K mg base "Hand" "setting" ["self"] 1 1 JN
 mk_Hand:alL P w K mg base "Hand" ["self","manner","rods"] 7 3 QX
 k_LBegun:adX P w K mg base "_law_begun" ["_law_manner_here","_law_rods_here"] 9 2 acv
 k_LTold:adX P w K mg base "_law_told" ["_law_hand","_law_way","_law_thing"] 15 3 zz
 t:Bare mg
 c_manner:jl P w K mg base "_law_manner" ["_law_script","_law_at"] 3 2 ZN
 c_drawn:jl P w K mg base "_law_drawn" ["_law_script","_law_k","_law_many"] 2 3 zM
 c_LValue:jl P w K mg base "_law_value" ["_law_manner_here","_law_setting_here"] 1 2 ZX
 c_LNext:jl P w K mg base "_law_next" ["_law_manner_here","_law_setting_here","_law_way","_law_thing"] 14 4 Jz
noncomputable abbrev an7:List Str:=["_law_script","_law_manner_here","_law_rods_here","_law_rows","_law_hand","_law_k","_law_here","_law_way","_law_thing","_law_deck","_law_due"]
theorem zA:FnScope an7 ["_law_script"] (jf ah0):=⟨rfl,rfl,rfl,by decide +kernel,rfl,by decide +kernel,by decide +kernel⟩
noncomputable def al5:{ B:TRS // aoK CLaw "law" ah0 an7 15 (ZH (ahK (jR ah0) 6)) B }:=
 ⟨_,fun P w K mg base f Kc A Ko s H E C hr=>
  (jq (zZ (jM 6 zA.nd (jr jD jg (jr qY jg (jb 5)))))
  (jq (zZ (jM 7 zA.nd (jJ (JT 2 (.list [.int 0,.int 1,.int 1,.int 2,.int 3,.int 3,.int 4]) (by kernel_rfl)) (ji C.c_drawn hr (by decide) (ja (jb 0) (ja (jb 6) (ja jg jd))) (jc (jc (jc jh)))))))
  (jq (zZ (jM 8 zA.nd (ji C.c_drawn hr (by decide) (ja (jb 0) (ja (jr jD (jb 6) jg) (ja (jJ (JT 2 (.list [.int 10,.int 100,.int 2000]) (by kernel_rfl)) (ji C.c_drawn hr (by decide) (ja (jb 0) (ja (jr jD (jb 6) jg) (ja jg jd))) (jc (jc (jc jh))))) jd))) (jc (jc (jc jh))))))
  (jq (zZ (qg (jS (zx hr.units) (jb 7) jg) (je (jM 9 zA.nd (jJ (JT 2 (.list [.str "upper",.str "lower"]) (by kernel_rfl)) (ji C.c_drawn hr (by decide) (ja (jb 0) (ja (jr jD (jb 6) jg) (ja jg jd))) (jc (jc (jc jh))))))
  (je (jM 8 zA.nd (Jx (ja (ji C.c_drawn hr (by decide) (ja (jb 0) (ja (jr jD (jb 6) jg) (ja (jb 2) jd))) (jc (jc (jc jh)))) (ja (jb 9) (ja (jJ (zo (ja jg (ja jg (ja (Zh jg) jd)))) (ji C.c_drawn hr (by decide) (ja (jb 0) (ja (jr jD (jb 6) jg) (ja jg jd))) (jc (jc (jc jh))))) jd)))))
  jk)) jk))
  (jq (zZ (qg (jS (zx hr.units) (ji C.c_drawn hr (by decide) (ja (jb 0) (ja (jr jD (jb 6) jg) (ja jg jd))) (jc (jc (jc jh)))) jg) (je (jM 8 zA.nd (jJ (zo (ja akT (ja (Zh jg) (ja Js (ja abk (ja (JT 2 (.tuple [.int 0,.str "lower",.int 2]) (by kernel_rfl)) jd)))))) (ji C.c_drawn hr (by decide) (ja (jb 0) (ja (jr jD (jb 6) jg) (ja jg jd))) (jc (jc (jc jh))))))
  jk) jk))
  (jq (JX (abw (jS (zx hr.units) (jb 7) jg)) (jq (zZ (jM 10 zA.nd (JT 2 (.tuple [.str "refused",.int 5]) (by kernel_rfl))))
  (jq (JX (anO 3 (jS ahr (jQ qI C.t.len qJ (ja (jb 3) jd)) jg)) (jq (ac2 (aiF (jx (jb 3))))
  (jq (acg 10 zA.nd (ZC 3 (ji C.c_LValue hr (by decide) (ja (jb 1) (ja (jJ (jb 3) (Zh jg)) jd)) (jc (jc jh)))))
  jH)) jH)
  jH)) (jq (acg 10 zA.nd (ZC 3 (ji C.c_LNext hr (by decide) (ja (jb 1) (ja (jJ (jb 3) (Zh jg)) (ja (jb 7) (ja (jb 8) jd)))) (jc (jc (jc (jc jh)))))))
  (jq (JX (abw (jS (zW hr.units) (jJ (jb 10) jg) abk)) (jq (ac2 (ac3 (jx (jb 3)) (jx (jb 10))))
  (jq (zZ (jM 10 zA.nd (ji C.c_LValue hr (by decide) (ja (jb 1) (ja (jb 10) jd)) (jc (jc jh)))))
  jH)) jH)
  jH)))
  (jq (JX (agj (aeV (Qg (zW hr.units) (QV C.k_LTold hr (by decide) (jF (jx (jb 4)) (jF (jx (jb 7)) (jF (jx (jb 8)) qm)))) (jx (jb 10))) (aeV (Qg (zW hr.units) (zR rfl C.m_setting hr (by decide) (jx (jb 4))) (ZC 3 (jJ (jb 3) (Zh jg)))) (aiC (Qg (zW hr.units) (zR rfl C.m_many hr (by decide) (jx (jb 4))) (ZC 3 (jr zg (jQ qI C.t.len qJ (ja (jb 3) jd)) jg))))))) (jq (zZ (jy Js))
  jH) jH)
  (jq (JX (Qg (zW hr.units) (zR rfl C.m_value hr (by decide) (jx (jb 4))) (ZC 3 (ji C.c_LValue hr (by decide) (ja (jb 1) (ja (jJ (jb 3) (Zh jg)) jd)) (jc (jc jh))))) (jq (zZ (jy Js))
  jH) jH)
  jH))))))))⟩
noncomputable def an8:{ B:TRS // aoK CLaw "law" ah0 an7 15 (jR ah0) B }:=
 ⟨_,fun P w K mg base f Kc A Ko s H E C hr=>
  (jq (zZ (jM 1 zA.nd (ji C.c_manner hr (by decide) (ja (jb 0) (ja jg jd)) (jc (jc jh)))))
  (jq (zZ (jM 2 zA.nd (jr jD jg (ji C.c_drawn hr (by decide) (ja (jb 0) (ja jg (ja jg jd))) (jc (jc (jc jh)))))))
  (jq (acg 3 zA.nd (aiG (acS (ja (jr alf (JT 3 (.tuple [.tuple [.int 0,.int 0]]) (by kernel_rfl)) (jb 2)) jd))))
  (jq (acg 4 zA.nd (agm rfl C.mk_Hand hr (by decide) (jF (jx (jb 1)) (jF (jx (jb 2)) qm))))
  (jq (JX (agj (aeV (Qg (zW hr.units) (QV C.k_LBegun hr (by decide) (jF (jx (jb 1)) (jF (jx (jb 2)) qm))) (ZC 3 (jJ (jb 3) jg))) (aeV (Qg (zW hr.units) (zR rfl C.m_value hr (by decide) (jx (jb 4))) (jx jg)) (aiC (Qg (zW hr.units) (QV C.k_LBegun hr (by decide) (jF (jx (agb (jb 1) jg)) (jF (jx (jb 2)) qm))) (jx (JT 2 (.tuple [.str "refused",.int 0]) (by kernel_rfl)))))))) (jq (zZ (jy Js))
  jH) jH)
  (jq (JX (Qg (zW hr.units) (QV C.k_LBegun hr (by decide) (jF (jx (jb 1)) (jF (jx (jJ (JT 2 (.list [.int 0,.int 5,.none,.bool true]) (by kernel_rfl)) (ji C.c_drawn hr (by decide) (ja (jb 0) (ja jg (ja jg jd))) (jc (jc (jc jh)))))) qm))) (jx (JT 2 (.tuple [.str "refused",.int 2]) (by kernel_rfl)))) (jq (zZ (jy Js))
  jH) jH)
  (jq (anS PassesOwn.never rfl (aah rfl C.t.range (ja (jQ (ais rfl) C.t.max ahv (ja jg (ja (jQ (ait rfl) C.t.min aeF (ja jg (ja (jQ qI C.t.len qJ (ja (jb 0) jd)) jd))) jd))) jd)) (qU 5 zA.nd) (al5.2 P w K mg base f Kc A Ko s H E C hr))
  (jq (zZ (jy Js))
  jH))))))))⟩
noncomputable def al6:GC3:=qG an7 an8.1
theorem j4 (i a b:Int):jW [.int i,.int a,.int b]=some (.bool (decide (a<=i) && decide (i<=b))):=by
 by_cases h:a<=i <;> simp [jW,jw,aaQ,jC,jK,ifS,orB,tst,lkp,Qt,tyn,asB,zn,chn,Jd,qB,qu,h]
theorem QZ (u e l b x y:Int) (h:-18446744073709551616<x/\x<18446744073709551616):qN [.tuple [.int u,.int e,.int l,.int b],.tuple [.int x,.int y]]=some (.int (x*e+y)):=by
 simp [qN,jw,abx,jC,jK,op2,lkp,dIx,atI,ixN,qB,qu,cst,Ze,zV,h]
theorem aj1 (x y:Int):Jy [.tuple [.int x,.int y]]=some (.int (x+y)):=by
 simp [Jy,jw,ahI,jC,jK,op2,lkp,dIx,atI,ixN,qB,qu,cst,zV]
theorem afr {n:Nat}{i:Int} (h0:0<=i) (h:i.toNat<n):ixN n i=some i.toNat:=by
 unfold ixN
 rw [if_pos h0,if_pos (by omega)]
noncomputable abbrev aa5:Stmt:=top 56
structure CSetting (P:Program) (w:World) (K:Fg) (mg:SV) (base:Heap):Prop where
 t:Bare mg
 drawn:jl P w K mg base "_law_drawn" ["_law_script","_law_k","_law_many"] 2 3 zM
noncomputable abbrev an9:List Str:=["_law_script","_law_at","_law_manner_here","_law_most","_law_rods_here","_law_found","_law_k","_law_rod"]
theorem adi:FnScope an9 ["_law_script","_law_at","_law_manner_here","_law_most"] (jf aa5):=⟨rfl,rfl,rfl,by decide +kernel,rfl,by decide +kernel,by decide +kernel⟩
noncomputable def apO:{ B:RO // alR CSetting "_law_setting" aa5 an9 2 (ZH (ahK (jR aa5) 2)) B }:=
 ⟨_,fun P w K mg base f Kc A Ko s H E C hr=>
  (je (jM 7 adi.nd (Jx (ja (ji C.drawn hr (by decide) (ja (jb 0) (ja (jr jD (jr jD (jb 1) jg) (jr qY jg (jb 6))) (ja (jr jD (jJ (jb 2) jg) jg) jd))) (jc (jc (jc jh)))) (ja (ji C.drawn hr (by decide) (ja (jb 0) (ja (jr jD (jr jD (jb 1) jg) (jr qY jg (jb 6))) (ja (jr jD (jJ (jb 2) jg) jg) jd))) (jc (jc (jc jh)))) jd))))
  (je (jM 5 adi.nd (jr jD (jb 5) (Jx (ja (jb 7) jd))))
  jk))⟩
noncomputable def asq:{ B:RO // zm CSetting "_law_setting" aa5 an9 2 B }:=
 ⟨_,fun P w K mg base f Kc A Ko s H E C hr=>
  (je (jM 4 adi.nd (jr jD jg (ji C.drawn hr (by decide) (ja (jb 0) (ja (jb 1) (ja (jb 3) jd))) (jc (jc (jc jh))))))
  (je (jM 5 adi.nd (Jx jd))
  (je (acb PassesOwn.never rfl (aah rfl C.t.range (ja (jb 4) jd)) (qU 6 adi.nd) (apO.2 P w K mg base f Kc A Ko s H E C hr))
  (je (jy (jb 5))
  jk))))⟩
noncomputable def asI:LP->OP:=jw an9 4 asq.1
noncomputable def okN (u e l b:Int):Bool:=decide (0<=u) && decide (u<=3) && decide (1<=e) && decide (e<=5) && decide (e - 1<=l) && decide (1<=l) && decide (l<=11) && decide (2<=b) && decide (b<=16) && decide (b<=u*e+l+1)
noncomputable def zj (u l:Int):LP:=Q5 (u+1).toNat (l+1).toNat
noncomputable def j1 (e:Int):PyData->Int
 | .tuple [.int x,.int y]=>x*e+y
 | _=>-1
noncomputable def fpr (m:PyData) (d:Int):Int × Int:=match Qi [m,.int d] with
 | some (.tuple [.int x,.int y])=>(x,y)
 | _=>(0,0)
noncomputable def pr (p:Int × Int):PyData:= .tuple [.int p.1,.int p.2]
noncomputable def jo (ps:List (Int × Int)):PyData:= .tuple (ps.map pr)
noncomputable def okP (u l:Int) (p:Int × Int):Bool:=decide (0<=p.1) && decide (p.1<=u) && decide (0<=p.2) && decide (p.2<=l)
noncomputable def okS (u l:Int) (ps:List (Int × Int)):Bool:=decide (1<=ps.length) && decide (ps.length<=4) && ps.all (okP u l)
noncomputable def wt (e:Int) (p:Int × Int):Int:=p.1*e+p.2
noncomputable def val (b e:Int) (ps:List (Int × Int)):Int:=ps.foldl (fun n p=>n*b+wt e p) 0
noncomputable def asE (b e:Int) (ps:List (Int × Int)):Bool:=ps.all fun p=>decide (wt e p<b)
noncomputable def dgl (b:Int):Nat->Int->List Int
 | 0,_=>[]
 | 1,n=>[n]
 | k+2,n=>dgl b (k+1) (n / b)++[n % b]
noncomputable def pln (m:PyData) (b:Int) (r:Nat) (n:Int):List (Int × Int):=(dgl b r n).map (fpr m)
noncomputable def f00:Int × Int:=(0,0)
noncomputable def arl (e:Int):List Int->LP->List Int
 | c,[]=>c
 | c,r::rs=>arl e (c.set (j1 e r).toNat (c.getD (j1 e r).toNat 0+1)) rs
noncomputable def arm (u e l:Int):List Int:=arl e (List.replicate (u*e+l+1).toNat 0) (zj u l)
noncomputable def cnt (u e l n:Int):Int:=((zj u l).filter fun r=>j1 e r == n).length
noncomputable def okM (u e l b:Int):Bool:=decide (0<=u) && decide (u<=3) && decide (1<=e) && decide (e<=5) && decide (e - 1<=l) && decide (1<=l) && decide (l<=10) && decide (2<=b) && decide (b<=16) && decide (b<=u*e+l+1)
theorem ad7 {n m:Nat}{d:PyData} (h:d ∈ Q5 n m):∃ i j:Nat,i<n/\j<m/\d= .tuple [.int i,.int j]:=by
 obtain ⟨i,hi,hd⟩:=List.mem_flatMap.mp h
 obtain ⟨j,hj,rfl⟩:=List.mem_map.mp hd
 exact ⟨i,j,List.mem_range.mp hi,List.mem_range.mp hj,rfl⟩
theorem JH (i:Int):okD (.int i)=true:=by simp [okD,PyData.canLay0,PyData.depth]
theorem abZ {u e l b:Int} (hu:0<=u) (hu':u<100) (hl:0<=l) (hl':l<100):J1 [jm u e l b]=some (.list (zj u l)):=by
 simp [J1,jm,zj,hu,hl,show u<1000 by omega,show l<1000 by omega]
theorem agI {u l:Int} (hu':u<100) (hl':l<100):few (zj u l)=true:=by
 simp only [few,zj,agu,decide_eq_true_eq]
 have:(u+1).toNat*(l+1).toNat<=100*100:=Nat.mul_le_mul (by omega) (by omega)
 omega
theorem ad8 {u e l b:Int} (hu':u<100) {d:PyData} (h:d ∈ zj u l):qN [jm u e l b,d]=some (.int (j1 e d)):=by
 obtain ⟨i,j,hi,hj,rfl⟩:=ad7 h
 exact QZ u e l b i j (by omega)
theorem al7 (ns:List Int):okD (.list (ns.map PyData.int))=true:=by
 have h1:∀ ns:List Int,PyData.canLayAll0 (ns.map PyData.int)=true:=fun ns=>by
  induction ns with
  | nil=>rfl
  | cons n ns ih=>simp [PyData.canLayAll0,PyData.canLay0,ih]
 have h2:∀ ns:List Int,PyData.depthAll (ns.map PyData.int)=0:=fun ns=>by
  induction ns with
  | nil=>rfl
  | cons n ns ih=>simp [PyData.depthAll,PyData.depth,ih]
 simp [okD,PyData.canLay0,h1,PyData.depth,h2]
theorem al8 (ns:List Int) (d:Int):(ns.map PyData.int).any (fun z=>PyData.eqv z (.int d))=ns.any (fun z=>z == d):=by
 induction ns with
 | nil=>rfl
 | cons n ns ih=>simp only [List.map_cons,List.any_cons,ih]; rfl
theorem acw {α:Type} (f:α->Bool):∀ xs:List α,bls (xs.map fun d=>PyData.bool (f d))=some (xs.map f)
 | []=>rfl
 | x::xs=>by simp [bls,asB,acw f xs]
theorem ix1 (u e l b:Int):dIx (jm u e l b) (.int 1)=some (.int e):=rfl
theorem ix3 (u e l b:Int):dIx (jm u e l b) (.int 3)=some (.int b):=rfl
theorem aiP {j:Int} (h:0<=j) (h':j<1000000):ahq [.int j]=some (aav 0 j.toNat):=by
 unfold ahq
 exact if_pos (by omega)
theorem Q0 (a b:Int):PyData.eqv (.int a) (.int b)=(a == b):=by unfold PyData.eqv; rfl
theorem adj {u e l b:Int} (hu:0<=u) (hu':u<100) (hl:0<=l) (hl':l<100) (hb:0<=b) (hb':b<100):aaR [jm u e l b]=some (.bool ((List.range b.toNat).all fun d=>((zj u l).map (j1 e)).any fun z=>z == (d:Int))):=by
 have h1:=abZ (e:=e) (b:=b) hu hu' hl hl'
 have h2:=agI hu' hl'
 have h4:few (aav 0 b.toNat)=true:=by simp [few,aav]; omega
 simp only [aaR,jw,aeY,jC,jK,qB,Z6,itL,jB,jj,jv,lkp,Zc,List.length_cons,List.length_nil,zzM,List.map_cons,List.map_nil,List.cons_append,List.nil_append,zzA,zzC,zzD,zzE,h1,h2,acJ,qV]
 rw [QB (fun d=> .int (j1 e d))]
 ·simp only [jO,qu,op2,cst,lkp,zzD,zzE,zzF,zzG,List.replicate,List.length_cons,List.length_nil,zzA,zzB,zzC,ix3,aiP hb (show b<1000000 by omega),h4,zzM]
  rw [QB (fun d=> .bool (((zj u l).map (j1 e)).any fun z=>z == (aaz d).getD 0))]
  ·have:(aav 0 b.toNat).map (fun d=>PyData.bool (((zj u l).map (j1 e)).any fun z=>z == (aaz d).getD 0))=(List.range b.toNat).map fun (d:Nat)=>PyData.bool (((zj u l).map (j1 e)).any fun z=>z == (d:Int)):=by
    simp [aav,aaz,Function.comp_def]
   simp only [zzE,zzD,this,akZ,acw (fun (d:Nat)=>((zj u l).map (j1 e)).any fun z=>z == (d:Int)),List.all_map,Function.comp_def,id]
  ·intro d hd
   obtain ⟨k,_,rfl⟩:=List.mem_map.mp hd
   have h5:(zj u l).map (fun d=>PyData.int (j1 e d))=((zj u l).map (j1 e)).map PyData.int:=by simp
   have h6:=al7 ((zj u l).map (j1 e))
   simp only [op2,lkp,zzG,zzA,zzB,zzC,zzD,dIn,JH,h5,h6,al8]
   simp [aaz]
 ·intro d hd
  simp [jB,jj,jv,lkp,ad8 (b:=b) (e:=e) hu' hd]
theorem afs {u e l b:Int} (hu:0<=u) (hu':u<=3) (he:1<=e) (he':e<=16) (hl:0<=l) (hl':l<=12) (hb:2<=b) (hb':b<=16):qH [jm u e l b]=aaR [jm u e l b]:=by
 have g:=adj (e:=e) hu (by omega) hl (by omega) (show 0<=b by omega) (by omega)
 have w1:jW [.int u,.int 0,.int 3]=some (.bool true):=by rw [j4]; simp [hu,hu']
 have w2:jW [.int e,.int 1,.int 16]=some (.bool true):=by rw [j4]; simp [he,he']
 have w3:jW [.int l,.int 0,.int 12]=some (.bool true):=by rw [j4]; simp [hl,hl']
 have w4:jW [.int b,.int 2,.int 16]=some (.bool true):=by rw [j4]; simp [hb,hb']
 have z:aiv [jm u e l b,.tuple [.int 0,.int 1,.int 0,.int 2],.tuple [.int 3,.int 16,.int 12,.int 16]]=some [.tuple [.int u,.int 0,.int 3],.tuple [.int e,.int 1,.int 16],.tuple [.int l,.int 0,.int 12],.tuple [.int b,.int 2,.int 16]]:=rfl
 rw [g]
 rw [show jm u e l b= .tuple [.int u,.int e,.int l,.int b] from rfl] at g z ⊢
 simp [qH,jw,aby,jC,jK,ifS,orB,zn,tst,Qt,tyn,asB,lkp,op2,jB,jj,jv,zl,cst,dNe,JH,Q0,qu,abm,z,qj,zC,jG,qq,jO,w1,w2,w3,w4,qB,g]
theorem Jn {m:PyData} (h:qH [m]=some (.bool true)):Jk [m]=some .none:=by
 simp [Jk,jw,aeZ,jC,jK,ifS,zn,tst,asB,jB,jj,jv,lkp,h,qu]
theorem aa6:few []=true:=by simp [few]
theorem add_int (i j:Int):zV (.int i) (.int j)=some (.int (i+j)):=rfl
theorem zT {i j:Int} (h:-1000000000000<i/\i<1000000000000):Ze (.int i) (.int j)=some (.int (i*j)):=by
 unfold Ze; exact if_pos (.inl ⟨by omega,by omega⟩)
theorem acx {i j:Int} (h:0<j):ajo (.int i) (.int j)=some (.int (i % j)):=by unfold ajo; exact if_pos h
theorem Zu {i j:Int} (h:0<j) (h':j<1000000000):acK (.int i) (.int j)=some (.int (i / j)):=by unfold acK; exact if_pos ⟨h,by omega⟩
theorem al9 (ns:List Int) (hn:ns.length<1000000) (k:Int) (hk:0<=k):∃ c,agz [scr ns,.int k]=some (.int c):=by
 cases ns with
 | nil=>
  refine ⟨7*k,?_⟩
  simp [agz,jw,aiJ,jC,jK,ifS,tst,op2,lkp,zB,jv,few,dEq,scr,Je,asB,qB,cst,zT,qu]
 | cons n ns=>
  have hl:0<(((n::ns).map fun n=>(PyData.int n,PyData.none)).length:Int):=by simp
  have hl':(((n::ns).map fun n=>(PyData.int n,PyData.none)).length:Int)<1000000:=by simp at hn ⊢; omega
  have hsc:=abj (n::ns)
  have e1:dEq (scr (n::ns)) (.list [])=some (.bool false):=by
   show (if Je ((n::ns).map fun n=>(PyData.int n,PyData.none))=true then some (PyData.bool ((n::ns).map fun n=>(PyData.int n,PyData.none)).isEmpty) else none)=_
   rw [if_pos hsc]; rfl
  have e2:zl [scr (n::ns)]=some (.int (((n::ns).map fun n=>(PyData.int n,PyData.none)).length)):=by
   show (if Je ((n::ns).map fun n=>(PyData.int n,PyData.none))=true then some (PyData.int ((n::ns).map fun n=>(PyData.int n,PyData.none)).length) else none)=_
   rw [if_pos hsc]
  generalize hL:(((n::ns).map fun n=>(PyData.int n,PyData.none)).length:Int)=L at*
  have h0:0<=k % L:=Int.emod_nonneg _ (by omega)
  have h1:k % L<L:=Int.emod_lt_of_pos _ hl
  have e3:∃ c,dIx (scr (n::ns)) (.int (k % L))=some (.int c):=by
   have hlen:((n::ns).map fun n=>(PyData.int n,PyData.none)).length<1000000:=by omega
   have hlt:(k % L).toNat<((n::ns).map fun n=>(PyData.int n,PyData.none)).length:=by omega
   have hx:ixN ((n::ns).map fun n=>(PyData.int n,PyData.none)).length (k % L)=some (k % L).toNat:=afr h0 hlt
   refine ⟨((n::ns)[(k % L).toNat]'(by simpa using hlt)),?_⟩
   show (if ((n::ns).map fun n=>(PyData.int n,PyData.none)).length<1000000/\Je ((n::ns).map fun n=>(PyData.int n,PyData.none))=true then (atI ((n::ns).map fun n=>(PyData.int n,PyData.none)) (k % L)).map (·.1) else none)=_
   rw [if_pos ⟨hlen,hsc⟩]
   unfold atI
   rw [hx,zzD,List.getElem?_eq_getElem hlt,zzE,List.getElem_map]
  obtain ⟨c,e3⟩:=e3
  refine ⟨c+6553*(k / L),?_⟩
  simp [agz,jw,aiJ,jC,jK,ifS,tst,op2,lkp,zB,jv,few,asB,qB,cst,qu,jB,jj,e1,e2,e3,acx hl,Zu hl (show L<1000000000 by omega),zT,add_int]
theorem ql (ns:List Int) (hn:ns.length<1000000) (k m:Int) (hk:0<=k) (hm:0<m):∃ r,zM [scr ns,.int k,.int m]=some (.int r)/\0<=r/\r<m:=by
 obtain ⟨c,hc⟩:=al9 ns hn k hk
 generalize h1:(c % 2147483563*69069+104723*(k+1)) % 2147483563=a
 generalize h2:(a*a+a / 3) % 2147483399=d
 have ha:0<=a/\a<2147483563:=by rw [←h1]; exact ⟨Int.emod_nonneg _ (by omega),Int.emod_lt_of_pos _ (by omega)⟩
 have hd:0<=d/\d<2147483399:=by rw [←h2]; exact ⟨Int.emod_nonneg _ (by omega),Int.emod_lt_of_pos _ (by omega)⟩
 have hc':0<=c % 2147483563/\c % 2147483563<2147483563:=⟨Int.emod_nonneg _ (by omega),Int.emod_lt_of_pos _ (by omega)⟩
 refine ⟨(d*d+d / 7) % 2147483647 / 11 % m,?_,Int.emod_nonneg _ (by omega),Int.emod_lt_of_pos _ hm⟩
 have m1:Ze (.int (c % 2147483563)) (.int 69069)=some (.int (c % 2147483563*69069)):=zT (by omega)
 have m2:Ze (.int 104723) (.int (k+1))=some (.int (104723*(k+1))):=zT (by omega)
 have m3:Ze (.int a) (.int a)=some (.int (a*a)):=zT (by omega)
 have m4:Ze (.int d) (.int d)=some (.int (d*d)):=zT (by omega)
 simp [zM,jw,ahL,jC,jK,qV,jO,op2,lkp,jv,qB,cst,qu,jB,jj,hc,m1,m2,m3,m4,acx,Zu,add_int,h1,h2,hm]
theorem ama (w:Int) (h0:0<=w) (h:w<12):∃ u e l b,dIx (.list (abD++abE)) (.int w)=some (jm u e l b)/\okM u e l b=true:=by
 obtain ⟨n,rfl⟩:=Int.eq_ofNat_of_zero_le h0
 have hn:n<12:=by omega
 have:∀ n<12,∃ u e l b,dIx (.list (abD++abE)) (.int (n:Nat))=some (jm u e l b)/\okM u e l b=true:=by
  intro n hn
  match n,hn with
  | 0,_=>exact ⟨_,_,_,_,rfl,by decide⟩
  | 1,_=>exact ⟨_,_,_,_,rfl,by decide⟩
  | 2,_=>exact ⟨_,_,_,_,rfl,by decide⟩
  | 3,_=>exact ⟨_,_,_,_,rfl,by decide⟩
  | 4,_=>exact ⟨_,_,_,_,rfl,by decide⟩
  | 5,_=>exact ⟨_,_,_,_,rfl,by decide⟩
  | 6,_=>exact ⟨_,_,_,_,rfl,by decide⟩
  | 7,_=>exact ⟨_,_,_,_,rfl,by decide⟩
  | 8,_=>exact ⟨_,_,_,_,rfl,by decide⟩
  | 9,_=>exact ⟨_,_,_,_,rfl,by decide⟩
  | 10,_=>exact ⟨_,_,_,_,rfl,by decide⟩
  | 11,_=>exact ⟨_,_,_,_,rfl,by decide⟩
  | k+12,h=>omega
 exact this n hn
theorem ah1 (ns:List Int) (hn:ns.length<1000000) (k:Int) (hk:0<=k):∃ u e l b,ZN [scr ns,.int k]=some (jm u e l b)/\okM u e l b=true:=by
 obtain ⟨w,hw,hw0,hw1⟩:=ql ns hn k 24 hk (by omega)
 have a1:zV (.list abD) (.list abE)=some (.list (abD++abE)):=rfl
 have a2:zl [.list (abD++abE)]=some (.int 12):=rfl
 have a3:Ze (.int 2) (.int 12)=some (.int 24):=rfl
 by_cases hlt:w<12
 ·obtain ⟨u,e,l,b,h1,h2⟩:=ama w hw0 hlt
  refine ⟨u,e,l,b,?_,h2⟩
  simp [ZN,jw,ack,jC,jK,qV,jO,op2,lkp,jv,qB,cst,qu,jB,jj,ifS,tst,asB,a1,a2,a3,hw,Jd,hlt,h1]
 ·obtain ⟨r1,e1,p1,q1⟩:=ql ns hn (k+1) 5 (by omega) (by omega)
  obtain ⟨r2,e2,p2,q2⟩:=ql ns hn (k+2) 4 (by omega) (by omega)
  obtain ⟨r3,e3,p3,q3⟩:=ql ns hn (k+3) 4 (by omega) (by omega)
  generalize hlo:(if (1:Int) > 1+r1 - 1 then 1 else 1+r1 - 1)+r3=lo
  have hlo1:1<=lo/\r1<=lo/\lo<=10:=by
   rw [←hlo]; split <;> omega
  have hue:0<=r2*(1+r1)/\r2*(1+r1)<=3*5:=⟨Int.mul_nonneg p2 (by omega),Int.mul_le_mul (by omega) (by omega) (by omega) (by omega)⟩
  generalize hmn:(if r2*(1+r1)+lo<15 then r2*(1+r1)+lo else 15)=mn
  have hmn1:0<mn/\mn<=15/\mn<=r2*(1+r1)+lo:=by
   rw [←hmn]; split <;> omega
  obtain ⟨r4,e4,p4,q4⟩:=ql ns hn (k+4) mn (by omega) (by omega)
  refine ⟨r2,1+r1,lo,2+r4,?_,?_⟩
  ·have m1:Ze (.int r2) (.int (1+r1))=some (.int (r2*(1+r1))):=zT (by omega)
   have x1:afX [.int (1+r1 - 1),.int 1]=some (.int (if (1:Int) > 1+r1 - 1 then 1 else 1+r1 - 1)):=rfl
   have x2:afY [.int 15,.int (r2*(1+r1)+lo)]=some (.int (if r2*(1+r1)+lo<15 then r2*(1+r1)+lo else 15)):=rfl
   have x3:Z4 (.int (1+r1)) (.int 1)=some (.int (1+r1 - 1)):=rfl
   simp only [ZN,jw,ack,jC,jK,qV,jO,op2,lkp,jv,qB,cst,qu,jB,jj,ifS,tst,asB,a1,a2,a3,hw,Jd,hlt,zzD,zzE,zzF,zzG,List.replicate,List.length_cons,List.length_nil,zzM,List.map_cons,List.map_nil,List.cons_append,List.nil_append,zzA,zzB,zzC,add_int,e1,e2,e3,m1,x1,x2,x3,decide_false,hlo,hmn,e4]
   simp [e1,e2,e3,m1,x1,x2,x3,hlo,hmn,e4,add_int,lkp,ab4,jj,jv,few,jm]
   simp only [ab4,jj,jv,lkp,op2,jB,cst,zzD,zzE,zzA,zzB,zzC,add_int,m1,x2,hmn,e4]
   simp
  ·have:=hue.1
   simp [okM]
   omega
noncomputable def isInt (t:Int):PyData->Bool
 | .int x=>x == t
 | _=>false
noncomputable def apP (u e l:Int):Bool:=
 isInt (u*e+l) (apv none ((zj u l).map (j1 e))) &&
 ((List.range (u*e+l+1).toNat).all fun n=>(zj u l).any fun r=>j1 e r == (n:Int)) &&
 ((zj u l).all fun r=>decide (0<=j1 e r) && decide (j1 e r<=u*e+l)) &&
 decide (arm u e l=(List.range (u*e+l+1).toNat).map fun (n:Nat)=>cnt u e l n)
noncomputable def za:Bool:=(List.range 4).all fun (i:Nat)=>(List.range 5).all fun (j:Nat)=>(List.range 11).all fun (k:Nat)=>decide (k+1<j) || apP i (j+1) (k+1)
structure Chk (u e l:Int):Prop where
 most:apv none ((zj u l).map (j1 e))= .int (u*e+l)
 dig:∀ n:Nat,n<(u*e+l+1).toNat->((zj u l).any fun r=>j1 e r == (n:Int))=true
 rng:∀ r ∈ zj u l,0<=j1 e r/\j1 e r<=u*e+l
 lst:arm u e l=(List.range (u*e+l+1).toNat).map fun (n:Nat)=>cnt u e l n
theorem apQ {u e l:Int} (h:apP u e l=true):Chk u e l:=by
 simp only [apP,Bool.and_eq_true,List.all_eq_true,decide_eq_true_eq] at h
 obtain ⟨⟨⟨h1,h2⟩,h3⟩,h4⟩:=h
 refine ⟨?_,fun n hn=>h2 n (List.mem_range.mpr hn),fun r hr=>h3 r hr,h4⟩
 generalize apv none ((zj u l).map (j1 e))=x at h1
 cases x <;> simp [isInt] at h1
 rw [h1]
theorem qE {u e l b:Int} (h:okN u e l b=true):0<=u/\u<=3/\1<=e/\e<=5/\e - 1<=l/\1<=l/\l<=11/\2<=b/\b<=16/\b<=u*e+l+1:=by
 simp only [okN,Bool.and_eq_true,decide_eq_true_eq] at h
 omega
theorem apR {u e l b:Int} (H:za=true) (h:okN u e l b=true):Chk u e l:=by
 obtain ⟨a1,a2,a3,a4,a5,a6,a7,_⟩:=qE h
 simp only [za,List.all_eq_true,Bool.or_eq_true,decide_eq_true_eq] at H
 have:=H u.toNat (List.mem_range.mpr (by omega)) (e - 1).toNat (List.mem_range.mpr (by omega)) (l - 1).toNat (List.mem_range.mpr (by omega))
 rcases this with z | z
 ·exfalso; omega
 ·rw [show ((u.toNat:Nat):Int)=u by omega,show (((e - 1).toNat:Nat):Int)+1=e by omega,show (((l - 1).toNat:Nat):Int)+1=l by omega] at z
  exact apQ z
theorem aoa {u e l b:Int} (h:okM u e l b=true):okN u e l b=true:=by
 simp only [okM,okN,Bool.and_eq_true,decide_eq_true_eq] at h ⊢
 omega
theorem amb {u e l b:Int} (H:za=true) (h:okN u e l b=true) {n:Int} (h0:0<=n) (hn:n<b):((zj u l).any fun r=>j1 e r == n)=true:=by
 obtain ⟨a1,a2,a3,a4,a5,a6,a7,a8,a9,a10⟩:=qE h
 have:=(apR H h).dig n.toNat (by omega)
 rw [show ((n.toNat:Nat):Int)=n by omega] at this
 exact this
noncomputable def Zv (u e l w:Int):LP:=(zj u l).filter fun r=>j1 e r == w
theorem aft {u e l b w:Int} (hu:0<=u) (hu':u<100) (hl:0<=l) (hl':l<100):ZG [jm u e l b,.int w]=some (.list (Zv u e l w)):=by
 have h1:=abZ (e:=e) (b:=b) hu hu' hl hl'
 have h2:=agI hu' hl'
 simp only [ZG,jw,abz,jC,jK,qB,Z6,itL,jB,jj,jv,lkp,Zc,List.length_cons,List.length_nil,zzM,List.map_cons,List.map_nil,List.cons_append,List.nil_append,zzA,zzC,zzD,zzE,h1,h2,acJ]
 rw [acO (fun d=>j1 e d == w) id]
 ·simp [Zv]
 ·intro d hd
  simp [tst,op2,jB,jj,jv,lkp,ad8 (b:=b) (e:=e) hu' hd,dEq,JH,PyData.eqv,asB]
 ·intro d hd _
  simp [lkp]
theorem abK (kf:PyData->Int):∀ (r:LP) (d:PyData),Z8 kf d r=d ∨ Z8 kf d r ∈ r
 | [],d=> .inl rfl
 | x::r,d=>by
  unfold Z8
  split
  ·rcases abK kf r x with z | z
   ·exact .inr (by rw [z]; exact List.mem_cons_self)
   ·exact .inr (List.mem_cons_of_mem _ z)
  ·rcases abK kf r d with z | z
   ·exact .inl z
   ·exact .inr (List.mem_cons_of_mem _ z)
noncomputable def Zw (m:PyData) (d:Int):PyData:=pr (fpr m d)
theorem Jo {u e l b:Int} (H:za=true) (h:okN u e l b=true) {d:Int} (h0:0<=d) (hd:d<b):
  Qi [jm u e l b,.int d]=some (Zw (jm u e l b) d)/\wt e (fpr (jm u e l b) d)=d/\okP u l (fpr (jm u e l b) d)=true:=by
 obtain ⟨a1,a2,a3,a4,a5,a6,a7,a8,a9,a10⟩:=qE h
 have hw:=aft (e:=e) (b:=b) (w:=d) a1 (show u<100 by omega) (show 0<=l by omega) (show l<100 by omega)
 have any:=amb H h h0 hd
 have rods:∀ r ∈ Zv u e l d,∃ i j:Nat,r= .tuple [.int i,.int j]/\(i:Int)*e+j=d/\(i:Int)<=u/\(j:Int)<=l:=fun r hr=>by
  obtain ⟨h1,h2⟩:=List.mem_filter.mp hr
  obtain ⟨i,j,q1,q2,rfl⟩:=ad7 h1
  exact ⟨i,j,rfl,by simpa [j1] using h2,by omega,by omega⟩
 have kb:∀ i j:Nat,Jy [.tuple [.int i,.int j]]=some (.int (i+j)):=fun i j=>aj1 i j
 have hk:acP Jy (Zv u e l d)=true:=List.all_eq_true.mpr fun r hr=>by
  obtain ⟨i,j,rfl,_,_⟩:=rods r hr
  rw [kb]; rfl
 have mem:adv (aaE Jy) none (Zv u e l d) ∈ Zv u e l d:=by
  cases hr:Zv u e l d with
  | nil=>
   exfalso
   obtain ⟨r,h1,h2⟩:=List.any_eq_true.mp any
   have:r ∈ Zv u e l d:=List.mem_filter.mpr ⟨h1,h2⟩
   rw [hr] at this; cases this
  | cons r rs=>
   show Z8 (aaE Jy) r rs ∈ r::rs
   rcases abK (aaE Jy) rs r with z | z
   ·rw [z]; exact List.mem_cons_self
   ·exact List.mem_cons_of_mem _ z
 obtain ⟨i,j,e1,e2,e3,e4⟩:=rods _ mem
 have g:Qi [jm u e l b,.int d]=some (.tuple [.int i,.int j]):=by
  have hm:abo Jy (.list (Zv u e l d))=some (.tuple [.int i,.int j]):=by
   show (if acP Jy (Zv u e l d)=true then some (adv (aaE Jy) none (Zv u e l d)) else none)=_
   rw [if_pos hk,e1]
  simp [Qi,jw,ae0,jC,jK,jB,jj,jv,lkp,qB,hw,hm]
 have f:fpr (jm u e l b) d=((i:Int),(j:Int)):=by unfold fpr; rw [g]
 unfold Zw
 rw [f]
 refine ⟨g,e2,?_⟩
 simp only [okP,Bool.and_eq_true,decide_eq_true_eq]
 exact ⟨⟨⟨by omega,e3⟩,by omega⟩,e4⟩
end Rods
theorem Rods.allN_true:Rods.za=true:=by decide +kernel
namespace Rods
open PySem L2 BX
open PyProof.Rows hiding St
theorem ZZ {tc:Rho->Option Bool}{F:RO}{n:Nat}{ρ ρ':Rho} (h:tc ρ=some true) (h':F ρ=some (.nx ρ')):zX tc F (n+1) ρ=zX tc F n ρ':=by
 show (tc ρ).bind _=_
 rw [h,h']
 rfl
theorem acy {tc:Rho->Option Bool}{F:RO}{n:Nat}{ρ:Rho} (h:tc ρ=some false):zX tc F (n+1) ρ=some (.nx ρ):=by
 show (tc ρ).bind _=_
 rw [h]
 rfl
theorem qh {F G:RO}{ρ ρ1:Rho} (h:F ρ=some (.nx ρ1)):jK F G ρ=G ρ1:=by
 unfold jK
 rw [h]
 rfl
theorem jZ {N:List Str}{n:Nat}{B:RO}{ds:LP}{d:PyData} (hl:ds.length=n) (h:B (jC N ds)=some (.rt d)):jw N n B ds=some d:=by
 unfold jw
 rw [if_pos hl,h]
noncomputable def tcD:Rho->Option Bool:=tst (op2 (Jd fun i j=>decide (i<j)) (jB zl (jj (lkp 3) jv)) (op2 Z4 (lkp 1) (cst (.int 1))))
theorem ad9 {b k:Int}{r n:OP}{ds:LP} (hb:0<b) (hb':b<=16) (hl:ds.length<1000):
  aal.1 [some (.int b),r,n,some (.list ds),some (.int k)]=some (.nx [some (.int b),r,n,some (.list (.int (k % b)::ds)),some (.int (k / b))]):=by
 have m1:∀ i:Int,ajo (.int i) (.int b)=some (.int (i % b)):=fun i=>acx hb
 have m2:∀ i:Int,acK (.int i) (.int b)=some (.int (i / b)):=fun i=>Zu hb (by omega)
 have hl':ds.length<1000000:=by omega
 simp [aal,jK,ale,aq7,anr,op2,lkp,cst,m1,m2,noL,hl',qV,jO,brw,hid,qu]
theorem Qy {b:OP}{r:Int}{n k:OP}{ds:LP}:tcD [b,some (.int r),n,some (.list ds),k]=some (decide ((ds.length:Int)<r - 1)):=by
 simp [tcD,tst,op2,jB,jj,jv,lkp,cst,zl,Z4,Jd,asB]
theorem afu {b r n:Int}{ds:LP}{k:Int} (hl:zX tcD aal.1 10 [some (.int b),some (.int r),some (.int n),some (.list []),some (.int n)]=some (.nx [some (.int b),some (.int r),some (.int n),some (.list ds),some (.int k)]))
  (hd:ds.length<100) (hn:noLs ds=true):ab7 [.int b,.int r,.int n]=some (.list (.int k::ds)):=by
 have f0:few []=true:=aa6
 have f1:few [PyData.int k]=true:=by rw [few]; exact decide_eq_true (by show 1<1000000; decide)
 have f2:few ([PyData.int k]++ds)=true:=by
  rw [few]
  refine decide_eq_true ?_
  rw [List.length_append,List.length_singleton]
  omega
 have e:an0.1 [some (.int b),some (.int r),some (.int n),none,none]=some (.rt (.list (.int k::ds))):=by
  simp only [an0]
  show abp 3 (zB jv) (jK (qV (brw (some 3) (lkp 2)) (jO 4)) (jK (zX tcD aal.1 10) (jK (qB (op2 zV (zB (jj (lkp 4) jv)) (lkp 3))) qu))) _=_
  have h2:jK (zX tcD aal.1 10) (jK (qB (op2 zV (zB (jj (lkp 4) jv)) (lkp 3))) qu) [some (.int b),some (.int r),some (.int n),some (.list []),some (.int n)]=some (.rt (.list (.int k::ds))):=by
   unfold jK
   rw [hl]
   simp only [zzD,qB,op2,zB,jj,jv,lkp,zzA,zzB,zzC,zzE,f1,zzM,zV,f2]
   rfl
  have h1:qV (brw (some 3) (lkp 2)) (jO 4) [some (.int b),some (.int r),some (.int n),some (.list []),none]=some (.nx [some (.int b),some (.int r),some (.int n),some (.list []),some (.int n)]):=rfl
  have h3:jK (qV (brw (some 3) (lkp 2)) (jO 4)) (jK (zX tcD aal.1 10) (jK (qB (op2 zV (zB (jj (lkp 4) jv)) (lkp 3))) qu)) [some (.int b),some (.int r),some (.int n),some (.list []),none]=some (.rt (.list (.int k::ds))):=by
   rw [←h2]
   conv=>lhs; unfold jK
   rw [h1]
   rfl
  unfold abp
  simp only [zB,jv,zzD,f0,zzM,List.length_cons,List.length_nil]
  rw [if_pos (by decide)]
  simp only [zzF,zzG,h3,zzD]
 exact jZ rfl e
theorem acz {b n:Int} (hb:0<b) (hb':b<=16) {r:Nat} (h1:1<=r) (h4:r<=4):ab7 [.int b,.int (r:Int),.int n]=some (.list ((dgl b r n).map .int)):=by
 have:r=1 ∨ r=2 ∨ r=3 ∨ r=4:=by omega
 rcases this with e | e | e | e <;> subst e
 ·refine afu (ds:=[]) (k:=n) ?_ (by simp) (by simp [noLs,noL])
  rw [acy (Qy.trans (by rfl))]
 ·refine afu (ds:=[.int (n % b)]) (k:=n / b) ?_ (by simp) (by simp [noLs,noL])
  rw [ZZ (Qy.trans (by rfl)) (ad9 hb hb' (by simp)),acy (Qy.trans (by rfl))]
 ·refine afu (ds:=[.int (n / b % b),.int (n % b)]) (k:=n / b / b) ?_ (by simp) (by simp [noLs,noL])
  rw [ZZ (Qy.trans (by rfl)) (ad9 hb hb' (by simp)),ZZ (Qy.trans (by rfl)) (ad9 hb hb' (by simp)),acy (Qy.trans (by rfl))]
 ·refine afu (ds:=[.int (n / b / b % b),.int (n / b % b),.int (n % b)]) (k:=n / b / b / b) ?_ (by simp) (by simp [noLs,noL])
  rw [ZZ (Qy.trans (by rfl)) (ad9 hb hb' (by simp)),ZZ (Qy.trans (by rfl)) (ad9 hb hb' (by simp)),ZZ (Qy.trans (by rfl)) (ad9 hb hb' (by simp)),acy (Qy.trans (by rfl))]
theorem pw1 (b:Int):b ^ 1=b:=by rw [Int.pow_succ,Int.pow_zero,Int.one_mul]
theorem afv {b:Int} (hb:0<b):∀ r:Nat,0<b ^ r
 | 0=>by simp
 | r+1=>by rw [Int.pow_succ]; exact Int.mul_pos (afv hb r) hb
theorem aoM {b:Int} (h0:0<b) (h:b<=16):∀ r:Nat,b ^ r<=16 ^ r
 | 0=>by simp
 | r+1=>by
  rw [Int.pow_succ,Int.pow_succ]
  exact Int.mul_le_mul (aoM h0 h r) h (by omega) (Int.le_of_lt (afv (by decide) r))
theorem apS {b:Int} (h0:0<b) (h:b<=16) {r:Nat} (hr:r<=4):b ^ r<=65536:=by
 have:r=0 ∨ r=1 ∨ r=2 ∨ r=3 ∨ r=4:=by omega
 have:=aoM h0 h r
 rcases ‹r=0 ∨ _› with e | e | e | e | e <;> subst e <;> first | (exact Int.le_trans this (by decide))
theorem Zx (b:Int) (k:Nat) (n:Int):dgl b (k+2) n=dgl b (k+1) (n / b)++[n % b]:=rfl
theorem Z0 (b:Int):∀ (r:Nat) (n:Int),(dgl b r n).length=r
 | 0,_=>rfl
 | 1,_=>rfl
 | k+2,n=>by rw [Zx,List.length_append,Z0 b (k+1)]; rfl
theorem abL {b n:Int} (hb:0<b) {k:Nat} (h:n<b ^ (k+1)):n / b<b ^ k:=
 Int.ediv_lt_of_lt_mul hb (by rw [←Int.pow_succ]; exact h)
theorem afw {b:Int} (hb:0<b):∀ (r:Nat) (n:Int),0<=n->n<b ^ r->∀ d ∈ dgl b r n,0<=d/\d<b
 | 0,n,_,_,d,hd=>by cases hd
 | 1,n,h0,h1,d,hd=>by
  rw [show dgl b 1 n=[n] from rfl,List.mem_singleton] at hd
  subst hd
  exact ⟨h0,by rw [pw1] at h1; exact h1⟩
 | k+2,n,h0,h1,d,hd=>by
  rw [Zx] at hd
  rcases List.mem_append.mp hd with q | q
  ·exact afw hb (k+1) (n / b) (Int.ediv_nonneg h0 (by omega)) (abL hb h1) d q
  ·rw [List.mem_singleton] at q
   subst q
   exact ⟨Int.emod_nonneg _ (by omega),Int.emod_lt_of_pos _ hb⟩
theorem aa7 {b:Int} (hb:0<b):∀ (k:Nat) (n:Int),0<=n->∃ x r,dgl b (k+1) n=x::r/\(n<b ^ (k+1)->x<b)/\(b ^ (k+1)<=n->b<=x)
 | 0,n,h0=>⟨n,[],rfl,fun h=>by rw [Nat.zero_add,pw1] at h; exact h,fun h=>by rw [Nat.zero_add,pw1] at h; exact h⟩
 | k+1,n,h0=>by
  obtain ⟨x,r,e,h1,h2⟩:=aa7 hb k (n / b) (Int.ediv_nonneg h0 (by omega))
  refine ⟨x,r++[n % b],?_,fun h=>h1 (abL hb h),fun h=>h2 ?_⟩
  ·rw [Zx,e]; rfl
  ·refine Int.le_ediv_of_mul_le hb ?_
   rw [←Int.pow_succ]; exact h
theorem amc (b e:Int) (ps:List (Int × Int)) (p:Int × Int):val b e (ps++[p])=val b e ps*b+wt e p:=by simp [val]
section
variable {u e l b:Int}
theorem aiQ (H:za=true) (h:okN u e l b=true):∀ (r:Nat) (n:Int),1<=r->0<=n->n<b ^ r->val b e (pln (jm u e l b) b r n)=n
 | 0,n,h1,_,_=>by omega
 | 1,n,_,h0,hn=>by
  have:=(Jo H h h0 (show n<b by rw [pw1] at hn; exact hn)).2.1
  show 0*b+wt e (fpr (jm u e l b) n)=n
  rw [this]; omega
 | k+2,n,_,h0,hn=>by
  obtain ⟨a1,a2,a3,a4,a5,a6,a7,a8,a9,a10⟩:=qE h
  have hb:0<b:=by omega
  have ih:=aiQ H h (k+1) (n / b) (by omega) (Int.ediv_nonneg h0 (by omega)) (abL hb hn)
  have hd:=(Jo H h (d:=n % b) (Int.emod_nonneg _ (by omega)) (Int.emod_lt_of_pos _ hb)).2.1
  unfold pln at ih ⊢
  rw [Zx,List.map_append,List.map_singleton,amc,ih,hd,Int.mul_comm]
  exact Int.mul_ediv_add_emod n b
theorem acA (m:PyData) (b:Int) (r:Nat) (n:Int):(pln m b r n).length=r:=by rw [pln,List.length_map,Z0]
theorem ah2 (H:za=true) (h:okN u e l b=true) {r:Nat}{n:Int} (h1:1<=r) (h4:r<=4) (h0:0<=n) (hn:n<b ^ r):okS u l (pln (jm u e l b) b r n)=true:=by
 obtain ⟨a1,a2,a3,a4,a5,a6,a7,a8,a9,a10⟩:=qE h
 simp only [okS,Bool.and_eq_true,decide_eq_true_eq,acA]
 refine ⟨⟨h1,h4⟩,List.all_eq_true.mpr fun p hp=>?_⟩
 obtain ⟨d,hd,rfl⟩:=List.mem_map.mp hp
 obtain ⟨d0,d1⟩:=afw (show 0<b by omega) r n h0 hn d hd
 exact (Jo H h d0 d1).2.2
theorem JP {u l:Int}{p:Int × Int} (h:okP u l p=true):0<=p.1/\p.1<=u/\0<=p.2/\p.2<=l:=by
 simp only [okP,Bool.and_eq_true,decide_eq_true_eq] at h
 exact ⟨h.1.1.1,h.1.1.2,h.1.2,h.2⟩
theorem aoN {e u l:Int} (he:1<=e) {p:Int × Int} (h:okP u l p=true):0<=wt e p:=by
 obtain ⟨h1,h2,h3,h4⟩:=JP h
 have:=Int.mul_nonneg h1 (show 0<=e by omega)
 unfold wt; omega
theorem arn {e u l:Int} (he:1<=e) (he5:e<=5) (hu:u<=3) (hl:l<=11) {p:Int × Int} (h:okP u l p=true):wt e p<=26:=by
 obtain ⟨h1,h2,h3,h4⟩:=JP h
 have:p.1*e<=3*5:=Int.mul_le_mul (by omega) he5 (by omega) (by omega)
 unfold wt; omega
end
theorem Qn {ds:LP} (h:ds.length<10000):few ds=true:=by
 rw [few]
 refine decide_eq_true ?_
 omega
theorem adA {u e l b:Int} (H:za=true) (h:okN u e l b=true):qH [jm u e l b]=some (.bool true):=by
 obtain ⟨a1,a2,a3,a4,a5,a6,a7,a8,a9,a10⟩:=qE h
 rw [afs a1 a2 a3 (by omega) (by omega) (by omega) a8 a9,adj a1 (by omega) (by omega) (by omega) (by omega) (by omega)]
 congr 2
 refine List.all_eq_true.mpr fun d hd=>?_
 have:=amb H h (n:=(d:Int)) (by omega) (by have:=List.mem_range.mp hd; omega)
 simpa [List.any_map,Function.comp_def] using this
theorem abM {u l:Int}{ps:List (Int × Int)} (h:okS u l ps=true):1<=ps.length/\ps.length<=4/\ps.all (okP u l)=true:=by
 simp only [okS,Bool.and_eq_true,decide_eq_true_eq] at h
 exact ⟨h.1.1,h.1.2,h.2⟩
theorem apT {u l:Int}{ps:List (Int × Int)} (h1:1<=ps.length) (h2:ps.length<=4) (h3:ps.all (okP u l)=true):okS u l ps=true:=by
 simp only [okS,Bool.and_eq_true,decide_eq_true_eq]
 exact ⟨⟨h1,h2⟩,h3⟩
section
variable {u e l b:Int}{ps qs:List (Int × Int)}
theorem agJ (h:okN u e l b=true) {S:PyData}:∀ (qs:List (Int × Int)) (acc:Int) (x:OP),qs.all (okP u l)=true->0<=acc->(acc+30)*16 ^ qs.length<=1000000000->
  ∃ y,qj (jO 3) ae2.1 (qs.map pr) [some (jm u e l b),some S,some (.int acc),x]=some (.nx [some (jm u e l b),some S,some (.int (qs.foldl (fun n p=>n*b+wt e p) acc)),y])
 | [],acc,x,_,_,_=>⟨x,rfl⟩
 | q::qs,acc,x,hq,h0,hB=>by
  obtain ⟨a1,a2,a3,a4,a5,a6,a7,a8,a9,a10⟩:=qE h
  rw [List.all_cons,Bool.and_eq_true] at hq
  obtain ⟨q1,q2,q3,q4⟩:=JP hq.1
  have w0:=aoN a3 hq.1
  have w1:=arn a3 a4 a2 a7 hq.1
  have hp:=afv (b:=16) (by decide) qs.length
  rw [List.length_cons,Int.pow_succ,Int.mul_comm (16 ^ qs.length) 16,←Int.mul_assoc] at hB
  have ha:0<=acc*b:=Int.mul_nonneg h0 (by omega)
  have hb2:acc*b<=acc*16:=Int.mul_le_mul_of_nonneg_left a9 h0
  have hB':(acc*b+wt e q+30)*16 ^ qs.length<=1000000000:=Int.le_trans (Int.mul_le_mul_of_nonneg_right (by omega) (Int.le_of_lt hp)) hB
  have hacc:acc<=1000000000:=by
   have h1:(acc+30)*16*1<=(acc+30)*16*16 ^ qs.length:=Int.mul_le_mul_of_nonneg_left (by omega) (by omega)
   omega
  have m1:Ze (.int acc) (.int b)=some (.int (acc*b)):=zT ⟨by omega,by omega⟩
  have w':qN [jm u e l b,pr q]=some (.int (wt e q)):=QZ u e l b q.1 q.2 (by omega)
  have step:ae2.1 [some (jm u e l b),some S,some (.int acc),some (pr q)]=some (.nx [some (jm u e l b),some S,some (.int (acc*b+wt e q)),some (pr q)]):=by
   simp only [ae2,jK,qV,op2,jB,jj,jv,lkp,cst,jO,zzA,zzB,zzC,zzD,zzE,ix3,m1,w',add_int,zzF,zzG,qu]
  obtain ⟨y,hy⟩:=agJ h (S:=S) qs (acc*b+wt e q) (some (pr q)) hq.2 (by omega) hB'
  refine ⟨y,?_⟩
  rw [List.map_cons]
  simp only [qj,jO,zzD,zzF,zzG,step]
  exact hy
theorem Q1 (h:okN u e l b=true) (h4:ps.length<=4) (hp:ps.all (okP u l)=true):Qv [jm u e l b,jo ps]=some (.int (val b e ps)):=by
 have hB:(0+30:Int)*16 ^ ps.length<=1000000000:=by
  have:=apS (b:=16) (by decide) (by decide) h4
  omega
 obtain ⟨y,hy⟩:=agJ h (S:=jo ps) ps 0 none hp (by omega) hB
 refine jZ rfl ?_
 show anY.1 [some (jm u e l b),some (jo ps),none,none]=_
 simp only [anY]
 refine (qh (ρ1:=[some (jm u e l b),some (jo ps),some (.int 0),none]) ?_).trans ?_
 ·simp only [qV,cst,jO,zzD,zzE,zzF,zzG]
 refine (qh (ρ1:=[some (jm u e l b),some (jo ps),some (.int (val b e ps)),y]) ?_).trans ?_
 ·show (itT (lkp 1) _).bind _=_
  rw [show itT (lkp 1) [some (jm u e l b),some (jo ps),some (.int 0),none]=some (ps.map pr) from rfl]
  exact hy
 rfl
theorem aj2 {p:Int × Int} (hp:okP u l p=true):Qw [jm u e l b,pr p]=some (.bool true):=by
 obtain ⟨q1,q2,q3,q4⟩:=JP hp
 have w1:jW [.int p.1,.int 0,.int u]=some (.bool true):=by rw [j4]; simp [q1,q2]
 have w2:jW [.int p.2,.int 0,.int l]=some (.bool true):=by rw [j4]; simp [q3,q4]
 simp [Qw,jw,abB,jC,jK,ifS,orB,zn,tst,Qt,tyn,asB,lkp,op2,jB,jj,jv,zl,cst,dNe,JH,Q0,qu,qB,aeL,pr,jm,dIx,atI,ixN,w1,w2]
theorem aj3 (H:za=true) (h:okN u e l b=true) (hs:okS u l ps=true):ac9 [jm u e l b,jo ps]=some (.bool true):=by
 obtain ⟨h1,h4,hp⟩:=abM hs
 have g0:=Jn (adA H h)
 have hf:few (ps.map pr)=true:=Qn (by rw [List.length_map]; omega)
 have c1:Jd (fun i j=>decide (i<=j)) (.int 1) (.int ((ps.map pr).length:Int))=some (.bool true):=by
  show some (PyData.bool (decide ((1:Int)<=((ps.map pr).length:Int))))=_
  rw [decide_eq_true (by rw [List.length_map]; omega)]
 have c2:Jd (fun i j=>decide (i<=j)) (.int ((ps.map pr).length:Int)) (.int 4)=some (.bool true):=by
  show some (PyData.bool (decide (((ps.map pr).length:Int)<=4)))=_
  rw [decide_eq_true (by rw [List.length_map]; omega)]
 refine jZ rfl ?_
 show abC.1 [some (jm u e l b),some (jo ps)]=_
 simp only [abC]
 refine (qh (ρ1:=[some (jm u e l b),some (jo ps)]) ?_).trans ?_
 ·simp only [Jc,jB,jj,jv,lkp,zzA,zzB,zzC,zzD,zzE,g0]
 refine (qh (ρ1:=[some (jm u e l b),some (jo ps)]) ?_).trans ?_
 ·simp [ifS,orB,zn,tst,Qt,tyn,asB,lkp,jo,chn,jB,jj,jv,zl,cst,qu]
  simp [List.length_map] at c1 c2
  simp [c1,c2]
  rfl
 simp only [jK,qB,jB,jj,jv,Z6,itT,lkp,jo,abl,zzA,zzB,zzC,zzD,zzE,hf,zzM,acJ,List.map_cons,List.map_nil,zzH]
 rw [QB (fun _=> .bool true)]
 ·have:bls ((ps.map pr).map fun _=>PyData.bool true)=some ((ps.map pr).map fun _=>true):=acw (fun _=>true) _
  simp only [zzE,zzD,akZ,this]
  simp
 ·intro d hd
  obtain ⟨p,hp',rfl⟩:=List.mem_map.mp hd
  simp [jB,jj,jv,lkp,aj2 (e:=e) (b:=b) (List.all_eq_true.mp hp p hp')]
theorem amd (H:za=true) (h:okN u e l b=true) (hs:okS u l ps=true):qi [jm u e l b,jo ps]=some .none:=by
 have g:=aj3 H h hs
 simp [qi,jw,aci,jC,jK,ifS,zn,tst,asB,jB,jj,jv,lkp,g,qu]
end
theorem ame {n:Int} (h0:0<=n) (h1:n<=99999):qo [.int n]=some .none:=by
 have w:jW [.int n,.int 0,.int 99999]=some (.bool true):=by rw [j4]; simp [h0,h1]
 simp [qo,jw,aaS,jC,jK,ifS,zn,tst,asB,jB,jj,jv,lkp,cst,w,qu]
theorem amf {n:Int} (h0:1<=n) (h1:n<=4):zd [.int n]=some .none:=by
 have w:jW [.int n,.int 1,.int 4]=some (.bool true):=by rw [j4]; simp [h0,h1]
 simp [zd,jw,Zl,jC,jK,ifS,zn,tst,asB,jB,jj,jv,lkp,cst,w,qu]
section
variable {u e l b:Int}{ps qs:List (Int × Int)}
theorem JI (i j:Int):dEq (.int i) (.int j)=some (.bool (decide (i=j))):=by
 have:(i == j)=decide (i=j):=rfl
 simp only [dEq,JH,Q0,and_self,zzM,this]
theorem amg {b:Int}{r:Nat}{n x:Int}{xs:List Int} (h4:r<=4) (hx:dgl b r n=x::xs):dIx (.list ((dgl b r n).map .int)) (.int 0)=some (.int x):=by
 have hl:=Z0 b r n
 have hlt:((dgl b r n).map PyData.int).length<1000000:=by rw [List.length_map,hl]; omega
 show (if ((dgl b r n).map PyData.int).length<1000000 then atI ((dgl b r n).map PyData.int) 0 else none)=_
 rw [if_pos hlt,hx]
 simp [atI,ixN]
theorem aaq (H:za=true) (h:okN u e l b=true) {r:Nat}{n:Int} (h1:1<=r) (h4:r<=4) (h0:0<=n) (hn:n<b ^ r):JG [jm u e l b,.int (r:Int),.int n]=some (jo (pln (jm u e l b) b r n)):=by
 obtain ⟨a1,a2,a3,a4,a5,a6,a7,a8,a9,a10⟩:=qE h
 have hb:0<b:=by omega
 have hd:=acz (n:=n) hb a9 h1 h4
 have hg:=afw hb r n h0 hn
 have hl:=Z0 b r n
 obtain ⟨k,rfl⟩:∃ k,r=k+1:=⟨r - 1,by omega⟩
 obtain ⟨x,xs,hx,hx1,_⟩:=aa7 hb k n h0
 have hi:=amg h4 hx
 have hc:Jd (fun i j=>decide (j<=i)) (.int x) (.int b)=some (.bool false):=by
  show some (PyData.bool (decide (b<=x)))=_
  rw [decide_eq_false (by have:=hx1 hn; omega)]
 have hf:few ((dgl b (k+1) n).map .int)=true:=Qn (by rw [List.length_map,hl]; omega)
 generalize hr:((k+1:Nat):Int)=rr at hd ⊢
 refine jZ rfl ?_
 show ZM.1 [some (jm u e l b),some (.int rr),some (.int n),none]=_
 simp only [ZM]
 refine (qh (ρ1:=[some (jm u e l b),some (.int rr),some (.int n),some (.list ((dgl b (k+1) n).map .int))]) ?_).trans ?_
 ·simp only [qV,jB,jj,jv,op2,lkp,cst,jO,zzA,zzB,zzC,zzD,zzE,ix3,hd,zzF,zzG]
 refine (qh (ρ1:=[some (jm u e l b),some (.int rr),some (.int n),some (.list ((dgl b (k+1) n).map .int))]) ?_).trans ?_
 ·simp only [ifS,tst,op2,lkp,cst,zzA,zzB,zzC,zzD,hi,ix3,hc,asB,zzL,zzN,qu]
 simp only [jK,qB,jB,jj,jv,Z6,itL,lkp,Zc,zzA,zzB,zzC,zzD,zzE,hf,zzM,acJ,List.map_cons,List.map_nil,zzH]
 rw [QB (fun d=>Zw (jm u e l b) ((aaz d).getD 0))]
 ·simp [aeM,jo,pln,Zw,aaz,Function.comp_def]
 ·intro d hd
  obtain ⟨i,hi,rfl⟩:=List.mem_map.mp hd
  simp [jB,jj,jv,lkp,aaz,(Jo H h (hg i hi).1 (hg i hi).2).1]
theorem Jw (ps:List (Int × Int)):zl [jo ps]=some (.int (ps.length:Int)):=by
 show some (PyData.int ((ps.map pr).length:Int))=_
 rw [List.length_map]
end
end Rods
namespace BX
open PySem PySem.Spec L2
open PyProof.Rows hiding St
theorem amh {n j:Nat}{d:PyData} (h:(aav 0 n)[j]?=some d):j<n/\d= .int j:=by
 simp only [aav,List.getElem?_map] at h
 cases hj:(List.range n)[j]? with
 | none=>rw [hj] at h; cases h
 | some k=>
  rw [hj] at h
  obtain ⟨h1,h2⟩:=List.getElem?_eq_some_iff.mp hj
  simp at h1 h2
  subst h2
  simp at h
  exact ⟨h1,h.symm⟩
end BX
namespace Rods
open PySem L2 BX
open PyProof.Rows hiding St
section
variable {u e l b:Int}
theorem aj4 (H:za=true) (h:okN u e l b=true) {r n:Int} (h1:1<=r) (h4:r<=4) (h0:0<=n) (hn:n<=99999):zL [jm u e l b,.int r,.int n]=some .none:=by
 have g1:=Jn (adA H h)
 have g2:zd [.int r]=some .none:=amf h1 h4
 have g3:qo [.int n]=some .none:=ame h0 hn
 simp [zL,jw,abA,jC,jK,Jc,jB,jj,jv,lkp,g1,g2,g3,qu]
end
section
variable {u e l b:Int}{ps qs:List (Int × Int)}
theorem aiR {xs ys:LP} (hx:xs ≠ [] ∨ True) (hl:xs.length+ys.length<10000):zV (.tuple xs) (.tuple ys)=some (.tuple (xs++ys)):=by
 cases xs with
 | nil=>rfl
 | cons x xs=>
  have hf:few ((x::xs)++ys)=true:=Qn (by rw [List.length_append]; exact hl)
  show (if few ((x::xs)++ys)=true then some (PyData.tuple ((x::xs)++ys)) else none)=_
  rw [if_pos hf]
theorem afx (i j:Int):dNe (.int i) (.int j)=some (.bool (!decide (i=j))):=by
 have:(i == j)=decide (i=j):=rfl
 simp only [dNe,JH,Q0,and_self,zzM,this]
theorem asr (H:za=true) (h:okN u e l b=true):fpr (jm u e l b) 0=f00:=by
 obtain ⟨a1,a2,a3,a4,a5,a6,a7,a8,a9,a10⟩:=qE h
 obtain ⟨_,w,o⟩:=Jo H h (d:=0) (by omega) (by omega)
 obtain ⟨q1,q2,q3,q4⟩:=JP o
 unfold wt at w
 have hx:(fpr (jm u e l b) 0).1=0:=by
  apply Classical.byContradiction
  intro hne
  have:1*1<=(fpr (jm u e l b) 0).1*e:=Int.mul_le_mul (by omega) a3 (by omega) (by omega)
  omega
 have hy:(fpr (jm u e l b) 0).2=0:=by rw [hx] at w; omega
 exact Prod.ext hx hy
theorem zG {N:List Str}{n:Nat}{F:Rho->Option Str}{ds:LP} (hl:ds.length=n):zr N n F ds=F (jC N ds):=by
 unfold zr
 rw [if_pos hl]
end
section
variable {u e l b:Int}
noncomputable def Q7 (m:PyData) (c:Nat × Int):PyData:= .tuple [.int (c.1:Int),Zw m c.2]
theorem aiS {g:LP->OP}{k:Nat}{m S:PyData}{r:Int}:(jw nDA 4 (bDA g k).1) [m,S,.int r,.int 0]=some (.list []):=by
 have e0:=JI 0 0
 rw [decide_eq_true rfl] at e0
 refine jZ rfl ?_
 show (bDA g k).1 [some m,some S,some (.int r),some (.int 0),none,none]=_
 simp only [bDA,jK,ifS,tst,op2,qB,zB,jv,lkp,cst,zzA,zzB,zzC,zzD,zzE,e0,asB,zzM,aa6]
theorem aro {g:LP->OP}{k:Nat}{m S R F:PyData}{A:LP}{r w dg b:Int} (hd:dg ≠ 0) (hr:0<=r) (hx:dIx S (.int r)=some R) (hw:qN [m,R]=some (.int w)) (hs:g [m,S,.int (r - 1),.int ((w+dg) / b)]=some (.list A)) (hb:dIx m (.int 3)=some (.int b)) (b0:0<b) (b1:b<=16)
  (hf:Qi [m,.int ((w+dg) % b)]=some F) (hA:A.length<1000):(jw nDA 4 (bDA g k).1) [m,S,.int r,.int dg]=some (.list (A++[.tuple [.int r,F]])):=by
 have e0:=JI dg 0
 rw [decide_eq_false hd] at e0
 have s1:Z4 (.int r) (.int 1)=some (.int (r - 1)):=rfl
 have a0:zV (.int w) (.int dg)=some (.int (w+dg)):=rfl
 have q1:acK (.int (w+dg)) (.int b)=some (.int ((w+dg) / b)):=Zu b0 (by omega)
 have q2:ajo (.int (w+dg)) (.int b)=some (.int ((w+dg) % b)):=acx b0
 have c0:Jd (fun i j=>decide (i<j)) (.int r) (.int 0)=some (.bool false):=by
  show some (PyData.bool (decide (r<0)))=_
  rw [decide_eq_false (by omega)]
 have f1:few [PyData.int r,F]=true:=Qn (by simp)
 have f2:few [PyData.tuple [PyData.int r,F]]=true:=Qn (by simp)
 have a1:zV (.list A) (.list [.tuple [.int r,F]])=some (.list (A++[.tuple [.int r,F]])):=by
  show (if few (A++[.tuple [.int r,F]])=true then some (PyData.list (A++[.tuple [.int r,F]])) else none)=_
  rw [if_pos (Qn (by rw [List.length_append,List.length_singleton]; omega))]
 refine jZ rfl ?_
 show (bDA g k).1 [some m,some S,some (.int r),some (.int dg),none,none]=_
 simp only [bDA]
 refine (qh (ρ1:=[some m,some S,some (.int r),some (.int dg),none,none]) ?_).trans ?_
 ·simp only [ifS,tst,op2,lkp,cst,zzA,zzB,zzC,zzD,zzE,e0,asB,zzL,zzN,qu]
 refine (qh (ρ1:=[some m,some S,some (.int r),some (.int dg),none,none]) ?_).trans ?_
 ·simp only [ifS,tst,op2,lkp,cst,zzA,zzB,zzC,zzD,zzE,c0,asB,zzL,zzN,qu]
 refine (qh (ρ1:=[some m,some S,some (.int r),some (.int dg),some (.int (w+dg)),none]) ?_).trans ?_
 ·simp only [qV,op2,jB,jj,jv,lkp,jO,zzA,zzB,zzC,zzD,zzE,hx,hw,a0,zzF,zzG]
 refine (qh (ρ1:=[some m,some S,some (.int r),some (.int dg),some (.int (w+dg)),some (.list A)]) ?_).trans ?_
 ·simp only [qV,op2,jB,jj,jv,lkp,cst,jO,zzA,zzB,zzC,zzD,zzE,s1,hb,q1,hs,zzF,zzG]
 simp only [jK,qB,op2,zB,ab4,jB,jj,jv,lkp,cst,zzA,zzB,zzC,zzD,zzE,hb,q2,hf,f1,f2,zzM,a1]
end
theorem aob (m:PyData) (c:Nat × Int):noL (Q7 m c)=true:=by simp [Q7,Zw,pr,noL,noLs]
theorem ami (m:PyData) (cs:List (Nat × Int)):noLs (cs.map (Q7 m))=true:=acN fun d hd=>by
 obtain ⟨c,_,rfl⟩:=List.mem_map.mp hd
 exact aob m c
section
variable {u e l b:Int}
theorem apU {x:Str}{g:LP->OP}{m S N now now':PyData}{ch es:LP}{i dg:Int}{x8:OP} (hg:g [m,now,.int i,.int dg]=some (.list es)) (hb:ahN [now,.list es]=some now') (hn:noLs es=true) (hl:ch.length+es.length<1000000):
  (zt x g).1 [some m,some S,some N,some (fnD x),some (.list ch),some now,some (.int i),some (.int dg),x8]=some (.nx [some m,some S,some N,some (fnD x),some (.list (ch++es)),some now',some (.int i),some (.int dg),some (.list es)]):=by
 have hF:=qR x
 have hx:anq (some (.list ch)) (some (.list es))=some (.list (ch++es)):=by
  show (if noLs es=true/\ch.length+es.length<1000000 then some (PyData.list (ch++es)) else none)=_
  rw [if_pos ⟨hn,hl⟩]
 simp only [zt]
 refine (qh (ρ1:=[some m,some S,some N,some (fnD x),some (.list ch),some now,some (.int i),some (.int dg),some (.list es)]) ?_).trans ?_
 ·simp only [qV,brw,hid,ahC,jj,jv,lkp,jO,zzA,zzB,zzC,zzD,zzE,hF,zzM,hg,zzF,zzG]
 refine (qh (ρ1:=[some m,some S,some N,some (fnD x),some (.list ch),some now',some (.int i),some (.int dg),some (.list es)]) ?_).trans ?_
 ·simp only [qV,brw,hid,jB,jj,jv,lkp,jO,zzA,zzB,zzC,zzD,zzE,hb,zzF,zzG]
 refine (qh (ρ1:=[some m,some S,some N,some (fnD x),some (.list (ch++es)),some now',some (.int i),some (.int dg),some (.list es)]) ?_).trans rfl
 simp only [ale,aq5,lkp,zzA,zzB,zzC,zzD,zzE,hx,zzF,zzG]
theorem Qo {N:List Str}{n:Nat}{B:RO}{ds:LP} (h:B (jC N ds)=none):jw N n B ds=none:=by
 unfold jw
 split
 ·rw [h]
 ·rfl
theorem amj {m S C:PyData}{n:Int} (ct:gCA [m,S,.int n,fnD "digit_added"]=some C):agC [m,S,.int n]=some C:=by
 refine jZ rfl ?_
 show ajY.1 [some m,some S,some (.int n)]=_
 simp only [ajY,jK,qB,jB,jj,jv,lkp,cst,zzA,zzB,zzC,zzD,zzE,ct]
end
theorem apV {g:LP->OP}{t:LP->Option Str}{k:Nat}{m S:PyData}{r dg:Int} (hd:dg ≠ 0) (hr:r<0):(jw nDA 4 (bDA g k).1) [m,S,.int r,.int dg]=none/\(zr nDA 4 (xDA g t k).1) [m,S,.int r,.int dg]=some ("TooGreat":Str):=by
 have e0:=JI dg 0
 rw [decide_eq_false hd] at e0
 have c0:Jd (fun i j=>decide (i<j)) (.int r) (.int 0)=some (.bool true):=by
  show some (PyData.bool (decide (r<0)))=_
  rw [decide_eq_true hr]
 constructor
 ·refine Qo ?_
  show (bDA g k).1 [some m,some S,some (.int r),some (.int dg),none,none]=_
  simp only [bDA]
  refine (qh (ρ1:=[some m,some S,some (.int r),some (.int dg),none,none]) ?_).trans ?_
  ·simp only [ifS,tst,op2,lkp,cst,zzA,zzB,zzC,zzD,zzE,e0,asB,zzL,zzN,qu]
  simp only [jK,ifS,tst,op2,lkp,cst,zzA,zzB,zzC,zzD,zzE,c0,asB,zzM,afU,zzH]
 ·refine (zG rfl).trans ?_
  show (xDA g t k).1 [some m,some S,some (.int r),some (.int dg),none,none]=_
  simp only [xDA,orX,nxX,ifX,ifS,tst,op2,lkp,cst,zzA,zzB,zzC,zzD,zzE,e0,asB,zzL,zzN,qu,c0,zzM]
theorem apW {g:LP->OP}{t:LP->Option Str}{k:Nat}{m S R:PyData}{r w dg b:Int}{c:Str} (hd:dg ≠ 0) (hr:0<=r) (hx:dIx S (.int r)=some R) (hw:qN [m,R]=some (.int w)) (hb:dIx m (.int 3)=some (.int b)) (b0:0<b) (b1:b<=16)
  (hs:g [m,S,.int (r - 1),.int ((w+dg) / b)]=none) (ht:t [m,S,.int (r - 1),.int ((w+dg) / b)]=some c):(jw nDA 4 (bDA g k).1) [m,S,.int r,.int dg]=none/\(zr nDA 4 (xDA g t k).1) [m,S,.int r,.int dg]=some c:=by
 have e0:=JI dg 0
 rw [decide_eq_false hd] at e0
 have s1:Z4 (.int r) (.int 1)=some (.int (r - 1)):=rfl
 have a0:zV (.int w) (.int dg)=some (.int (w+dg)):=rfl
 have q1:acK (.int (w+dg)) (.int b)=some (.int ((w+dg) / b)):=Zu b0 (by omega)
 have c0:Jd (fun i j=>decide (i<j)) (.int r) (.int 0)=some (.bool false):=by
  show some (PyData.bool (decide (r<0)))=_
  rw [decide_eq_false (by omega)]
 constructor
 ·refine Qo ?_
  show (bDA g k).1 [some m,some S,some (.int r),some (.int dg),none,none]=_
  simp only [bDA]
  refine (qh (ρ1:=[some m,some S,some (.int r),some (.int dg),none,none]) ?_).trans ?_
  ·simp only [ifS,tst,op2,lkp,cst,zzA,zzB,zzC,zzD,zzE,e0,asB,zzL,zzN,qu]
  refine (qh (ρ1:=[some m,some S,some (.int r),some (.int dg),none,none]) ?_).trans ?_
  ·simp only [ifS,tst,op2,lkp,cst,zzA,zzB,zzC,zzD,zzE,c0,asB,zzL,zzN,qu]
  refine (qh (ρ1:=[some m,some S,some (.int r),some (.int dg),some (.int (w+dg)),none]) ?_).trans ?_
  ·simp only [qV,op2,jB,jj,jv,lkp,jO,zzA,zzB,zzC,zzD,zzE,hx,hw,a0,zzF,zzG]
  simp only [jK,qV,op2,jB,jj,jv,lkp,cst,jO,zzA,zzB,zzC,zzD,zzE,s1,hb,q1,hs,zzH]
 ·refine (zG rfl).trans ?_
  show (xDA g t k).1 [some m,some S,some (.int r),some (.int dg),none,none]=_
  simp only [xDA,orX,nxX,ifX,ahA,ifS,tst,op2,lkp,cst,zzA,zzB,zzC,zzD,zzE,e0,asB,zzL,zzN,qu,c0,qV,jB,jj,jv,jO,hx,hw,a0,zzF,zzG,s1,hb,q1,ht]
section
variable {u e l b:Int}
noncomputable abbrev fxC (x:Str) (t:LP->Option Str):Rho->Option Str:=apB (some 4) (acY 3 x t (jj (lkp 0) (jj (lkp 5) (jj (lkp 6) (jj (lkp 7) jv)))))
theorem aoc {x:Str}{g:LP->OP}{t:LP->Option Str}{m S N now:PyData}{ch:LP}{i dg:Int}{x8:OP}{c:Str} (hg:g [m,now,.int i,.int dg]=none) (ht:t [m,now,.int i,.int dg]=some c):
  (zt x g).1 [some m,some S,some N,some (fnD x),some (.list ch),some now,some (.int i),some (.int dg),x8]=none/\fxC x t [some m,some S,some N,some (fnD x),some (.list ch),some now,some (.int i),some (.int dg),x8]=some c:=by
 have hF:=qR x
 constructor
 ·simp only [zt,jK,qV,brw,hid,ahC,jj,jv,lkp,zzA,zzB,zzC,zzD,zzE,hF,zzM,hg,zzF,zzG,zzH]
 ·simp only [fxC,apB,hid,acY,jj,jv,lkp,zzA,zzB,zzC,zzD,zzE,hF,zzM,ht,zzF,zzG]
theorem apX {m S:PyData}{n:Int}{c:Str} (n1:gCA [m,S,.int n,fnD "digit_added"]=none) (n2:tCA [m,S,.int n,fnD "digit_added"]=some c):agC [m,S,.int n]=none/\alW [m,S,.int n]=some c:=by
 constructor
 ·refine Qo ?_
  show ajY.1 [some m,some S,some (.int n)]=_
  simp only [ajY,jK,qB,jB,jj,jv,lkp,cst,zzA,zzB,zzC,zzD,zzE,n1,zzI,zzH]
 ·refine (zG rfl).trans ?_
  show an4.1 [some m,some S,some (.int n)]=_
  simp only [an4,jj,jv,lkp,cst,zzA,zzB,zzC,zzD,zzE,n2]
end
section
variable {u e l b:Int}{ps qs:List (Int × Int)}
theorem adk (h:okN u e l b=true) {r:Nat}{n:Int} (h1:1<=r) (h4:r<=4) (h0:0<=n) (hn:b ^ r<=n):ZR [jm u e l b,.int (r:Int),.int n]=some ("TooGreat":Str):=by
 obtain ⟨a1,a2,a3,a4,a5,a6,a7,a8,a9,a10⟩:=qE h
 have hb:0<b:=by omega
 have hd:=acz (n:=n) hb a9 h1 h4
 obtain ⟨k,rfl⟩:∃ k,r=k+1:=⟨r - 1,by omega⟩
 obtain ⟨x,xs,hx,_,hx2⟩:=aa7 hb k n h0
 have hi:=amg h4 hx
 have hc:Jd (fun i j=>decide (j<=i)) (.int x) (.int b)=some (.bool true):=by
  show some (PyData.bool (decide (b<=x)))=_
  rw [decide_eq_true (hx2 hn)]
 generalize hr:((k+1:Nat):Int)=rr at hd ⊢
 refine (zG rfl).trans ?_
 show aco.1 [some (jm u e l b),some (.int rr),some (.int n),none]=_
 simp only [aco,nxX,qV,jB,jj,jv,op2,lkp,cst,jO,zzA,zzB,zzC,zzD,zzE,ix3,hd,zzF,zzG,ifX,tst,hi,hc,asB,zzM]
end
theorem arp (ds:LP) (k:Nat):aeN ds none (some (k:Int))=ds.take k:=by
 unfold aeN
 rw [HT.sIx_none,HT.sIx_nat,List.drop_zero,Nat.sub_zero]
 by_cases h:k<=ds.length
 ·rw [Nat.min_eq_left h]
 ·rw [Nat.min_eq_right (by omega),List.take_of_length_le (by omega),List.take_of_length_le (by omega)]
theorem aod (ds:LP) (k:Nat):aeN ds (some (k:Int)) none=ds.drop k:=by
 unfold aeN
 rw [HT.sIx_none,HT.sIx_nat]
 by_cases h:k<=ds.length
 ·rw [Nat.min_eq_left h,List.take_of_length_le (by rw [List.length_drop]; omega)]
 ·rw [Nat.min_eq_right (by omega),List.drop_of_length_le (by omega),List.drop_of_length_le (by omega),List.take_nil]
section
variable {u e l b:Int}{ps qs:List (Int × Int)}
end
noncomputable def whB (a b:Int):PyData->Bool
 | .int i=>decide (a<=i) && decide (i<=b)
 | _=>false
theorem Qp (d:PyData) (hd:noD d=true) (a b:Int):jW [d,.int a,.int b]=some (.bool (whB a b d)):=by
 cases d with
 | int i=>exact j4 i a b
 | dict k=>simp [noD] at hd
 | _=>simp [jW,jw,aaQ,jC,jK,ifS,orB,tst,lkp,Qt,tyn,asB,zn,chn,Jd,qB,qu,whB,cst]
noncomputable def adB (u l:Int):PyData->Bool
 | .tuple [x,y]=>whB 0 u x && whB 0 l y
 | _=>false
theorem amk {ds:LP} (h:noDs ds=true):∀ d ∈ ds,noD d=true:=by
 induction ds with
 | nil=>intro d hd; cases hd
 | cons x xs ih=>
  have h':noD x=true/\noDs xs=true:=by simpa [noDs] using h
  intro d hd
  rcases List.mem_cons.mp hd with rfl | q
  ·exact h'.1
  ·exact ih h'.2 d q
section
variable {u e l b:Int}
theorem aj5 (d:PyData) (hd:noD d=true) (h:∀ x y,d ≠ .tuple [x,y]):Qw [jm u e l b,d]=some (.bool false):=by
 cases d with
 | dict k=>simp [noD] at hd
 | tuple ds=>
  have hl:¬ (ds.length:Int)=2:=fun z=>by
   have z':ds.length=2:=by omega
   match ds,z' with
   | [x,y],_=>exact h x y rfl
  simp [Qw,jw,abB,jC,jK,ifS,orB,zn,tst,Qt,tyn,asB,lkp,op2,jB,jj,jv,zl,cst,dNe,JH,Q0,qu,qB,hl]
 | _=>simp [Qw,jw,abB,jC,jK,ifS,orB,zn,tst,Qt,tyn,asB,lkp,op2,jB,jj,jv,zl,cst,dNe,JH,Q0,qu,qB]
theorem aea (d:PyData) (hd:noD d=true):Qw [jm u e l b,d]=some (.bool (adB u l d)):=by
 by_cases h:∃ x y,d= .tuple [x,y]
 ·obtain ⟨x,y,rfl⟩:=h
  have hx:noD x=true/\noD y=true:=by simpa [noD,noDs] using hd
  have w1:=Qp x hx.1 0 u
  have w2:=Qp y hx.2 0 l
  cases c1:whB 0 u x <;> rw [c1] at w1 <;> simp [Qw,jw,abB,jC,jK,ifS,orB,zn,tst,Qt,tyn,asB,lkp,op2,jB,jj,jv,zl,cst,dNe,JH,Q0,qu,qB,aeL,jm,dIx,atI,ixN,w1,w2,adB,c1]
 ·rw [aj5 d hd fun x y z=>h ⟨x,y,z⟩]
  congr 2
  unfold adB
  split
  ·exact absurd ⟨_,_,rfl⟩ h
  ·rfl
noncomputable def adC (u l:Int):PyData->Bool
 | .tuple ds=>decide (1<=ds.length) && decide (ds.length<=4) && ds.all (adB u l)
 | _=>false
theorem aeb (hm:Jk [jm u e l b]=some .none) (d:PyData) (hd:noD d=true):ac9 [jm u e l b,d]=some (.bool (adC u l d)):=by
 refine jZ rfl ?_
 show abC.1 [some (jm u e l b),some d]=_
 simp only [abC]
 refine (qh (ρ1:=[some (jm u e l b),some d]) ?_).trans ?_
 ·simp only [Jc,jB,jj,jv,lkp,zzA,zzB,zzC,zzD,zzE,hm]
 cases d with
 | dict k=>simp [noD] at hd
 | tuple ds=>
  by_cases h1:1<=ds.length
  ·by_cases h4:ds.length<=4
   ·have hf:few ds=true:=Qn (by omega)
    have c1:Jd (fun i j=>decide (i<=j)) (.int 1) (.int (ds.length:Int))=some (.bool true):=by
     show some (PyData.bool (decide ((1:Int)<=(ds.length:Int))))=_
     rw [decide_eq_true (by omega)]
    have c2:Jd (fun i j=>decide (i<=j)) (.int (ds.length:Int)) (.int 4)=some (.bool true):=by
     show some (PyData.bool (decide ((ds.length:Int)<=4)))=_
     rw [decide_eq_true (by omega)]
    refine (qh (ρ1:=[some (jm u e l b),some (.tuple ds)]) ?_).trans ?_
    ·simp [ifS,orB,zn,tst,Qt,tyn,asB,lkp,chn,jB,jj,jv,zl,cst,qu,c1,c2]
    simp only [jK,qB,jB,jj,jv,Z6,itT,lkp,abl,zzA,zzB,zzC,zzD,zzE,hf,zzM,acJ,List.map_cons,List.map_nil,zzH]
    rw [QB (fun d=> .bool (adB u l d))]
    ·have:bls (ds.map fun d=>PyData.bool (adB u l d))=some (ds.map (adB u l)):=acw (adB u l) _
     simp only [zzE,zzD,akZ,this,adC,decide_eq_true h1,decide_eq_true h4,Bool.true_and,List.all_map,Function.comp_def,id]
    ·intro d hd'
     simp [jB,jj,jv,lkp,aea (e:=e) (b:=b) d (amk (by simpa [noD] using hd) d hd')]
   ·have c1:Jd (fun i j=>decide (i<=j)) (.int 1) (.int (ds.length:Int))=some (.bool true):=by
     show some (PyData.bool (decide ((1:Int)<=(ds.length:Int))))=_
     rw [decide_eq_true (by omega)]
    have c2:Jd (fun i j=>decide (i<=j)) (.int (ds.length:Int)) (.int 4)=some (.bool false):=by
     show some (PyData.bool (decide ((ds.length:Int)<=4)))=_
     rw [decide_eq_false (by omega)]
    simp [jK,ifS,orB,zn,tst,Qt,tyn,asB,lkp,chn,jB,jj,jv,zl,cst,qu,c1,c2,qB,adC,h4]
  ·have c1:Jd (fun i j=>decide (i<=j)) (.int 1) (.int (ds.length:Int))=some (.bool false):=by
    show some (PyData.bool (decide ((1:Int)<=(ds.length:Int))))=_
    rw [decide_eq_false (by omega)]
   simp [jK,ifS,orB,zn,tst,Qt,tyn,asB,lkp,chn,jB,jj,jv,zl,cst,qu,c1,qB,adC,h1]
 | _=>simp [jK,ifS,orB,zn,tst,Qt,tyn,asB,lkp,chn,jB,jj,jv,cst,qu,qB,adC]
theorem ah3 (hm:Jk [jm u e l b]=some .none) (d:PyData) (hd:noD d=true) (hs:adC u l d=true):qi [jm u e l b,d]=some .none:=by
 have g:=aeb (e:=e) hm d hd
 rw [hs] at g
 simp [qi,jw,aci,jC,jK,ifS,zn,tst,asB,jB,jj,jv,lkp,g,qu]
end
theorem aj6 {d:PyData} (h:qH [d]=some (.bool false)):Jk [d]=none:=by
 simp [Jk,jw,aeZ,jC,jK,ifS,zn,tst,asB,jB,jj,jv,lkp,h,afU]
theorem aj7 {d:PyData} (h:qH [d]=some (.bool false)):Zo [d]=some ("NoManner":Str):=by
 refine (zG rfl).trans ?_
 show abF.1 [some d]=_
 simp [abF,ifX,zn,tst,asB,jB,jj,jv,lkp,h]
theorem Z1 {d:PyData} (h:qH [d]=some (.bool true)):Zo [d]=none:=by
 refine (zG rfl).trans ?_
 show abF.1 [some d]=_
 simp [abF,ifX,zn,tst,asB,jB,jj,jv,lkp,h,ahA]
theorem aj8 {m d:PyData} (h:qH [m]=some (.bool true)):ahP [m,d]=none:=by
 have g:=Z1 h
 refine (zG rfl).trans ?_
 show afa.1 [some m,some d]=_
 simp [afa,jB,jj,jv,lkp,g]
theorem ah4 {u e l b:Int} (hM:qH [jm u e l b]=some (.bool true)) {d:PyData} (hd:noD d=true) (hs:adC u l d=true):zI [jm u e l b,d]=none:=by
 have g:=aeb (e:=e) (Jn hM) d hd
 rw [hs] at g
 have g2:=aj8 (d:=d) hM
 refine (zG rfl).trans ?_
 show acn.1 [some (jm u e l b),some d]=_
 simp [acn,orX,ifX,zn,tst,asB,jB,jj,jv,lkp,g,g2,ahA]
theorem aiT {u l:Int} (p:Int × Int):adB u l (pr p)=okP u l p:=by
 simp [adB,pr,whB,okP,Bool.and_assoc]
theorem aec {u l:Int} (ps:List (Int × Int)):adC u l (jo ps)=okS u l ps:=by
 simp only [adC,jo,okS,List.length_map,List.all_map]
 congr 2
 funext p
 exact aiT p
theorem aiU:∀ ps:List (Int × Int),noDs (ps.map pr)=true
 | []=>rfl
 | p::ps=>by simp [noDs,noD,pr,aiU ps]
theorem adl (ps:List (Int × Int)):noD (jo ps)=true:=by
 simp [noD,jo,aiU]
theorem arq {i j:Int} (h:-1000<=i/\i<=1000):Ze (.int i) (.int j)=some (.int (i*j)):=by
 show (if (-(2 ^ 64)<i/\i<2 ^ 64) ∨ (-(2 ^ 64)<j/\j<2 ^ 64) then some (PyData.int (i*j)) else none)=_
 rw [if_pos (.inl ⟨by omega,by omega⟩)]
theorem ass {i j:Int} (h:-1000<=j/\j<=1000):Ze (.int i) (.int j)=some (.int (i*j)):=by
 show (if (-(2 ^ 64)<i/\i<2 ^ 64) ∨ (-(2 ^ 64)<j/\j<2 ^ 64) then some (PyData.int (i*j)) else none)=_
 rw [if_pos (.inr ⟨by omega,by omega⟩)]
section
variable {u e l b:Int}
theorem ab0 (h:okN u e l b=true) {S:PyData}:∀ (qs:List (Int × Int)) (acc:Int) (x y:OP),
  ∃ x' y',qj (zC 2 (jG (jO 3) (jG (jO 4) qq))) aa4.1 (qs.map pr) [some (jm u e l b),some S,some (.int acc),x,y]=some (.nx [some (jm u e l b),some S,some (.int (qs.foldl (fun n p=>n*b+wt e p) acc)),x',y'])
 | [],acc,x,y=>⟨x,y,rfl⟩
 | q::qs,acc,x,y=>by
  obtain ⟨a1,a2,a3,a4,a5,a6,a7,a8,a9,a10⟩:=qE h
  have m1:Ze (.int b) (.int acc)=some (.int (b*acc)):=arq (by omega)
  have m2:Ze (.int q.1) (.int e)=some (.int (q.1*e)):=ass (by omega)
  have step:aa4.1 [some (jm u e l b),some S,some (.int acc),some (.int q.1),some (.int q.2)]=some (.nx [some (jm u e l b),some S,some (.int (acc*b+wt e q)),some (.int q.1),some (.int q.2)]):=by
   have:acc*b+wt e q=b*acc+q.1*e+q.2:=by unfold wt; rw [Int.mul_comm acc b]; omega
   rw [this]
   simp only [aa4,jK,qV,op2,lkp,cst,jO,zzA,zzB,zzC,zzD,zzE,ix3,ix1,m1,m2,add_int,zzF,zzG,qu]
  obtain ⟨x',y',hy⟩:=ab0 h (S:=S) qs (acc*b+wt e q) (some (.int q.1)) (some (.int q.2))
  refine ⟨x',y',?_⟩
  rw [List.map_cons]
  have ga:zC 2 (jG (jO 3) (jG (jO 4) qq)) (pr q) [some (jm u e l b),some S,some (.int acc),x,y]=some [some (jm u e l b),some S,some (.int acc),some (.int q.1),some (.int q.2)]:=rfl
  simp only [qj,ga,zzD,step]
  exact hy
theorem ah5 (h:okN u e l b=true) (ps:List (Int × Int)):ZX [jm u e l b,jo ps]=some (.int (val b e ps)):=by
 obtain ⟨x',y',hy⟩:=ab0 h (S:=jo ps) ps 0 none none
 refine jZ rfl ?_
 show acs.1 [some (jm u e l b),some (jo ps),none,none,none]=_
 simp only [acs]
 refine (qh (ρ1:=[some (jm u e l b),some (jo ps),some (.int 0),none,none]) rfl).trans ?_
 refine (qh (ρ1:=[some (jm u e l b),some (jo ps),some (.int (val b e ps)),x',y']) ?_).trans rfl
 show (itS (lkp 1) _).bind _=_
 rw [show itS (lkp 1) [some (jm u e l b),some (jo ps),some (.int 0),none,none]=some (ps.map pr) from rfl]
 exact hy
end
noncomputable abbrev rfd (i:Int):PyData:= .tuple [.str "refused",.int i]
theorem j0 {N:List Str}{n:Nat}{F:Rho->Option Str}{ds:LP}{c:Option Str} (hl:ds.length=n) (h:F (jC N ds)=c):zr N n F ds=c:=(zG hl).trans h
section
variable {u e l b:Int}{ps qs:List (Int × Int)}
theorem adm (h:okN u e l b=true) {r:Nat}{n:Int} (h1:1<=r) (h4:r<=4) (h0:0<=n) (hn:b ^ r<=n):JG [jm u e l b,.int (r:Int),.int n]=none:=by
 obtain ⟨a1,a2,a3,a4,a5,a6,a7,a8,a9,a10⟩:=qE h
 have hb:0<b:=by omega
 have hd:=acz (n:=n) hb a9 h1 h4
 obtain ⟨k,rfl⟩:∃ k,r=k+1:=⟨r - 1,by omega⟩
 obtain ⟨x,xs,hx,_,hx2⟩:=aa7 hb k n h0
 have hi:=amg h4 hx
 have hc:Jd (fun i j=>decide (j<=i)) (.int x) (.int b)=some (.bool true):=by
  show some (PyData.bool (decide (b<=x)))=_
  rw [decide_eq_true (hx2 hn)]
 generalize hr:((k+1:Nat):Int)=rr at hd ⊢
 refine Qo ?_
 show ZM.1 [some (jm u e l b),some (.int rr),some (.int n),none]=none
 dsimp? [ZM,ix3,hd,hi,hc]
end
noncomputable def dg (b:Int):Nat->Int->List Int
 | 0,_=>[]
 | k+1,n=>if 0<n then dg b k (n / b)++[n % b] else []
theorem ah6 {d:PyData} (hd:noD d=true) (w:whB 0 99999 d=false):qo [d]=none/\zJ [d]=some ("NoNumber":Str):=by
 have gw:=Qp d hd 0 99999
 rw [w] at gw
 constructor
 ·simp [qo,jw,aaS,jC,jK,ifS,zn,tst,asB,cst,jB,jj,jv,lkp,gw,afU]
 ·refine j0 rfl ?_
  show ZQ.1 [some d]=_
  simp [ZQ,orX,ifX,zn,tst,asB,cst,jB,jj,jv,lkp,gw]
theorem ah7 {i:Int} (h:0<=i/\i<=99999):qo [.int i]=some .none/\zJ [.int i]=none:=by
 have gw:=j4 i 0 99999
 rw [decide_eq_true h.1,decide_eq_true h.2] at gw
 constructor
 ·simp [qo,jw,aaS,jC,jK,ifS,zn,tst,asB,cst,jB,jj,jv,lkp,gw,qu]
 ·refine j0 rfl ?_
  show ZQ.1 [some (.int i)]=_
  simp [ZQ,orX,ifX,zn,tst,asB,cst,jB,jj,jv,lkp,gw,ahA]
theorem aoe {d:PyData} (hd:noD d=true) (w:whB 1 4 d=false):zd [d]=none/\QK [d]=some ("NoNumber":Str):=by
 have gw:=Qp d hd 1 4
 rw [w] at gw
 constructor
 ·simp [zd,jw,Zl,jC,jK,ifS,zn,tst,asB,cst,jB,jj,jv,lkp,gw,afU]
 ·refine j0 rfl ?_
  show QJ.1 [some d]=_
  simp [QJ,orX,ifX,zn,tst,asB,cst,jB,jj,jv,lkp,gw]
theorem aiV {i:Int} (h:1<=i/\i<=4):zd [.int i]=some .none/\QK [.int i]=none:=by
 have gw:=j4 i 1 4
 rw [decide_eq_true h.1,decide_eq_true h.2] at gw
 constructor
 ·simp [zd,jw,Zl,jC,jK,ifS,zn,tst,asB,cst,jB,jj,jv,lkp,gw,qu]
 ·refine j0 rfl ?_
  show QJ.1 [some (.int i)]=_
  simp [QJ,orX,ifX,zn,tst,asB,cst,jB,jj,jv,lkp,gw,ahA]
theorem apY {ds:LP} (h:ds.length<50):few ds=true:=Qn (by omega)
theorem fw1 {a:PyData}:few [a]=true:=apY (by simp)
theorem fw2 {a b:PyData}:few [a,b]=true:=apY (by simp)
theorem fw3 {a b c:PyData}:few [a,b,c]=true:=apY (by simp)
theorem n2:dNe (rfd 2) (rfd 2)=some (.bool false):=by kernel_rfl
theorem ng1:anm (.int 1)=some (.int (-1)):=rfl
noncomputable def shl (n:Nat) (d:PyData):Prop:=d.canLay0=true/\d.depth<=n
theorem aiW {ds:LP}:PyData.canLayAll0 ds=true ↔ ∀ d ∈ ds,d.canLay0=true:=by
 induction ds with
 | nil=>simp [PyData.canLayAll0]
 | cons x xs ih=>simp [PyData.canLayAll0,ih]
theorem aiX {ds:LP}{n:Nat}:PyData.depthAll ds<=n ↔ ∀ d ∈ ds,d.depth<=n:=by
 induction ds with
 | nil=>simp [PyData.depthAll]
 | cons x xs ih=>simp only [PyData.depthAll,List.mem_cons,forall_eq_or_imp,←ih]; omega
theorem afy {n:Nat}{ds:LP}:shl (n+1) (.tuple ds) ↔ ∀ d ∈ ds,shl n d:=by
 constructor
 ·rintro ⟨h1,h2⟩ d hd
  refine ⟨aiW.mp (by simpa [PyData.canLay0] using h1) d hd,aiX.mp ?_ d hd⟩
  simp only [PyData.depth] at h2; omega
 ·intro h
  refine ⟨by simp only [PyData.canLay0]; exact aiW.mpr fun d hd=>(h d hd).1,?_⟩
  have:=aiX.mpr fun d hd=>(h d hd).2
  simp only [PyData.depth]; omega
theorem apZ {n:Nat}{d:PyData} (h:shl n d) (hn:n<30):okD d=true:=by
 unfold okD
 rw [h.1,decide_eq_true (show d.depth<30 by have:=h.2; omega)]; rfl
theorem aiY (i:Int):shl 1 (.int i):=⟨rfl,by simp [PyData.depth]⟩
theorem ap0 (p:Int × Int):shl 2 (pr p):=afy.mpr fun d hd=>by
 simp only [List.mem_cons,List.not_mem_nil,or_false] at hd
 rcases hd with rfl | rfl <;> exact aiY _
theorem aof (ps:List (Int × Int)):shl 3 (jo ps):=afy.mpr fun d hd=>by
 obtain ⟨p,_,rfl⟩:=List.mem_map.mp hd
 exact ap0 p
theorem abN {ds:LP}{k:Int} (h0:0<=k) (hk:k<ds.length) (hl:ds.length<9999):∃ v,dIx (.list ds) (.int k)=some v/\v ∈ ds:=by
 have hlt:k.toNat<ds.length:=by omega
 refine ⟨ds[k.toNat],?_,List.getElem_mem _⟩
 have e1:ixN ds.length k=some k.toNat:=afr h0 hlt
 show (if ds.length<1000000 then atI ds k else none)=_
 rw [if_pos (by omega)]
 unfold atI
 rw [e1]
 show ds[k.toNat]?=_
 rw [List.getElem?_eq_getElem hlt]
theorem afz {ps:List (Int × Int)}{i:Nat}{p:Int × Int} (h4:ps.length<=4) (hd:ps[i]?=some p):dIx (jo ps) (.int (i:Int))=some (pr p):=by
 have hi:i<ps.length:=(List.getElem?_eq_some_iff.mp hd).1
 show (if (ps.map pr).length<1000000 then atI (ps.map pr) (i:Int) else none)=_
 rw [if_pos (by rw [List.length_map]; omega)]
 unfold atI
 rw [afr (by omega) (by rw [List.length_map]; simpa using hi),zzD,List.getElem?_map]
 rw [show ((i:Int)).toNat=i by simp,hd]; rfl
section
variable {m s t:PyData}{c:Str}
theorem adn (g:qi [m,s]=some .none) (x:zI [m,s]=none) (k:Qb [m,s,t]=some (.bool false)):Qc [m,s,t]=none/\aao [m,s,t]=some ("NoMove":Str):=by
 constructor
 ·simp [Qc,jw,adg,jC,jK,ifS,zn,tst,asB,afU,Jc,jB,jj,jv,lkp,g,k]
 ·refine j0 rfl ?_
  show afc.1 [some m,some s,some t]=_
  simp [afc,orX,nxX,ifX,zn,tst,asB,Jc,jB,jj,jv,lkp,g,x,k]
theorem aml {d:PyData} (g:qi [m,s]=some .none) (k:Qb [m,s,t]=some (.bool true)) (bm:Qm [s,t]=some d):Qc [m,s,t]=some d:=by
 refine jZ rfl ?_
 show adg.1 [some m,some s,some t]=_
 dsimp? [adg,g,k,bm]
end
noncomputable def shP (p:Int × Int) (k:Bool) (c:Int):Int × Int:=if k=true then (p.1,p.2+c) else (p.1+c,p.2)
theorem ast {x y z:PyData}:dIx (.tuple [x,y,z]) (.int 0)=some x:=rfl
theorem asu {x y z:PyData}:dIx (.tuple [x,y,z]) (.int 1)=some y:=rfl
theorem asv {x y z:PyData}:dIx (.tuple [x,y,z]) (.int 2)=some z:=rfl
theorem lnt {x y z:PyData}:zl [.tuple [x,y,z]]=some (.int 3):=rfl
theorem itt {xs:LP}:aaB "tuple" (.tuple xs)=some (.bool true):=rfl
theorem aog:dNe (.int 3) (.int 3)=some (.bool false):=by kernel_rfl
theorem aoO (k:Bool):dIn true (aam k) (.tuple [.str "upper",.str "lower"])=some (.bool false):=by cases k <;> kernel_rfl
theorem aoh {c:Int} (hc:c=1 ∨ c=-1):jW [.int c,.int (-1),.int 1]=some (.bool true)/\dNe (.int c) (.int 0)=some (.bool true)/\dIn true (.int c) (.tuple [.int 1,.int (-1)])=some (.bool false)/\aaB "bool" (.int c)=some (.bool false):=by
 rcases hc with rfl | rfl <;> exact ⟨by kernel_rfl,by kernel_rfl,by kernel_rfl,rfl⟩
section
variable {u e l b:Int}{ps:List (Int × Int)}
theorem agK (x y z:PyData) {X Y Z N:Bool} (ln:zl [jo ps]=some (.int (ps.length:Int))) (wx:jW [x,.int 0,.int ((ps.length:Int) - 1)]=some (.bool X)) (iy:X=true->dIn true y (.tuple [.str "upper",.str "lower"])=some (.bool !Y)) (wz:X=true->Y=true->jW [z,.int (-1),.int 1]=some (.bool Z)) (nz:X=true->Y=true->Z=true->dNe z (.int 0)=some (.bool N)):zS [jo ps,.tuple [x,y,z]]=some (.bool (X && Y && Z && N)):=by
 have sb:Z4 (.int (ps.length:Int)) (.int 1)=some (.int ((ps.length:Int) - 1)):=rfl
 have e0:=ast (x:=x) (y:=y) (z:=z)
 have e1:=asu (x:=x) (y:=y) (z:=z)
 have e2:=asv (x:=x) (y:=y) (z:=z)
 have e3:=lnt (x:=x) (y:=y) (z:=z)
 have e4:=itt (xs:=[x,y,z])
 generalize PyData.tuple [x,y,z]=D at*
 generalize (ps.length:Int)=n at*
 refine jZ rfl ?_
 show qQ.1 [some (jo ps),some D]=_
 cases X with
 | false=>dsimp? [qQ,e0,e3,e4,aog,ln,sb,wx,Bool.false_and]
 | true=>
  have iy:=iy rfl
  cases Y with
  | false=>dsimp? [qQ,e0,e1,e3,e4,aog,ln,sb,wx,iy,Bool.false_and,Bool.true_and]
  | true=>
   have wz:=wz rfl rfl
   cases Z with
   | false=>dsimp? [qQ,aeL,e0,e1,e2,e3,e4,aog,ln,sb,wx,iy,wz,ng1,Bool.false_and,Bool.true_and]
   | true=>
    have nz:=nz rfl rfl rfl
    dsimp? [qQ,aeL,e0,e1,e2,e3,e4,aog,ln,sb,wx,iy,wz,nz,ng1,Bool.false_and,Bool.true_and]
theorem arr {r:Nat} (hr:r<ps.length):jW [.int (r:Int),.int 0,.int ((ps.length:Int) - 1)]=some (.bool true):=by
 rw [j4,decide_eq_true (by omega),decide_eq_true (by omega)]; rfl
end
theorem aed (p:Int × Int) (k:Bool) (c:Int):acm [pr p,aam k,.int c]=some (pr (shP p k c)):=by
 have i0:dIx (pr p) (.int 0)=some (.int p.1):=rfl
 have i1:dIx (pr p) (.int 1)=some (.int p.2):=rfl
 have a1:zV (.int p.1) (.int c)=some (.int (p.1+c)):=rfl
 have a2:zV (.int p.2) (.int c)=some (.int (p.2+c)):=rfl
 refine jZ rfl ?_
 show aa0.1 [some (pr p),some (aam k),some (.int c)]=_
 cases k with
 | false=>
  have q:dEq (aam false) (.str "upper")=some (.bool true):=by kernel_rfl
  dsimp? [aa0,q,i0,i1,a1,fw2]
  rfl
 | true=>
  have q:dEq (aam true) (.str "upper")=some (.bool false):=by kernel_rfl
  dsimp? [aa0,q,i0,i1,a2,fw2]
  rfl
theorem aee {α:Type}:∀ (ps:List α) (r:Nat) (q:α),r<ps.length->ps.set r q=ps.take r++[q]++ps.drop (r+1)
 | [],r,q,h=>by simp at h
 | p::ps,0,q,h=>rfl
 | p::ps,r+1,q,h=>by
  simp only [zzF,List.take_succ_cons,List.drop_succ_cons,List.cons_append]
  rw [aee ps r q (by simpa using h)]
section
variable {u e l b:Int}{ps:List (Int × Int)}
theorem asw {r:Nat} (hr:r<ps.length) (h4:ps.length<=4) (q:Int × Int):∃ A1 A2 A3,aga (jo ps) none (some (r:Int))=some A1/\zV A1 (.tuple [pr q])=some A2/\aga (jo ps) (some ((r:Int)+1)) none=some A3/\zV A2 A3=some (jo (ps.set r q)):=by
 refine ⟨.tuple ((ps.map pr).take r),.tuple ((ps.map pr).take r++[pr q]),.tuple ((ps.map pr).drop (r+1)),?_,?_,?_,?_⟩
 ·show some (PyData.tuple (aeN _ none (some (r:Int))))=_
  rw [arp]
 ·exact aiR (.inr trivial) (by rw [List.length_take,List.length_map]; simp; omega)
 ·show some (PyData.tuple (aeN _ (some ((r:Int)+1)) none))=_
  rw [show (r:Int)+1=((r+1:Nat):Int) by omega,aod]
 ·rw [aiR (.inr trivial) (by rw [List.length_append,List.length_take,List.length_drop,List.length_map]; simp only [List.length_cons,List.length_nil]; omega),aee ps r q hr]
  show some (PyData.tuple _)=some (PyData.tuple (List.map pr _))
  rw [List.map_append,List.map_append,List.map_take,List.map_drop]; rfl
theorem aiZ (hs:okS u l ps=true) (r:Nat) {q:Int × Int} (hq:okP u l q=true):okS u l (ps.set r q)=true:=by
 obtain ⟨h1,h4,hp⟩:=abM hs
 refine apT (by rw [List.length_set]; exact h1) (by rw [List.length_set]; exact h4) (List.all_eq_true.mpr fun x hx=>?_)
 rcases List.mem_or_eq_of_mem_set hx with z | rfl
 ·exact List.all_eq_true.mp hp x z
 ·exact hq
end
structure Th (u e l b:Int) (ps:List (Int × Int)) (d:PyData) (o:Option (List (Int × Int))):Prop where
 cm:Qb [jm u e l b,jo ps,d]=some (.bool o.isSome)
 bm:∀ qs,o=some qs->Qm [jo ps,d]=some (jo qs)/\okS u l qs=true
section
variable {u e l b:Int}{ps:List (Int × Int)}
theorem ars (hs:okS u l ps=true) {r:Nat}{p:Int × Int} (hp:ps[r]?=some p) (k:Bool) {c:Int} (hc:c=1 ∨ c=-1):Th u e l b ps (mv (r:Int) k c) (if okP u l (shP p k c)=true then some (ps.set r (shP p k c)) else none):=by
 obtain ⟨h1,h4,hall⟩:=abM hs
 obtain ⟨hr,hpe⟩:=List.getElem?_eq_some_iff.mp hp
 have hpo:okP u l p=true:=List.all_eq_true.mp hall p (by rw [←hpe]; exact List.getElem_mem _)
 have hpo':0<=p.1/\p.1<=u/\0<=p.2/\p.2<=l:=by simp only [okP,Bool.and_eq_true,decide_eq_true_eq] at hpo; omega
 obtain ⟨f1,f2,f3,f4⟩:=aoh hc
 have ixT:=afz h4 hp
 have k1:=agK (X:=true) (Y:=true) (Z:=true) (N:=true) (.int (r:Int)) (aam k) (.int c) (Jw ps) (arr hr) (fun _=>aoO k) (fun _ _=>f1) (fun _ _ _=>f2)
 obtain ⟨A1,A2,A3,s1,s2,s3,s4⟩:=asw hr h4 (shP p k c)
 have gr:=aea (u:=u) (e:=e) (l:=l) (b:=b) (pr (shP p k c)) rfl
 rw [aiT] at gr
 refine ⟨?_,fun qs z=>?_⟩
 ·have e0:dIx (mv (r:Int) k c) (.int 0)=some (.int (r:Int)):=rfl
  have e1:dIx (mv (r:Int) k c) (.int 1)=some (aam k):=rfl
  have e2:dIx (mv (r:Int) k c) (.int 2)=some (.int c):=rfl
  have pu:=aed p k c
  have k1':zS [jo ps,mv (r:Int) k c]=some (.bool true):=k1
  have io:(if okP u l (shP p k c)=true then some (ps.set r (shP p k c)) else none).isSome=okP u l (shP p k c):=by split <;> simp_all
  rw [io]
  generalize mv (r:Int) k c=D at*
  generalize okP u l (shP p k c)=OK at*
  generalize pr (shP p k c)=Q at*
  refine jZ rfl ?_
  show QI.1 [some (jm u e l b),some (jo ps),some D]=_
  dsimp? [QI,k1',e0,e1,e2,ixT,pu,gr]
 ·by_cases ho:okP u l (shP p k c)=true
  ·rw [if_pos ho] at z
   cases z
   refine ⟨?_,aiZ hs r ho⟩
   have e0:dIx (mv (r:Int) k c) (.int 0)=some (.int (r:Int)):=rfl
   have e1:dIx (mv (r:Int) k c) (.int 1)=some (aam k):=rfl
   have e2:dIx (mv (r:Int) k c) (.int 2)=some (.int c):=rfl
   have a1:zV (.int (r:Int)) (.int 1)=some (.int ((r:Int)+1)):=rfl
   have pu:=aed p k c
   generalize mv (r:Int) k c=D at*
   generalize pr (shP p k c)=Q at*
   generalize jo (ps.set r (shP p k c))=R at*
   refine jZ rfl ?_
   show Ql.1 [some (jo ps),some D,none]=_
   dsimp? [Ql,abU,Zz,inI,e0,e1,e2,a1,ixT,pu,s1,fw1,s2,s3,s4]
  ·rw [if_neg ho] at z; cases z
theorem art (H:za=true) (h:okN u e l b=true) (hs:okS u l ps=true):qi [jm u e l b,jo ps]=some .none/\True:=by
 have hM:=adA H h
 have hb:adC u l (jo ps)=true:=by rw [aec]; exact hs
 exact ⟨ah3 (Jn hM) _ (adl ps) hb,trivial⟩
theorem amm (H:za=true) (h:okN u e l b=true) {ps qs:List (Int × Int)}{d:PyData} (hs:okS u l ps=true) (t:Th u e l b ps d (some qs)):Qc [jm u e l b,jo ps,d]=some (jo qs):=
 aml (art H h hs).1 t.cm (t.bm _ rfl).1
end
theorem asx {tt:Rho->Option Bool}{A B:RO}{ρ:Rho} (h:tt ρ=some true):ifS tt A B ρ=A ρ:=by
 show (tt ρ).bind _=_
 rw [h]; rfl
theorem asy {tt:Rho->Option Bool}{A:RO}{ρ:Rho} (h:tt ρ=some false):ifS tt A (fun ρ=>some (.nx ρ)) ρ=some (.nx ρ):=by
 show (tt ρ).bind _=_
 rw [h]; rfl
theorem JW {i:Nat}{f:RP}{ρ:Rho}{d:PyData} (h:f ρ=some d):qV f (jO i) ρ=some (.nx (ρ.set i (some d))):=by
 show (f ρ).bind _=_
 rw [h]; rfl
theorem j2 {g:PyData->PyData->OP}{f1 f2:RP}{ρ:Rho}{x y z:PyData} (h1:f1 ρ=some x) (h2:f2 ρ=some y) (h3:g x y=some z):op2 g f1 f2 ρ=some z:=by
 show (f1 ρ).bind _=_
 rw [h1,zzD,h2,zzD,h3]
theorem qe {g:LP->OP}{fs:Rho->Option (LP)}{ρ:Rho}{ds:LP}{d:PyData} (h1:fs ρ=some ds) (h2:g ds=some d):jB g fs ρ=some d:=by
 show (fs ρ).bind _=_
 rw [h1,zzD,h2]
theorem jI {f:RP}{fs:Rho->Option (LP)}{ρ:Rho}{d:PyData}{ds:LP} (h1:f ρ=some d) (h2:fs ρ=some ds):jj f fs ρ=some (d::ds):=by
 unfold jj
 rw [h1,zzD,h2]; rfl
theorem ado {f:RP}{ρ:Rho}{c:Bool} (h:f ρ=some (.bool c)):tst f ρ=some c:=by
 show (f ρ).bind _=_
 rw [h]; rfl
theorem abO {f:RP}{G:RO}{ρ:Rho}{d:PyData} (h:f ρ=some d):jK (qB f) G ρ=some (.rt d):=by
 unfold jK qB
 rw [h]; rfl
section
variable {u e l b:Int}
theorem agL (h:okN u e l b=true) {p:Int × Int} (hp:okP u l p=true):qN [jm u e l b,pr p]=some (.int (wt e p)):=by
 obtain ⟨a1,a2,a3,a4,a5,a6,a7,a8,a9,a10⟩:=qE h
 obtain ⟨q1,q2,q3,q4⟩:=JP hp
 exact QZ u e l b p.1 p.2 ⟨by omega,by omega⟩
end
noncomputable abbrev PL:=List (Int × Int)
noncomputable abbrev z00:Int × Int:=(0,0)
noncomputable def chg (b e:Int) (ps:PL):Nat->Int->Option (List (Nat × Int))
 | 0,dg=>if dg=0 then some [] else none
 | i+1,dg=>if dg=0 then some [] else (chg b e ps i ((wt e (ps.getD i z00)+dg) / b)).map fun cs=>cs++[(i,(wt e (ps.getD i z00)+dg) % b)]
theorem afA {b e:Int}{ps:PL}:∀ (i:Nat) (dg:Int) (cs:List (Nat × Int)),chg b e ps i dg=some cs->cs.length<=i
 | 0,dg,cs,h=>by
  unfold chg at h
  split at h
  ·cases h; exact Nat.le_refl _
  ·cases h
 | i+1,dg,cs,h=>by
  unfold chg at h
  split at h
  ·cases h; exact Nat.zero_le _
  ·cases hc:chg b e ps i ((wt e (ps.getD i z00)+dg) / b) with
   | none=>rw [hc] at h; cases h
   | some c1=>
    rw [hc] at h
    cases h
    have:=afA i _ c1 hc
    simp only [List.length_append,List.length_cons,List.length_nil]; omega
section
variable {u e l b:Int}
theorem aru (H:za=true) (h:okN u e l b=true) {ps:PL} (hk:ps.all (okP u l)=true) (h4:ps.length<=4):∀ (i k:Nat) (dg:Int),i<=ps.length->0<=dg->
  (∀ cs,chg b e ps i dg=some cs->gDA (i+1+k) [jm u e l b,jo ps,.int ((i:Int) - 1),.int dg]=some (.list (cs.map (Q7 (jm u e l b)))))/\
  (chg b e ps i dg=none->gDA (i+1+k) [jm u e l b,jo ps,.int ((i:Int) - 1),.int dg]=none/\tDA (i+1+k) [jm u e l b,jo ps,.int ((i:Int) - 1),.int dg]=some ("TooGreat":Str)):=by
 obtain ⟨a1,a2,a3,a4,a5,a6,a7,a8,a9,a10⟩:=qE h
 have hb:0<b:=by omega
 intro i
 induction i with
 | zero=>
  intro k dg hi d0
  rw [show 0+1+k=k+1 by omega]
  by_cases hz:dg=0
  ·subst hz
   refine ⟨fun cs hc=>?_,fun hc=>?_⟩
   ·have:cs=[]:=by rw [chg,if_pos rfl] at hc; exact (Option.some.inj hc).symm
    subst this
    exact aiS
   ·rw [chg,if_pos rfl] at hc; cases hc
  ·refine ⟨fun cs hc=>?_,fun _=>apV hz (by omega)⟩
   rw [chg,if_neg hz] at hc; cases hc
 | succ i ih=>
  intro k dg hi d0
  rw [show i+1+1+k=(i+1+k)+1 by omega,show (((i+1:Nat):Int) - 1)=(i:Int) by omega]
  by_cases hz:dg=0
  ·subst hz
   refine ⟨fun cs hc=>?_,fun hc=>?_⟩
   ·have:cs=[]:=by rw [chg,if_pos rfl] at hc; exact (Option.some.inj hc).symm
    subst this
    exact aiS
   ·rw [chg,if_pos rfl] at hc; cases hc
  have hd:ps[i]?=some (ps.getD i z00):=by
   rw [List.getD_eq_getElem?_getD,List.getElem?_eq_getElem (by omega)]; rfl
  have hpk:okP u l (ps.getD i z00)=true:=List.all_eq_true.mp hk _ (List.mem_of_getElem? hd)
  generalize hp:ps.getD i z00=p at hd hpk
  have w0:=aoN a3 hpk
  have c0:0<=(wt e p+dg) / b:=Int.ediv_nonneg (by omega) (by omega)
  have m0:0<=(wt e p+dg) % b:=Int.emod_nonneg _ (by omega)
  have m1:(wt e p+dg) % b<b:=Int.emod_lt_of_pos _ hb
  have fw:=Jo H h m0 m1
  obtain ⟨ih1,ih2⟩:=ih k ((wt e p+dg) / b) (by omega) c0
  refine ⟨fun cs hc=>?_,fun hc=>?_⟩
  ·rw [chg,if_neg hz,hp] at hc
   cases hq:chg b e ps i ((wt e p+dg) / b) with
   | none=>rw [hq] at hc; cases hc
   | some c1=>
    rw [hq] at hc
    cases hc
    have hl:=afA i _ c1 hq
    rw [List.map_append]
    exact aro (g:=gDA (i+1+k)) hz (by omega) (afz h4 hd) (agL h hpk) (ih1 c1 hq) rfl hb a9 fw.1 (by rw [List.length_map]; omega)
  ·rw [chg,if_neg hz,hp] at hc
   cases hq:chg b e ps i ((wt e p+dg) / b) with
   | some c1=>rw [hq] at hc; cases hc
   | none=>
    obtain ⟨n1,n2⟩:=ih2 hq
    exact apW (g:=gDA (i+1+k)) (t:=tDA (i+1+k)) hz (by omega) (afz h4 hd) (agL h hpk) rfl hb a9 n1 n2
noncomputable def zH (m:PyData) (cs:List (Nat × Int)) (ps:List (Int × Int)):List (Int × Int):=cs.foldl (fun ps c=>ps.set c.1 (fpr m c.2)) ps
theorem aj9 (m:PyData) (a c:List (Nat × Int)) (ps:List (Int × Int)):zH m (a++c) ps=zH m c (zH m a ps):=by unfold zH; rw [List.foldl_append]
theorem Z2 (m:PyData):∀ (cs:List (Nat × Int)) (ps:List (Int × Int)),(zH m cs ps).length=ps.length
 | [],_=>rfl
 | c::cs,ps=>by
  show (zH m cs (ps.set c.1 (fpr m c.2))).length=_
  rw [Z2 m cs,List.length_set]
theorem aka {m:PyData}{S C:OP}{ps:List (Int × Int)}{i:Nat}{d:Int} (hi:i<ps.length):
  adc.1 [S,C,some (.list (ps.map pr)),some (.int (i:Int)),some (Zw m d)]=some (.nx [S,C,some (.list ((ps.set i (fpr m d)).map pr)),some (.int (i:Int)),some (Zw m d)]):=by
 have hx:ixN (ps.map pr).length (i:Int)=some i:=by
  rw [afr (by omega) (by rw [List.length_map]; simpa using hi)]; simp
 have e1:(ps.map pr).set i (Zw m d)=(ps.set i (fpr m d)).map pr:=by rw [List.map_set]; rfl
 simp only [adc,jK,ans,alm,brw,hid,lkp,zzF,zzG,zzA,zzB,zzC,hx,zzE,zzD,qu,e1]
theorem aef {m:PyData}{S C:OP}:∀ (cs:List (Nat × Int)) (ps:List (Int × Int)) (x3 x4:OP),(∀ c ∈ cs,c.1<ps.length)->
  ∃ y3 y4,qj (zC 2 (jG (jO 3) (jG (jO 4) qq))) adc.1 (cs.map (Q7 m)) [S,C,some (.list (ps.map pr)),x3,x4]=some (.nx [S,C,some (.list ((zH m cs ps).map pr)),y3,y4])
 | [],ps,x3,x4,_=>⟨x3,x4,rfl⟩
 | c::cs,ps,x3,x4,h=>by
  obtain ⟨y3,y4,ih⟩:=aef (m:=m) (S:=S) (C:=C) cs (ps.set c.1 (fpr m c.2)) (some (.int (c.1:Int))) (some (Zw m c.2)) fun q hq=>by rw [List.length_set]; exact h q (List.mem_cons_of_mem _ hq)
  refine ⟨y3,y4,?_⟩
  have st:=aka (m:=m) (S:=S) (C:=C) (ps:=ps) (i:=c.1) (d:=c.2) (h c List.mem_cons_self)
  rw [List.map_cons,qj]
  show ((zC 2 (jG (jO 3) (jG (jO 4) qq))) (.tuple [.int (c.1:Int),Zw m c.2]) _).bind _=_
  simp only [zC,jG,qq,jO,List.length_cons,List.length_nil,zzM,zzD,zzF,zzG,st]
  exact ih
theorem agM {m:PyData}{cs:List (Nat × Int)}{ps:List (Int × Int)} (h:∀ c ∈ cs,c.1<ps.length):ahN [jo ps,.list (cs.map (Q7 m))]=some (jo (zH m cs ps)):=by
 obtain ⟨y3,y4,lp⟩:=aef (m:=m) (S:=some (jo ps)) (C:=some (.list (cs.map (Q7 m)))) cs ps none none h
 refine jZ rfl ?_
 show an3.1 [some (jo ps),some (.list (cs.map (Q7 m))),none,none,none]=_
 have dl:ace [jo ps]=some (.list (ps.map pr)):=rfl
 have dt:aeM [.list ((zH m cs ps).map pr)]=some (jo (zH m cs ps)):=rfl
 simp only [an3,abp,jB,jj,jv,lkp,zzA,zzC,zzD,zzE,dl,List.length_cons,List.length_nil,zzF,zzG]
 rw [if_pos (by omega)]
 have fr:abm (fun ρ=>itL (lkp 1) (hid (some 2) ρ)) (zC 2 (jG (jO 3) (jG (jO 4) qq))) adc.1 [some (jo ps),some (.list (cs.map (Q7 m))),some (.list (ps.map pr)),none,none]=some (.nx [some (jo ps),some (.list (cs.map (Q7 m))),some (.list ((zH m cs ps).map pr)),y3,y4]):=by
  simp only [abm,itL,hid,lkp,zzF,zzG,zzA,zzB,zzC,zzD,Zc]
  exact lp
 rw [qh fr]
 simp only [jK,qB,jB,jj,jv,lkp,zzA,zzB,zzC,zzD,zzE,dt]
end
theorem akb {x:Str}{g:LP->OP}{m S N:PyData}{b:Int}{r:Int}{dl ch:LP}{y5 y6 y7 y8:OP} (i3:dIx m (.int 3)=some (.int b)) (hl:zl [S]=some (.int r)) (hd:ab7 [.int b,.int r,N]=some (.list dl))
  (lp:qj (zC 2 (jG (jO 6) (jG (jO 7) qq))) (zt x g).1 (JD 0 dl) [some m,some S,some N,some (fnD x),some (.list []),some S,none,none,none]=some (.nx [some m,some S,some N,some (fnD x),some (.list ch),y5,y6,y7,y8])):
  apN x g [m,S,N,fnD x]=some (.list ch):=by
 refine jZ rfl ?_
 show (ajX x g).1 [some m,some S,some N,some (fnD x),none,none,none,none,none]=_
 have st1:qV (brw (some 4) (lkp 1)) (jO 5) [some m,some S,some N,some (fnD x),some (.list []),none,none,none,none]=some (.nx [some m,some S,some N,some (fnD x),some (.list []),some S,none,none,none]):=by
  simp only [qV,brw,hid,lkp,jO,zzA,zzB,zzC,zzD,zzE,zzF,zzG]
 have st2:abm (fun ρ=>(jj (jB ab7 (jj (op2 dIx (lkp 0) (cst (PyData.int 3))) (jj (jB zl (jj (lkp 1) jv)) (jj (lkp 2) jv)))) jv (hid (some 4) ρ)).bind aaJ) (zC 2 (jG (jO 6) (jG (jO 7) qq))) (zt x g).1 [some m,some S,some N,some (fnD x),some (.list []),some S,none,none,none]=some (.nx [some m,some S,some N,some (fnD x),some (.list ch),y5,y6,y7,y8]):=by
  simp only [abm,jB,op2,jj,jv,hid,lkp,cst,zzA,zzB,zzC,zzD,zzE,zzF,zzG,i3,hl,hd,aaJ]
  exact lp
 simp only [ajX,abp,zB,jv,zzD,aa6,zzM,List.length_cons,List.length_nil,zzF,zzG]
 rw [if_pos (by omega),qh st1,qh st2]
 simp only [jK,qB,lkp,zzA,zzB,zzC,zzD,zzE]
theorem akc {x:Str}{g:LP->OP}{m S N:PyData}{b:Int}{r:Int}{dl:LP} (i3:dIx m (.int 3)=some (.int b)) (hl:zl [S]=some (.int r)) (hd:ab7 [.int b,.int r,N]=some (.list dl))
  (lp:qj (zC 2 (jG (jO 6) (jG (jO 7) qq))) (zt x g).1 (JD 0 dl) [some m,some S,some N,some (fnD x),some (.list []),some S,none,none,none]=none):apN x g [m,S,N,fnD x]=none:=by
 refine Qo ?_
 show (ajX x g).1 [some m,some S,some N,some (fnD x),none,none,none,none,none]=_
 have st1:qV (brw (some 4) (lkp 1)) (jO 5) [some m,some S,some N,some (fnD x),some (.list []),none,none,none,none]=some (.nx [some m,some S,some N,some (fnD x),some (.list []),some S,none,none,none]):=by
  simp only [qV,brw,hid,lkp,jO,zzA,zzB,zzC,zzD,zzE,zzF,zzG]
 have st2:abm (fun ρ=>(jj (jB ab7 (jj (op2 dIx (lkp 0) (cst (PyData.int 3))) (jj (jB zl (jj (lkp 1) jv)) (jj (lkp 2) jv)))) jv (hid (some 4) ρ)).bind aaJ) (zC 2 (jG (jO 6) (jG (jO 7) qq))) (zt x g).1 [some m,some S,some N,some (fnD x),some (.list []),some S,none,none,none]=none:=by
  simp only [abm,jB,op2,jj,jv,hid,lkp,cst,zzA,zzB,zzC,zzD,zzE,zzF,zzG,i3,hl,hd,aaJ]
  exact lp
 simp only [ajX,abp,zB,jv,zzD,aa6,zzM,List.length_cons,List.length_nil,zzF,zzG]
 rw [if_pos (by omega),qh st1]
 unfold jK
 rw [st2]; rfl
noncomputable abbrev itC:Rho->Option (LP):=fun ρ=>(jj (jB ab7 (jj (op2 dIx (lkp 0) (cst (PyData.int 3))) (jj (jB zl (jj (lkp 1) jv)) (jj (lkp 2) jv)))) jv (hid (some 4) ρ)).bind aaJ
theorem akd {m S N:PyData}{b:Int}{r:Int}{dl:LP}{c:Str} (i3:dIx m (.int 3)=some (.int b)) (hl:zl [S]=some (.int r)) (hd:ab7 [.int b,.int r,N]=some (.list dl))
  (lp:QC (zC 2 (jG (jO 6) (jG (jO 7) qq))) (zt "digit_added" (gDA 6)).1 (fxC "digit_added" (tDA 6)) (JD 0 dl) [some m,some S,some N,some (fnD "digit_added"),some (.list []),some S,none,none,none]=some c):tCA [m,S,N,fnD "digit_added"]=some c:=by
 refine (zG rfl).trans ?_
 show ahE 4 (zB jv) (nxX (qV (brw (some 4) (lkp 1)) (jO 5)) (age itC (zC 2 (jG (jO 6) (jG (jO 7) qq))) (zt "digit_added" (gDA 6)).1 (fxC "digit_added" (tDA 6)))) [some m,some S,some N,some (fnD "digit_added"),none,none,none,none,none]=_
 have st1:qV (brw (some 4) (lkp 1)) (jO 5) [some m,some S,some N,some (fnD "digit_added"),some (.list []),none,none,none,none]=some (.nx [some m,some S,some N,some (fnD "digit_added"),some (.list []),some S,none,none,none]):=by
  simp only [qV,brw,hid,lkp,jO,zzA,zzB,zzC,zzD,zzE,zzF,zzG]
 have st2:age itC (zC 2 (jG (jO 6) (jG (jO 7) qq))) (zt "digit_added" (gDA 6)).1 (fxC "digit_added" (tDA 6)) [some m,some S,some N,some (fnD "digit_added"),some (.list []),some S,none,none,none]=some c:=by
  simp only [age,itC,jB,op2,jj,jv,hid,lkp,cst,zzA,zzB,zzC,zzD,zzE,zzF,zzG,i3,hl,hd,aaJ]
  exact lp
 have nw:ahE 4 (zB jv) (nxX (qV (brw (some 4) (lkp 1)) (jO 5)) (age itC (zC 2 (jG (jO 6) (jG (jO 7) qq))) (zt "digit_added" (gDA 6)).1 (fxC "digit_added" (tDA 6)))) [some m,some S,some N,some (fnD "digit_added"),none,none,none,none,none]=nxX (qV (brw (some 4) (lkp 1)) (jO 5)) (age itC (zC 2 (jG (jO 6) (jG (jO 7) qq))) (zt "digit_added" (gDA 6)).1 (fxC "digit_added" (tDA 6))) [some m,some S,some N,some (fnD "digit_added"),some (.list []),none,none,none,none]:=by
  unfold ahE
  simp only [zB,jv,zzD,aa6,zzM,List.length_cons,List.length_nil,zzF,zzG]
  rw [if_pos (by omega)]
 rw [nw]
 unfold nxX
 rw [st1,zzD]
 exact st2
section
variable {u e l b:Int}
theorem ah8 {ps:PL} (hb:0<b):∀ (i:Nat) (dg:Int) (cs:List (Nat × Int)),chg b e ps i dg=some cs->∀ c ∈ cs,c.1<i/\0<=c.2/\c.2<b
 | 0,dg,cs,h=>by
  unfold chg at h
  split at h
  ·cases h; exact fun c hc=>nomatch hc
  ·cases h
 | i+1,dg,cs,h=>by
  unfold chg at h
  split at h
  ·cases h; exact fun c hc=>nomatch hc
  ·cases hq:chg b e ps i ((wt e (ps.getD i z00)+dg) / b) with
   | none=>rw [hq] at h; cases h
   | some c1=>
    rw [hq] at h
    cases h
    intro c hc
    rcases List.mem_append.mp hc with z | z
    ·obtain ⟨q1,q2⟩:=ah8 hb i _ c1 hq c z
     exact ⟨by omega,q2⟩
    ·rw [List.mem_singleton.mp z]
     exact ⟨Nat.lt_succ_self _,Int.emod_nonneg _ (by omega),Int.emod_lt_of_pos _ hb⟩
theorem adp (H:za=true) (h:okN u e l b=true):∀ (cs:List (Nat × Int)) (ps:PL),(∀ c ∈ cs,0<=c.2/\c.2<b)->ps.all (okP u l)=true->(zH (jm u e l b) cs ps).all (okP u l)=true
 | [],ps,_,hk=>hk
 | c::cs,ps,hc,hk=>by
  have fw:=Jo H h (hc c List.mem_cons_self).1 (hc c List.mem_cons_self).2
  refine adp H h cs (ps.set c.1 (fpr (jm u e l b) c.2)) (fun d hd=>hc d (List.mem_cons_of_mem _ hd)) ?_
  refine List.all_eq_true.mpr fun p hp=>?_
  rcases List.mem_or_eq_of_mem_set hp with q | q
  ·exact List.all_eq_true.mp hk p q
  ·rw [q]; exact fw.2.2
noncomputable def Q4 (M:PyData) (b e:Int):List Int->Nat->PL->Option (List (Nat × Int) × PL)
 | [],_,ps=>some ([],ps)
 | d::ds,i,ps=>(chg b e ps (i+1) d).bind fun cs=>(Q4 M b e ds (i+1) (zH M cs ps)).map fun q=>(cs++q.1,q.2)
theorem ai0 (H:za=true) (h:okN u e l b=true) {r:Nat} (h4:r<=4) {S N:PyData}:∀ (ds:List Int) (i:Nat) (ps:PL) (acc:List (Nat × Int)) (x6 x7 x8:OP),i+ds.length=r->ps.length=r->ps.all (okP u l)=true->(∀ d ∈ ds,0<=d)->acc.length<=10*i->
  (∀ res,Q4 (jm u e l b) b e ds i ps=some res->∃ y6 y7 y8,qj (zC 2 (jG (jO 6) (jG (jO 7) qq))) (zt "digit_added" (gDA 6)).1 (JD i (ds.map .int)) [some (jm u e l b),some S,some N,some (fnD "digit_added"),some (.list (acc.map (Q7 (jm u e l b)))),some (jo ps),x6,x7,x8]=some (.nx [some (jm u e l b),some S,some N,some (fnD "digit_added"),some (.list ((acc++res.1).map (Q7 (jm u e l b)))),some (jo res.2),y6,y7,y8]))/\
  (Q4 (jm u e l b) b e ds i ps=none->qj (zC 2 (jG (jO 6) (jG (jO 7) qq))) (zt "digit_added" (gDA 6)).1 (JD i (ds.map .int)) [some (jm u e l b),some S,some N,some (fnD "digit_added"),some (.list (acc.map (Q7 (jm u e l b)))),some (jo ps),x6,x7,x8]=none/\
   QC (zC 2 (jG (jO 6) (jG (jO 7) qq))) (zt "digit_added" (gDA 6)).1 (fxC "digit_added" (tDA 6)) (JD i (ds.map .int)) [some (jm u e l b),some S,some N,some (fnD "digit_added"),some (.list (acc.map (Q7 (jm u e l b)))),some (jo ps),x6,x7,x8]=some ("TooGreat":Str))
 | [],i,ps,acc,x6,x7,x8,_,_,_,_,_=>⟨fun res hr=>by cases hr; exact ⟨x6,x7,x8,by rw [List.append_nil]; rfl⟩,fun hr=>nomatch hr⟩
 | d::ds,i,ps,acc,x6,x7,x8,hi,hl,hk,hd,ha=>by
  obtain ⟨a1,a2,a3,a4,a5,a6,a7,a8,a9,a10⟩:=qE h
  have hb:0<b:=by omega
  rw [List.length_cons] at hi
  have en:JD i ((d::ds).map PyData.int)= .tuple [.int (i:Int),.int d]::JD (i+1) (ds.map .int):=rfl
  rw [en]
  obtain ⟨e1,e2⟩:=aru H h hk (by omega) (i+1) (6 - (i+2)) d (by omega) (hd d List.mem_cons_self)
  rw [show i+1+1+(6 - (i+2))=6 by omega,show (((i+1:Nat):Int) - 1)=(i:Int) by omega] at e1 e2
  cases hq:chg b e ps (i+1) d with
  | none=>
   obtain ⟨n1,n2⟩:=e2 hq
   have an:Q4 (jm u e l b) b e (d::ds) i ps=none:=by rw [Q4,hq]; rfl
   refine ⟨fun res hr=>(by rw [an] at hr; cases hr),fun _=>?_⟩
   obtain ⟨c1,c2⟩:=aoc (x:="digit_added") (S:=S) (N:=N) (x8:=x8) (ch:=acc.map (Q7 (jm u e l b))) n1 n2
   refine ⟨?_,?_⟩
   ·rw [qj]
    simp only [zC,jG,qq,jO,List.length_cons,List.length_nil,zzM,zzD,zzF,zzG,c1,zzH]
   ·rw [QC]
    simp only [zC,jG,qq,jO,List.length_cons,List.length_nil,zzM,zzD,zzF,zzG,c1]
    exact c2
  | some cs=>
   have run:=e1 cs hq
   have ok:=ah8 (e:=e) hb (i+1) d cs hq
   have cl:=afA (i+1) d cs hq
   have bh:=agM (m:=jm u e l b) (cs:=cs) (ps:=ps) fun c hc=>by have:=(ok c hc).1; omega
   have ci:=apU (x:="digit_added") (g:=gDA 6) (S:=S) (N:=N) (x8:=x8) (ch:=acc.map (Q7 (jm u e l b))) run bh (ami _ cs) (by rw [List.length_map,List.length_map]; omega)
   obtain ⟨f1,f2⟩:=ai0 H h h4 (S:=S) (N:=N) ds (i+1) (zH (jm u e l b) cs ps) (acc++cs) (some (.int (i:Int))) (some (.int d)) (some (.list (cs.map (Q7 (jm u e l b))))) (by omega) (by rw [Z2]; exact hl) (adp H h cs ps (fun c hc=>(ok c hc).2) hk) (fun x hx=>hd x (List.mem_cons_of_mem _ hx)) (by rw [List.length_append]; omega)
   rw [List.map_append] at f1 f2
   have ad:Q4 (jm u e l b) b e (d::ds) i ps=(Q4 (jm u e l b) b e ds (i+1) (zH (jm u e l b) cs ps)).map fun q=>(cs++q.1,q.2):=by rw [Q4,hq]; rfl
   refine ⟨fun res hr=>?_,fun hr=>?_⟩
   ·rw [ad] at hr
    cases hs:Q4 (jm u e l b) b e ds (i+1) (zH (jm u e l b) cs ps) with
    | none=>rw [hs] at hr; cases hr
    | some q=>
     rw [hs] at hr
     cases hr
     obtain ⟨y6,y7,y8,l1⟩:=f1 q hs
     refine ⟨y6,y7,y8,?_⟩
     rw [qj]
     simp only [zC,jG,qq,jO,List.length_cons,List.length_nil,zzM,zzD,zzF,zzG,ci]
     rw [l1,List.append_assoc]
   ·rw [ad] at hr
    cases hs:Q4 (jm u e l b) b e ds (i+1) (zH (jm u e l b) cs ps) with
    | some q=>rw [hs] at hr; cases hr
    | none=>
     obtain ⟨l1,l2⟩:=f2 hs
     refine ⟨?_,?_⟩
     ·rw [qj]
      simp only [zC,jG,qq,jO,List.length_cons,List.length_nil,zzM,zzD,zzF,zzG,ci]
      exact l1
     ·rw [QC]
      simp only [zC,jG,qq,jO,List.length_cons,List.length_nil,zzM,zzD,zzF,zzG,ci]
      exact l2
theorem arv (H:za=true) (h:okN u e l b=true) {ps:PL}{n:Int}{r:Nat} (hr:ps.length=r) (h1:1<=r) (h4:r<=4) (hk:ps.all (okP u l)=true) (n0:0<=n) (nn:∀ d ∈ dgl b r n,0<=d):
  (∀ res,Q4 (jm u e l b) b e (dgl b r n) 0 ps=some res->agC [jm u e l b,jo ps,.int n]=some (.list (res.1.map (Q7 (jm u e l b)))))/\
  (Q4 (jm u e l b) b e (dgl b r n) 0 ps=none->agC [jm u e l b,jo ps,.int n]=none/\alW [jm u e l b,jo ps,.int n]=some ("TooGreat":Str)):=by
 obtain ⟨a1,a2,a3,a4,a5,a6,a7,a8,a9,a10⟩:=qE h
 have hb:0<b:=by omega
 have gd:=acz (n:=n) hb a9 h1 h4
 have i3:dIx (jm u e l b) (.int 3)=some (.int b):=rfl
 have sl:zl [jo ps]=some (.int (r:Int)):=by
  have:=Jw ps
  rw [hr] at this; exact this
 obtain ⟨c1,c2⟩:=ai0 H h h4 (S:=jo ps) (N:= .int n) (dgl b r n) 0 ps [] none none none (by rw [Z0]; omega) hr hk nn (Nat.zero_le _)
 refine ⟨fun res hres=>?_,fun hres=>?_⟩
 ·obtain ⟨y6,y7,y8,l1⟩:=c1 res hres
  exact amj (akb i3 sl gd l1)
 ·obtain ⟨l1,l2⟩:=c2 hres
  exact apX (akc i3 sl gd l1) (akd i3 sl gd l2)
theorem ai1 (hb:0<b):∀ (k:Nat) (n:Int),dgl b (k+1) n=(List.range (k+1)).map (dig b (k+1) n)
 | 0,n=>by
  show [n]=_
  simp [dig]
 | k+1,n=>by
  show dgl b (k+1) (n / b)++[n % b]=_
  rw [ai1 hb k (n / b),List.range_succ (n:=k+1),List.map_append]
  congr 1
  ·apply List.map_congr_left
   intro i hi
   have hi:=List.mem_range.mp hi
   have e1:k+1+1 - 1 - i=(k+1 - 1 - i)+1:=by omega
   have e2:n / b ^ (k+1+1 - 1 - i)=n / b / b ^ (k+1 - 1 - i):=by
    rw [e1,Int.pow_succ,Int.mul_comm,Int.ediv_ediv_of_nonneg (by omega)]
   unfold dig
   rw [e2]
  ·simp [dig]
theorem ap1 (hb:0<b) {r:Nat}{n:Int} (n0:0<=n) (i:Nat):0<=dig b r n i:=by
 have:=afv hb (r - 1 - i)
 unfold dig
 split
 ·exact Int.emod_nonneg _ (by omega)
 ·exact Int.ediv_nonneg n0 (by omega)
end
section
variable {m s t d C:PyData}{c:Str}
theorem ap2 (g:qi [m,s]=some .none) (g2:qo [t]=some .none) (g3:agC [m,s,t]=some C):Jr [m,s,t]=some C:=by
 simp [Jr,jw,aaZ,jC,jK,Jc,qB,jB,jj,jv,lkp,g,g2,g3]
theorem arw (g:qi [m,s]=some .none) (x:zI [m,s]=none) (g2:qo [t]=none) (x2:zJ [t]=some c):Jr [m,s,t]=none/\aa2 [m,s,t]=some c:=by
 constructor
 ·simp [Jr,jw,aaZ,jC,jK,Jc,jB,jj,jv,lkp,g,g2]
 ·refine j0 rfl ?_
  show ZU.1 [some m,some s,some t]=_
  simp [ZU,orX,nxX,Jc,jB,jj,jv,lkp,g,x,g2,x2]
theorem arx (g:qi [m,s]=some .none) (x:zI [m,s]=none) (g2:qo [t]=some .none) (x2:zJ [t]=none) (g3:agC [m,s,t]=none) (x3:alW [m,s,t]=some c):Jr [m,s,t]=none/\aa2 [m,s,t]=some c:=by
 constructor
 ·simp [Jr,jw,aaZ,jC,jK,Jc,qB,jB,jj,jv,lkp,g,g2,g3]
 ·refine j0 rfl ?_
  show ZU.1 [some m,some s,some t]=_
  simp [ZU,orX,nxX,Jc,jB,jj,jv,lkp,g,x,g2,x2,x3]
theorem amn (g:Jr [m,s,t]=some C) (g2:ahN [s,C]=some d):Qa [m,s,t]=some d:=by
 simp [Qa,jw,ae8,jC,jK,qB,jB,jj,jv,lkp,g,g2]
theorem ai2 (g:Jr [m,s,t]=none) (x:aa2 [m,s,t]=some c):Qa [m,s,t]=none/\aan [m,s,t]=some c:=by
 constructor
 ·simp [Qa,jw,ae8,jC,jK,qB,jB,jj,jv,lkp,g]
 ·refine j0 rfl ?_
  show afb.1 [some m,some s,some t]=_
  simp [afb,anz,jB,jj,jv,lkp,x]
theorem ap3 (g:qi [m,s]=some .none) (x:zI [m,s]=none) (g2:qo [t]=none) (x2:zJ [t]=some c):Q6 [m,s,t]=none/\aa3 [m,s,t]=some c:=by
 constructor
 ·simp [Q6,jw,aaY,jC,jK,Jc,jB,jj,jv,lkp,g,g2]
 ·refine j0 rfl ?_
  show abW.1 [some m,some s,some t]=_
  simp [abW,orX,nxX,Jc,jB,jj,jv,lkp,g,x,g2,x2]
end
section
variable {u e l b:Int}
theorem agN {M:PyData}:∀ (ds:List Int) (i:Nat) (ps:PL) (res:List (Nat × Int) × PL),Q4 M b e ds i ps=some res->res.2=zH M res.1 ps
 | [],i,ps,res,h=>by cases h; rfl
 | d::ds,i,ps,res,h=>by
  rw [Q4] at h
  cases hq:chg b e ps (i+1) d with
  | none=>rw [hq] at h; cases h
  | some cs=>
   rw [hq,zzD] at h
   cases hs:Q4 M b e ds (i+1) (zH M cs ps) with
   | none=>rw [hs] at h; cases h
   | some q=>
    rw [hs] at h
    cases h
    show q.2=zH M (cs++q.1) ps
    rw [aj9,agN ds (i+1) _ q hs]
theorem ai3 {M:PyData} (hb:0<b):∀ (ds:List Int) (i:Nat) (ps:PL) (res:List (Nat × Int) × PL),Q4 M b e ds i ps=some res->∀ c ∈ res.1,c.1<i+ds.length/\0<=c.2/\c.2<b
 | [],i,ps,res,h,c,hc=>by cases h; cases hc
 | d::ds,i,ps,res,h,c,hc=>by
  rw [Q4] at h
  cases hq:chg b e ps (i+1) d with
  | none=>rw [hq] at h; cases h
  | some cs=>
   rw [hq,zzD] at h
   cases hs:Q4 M b e ds (i+1) (zH M cs ps) with
   | none=>rw [hs] at h; cases h
   | some q=>
    rw [hs] at h
    cases h
    rw [List.length_cons]
    rcases List.mem_append.mp hc with z | z
    ·have:=ah8 (e:=e) hb (i+1) d cs hq c z
     exact ⟨by omega,this.2⟩
    ·have:=ai3 hb ds (i+1) _ q hs c z
     exact ⟨by omega,this.2⟩
theorem aoi (hb:0<b) {r:Nat} (h1:1<=r) (m:Int) (m0:0<=m):∀ d ∈ dgl b r m,0<=d:=fun d hd=>by
 obtain ⟨k,rfl⟩:∃ k,r=k+1:=⟨r - 1,by omega⟩
 rw [ai1 hb k m] at hd
 obtain ⟨i,_,rfl⟩:=List.mem_map.mp hd
 exact ap1 hb m0 i
theorem agO (H:za=true) (h:okN u e l b=true) {r n:Int} (h1:1<=r) (h4:r<=4) (h0:0<=n) (hn:n<=99999):zL [jm u e l b,.int r,.int n]=some .none/\Zp [jm u e l b,.int r,.int n]=none:=by
 refine ⟨aj4 H h h1 h4 h0 hn,?_⟩
 have g:=Jn (adA H h)
 have x:=Z1 (adA H h)
 obtain ⟨g2,x2⟩:=aiV ⟨h1,h4⟩
 obtain ⟨g3,x3⟩:=ah7 ⟨h0,hn⟩
 refine j0 rfl ?_
 show Qx.1 [some (jm u e l b),some (.int r),some (.int n)]=_
 simp [Qx,orX,nxX,Jc,jB,jj,jv,lkp,g,x,g2,x2,g3,x3]
end
section
variable {u e l b:Int}{ps:PL}
theorem qz (hs:okS u l ps=true):1<=ps.length/\ps.length<=4/\ps.all (okP u l)=true:=by
 unfold okS at hs
 simp only [Bool.and_eq_true,decide_eq_true_eq] at hs
 exact ⟨hs.1.1,hs.1.2,hs.2⟩
theorem aoj {N:List Str}{n:Nat}{B:RO}{ds:LP}{ρ:Rho} (hl:ds.length=n) (h:B (jC N ds)=some (.nx ρ)):jw N n B ds=some .none:=by
 unfold jw
 rw [if_pos hl,h]
theorem ake {M S:PyData}{n v:Int} (g:Qv [M,S]=some (.int v)) (hv:v<n):aaX [M,S,.int n]=none/\acp [M,S,.int n]=some ("TooGreat":Str):=by
 have c1:Jd (fun i j=>decide (j<i)) (.int n) (.int v)=some (.bool true):=by
  show some (PyData.bool (decide (v<n)))=_
  rw [decide_eq_true hv]
 constructor
 ·refine Qo ?_
  show ZP.1 [some M,some S,some (.int n)]=_
  dsimp? [ZP,g,c1]
 ·refine j0 rfl ?_
  show ZT.1 [some M,some S,some (.int n)]=_
  dsimp? [ZT,g,c1]
theorem aeg {M S:PyData}{n v:Int} (g:Qv [M,S]=some (.int v)) (hv:n<=v):aaX [M,S,.int n]=some .none/\acp [M,S,.int n]=none:=by
 have c1:Jd (fun i j=>decide (j<i)) (.int n) (.int v)=some (.bool false):=by
  show some (PyData.bool (decide (v<n)))=_
  rw [decide_eq_false (by omega)]
 constructor
 ·refine aoj (ρ:=[some M,some S,some (.int n)]) rfl ?_
  show ZP.1 [some M,some S,some (.int n)]=_
  dsimp? [ZP,g,c1]
 ·refine j0 rfl ?_
  show ZT.1 [some M,some S,some (.int n)]=_
  dsimp? [ZT,g,c1]
theorem ap4 {M S:PyData}{n v:Int} (ck:qi [M,S]=some .none) (tk:zI [M,S]=none) (gn:qo [.int n]=some .none) (xn:zJ [.int n]=none) (g:Qv [M,S]=some (.int v)) (hv:v<n):Q6 [M,S,.int n]=none/\aa3 [M,S,.int n]=some ("TooGreat":Str):=by
 obtain ⟨e1,e2⟩:=ake g hv
 constructor
 ·refine Qo ?_
  show aaY.1 [some M,some S,some (.int n)]=_
  dsimp? [aaY,ck,gn,e1]
 ·refine j0 rfl ?_
  show abW.1 [some M,some S,some (.int n)]=_
  dsimp? [abW,ck,tk,gn,xn,e1,e2]
theorem ap5 {M S:PyData}{n v:Int}{r:PyData}{c:Str} (ck:qi [M,S]=some .none) (tk:zI [M,S]=none) (gn:qo [.int n]=some .none) (xn:zJ [.int n]=none) (g:Qv [M,S]=some (.int v)) (hv:n<=v) (ln:zl [S]=some r) (p1:JG [M,r,.int (v - n)]=none) (p2:ZR [M,r,.int (v - n)]=some c):Q6 [M,S,.int n]=none/\aa3 [M,S,.int n]=some c:=by
 obtain ⟨e1,e2⟩:=aeg g hv
 have s1:Z4 (.int v) (.int n)=some (.int (v - n)):=rfl
 constructor
 ·refine Qo ?_
  show aaY.1 [some M,some S,some (.int n)]=_
  dsimp? [aaY,ck,gn,e1,g,ln,s1,p1]
 ·refine j0 rfl ?_
  show abW.1 [some M,some S,some (.int n)]=_
  dsimp? [abW,ck,tk,gn,xn,e1,e2,g,ln,s1,p2]
theorem aok {M S D:PyData}{n v:Int}{r:PyData} (ck:qi [M,S]=some .none) (gn:qo [.int n]=some .none) (g:Qv [M,S]=some (.int v)) (hv:n<=v) (ln:zl [S]=some r) (p1:JG [M,r,.int (v - n)]=some D):Q6 [M,S,.int n]=some D:=by
 obtain ⟨e1,e2⟩:=aeg g hv
 have s1:Z4 (.int v) (.int n)=some (.int (v - n)):=rfl
 refine jZ rfl ?_
 show aaY.1 [some M,some S,some (.int n)]=_
 dsimp? [aaY,ck,gn,e1,g,ln,s1,p1]
end
section
variable {m r n:PyData}{c:Str}
theorem aol (g:Jk [m]=none) (x:Zo [m]=some c):zL [m,r,n]=none/\Zp [m,r,n]=some c:=by
 constructor
 ·simp [zL,jw,abA,jC,jK,Jc,jB,jj,jv,lkp,g]
 ·refine j0 rfl ?_
  show Qx.1 [some m,some r,some n]=_
  simp [Qx,orX,nxX,Jc,jB,jj,jv,lkp,g,x]
theorem aom (g:Jk [m]=some .none) (x:Zo [m]=none) (g2:zd [r]=none) (x2:QK [r]=some c):zL [m,r,n]=none/\Zp [m,r,n]=some c:=by
 constructor
 ·simp [zL,jw,abA,jC,jK,Jc,jB,jj,jv,lkp,g,g2]
 ·refine j0 rfl ?_
  show Qx.1 [some m,some r,some n]=_
  simp [Qx,orX,nxX,Jc,jB,jj,jv,lkp,g,x,g2,x2]
theorem aon (g:Jk [m]=some .none) (x:Zo [m]=none) (g2:zd [r]=some .none) (x2:QK [r]=none) (g3:qo [n]=none) (x3:zJ [n]=some c):zL [m,r,n]=none/\Zp [m,r,n]=some c:=by
 constructor
 ·simp [zL,jw,abA,jC,jK,Jc,jB,jj,jv,lkp,g,g2,g3]
 ·refine j0 rfl ?_
  show Qx.1 [some m,some r,some n]=_
  simp [Qx,orX,nxX,Jc,jB,jj,jv,lkp,g,x,g2,x2,g3,x3]
end
section
variable {u e l b:Int}{ps:PL}
theorem ck2 (H:za=true) (h:okN u e l b=true) (hs:okS u l ps=true):qi [jm u e l b,jo ps]=some .none/\zI [jm u e l b,jo ps]=none:=
 ⟨amd H h hs,ah4 (adA H h) (adl ps) (by rw [aec]; exact hs)⟩
end
noncomputable def sh (n:Nat) (d:PyData):Prop:=shl n d/\noD d=true
theorem amo {ds:LP} (h:∀ d ∈ ds,noD d=true):noDs ds=true:=by
 induction ds with
 | nil=>rfl
 | cons d ds ih=>
  show (noD d && noDs ds)=true
  rw [h d List.mem_cons_self,ih fun x hx=>h x (List.mem_cons_of_mem _ hx)]; rfl
theorem ap6 {n:Nat}{ds:LP} (h:∀ d ∈ ds,sh n d):sh (n+1) (.tuple ds):=⟨afy.mpr fun d hd=>(h d hd).1,amo fun d hd=>(h d hd).2⟩
theorem ap7 (i:Int):sh 1 (.int i):=⟨aiY i,rfl⟩
theorem ai4 (ps:List (Int × Int)):sh 3 (jo ps):=⟨aof ps,adl ps⟩
theorem afB (i:Int):sh 2 (rfd i):=ap6 fun d hd=>by
 rcases List.mem_cons.mp hd with rfl | hd
 ·exact ⟨⟨by simp only [PyData.canLay0]; decide +kernel,by simp [PyData.depth]⟩,rfl⟩
 ·rw [List.mem_singleton.mp hd]; exact ap7 _
noncomputable def ze (M s:PyData) (p:Addr):Cell:= .ins "Hand" [("now",s),("manner",M),("past",jz p)]
section
variable {M s s' v n r:PyData}{a p:Addr}{μ:jL}{R:Res PyData->jL->Prop}{ds:LP}{c:Str}
theorem m_value (ha:μ a=some (ze M s p)) (g:Qv [M,s]=some v) (hR:R (.ok v) μ):QY [jz a] μ R:=by
 simp only [QY,qG,afg,qD,qW,BX.bindC,qF,zK,zQ,Zk,rtC]
 exact ⟨_,rfl,a,_,M,rfl,ha,rfl,_,rfl,a,_,s,rfl,ha,rfl,_,rfl,_,rfl,_,rfl,v,g,hR⟩
theorem m_setting (ha:μ a=some (ze M s p)) (hR:R (.ok s) μ):JN [jz a] μ R:=by
 simp only [JN,qG,abH,qD,qW,BX.bindC,qF,zK,zQ,Zk,rtC]
 exact ⟨_,rfl,a,_,s,rfl,ha,rfl,hR⟩
theorem m_many (ha:μ a=some (ze M s p)) (hp:μ p=some (.lst ds)) (hR:R (.ok (.int (ds.length:Int))) μ):adh [jz a] μ R:=by
 simp only [adh,qG,ahX,qD,qW,BX.bindC,qF,zK,zQ,Zk,rtC,apL]
 exact ⟨_,rfl,a,_,_,rfl,ha,rfl,p,ds,_,rfl,hp,rfl,rfl,hR⟩
noncomputable def zb (μ:jL) (a p:Addr) (M s':PyData) (row:LP):jL:=zD (zD μ p (.lst row)) a (ze M s' p)
theorem m_go_on (ne:a ≠ p) (ha:μ a=some (ze M s p)) (hp:μ p=some (.lst ds)) (hl:ds.length<1000000) (g:Qv [M,s']=some v) (hR:R (.ok v) (zb μ a p M s' (ds++[s]))):aap [jz a,s'] μ R:=by
 have h1:zD μ p (.lst (ds++[s])) a=some (ze M s p):=by rw [j7 ne]; exact ha
 simp only [aap,qG,ahS,qD,qW,BX.bindC,qF,zK,zQ,Zk,rtC,ajP,aiD,anL,alK,QT,JY]
 refine ⟨_,rfl,a,_,_,rfl,ha,rfl,⟨p,ds,rfl,hp⟩,_,rfl,a,_,s,rfl,ha,rfl,p,ds,rfl,hp,hl,_,rfl,_,rfl,a,_,rfl,h1,(by show 3<1000; omega),_,rfl,⟨a,_,rfl,jY,rfl⟩,_,rfl,rfl,?_⟩
 exact m_value (s:=s') (M:=M) (p:=p) jY g hR
theorem akf (ha:μ a=some (ze M s p)) (hp:μ p=some (.lst [])) (hR:R (.er "Nothing") μ):Zs [jz a] μ R:=by
 simp only [Zs,qG,afn,qD,qW,BX.bindC,qF,zK,zQ,Zk,rtC,ifC,apG,anQ,apI]
 exact ⟨_,rfl,a,_,_,rfl,ha,rfl,p,[],rfl,hp,_,rfl,_,rfl,hR⟩
theorem m_undo (ne:a ≠ p) {s0:PyData} (ha:μ a=some (ze M s p)) (hp:μ p=some (.lst (ds++[s0]))) (g:Qv [M,s0]=some v) (hR:R (.ok v) (zb μ a p M s0 ds)):Zs [jz a] μ R:=by
 have h1:zD μ p (.lst ds) a=some (ze M s p):=by rw [j7 ne]; exact ha
 have e1:(!(ds++[s0]).isEmpty)=true:=by cases ds <;> rfl
 have e2:(ds++[s0])[(ds++[s0]).length - 1]?=some s0:=by simp
 have e3:(ds++[s0]).dropLast=ds:=by simp
 simp only [Zs,qG,afn,qD,qW,BX.bindC,qF,zK,zQ,Zk,rtC,ifC,apG,anQ,apI,anN,alK,QT,JY,agk]
 refine ⟨_,rfl,a,_,_,rfl,ha,rfl,p,_,rfl,hp,_,rfl,?_⟩
 rw [e1]
 refine ⟨_,rfl,a,_,_,rfl,ha,rfl,p,_,s0,rfl,hp,e2,_,rfl,a,_,rfl,by rw [e3]; exact h1,(by show 3<1000; omega),_,rfl,⟨a,_,rfl,jY,rfl⟩,_,rfl,rfl,?_⟩
 rw [e3]
 exact m_value (s:=s0) (M:=M) (p:=p) jY g hR
theorem amp (ha:μ a=some (ze M s p)) (ln:zl [s]=some r) (t:zi [M,r,n]=some c) (hR:R (.er c) μ):abX [jz a,n] μ R:=by
 simp only [abX,qG,aiM,qD,qW,BX.bindC,qF,zK,zQ,Zk,rtC,QT,JY,ab6]
 exact ⟨_,rfl,⟨a,_,rfl,ha,rfl⟩,_,rfl,a,_,M,rfl,ha,rfl,_,rfl,a,_,s,rfl,ha,rfl,_,rfl,_,rfl,r,ln,_,rfl,_,rfl,_,rfl,_,rfl,_,rfl,rfl,.inr ⟨c,t,hR⟩⟩
theorem amq (ha:μ a=some (ze M s p)) (t:aan [M,s,n]=some c) (hR:R (.er c) μ):abY [jz a,n] μ R:=by
 simp only [abY,qG,aiO,qD,qW,BX.bindC,qF,zK,zQ,Zk,rtC,QT,JY,ab6]
 exact ⟨_,rfl,⟨a,_,rfl,ha,rfl⟩,_,rfl,a,_,M,rfl,ha,rfl,_,rfl,a,_,s,rfl,ha,rfl,_,rfl,_,rfl,_,rfl,_,rfl,_,rfl,rfl,.inr ⟨c,t,hR⟩⟩
theorem m_add (ne:a ≠ p) (ha:μ a=some (ze M s p)) (hp:μ p=some (.lst ds)) (hl:ds.length<1000000) (f:Qa [M,s,n]=some s') (g:Qv [M,s']=some v) (hR:R (.ok v) (zb μ a p M s' (ds++[s]))):abY [jz a,n] μ R:=by
 simp only [abY,qG,aiO,qD,qW,BX.bindC,qF,zK,zQ,Zk,rtC,QT,JY,ab6]
 exact ⟨_,rfl,⟨a,_,rfl,ha,rfl⟩,_,rfl,a,_,M,rfl,ha,rfl,_,rfl,a,_,s,rfl,ha,rfl,_,rfl,_,rfl,_,rfl,_,rfl,_,rfl,rfl,.inl ⟨s',f,_,rfl,_,rfl,rfl,m_go_on ne ha hp hl g hR⟩⟩
theorem akg (ha:μ a=some (ze M s p)) (t:aa3 [M,s,n]=some c) (hR:R (.er c) μ):Zq [jz a,n] μ R:=by
 simp only [Zq,qG,afj,qD,qW,BX.bindC,qF,zK,zQ,Zk,rtC,QT,JY,ab6]
 exact ⟨_,rfl,⟨a,_,rfl,ha,rfl⟩,_,rfl,a,_,M,rfl,ha,rfl,_,rfl,a,_,s,rfl,ha,rfl,_,rfl,_,rfl,_,rfl,_,rfl,_,rfl,rfl,.inr ⟨c,t,hR⟩⟩
theorem m_take (ne:a ≠ p) (ha:μ a=some (ze M s p)) (hp:μ p=some (.lst ds)) (hl:ds.length<1000000) (f:Q6 [M,s,n]=some s') (g:Qv [M,s']=some v) (hR:R (.ok v) (zb μ a p M s' (ds++[s]))):Zq [jz a,n] μ R:=by
 simp only [Zq,qG,afj,qD,qW,BX.bindC,qF,zK,zQ,Zk,rtC,QT,JY,ab6]
 exact ⟨_,rfl,⟨a,_,rfl,ha,rfl⟩,_,rfl,a,_,M,rfl,ha,rfl,_,rfl,a,_,s,rfl,ha,rfl,_,rfl,_,rfl,_,rfl,_,rfl,_,rfl,rfl,.inl ⟨s',f,_,rfl,_,rfl,rfl,m_go_on ne ha hp hl g hR⟩⟩
theorem akh (ha:μ a=some (ze M s p)) (t:aao [M,s,n]=some c) (hR:R (.er c) μ):Zr [jz a,n] μ R:=by
 simp only [Zr,qG,afl,qD,qW,BX.bindC,qF,zK,zQ,Zk,rtC,QT,JY,ab6]
 exact ⟨_,rfl,⟨a,_,rfl,ha,rfl⟩,_,rfl,a,_,M,rfl,ha,rfl,_,rfl,a,_,s,rfl,ha,rfl,_,rfl,_,rfl,_,rfl,_,rfl,_,rfl,rfl,.inr ⟨c,t,hR⟩⟩
theorem m_push (ne:a ≠ p) (ha:μ a=some (ze M s p)) (hp:μ p=some (.lst ds)) (hl:ds.length<1000000) (f:Qc [M,s,n]=some s') (g:Qv [M,s']=some v) (hR:R (.ok v) (zb μ a p M s' (ds++[s]))):Zr [jz a,n] μ R:=by
 simp only [Zr,qG,afl,qD,qW,BX.bindC,qF,zK,zQ,Zk,rtC,QT,JY,ab6]
 exact ⟨_,rfl,⟨a,_,rfl,ha,rfl⟩,_,rfl,a,_,M,rfl,ha,rfl,_,rfl,a,_,s,rfl,ha,rfl,_,rfl,_,rfl,_,rfl,_,rfl,_,rfl,rfl,.inl ⟨s',f,_,rfl,_,rfl,rfl,m_go_on ne ha hp hl g hR⟩⟩
theorem m_lay (ne:a ≠ p) (ha:μ a=some (ze M s p)) (hp:μ p=some (.lst ds)) (hl:ds.length<1000000) (ln:zl [s]=some r) (f:qL [M,r,n]=some s') (g:Qv [M,s']=some v) (hR:R (.ok v) (zb μ a p M s' (ds++[s]))):abX [jz a,n] μ R:=by
 simp only [abX,qG,aiM,qD,qW,BX.bindC,qF,zK,zQ,Zk,rtC,QT,JY,ab6]
 exact ⟨_,rfl,⟨a,_,rfl,ha,rfl⟩,_,rfl,a,_,M,rfl,ha,rfl,_,rfl,a,_,s,rfl,ha,rfl,_,rfl,_,rfl,r,ln,_,rfl,_,rfl,_,rfl,_,rfl,_,rfl,rfl,.inl ⟨s',f,_,rfl,_,rfl,rfl,m_go_on ne ha hp hl g hR⟩⟩
theorem ap8 {rr:PyData}{C:Cell} (ha:μ a=some (.ins "Hand" [])) (f:qL [M,rr,.int 0]=some s) (hR:∀ q,(zD (zD μ a (.ins "Hand" [("now",s)])) a (.ins "Hand" [("now",s),("manner",M)])) q=none->R (.ok .none) (zD (zD (zD (zD μ a (.ins "Hand" [("now",s)])) a (.ins "Hand" [("now",s),("manner",M)])) q (.lst [])) a (ze M s q))):QX [jz a,M,rr] μ R:=by
 simp only [QX,qG,afe,qD,qW,BX.bindC,qF,zK,zQ,Zk,rtC,QT,JY,ab6,alK,apJ,agk]
 refine ⟨_,rfl,_,rfl,_,rfl,_,rfl,_,rfl,_,rfl,_,rfl,rfl,.inl ⟨s,f,_,rfl,a,_,rfl,ha,(by show 0<1000; omega),_,rfl,_,rfl,a,_,rfl,jY,(by show 1<1000; omega),[],rfl,fun q hq=>⟨_,rfl,a,[("now",s),("manner",M)],rfl,?_,(by show 2<1000; omega),hR q hq⟩⟩⟩
 have ne:a ≠ q:=fun z=>by subst z; rw [jY] at hq; cases hq
 rw [j7 ne]; exact jY
theorem aki {rr:PyData} (t:zi [M,rr,.int 0]=some c) (hR:R (.er c) μ):QX [jz a,M,rr] μ R:=by
 simp only [QX,qG,afe,qD,qW,BX.bindC,qF,zK,zQ,Zk,rtC,QT,JY,ab6,alK,apJ,agk]
 exact ⟨_,rfl,_,rfl,_,rfl,_,rfl,_,rfl,_,rfl,_,rfl,rfl,.inr ⟨c,t,hR⟩⟩
end
section
variable {ρ ρ1:Rho}{μ:jL}{R:OutC->jL->Prop}{S S' S0:TRS}{tc:Rho->Option Bool}{F:RO}{f:RP}{d:PyData}{i:Nat}{T:TR PyData}
theorem Jh (h:tc ρ=some false) (k:S' ρ μ R):qD (ifC (qF tc) S agk) S' ρ μ R:=⟨false,h,k⟩
theorem aoP (h:tc ρ=some false) (k:qD S0 S' ρ μ R):qD (ifC (qF tc) S S0) S' ρ μ R:=⟨false,h,k⟩
theorem amr (h:tc ρ=some true) (k:qD S S' ρ μ R):qD (ifC (qF tc) S S0) S' ρ μ R:=⟨true,h,k⟩
theorem aa8 (h:F ρ=some (.nx ρ1)) (k:S' ρ1 μ R):qD (alI F) S' ρ μ R:=⟨.nx ρ1,h,k⟩
theorem ap9 (h:f ρ=some d) (k:R (.rt d) μ):qD (alI (qB f)) S' ρ μ R:=⟨.rt d,by show (f ρ).map _=_; rw [h]; rfl,k⟩
end
section
variable {M s s' v n r d dd:PyData}{a p:Addr}{μ μ':jL}{R:Res PyData->jL->Prop}{ds:LP}{c:Str}
theorem zv {i j:Int}{b:Bool}{ρ:Rho}{f:RP} (h:f ρ=some (.int i)) (hb:decide (i=j)=b):tst (op2 dEq f (cst (.int j))) ρ=some b:=by subst hb; exact ado (j2 h rfl (JI i j))
theorem ary (ha:μ a=some (ze M s p)) (h:∀ R,R (.ok v) μ'->abX [jz a,d] μ R) (hR:R (.ok v) μ'):zz [jz a,.int 0,d] μ R:=by
 show qM.1 [some (jz a),some (.int 0),some d,none] μ (aaN R)
 simp only [qM]
 show qD _ _ _ _ _
 exact ⟨true,zv (i:=0) rfl rfl,jz a,rfl,⟨a,_,rfl,ha,rfl⟩,d,rfl,_,rfl,_,rfl,rfl,h _ hR⟩
theorem aqa (ha:μ a=some (ze M s p)) (h:∀ R,R (.er c) μ'->abX [jz a,d] μ R) (hc:c ∈ jX) (hr:jT [zk c]=some dd) (hR:R (.ok dd) μ'):zz [jz a,.int 0,d] μ R:=by
 show qM.1 [some (jz a),some (.int 0),some d,none] μ (aaN R)
 simp only [qM]
 show qD _ _ _ _ _
 exact ⟨true,zv (i:=0) rfl rfl,jz a,rfl,⟨a,_,rfl,ha,rfl⟩,d,rfl,_,rfl,_,rfl,rfl,h _ ⟨hc,dd,abO (qe rfl hr),hR⟩⟩
theorem arz (ha:μ a=some (ze M s p)) (h:∀ R,R (.ok v) μ'->abY [jz a,d] μ R) (hR:R (.ok v) μ'):zz [jz a,.int 1,d] μ R:=by
 show qM.1 [some (jz a),some (.int 1),some d,none] μ (aaN R)
 simp only [qM]
 show qD _ _ _ _ _
 refine Jh (zv (i:=1) rfl rfl) ?_
 exact ⟨true,zv (i:=1) rfl rfl,jz a,rfl,⟨a,_,rfl,ha,rfl⟩,d,rfl,_,rfl,_,rfl,rfl,h _ hR⟩
theorem aqb (ha:μ a=some (ze M s p)) (h:∀ R,R (.er c) μ'->abY [jz a,d] μ R) (hc:c ∈ jX) (hr:jT [zk c]=some dd) (hR:R (.ok dd) μ'):zz [jz a,.int 1,d] μ R:=by
 show qM.1 [some (jz a),some (.int 1),some d,none] μ (aaN R)
 simp only [qM]
 show qD _ _ _ _ _
 refine Jh (zv (i:=1) rfl rfl) ?_
 exact ⟨true,zv (i:=1) rfl rfl,jz a,rfl,⟨a,_,rfl,ha,rfl⟩,d,rfl,_,rfl,_,rfl,rfl,h _ ⟨hc,dd,abO (qe rfl hr),hR⟩⟩
theorem arA (ha:μ a=some (ze M s p)) (h:∀ R,R (.ok v) μ'->Zq [jz a,d] μ R) (hR:R (.ok v) μ'):zz [jz a,.int 2,d] μ R:=by
 show qM.1 [some (jz a),some (.int 2),some d,none] μ (aaN R)
 simp only [qM]
 show qD _ _ _ _ _
 refine Jh (zv (i:=2) rfl rfl) ?_
 refine Jh (zv (i:=2) rfl rfl) ?_
 exact ⟨true,zv (i:=2) rfl rfl,jz a,rfl,⟨a,_,rfl,ha,rfl⟩,d,rfl,_,rfl,_,rfl,rfl,h _ hR⟩
theorem aqc (ha:μ a=some (ze M s p)) (h:∀ R,R (.er c) μ'->Zq [jz a,d] μ R) (hc:c ∈ jX) (hr:jT [zk c]=some dd) (hR:R (.ok dd) μ'):zz [jz a,.int 2,d] μ R:=by
 show qM.1 [some (jz a),some (.int 2),some d,none] μ (aaN R)
 simp only [qM]
 show qD _ _ _ _ _
 refine Jh (zv (i:=2) rfl rfl) ?_
 refine Jh (zv (i:=2) rfl rfl) ?_
 exact ⟨true,zv (i:=2) rfl rfl,jz a,rfl,⟨a,_,rfl,ha,rfl⟩,d,rfl,_,rfl,_,rfl,rfl,h _ ⟨hc,dd,abO (qe rfl hr),hR⟩⟩
theorem arB (ha:μ a=some (ze M s p)) (h:∀ R,R (.ok v) μ'->Zr [jz a,d] μ R) (hR:R (.ok v) μ'):zz [jz a,.int 3,d] μ R:=by
 show qM.1 [some (jz a),some (.int 3),some d,none] μ (aaN R)
 simp only [qM]
 show qD _ _ _ _ _
 refine Jh (zv (i:=3) rfl rfl) ?_
 refine Jh (zv (i:=3) rfl rfl) ?_
 refine Jh (zv (i:=3) rfl rfl) ?_
 exact ⟨true,zv (i:=3) rfl rfl,jz a,rfl,⟨a,_,rfl,ha,rfl⟩,d,rfl,_,rfl,_,rfl,rfl,h _ hR⟩
theorem aqd (ha:μ a=some (ze M s p)) (h:∀ R,R (.er c) μ'->Zr [jz a,d] μ R) (hc:c ∈ jX) (hr:jT [zk c]=some dd) (hR:R (.ok dd) μ'):zz [jz a,.int 3,d] μ R:=by
 show qM.1 [some (jz a),some (.int 3),some d,none] μ (aaN R)
 simp only [qM]
 show qD _ _ _ _ _
 refine Jh (zv (i:=3) rfl rfl) ?_
 refine Jh (zv (i:=3) rfl rfl) ?_
 refine Jh (zv (i:=3) rfl rfl) ?_
 exact ⟨true,zv (i:=3) rfl rfl,jz a,rfl,⟨a,_,rfl,ha,rfl⟩,d,rfl,_,rfl,_,rfl,rfl,h _ ⟨hc,dd,abO (qe rfl hr),hR⟩⟩
theorem arC (ha:μ a=some (ze M s p)) (h:∀ R,R (.ok v) μ'->Zs [jz a] μ R) (hR:R (.ok v) μ'):zz [jz a,.int 4,d] μ R:=by
 show qM.1 [some (jz a),some (.int 4),some d,none] μ (aaN R)
 simp only [qM]
 show qD _ _ _ _ _
 refine Jh (zv (i:=4) rfl rfl) ?_
 refine Jh (zv (i:=4) rfl rfl) ?_
 refine Jh (zv (i:=4) rfl rfl) ?_
 exact ⟨false,zv (i:=4) rfl rfl,jz a,rfl,⟨a,_,rfl,ha,rfl⟩,_,rfl,rfl,h _ hR⟩
theorem aqe (ha:μ a=some (ze M s p)) (h:∀ R,R (.er c) μ'->Zs [jz a] μ R) (hc:c ∈ jX) (hr:jT [zk c]=some dd) (hR:R (.ok dd) μ'):zz [jz a,.int 4,d] μ R:=by
 show qM.1 [some (jz a),some (.int 4),some d,none] μ (aaN R)
 simp only [qM]
 show qD _ _ _ _ _
 refine Jh (zv (i:=4) rfl rfl) ?_
 refine Jh (zv (i:=4) rfl rfl) ?_
 refine Jh (zv (i:=4) rfl rfl) ?_
 exact ⟨false,zv (i:=4) rfl rfl,jz a,rfl,⟨a,_,rfl,ha,rfl⟩,_,rfl,rfl,h _ ⟨hc,dd,abO (qe rfl hr),hR⟩⟩
end
section
variable {u e l b:Int}{ps:PL}
noncomputable def Tri (u l:Int) (r:Nat) (g:OP) (t:Option Str):Prop:=(∃ qs:PL,g=some (jo qs)/\okS u l qs=true/\qs.length=r) ∨ (g=none/\∃ c,t=some c/\c ∈ jX)
theorem afC {a b:Int}{d:PyData} (h:whB a b d=true):∃ i,d= .int i/\a<=i/\i<=b:=by
 cases d with
 | int i=>
  simp only [whB,Bool.and_eq_true,decide_eq_true_eq] at h
  exact ⟨i,rfl,h.1,h.2⟩
 | _=>simp [whB] at h
theorem JJ:("NoNumber":Str) ∈ jX:=by decide
theorem JK:("TooGreat":Str) ∈ jX:=by decide
theorem aar:("NoMove":Str) ∈ jX:=by decide
theorem afD:("NoManner":Str) ∈ jX:=by decide
theorem agP:("Nothing":Str) ∈ jX:=by decide
theorem akj (H:za=true) (h:okN u e l b=true) (hs:okS u l ps=true) {d:PyData} (hd:noD d=true):Tri u l ps.length (Qa [jm u e l b,jo ps,d]) (aan [jm u e l b,jo ps,d]):=by
 obtain ⟨a1,a2,a3,a4,a5,a6,a7,a8,a9,a10⟩:=qE h
 have hb:0<b:=by omega
 obtain ⟨h1,h4,hk⟩:=qz hs
 obtain ⟨ck,tk⟩:=ck2 H h hs
 cases w:whB 0 99999 d with
 | false=>
  obtain ⟨g2,x2⟩:=ah6 hd w
  obtain ⟨p1,p2⟩:=arw ck tk g2 x2
  obtain ⟨q1,q2⟩:=ai2 p1 p2
  exact .inr ⟨q1,_,q2,JJ⟩
 | true=>
  obtain ⟨n,rfl,n0,n1⟩:=afC w
  obtain ⟨gn,xn⟩:=ah7 (i:=n) ⟨n0,n1⟩
  obtain ⟨c1,c2⟩:=arv H h (ps:=ps) rfl h1 h4 hk n0 (aoi hb h1 n n0)
  cases hq:Q4 (jm u e l b) b e (dgl b ps.length n) 0 ps with
  | none=>
   obtain ⟨g3,x3⟩:=c2 hq
   obtain ⟨p1,p2⟩:=arx ck tk gn xn g3 x3
   obtain ⟨q1,q2⟩:=ai2 p1 p2
   exact .inr ⟨q1,_,q2,JK⟩
  | some res=>
   have g:=ap2 ck gn (c1 res hq)
   have q2:=agN _ _ _ res hq
   have lt:=ai3 (e:=e) hb _ _ _ res hq
   rw [Z0] at lt
   have bh:=agM (m:=jm u e l b) (cs:=res.1) (ps:=ps) fun c hc=>by have:=(lt c hc).1; omega
   refine .inl ⟨_,amn g bh,?_,Z2 _ _ _⟩
   simp only [okS,Bool.and_eq_true,decide_eq_true_eq,Z2]
   exact ⟨⟨h1,h4⟩,adp H h _ _ (fun c hc=>(lt c hc).2) hk⟩
theorem ams (H:za=true) (h:okN u e l b=true) (hs:okS u l ps=true) {d:PyData} (hd:noD d=true):Tri u l ps.length (Q6 [jm u e l b,jo ps,d]) (aa3 [jm u e l b,jo ps,d]):=by
 obtain ⟨h1,h4,hk⟩:=qz hs
 obtain ⟨ck,tk⟩:=ck2 H h hs
 cases w:whB 0 99999 d with
 | false=>
  obtain ⟨g2,x2⟩:=ah6 hd w
  obtain ⟨q1,q2⟩:=ap3 ck tk g2 x2
  exact .inr ⟨q1,_,q2,JJ⟩
 | true=>
  obtain ⟨n,rfl,n0,n1⟩:=afC w
  obtain ⟨gn,xn⟩:=ah7 (i:=n) ⟨n0,n1⟩
  have g:=Q1 h h4 hk
  have ln:=Jw ps
  by_cases hv:n<=val b e ps
  ·by_cases hp:val b e ps - n<b ^ ps.length
   ·exact .inl ⟨_,aok ck gn g hv ln (aaq H h h1 h4 (by omega) hp),ah2 H h h1 h4 (by omega) hp,acA _ _ _ _⟩
   ·obtain ⟨q1,q2⟩:=ap5 ck tk gn xn g hv ln (adm h h1 h4 (by omega) (by omega)) (adk h h1 h4 (by omega) (by omega))
    exact .inr ⟨q1,_,q2,JK⟩
  ·obtain ⟨q1,q2⟩:=ap4 ck tk gn xn g (by omega)
   exact .inr ⟨q1,_,q2,JK⟩
section
variable {m r n d:PyData}{c:Str}
theorem amt (g:zL [m,r,n]=none) (t:Zp [m,r,n]=some c):qL [m,r,n]=none/\zi [m,r,n]=some c:=by
 constructor
 ·simp [qL,jw,aaU,jC,jK,Jc,jB,jj,jv,lkp,g]
 ·refine j0 rfl ?_
  show ZS.1 [some m,some r,some n]=_
  simp [ZS,orX,nxX,Jc,jB,jj,jv,lkp,g,t]
theorem arD (g:zL [m,r,n]=some .none) (t:Zp [m,r,n]=none) (g2:JG [m,r,n]=none) (t2:ZR [m,r,n]=some c):qL [m,r,n]=none/\zi [m,r,n]=some c:=by
 constructor
 ·simp [qL,jw,aaU,jC,jK,Jc,qB,jB,jj,jv,lkp,g,g2]
 ·refine j0 rfl ?_
  show ZS.1 [some m,some r,some n]=_
  simp [ZS,orX,nxX,Jc,jB,jj,jv,lkp,g,t,t2]
theorem amu (g:zL [m,r,n]=some .none) (g2:JG [m,r,n]=some d):qL [m,r,n]=some d:=by
 simp [qL,jw,aaU,jC,jK,Jc,qB,jB,jj,jv,lkp,g,g2]
end
theorem amv (H:za=true) (h:okN u e l b=true) {r:Nat} (h1:1<=r) (h4:r<=4):qL [jm u e l b,.int (r:Int),.int 0]=some (jo (pln (jm u e l b) b r 0)):=by
 obtain ⟨a1,a2,a3,a4,a5,a6,a7,a8,a9,a10⟩:=qE h
 obtain ⟨k1,k2⟩:=agO H h (r:=(r:Int)) (n:=0) (by omega) (by omega) (by omega) (by omega)
 exact amu k1 (aaq H h h1 h4 (by omega) (Int.pow_pos (by omega)))
theorem akk (H:za=true) (h:okN u e l b=true) {r:Nat} (h1:1<=r) (h4:r<=4) {d:PyData} (hd:noD d=true):Tri u l r (qL [jm u e l b,.int (r:Int),d]) (zi [jm u e l b,.int (r:Int),d]):=by
 have g:=Jn (adA H h)
 have x:=Z1 (adA H h)
 obtain ⟨r2,t2⟩:=aiV (i:=(r:Int)) ⟨by omega,by omega⟩
 cases w:whB 0 99999 d with
 | false=>
  obtain ⟨g2,x2⟩:=ah6 hd w
  obtain ⟨p1,p2⟩:=aon g x r2 t2 g2 x2
  obtain ⟨q1,q2⟩:=amt p1 p2
  exact .inr ⟨q1,_,q2,JJ⟩
 | true=>
  obtain ⟨n,rfl,n0,n1⟩:=afC w
  obtain ⟨k1,k2⟩:=agO H h (r:=(r:Int)) (n:=n) (by omega) (by omega) n0 n1
  by_cases hp:n<b ^ r
  ·exact .inl ⟨_,amu k1 (aaq H h h1 h4 n0 hp),ah2 H h h1 h4 n0 hp,acA _ _ _ _⟩
  ·obtain ⟨q1,q2⟩:=arD k1 k2 (adm h h1 h4 n0 (by omega)) (adk h h1 h4 n0 (by omega))
   exact .inr ⟨q1,_,q2,JK⟩
theorem amw {D:PyData} (k:zS [jo ps,D]=some (.bool false)):Qb [jm u e l b,jo ps,D]=some (.bool false):=by
 refine jZ rfl ?_
 show QI.1 [some (jm u e l b),some (jo ps),some D]=_
 dsimp? [QI,k]
theorem amx {D:PyData} (hD:aaB "tuple" D=some (.bool false)):zS [jo ps,D]=some (.bool false):=by
 refine jZ rfl ?_
 show qQ.1 [some (jo ps),some D]=_
 dsimp? [qQ,hD]
inductive Mov (r:Nat):PyData->Prop
 | mv (i:Nat) (k:Bool) (c:Int) (hi:i<r) (hc:c=1 ∨ c=-1):Mov r (mv (i:Int) k c)
 | no (d:PyData) (h:aaB "tuple" d=some (.bool false)):Mov r d
 | two:Mov r (.tuple [.int 0,.str "lower",.int 2])
theorem akl (H:za=true) (h:okN u e l b=true) (hs:okS u l ps=true) {d:PyData} (hd:Mov ps.length d):Tri u l ps.length (Qc [jm u e l b,jo ps,d]) (aao [jm u e l b,jo ps,d]):=by
 obtain ⟨ck,tk⟩:=ck2 H h hs
 obtain ⟨h1,h4,hk⟩:=qz hs
 cases hd with
 | mv i k c hi hc=>
  have t:=ars (e:=e) (b:=b) hs (List.getElem?_eq_getElem hi) k hc
  by_cases ho:okP u l (shP ps[i] k c)=true
  ·rw [if_pos ho] at t
   exact .inl ⟨_,amm H h hs t,aiZ hs i ho,List.length_set⟩
  ·rw [if_neg ho] at t
   obtain ⟨q1,q2⟩:=adn ck tk t.cm
   exact .inr ⟨q1,_,q2,aar⟩
 | no _ hn=>
  obtain ⟨q1,q2⟩:=adn ck tk (amw (amx hn))
  exact .inr ⟨q1,_,q2,aar⟩
 | two=>
  have k1:=agK (X:=true) (Y:=true) (Z:=false) (N:=false) (.int 0) (.str "lower") (.int 2) (Jw ps) (arr (r:=0) (by omega)) (fun _=>aoO true) (fun _ _=>by kernel_rfl) (fun _ _ z=>nomatch z)
  obtain ⟨q1,q2⟩:=adn ck tk (amw k1)
  exact .inr ⟨q1,_,q2,aar⟩
end
theorem aa9:jT [zk "NoManner"]=some (rfd 0):=by kernel_rfl
theorem adD:jT [zk "NoSetting"]=some (rfd 1):=by kernel_rfl
theorem aba:jT [zk "NoNumber"]=some (rfd 2):=by kernel_rfl
theorem ah9:jT [zk "NoMove"]=some (rfd 3):=by kernel_rfl
theorem afE:jT [zk "TooGreat"]=some (rfd 4):=by kernel_rfl
theorem ab1:jT [zk "Nothing"]=some (rfd 5):=by kernel_rfl
theorem Qq {α:Type} (x:Unit->Option α):(none:Option α).orElse x=x ():=rfl
theorem Qr {α:Type} (a:α) (x:Unit->Option α):(some a).orElse x=some a:=rfl
theorem agQ:dIx (.list [fnD "added",fnD "less",fnD "moved"]) (.int 0)=some (fnD "added"):=rfl
theorem agR:Jf "added" (fnD "less")=false:=by decide
theorem agS:Jf "added" (fnD "moved")=false:=by decide
theorem agT:dIx (.list [fnD "added",fnD "less",fnD "moved"]) (.int 1)=some (fnD "less"):=rfl
theorem agU:Jf "less" (fnD "added")=false:=by decide
theorem agV:Jf "less" (fnD "moved")=false:=by decide
theorem agW:dIx (.list [fnD "added",fnD "less",fnD "moved"]) (.int 2)=some (fnD "moved"):=rfl
theorem agX:Jf "moved" (fnD "added")=false:=by decide
theorem agY:Jf "moved" (fnD "less")=false:=by decide
theorem eq0:dEq (.int 0) (.int 0)=some (.bool true):=by rw [JI]; rfl
theorem sb0:Z4 (.int 0) (.int 1)=some (.int (-1)):=rfl
theorem eq1:dEq (.int 1) (.int 0)=some (.bool false):=by rw [JI]; rfl
theorem sb1:Z4 (.int 1) (.int 1)=some (.int 0):=rfl
theorem eq2:dEq (.int 2) (.int 0)=some (.bool false):=by rw [JI]; rfl
theorem sb2:Z4 (.int 2) (.int 1)=some (.int 1):=rfl
theorem eq3:dEq (.int 3) (.int 0)=some (.bool false):=by rw [JI]; rfl
theorem sb3:Z4 (.int 3) (.int 1)=some (.int 2):=rfl
theorem arE {m s t d r:PyData} (ln:zl [s]=some r) (g:qL [m,r,t]=some d):Jz [m,s,.int 0,t]=some d:=by
 refine jZ rfl ?_
 show zf.1 [some m,some s,some (.int 0),some t,none]=_
 dsimp? [zf,Zi,agQ,agT,agW,eq0,eq1,eq2,eq3,sb0,sb1,sb2,sb3,agR,agS,agU,agV,agX,agY,qR,Qq,Qr,orD,abu,QD,fw3,ln,g]
theorem aqf {m s t d r:PyData}{c:Str} (ln:zl [s]=some r) (g:qL [m,r,t]=none) (x:zi [m,r,t]=some c) (hc:c ∈ jX) (hr:jT [zk c]=some d):Jz [m,s,.int 0,t]=some d:=by
 refine jZ rfl ?_
 show zf.1 [some m,some s,some (.int 0),some t,none]=_
 have hb:lkp 4 ((JV 5).set 4 (some (zk c)))=some (zk c):=rfl
 unfold lkp at hb
 dsimp? [zf,Zi,agQ,agT,agW,eq0,eq1,eq2,eq3,sb0,sb1,sb2,sb3,agR,agS,agU,agV,agX,agY,qR,Qq,Qr,orD,abu,QD,fw3,ln,g,x,hc,hb,hr]
theorem arF {m s t d:PyData} (g:Qa [m,s,t]=some d):Jz [m,s,.int 1,t]=some d:=by
 refine jZ rfl ?_
 show zf.1 [some m,some s,some (.int 1),some t,none]=_
 dsimp? [zf,Zi,agQ,agT,agW,eq0,eq1,eq2,eq3,sb0,sb1,sb2,sb3,agR,agS,agU,agV,agX,agY,qR,Qq,Qr,orD,abu,QD,fw3,g]
theorem aqg {m s t d:PyData}{c:Str} (g:Qa [m,s,t]=none) (x:aan [m,s,t]=some c) (hc:c ∈ jX) (hr:jT [zk c]=some d):Jz [m,s,.int 1,t]=some d:=by
 refine jZ rfl ?_
 show zf.1 [some m,some s,some (.int 1),some t,none]=_
 have hb:lkp 4 ((JV 5).set 4 (some (zk c)))=some (zk c):=rfl
 unfold lkp at hb
 dsimp? [zf,Zi,agQ,agT,agW,eq0,eq1,eq2,eq3,sb0,sb1,sb2,sb3,agR,agS,agU,agV,agX,agY,qR,Qq,Qr,orD,abu,QD,fw3,g,x,hc,hb,hr]
theorem arG {m s t d:PyData} (g:Q6 [m,s,t]=some d):Jz [m,s,.int 2,t]=some d:=by
 refine jZ rfl ?_
 show zf.1 [some m,some s,some (.int 2),some t,none]=_
 dsimp? [zf,Zi,agQ,agT,agW,eq0,eq1,eq2,eq3,sb0,sb1,sb2,sb3,agR,agS,agU,agV,agX,agY,qR,Qq,Qr,orD,abu,QD,fw3,g]
theorem aqh {m s t d:PyData}{c:Str} (g:Q6 [m,s,t]=none) (x:aa3 [m,s,t]=some c) (hc:c ∈ jX) (hr:jT [zk c]=some d):Jz [m,s,.int 2,t]=some d:=by
 refine jZ rfl ?_
 show zf.1 [some m,some s,some (.int 2),some t,none]=_
 have hb:lkp 4 ((JV 5).set 4 (some (zk c)))=some (zk c):=rfl
 unfold lkp at hb
 dsimp? [zf,Zi,agQ,agT,agW,eq0,eq1,eq2,eq3,sb0,sb1,sb2,sb3,agR,agS,agU,agV,agX,agY,qR,Qq,Qr,orD,abu,QD,fw3,g,x,hc,hb,hr]
theorem arH {m s t d:PyData} (g:Qc [m,s,t]=some d):Jz [m,s,.int 3,t]=some d:=by
 refine jZ rfl ?_
 show zf.1 [some m,some s,some (.int 3),some t,none]=_
 dsimp? [zf,Zi,agQ,agT,agW,eq0,eq1,eq2,eq3,sb0,sb1,sb2,sb3,agR,agS,agU,agV,agX,agY,qR,Qq,Qr,orD,abu,QD,fw3,g]
theorem aqi {m s t d:PyData}{c:Str} (g:Qc [m,s,t]=none) (x:aao [m,s,t]=some c) (hc:c ∈ jX) (hr:jT [zk c]=some d):Jz [m,s,.int 3,t]=some d:=by
 refine jZ rfl ?_
 show zf.1 [some m,some s,some (.int 3),some t,none]=_
 have hb:lkp 4 ((JV 5).set 4 (some (zk c)))=some (zk c):=rfl
 unfold lkp at hb
 dsimp? [zf,Zi,agQ,agT,agW,eq0,eq1,eq2,eq3,sb0,sb1,sb2,sb3,agR,agS,agU,agV,agX,agY,qR,Qq,Qr,orD,abu,QD,fw3,g,x,hc,hb,hr]
theorem acB {c:Str} (hc:c ∈ jX):∃ i,jT [zk c]=some (rfd i):=by
 simp only [jX,List.mem_cons,List.not_mem_nil,or_false] at hc
 rcases hc with rfl | rfl | rfl | rfl | rfl | rfl
 ·exact ⟨_,aa9⟩
 ·exact ⟨_,adD⟩
 ·exact ⟨_,aba⟩
 ·exact ⟨_,ah9⟩
 ·exact ⟨_,afE⟩
 ·exact ⟨_,ab1⟩
section
variable {u e l b:Int}{ps:PL}
noncomputable def amy (u e l b:Int) (ps:PL) (w:Int) (d:PyData):Prop:=
 (∃ qs:PL,okS u l qs=true/\qs.length=ps.length/\Jz [jm u e l b,jo ps,.int w,d]=some (jo qs)/\∀ (a p:Addr) (μ:jL) (row:LP) (R:Res PyData->jL->Prop),a ≠ p->μ a=some (ze (jm u e l b) (jo ps) p)->μ p=some (.lst row)->row.length<1000000->
  R (.ok (.int (val b e qs))) (zb μ a p (jm u e l b) (jo qs) (row++[jo ps]))->zz [jz a,.int w,d] μ R) ∨
 (∃ i:Int,Jz [jm u e l b,jo ps,.int w,d]=some (rfd i)/\∀ (a p:Addr) (μ:jL) (R:Res PyData->jL->Prop),μ a=some (ze (jm u e l b) (jo ps) p)->R (.ok (rfd i)) μ->zz [jz a,.int w,d] μ R)
theorem arI (H:za=true) (h:okN u e l b=true) (hs:okS u l ps=true) {d:PyData} (hd:noD d=true):amy u e l b ps 0 d:=by
 obtain ⟨h1,h4,hk⟩:=qz hs
 rcases akk H h h1 h4 hd with ⟨qs,g,ok,hl⟩ | ⟨g,c,t,hc⟩
 ·obtain ⟨k1,k4,kk⟩:=qz ok
  have gn:=Q1 h k4 kk
  exact .inl ⟨qs,ok,hl,arE (Jw ps) g,fun a p μ row R ne ha hp hl hR=>ary ha (fun R' r=>m_lay ne ha hp hl (Jw ps) g gn r) hR⟩
 ·obtain ⟨i,hr⟩:=acB hc
  exact .inr ⟨i,aqf (Jw ps) g t hc hr,fun a p μ R ha hR=>aqa ha (fun R' r=>amp ha (Jw ps) t r) hc hr hR⟩
theorem arJ (H:za=true) (h:okN u e l b=true) (hs:okS u l ps=true) {d:PyData} (hd:noD d=true):amy u e l b ps 1 d:=by
 obtain ⟨h1,h4,hk⟩:=qz hs
 rcases akj H h hs hd with ⟨qs,g,ok,hl⟩ | ⟨g,c,t,hc⟩
 ·obtain ⟨k1,k4,kk⟩:=qz ok
  have gn:=Q1 h k4 kk
  exact .inl ⟨qs,ok,hl,arF g,fun a p μ row R ne ha hp hl hR=>arz ha (fun R' r=>m_add ne ha hp hl g gn r) hR⟩
 ·obtain ⟨i,hr⟩:=acB hc
  exact .inr ⟨i,aqg g t hc hr,fun a p μ R ha hR=>aqb ha (fun R' r=>amq ha t r) hc hr hR⟩
theorem arK (H:za=true) (h:okN u e l b=true) (hs:okS u l ps=true) {d:PyData} (hd:noD d=true):amy u e l b ps 2 d:=by
 obtain ⟨h1,h4,hk⟩:=qz hs
 rcases ams H h hs hd with ⟨qs,g,ok,hl⟩ | ⟨g,c,t,hc⟩
 ·obtain ⟨k1,k4,kk⟩:=qz ok
  have gn:=Q1 h k4 kk
  exact .inl ⟨qs,ok,hl,arG g,fun a p μ row R ne ha hp hl hR=>arA ha (fun R' r=>m_take ne ha hp hl g gn r) hR⟩
 ·obtain ⟨i,hr⟩:=acB hc
  exact .inr ⟨i,aqh g t hc hr,fun a p μ R ha hR=>aqc ha (fun R' r=>akg ha t r) hc hr hR⟩
theorem arL (H:za=true) (h:okN u e l b=true) (hs:okS u l ps=true) {d:PyData} (hd:Mov ps.length d):amy u e l b ps 3 d:=by
 obtain ⟨h1,h4,hk⟩:=qz hs
 rcases akl H h hs hd with ⟨qs,g,ok,hl⟩ | ⟨g,c,t,hc⟩
 ·obtain ⟨k1,k4,kk⟩:=qz ok
  have gn:=Q1 h k4 kk
  exact .inl ⟨qs,ok,hl,arH g,fun a p μ row R ne ha hp hl hR=>arB ha (fun R' r=>m_push ne ha hp hl g gn r) hR⟩
 ·obtain ⟨i,hr⟩:=acB hc
  exact .inr ⟨i,aqi g t hc hr,fun a p μ R ha hR=>aqd ha (fun R' r=>akh ha t r) hc hr hR⟩
end
noncomputable def Ext (μ μ':jL):Prop:=∀ x c,μ x=some c->μ' x=some c
section
variable {M s r d dd:PyData}{μ:jL}{R:Res PyData->jL->Prop}{c:Str}{ρ:Rho}
theorem ai5 (f:qL [M,r,.int 0]=some s) (k:∀ (a p:Addr) (μ':jL),a ≠ p->μ a=none->μ p=none->Ext μ μ'->μ' a=some (ze M s p)->μ' p=some (.lst [])->R (.ok (jz a)) μ'):anM "Hand" QX 3 [M,r] ρ μ R:=by
 refine ⟨rfl,fun a ha=>ap8 (C:= .lst []) jY f fun q hq=>⟨rfl,?_⟩⟩
 have ne:a ≠ q:=fun z=>by subst z; rw [jY] at hq; cases hq
 have hq':μ q=none:=by rw [j7 (Ne.symm ne),j7 (Ne.symm ne),j7 (Ne.symm ne)] at hq; exact hq
 refine k a q _ ne ha hq' (fun x c hx=>?_) jY (by rw [j7 (Ne.symm ne)]; exact jY)
 have n1:x ≠ a:=fun z=>by subst z; rw [ha] at hx; cases hx
 have n2:x ≠ q:=fun z=>by subst z; rw [hq'] at hx; cases hx
 rw [j7 n1,j7 n2,j7 n1,j7 n1,j7 n1]; exact hx
theorem aia (t:zi [M,r,.int 0]=some c) (k:∀ μ',Ext μ μ'->R (.er c) μ'):anM "Hand" QX 3 [M,r] ρ μ R:=by
 refine ⟨rfl,fun a ha=>aki t (k _ fun x c hx=>?_)⟩
 have n1:x ≠ a:=fun z=>by subst z; rw [ha] at hx; cases hx
 rw [j7 n1]; exact hx
theorem amz (f:qL [M,r,.int 0]=some s) (k:∀ μ',Ext μ μ'->R (.ok s) μ'):acv [M,r] μ R:=by
 show ZY.1 [some M,some r,none] μ (aaN R)
 simp only [ZY]
 refine ⟨M,rfl,r,rfl,_,rfl,_,rfl,_,rfl,ai5 f fun a p μ' ne h1 h2 hx ha hp=>⟨⟨a,_,rfl,ha,rfl⟩,_,rfl,rfl,m_setting ha (k μ' hx)⟩⟩
theorem agZ (t:zi [M,r,.int 0]=some c) (hc:c ∈ jX) (hr:jT [zk c]=some dd) (k:∀ μ',Ext μ μ'->R (.ok dd) μ'):acv [M,r] μ R:=by
 show ZY.1 [some M,some r,none] μ (aaN R)
 simp only [ZY]
 refine ⟨M,rfl,r,rfl,_,rfl,_,rfl,_,rfl,aia t fun μ' hx=>⟨hc,dd,abO (qe rfl hr),k μ' hx⟩⟩
end
theorem aeh {ga:PyData->Rho->Option Rho}{S:TRS}{R:OutC->jL->Prop} (I:Nat->Rho->jL->Prop):∀ (ds:LP) (j:Nat) (ρ:Rho) (μ:jL),I j ρ μ->
  (∀ (i:Nat) (d:PyData) (ρ:Rho) (μ:jL) (R':OutC->jL->Prop),ds[i]?=some d->I (j+i) ρ μ->(∀ ρ' μ',I (j+i+1) ρ' μ'->R' (.nx ρ') μ')->∃ ρ1,ga d ρ=some ρ1/\S ρ1 μ R')->(∀ ρ' μ',I (j+ds.length) ρ' μ'->R (.nx ρ') μ')->adW ga S ds ρ μ R
 | [],j,ρ,μ,h,_,k=>k ρ μ h
 | d::ds,j,ρ,μ,h,st,k=>by
  obtain ⟨ρ1,g1,g2⟩:=st 0 d ρ μ (aoI (fun ρ2 μ2=>adW ga S ds ρ2 μ2 R) R) rfl h fun ρ' μ' h'=>aeh I ds (j+1) ρ' μ' h' (fun i d' ρ μ R' hd hi kk=>st (i+1) d' ρ μ R' (by simpa using hd) (by rw [show j+(i+1)=j+1+i by omega]; exact hi) (fun ρ' μ' z=>kk ρ' μ' (by rw [show j+1+i+1=j+(i+1)+1 by omega]; exact z))) fun ρ' μ' z=>k ρ' μ' (by rw [List.length_cons,show j+(ds.length+1)=j+1+ds.length by omega]; exact z)
  exact ⟨ρ1,g1,g2⟩
mutual
theorem ag0:∀ d:PyData,noD d=true->PyData.eqv d d=true
 | .none,_=>by simp [PyData.eqv]
 | .bool _,_=>by simp [PyData.eqv]
 | .int _,_=>by simp [PyData.eqv]
 | .str _,_=>by simp [PyData.eqv]
 | .tuple ds,h=>by rw [PyData.eqv]; exact eqvA_self ds (by simpa [noD] using h)
 | .list ds,h=>by rw [PyData.eqv]; exact eqvA_self ds (by simpa [noD] using h)
 | .dict _,h=>by simp [noD] at h
theorem eqvA_self:∀ ds:LP,noDs ds=true->PyData.eqvAll ds ds=true
 | [],_=>by simp [PyData.eqvAll]
 | d::ds,h=>by
  have h':noD d=true/\noDs ds=true:=by simpa [noDs] using h
  rw [PyData.eqvAll,ag0 d h'.1,eqvA_self ds h'.2]; rfl
end
theorem aei {n:Nat}{d:PyData} (h:sh n d) (hn:n<30):dNe d d=some (.bool false):=by
 have ok:=apZ h.1 hn
 unfold dNe
 rw [if_pos ⟨ok,ok⟩,ag0 d h.2]; rfl
theorem acC {xs:LP}{z:PyData} (h:xs.length<1000):dIx (.list (xs++[z])) (.int (-1))=some z:=by
 have hl:(xs++[z]).length=xs.length+1:=by simp
 show (if (xs++[z]).length<1000000 then atI (xs++[z]) (-1) else none)=_
 rw [if_pos (by omega)]
 unfold atI ixN
 rw [if_neg (by omega),if_pos (by omega),zzD,hl,show (-1+((xs.length+1:Nat):Int)).toNat=xs.length by omega,List.getElem?_append_right (Nat.le_refl _),Nat.sub_self]
 rfl
noncomputable abbrev ng:RP:=fun ρ=>(cst (.int 1) ρ).bind anm
section
variable {S M s d v:PyData}{w r:Int}{x5 x6 x9:OP}{a p rw:Addr}{μ1 μ2:jL}{row rs:LP}{R:OutC->jL->Prop}{A:TRS}
theorem ai6 (told:∀ R,R (.ok v) μ2->zz [jz a,.int w,d] μ1 R) (nv:dNe v v=some (.bool false)) (ha:μ2 a=some (ze M s p)) (hp:μ2 p=some (.lst row)) (hw:μ2 rw=some (.lst (rs++[s]))) (hl:rs.length=row.length) (hb:rs.length<900) (nl:noL s=true) (nes:dNe s s=some (.bool false)) (hR:R (.nx [some S,some M,some (.int r),some (jz rw),some (jz a),x5,x6,some (.int w),some d,x9,some v]) μ2):
  ifC (orC (ajN (opC dNe (BX.bindC (zQ (qF (lkp 4)) (zQ (qF (lkp 7)) (zQ (qF (lkp 8)) (zK (some []))))) (aoJ zz 3)) (qF (lkp 10)))) (orC (ajN (opC dNe (BX.bindC (qF (lkp 4)) (QT "Hand" "setting" JN 1 (zK (some [])))) (alM 3 (op2 dIx (lkp 3) ng)))) (ajN (opC dNe (BX.bindC (qF (lkp 4)) (QT "Hand" "many" adh 1 (zK (some [])))) (alM 3 (op2 Z4 (jB zl (jj (lkp 3) jv)) (cst (.int 1)))))))) A agk [some S,some M,some (.int r),some (jz rw),some (jz a),x5,x6,some (.int w),some d,x9,some v] μ1 R:=by
 have il:=acC (z:=s) (show rs.length<1000 by omega)
 have ln:zl [.list (rs++[s])]=some (.int ((rs.length:Int)+1)):=by
  show some (PyData.int ((rs++[s]).length:Int))=_
  rw [List.length_append]; rfl
 have sb:Z4 (.int ((rs.length:Int)+1)) (.int 1)=some (.int (row.length:Int)):=by
  show some (PyData.int ((rs.length:Int)+1 - 1))=_
  rw [hl]; congr 2; omega
 refine ⟨jz a,rfl,.int w,rfl,d,rfl,_,rfl,_,rfl,_,rfl,_,rfl,rfl,told _ ?_⟩
 refine ⟨v,rfl,.bool false,nv,false,rfl,?_⟩
 refine ⟨jz a,rfl,⟨a,_,rfl,ha,rfl⟩,_,rfl,rfl,m_setting ha ?_⟩
 refine ⟨rw,_,s,rfl,hw,j2 rfl rfl il,nl,.bool false,nes,false,rfl,?_⟩
 refine ⟨jz a,rfl,⟨a,_,rfl,ha,rfl⟩,_,rfl,rfl,m_many ha hp ?_⟩
 exact ⟨rw,_,.int (row.length:Int),rfl,hw,j2 (qe rfl ln) rfl sb,rfl,.bool false,(by rw [afx,decide_eq_true rfl]; rfl),false,rfl,hR⟩
theorem ai7 {n:Int} (ha:μ2 a=some (ze M s p)) (hw:μ2 rw=some (.lst (rs++[s]))) (hb:rs.length<900) (g:Qv [M,s]=some (.int n)) (gl:ZX [M,s]=some (.int n)) (hR:R (.nx [some S,some M,some (.int r),some (jz rw),some (jz a),x5,x6,some (.int w),some d,x9,some v]) μ2):
  ifC (ajN (opC dNe (BX.bindC (qF (lkp 4)) (QT "Hand" "value" QY 1 (zK (some [])))) (alM 3 (jB ZX (jj (lkp 1) (jj (op2 dIx (lkp 3) ng) jv)))))) A agk [some S,some M,some (.int r),some (jz rw),some (jz a),x5,x6,some (.int w),some d,x9,some v] μ2 R:=by
 have il:=acC (z:=s) (show rs.length<1000 by omega)
 refine ⟨jz a,rfl,⟨a,_,rfl,ha,rfl⟩,_,rfl,rfl,m_value ha g ?_⟩
 exact ⟨rw,_,.int n,rfl,hw,qe (jI rfl (jI (j2 rfl rfl il) rfl)) gl,rfl,.bool false,(by rw [afx,decide_eq_true rfl]; rfl),false,rfl,hR⟩
end
end Rods
end
section
namespace Rods
open PySem L2 BX
open PyProof.Rows hiding St
section
variable {ρ ρ1:Rho}{μ:jL}{R:OutC->jL->Prop}{A B S S' S0:TRS}{tc:Rho->Option Bool}{F:RO}{f:RP}{d:PyData}{i j:Nat}{T:TR PyData}{l:Addr}{ds:LP}
theorem aab (h:qD A (qD B S') ρ μ R):qD (qD A B) S' ρ μ R:=by
 have e:(fun (o:OutC) (μ':jL)=>match o with
   | .nx ρ'=>B ρ' μ' fun o μ'=>match o with
    | .nx ρ'=>S' ρ' μ' R
    | o=>R o μ'
   | o=>(match o with
    | .nx ρ'=>S' ρ' μ' R
    | o=>R o μ'))=fun o μ'=>match o with
   | .nx ρ'=>qD B S' ρ' μ' R
   | o=>R o μ':=by
  funext o μ'
  cases o <;> rfl
 show A ρ μ _
 exact e ▸ h
theorem ab2 (h:S' ρ μ R):qD agk S' ρ μ R:=h
theorem afF (h:A ρ μ fun o μ'=>match o with
  | .nx ρ'=>S' ρ' μ' R
  | o=>R o μ'):qD A S' ρ μ R:=h
theorem afG (h1:lkp i ρ=some (jz l)) (h2:μ l=some (.lst ds)) (h3:f (ρ.set i (some (.list ds)))=some d) (h4:noL d=true) (k:S' (ρ.set j (some d)) μ R):qD (qW (alM i f) (arh j)) S' ρ μ R:=⟨l,ds,d,h1,h2,h3,h4,k⟩
theorem aqj (h1:lkp i ρ=some (jz l)) (h2:μ l=some (.lst ds)) (h3:f ρ=some d) (h4:ds.length<1000000) (k:S' ρ (zD μ l (.lst (ds++[d]))) R):qD (qW (BX.bindC (qF (lkp i)) fun od ρ μ R=>aiD od μ/\BX.bindC (qF f) (ajP od) ρ μ R) anL) S' ρ μ R:=
 ⟨jz l,h1,⟨l,ds,rfl,h2⟩,d,h3,l,ds,rfl,h2,h4,k⟩
theorem aqk (h1:lkp i ρ=some (jz l)) (h2:μ l=some (.lst (ds++[d]))) (k:S' ρ (zD μ l (.lst ds)) R):qD (qW (BX.bindC (qF (lkp i)) anN) anL) S' ρ μ R:=
 ⟨jz l,h1,l,_,d,rfl,h2,by simp,by rw [List.dropLast_concat]; exact k⟩
theorem aql (h1:lkp i ρ=some (jz l)) (h2:μ l=some (.lst ds)) (h3:tc (ρ.set i (some (.list ds)))=some false) (k:qD S0 S' ρ μ R):qD (ifC (apK i tc) S S0) S' ρ μ R:=⟨l,ds,false,h1,h2,h3,k⟩
theorem aoo (h1:lkp i ρ=some (jz l)) (h2:μ l=some (.lst ds)) (h3:tc (ρ.set i (some (.list ds)))=some true) (k:qD S S' ρ μ R):qD (ifC (apK i tc) S S0) S' ρ μ R:=⟨l,ds,true,h1,h2,h3,k⟩
end
section
variable {S M:PyData}{r:Nat}{w hh:Int}{x3 x4 x5 x9 x10:OP}
theorem arM {tt:Rho->Option Bool}{A:RO}{ρ:Rho}{o:Option Out} (h:tt ρ=some true) (k:A ρ=o):ifS tt A qu ρ=o:=(asx h).trans k
theorem arN {tt:Rho->Option Bool}{A:RO}{ρ:Rho} (h:tt ρ=some false):ifS tt A qu ρ=some (.nx ρ):=asy h
theorem st4 {ns:List Int} (hn:ns.length<1000000) (hr:1<=r) (h0:0<=hh) {x:Int}:∃ d y9,(ifS (tst (op2 dEq (lkp 7) (cst (.int 3)))) (jK (qV (op2 dIx (cst (.list [.str "upper",.str "lower"])) (jB zM (jj (lkp 0) (jj (op2 zV (lkp 6) (cst (.int 4))) (jj (cst (.int 2)) jv))))) (jO 9)) (jK (qV (ab4 (jj (jB zM (jj (lkp 0) (jj (op2 zV (lkp 6) (cst (.int 3))) (jj (lkp 2) jv)))) (jj (lkp 9) (jj (op2 dIx (zB (jj (cst (.int 1)) (jj (cst (.int 1)) (jj ng jv)))) (jB zM (jj (lkp 0) (jj (op2 zV (lkp 6) (cst (.int 5))) (jj (cst (.int 3)) jv))))) jv)))) (jO 8)) qu)) qu) [some (scr ns),some M,some (.int (r:Int)),x3,x4,x5,some (.int hh),some (.int w),some (.int x),x9,x10]=some (.nx [some (scr ns),some M,some (.int (r:Int)),x3,x4,x5,some (.int hh),some (.int w),some d,y9,x10])/\noD d=true/\(w=3->Mov r d):=by
 by_cases h3:w=3
 ·obtain ⟨k1,d1,p1,q1⟩:=ql ns hn (hh+4) 2 (by omega) (by omega)
  obtain ⟨k2,d2,p2,q2⟩:=ql ns hn (hh+3) (r:Int) (by omega) (by omega)
  obtain ⟨k3,d3,p3,q3⟩:=ql ns hn (hh+5) 3 (by omega) (by omega)
  obtain ⟨dk,i1,m1⟩:=abN (ds:=[.str "upper",.str "lower"]) p1 q1 (by decide)
  obtain ⟨c,i3,m3⟩:=abN (ds:=[.int 1,.int 1,.int (-1)]) p3 q3 (by decide)
  have hk:∃ b:Bool,dk=aam b:=by
   simp only [List.mem_cons,List.not_mem_nil,or_false] at m1
   rcases m1 with rfl | rfl
   ·exact ⟨false,rfl⟩
   ·exact ⟨true,rfl⟩
  have hc:∃ z:Int,c= .int z/\(z=1 ∨ z=-1):=by
   simp only [List.mem_cons,List.not_mem_nil,or_false] at m3
   rcases m3 with rfl | rfl | rfl
   ·exact ⟨1,rfl,.inl rfl⟩
   ·exact ⟨1,rfl,.inl rfl⟩
   ·exact ⟨-1,rfl,.inr rfl⟩
  obtain ⟨bb,rfl⟩:=hk
  obtain ⟨z,rfl,hz⟩:=hc
  obtain ⟨i,rfl⟩:=Int.eq_ofNat_of_zero_le p2
  refine ⟨mv (i:Int) bb z,some (aam bb),?_,by cases bb <;> rfl,fun _=> .mv i bb z (by omega) hz⟩
  generalize scr ns=S at*
  refine arM (zv (i:=w) rfl (decide_eq_true h3)) ?_
  refine (qh (ρ1:=[some S,some M,some (.int (r:Int)),x3,x4,x5,some (.int hh),some (.int w),some (.int x),some (aam bb),x10]) (JW (i:=9) (j2 rfl (qe (jI rfl (jI (j2 rfl rfl (add_int _ _)) rfl)) d1) i1))).trans ?_
  have l3:zB (jj (cst (.int 1)) (jj (cst (.int 1)) (jj ng jv))) [some S,some M,some (.int (r:Int)),x3,x4,x5,some (.int hh),some (.int w),some (.int x),some (aam bb),x10]=some (.list [.int 1,.int 1,.int (-1)]):=rfl
  have tp:ab4 (jj (jB zM (jj (lkp 0) (jj (op2 zV (lkp 6) (cst (.int 3))) (jj (lkp 2) jv)))) (jj (lkp 9) (jj (op2 dIx (zB (jj (cst (.int 1)) (jj (cst (.int 1)) (jj ng jv)))) (jB zM (jj (lkp 0) (jj (op2 zV (lkp 6) (cst (.int 5))) (jj (cst (.int 3)) jv))))) jv))) [some S,some M,some (.int (r:Int)),x3,x4,x5,some (.int hh),some (.int w),some (.int x),some (aam bb),x10]=some (mv (i:Int) bb z):=by
   unfold ab4
   rw [jI (qe (jI rfl (jI (j2 rfl rfl (add_int _ _)) rfl)) d2) (jI rfl (jI (j2 l3 (qe (jI rfl (jI (j2 rfl rfl (add_int _ _)) rfl)) d3) i3) rfl)),zzD,if_pos fw3]; rfl
  refine (qh (ρ1:=[some S,some M,some (.int (r:Int)),x3,x4,x5,some (.int hh),some (.int w),some (mv (i:Int) bb z),some (aam bb),x10]) (JW (i:=8) tp)).trans rfl
 ·exact ⟨.int x,x9,arN (zv (i:=w) rfl (decide_eq_false h3)),rfl,fun z=>absurd z h3⟩
theorem st5 {ns:List Int} (hn:ns.length<1000000) (h0:0<=hh) {d:PyData} (hd:noD d=true) (hm:w=3->Mov r d):∃ d',(ifS (tst (op2 dEq (jB zM (jj (lkp 0) (jj (op2 zV (lkp 6) (cst (.int 6))) (jj (cst (.int 6)) jv)))) (cst (.int 0)))) (jK (qV (op2 dIx (zB (jj (cst .none) (jj ng (jj (cst (.bool true)) (jj (cst (.str "1")) (jj (cst (.tuple [.int 0,.str "lower",.int 2])) jv)))))) (jB zM (jj (lkp 0) (jj (op2 zV (lkp 6) (cst (.int 7))) (jj (cst (.int 5)) jv))))) (jO 8)) qu) qu) [some (scr ns),some M,some (.int (r:Int)),x3,x4,x5,some (.int hh),some (.int w),some d,x9,x10]=some (.nx [some (scr ns),some M,some (.int (r:Int)),x3,x4,x5,some (.int hh),some (.int w),some d',x9,x10])/\noD d'=true/\(w=3->Mov r d'):=by
 obtain ⟨k1,d1,p1,q1⟩:=ql ns hn (hh+6) 6 (by omega) (by omega)
 by_cases h3:k1=0
 ·obtain ⟨k2,d2,p2,q2⟩:=ql ns hn (hh+7) 5 (by omega) (by omega)
  obtain ⟨d',i1,m1⟩:=abN (ds:=[.none,.int (-1),.bool true,.str "1",.tuple [.int 0,.str "lower",.int 2]]) p2 q2 (by decide)
  have hh':noD d'=true/\Mov r d':=by
   simp only [List.mem_cons,List.not_mem_nil,or_false] at m1
   rcases m1 with rfl | rfl | rfl | rfl | rfl
   ·exact ⟨rfl,.no _ rfl⟩
   ·exact ⟨rfl,.no _ rfl⟩
   ·exact ⟨rfl,.no _ rfl⟩
   ·exact ⟨rfl,.no _ rfl⟩
   ·exact ⟨rfl,.two⟩
  refine ⟨d',?_,hh'.1,fun _=>hh'.2⟩
  generalize scr ns=S at*
  refine arM (zv (i:=k1) (qe (jI rfl (jI (j2 rfl rfl (add_int _ _)) rfl)) d1) (decide_eq_true h3)) ?_
  have l5:zB (jj (cst .none) (jj ng (jj (cst (.bool true)) (jj (cst (.str "1")) (jj (cst (.tuple [.int 0,.str "lower",.int 2])) jv))))) [some S,some M,some (.int (r:Int)),x3,x4,x5,some (.int hh),some (.int w),some d,x9,x10]=some (.list [.none,.int (-1),.bool true,.str "1",.tuple [.int 0,.str "lower",.int 2]]):=rfl
  refine (qh (ρ1:=[some S,some M,some (.int (r:Int)),x3,x4,x5,some (.int hh),some (.int w),some d',x9,x10]) (JW (i:=8) (j2 l5 (qe (jI rfl (jI (j2 rfl rfl (add_int _ _)) rfl)) d2) i1))).trans rfl
 ·exact ⟨d,arN (zv (i:=k1) (qe (jI rfl (jI (j2 rfl rfl (add_int _ _)) rfl)) d1) (decide_eq_false h3)),hd,hm⟩
end
theorem amA (ps:PL):noLs (ps.map pr)=true:=by
 induction ps with
 | nil=>rfl
 | cons q qs ih=>show (noL (pr q) && noLs (qs.map pr))=true; rw [ih]; rfl
theorem aop {q0:Int × Int}{qr:PL} (h:(q0::qr).length<=4):dIx (jo (q0::qr)) (.int 0)=some (pr q0):=by
 show (if ((q0::qr).map pr).length<1000000 then atI ((q0::qr).map pr) 0 else none)=_
 rw [if_pos (by rw [List.length_map]; omega)]
 simp [atI,ixN]
theorem arO (q:Int × Int):dNe (pr q) (.str "refused")=some (.bool true):=by
 have ok1:okD (pr q)=true:=by simp [pr,okD,PyData.canLay0,PyData.canLayAll0,PyData.depth,PyData.depthAll]
 have ok2:okD (.str "refused")=true:=by kernel_rfl
 unfold dNe
 rw [if_pos ⟨ok1,ok2⟩]
 simp [pr,PyData.eqv]
theorem aqm:dNe (.str "refused") (.str "refused")=some (.bool false):=by kernel_rfl
section
variable {u e l b:Int}
noncomputable def LI (S:PyData) (u e l b:Int) (r:Nat) (a p rw:Addr) (k:Nat) (ρ:Rho) (μ:jL):Prop:=
 ∃ (ps:PL) (PS:List PL) (x5 x6 x7 x8 x9 x10:OP),ρ=[some S,some (jm u e l b),some (.int (r:Int)),some (jz rw),some (jz a),x5,x6,x7,x8,x9,x10]/\μ a=some (ze (jm u e l b) (jo ps) p)/\μ p=some (.lst (PS.map jo))/\
  μ rw=some (.lst (PS.map jo++[jo ps]))/\okS u l ps=true/\ps.length=r/\(∀ q ∈ PS,okS u l q=true/\q.length=r)/\PS.length<=k
theorem QM (ps:PL):noL (jo ps)=true:=amA ps
theorem amB (H:za=true) (h:okN u e l b=true) {ns:List Int} (hn:ns.length<1000000) {r k:Nat} (hr:1<=r) (hk:k<8) {a p rw:Addr} (n1:a ≠ p) (n2:a ≠ rw) (n3:p ≠ rw) {ρ:Rho}{μ:jL}{R:OutC->jL->Prop} (hi:LI (scr ns) u e l b r a p rw k ρ μ) (kk:∀ ρ' μ',LI (scr ns) u e l b r a p rw (k+1) ρ' μ'->R (.nx ρ') μ'):∃ ρ1,jO 5 (.int (k:Int)) ρ=some ρ1/\al5.1 ρ1 μ R:=by
 obtain ⟨ps,PS,x5,x6,x7,x8,x9,x10,rfl,ha,hp,hw,ok,len,hPS,hlen⟩:=hi
 refine ⟨[some (scr ns),some (jm u e l b),some (.int (r:Int)),some (jz rw),some (jz a),some (.int (k:Int)),x6,x7,x8,x9,x10],rfl,?_⟩
 obtain ⟨k1,d1,p1,q1⟩:=ql ns hn (20+10*(k:Int)) 7 (by omega) (by omega)
 obtain ⟨wv,i1,m1⟩:=abN (ds:=[.int 0,.int 1,.int 1,.int 2,.int 3,.int 3,.int 4]) p1 q1 (by decide)
 have hwv:∃ w:Int,wv= .int w/\(w=0 ∨ w=1 ∨ w=2 ∨ w=3 ∨ w=4):=by
  simp only [List.mem_cons,List.not_mem_nil,or_false] at m1
  rcases m1 with rfl | rfl | rfl | rfl | rfl | rfl | rfl <;> exact ⟨_,rfl,by omega⟩
 obtain ⟨w,rfl,hw5⟩:=hwv
 obtain ⟨k2,d2,p2,q2⟩:=ql ns hn (20+10*(k:Int)+2) 3 (by omega) (by omega)
 obtain ⟨mv2,i2,m2⟩:=abN (ds:=[.int 10,.int 100,.int 2000]) p2 q2 (by decide)
 have hm2:∃ z:Int,mv2= .int z/\0<z:=by
  simp only [List.mem_cons,List.not_mem_nil,or_false] at m2
  rcases m2 with rfl | rfl | rfl <;> exact ⟨_,rfl,by omega⟩
 obtain ⟨z2,rfl,hz2⟩:=hm2
 obtain ⟨x,d3,p3,q3⟩:=ql ns hn (20+10*(k:Int)+1) z2 (by omega) hz2
 simp only [al5]
 have e1:op2 zV (cst (.int 20)) (op2 Ze (cst (.int 10)) (lkp 5)) [some (scr ns),some (jm u e l b),some (.int (r:Int)),some (jz rw),some (jz a),some (.int (k:Int)),x6,x7,x8,x9,x10]=some (.int (20+10*(k:Int))):=j2 rfl (j2 rfl rfl (arq ⟨by omega,by omega⟩)) (add_int _ _)
 generalize hhh:20+10*(k:Int)=hh at*
 have hh0:0<=hh:=by omega
 refine aa8 (ρ1:=[some (scr ns),some (jm u e l b),some (.int (r:Int)),some (jz rw),some (jz a),some (.int (k:Int)),some (.int hh),x7,x8,x9,x10]) (JW (i:=6) e1) ?_
 refine aa8 (ρ1:=[some (scr ns),some (jm u e l b),some (.int (r:Int)),some (jz rw),some (jz a),some (.int (k:Int)),some (.int hh),some (.int w),x8,x9,x10]) (JW (i:=7) (j2 rfl (qe rfl d1) i1)) ?_
 refine aa8 (ρ1:=[some (scr ns),some (jm u e l b),some (.int (r:Int)),some (jz rw),some (jz a),some (.int (k:Int)),some (.int hh),some (.int w),some (.int x),x9,x10]) (JW (i:=8) (qe (jI rfl (jI (j2 rfl rfl (add_int _ _)) (jI (j2 rfl (qe (jI rfl (jI (j2 rfl rfl (add_int _ _)) rfl)) d2) i2) rfl))) d3)) ?_
 obtain ⟨d4,y9,f4,nd4,mv4⟩:=st4 (M:=jm u e l b) (r:=r) (w:=w) (hh:=hh) (x3:=some (jz rw)) (x4:=some (jz a)) (x5:=some (.int (k:Int))) (x9:=x9) (x10:=x10) hn hr hh0 (x:=x)
 refine aa8 f4 ?_
 obtain ⟨d,f5,nd,mvd⟩:=st5 (M:=jm u e l b) (r:=r) (w:=w) (hh:=hh) (x3:=some (jz rw)) (x4:=some (jz a)) (x5:=some (.int (k:Int))) (x9:=y9) (x10:=x10) hn hh0 nd4 mv4
 refine aa8 f5 ?_
 have shs:∀ qs:PL,dNe (jo qs) (jo qs)=some (.bool false):=fun qs=>aei (ai4 qs) (by omega)
 have hl:PS.length<900:=by omega
 have il:dIx (.list (PS.map jo++[jo ps])) (.int (-1))=some (jo ps):=acC (by rw [List.length_map]; omega)
 have val_n:∀ {qs:PL},okS u l qs=true->Qv [jm u e l b,jo qs]=some (.int (val b e qs))/\ZX [jm u e l b,jo qs]=some (.int (val b e qs)):=fun {qs} ok=>by
  obtain ⟨k1,k4,kq⟩:=qz ok
  exact ⟨Q1 h k4 kq,ah5 h qs⟩
 have nei:∀ n:Int,dNe (.int n) (.int n)=some (.bool false):=fun n=>by rw [afx,decide_eq_true rfl]; rfl
 by_cases h4:w=4
 ·subst h4
  refine amr (zv (i:=4) rfl rfl) ?_
  refine aab (aa8 (ρ1:=[some (scr ns),some (jm u e l b),some (.int (r:Int)),some (jz rw),some (jz a),some (.int (k:Int)),some (.int hh),some (.int 4),some d,y9,some (rfd 5)]) (JW (i:=10) rfl) ?_)
  refine aab ?_
  rcases List.eq_nil_or_concat PS with rfl | ⟨PS',q,rfl⟩
  ·refine aql (l:=rw) rfl hw (ado (j2 (qe rfl rfl) rfl rfl)) ?_
   refine ab2 (ab2 ?_)
   refine afF (ai6 (s:=jo ps) (rs:=[]) (row:=[]) (μ2:=μ) (p:=p) (M:=jm u e l b) (fun R r=>aqe ha (fun R' r'=>akf ha hp r') agP ab1 r) (aei (afB 5) (by omega)) ha hp hw rfl (by show 0<900; omega) (QM ps) (shs ps) ?_)
   refine afF (ai7 (s:=jo ps) (rs:=[]) ha hw (by show 0<900; omega) (val_n ok).1 (val_n ok).2 ?_)
   exact kk _ _ ⟨ps,[],_,_,_,_,_,_,rfl,ha,hp,hw,ok,len,hPS,Nat.zero_le _⟩
  ·simp only [List.concat_eq_append] at*
   obtain ⟨okq,lenq⟩:=hPS q (by simp)
   have hln:PS'.length+1<=k:=by rw [List.length_append] at hlen; exact hlen
   rw [List.map_append,List.map_singleton] at hp hw
   have gt:Jd (fun i j=>decide (j<i)) (.int ((PS'.map jo++[jo q]++[jo ps]).length:Int)) (.int 1)=some (.bool true):=by
    show some (PyData.bool (decide ((1:Int)<_)))=_
    rw [decide_eq_true (by simp only [List.length_append,List.length_map,List.length_cons,List.length_nil]; omega)]
   refine aoo (l:=rw) rfl hw (ado (j2 (qe rfl rfl) rfl gt)) ?_
   refine aab (aqk (l:=rw) rfl hw ?_)
   have hw1:zD μ rw (.lst (PS'.map jo++[jo q])) rw=some (.lst (PS'.map jo++[jo q])):=jY
   have ha1:zD μ rw (.lst (PS'.map jo++[jo q])) a=some (ze (jm u e l b) (jo ps) p):=by rw [j7 n2]; exact ha
   have hp1:zD μ rw (.lst (PS'.map jo++[jo q])) p=some (.lst (PS'.map jo++[jo q])):=by rw [j7 n3]; exact hp
   generalize zD μ rw (.lst (PS'.map jo++[jo q]))=μ1 at*
   have ilq:dIx (.list (PS'.map jo++[jo q])) (.int (-1))=some (jo q):=acC (by rw [List.length_map]; omega)
   refine aab (afG (l:=rw) rfl hw1 (qe (jI rfl (jI (j2 rfl rfl ilq) rfl)) (val_n okq).2) rfl ?_)
   refine ab2 (ab2 ?_)
   have hw2:zb μ1 a p (jm u e l b) (jo q) (PS'.map jo) rw=some (.lst (PS'.map jo++[jo q])):=by unfold zb; rw [j7 (Ne.symm n2),j7 (Ne.symm n3)]; exact hw1
   have hp2:zb μ1 a p (jm u e l b) (jo q) (PS'.map jo) p=some (.lst (PS'.map jo)):=by unfold zb; rw [j7 (Ne.symm n1)]; exact jY
   have ha2:zb μ1 a p (jm u e l b) (jo q) (PS'.map jo) a=some (ze (jm u e l b) (jo q) p):=jY
   refine afF (ai6 (s:=jo q) (rs:=PS'.map jo) (row:=PS'.map jo) (p:=p) (M:=jm u e l b) (μ2:=zb μ1 a p (jm u e l b) (jo q) (PS'.map jo)) (fun R r=>arC ha1 (fun R' r'=>m_undo n1 ha1 hp1 (val_n okq).1 r') r) (nei _) ha2 hp2 hw2 rfl (by rw [List.length_map]; omega) (QM q) (shs q) ?_)
   refine afF (ai7 (s:=jo q) (rs:=PS'.map jo) ha2 hw2 (by rw [List.length_map]; omega) (val_n okq).1 (val_n okq).2 ?_)
   exact kk _ _ ⟨q,PS',_,_,_,_,_,_,rfl,ha2,hp2,hw2,okq,lenq,fun x hx=>hPS x (by simp [hx]),by omega⟩
 ·refine aoP (zv (i:=w) rfl (decide_eq_false h4)) ?_
  have act:amy u e l b ps w d:=by
   rcases hw5 with rfl | rfl | rfl | rfl | rfl
   ·exact arI H h ok nd
   ·exact arJ H h ok nd
   ·exact arK H h ok nd
   ·exact arL H h ok (by rw [len]; exact mvd rfl)
   ·exact absurd rfl h4
  rcases act with ⟨qs,okq,lenq,hnx,told⟩ | ⟨i,hnx,told⟩
  ·refine aab (afG (l:=rw) rfl hw (qe (jI rfl (jI (j2 rfl rfl il) rfl)) hnx) (QM qs) ?_)
   refine aab ?_
   obtain ⟨q0,qr,hq⟩:∃ q0 qr,qs=q0::qr:=by
    cases qs with
    | nil=>simp [okS] at okq
    | cons q0 qr=>exact ⟨q0,qr,rfl⟩
   have i0:dIx (jo qs) (.int 0)=some (pr q0):=by subst hq; exact aop (qz okq).2.1
   have nrf:dNe (pr q0) (.str "refused")=some (.bool true):=arO q0
   refine amr (ado (j2 (j2 rfl rfl i0) rfl nrf)) ?_
   refine aab (aqj (l:=rw) rfl hw rfl (by rw [List.length_append,List.length_map]; show PS.length+1<1000000; omega) ?_)
   have hw1:zD μ rw (.lst (PS.map jo++[jo ps]++[jo qs])) rw=some (.lst (PS.map jo++[jo ps]++[jo qs])):=jY
   have ha1:zD μ rw (.lst (PS.map jo++[jo ps]++[jo qs])) a=some (ze (jm u e l b) (jo ps) p):=by rw [j7 n2]; exact ha
   have hp1:zD μ rw (.lst (PS.map jo++[jo ps]++[jo qs])) p=some (.lst (PS.map jo)):=by rw [j7 n3]; exact hp
   generalize zD μ rw (.lst (PS.map jo++[jo ps]++[jo qs]))=μ1 at*
   refine aab (aa8 (ρ1:=[some (scr ns),some (jm u e l b),some (.int (r:Int)),some (jz rw),some (jz a),some (.int (k:Int)),some (.int hh),some (.int w),some d,y9,some (.int (val b e qs))]) (JW (i:=10) (qe rfl (val_n okq).2)) ?_)
   refine ab2 (ab2 ?_)
   have hw2:zb μ1 a p (jm u e l b) (jo qs) (PS.map jo++[jo ps]) rw=some (.lst (PS.map jo++[jo ps]++[jo qs])):=by unfold zb; rw [j7 (Ne.symm n2),j7 (Ne.symm n3)]; exact hw1
   have hp2:zb μ1 a p (jm u e l b) (jo qs) (PS.map jo++[jo ps]) p=some (.lst (PS.map jo++[jo ps])):=by unfold zb; rw [j7 (Ne.symm n1)]; exact jY
   have ha2:zb μ1 a p (jm u e l b) (jo qs) (PS.map jo++[jo ps]) a=some (ze (jm u e l b) (jo qs) p):=jY
   have hl2:(PS.map jo++[jo ps]).length<900:=by rw [List.length_append,List.length_map]; show PS.length+1<900; omega
   refine afF (ai6 (s:=jo qs) (rs:=PS.map jo++[jo ps]) (row:=PS.map jo++[jo ps]) (p:=p) (M:=jm u e l b) (μ2:=zb μ1 a p (jm u e l b) (jo qs) (PS.map jo++[jo ps])) (fun R r=>told a p μ1 _ R n1 ha1 hp1 (by rw [List.length_map]; omega) r) (nei _) ha2 hp2 hw2 rfl hl2 (QM qs) (shs qs) ?_)
   refine afF (ai7 (s:=jo qs) (rs:=PS.map jo++[jo ps]) ha2 hw2 hl2 (val_n okq).1 (val_n okq).2 ?_)
   exact kk _ _ ⟨qs,PS++[ps],_,_,_,_,_,_,rfl,ha2,by rw [List.map_append]; exact hp2,by rw [List.map_append]; exact hw2,okq,lenq.trans len,fun x hx=>(List.mem_append.mp hx).elim (hPS x) (fun z=>by rw [List.mem_singleton.mp z]; exact ⟨ok,len⟩),by rw [List.length_append]; show PS.length+1<=k+1; omega⟩
  ·refine aab (afG (l:=rw) rfl hw (qe (jI rfl (jI (j2 rfl rfl il) rfl)) hnx) rfl ?_)
   refine aab ?_
   refine aoP (ado (j2 (j2 rfl rfl rfl) rfl aqm)) ?_
   refine ab2 (ab2 ?_)
   refine afF (ai6 (s:=jo ps) (rs:=PS.map jo) (row:=PS.map jo) (p:=p) (M:=jm u e l b) (μ2:=μ) (fun R r=>told a p μ R ha r) (aei (afB i) (by omega)) ha hp hw rfl (by rw [List.length_map]; omega) (QM ps) (shs ps) ?_)
   refine afF (ai7 (s:=jo ps) (rs:=PS.map jo) ha hw (by rw [List.length_map]; omega) (val_n ok).1 (val_n ok).2 ?_)
   exact kk _ _ ⟨ps,PS,_,_,_,_,_,_,rfl,ha,hp,hw,ok,len,hPS,by omega⟩
end
section
variable {u e l b:Int}
theorem ag1 (b:Int):∀ r:Nat,dgl b r 0=List.replicate r 0
 | 0=>rfl
 | 1=>rfl
 | k+2=>by rw [Zx,Int.zero_ediv,Int.zero_emod,ag1 b (k+1),←List.replicate_succ']
theorem amC (H:za=true) (h:okN u e l b=true) (r:Nat):pln (jm u e l b) b r 0=List.replicate r (0,0):=by
 unfold pln
 rw [ag1,List.map_replicate,asr H h]; rfl
theorem aoq (ns:List Int):zl [scr ns]=some (.int (ns.length:Int)):=by
 show (if Je _=true then some (PyData.int _) else none)=_
 rw [abj,if_pos rfl,List.length_map]
theorem aor {x r:PyData} (u e l:Int):zi [.tuple [.int u,.int e,.int l],r,x]=some ("NoManner":Str):=by
 have hM:qH [.tuple [.int u,.int e,.int l]]=some (.bool false):=rfl
 obtain ⟨a1,a2⟩:=aol (r:=r) (n:=x) (aj6 hM) (aj7 hM)
 exact (amt a1 a2).2
theorem aos (H:za=true) (h:okN u e l b=true) {x d:PyData} (hd:noD d=true) (w4:whB 1 4 d=false):zi [jm u e l b,d,x]=some ("NoNumber":Str):=by
 obtain ⟨rn,tn⟩:=aoe hd w4
 obtain ⟨s1,s2⟩:=aom (n:=x) (Jn (adA H h)) (Z1 (adA H h)) rn tn
 exact (amt s1 s2).2
theorem amD (H:za=true) (h:okN u e l b=true) {ns:List Int} (hn:ns.length<1000000) {r:Nat} (h1:1<=r) (h4:r<=4) {S OD:PyData}{k11:Int} (hS:S=scr ns) (mn:ZN [S,.int 0]=some (jm u e l b)) (d10:zM [S,.int 10,.int 4]=some (.int ((r:Int) - 1)))
  (d11:zM [S,.int 11,.int 4]=some (.int k11)) (i11:dIx (.list [.int 0,.int 5,.none,.bool true]) (.int k11)=some OD) (ho:noD OD=true/\whB 1 4 OD=false) {R:Res PyData->jL->Prop} (hR:∀ μ,R (.ok (.bool true)) μ):al6 [S] (fun _=>none) R:=by
 obtain ⟨a1,a2,a3,a4,a5,a6,a7,a8,a9,a10⟩:=qE h
 have s0:=amv H h h1 h4
 have v0:=aiQ H h r 0 h1 (Int.le_refl _) (Int.pow_pos (by omega))
 have okp:=ah2 H h h1 h4 (Int.le_refl _) (Int.pow_pos (show (0:Int)<b by omega))
 have lenp:=acA (jm u e l b) b r 0
 have rp:aiA (.tuple [.tuple [.int 0,.int 0]]) (.int (r:Int))=some (jo (pln (jm u e l b) b r 0)):=by
  rw [amC H h]
  have:r=1 ∨ r=2 ∨ r=3 ∨ r=4:=by omega
  rcases this with rfl | rfl | rfl | rfl <;> rfl
 obtain ⟨k1,k4,kk⟩:=qz okp
 have gn:=Q1 h k4 kk
 rw [v0] at gn
 have nes:=aei (ai4 (pln (jm u e l b) b r 0)) (by omega)
 have nl:=QM (pln (jm u e l b) b r 0)
 generalize hps:pln (jm u e l b) b r 0=ps at*
 have ad:zV (.int 1) (.int ((r:Int) - 1))=some (.int (r:Int)):=by
  show some (PyData.int (1+((r:Int) - 1)))=_
  congr 2; omega
 have sl:∀ i ρ,lkp i ρ=some (jm u e l b)->abU (lkp i) (cst (.int 3)) ρ=some (.tuple [.int u,.int e,.int l]):=fun i ρ hi=>by
  unfold abU; rw [hi]; rfl
 show an8.1 [some S,none,none,none,none,none,none,none,none,none,none] (fun _=>none) (aaN R)
 simp only [an8]
 refine aa8 (ρ1:=[some S,some (jm u e l b),none,none,none,none,none,none,none,none,none]) (JW (i:=1) (qe rfl mn)) ?_
 refine aa8 (ρ1:=[some S,some (jm u e l b),some (.int (r:Int)),none,none,none,none,none,none,none,none]) (JW (i:=2) (j2 rfl (qe rfl d10) ad)) ?_
 have ls:zB (jj (op2 aiA (cst (.tuple [.tuple [.int 0,.int 0]])) (lkp 2)) jv) [some S,some (jm u e l b),some (.int (r:Int)),none,none,none,none,none,none,none,none]=some (.list [jo ps]):=by
  unfold zB
  rw [jI (j2 rfl rfl rp) rfl,zzD,if_pos fw1]
 refine ⟨[jo ps],ls,fun rw hrw=>?_⟩
 have hw1:zD (fun _=>none) rw (.lst [jo ps]) rw=some (.lst [jo ps]):=jY
 generalize zD (fun _=>none) rw (.lst [jo ps])=μ1 at*
 refine ⟨jm u e l b,rfl,.int (r:Int),rfl,_,rfl,_,rfl,_,rfl,ai5 s0 fun a p μ2 n1 na np hx ha hp=>?_⟩
 have n2:a ≠ rw:=fun z=>by subst z; rw [na] at hw1; cases hw1
 have n3:p ≠ rw:=fun z=>by subst z; rw [np] at hw1; cases hw1
 have hw2:=hx _ _ hw1
 refine ⟨jm u e l b,rfl,.int (r:Int),rfl,_,rfl,_,rfl,_,rfl,rfl,amz s0 fun μ3 hx3=>?_⟩
 have hw3:=hx3 _ _ hw2
 have ha3:=hx3 _ _ ha
 have hp3:=hx3 _ _ hp
 refine ⟨rw,_,jo ps,rfl,hw3,j2 rfl rfl rfl,nl,.bool false,nes,false,rfl,?_⟩
 refine ⟨jz a,rfl,⟨a,_,rfl,ha3,rfl⟩,_,rfl,rfl,m_value ha3 gn ?_⟩
 refine ⟨.int 0,rfl,.bool false,(by rw [afx]; rfl),false,rfl,?_⟩
 refine ⟨.tuple [.int u,.int e,.int l],sl 1 _ rfl,.int (r:Int),rfl,_,rfl,_,rfl,_,rfl,rfl,agZ (aor u e l) afD aa9 fun μ4 hx4=>?_⟩
 refine ⟨rfd 0,rfl,.bool false,aei (afB 0) (by omega),false,rfl,?_⟩
 have hw4:=hx4 _ _ hw3
 have ha4:=hx4 _ _ ha3
 have hp4:=hx4 _ _ hp3
 refine ⟨jm u e l b,rfl,OD,j2 rfl (qe rfl d11) i11,_,rfl,_,rfl,_,rfl,rfl,agZ (aos H h ho.1 ho.2) JJ aba fun μ5 hx5=>?_⟩
 refine ⟨rfd 2,rfl,.bool false,aei (afB 2) (by omega),false,rfl,?_⟩
 have hw5:=hx5 _ _ hw4
 have ha5:=hx5 _ _ ha4
 have hp5:=hx5 _ _ hp4
 obtain ⟨K,hK,K1,K8⟩:∃ K:Int,(fun ρ=>(jj (jB afX (jj (cst (.int 1)) (jj (jB afY (jj (cst (.int 8)) (jj (jB zl (jj (lkp 0) jv)) jv))) jv))) jv ρ).bind ahq) [some S,some (jm u e l b),some (.int (r:Int)),some (jz rw),some (jz a),none,none,none,none,none,none]=some (aav 0 K.toNat)/\1<=K/\K<=8:=by
  have e1:zl [S]=some (.int (ns.length:Int)):=by rw [hS]; exact aoq ns
  have e2:afY [.int 8,.int (ns.length:Int)]=some (.int (if (ns.length:Int)<8 then (ns.length:Int) else 8)):=rfl
  generalize hq:(if (ns.length:Int)<8 then (ns.length:Int) else 8)=q at*
  have hq':0<=q/\q<=8:=by rw [←hq]; split <;> omega
  have e3:afX [.int 1,.int q]=some (.int (if q > 1 then q else 1)):=rfl
  generalize hz:(if q > 1 then q else 1)=z at*
  have hz':1<=z/\z<=8:=by rw [←hz]; split <;> omega
  refine ⟨z,?_,hz'⟩
  show (jj _ jv _).bind ahq=_
  rw [jI (qe (jI rfl (jI (qe (jI rfl (jI (qe rfl e1) rfl)) e2) rfl)) e3) rfl,zzD]
  exact aiP (by omega) (by omega)
 refine afF ⟨_,hK,?_⟩
 refine aeh (LI S u e l b r a p rw) (aav 0 K.toNat) 0 _ μ5 ⟨ps,[],_,_,_,_,_,_,rfl,ha5,hp5,hw5,okp,lenp,(fun q hq=>nomatch hq),Nat.le_refl _⟩ (fun i d ρ μ R' hd hi kk=>?_) fun ρ' μ' hi=>?_
 ·obtain ⟨hj,rfl⟩:=amh hd
  rw [Nat.zero_add] at hi
  subst hS
  have:=amB H h hn h1 (show i<8 by omega) n1 n2 n3 hi (fun ρ' μ' z=>kk ρ' μ' (by rw [Nat.zero_add]; exact z))
  exact this
 ·exact ap9 rfl (hR μ')
theorem akm (H:za=true) (ns:List Int) (hn:ns.length<1000000):al6 [scr ns] (fun _=>none) (fun o _=>o= .ok (.bool true)):=by
 obtain ⟨u,e,l,b,mn,hm⟩:=ah1 ns hn 0 (Int.le_refl _)
 have h:=aoa hm
 obtain ⟨k10,d10,p10,q10⟩:=ql ns hn 10 4 (by omega) (by omega)
 obtain ⟨k11,d11,p11,q11⟩:=ql ns hn 11 4 (by omega) (by omega)
 obtain ⟨OD,i11,mo⟩:=abN (ds:=[.int 0,.int 5,.none,.bool true]) p11 q11 (by decide)
 have ho:noD OD=true/\whB 1 4 OD=false:=by
  simp only [List.mem_cons,List.not_mem_nil,or_false] at mo
  rcases mo with rfl | rfl | rfl | rfl <;> exact ⟨rfl,rfl⟩
 exact amD (r:=(k10+1).toNat) H h hn (by omega) (by omega) rfl mn (by rw [show (((k10+1).toNat:Nat):Int) - 1=k10 by omega]; exact d10) d11 i11 ho fun _=>rfl
end
end Rods
end
section
namespace BX
open PySem L2
open PyProof.Rows hiding St
theorem jU.thr {P:Program}{w:World}{K:Fg}{mg:SV}{base h:Heap}{x:Str}{st:Stmt}{ps:List Str}{k n:Nat}{g:LP->Option Str} (T:jU K x st) (X:K.In h) (G:h.Ns mainGlobals mg)
  (pa:ju x st ps) (ok:∀ f fd,Fun K x x st f fd->FnOk P w K mg base (CXt P w) k f fd ps (af8 K mg n g)):qC P w K mg base x ps k n g:=by
 obtain ⟨f,oc,od,an,kV,doc,pm,Kc,ct,osl,a,l,c,kp⟩:=T
 have F1:=aaf (st:=st) l c kp
 exact ⟨f,_,ok f _ F1,PySem.W.mg_of X G a,kp,F1.binds pa⟩
theorem jU.hdl {P:Program}{w:World}{K:Fg}{mg:SV}{base h:Heap}{x:Str}{st:Stmt}{ps:List Str}{k n:Nat}{g:LP->OP} (T:jU K x st) (X:K.In h) (G:h.Ns mainGlobals mg)
  (pa:ju x st ps) (ok:∀ f fd,Fun K x x st f fd->FnH P w K mg base k f fd ps (Pur K n g)):ZA P w K mg base x ps k n g:=by
 obtain ⟨f,oc,od,an,kV,doc,pm,Kc,ct,osl,a,l,c,kp⟩:=T
 have F1:=aaf (st:=st) l c kp
 exact ⟨f,_,ok f _ F1,PySem.W.mg_of X G a,kp,F1.binds pa⟩
end BX
namespace Rods
open PySem L2 BX
open PyProof.Rows hiding St
structure Tops (K:Fg):Prop where
 isWhole:jU K "is_whole" aaO
 rodWorth:jU K "rod_worth" ZD
 beads:jU K "beads" aeX
 allRods:jU K "all_rods" aaP
 hasAll:jU K "has_all_digits" ZE
 isManner:jU K "is_manner" ZF
 check:jU K "check_manner" ac7
 rodsWith:jU K "rods_with" QH
 fewest:jU K "fewest_beads" ach
 chkRods:jU K "check_rods" J9
 chkNum:jU K "check_number" Ja
 asked:jU K "check_asked" Jv
 num:jU K "number_on" JM
 digits:jU K "digits_by_rods" ZJ
 plainR:jU K "plain_rods" ZI
 plainS:jU K "plain_setting" aaT
 isRod:jU K "is_rod" ae3
 isSet:jU K "is_setting" Jl
 chkSet:jU K "check_setting" zF
 cell:jU K "_law_cell" aiI
 drawn:jU K "_law_drawn" ae5
 manner:jU K "_law_manner" acj
 enough:jU K "check_enough" aaV
 less:jU K "less" agA
 beh:jU K "behind_changes" ZO
 DA:jU K "digit_added" sDA
 cbd:jU K "changes_by_digits" ahM
 chA:jU K "changes_adding" alU
 adding:jU K "adding" aaW
 added:jU K "added" adb
 NamesBeads:jU K "names_beads" Qj
 Pushed:jU K "pushed" acl
 CanMove:jU K "can_move" aa1
 BehindMove:jU K "behind_move" Qk
 Moved:jU K "moved" ade
 LValue:jU K "_law_value" ZW
 LRefused:jU K "_law_refused" JO
 LNext:jU K "_law_next" abJ
 LTold:jU K "_law_told" afp
 LBegun:jU K "_law_begun" acu
 law:jU K "law" ah0
 MInit:JZ K "Hand" "__init__" "Hand.__init__" afd
 MSetting:JZ K "Hand" "setting" "Hand.setting" ZV
 MValue:JZ K "Hand" "value" "Hand.value" acq
 MGoOn:JZ K "Hand" "go_on" "Hand.go_on" afh
 MLay:JZ K "Hand" "lay" "Hand.lay" aiL
 MAdd:JZ K "Hand" "add" "Hand.add" aiN
 MTake:JZ K "Hand" "take" "Hand.take" afi
 MPush:JZ K "Hand" "push" "Hand.push" afk
 MUndo:JZ K "Hand" "undo" "Hand.undo" afm
 MMany:JZ K "Hand" "many" "Hand.many" afo
 cls:ajR K "Hand"
 fd_manner:ajS K "Hand" "manner"
 fd_now:ajS K "Hand" "now"
 fd_past:ajS K "Hand" "past"
structure Consts (K:Fg) (mg:SV):Prop where
 b:Bare mg
 least:GC K mg "LEAST_PARTS" (.tuple [.int 0,.int 1,.int 0,.int 2])
 most:GC K mg "MOST_PARTS" (.tuple [.int 3,.int 16,.int 12,.int 16])
 mostRods:GC K mg "MOST_RODS" (.int 4)
 mostNumber:GC K mg "MOST_NUMBER" (.int 99999)
 decks:GC K mg "DECKS" (.tuple [.str "upper",.str "lower"])
 errT:ErrT K mg "BeadError" jX
theorem aib:ju "is_whole" aaO ["thing","least","most"]:=fun _ _ _ _ _ _ us hl=>by obtain ⟨v0,v1,v2,rfl⟩:=Z3 us hl; rfl
theorem ag2:ju "rod_worth" ZD ["manner","rod"]:=fun _ _ _ _ _ _ us hl=>by obtain ⟨v0,v1,rfl⟩:=aae us hl; rfl
theorem amE:ju "beads" aeX ["rod"]:=fun _ _ _ _ _ _ us hl=>by obtain ⟨v0,rfl⟩:=aeu us hl; rfl
theorem aic:ju "all_rods" aaP ["manner"]:=fun _ _ _ _ _ _ us hl=>by obtain ⟨v0,rfl⟩:=aeu us hl; rfl
theorem akn:ju "has_all_digits" ZE ["manner"]:=fun _ _ _ _ _ _ us hl=>by obtain ⟨v0,rfl⟩:=aeu us hl; rfl
theorem ag3:ju "is_manner" ZF ["thing"]:=fun _ _ _ _ _ _ us hl=>by obtain ⟨v0,rfl⟩:=aeu us hl; rfl
theorem ag4:ju "check_manner" ac7 ["thing"]:=fun _ _ _ _ _ _ us hl=>by obtain ⟨v0,rfl⟩:=aeu us hl; rfl
theorem ag5:ju "rods_with" QH ["manner","worth"]:=fun _ _ _ _ _ _ us hl=>by obtain ⟨v0,v1,rfl⟩:=aae us hl; rfl
theorem ako:ju "fewest_beads" ach ["manner","worth"]:=fun _ _ _ _ _ _ us hl=>by obtain ⟨v0,v1,rfl⟩:=aae us hl; rfl
theorem adq:ju "check_rods" J9 ["rods"]:=fun _ _ _ _ _ _ us hl=>by obtain ⟨v0,rfl⟩:=aeu us hl; rfl
theorem aej:ju "check_number" Ja ["number"]:=fun _ _ _ _ _ _ us hl=>by obtain ⟨v0,rfl⟩:=aeu us hl; rfl
theorem ag6:ju "check_asked" Jv ["manner","rods","number"]:=fun _ _ _ _ _ _ us hl=>by obtain ⟨v0,v1,v2,rfl⟩:=Z3 us hl; rfl
theorem aqn:ju "number_on" JM ["manner","setting"]:=fun _ _ _ _ _ _ us hl=>by obtain ⟨v0,v1,rfl⟩:=aae us hl; rfl
theorem akp:ju "digits_by_rods" ZJ ["base","rods","number"]:=fun _ _ _ _ _ _ us hl=>by obtain ⟨v0,v1,v2,rfl⟩:=Z3 us hl; rfl
theorem aek:ju "plain_rods" ZI ["manner","rods","number"]:=fun _ _ _ _ _ _ us hl=>by obtain ⟨v0,v1,v2,rfl⟩:=Z3 us hl; rfl
theorem ael:ju "plain_setting" aaT ["manner","rods","number"]:=fun _ _ _ _ _ _ us hl=>by obtain ⟨v0,v1,v2,rfl⟩:=Z3 us hl; rfl
theorem amF:ju "is_rod" ae3 ["manner","thing"]:=fun _ _ _ _ _ _ us hl=>by obtain ⟨v0,v1,rfl⟩:=aae us hl; rfl
theorem ag7:ju "is_setting" Jl ["manner","thing"]:=fun _ _ _ _ _ _ us hl=>by obtain ⟨v0,v1,rfl⟩:=aae us hl; rfl
theorem aem:ju "check_setting" zF ["manner","thing"]:=fun _ _ _ _ _ _ us hl=>by obtain ⟨v0,v1,rfl⟩:=aae us hl; rfl
theorem aot:ju "_law_cell" aiI ["_law_script","_law_k"]:=fun _ _ _ _ _ _ us hl=>by obtain ⟨v0,v1,rfl⟩:=aae us hl; rfl
theorem amG:ju "_law_drawn" ae5 ["_law_script","_law_k","_law_many"]:=fun _ _ _ _ _ _ us hl=>by obtain ⟨v0,v1,v2,rfl⟩:=Z3 us hl; rfl
theorem akq:ju "_law_manner" acj ["_law_script","_law_at"]:=fun _ _ _ _ _ _ us hl=>by obtain ⟨v0,v1,rfl⟩:=aae us hl; rfl
theorem aen:ju "check_enough" aaV ["manner","setting","number"]:=fun _ _ _ _ _ _ us hl=>by obtain ⟨v0,v1,v2,rfl⟩:=Z3 us hl; rfl
theorem ai8:ju "less" agA ["manner","setting","number"]:=fun _ _ _ _ _ _ us hl=>by obtain ⟨v0,v1,v2,rfl⟩:=Z3 us hl; rfl
theorem aqo:ju "behind_changes" ZO ["setting","changes"]:=fun _ _ _ _ _ _ us hl=>by obtain ⟨v0,v1,rfl⟩:=aae us hl; rfl
theorem ai9:ju "digit_added" sDA ["manner","setting","rod","digit"]:=fun _ _ _ _ _ _ us hl=>by obtain ⟨v0,v1,v2,v3,rfl⟩:=apf us hl; rfl
theorem amH:ju "changes_by_digits" ahM ["manner","setting","number","digit_changes"]:=fun _ _ _ _ _ _ us hl=>by obtain ⟨v0,v1,v2,v3,rfl⟩:=apf us hl; rfl
theorem amI:ju "changes_adding" alU ["manner","setting","number"]:=fun _ _ _ _ _ _ us hl=>by obtain ⟨v0,v1,v2,rfl⟩:=Z3 us hl; rfl
theorem aeo:ju "adding" aaW ["manner","setting","number"]:=fun _ _ _ _ _ _ us hl=>by obtain ⟨v0,v1,v2,rfl⟩:=Z3 us hl; rfl
theorem ag8:ju "added" adb ["manner","setting","number"]:=fun _ _ _ _ _ _ us hl=>by obtain ⟨v0,v1,v2,rfl⟩:=Z3 us hl; rfl
theorem adE:ju "names_beads" Qj ["setting","thing"]:=fun _ _ _ _ _ _ us hl=>by obtain ⟨v0,v1,rfl⟩:=aae us hl; rfl
theorem akr:ju "pushed" acl ["rod","deck","by"]:=fun _ _ _ _ _ _ us hl=>by obtain ⟨v0,v1,v2,rfl⟩:=Z3 us hl; rfl
theorem aid:ju "can_move" aa1 ["manner","setting","thing"]:=fun _ _ _ _ _ _ us hl=>by obtain ⟨v0,v1,v2,rfl⟩:=Z3 us hl; rfl
theorem adF:ju "behind_move" Qk ["setting","move"]:=fun _ _ _ _ _ _ us hl=>by obtain ⟨v0,v1,rfl⟩:=aae us hl; rfl
theorem ag9:ju "moved" ade ["manner","setting","move"]:=fun _ _ _ _ _ _ us hl=>by obtain ⟨v0,v1,v2,rfl⟩:=Z3 us hl; rfl
theorem aks:ju "_law_value" ZW ["_law_manner_here","_law_setting_here"]:=fun _ _ _ _ _ _ us hl=>by obtain ⟨v0,v1,rfl⟩:=aae us hl; rfl
theorem aha:ju "_law_refused" JO ["_law_e"]:=fun _ _ _ _ _ _ us hl=>by obtain ⟨v0,rfl⟩:=aeu us hl; rfl
theorem amJ:ju "_law_next" abJ ["_law_manner_here","_law_setting_here","_law_way","_law_thing"]:=fun _ _ _ _ _ _ us hl=>by obtain ⟨v0,v1,v2,v3,rfl⟩:=apf us hl; rfl
theorem amK:ju "_law_told" afp ["_law_hand","_law_way","_law_thing"]:=fun _ _ _ _ _ _ us hl=>by obtain ⟨v0,v1,v2,rfl⟩:=Z3 us hl; rfl
theorem akt:ju "_law_begun" acu ["_law_manner_here","_law_rods_here"]:=fun _ _ _ _ _ _ us hl=>by obtain ⟨v0,v1,rfl⟩:=aae us hl; rfl
theorem amL:qA "__init__" "Hand.__init__" afd ["self","manner","rods"]:=fun _ _ _ _ _ _ us hl=>match us,hl with | [_,_,_],_=>rfl
theorem ahb:qA "setting" "Hand.setting" ZV ["self"]:=fun _ _ _ _ _ _ us hl=>match us,hl with | [_],_=>rfl
theorem aku:qA "value" "Hand.value" acq ["self"]:=fun _ _ _ _ _ _ us hl=>match us,hl with | [_],_=>rfl
theorem amM:qA "go_on" "Hand.go_on" afh ["self","fresh"]:=fun _ _ _ _ _ _ us hl=>match us,hl with | [_,_],_=>rfl
theorem aou:qA "lay" "Hand.lay" aiL ["self","number"]:=fun _ _ _ _ _ _ us hl=>match us,hl with | [_,_],_=>rfl
theorem aov:qA "add" "Hand.add" aiN ["self","number"]:=fun _ _ _ _ _ _ us hl=>match us,hl with | [_,_],_=>rfl
theorem amN:qA "take" "Hand.take" afi ["self","number"]:=fun _ _ _ _ _ _ us hl=>match us,hl with | [_,_],_=>rfl
theorem amO:qA "push" "Hand.push" afk ["self","move"]:=fun _ _ _ _ _ _ us hl=>match us,hl with | [_,_],_=>rfl
theorem amP:qA "undo" "Hand.undo" afm ["self"]:=fun _ _ _ _ _ _ us hl=>match us,hl with | [_],_=>rfl
theorem amQ:qA "many" "Hand.many" afo ["self"]:=fun _ _ _ _ _ _ us hl=>match us,hl with | [_],_=>rfl
theorem asz (HT:za=true) {P:Program}{w:World}{K:Fg}{h:Heap}{mg:SV}{base:Heap} (X:K.In h) (G:h.Ns mainGlobals mg) (T:Tops K) (C:Consts K mg):CLaw P w K mg base:=by
 have f_manner:Jt K "Hand" "manner":=T.fd_manner.cls T.cls
 have f_now:Jt K "Hand" "now":=T.fd_now.cls T.cls
 have f_past:Jt K "Hand" "past":=T.fd_past.cls T.cls
 have c_isWhole:jl P w K mg base "is_whole" ["thing","least","most"] 1 3 jW:=T.isWhole.callee X G aib fun f fd F=>jN F ahH fun Kc A Ko s H E hr=>aaQ.2 P w K mg base f Kc A Ko s H E C.b hr
 have c_rodWorth:jl P w K mg base "rod_worth" ["manner","rod"] 1 2 qN:=T.rodWorth.callee X G ag2 fun f fd F=>jN F agr fun Kc A Ko s H E hr=>abx.2 P w K mg base f Kc A Ko s H E trivial hr
 have c_beads:jl P w K mg base "beads" ["rod"] 1 1 Jy:=T.beads.callee X G amE fun f fd F=>jN F alQ fun Kc A Ko s H E hr=>ahI.2 P w K mg base f Kc A Ko s H E trivial hr
 have c_allRods:jl P w K mg base "all_rods" ["manner"] 1 1 J1:=T.allRods.callee X G aic fun f fd F=>ahJ F C.b
 have c_hasAll:jl P w K mg base "has_all_digits" ["manner"] 2 1 aaR:=T.hasAll.callee X G akn fun f fd F=>jN F adZ fun Kc A Ko s H E hr=>aeY.2 P w K mg base f Kc A Ko s H E ⟨C.b,c_allRods,c_rodWorth⟩ hr
 have c_isManner:jl P w K mg base "is_manner" ["thing"] 3 1 qH:=T.isManner.callee X G ag3 fun f fd F=>jN F Qh fun Kc A Ko s H E hr=>aby.2 P w K mg base f Kc A Ko s H E ⟨C.b,C.least,C.most,c_isWhole,c_hasAll⟩ hr
 have c_check:jl P w K mg base "check_manner" ["thing"] 4 1 Jk:=T.check.callee X G ag4 fun f fd F=>jN F agv fun Kc A Ko s H E hr=>aeZ.2 P w K mg base f Kc A Ko s H E ⟨c_isManner⟩ hr
 have c_rodsWith:jl P w K mg base "rods_with" ["manner","worth"] 2 2 ZG:=T.rodsWith.callee X G ag5 fun f fd F=>jN F agw fun Kc A Ko s H E hr=>abz.2 P w K mg base f Kc A Ko s H E ⟨c_allRods,c_rodWorth⟩ hr
 have c_fewest:jl P w K mg base "fewest_beads" ["manner","worth"] 3 2 Qi:=T.fewest.callee X G ako fun f fd F=>jN F ajU fun Kc A Ko s H E hr=>ae0.2 P w K mg base f Kc A Ko s H E ⟨C.b,c_rodsWith,c_beads⟩ hr
 have c_chkRods:jl P w K mg base "check_rods" ["rods"] 2 1 zd:=T.chkRods.callee X G adq fun f fd F=>jN F ac8 fun Kc A Ko s H E hr=>Zl.2 P w K mg base f Kc A Ko s H E ⟨c_isWhole,C.mostRods⟩ hr
 have c_chkNum:jl P w K mg base "check_number" ["number"] 2 1 qo:=T.chkNum.callee X G aej fun f fd F=>jN F ad0 fun Kc A Ko s H E hr=>aaS.2 P w K mg base f Kc A Ko s H E ⟨c_isWhole,C.mostNumber⟩ hr
 have c_asked:jl P w K mg base "check_asked" ["manner","rods","number"] 5 3 zL:=T.asked.callee X G ag6 fun f fd F=>jN F agx fun Kc A Ko s H E hr=>abA.2 P w K mg base f Kc A Ko s H E ⟨c_check,c_chkRods,c_chkNum⟩ hr
 have c_num:jl P w K mg base "number_on" ["manner","setting"] 2 2 Qv:=T.num.callee X G aqn fun f fd F=>jN F ae1 fun Kc A Ko s H E hr=>anY.2 P w K mg base f Kc A Ko s H E ⟨c_rodWorth⟩ hr
 have c_digits:jl P w K mg base "digits_by_rods" ["base","rods","number"] 1 3 ab7:=T.digits.callee X G akp fun f fd F=>jN F ae4 fun Kc A Ko s H E hr=>an0.2 P w K mg base f Kc A Ko s H E C.b hr
 have c_plainR:jl P w K mg base "plain_rods" ["manner","rods","number"] 4 3 JG:=T.plainR.callee X G aek fun f fd F=>jN F ZL fun Kc A Ko s H E hr=>ZM.2 P w K mg base f Kc A Ko s H E ⟨C.b,c_digits,c_fewest⟩ hr
 have c_plainS:jl P w K mg base "plain_setting" ["manner","rods","number"] 6 3 qL:=T.plainS.callee X G ael fun f fd F=>jN F ad1 fun Kc A Ko s H E hr=>aaU.2 P w K mg base f Kc A Ko s H E ⟨c_asked,c_plainR⟩ hr
 have c_isRod:jl P w K mg base "is_rod" ["manner","thing"] 2 2 Qw:=T.isRod.callee X G amF fun f fd F=>jN F alT fun Kc A Ko s H E hr=>abB.2 P w K mg base f Kc A Ko s H E ⟨C.b,c_isWhole⟩ hr
 have c_isSet:jl P w K mg base "is_setting" ["manner","thing"] 5 2 ac9:=T.isSet.callee X G ag7 fun f fd F=>jN F agy fun Kc A Ko s H E hr=>abC.2 P w K mg base f Kc A Ko s H E ⟨C.b,c_check,c_isRod,C.mostRods⟩ hr
 have c_chkSet:jl P w K mg base "check_setting" ["manner","thing"] 6 2 qi:=T.chkSet.callee X G aem fun f fd F=>jN F ad2 fun Kc A Ko s H E hr=>aci.2 P w K mg base f Kc A Ko s H E ⟨c_isSet⟩ hr
 have c_cell:jl P w K mg base "_law_cell" ["_law_script","_law_k"] 1 2 agz:=T.cell.callee X G aot fun f fd F=>jN F an1 fun Kc A Ko s H E hr=>aiJ.2 P w K mg base f Kc A Ko s H E C.b hr
 have c_drawn:jl P w K mg base "_law_drawn" ["_law_script","_law_k","_law_many"] 2 3 zM:=T.drawn.callee X G amG fun f fd F=>jN F ada fun Kc A Ko s H E hr=>ahL.2 P w K mg base f Kc A Ko s H E ⟨c_cell⟩ hr
 have c_manner:jl P w K mg base "_law_manner" ["_law_script","_law_at"] 3 2 ZN:=T.manner.callee X G akq fun f fd F=>jN F Jm fun Kc A Ko s H E hr=>ack.2 P w K mg base f Kc A Ko s H E ⟨C.b,c_drawn⟩ hr
 have c_enough:jl P w K mg base "check_enough" ["manner","setting","number"] 3 3 aaX:=T.enough.callee X G aen fun f fd F=>jN F ad3 fun Kc A Ko s H E hr=>ZP.2 P w K mg base f Kc A Ko s H E ⟨c_num⟩ hr
 have c_less:jl P w K mg base "less" ["manner","setting","number"] 7 3 Q6:=T.less.callee X G ai8 fun f fd F=>jN F aiK fun Kc A Ko s H E hr=>aaY.2 P w K mg base f Kc A Ko s H E ⟨C.b,c_chkSet,c_chkNum,c_enough,c_plainR,c_num⟩ hr
 have g_less:GC K mg "less" (fnD "less"):=by
  obtain ⟨f,oc,od,an,kV,doc,pm,Kc,ct,osl,a,_⟩:=T.less
  exact ⟨.ref f,.ref f,PySem.W.mg_of X G a,rfl,fun H=>⟨f,rfl,.inr (.inr (.inl ⟨_,rfl,a⟩))⟩⟩
 have c_beh:jl P w K mg base "behind_changes" ["setting","changes"] 1 2 ahN:=T.beh.callee X G aqo fun f fd F=>jN F ae7 fun Kc A Ko s H E hr=>an3.2 P w K mg base f Kc A Ko s H E C.b hr
 have c_DA:∀ d:Nat,jl P w K mg base "digit_added" ["manner","setting","rod","digit"] (d+3) 4 (gDA d):=by
  intro d
  induction d with
  | zero=>exact T.DA.callee X G ai9 fun f fd F=>⟨fun vs H Q E h=>(by obtain ⟨ds,d,_,_,h,_⟩:=h; cases h),fun A Ko s H args us vs Q E _ _ _ _ h=>(by obtain ⟨ds,d,_,_,h,_⟩:=h; cases h)⟩
  | succ d ih=>exact T.DA.callee X G ai9 fun f fd F=>jN F agB fun Kc A Ko s H E hr=>(bDA (gDA d) d).2 P w K mg base f Kc A Ko s H E ⟨c_rodWorth,c_fewest,ih⟩ hr
 have x_DA:∀ d:Nat,qC P w K mg base "digit_added" ["manner","setting","rod","digit"] (d+3) 4 (tDA d):=by
  intro d
  induction d with
  | zero=>exact T.DA.thr X G ai9 fun f fd F=>⟨fun vs H Q E h=>(by obtain ⟨ds,d,_,_,h,_⟩:=h; cases h),fun A Ko s H args us vs Q E _ _ _ _ h=>(by obtain ⟨ds,d,_,_,h,_⟩:=h; cases h)⟩
  | succ d ih=>exact T.DA.thr X G ai9 fun f fd F=>zy F agB fun Kc A Ko s H E hr=>(xDA (gDA d) (tDA d) d).2 P w K mg base f Kc A Ko s H E ⟨⟨c_rodWorth,c_fewest,c_DA d⟩,(C.errT.err (by decide)),ih⟩ hr
 have g_DA:GC K mg "digit_added" (fnD "digit_added"):=by
  obtain ⟨f,oc,od,an,kV,doc,pm,Kc,ct,osl,a,_⟩:=T.DA
  exact ⟨.ref f,.ref f,PySem.W.mg_of X G a,rfl,fun H=>⟨f,rfl,.inr (.inr (.inl ⟨_,rfl,a⟩))⟩⟩
 have c_cbdA:jl P w K mg base "changes_by_digits" ["manner","setting","number","digit_changes"] 10 4 gCA:=T.cbd.callee X G amH fun f fd F=>jN F Jb fun Kc A Ko s H E hr=>(ajX "digit_added" (gDA 6)).2 P w K mg base f Kc A Ko s H E ⟨C.b,c_digits,c_beh,c_DA 6⟩ hr
 have x_cbdA:qC P w K mg base "changes_by_digits" ["manner","setting","number","digit_changes"] 10 4 tCA:=T.cbd.thr X G amH fun f fd F=>zy F Jb fun Kc A Ko s H E hr=>(ark "digit_added" (gDA 6) (tDA 6)).2 P w K mg base f Kc A Ko s H E ⟨⟨C.b,c_digits,c_beh,c_DA 6⟩,x_DA 6⟩ hr
 have c_chA:jl P w K mg base "changes_adding" ["manner","setting","number"] 11 3 agC:=T.chA.callee X G amI fun f fd F=>jN F alV fun Kc A Ko s H E hr=>ajY.2 P w K mg base f Kc A Ko s H E ⟨c_cbdA,g_DA⟩ hr
 have x_chA:qC P w K mg base "changes_adding" ["manner","setting","number"] 11 3 alW:=T.chA.thr X G amI fun f fd F=>zy F alV fun Kc A Ko s H E hr=>an4.2 P w K mg base f Kc A Ko s H E ⟨⟨c_cbdA,g_DA⟩,x_cbdA⟩ hr
 have c_adding:jl P w K mg base "adding" ["manner","setting","number"] 12 3 Jr:=T.adding.callee X G aeo fun f fd F=>jN F ad4 fun Kc A Ko s H E hr=>aaZ.2 P w K mg base f Kc A Ko s H E ⟨c_chkSet,c_chkNum,c_chA⟩ hr
 have c_added:jl P w K mg base "added" ["manner","setting","number"] 13 3 Qa:=T.added.callee X G ag8 fun f fd F=>jN F agD fun Kc A Ko s H E hr=>ae8.2 P w K mg base f Kc A Ko s H E ⟨c_adding,c_beh⟩ hr
 have g_added:GC K mg "added" (fnD "added"):=by
  obtain ⟨f,oc,od,an,kV,doc,pm,Kc,ct,osl,a,_⟩:=T.added
  exact ⟨.ref f,.ref f,PySem.W.mg_of X G a,rfl,fun H=>⟨f,rfl,.inr (.inr (.inl ⟨_,rfl,a⟩))⟩⟩
 have x_check:qC P w K mg base "check_manner" ["thing"] 4 1 Zo:=T.check.thr X G ag4 fun f fd F=>zy F agv fun Kc A Ko s H E hr=>abF.2 P w K mg base f Kc A Ko s H E ⟨c_isManner,(C.errT.err (by decide))⟩ hr
 have x_isSet:qC P w K mg base "is_setting" ["manner","thing"] 5 2 ahP:=T.isSet.thr X G ag7 fun f fd F=>zy F agy fun Kc A Ko s H E hr=>afa.2 P w K mg base f Kc A Ko s H E ⟨x_check⟩ hr
 have x_chkSet:qC P w K mg base "check_setting" ["manner","thing"] 6 2 zI:=T.chkSet.thr X G aem fun f fd F=>zy F ad2 fun Kc A Ko s H E hr=>acn.2 P w K mg base f Kc A Ko s H E ⟨c_isSet,x_isSet,(C.errT.err (by decide))⟩ hr
 have x_chkRods:qC P w K mg base "check_rods" ["rods"] 2 1 QK:=T.chkRods.thr X G adq fun f fd F=>zy F ac8 fun Kc A Ko s H E hr=>QJ.2 P w K mg base f Kc A Ko s H E ⟨c_isWhole,C.mostRods,(C.errT.err (by decide))⟩ hr
 have x_chkNum:qC P w K mg base "check_number" ["number"] 2 1 zJ:=T.chkNum.thr X G aej fun f fd F=>zy F ad0 fun Kc A Ko s H E hr=>ZQ.2 P w K mg base f Kc A Ko s H E ⟨c_isWhole,C.mostNumber,(C.errT.err (by decide))⟩ hr
 have x_asked:qC P w K mg base "check_asked" ["manner","rods","number"] 5 3 Zp:=T.asked.thr X G ag6 fun f fd F=>zy F agx fun Kc A Ko s H E hr=>Qx.2 P w K mg base f Kc A Ko s H E ⟨c_chkRods,c_check,x_check,x_chkRods,x_chkNum⟩ hr
 have x_plainR:qC P w K mg base "plain_rods" ["manner","rods","number"] 4 3 ZR:=T.plainR.thr X G aek fun f fd F=>zy F ZL fun Kc A Ko s H E hr=>aco.2 P w K mg base f Kc A Ko s H E ⟨c_digits,(C.errT.err (by decide))⟩ hr
 have x_plainS:qC P w K mg base "plain_setting" ["manner","rods","number"] 6 3 zi:=T.plainS.thr X G ael fun f fd F=>zy F ad1 fun Kc A Ko s H E hr=>ZS.2 P w K mg base f Kc A Ko s H E ⟨c_asked,x_asked,x_plainR⟩ hr
 have x_enough:qC P w K mg base "check_enough" ["manner","setting","number"] 3 3 acp:=T.enough.thr X G aen fun f fd F=>zy F ad3 fun Kc A Ko s H E hr=>ZT.2 P w K mg base f Kc A Ko s H E ⟨c_num,(C.errT.err (by decide))⟩ hr
 have x_adding:qC P w K mg base "adding" ["manner","setting","number"] 12 3 aa2:=T.adding.thr X G aeo fun f fd F=>zy F ad4 fun Kc A Ko s H E hr=>ZU.2 P w K mg base f Kc A Ko s H E ⟨c_chkNum,c_chkSet,x_chkSet,x_chkNum,x_chA⟩ hr
 have x_added:qC P w K mg base "added" ["manner","setting","number"] 13 3 aan:=T.added.thr X G ag8 fun f fd F=>zy F agD fun Kc A Ko s H E hr=>afb.2 P w K mg base f Kc A Ko s H E ⟨c_beh,x_adding⟩ hr
 have x_less:qC P w K mg base "less" ["manner","setting","number"] 7 3 aa3:=T.less.thr X G ai8 fun f fd F=>zy F aiK fun Kc A Ko s H E hr=>abW.2 P w K mg base f Kc A Ko s H E ⟨C.b,c_num,c_enough,c_chkNum,c_chkSet,x_chkSet,x_chkNum,x_enough,x_plainR⟩ hr
 have c_NamesBeads:jl P w K mg base "names_beads" ["setting","thing"] 2 2 zS:=T.NamesBeads.callee X G adE fun f fd F=>jN F adz fun Kc A Ko s H E hr=>qQ.2 P w K mg base f Kc A Ko s H E ⟨C.b,c_isWhole,C.decks⟩ hr
 have c_Pushed:jl P w K mg base "pushed" ["rod","deck","by"] 1 3 acm:=T.Pushed.callee X G akr fun f fd F=>jN F ajZ fun Kc A Ko s H E hr=>aa0.2 P w K mg base f Kc A Ko s H E ⟨trivial⟩ hr
 have c_CanMove:jl P w K mg base "can_move" ["manner","setting","thing"] 3 3 Qb:=T.CanMove.callee X G aid fun f fd F=>jN F ahO fun Kc A Ko s H E hr=>QI.2 P w K mg base f Kc A Ko s H E ⟨c_NamesBeads,c_isRod,c_Pushed⟩ hr
 have c_BehindMove:jl P w K mg base "behind_move" ["setting","move"] 2 2 Qm:=T.BehindMove.callee X G adF fun f fd F=>jN F Z9 fun Kc A Ko s H E hr=>Ql.2 P w K mg base f Kc A Ko s H E ⟨c_Pushed⟩ hr
 have c_Moved:jl P w K mg base "moved" ["manner","setting","move"] 7 3 Qc:=T.Moved.callee X G ag9 fun f fd F=>jN F agE fun Kc A Ko s H E hr=>adg.2 P w K mg base f Kc A Ko s H E ⟨c_chkSet,c_CanMove,c_BehindMove⟩ hr
 have g_Moved:GC K mg "moved" (fnD "moved"):=by
  obtain ⟨f,oc,od,an,kV,doc,pm,Kc,ct,osl,a,_⟩:=T.Moved
  exact ⟨.ref f,.ref f,PySem.W.mg_of X G a,rfl,fun H=>⟨f,rfl,.inr (.inr (.inl ⟨_,rfl,a⟩))⟩⟩
 have x_Moved:qC P w K mg base "moved" ["manner","setting","move"] 7 3 aao:=T.Moved.thr X G ag9 fun f fd F=>zy F agE fun Kc A Ko s H E hr=>afc.2 P w K mg base f Kc A Ko s H E ⟨c_CanMove,c_chkSet,x_chkSet,(C.errT.err (by decide))⟩ hr
 have mk_Hand:alL P w K mg base "Hand" ["self","manner","rods"] 7 3 QX:=T.MInit.mak T.cls X G amL fun f fd F=>ady F alX fun Kc A Ko s H E hr=>afe.2 P w K mg base f Kc A Ko s H E ⟨f_now,f_manner,f_past,c_plainS,x_plainS⟩ hr
 have m_setting:Jj P w K mg base "Hand" "setting" ["self"] 1 1 JN:=T.MSetting.met T.cls ahb fun f fd F=>ady F agF fun Kc A Ko s H E hr=>abH.2 P w K mg base f Kc A Ko s H E ⟨f_now⟩ hr
 have m_value:Jj P w K mg base "Hand" "value" ["self"] 3 1 QY:=T.MValue.met T.cls aku fun f fd F=>ady F aj0 fun Kc A Ko s H E hr=>afg.2 P w K mg base f Kc A Ko s H E ⟨f_manner,f_now,c_num⟩ hr
 have m_go_on:Jj P w K mg base "Hand" "go_on" ["self","fresh"] 4 2 aap:=T.MGoOn.met T.cls amM fun f fd F=>ady F alY fun Kc A Ko s H E hr=>ahS.2 P w K mg base f Kc A Ko s H E ⟨f_past,f_now,m_value⟩ hr
 have m_lay:Jj P w K mg base "Hand" "lay" ["self","number"] 7 2 abX:=T.MLay.met T.cls aou fun f fd F=>ady F an5 fun Kc A Ko s H E hr=>aiM.2 P w K mg base f Kc A Ko s H E ⟨f_manner,f_now,m_go_on,C.b,c_plainS,x_plainS⟩ hr
 have m_add:Jj P w K mg base "Hand" "add" ["self","number"] 14 2 abY:=T.MAdd.met T.cls aov fun f fd F=>ady F an6 fun Kc A Ko s H E hr=>aiO.2 P w K mg base f Kc A Ko s H E ⟨f_manner,f_now,m_go_on,c_added,x_added⟩ hr
 have m_take:Jj P w K mg base "Hand" "take" ["self","number"] 8 2 Zq:=T.MTake.met T.cls amN fun f fd F=>ady F al1 fun Kc A Ko s H E hr=>afj.2 P w K mg base f Kc A Ko s H E ⟨f_manner,f_now,m_go_on,c_less,x_less⟩ hr
 have m_push:Jj P w K mg base "Hand" "push" ["self","move"] 8 2 Zr:=T.MPush.met T.cls amO fun f fd F=>ady F al2 fun Kc A Ko s H E hr=>afl.2 P w K mg base f Kc A Ko s H E ⟨f_manner,f_now,m_go_on,c_Moved,x_Moved⟩ hr
 have m_undo:Jj P w K mg base "Hand" "undo" ["self"] 4 1 Zs:=T.MUndo.met T.cls amP fun f fd F=>ady F al3 fun Kc A Ko s H E hr=>afn.2 P w K mg base f Kc A Ko s H E ⟨f_past,f_now,m_value,(C.errT.err (by decide))⟩ hr
 have m_many:Jj P w K mg base "Hand" "many" ["self"] 1 1 adh:=T.MMany.met T.cls amQ fun f fd F=>ady F al4 fun Kc A Ko s H E hr=>ahX.2 P w K mg base f Kc A Ko s H E ⟨f_past,C.b⟩ hr
 have c_LValue:jl P w K mg base "_law_value" ["_law_manner_here","_law_setting_here"] 1 2 ZX:=T.LValue.callee X G aks fun f fd F=>jN F QL fun Kc A Ko s H E hr=>acs.2 P w K mg base f Kc A Ko s H E ⟨trivial⟩ hr
 have h_LRefused:ZA P w K mg base "_law_refused" ["_law_e"] 1 1 jT:=T.LRefused.hdl X G aha fun f fd F=>ask F Zt fun Kc A Ko s H E hr=>ad5.2 P w K mg base f Kc A Ko s H E ⟨C.b,C.errT⟩ hr
 have k_LTold:adX P w K mg base "_law_told" ["_law_hand","_law_way","_law_thing"] 15 3 zz:=T.LTold.cal0 X G amK fun f fd F=>alO F agG fun Kc A Ko s H E hr=>qM.2 P w K mg base f Kc A Ko s H E ⟨m_lay,m_add,m_take,m_push,m_undo,h_LRefused,C.errT⟩ hr
 have c_LNext:jl P w K mg base "_law_next" ["_law_manner_here","_law_setting_here","_law_way","_law_thing"] 14 4 Jz:=T.LNext.callee X G amJ fun f fd F=>alq F agH fun Kc A Ko s H E hr=>zf.2 P w K mg base f Kc A Ko s H E ⟨C.b,c_plainS,c_added,c_less,c_Moved,g_added,g_less,g_Moved,x_plainS,x_added,x_less,x_Moved,h_LRefused,C.errT⟩ hr
 have k_LBegun:adX P w K mg base "_law_begun" ["_law_manner_here","_law_rods_here"] 9 2 acv:=T.LBegun.cal0 X G akt fun f fd F=>alO F ad6 fun Kc A Ko s H E hr=>ZY.2 P w K mg base f Kc A Ko s H E ⟨m_setting,mk_Hand,h_LRefused,C.errT⟩ hr
 exact ⟨m_value,m_many,m_setting,mk_Hand,k_LBegun,k_LTold,C.b,c_manner,c_drawn,c_LValue,c_LNext⟩
theorem aqp (HT:za=true) {P:Program}{w:World}{K:Fg}{h:Heap}{mg:SV}{fa:Addr} (X:K.In h) (G:h.Ns mainGlobals mg) (hfa:mg "law"=some (.ref fa)) (T:Tops K) (C:Consts K mg):
  ∃ fd:FuncData,(∀ (s:Shared) (v:Value),BindsTo s fd ⟨[v],[]⟩ [("_law_script",v)])/\∀ base:Heap,K.In base->base.Ns mainGlobals mg->FnOk P w K mg base CX0 16 fa fd ["_law_script"] (ac5 K 1 al6):=by
 have Q:∀ base:Heap,CLaw P w K mg base:=fun base=>asz HT X G T C
 obtain ⟨f,oc,od,an,kV,doc,pm,Kc,ct,osl,a,l,c,kp⟩:=T.law
 have e:=hfa.symm.trans (PySem.W.mg_of X G a)
 cases e
 have F1:=aaf (st:=ah0) l c kp
 exact ⟨_,fun s v=> .of_eq rfl,fun base _ _=>ari F1 zA fun Kc A Ko s H E hr=>an8.2 P w K mg base fa Kc A Ko s H E (Q base) hr⟩
theorem arP (HT:za=true) (K:Fg) (H:Hp) (a:Addr) (ns:List Int) (hl:ns.length<=63) (hS:SqL K H a (ns.map V.int)):ac5 K 1 al6 [.ref a] H (fun v _=>v= .bl true) fun _ _ _=>False:=
 ⟨[scr ns],fun _=>none,fun o _=>o= .ok (.bool true),rfl,⟨_,_,rfl,⟨a,rfl,.inl ⟨ns,hS,rfl⟩⟩,rfl⟩,(fun a c z=>nomatch z),akm HT ns (by omega),(fun d μ' r v H' _ rv _=>by cases r; exact rv),fun c μ' r=>nomatch r⟩
theorem asC (HT:za=true) {l:PySem.W.OpenLaw}{q:Program}{loose:List Str}{XP:(SV)->Heap->Prop}{YP:World->Heap->Prop}{d:DefRec}{K:Params->Fg} (hn:l.most=some 63) (hdf:d.params.defaults=[])
  (hY:∀ (w:World) (h:Heap),YP w h->(K w.params).In h) (hnm:d.name="law")
  (F:∀ (w:World) (mg:SV) (h:Heap),(K w.params).In h->h.Ns mainGlobals mg->Tops (K w.params)/\Consts (K w.params) mg):
  PySem.W.WalkO q loose XP YP l.row.toRowW d [] (fun f vs=>PySem.call f vs):=
 L2.am7 (n:=63) (k:=16) (x:="_law_script") (CX:=fun _=>CX0) (sp:=fun w=>ac5 (K w.params) 1 al6) hn (by decide) hdf ⟨rfl,by decide,by decide⟩ hY (fun w mg fa h KX G hm=>by
  obtain ⟨T,C⟩:=F w mg h KX G
  rw [hnm] at hm
  exact aqp HT KX G hm T C) (fun w H a ns hl _ hS=>arP HT (K w.params) H a ns hl hS) fun _ _ _ _ _ z=>z
theorem aow {K:Fg}{mg:SV}{h:Heap} (X:K.In h) (G:h.Ns mainGlobals mg) (z1:PySem.W.nsIn K mainGlobals "isinstance"=some none) (z2:PySem.W.nsIn K mainGlobals "bool"=some none) (z3:PySem.W.nsIn K mainGlobals "int"=some none) (z4:PySem.W.nsIn K mainGlobals "tuple"=some none) (z5:PySem.W.nsIn K mainGlobals "zip"=some none) (z6:PySem.W.nsIn K mainGlobals "range"=some none) (z7:PySem.W.nsIn K mainGlobals "all"=some none) (z8:PySem.W.nsIn K mainGlobals "len"=some none) (z9:PySem.W.nsIn K mainGlobals "max"=some none) (z10:PySem.W.nsIn K mainGlobals "min"=some none) (z11:PySem.W.nsIn K mainGlobals "sum"=some none) (z12:PySem.W.nsIn K mainGlobals "sorted"=some none) (z13:PySem.W.nsIn K mainGlobals "abs"=some none) (z14:PySem.W.nsIn K mainGlobals "list"=some none) (z15:PySem.W.nsIn K mainGlobals "enumerate"=some none) (z16:PySem.W.nsIn K mainGlobals "ValueError"=some none) (z17:PySem.W.nsIn K mainGlobals "str"=some none) (z18:PySem.W.nsIn K mainGlobals "set"=some none) (z19:PySem.W.nsIn K mainGlobals "dict"=some none):Bare mg:=
 have f:∀ {x:Str},PySem.W.nsIn K mainGlobals x=some none->mg x=none:=fun z=>PySem.W.mg_none_of X G z
 ⟨f z1,f z2,f z3,f z4,f z5,f z6,f z7,f z8,f z9,f z10,f z11,f z12,f z13,f z14,f z15,f z16,f z17,f z18,f z19⟩
theorem gc4 {K:Fg}{mg:SV}{h:Heap}{x:Str}{a:Addr}{od:Option Addr}{n:Nat}{osl:Array (Option Value)}{i1 i2 i3 i4:Int}{t1 t2 t3 t4:Tok} (X:K.In h) (G:h.Ns mainGlobals mg) (e:PySem.W.nsIn K mainGlobals x=some (some (.ref a)))
  (l:K.lookup a=some ⟨.type "tuple",od,.seq #[.int i1 t1,.int i2 t2,.int i3 t3,.int i4 t4] n,osl⟩):GC K mg x (.tuple [.int i1,.int i2,.int i3,.int i4]):=
 af0 X G e l rfl ⟨_,_,[.int i1,.int i2,.int i3,.int i4],rfl,(by show 4<=sizeLine; rw [sizeLine_eq]; decide),.cons ⟨_,rfl⟩ (.cons ⟨_,rfl⟩ (.cons ⟨_,rfl⟩ (.cons ⟨_,rfl⟩ .nil))),fun H=>⟨_,_,rfl,rfl,_,_,rfl,rfl,_,_,rfl,rfl,_,_,rfl,rfl,rfl⟩⟩
theorem gcI {K:Fg}{mg:SV}{h:Heap}{x:Str}{i:Int}{t:Tok} (X:K.In h) (G:h.Ns mainGlobals mg) (e:PySem.W.nsIn K mainGlobals x=some (some (.int i t))):GC K mg x (.int i):=
 ⟨.int i,_,PySem.W.mg_of X G e,⟨t,rfl⟩,fun H=>rfl⟩
theorem amR {K:Fg}{mg:SV}{h:Heap}{x:Str}{a:Addr}{od:Option Addr}{n:Nat}{osl:Array (Option Value)}{i1 i2:Str}{t1 t2:Tok} (X:K.In h) (G:h.Ns mainGlobals mg) (e:PySem.W.nsIn K mainGlobals x=some (some (.ref a)))
  (l:K.lookup a=some ⟨.type "tuple",od,.seq #[.str i1 t1,.str i2 t2] n,osl⟩):GC K mg x (.tuple [.str i1,.str i2]):=
 af0 X G e l rfl ⟨_,_,[.str i1,.str i2],rfl,(by show 2<=sizeLine; rw [sizeLine_eq]; decide),.cons ⟨_,rfl⟩ (.cons ⟨_,rfl⟩ .nil),fun H=>⟨_,_,rfl,rfl,_,_,rfl,rfl,rfl⟩⟩
theorem aox {K:Fg}{mg:SV}{h:Heap}{y:Str}{cs:List Str} (X:K.In h) (G:h.Ns mainGlobals mg) (q:aeS K y cs=true):ErrT K mg y cs:=
 ⟨q,fun c C e=>PySem.W.mg_of X G (aeR e)⟩
end Rods
def PySem.W.Fast.tw11944165365773814644:Unit:=()
def PySem.W.Fast.tw17931387182953155917:Unit:=()
def PySem.W.Fast.tw12229588176091259849:Unit:=()
def PySem.W.Fast.tw17147932779929362235:Unit:=()
def PySem.W.Fast.tw16274465721000662220:Unit:=()
def PySem.W.Fast.tw17004879314376274952:Unit:=()
def PySem.W.Fast.tw13693217087856794656:Unit:=()
def PySem.W.Fast.tw5389739187899221865:Unit:=()
def PySem.W.Fast.tw2537614407895699089:Unit:=()
def PySem.W.Fast.tw11969036960406724567:Unit:=()
open PySem PySem.W PyProof.Rows
set_option maxRecDepth 100000 in
set_option maxHeartbeats 0 in
theorem PySem.Challenge.cw_beadrods_k50_hands_holds : PySem.Challenge.rw_beadrods_k50_hands.Holds := by
  w_on; o_law; k_head; (case hw => w_witness2)
  k_fill
  refine Rods.asC Rods.allN_true (l := PySem.Challenge.rw_beadrods_k50_hands) rfl rfl (fun w h Y => PySem.W.kIn_of Y) rfl ?F
  case F =>
    intro w mg h KX G
    refine ⟨⟨?f1, ?f2, ?f3, ?f4, ?f5, ?f6, ?f7, ?f8, ?f9, ?f10, ?f11, ?f12, ?f13, ?f14, ?f15, ?f16, ?f17, ?f18, ?f19, ?f20, ?f21, ?f22, ?f23, ?f24, ?f25, ?f26, ?f27, ?f28, ?f29, ?f30, ?f31, ?f32, ?f33, ?f34, ?f35, ?f36, ?f37, ?f38, ?f39, ?f40, ?f41, ?m1, ?m2, ?m3, ?m4, ?m5, ?m6, ?m7, ?m8, ?m9, ?m10, ?cl, ?d1, ?d2, ?d3⟩, ⟨?b, ?c1, ?c2, ?c3, ?c4, ?c5, ?et⟩⟩
    case b => refine' Rods.aow KX G ?_ ?_ ?_ ?_ ?_ ?_ ?_ ?_ ?_ ?_ ?_ ?_ ?_ ?_ ?_ ?_ ?_ ?_ ?_ <;> k_is
    case c1 =>
      refine' Rods.gc4 KX G ?a ?l
      (case a => k_is); (case l => k_is)
    case c2 =>
      refine' Rods.gc4 KX G ?a ?l
      (case a => k_is); (case l => k_is)
    case c3 =>
      refine' Rods.gcI KX G ?a
      (case a => k_is)
    case c4 =>
      refine' Rods.gcI KX G ?a
      (case a => k_is)
    case c5 =>
      refine' Rods.amR KX G ?a ?l
      (case a => k_is); (case l => k_is)
    case et => exact Rods.aox KX G (by kernel_rfl)
    case m1 =>
      refine' BX.zE ?a ?b ?i ?l ?c ?k
      (case a => k_is); (case b => k_is); (case i => k_is); (case l => k_is); (case c => k_is); (case k => k_is)
    case m2 =>
      refine' BX.zE ?a ?b ?i ?l ?c ?k
      (case a => k_is); (case b => k_is); (case i => k_is); (case l => k_is); (case c => k_is); (case k => k_is)
    case m3 =>
      refine' BX.zE ?a ?b ?i ?l ?c ?k
      (case a => k_is); (case b => k_is); (case i => k_is); (case l => k_is); (case c => k_is); (case k => k_is)
    case m4 =>
      refine' BX.zE ?a ?b ?i ?l ?c ?k
      (case a => k_is); (case b => k_is); (case i => k_is); (case l => k_is); (case c => k_is); (case k => k_is)
    case m5 =>
      refine' BX.zE ?a ?b ?i ?l ?c ?k
      (case a => k_is); (case b => k_is); (case i => k_is); (case l => k_is); (case c => k_is); (case k => k_is)
    case m6 =>
      refine' BX.zE ?a ?b ?i ?l ?c ?k
      (case a => k_is); (case b => k_is); (case i => k_is); (case l => k_is); (case c => k_is); (case k => k_is)
    case m7 =>
      refine' BX.zE ?a ?b ?i ?l ?c ?k
      (case a => k_is); (case b => k_is); (case i => k_is); (case l => k_is); (case c => k_is); (case k => k_is)
    case m8 =>
      refine' BX.zE ?a ?b ?i ?l ?c ?k
      (case a => k_is); (case b => k_is); (case i => k_is); (case l => k_is); (case c => k_is); (case k => k_is)
    case m9 =>
      refine' BX.zE ?a ?b ?i ?l ?c ?k
      (case a => k_is); (case b => k_is); (case i => k_is); (case l => k_is); (case c => k_is); (case k => k_is)
    case m10 =>
      refine' BX.zE ?a ?b ?i ?l ?c ?k
      (case a => k_is); (case b => k_is); (case i => k_is); (case l => k_is); (case c => k_is); (case k => k_is)
    case cl =>
      refine' BX.anT ?a ?b ?c ?d ?e ?f ?g
      (case a => k_is); (case b => k_is); (case c => k_is); (case d => k_is); (case e => k_is); (case f => k_is); (case g => k_is)
    case d1 =>
      refine' BX.aeW ?a ?b
      (case a => k_is); (case b => k_is)
    case d2 =>
      refine' BX.aeW ?a ?b
      (case a => k_is); (case b => k_is)
    case d3 =>
      refine' BX.aeW ?a ?b
      (case a => k_is); (case b => k_is)
    all_goals
      refine' BX.ald ?a ?l ?c ?k
      (case a => k_is); (case l => k_is); (case c => k_is); (case k => k_is)
#print axioms PySem.Challenge.cw_beadrods_k50_hands_holds
end
