import PyProof.Rows.All
import Wide.All
import OpenK.AllK
import Wide.FinOn
import Lean
import PyProof.EqAt
import PyProof.EqKinds
import PyProof.TupleCall
import PyProof.DictWalks
import PyProof.ListMulRoad
import PyProof.Rows.Range3
import PyProof.StationsW
import OpenK.KOwn
import PyProof.ExcBaseAll.ValueError
import PyProof.MaxThree
import KE.KIsAll
import KE.KIsNot
import PyProof.RulesAs
import PyProof.ExcArgsOwn
import PyProof.ExcAttrAll.ValueError
import KE.KRevSl
import PyProof.ListRange
import PySem.Challenge.RW_beadrods_k32_taking
set_option Elab.async false
set_option linter.all false
set_option maxRecDepth 100000
set_option maxHeartbeats 4000000
abbrev Fg:=PySem.W.Frag
abbrev SV:=PySem.Str->Option PySem.Value
abbrev OP:=Option PySem.PyData
abbrev LP:=List PySem.PyData
abbrev SP0:=PySem.Shared->Prop
theorem zzA {α : Type _} {a : α} {l : List α} : (a :: l)[0]? = some a := rfl
theorem zzB {α : Type _} {a : α} {i : Nat} {l : List α} : (a :: l)[i + 1]? = l[i]? := rfl
theorem zzC {α : Type _} {o : Option α} : (some o).join = o := rfl
theorem zzD {α β : Type _} (a : α) (f : α → Option β) : (some a).bind f = f a := rfl
theorem zzE {α β : Type _} (a : α) (f : α → β) : Option.map f (some a) = some (f a) := rfl
theorem zzF {α : Type _} {x : α} {xs : List α} {i : Nat} {a : α} : (x :: xs).set (i + 1) a = x :: xs.set i a := rfl
theorem zzG {α : Type _} {x : α} {xs : List α} {a : α} : (x :: xs).set 0 a = a :: xs := rfl
theorem zzH {α β : Type _} (f : α → Option β) : (none : Option α).bind f = none := rfl
theorem zzI {α β : Type _} (f : α → β) : Option.map f (none : Option α) = none := rfl
theorem zzJ : (!true) = false := rfl
theorem zzK : (!false) = true := rfl
theorem zzL : (false = true) = False := Bool.false_eq_true
theorem zzM {α : Sort _} {x : Decidable True} (a b : α) : ite True a b = a := if_true a b
theorem zzN {α : Sort _} {x : Decidable False} (a b : α) : ite False a b = b := if_false a b
section
namespace L2
open PySem PySem.Spec PyProof.Rows
noncomputable abbrev Key:=Sum Int Str
noncomputable def aoQ:Key->Value->Bool
 | .inl k,v=>Value.isInt k v
 | .inr x,v=>Value.isStrOf x v
noncomputable def ar1 (w:World):Key->Int
 | .inl k=>hashInt k
 | .inr x=>hashStr w x
theorem qM:∀ {k:Key}{v:Value},aoQ k v=true->(∃ i t,k=Sum.inl i/\v=Value.int i t) ∨ (∃ x t,k=Sum.inr x/\v=Value.str x t)
 | .inl i,v,h=>by
  obtain ⟨t,e⟩:=Value.isInt_shape (k:=i) (v:=v) h
  exact .inl ⟨i,t,rfl,e⟩
 | .inr x,v,h=>by
  obtain ⟨t,e⟩:=Value.isStrOf_shape (x:=x) (v:=v) h
  exact .inr ⟨x,t,rfl,e⟩
theorem ao7 (a b:Int):decide ((Sum.inl a:Key)=Sum.inl b)=(a == b):=by
 by_cases e:a=b
 ·subst e; simp
 ·have h:¬ (Sum.inl a:Key)=Sum.inl b:=fun q=>e (Sum.inl.inj q)
  rw [decide_eq_false h]
  exact (beq_eq_false_iff_ne.mpr e).symm
theorem ao8 (a b:Str):decide ((Sum.inr a:Key)=Sum.inr b)=decide (a=b):=by
 by_cases e:a=b
 ·subst e; simp
 ·have h:¬ (Sum.inr a:Key)=Sum.inr b:=fun q=>e (Sum.inr.inj q)
  rw [decide_eq_false h,decide_eq_false e]
theorem ao9 (a:Int) (b:Str):decide ((Sum.inl a:Key)=Sum.inr b)=false:=decide_eq_false (fun q=>nomatch q)
theorem apa (a:Str) (b:Int):decide ((Sum.inr a:Key)=Sum.inl b)=false:=decide_eq_false (fun q=>nomatch q)
noncomputable def acv (prog:Program) (w:World):PySem.KeyKind prog w Key where
 is:=aoQ
 hash:=ar1 w
 inj:=fun v a b ha hb=>by
  rcases qM ha with ⟨i,t,rfl,rfl⟩ | ⟨x,t,rfl,rfl⟩
  ·rcases qM hb with ⟨j,u,rfl,e⟩ | ⟨y,u,rfl,e⟩
   ·injection e with e1 _; rw [e1]
   ·exact nomatch e
  ·rcases qM hb with ⟨j,u,rfl,e⟩ | ⟨y,u,rfl,e⟩
   ·exact nomatch e
   ·injection e with e1 _; rw [e1]
 byValue:=fun k v h=>by
  rcases qM h with ⟨i,t,rfl,rfl⟩ | ⟨x,t,rfl,rfl⟩ <;> rfl
 pyHash:=fun hv h=>by
  rcases qM hv with ⟨i,t,rfl,rfl⟩ | ⟨x,t,rfl,rfl⟩
  ·exact wpAny_pyHash_int h
  ·exact wpAny_pyHash_str h
 eqBool:=fun hu hv h=>by
  rcases qM hu with ⟨i,t,rfl,rfl⟩ | ⟨x,t,rfl,rfl⟩
  ·rcases qM hv with ⟨j,u,rfl,rfl⟩ | ⟨y,u,rfl,rfl⟩
   ·rw [ao7] at h; exact wpAny_eqBool_int h
   ·rw [ao9] at h; exact SeqAt.EqAt.int_str i t y u _ _ _ _ h
  ·rcases qM hv with ⟨j,u,rfl,rfl⟩ | ⟨y,u,rfl,rfl⟩
   ·rw [apa] at h; exact SeqAt.EqAt.str_int x t j u _ _ _ _ h
   ·rw [ao8] at h; exact wpAny_eqBool_str h
 «strs»:=fun k x t v h=>by
  rcases qM h with ⟨i,u,rfl,e⟩ | ⟨y,u,rfl,e⟩
  ·exact nomatch e
  ·injection e with e1 _
   subst e1
   cases v <;> rfl
inductive V where
 | non | bl (b:Bool) | int (i:Int) | str (x:Str) | byt (b:Array UInt8) | flt (b:UInt64) | ref (a:Addr) | ty (n:String)
 deriving DecidableEq
noncomputable def qe:V->Value->Prop
 | .non,u=>u=Value.none
 | .bl b,u=>u=Value.bool b
 | .int i,u=>∃ t,u=Value.int i t
 | .str x,u=>∃ t,u=Value.str x t
 | .byt b,u=>∃ t,u=Value.bytes b t
 | .flt b,u=>∃ t,u=Value.float b t
 | .ref a,u=>u=Value.ref a
 | .ty n,u=>u=Value.type n
noncomputable abbrev jQ:List V->List Value->Prop:=Paired qe
theorem jQ.length {xs:List V}{us:List Value} (r:jQ xs us):xs.length=us.length:=Paired.length r
theorem jQ.get:∀ {xs:List V}{us:List Value}{i:Nat}{x:V},jQ xs us->xs[i]?=some x->∃ u,us[i]?=some u/\qe x u
 | _,_,_,_,.nil,e=>by simp at e
 | _,_,0,_,.cons r _,e=>by simp at e; subst e; exact ⟨_,rfl,r⟩
 | _,_,i+1,x,.cons _ t,e=>by
  obtain ⟨u,h1,h2⟩:=jQ.get (i:=i) (x:=x) t (by simpa using e)
  exact ⟨u,by simpa using h1,h2⟩
theorem jQ.set {x:V}{u:Value} (r:qe x u):∀ {xs:List V}{us:List Value} (i:Nat),jQ xs us->jQ (xs.set i x) (us.set i u)
 | _,_,_,.nil=> .nil
 | _,_,0,.cons _ t=> .cons r t
 | _,_,i+1,.cons q t=> .cons q (jQ.set r i t)
theorem jQ.append:∀ {xs ys:List V}{us ws:List Value},jQ xs us->jQ ys ws->jQ (xs++ys) (us++ws)
 | _,_,_,_,.nil,s=>s
 | _,_,_,_,.cons r t,s=> .cons r (jQ.append t s)
theorem jQ.take:∀ {xs:List V}{us:List Value} (n:Nat),jQ xs us->jQ (xs.take n) (us.take n)
 | _,_,0,_=> .nil
 | _,_,_+1,.nil=> .nil
 | _,_,n+1,.cons r t=> .cons r (jQ.take n t)
theorem jQ.drop:∀ {xs:List V}{us:List Value} (n:Nat),jQ xs us->jQ (xs.drop n) (us.drop n)
 | _,_,0,r=>r
 | _,_,_+1,.nil=> .nil
 | _,_,n+1,.cons _ t=>jQ.drop n t
noncomputable def aqO:Option V->Option Value->Prop
 | some v,some u=>qe v u
 | none,none=>True
 | _,_=>False
noncomputable def KV {κ:Type}:List (κ × V)->List (κ × Value)->Prop:=Paired fun (p:κ × V) (q:κ × Value)=>p.1=q.1/\qe p.2 q.2
noncomputable def kV:Key->V
 | .inl i=> .int i
 | .inr x=> .str x
inductive HO where
 | lst (xs:List V)
 | tup (xs:List V)
 | dK (kvs:List (Key × V)) | dT (kvs:List (List Key × V))
 | set (S:Int->Bool) (n:Nat)
 | ins (C dx:Addr) (fs:List (Str × V))
 | own (x:Addr)
 | xd (fs:List (Str × V))
 | met (f x:Addr)
 | rng (lo hi:Int)
 | frz (o:Obj) (u:HO)
 | tbl (ps:Array Value)
 | ext (φ:Heap->Prop)
noncomputable abbrev Hp:=Addr->Option HO
noncomputable def upd (H:Hp) (a:Addr) (o:HO):Hp:=fun b=>if b=a then some o else H b
theorem jn {H:Hp}{a:Addr}{o:HO}:upd H a o a=some o:=by unfold upd; rw [if_pos rfl]
theorem jp {H:Hp}{a b:Addr}{o:HO} (h:b ≠ a):upd H a o b=H b:=by unfold upd; rw [if_neg h]
theorem ZN {H:Hp}{a:Addr}{o u:HO}:upd (upd H a o) a u=upd H a u:=by
 funext b; unfold upd; split <;> rfl
theorem qS {H:Hp}{a b:Addr}{o:HO} (h:H a=some o) (h':H b=none):a ≠ b:=by
 intro e; subst e; rw [h] at h'; cases h'
section
variable (P:Program) (w:World)
noncomputable def qV (H:Hp) (h:Heap) (a:Addr):HO->Prop
 | .lst xs=>xs.length<=sizeLine/\∃ (its:List Value) (n:Nat),jQ xs its/\h.get? a=some { cls:= .type "list",data:= .seq its.toArray n }
 | .tup xs=>xs.length<=sizeLine/\∃ its:List Value,jQ xs its/\IsTup h a its.toArray
 | .dK kvs=>kvs.length<=sizeLine/\(a == sysModules)=false/\∃ vs,KV kvs vs/\h.DictOf (acv P w) a vs
 | .dT kvs=>kvs.length<=sizeLine/\(a == sysModules)=false/\∃ xs:List (List Key × Addr × Value),
   Paired (fun (p:List Key × V) (q:List Key × Addr × Value)=>p.1=q.1/\H q.2.1=some (.tup (p.1.map kV))/\qe p.2 q.2.2) kvs xs/\
   ∃ o es ep,h.get? a=some o/\o.ExactDict/\o.data= .dict es ep/\es.toList=xs.map (entryOfKey (tupleKind (acv P w)))/\(xs.map (·.1)).Nodup
 | .set S n=>h.SetOf (intKind P w) a S n
 | .ins C dx fs=>H dx=some (.own a)/\fs.length<=1000/\dx ≠ a/\h.get? a=some (PySem.W.instObj C dx)/\
   ∃ mA,h.Ns1 dx mA/\(∀ f,aqO (fs.lookup f) (mA f))/\PySem.Within mA (fs.map (·.1))
 | .own _=>∃ o,h.get? a=some o
 | .xd fs=>∃ mA,h.Ns1 a mA/\∀ f,aqO (fs.lookup f) (mA f)
 | .rng lo hi=>∃ t u v,h.get? a=some { cls:= .type "range",data:= .fields #[.int lo t,.int hi u,.int 1 v] }
 | .frz o u=>h.get? a=some o/\qV H h a u
 | .tbl ps=>h.get? a=some { cls:= .none,data:= .fields ps }
 | .met f x=>h.get? a=some (PySem.W.methodObj (.ref f) (.ref x))
 | .ext φ=>φ h/\(∃ o,h.get? a=some o)/\∀ h1 h2:Heap,φ h1->(∀ o,h1.get? a=some o->h2.get? a=some o)->φ h2
noncomputable def HOk (H:Hp) (h:Heap):Prop:=∀ a o,H a=some o->qV P w H h a o
end
section
variable {P:Program}{w:World}{H H':Hp}{h h':Heap}{a:Addr}{o:HO}
theorem qV.lt (x:qV P w H h a o):a<h.objs.size:=by
 cases o with
 | lst xs=>obtain ⟨_,_,_,_,e⟩:=x; exact Heap.lt_size e
 | tup xs=>obtain ⟨_,_,_,p⟩:=x; exact p.lt
 | dK kvs=>obtain ⟨_,_,_,_,o,_,_,e,_⟩:=x; exact Heap.lt_size e
 | dT kvs=>obtain ⟨_,_,_,_,o,_,_,e,_⟩:=x; exact Heap.lt_size e
 | set S n=>obtain ⟨o,_,_,_,e,_⟩:=x; exact Heap.lt_size e
 | ins C dx fs=>obtain ⟨_,_,_,e,_⟩:=x; exact Heap.lt_size e
 | own y=>obtain ⟨_,e⟩:=x; exact Heap.lt_size e
 | xd fs=>obtain ⟨_,⟨_,_,_,e,_⟩,_⟩:=x; exact Heap.lt_size e
 | rng lo hi=>obtain ⟨_,_,_,e⟩:=x; exact Heap.lt_size e
 | frz ob u=>obtain ⟨e,_⟩:=x; exact Heap.lt_size e
 | tbl ps=>exact Heap.lt_size (show h.get? a=some _ from x)
 | met f y=>exact Heap.lt_size (show h.get? a=some _ from x)
 | ext φ=>obtain ⟨_,⟨_,e⟩,_⟩:=x; exact Heap.lt_size e
theorem Paired.mapP {α β:Type}{F G:α->β->Prop}:∀ {l₁:List α}{l₂:List β},Paired F l₁ l₂->(∀ a b,F a b->G a b)->Paired G l₁ l₂
 | _,_,.nil,_=> .nil
 | _,_,.cons r t,f=> .cons (f _ _ r) (Paired.mapP t f)
theorem qV.stay (x:qV P w H h a o) (k:∀ b u,(b=a ∨ H b=some (.own a))->h.get? b=some u->h'.get? b=some u)
  (ho:∀ b,H b=some (.own a)->H' b=some (.own a)) (ht:∀ b xs,H b=some (.tup xs)->H' b=some (.tup xs)):qV P w H' h' a o:=by
 induction o with
 | lst xs=>obtain ⟨z,its,n,r,e⟩:=x; exact ⟨z,its,n,r,k _ _ (.inl rfl) e⟩
 | tup xs=>obtain ⟨z,its,r,ob,e,c⟩:=x; exact ⟨z,its,r,ob,k _ _ (.inl rfl) e,c⟩
 | dK kvs=>obtain ⟨z,y,vs,r,ob,es,ep,e,c⟩:=x; exact ⟨z,y,vs,r,ob,es,ep,k _ _ (.inl rfl) e,c⟩
 | dT kvs=>
  obtain ⟨z,y,xs,r,ob,es,ep,e,c⟩:=x
  exact ⟨z,y,xs,Paired.mapP r fun p q z=>⟨z.1,ht _ _ z.2.1,z.2.2⟩,ob,es,ep,k _ _ (.inl rfl) e,c⟩
 | set S n=>obtain ⟨ob,es,ep,t,e,c⟩:=x; exact ⟨ob,es,ep,t,k _ _ (.inl rfl) e,c⟩
 | ins C dx fs=>
  obtain ⟨d,z,ne,e,mA,⟨od,es,ep,e2,c⟩,r⟩:=x
  exact ⟨ho _ d,z,ne,k _ _ (.inl rfl) e,mA,⟨od,es,ep,k _ _ (.inr d) e2,c⟩,r⟩
 | own y=>obtain ⟨ob,e⟩:=x; exact ⟨ob,k _ _ (.inl rfl) e⟩
 | xd fs=>obtain ⟨mA,⟨od,es,ep,e,c⟩,r⟩:=x; exact ⟨mA,⟨od,es,ep,k _ _ (.inl rfl) e,c⟩,r⟩
 | rng lo hi=>obtain ⟨t,u,v,e⟩:=x; exact ⟨t,u,v,k _ _ (.inl rfl) e⟩
 | frz ob u ih=>obtain ⟨e,q⟩:=x; exact ⟨k _ _ (.inl rfl) e,ih q⟩
 | tbl ps=>
  have e:h.get? a=some { cls:= .none,data:= .fields ps }:=x
  show h'.get? a=some { cls:= .none,data:= .fields ps }
  exact k a _ (.inl rfl) e
 | met f y=>
  have e:h.get? a=some (PySem.W.methodObj (.ref f) (.ref y)):=x
  show h'.get? a=some (PySem.W.methodObj (.ref f) (.ref y))
  exact k a _ (.inl rfl) e
 | ext φ=>obtain ⟨p,⟨o,e⟩,st⟩:=x; exact ⟨st _ _ p fun o q=>k _ _ (.inl rfl) q,⟨o,k _ _ (.inl rfl) e⟩,st⟩
theorem HOk.lt (x:HOk P w H h) (e:H a=some o):a<h.objs.size:=(x a o e).lt
theorem HOk.fresh (x:HOk P w H h) (e:h.objs.size<=a):H a=none:=by
 cases q:H a with
 | none=>rfl
 | some u=>exact absurd (Nat.lt_of_lt_of_le (x.lt q) e) (Nat.lt_irrefl _)
theorem HOk.kept (x:HOk P w H h) (k:∀ b u,h.get? b=some u->h'.get? b=some u):HOk P w H h':=fun a o e=>
 (x a o e).stay (fun b u _ q=>k b u q) (fun _ q=>q) fun _ _ q=>q
theorem HOk.laid (x:HOk P w H h) (k:∀ b u,h.get? b=some u->h'.get? b=some u) (hp:h.objs.size<=a) (new:qV P w (upd H a o) h' a o):HOk P w (upd H a o) h':=fun b u e=>by
 have hn:=x.fresh hp
 by_cases hb:b=a
 ·subst hb; rw [jn] at e; cases e; exact new
 ·rw [jp hb] at e
  exact (x b u e).stay (fun c v _ q=>k c v q) (fun c q=>by rw [jp (qS q hn)]; exact q) fun c xs q=>by rw [jp (qS q hn)]; exact q
end
noncomputable def Rd (H:Hp) (a:Addr) (u:HO):Prop:=H a=some u ∨ ∃ o,H a=some (.frz o u)
theorem Rd.ok {P:Program}{w:World}{H:Hp}{h:Heap}{a:Addr}{u:HO} (r:Rd H a u) (x:HOk P w H h):qV P w H h a u:=by
 rcases r with r | ⟨o,r⟩
 ·exact x a u r
 ·obtain ⟨_,q⟩:=x a _ r
  exact q
noncomputable def Mut:Option HO->Prop
 | some (.lst _)=>True
 | some (.dK _)=>True
 | some (.dT _)=>True
 | some (.set _ _)=>True
 | some (.ins _ _ _)=>True
 | some (.ext _)=>True
 | _=>False
section
variable {P:Program}{w:World}{H:Hp}{h h':Heap}{x e:Addr}{o':HO}
theorem HOk.write (ok:HOk P w H h) (mu:Mut (H x)) (he:e=x ∨ H e=some (.own x)) (k:∀ b u,b ≠ e->h.get? b=some u->h'.get? b=some u) (heo:∃ u,h'.get? e=some u)
  (new:qV P w (upd H x o') h' x o'):HOk P w (upd H x o') h':=fun b u q=>by
 have nown:∀ c y,H c=some (.own y)->c ≠ x:=fun c y r z=>by subst z; rw [r] at mu; exact mu
 have ntup:∀ c xs,H c=some (.tup xs)->c ≠ x:=fun c xs r z=>by subst z; rw [r] at mu; exact mu
 by_cases hb:b=x
 ·subst hb; rw [jn] at q; cases q; exact new
 ·rw [jp hb] at q
  by_cases hbe:b=e
  ·have q':H b=some (.own x):=by
    rcases he with z | z
    ·exact absurd (hbe.trans z) hb
    ·rw [hbe]; exact z
   rw [q] at q'; cases q'
   obtain ⟨v,hv⟩:=heo
   exact ⟨v,by rw [hbe]; exact hv⟩
  ·refine (ok b u q).stay (fun c v hc r=>k c v ?_ r) (fun c r=>by rw [jp (nown c b r)]; exact r) fun c xs r=>by rw [jp (ntup c xs r)]; exact r
   rcases hc with rfl | hc
   ·exact hbe
   ·rintro rfl
    rcases he with z | z
    ·exact nown c b hc z
    ·rw [hc] at z; cases z; exact hb rfl
end
structure Un (fs ex:List Addr) (H H':Hp) (h h':Heap):Prop where
 keep:∀ b o,h.get? b=some o->H b=none->b ∉ fs->b ∉ ex->h'.get? b=some o
 slot:∀ b o,h.get? b=some o->H b=none->b ∈ fs->b ∉ ex->∃ sl,h'.get? b=some { o with slots:=sl }
 free:∀ b o,h.get? b=some o->H b=none->b ∉ ex->H' b=none
 there:∀ b o,h.get? b=some o->b ∉ ex->∃ o',h'.get? b=some o'
 tups:∀ b xs,H b=some (.tup xs)->H' b=some (.tup xs)
 frzs:∀ b o u,H b=some (.frz o u)->H' b=some (.frz o u)
 tbls:∀ b ps,H b=some (.tbl ps)->∃ more,H' b=some (.tbl (ps++more))
section
variable {fs fs' ex ex':List Addr}{H H1 H2:Hp}{h h1 h2 h':Heap}{a x e:Addr}{o:HO}
theorem Un.any (u:Un fs ex H H1 h h1) {b:Addr}{ob:Obj} (q:h.get? b=some ob) (n:H b=none) (hx:b ∉ ex):∃ sl,h1.get? b=some { ob with slots:=sl }:=by
 by_cases hb:b ∈ fs
 ·exact u.slot b ob q n hb hx
 ·exact ⟨ob.slots,u.keep b ob q n hb hx⟩
theorem Un.kept (k:∀ b u,h.get? b=some u->h'.get? b=some u):Un fs ex H H h h':=
 ⟨fun b ob q _ _ _=>k b ob q,fun b ob q _ _ _=>⟨ob.slots,k b ob q⟩,fun _ _ _ n _=>n,fun b ob q _=>⟨ob,k b ob q⟩,fun _ _ q=>q,fun _ _ _ q=>q,fun _ ps q=>⟨#[],by rw [q]; simp⟩⟩
theorem Un.refl:Un fs ex H H h h:=Un.kept fun _ _ q=>q
theorem Un.laid (k:∀ b u,h.get? b=some u->h'.get? b=some u) (hp:h.objs.size<=a) (hn:H a=none):Un fs ex H (upd H a o) h h' where
 keep:=fun b u q _ _ _=>k b u q
 slot:=fun b u q _ _ _=>⟨u.slots,k b u q⟩
 free:=fun b u q n _=>by rw [jp (Nat.ne_of_lt (Nat.lt_of_lt_of_le (Heap.lt_size q) hp))]; exact n
 there:=fun b u q _=>⟨u,k b u q⟩
 tups:=fun b xs q=>by rw [jp (qS q hn)]; exact q
 frzs:=fun b u xs q=>by rw [jp (qS q hn)]; exact q
 tbls:=fun b ps q=>⟨#[],by rw [jp (qS q hn),q]; simp⟩
theorem Un.write (mu:Mut (H x)) (he:e=x ∨ H e=some (.own x)) (k:∀ b u,b ≠ e->h.get? b=some u->h'.get? b=some u) (heo:∃ u,h'.get? e=some u):Un fs ex H (upd H x o) h h':=by
 have hx:∀ b,H b=none->b ≠ x:=fun b n z=>by subst z; rw [n] at mu; exact mu
 have hb:∀ b,H b=none->b ≠ e:=fun b n z=>by
  subst z
  rcases he with r | r
  ·exact hx b n r
  ·rw [n] at r; cases r
 have hm:∀ b u,H b=some u->¬ Mut (some u)->b ≠ x:=fun b u q nm z=>by subst z; rw [q] at mu; exact nm mu
 refine ⟨fun b u q n _ _=>k b u (hb b n) q,fun b u q n _ _=>⟨u.slots,k b u (hb b n) q⟩,fun b u q n _=>by rw [jp (hx b n)]; exact n,fun b u q _=>?_,
  fun b xs q=>by rw [jp (hm b _ q fun z=>z)]; exact q,fun b u xs q=>by rw [jp (hm b _ q fun z=>z)]; exact q,fun b ps q=>⟨#[],by rw [jp (hm b _ q fun z=>z),q]; simp⟩⟩
 by_cases hbe:b=e
 ·subst hbe; exact heo
 ·exact ⟨u,k b u hbe q⟩
end
noncomputable def trk (h:Heap) (H:Hp):List Addr:=(List.range h.objs.size).filter fun a=>(H a).isSome
noncomputable def ae8 (h:Heap) (H:Hp):Heap:=PySem.W.hideAll h (trk h H)
theorem ajy (h:Heap) (H:Hp):(ae8 h H).objs.size=h.objs.size:=PySem.W.hideAll_size _ _
theorem akM {h:Heap}{H:Hp}{b:Addr}{o:Obj} (e:h.get? b=some o) (n:H b=none):(ae8 h H).get? b=some o:=
 PySem.W.hideAll_get _ e fun hm=>by
  have q:(H b).isSome=true:=(List.mem_filter.mp hm).2
  rw [n] at q; simp at q
theorem am5 {h:Heap}{H:Hp}{b:Addr}{o:Obj} (e:(ae8 h H).get? b=some o):h.get? b=some o/\H b=none:=by
 have e':h.get? b=some o:=PySem.W.of_hideAll (trk h H) e
 refine ⟨e',?_⟩
 cases q:H b with
 | none=>rfl
 | some x=>
  have hm:b ∈ trk h H:=List.mem_filter.mpr ⟨List.mem_range.mpr (Heap.lt_size e'),by simp [q]⟩
  have z:(ae8 h H).get? b=none:=PySem.W.hideAll_none (trk h H) hm
  rw [z] at e; cases e
noncomputable def JY (g h:Heap) (L:Addr):List (Addr × Obj):=(List.range h.objs.size).filterMap fun a=>if a=L ∨ (g.get? a).isSome=true then none else (h.get? a).map fun o=>(a,o)
theorem aca {g h:Heap}{L a:Addr}{o:Obj} (h1:a ≠ L) (h2:g.get? a=none) (h3:h.get? a=some o):(a,o) ∈ JY g h L:=
 List.mem_filterMap.mpr ⟨a,List.mem_range.mpr (Heap.lt_size h3),by simp [h1,h2,h3]⟩
theorem acW {g h:Heap}{L:Addr}{p:Addr × Obj} (hp:p ∈ JY g h L):p.1 ≠ L/\g.get? p.1=none/\h.get? p.1=some p.2:=by
 obtain ⟨b,_,e⟩:=List.mem_filterMap.mp hp
 split at e
 ·cases e
 ·rename_i hn
  cases q:h.get? b with
  | none=>rw [q] at e; simp at e
  | some u=>
   rw [q] at e
   simp only [zzE,Option.some.injEq] at e
   subst e
   refine ⟨fun z=>hn (.inl z),?_,q⟩
   show g.get? b=none
   cases r:g.get? b with
   | none=>rfl
   | some v=>exact (hn (.inr (by simp [r]))).elim
noncomputable def j9 (g h:Heap) (L d:Addr):List (Addr × Obj):=(JY g h L).filter fun p=>decide (p.1 ≠ d)
theorem akN {g h:Heap}{L:Addr}:News g L h (JY g h L):=fun p hp=>let ⟨a,b,c⟩:=acW hp; ⟨c,a,b⟩
structure Mod (K:Fg) (mg:SV) (base:Heap):Prop where
 kin:K.In base
 glob:base.Ns mainGlobals mg
 blt:∃ mb,base.Ns builtinsNs mb/\∀ x:Str,x ≠ "__name__"->mb x=bootBuiltins x
 nolimit:base.NoLimit
structure Cx where
 prog:Program
 w:World
 K:Fg
 mg:SV
 base:Heap
 A:Around
 N:List Str
 s₀:Shared
 H₀:Hp
 env:Env
 Ko:List Env
 stack:List Env
 ex:List Addr
 fn:Str->Bool
 calm:Bool
 pn:List (Addr × Obj)
 xe:Value->SP0
noncomputable def frs (l:List Env):List Addr:=l.filterMap (·.frame)
noncomputable abbrev Cx.fs (X:Cx):List Addr:=frs X.Ko
noncomputable def Vis (sc:Scope) (x:Str):Prop:=sc.names.lookup x=some .local ∨ sc.names.lookup x=some .cell ∨ sc.names.lookup x=some .free
noncomputable def Loc (sc:Scope) (x:Str):Prop:=sc.names.lookup x=some .local ∨ sc.names.lookup x=some .cell
noncomputable def ar2 (env:Env) (h:Heap) (m:SV) (x:Str) (u:Value):Prop:=
 (env.kindOf x=some .local/\m x=some u) ∨ ((env.kindOf x=some .cell ∨ env.kindOf x=some .free)/\∃ c,env.cells.lookup x=some c/\h.IsCell c (some u))
structure Cx.Ok (X:Cx):Prop where
 mod:Mod X.K X.mg X.base
 kind:X.env.scope.kind= .function
 glob:X.env.globals=mainGlobals
 blt:X.env.builtins=builtinsNs
 above:X.s₀.heap.objs.size<=X.env.locals
 inj:∀ x y c,X.env.cells.lookup x=some c->X.env.cells.lookup y=some c->x=y
 has:∀ x,(X.env.kindOf x=some .cell ∨ X.env.kindOf x=some .free)->∃ c,X.env.cells.lookup x=some c
 cab:∀ x c,X.fn x=true->X.env.cells.lookup x=some c->X.s₀.heap.objs.size<=c
 hd:X.calm=true->X.A.handled=none
 frames:X.A.frames=some X.stack
 stk:X.stack=X.Ko ∨ (X.stack=X.env::X.Ko/\X.env.frame=some X.env.locals)
 exf:∀ b ∈ X.ex,b ≠ X.env.locals/\∀ x c,X.env.cells.lookup x=some c->c ≠ b
 bs:∀ b o,X.base.get? b=some o->X.s₀.heap.get? b=some o/\X.H₀ b=none
 bsz:X.base.objs.size<=X.s₀.heap.objs.size
 noex:∀ b o,X.base.get? b=some o->b ∉ X.ex
 exfs:∀ b ∈ X.ex,b ∉ X.fs
 funs:X.s₀.heap.FunFrames X.base X.Ko
 frf:∀ b ∈ X.fs,X.H₀ b=none
structure Inv (X:Cx) (Kp:List (Addr × Obj)) (σ:List (Option V)) (H:Hp) (s:Shared):Prop where
 ok:X.Ok
 os:s.os=X.s₀.os
 bare:AllBare s.gens
 base:Un X.fs X.ex X.H₀ H X.s₀.heap s.heap
 loc:∃ m,s.heap.Ns X.env.locals m/\∀ (i:Nat) (x:Str) (v:V),X.N[i]?=some x->σ[i]?=some (some v)->Vis X.env.scope x->∃ u,qe v u/\ar2 X.env s.heap m x u
 cell:∀ x c,X.env.cells.lookup x=some c->∃ v,s.heap.IsCell c v
 free:H X.env.locals=none
 freeC:∀ x c,X.env.cells.lookup x=some c->H c=none
 pin:∀ p ∈ X.pn++Kp,s.heap.get? p.1=some p.2/\H p.1=none/\p.1 ≠ X.env.locals/\p.1 ∉ X.fs/\∀ v,p.2.data ≠ .cell v
 hok:HOk X.prog X.w H s.heap
 len:σ.length=X.N.length
section
variable {X:Cx}{Kp:List (Addr × Obj)}{σ:List (Option V)}{H H':Hp}{s:Shared}{h':Heap}
theorem Cx.Ok.nofr (ok:X.Ok) {b:Addr}{o:Obj} (e:X.base.get? b=some o):b ∉ X.fs:=fun hb=>by
 have:=(ok.funs.mem hb).1
 rw [e] at this; cases this
theorem Inv.bs (I:Inv X Kp σ H s):∀ b o,X.base.get? b=some o->s.heap.get? b=some o/\H b=none:=fun b o e=>
 ⟨I.base.keep b o (I.ok.bs b o e).1 (I.ok.bs b o e).2 (I.ok.nofr e) (I.ok.noex b o e),I.base.free b o (I.ok.bs b o e).1 (I.ok.bs b o e).2 (I.ok.noex b o e)⟩
theorem Inv.bk (I:Inv X Kp σ H s):∀ b o,X.base.get? b=some o->s.heap.get? b=some o:=fun b o e=>(I.bs b o e).1
theorem Inv.mod (I:Inv X Kp σ H s):Mod X.K X.mg X.base:=I.ok.mod
theorem Inv.kIn (I:Inv X Kp σ H s):X.K.In s.heap:=I.ok.mod.kin.keeps I.bk
theorem Inv.fr (I:Inv X Kp σ H s):∃ m,Fr X.base X.env.locals s.heap m:=
 let ⟨m,hn,_⟩:=I.loc
 ⟨m,hn,I.bk,Nat.le_trans I.ok.bsz I.ok.above⟩
theorem Inv.lt (I:Inv X Kp σ H s):X.env.locals<s.heap.objs.size:=let ⟨_,hn,_⟩:=I.loc; hn.lt
theorem Inv.sz (I:Inv X Kp σ H s):X.s₀.heap.objs.size<=s.heap.objs.size:=Nat.le_trans I.ok.above (Nat.le_of_lt I.lt)
theorem Inv.nofs (I:Inv X Kp σ H s) {a:Addr} (h:s.heap.objs.size<=a):a ∉ X.fs:=fun hb=>by
 obtain ⟨_,o,ho,_⟩:=I.ok.funs.mem hb
 exact absurd (Nat.lt_of_lt_of_le (Heap.lt_size ho) (Nat.le_trans I.sz h)) (Nat.lt_irrefl _)
theorem Inv.cne (I:Inv X Kp σ H s):∀ x c,X.env.cells.lookup x=some c->c ≠ X.env.locals:=fun x c e z=>by
 obtain ⟨v,o,ho,hd⟩:=I.cell x c e
 obtain ⟨m,⟨o',es,ep,ho',hd',_⟩,_⟩:=I.loc
 rw [z,ho'] at ho; cases ho; rw [hd'] at hd; cases hd
theorem Inv.funs (I:Inv X Kp σ H s):s.heap.FunFrames X.base X.Ko:=by
 have all:∀ (l:List Env),(∀ b ∈ frs l,b ∈ X.fs)->X.s₀.heap.FunFrames X.base l->s.heap.FunFrames X.base l:=by
  intro l
  induction l with
  | nil=>intro _ _; trivial
  | cons env r ih=>
   intro hs hl
   obtain ⟨hk,⟨L,o,hf,hn,ho,hd⟩,hr⟩:=hl
   have hL:L ∈ X.fs:=hs L (by unfold frs; rw [List.filterMap_cons,hf]; exact List.mem_cons_self)
   obtain ⟨sl,e⟩:=I.base.slot L o ho (I.ok.frf L hL) hL fun z=>I.ok.exfs L z hL
   exact ⟨hk,⟨L,_,hf,hn,e,hd⟩,ih (fun b hb=>hs b (by unfold frs; rw [List.filterMap_cons,hf]; exact List.mem_cons_of_mem _ hb)) hr⟩
 exact all X.Ko (fun _ hb=>hb) I.ok.funs
theorem Inv.stack (I:Inv X Kp σ H s):s.heap.FunFrames X.base X.stack:=by
 rcases I.ok.stk with e | ⟨e,hf⟩
 ·rw [e]; exact I.funs
 ·rw [e]
  obtain ⟨m,hn,_⟩:=I.loc
  refine .cons (by rw [I.ok.kind]; decide) hf hn ?_ I.funs
  exact Heap.get?_none_of_le (Nat.le_trans I.ok.bsz I.ok.above)
theorem Inv.stkSub (I:Inv X Kp σ H s):∀ b ∈ frs X.stack,b ∈ X.env.locals::X.fs:=fun b hb=>by
 rcases I.ok.stk with e | ⟨e,hf⟩
 ·rw [e] at hb; exact List.mem_cons_of_mem _ hb
 ·rw [e] at hb
  unfold frs at hb
  rw [List.filterMap_cons,hf] at hb
  exact hb
theorem Inv.stkFree (I:Inv X Kp σ H s):∀ b ∈ frs X.stack,H b=none:=fun b hb=>by
 rcases List.mem_cons.mp (I.stkSub b hb) with e | hb
 ·rw [e]; exact I.free
 ·obtain ⟨_,o,ho,_⟩:=I.ok.funs.mem hb
  exact I.base.free b o ho (I.ok.frf b hb) fun z=>I.ok.exfs b z hb
theorem Inv.step {g':Array GenState}{t':Nat}{d':Drawn}{ch:List Addr} (I:Inv X Kp σ H s)
  (hch:∀ b ∈ ch,(b ∈ X.ex ∨ X.s₀.heap.objs.size<=b)/\b ≠ X.env.locals/\(∀ x c,X.env.cells.lookup x=some c->c ≠ b)/\∀ p ∈ X.pn++Kp,p.1 ≠ b)
  (keep:∀ b o,b ≠ X.env.locals->b ∉ X.fs->b ∉ ch->s.heap.get? b=some o->H b=none->h'.get? b=some o)
  (slot:∀ b o,b ≠ X.env.locals->b ∈ X.fs->b ∉ ch->s.heap.get? b=some o->H b=none->∃ sl,h'.get? b=some { o with slots:=sl }) (free:∀ b o,b ∉ ch->s.heap.get? b=some o->H b=none->H' b=none)
  (there:∀ b o,b ∉ ch->s.heap.get? b=some o->∃ o',h'.get? b=some o')
  (tups:∀ b xs,H b=some (.tup xs)->H' b=some (.tup xs)) (frzs:∀ b o u,H b=some (.frz o u)->H' b=some (.frz o u)) (tbls:∀ b ps,H b=some (.tbl ps)->∃ more,H' b=some (.tbl (ps++more)))
  (ns:∀ m,s.heap.Ns X.env.locals m->h'.Ns X.env.locals m) (hok:HOk X.prog X.w H' h') (hg:AllBare g'):
  Inv X Kp σ H' { s with heap:=h',gens:=g',drawn:=d',toks:=t' }:=by
 have neL:∀ b o,X.s₀.heap.get? b=some o->b ≠ X.env.locals:=fun b o e=>Nat.ne_of_lt (Nat.lt_of_lt_of_le (Heap.lt_size e) I.ok.above)
 have neC:∀ b o,X.s₀.heap.get? b=some o->b ∉ X.ex->b ∉ ch:=fun b o e hx hb=>by
  rcases (hch b hb).1 with z | z
  ·exact hx z
  ·exact absurd (Nat.lt_of_lt_of_le (Heap.lt_size e) z) (Nat.lt_irrefl _)
 have cellK:∀ x c,X.env.cells.lookup x=some c->∀ v,s.heap.IsCell c v->h'.IsCell c v:=fun x c e v ⟨o,ho,hd⟩=>by
  have nch:c ∉ ch:=fun z=>(hch c z).2.2.1 x c e rfl
  by_cases hc:c ∈ X.fs
  ·obtain ⟨sl,q⟩:=slot c o (I.cne x c e) hc nch ho (I.freeC x c e)
   exact ⟨_,q,hd⟩
  ·exact ⟨o,keep c o (I.cne x c e) hc nch ho (I.freeC x c e),hd⟩
 refine ⟨I.ok,I.os,hg,⟨fun b o e n hb hx=>?_,fun b o e n hb hx=>?_,fun b o e n hx=>?_,fun b o e hx=>?_,fun b xs e=>tups b xs (I.base.tups b xs e),fun b o xs e=>frzs b o xs (I.base.frzs b o xs e),fun b ps e=>?_⟩,?_,fun x c e=>?_,?_,fun x c e=>?_,fun p hp=>?_,hok,I.len⟩
 ·exact keep b o (neL b o e) hb (neC b o e hx) (I.base.keep b o e n hb hx) (I.base.free b o e n hx)
 ·obtain ⟨sl,e1⟩:=I.base.slot b o e n hb hx
  obtain ⟨sl',e2⟩:=slot b _ (neL b o e) hb (neC b o e hx) e1 (I.base.free b o e n hx)
  exact ⟨sl',e2⟩
 ·obtain ⟨o',e1⟩:=I.base.there b o e hx
  exact free b o' (neC b o e hx) e1 (I.base.free b o e n hx)
 ·obtain ⟨o',e1⟩:=I.base.there b o e hx
  exact there b o' (neC b o e hx) e1
 ·obtain ⟨m1,e1⟩:=I.base.tbls b ps e
  obtain ⟨m2,e2⟩:=tbls b _ e1
  exact ⟨m1++m2,by rw [e2,Array.append_assoc]⟩
 ·obtain ⟨m,hn,hl⟩:=I.loc
  refine ⟨m,ns m hn,fun i x v e1 e2 e3=>?_⟩
  obtain ⟨u,r,l⟩:=hl i x v e1 e2 e3
  refine ⟨u,r,?_⟩
  rcases l with l | ⟨k,c,e,z⟩
  ·exact .inl l
  ·exact .inr ⟨k,c,e,cellK x c e _ z⟩
 ·obtain ⟨v,z⟩:=I.cell x c e
  exact ⟨v,cellK x c e v z⟩
 ·obtain ⟨m,⟨o,_,_,ho,_⟩,_⟩:=I.loc
  exact free _ o (fun z=>(hch _ z).2.1 rfl) ho I.free
 ·obtain ⟨v,o,ho,hd⟩:=I.cell x c e
  exact free c o (fun z=>(hch c z).2.2.1 x c e rfl) ho (I.freeC x c e)
 ·obtain ⟨e,n,ne,nf,d⟩:=I.pin p hp
  have nch:p.1 ∉ ch:=fun z=>(hch p.1 z).2.2.2 p hp rfl
  exact ⟨keep p.1 p.2 ne nf nch e n,free p.1 p.2 nch e n,ne,nf,d⟩
theorem Inv.un {t':Nat} (I:Inv X Kp σ H s) (u:Un X.fs [] H H' s.heap h') (hok:HOk X.prog X.w H' h'):Inv X Kp σ H' { s with heap:=h',toks:=t' }:=by
 obtain ⟨m,⟨o,es,ep,ho,r⟩,_⟩:=id I.loc
 obtain ⟨sl,hL⟩:=u.any ho I.free (by simp)
 exact I.step (g':=s.gens) (d':=s.drawn) (ch:=[]) (fun _ z=>nomatch z) (fun b o _ hb _ e n=>u.keep b o e n hb (by simp)) (fun b o _ hb _ e n=>u.slot b o e n hb (by simp)) (fun b o _ e n=>u.free b o e n (by simp)) (fun b o _ e=>u.there b o e (by simp)) u.tups u.frzs u.tbls (fun m' hm=>by
  obtain ⟨o',es',ep',ho',r'⟩:=hm
  rw [ho] at ho'; cases ho'
  exact ⟨_,es',ep',hL,r'⟩) hok I.bare
theorem Inv.call {g':Array GenState}{t':Nat}{d':Drawn}{ch:List Addr} (I:Inv X Kp σ H s) (u:Un (frs X.stack) ch H H' s.heap h') (hok:HOk X.prog X.w H' h') (hg:AllBare g')
  (hch:∀ b ∈ ch,(b ∈ X.ex ∨ X.s₀.heap.objs.size<=b)/\b ≠ X.env.locals/\(∀ x c,X.env.cells.lookup x=some c->c ≠ b)/\∀ p ∈ X.pn++Kp,p.1 ≠ b):
  Inv X Kp σ H' { s with heap:=h',gens:=g',drawn:=d',toks:=t' }:=by
 obtain ⟨m,⟨o,es,ep,ho,r⟩,_⟩:=id I.loc
 obtain ⟨sl,hL⟩:=u.any ho I.free fun z=>(hch _ z).2.1 rfl
 exact I.step (ch:=ch) hch (fun b o hL hb hc e n=>u.keep b o e n (fun z=>(List.mem_cons.mp (I.stkSub b z)).elim hL hb) hc) (fun b o _ _ hc e n=>u.any e n hc) (fun b o hc e n=>u.free b o e n hc) (fun b o hc e=>u.there b o e hc) u.tups u.frzs u.tbls (fun m' hm=>by
  obtain ⟨o',es',ep',ho',r'⟩:=hm
  rw [ho] at ho'; cases ho'
  exact ⟨_,es',ep',hL,r'⟩) hok hg
theorem Inv.turned {t':Nat}{it:Addr} (I:Inv X Kp σ H s) (k:∀ b o,b ≠ it->s.heap.get? b=some o->h'.get? b=some o) (hn:H it=none) (hL:it ≠ X.env.locals)
  (h1:it ∈ X.ex ∨ X.s₀.heap.objs.size<=it) (h2:∀ x c,X.env.cells.lookup x=some c->c ≠ it) (h3:∀ p ∈ X.pn++Kp,p.1 ≠ it):Inv X Kp σ H { s with heap:=h',toks:=t' }:=by
 have nit:∀ b u,H b=some u->b ≠ it:=fun b u e z=>by rw [z,hn] at e; cases e
 refine I.step (g':=s.gens) (d':=s.drawn) (ch:=[it]) (fun b hb=>?_) (fun b o _ _ hc e _=>k b o (fun z=>hc (by simp [z])) e) (fun b o _ _ hc e _=>⟨o.slots,k b o (fun z=>hc (by simp [z])) e⟩) (fun _ _ _ _ n=>n)
  (fun b o hc e=>⟨o,k b o (fun z=>hc (by simp [z])) e⟩) (fun _ _ e=>e) (fun _ _ _ e=>e) (fun b ps e=>⟨#[],by rw [e]; simp⟩) (fun m hm=>?_) (fun b u e=>?_) I.bare
 ·have e:b=it:=by simpa using hb
  subst e
  exact ⟨h1,hL,h2,h3⟩
 ·obtain ⟨o,es,ep,ho,r⟩:=hm
  exact ⟨o,es,ep,k _ o (Ne.symm hL) ho,r⟩
 ·refine (I.hok b u e).stay (fun c v hc q=>k c v ?_ q) (fun _ q=>q) fun _ _ q=>q
  rcases hc with z | z
  ·rw [z]; exact nit b u e
  ·exact nit c _ z
theorem Inv.tok (I:Inv X Kp σ H s) (t:Nat):Inv X Kp σ H { s with toks:=t }:=I.un (h':=s.heap) (t':=t) Un.refl I.hok
theorem Inv.kept {t':Nat} (I:Inv X Kp σ H s) (k:∀ b u,s.heap.get? b=some u->h'.get? b=some u):Inv X Kp σ H { s with heap:=h',toks:=t' }:=I.un (Un.kept k) (I.hok.kept k)
theorem Inv.laid {a:Addr}{o:HO}{t':Nat} (I:Inv X Kp σ H s) (k:∀ b u,s.heap.get? b=some u->h'.get? b=some u) (hp:s.heap.objs.size<=a) (new:qV X.prog X.w (upd H a o) h' a o):
  Inv X Kp σ (upd H a o) { s with heap:=h',toks:=t' }:=I.un (Un.laid k hp (I.hok.fresh hp)) (I.hok.laid k hp new)
theorem Inv.write {x e:Addr}{o:HO}{t':Nat} (I:Inv X Kp σ H s) (mu:Mut (H x)) (he:e=x ∨ H e=some (.own x)) (k:∀ b u,b ≠ e->s.heap.get? b=some u->h'.get? b=some u) (heo:∃ u,h'.get? e=some u)
  (new:qV X.prog X.w (upd H x o) h' x o):Inv X Kp σ (upd H x o) { s with heap:=h',toks:=t' }:=I.un (Un.write mu he k heo) (I.hok.write mu he k heo new)
theorem Inv.pins_of {pins':List (Addr × Obj)} (I:Inv X Kp σ H s) (h:∀ p ∈ pins',s.heap.get? p.1=some p.2/\H p.1=none/\p.1 ≠ X.env.locals/\p.1 ∉ X.fs/\∀ v,p.2.data ≠ .cell v):Inv X pins' σ H s:=
 ⟨I.ok,I.os,I.bare,I.base,I.loc,I.cell,I.free,I.freeC,fun p hp=>(List.mem_append.mp hp).elim (fun z=>I.pin p (List.mem_append_left _ z)) (h p),I.hok,I.len⟩
theorem af9 {N:List Str} (hN:N.Nodup) {i j:Nat}{x:Str} (a:N[i]?=some x) (b:N[j]?=some x):i=j:=by
 obtain ⟨h1,e1⟩:=List.getElem?_eq_some_iff.mp a
 obtain ⟨h2,e2⟩:=List.getElem?_eq_some_iff.mp b
 exact (List.getElem_inj hN).mp (e1.trans e2.symm)
theorem aec {M:Model}{A:Around}{E:Value->SP0}{i:Nat}{x:Str}{v:V}{u:Value}{Q:Unit->SP0} (I:Inv X Kp σ H s) (hN:X.N.Nodup) (hi:X.N[i]?=some x) (hx:Loc X.env.scope x) (r:qe v u)
  (h:∀ s',Inv X Kp (σ.set i (some v)) H s'->(∃ a,Heap.SameBut a s.heap s'.heap/\(a=X.env.locals ∨ X.env.cells.lookup x=some a))->Q () s') (hf:X.fn x=true ∨ X.env.scope.names.lookup x=some .local:=by first | exact .inl rfl | exact .inr rfl | assumption):wpAny M A (storeName X.env x u) Q E s:=by
 obtain ⟨m,hn,hl⟩:=id I.loc
 have hcls:(X.env.scope.kind == .class || (X.env.scope.kind == .module && X.env.locals != X.env.globals))=false:=by rw [I.ok.kind]; rfl
 have hiσ:i < σ.length:=by rw [I.len]; exact (List.getElem?_eq_some_iff.mp hi).1
 have cne:=I.cne
 have tracked:∀ {a:Addr} {h':Heap},(∃ o,s.heap.get? a=some o/\H a=none)->Heap.SameBut a s.heap h'->HOk X.prog X.w H h':=fun {a h'} ha hs b ob e=>by
  obtain ⟨_,_,hfree⟩:=ha
  refine (I.hok b ob e).stay (fun c w' hc q=>(hs.2 c ?_).trans q) (fun _ q=>q) fun _ _ q=>q
  rintro rfl
  rcases hc with rfl | hc
  ·rw [hfree] at e; cases e
  ·rw [hfree] at hc; cases hc
 rcases hx with hk | hk
 ·refine wpAny_storeName_local hk hn (fun h' hn' hs=>?_) hcls
  obtain ⟨oL,_,_,hoL,_⟩:=id hn
  refine h _ ⟨I.ok,I.os,I.bare,⟨fun b o e n hb hx=>?_,fun b o e n hb hx=>?_,I.base.free,fun b o e hx=>?_,I.base.tups,I.base.frzs,I.base.tbls⟩,⟨_,hn',fun j y v' e1 e2 e3=>?_⟩,fun y c e=>?_,I.free,I.freeC,fun p hp=>?_,tracked ⟨oL,hoL,I.free⟩ hs,by simpa using I.len⟩ ⟨_,hs,.inl rfl⟩
  ·exact (hs.2 b (Nat.ne_of_lt (Nat.lt_of_lt_of_le (Heap.lt_size e) I.ok.above))).trans (I.base.keep b o e n hb hx)
  ·obtain ⟨sl,e1⟩:=I.base.slot b o e n hb hx
   exact ⟨sl,(hs.2 b (Nat.ne_of_lt (Nat.lt_of_lt_of_le (Heap.lt_size e) I.ok.above))).trans e1⟩
  ·obtain ⟨o',e1⟩:=I.base.there b o e hx
   exact ⟨o',(hs.2 b (Nat.ne_of_lt (Nat.lt_of_lt_of_le (Heap.lt_size e) I.ok.above))).trans e1⟩
  ·by_cases hj:j=i
   ·subst hj
    rw [hi] at e1; cases e1
    rw [List.getElem?_set_self hiσ] at e2
    cases e2
    exact ⟨u,r,.inl ⟨hk,by simp⟩⟩
   ·rw [List.getElem?_set_ne (Ne.symm hj)] at e2
    obtain ⟨u',r',q⟩:=hl j y v' e1 e2 e3
    refine ⟨u',r',?_⟩
    rcases q with ⟨k,e⟩ | ⟨k,c,e,z⟩
    ·refine .inl ⟨k,?_⟩
     have:y ≠ x:=fun e=>hj (af9 hN e1 (e ▸ hi))
     simp [this,e]
    ·exact .inr ⟨k,c,e,z.sameBut hs (cne y c e)⟩
  ·obtain ⟨w',z⟩:=I.cell y c e
   exact ⟨w',z.sameBut hs (cne y c e)⟩
  ·obtain ⟨e,n,ne,nf,d⟩:=I.pin p hp
   exact ⟨(hs.2 p.1 ne).trans e,n,ne,nf,d⟩
 ·have hfn:X.fn x=true:=by
   rcases hf with z | z
   ·exact z
   ·rw [z] at hk; cases hk
  obtain ⟨c,hc⟩:=I.ok.has x (.inl hk)
  obtain ⟨w',z⟩:=I.cell x c hc
  refine wpAny_storeName_cell I.ok.kind hk hc z (fun h' hc' hs=>?_)
  obtain ⟨oc,hoc,hocd⟩:=id z
  refine h { s with heap:=h' } ⟨I.ok,I.os,I.bare,⟨fun b o e n hb hx=>?_,fun b o e n hb hx=>?_,I.base.free,fun b o e hx=>?_,I.base.tups,I.base.frzs,I.base.tbls⟩,⟨m,hn.sameBut hs (Ne.symm (cne x c hc)),fun j y v' e1 e2 e3=>?_⟩,fun y c' e=>?_,I.free,I.freeC,fun p hp=>?_,tracked ⟨oc,hoc,I.freeC x c hc⟩ hs,by simpa using I.len⟩ ⟨c,hs,.inr hc⟩
  ·exact (hs.2 b (Nat.ne_of_lt (Nat.lt_of_lt_of_le (Heap.lt_size e) (I.ok.cab x c hfn hc)))).trans (I.base.keep b o e n hb hx)
  ·obtain ⟨sl,e1⟩:=I.base.slot b o e n hb hx
   exact ⟨sl,(hs.2 b (Nat.ne_of_lt (Nat.lt_of_lt_of_le (Heap.lt_size e) (I.ok.cab x c hfn hc)))).trans e1⟩
  ·obtain ⟨o',e1⟩:=I.base.there b o e hx
   exact ⟨o',(hs.2 b (Nat.ne_of_lt (Nat.lt_of_lt_of_le (Heap.lt_size e) (I.ok.cab x c hfn hc)))).trans e1⟩
  ·by_cases hj:j=i
   ·subst hj
    rw [hi] at e1; cases e1
    rw [List.getElem?_set_self hiσ] at e2
    cases e2
    exact ⟨u,r,.inr ⟨.inl hk,c,hc,hc'⟩⟩
   ·rw [List.getElem?_set_ne (Ne.symm hj)] at e2
    obtain ⟨u',r',q⟩:=hl j y v' e1 e2 e3
    refine ⟨u',r',?_⟩
    rcases q with q | ⟨k,c',e,z'⟩
    ·exact .inl q
    ·refine .inr ⟨k,c',e,z'.sameBut hs ?_⟩
     rintro rfl
     exact hj (af9 hN e1 (I.ok.inj _ _ _ e hc ▸ hi))
  ·by_cases hcc:c'=c
   ·subst hcc; exact ⟨_,hc'⟩
   ·obtain ⟨w2,z2⟩:=I.cell y c' e
    exact ⟨w2,z2.sameBut hs hcc⟩
  ·obtain ⟨e,n,ne,nf,d⟩:=I.pin p hp
   refine ⟨(hs.2 p.1 ?_).trans e,n,ne,nf,d⟩
   intro q
   rw [q,hoc] at e
   have q':oc=p.2:=Option.some.inj e
   exact d w' (by rw [←q']; exact hocd)
theorem acX {M:Model}{A:Around}{E:Value->SP0}{i:Nat}{x:Str}{v:V}{u:Value}{Q:Unit->SP0} (I:Inv X Kp σ H s) (hN:X.N.Nodup) (hi:X.N[i]?=some x) (hx:Loc X.env.scope x) (r:qe v u)
  (h:∀ s',Inv X Kp (σ.set i (some v)) H s'->Q () s') (hf:X.fn x=true ∨ X.env.scope.names.lookup x=some .local:=by first | exact .inl rfl | exact .inr rfl | assumption):wpAny M A (storeName X.env x u) Q E s:=
 aec I hN hi hx r (fun s' I' _=>h s' I') hf
theorem Inv.call' {s':Shared}{ch:List Addr} (I:Inv X Kp σ H s) (ho:s'.os=s.os) (u:Un (frs X.stack) ch H H' s.heap s'.heap) (hok:HOk X.prog X.w H' s'.heap) (hg:AllBare s'.gens)
  (hch:∀ b ∈ ch,(b ∈ X.ex ∨ X.s₀.heap.objs.size<=b)/\b ≠ X.env.locals/\(∀ x c,X.env.cells.lookup x=some c->c ≠ b)/\∀ p ∈ X.pn++Kp,p.1 ≠ b):Inv X Kp σ H' s':=by
 obtain ⟨h',g',d',t',o'⟩:=s'
 have e:o'=s.os:=ho
 subst e
 exact I.call (g':=g') (t':=t') (d':=d') u hok hg hch
end
noncomputable abbrev XK:=Value->Option Addr->Hp->Prop
noncomputable abbrev St:=List (Option V)
noncomputable abbrev VK:=V->Hp->Prop
noncomputable abbrev TE:=St->Hp->VK->Prop
noncomputable abbrev TT:=St->Hp->(Bool->Hp->Prop)->Prop
noncomputable abbrev TA:=St->Hp->(List V->Hp->Prop)->Prop
structure Ends where
 nx:St->Hp->Prop
 rt:VK
 bk:St->Hp->Prop:=fun _ _=>False
 ct:St->Hp->Prop:=fun _ _=>False
noncomputable abbrev TS:=Ends->St->Hp->Prop
noncomputable def EP (X:Cx) (Kp:List (Addr × Obj)) (σ:St) (Q:VK) (u:Value) (s':Shared):Prop:=∃ v H',Inv X Kp σ H' s'/\qe v u/\Q v H'
noncomputable def TP (X:Cx) (Kp:List (Addr × Obj)) (σ:St) (Q:Bool->Hp->Prop) (b:Bool) (s':Shared):Prop:=∃ H',Inv X Kp σ H' s'/\Q b H'
noncomputable def AP (X:Cx) (Kp:List (Addr × Obj)) (σ:St) (Q:List V->Hp->Prop) (us:List Value) (s':Shared):Prop:=∃ vs H',Inv X Kp σ H' s'/\jQ vs us/\Q vs H'
noncomputable def SP (X:Cx) (Kp:List (Addr × Obj)) (D:Ends) (f:Flow) (s':Shared):Prop:=
 match f with
 | .next=>∃ σ' H',Inv X Kp σ' H' s'/\D.nx σ' H'
 | .brk=>∃ σ' H',Inv X Kp σ' H' s'/\D.bk σ' H'
 | .cont=>∃ σ' H',Inv X Kp σ' H' s'/\D.ct σ' H'
 | .ret u=>∃ v σ' H',Inv X Kp σ' H' s'/\qe v u/\D.rt v H'
noncomputable def PE (X:Cx) (e:Expr) (t:TE):Prop:=
 ∀ (Kp:List (Addr × Obj)) (s:Shared) (σ:St) (H:Hp) (Q:VK),Inv X Kp σ H s->t σ H Q->wpAny (model X.prog X.w) X.A (eval e X.env) (EP X Kp σ Q) X.xe s
noncomputable def PT (X:Cx) (e:Expr) (t:TT):Prop:=
 ∀ (Kp:List (Addr × Obj)) (s:Shared) (σ:St) (H:Hp) (Q:Bool->Hp->Prop),Inv X Kp σ H s->t σ H Q->wpAny (model X.prog X.w) X.A (isTrue e X.env (eval e X.env)) (TP X Kp σ Q) X.xe s
noncomputable def PW (X:Cx) (e:Expr) (t:TT):Prop:=
 ∀ (whole:Sem Value) (Kp:List (Addr × Obj)) (s:Shared) (σ:St) (H:Hp) (Q:Bool->Hp->Prop),Inv X Kp σ H s->t σ H Q->wpAny (model X.prog X.w) X.A (isTrue e X.env whole) (TP X Kp σ Q) X.xe s
theorem PW.pt {X:Cx}{e:Expr}{t:TT} (h:PW X e t):PT X e t:=h _
noncomputable def PA (X:Cx) (es:List Expr) (t:TA):Prop:=
 ∀ (pos:Pos) (Kp:List (Addr × Obj)) (s:Shared) (σ:St) (H:Hp) (Q:List V->Hp->Prop),Inv X Kp σ H s->t σ H Q->wpAny (model X.prog X.w) X.A (spliced (backTo pos (starEach es X.env))) (AP X Kp σ Q) X.xe s
noncomputable def PS (X:Cx) (st:Stmt) (t:TS):Prop:=
 ∀ (Kp:List (Addr × Obj)) (s:Shared) (σ:St) (H:Hp) (D:Ends),Inv X Kp σ H s->t D σ H->wpAny (model X.prog X.w) X.A (exec st X.env) (SP X Kp D) X.xe s
noncomputable def PSs (X:Cx) (st:List Stmt) (t:TS):Prop:=
 ∀ (Kp:List (Addr × Obj)) (s:Shared) (σ:St) (H:Hp) (D:Ends),Inv X Kp σ H s->t D σ H->wpAny (model X.prog X.w) X.A (execs st X.env) (SP X Kp D) X.xe s
theorem thn {α:Type}{t:Sem α}{Q Q':α->SP0}{M:Model}{A:Around}{E:Value->SP0}{s:Shared} (h:wpAny M A t Q E s) (hQ:∀ a s,Q a s->Q' a s):wpAny M A t Q' E s:=wpAny_mono h hQ fun _ _ x=>x
section
variable {X:Cx}
noncomputable def apb (i:Nat):TE:=fun σ H Q=>∃ v,σ[i]?=some (some v)/\Q v H
noncomputable def tC (v:V):TE:=fun _ H Q=>Q v H
theorem Zm {i:Nat}{x:Str}{pos:Pos} (hN:X.N[i]?=some x) (hv:Vis X.env.scope x) (hd:(x == ("__debug__":Str))=false:=by decide) (hcd:(x == ("__classdict__":Str))=false:=by decide):PE X (.Name x pos) (apb i):=by
 intro Kp s σ H Q I h
 obtain ⟨v,e,h⟩:=h
 obtain ⟨m,hn,hl⟩:=I.loc
 obtain ⟨u,r,l⟩:=hl i x v hN e hv
 have fin:EP X Kp σ Q u s:=⟨v,H,I,r,h⟩
 rcases l with ⟨hk,hm⟩ | ⟨hk,c,hc,hcell⟩
 ·exact wpAny_Name (wpAny_loadName_local I.ok.kind hk hn hm fin) hd
 ·rcases hk with hk | hk
  ·exact wpAny_Name (wpAny_loadName_cell I.ok.kind hk hc hcell fin) hd
  ·exact wpAny_Name (wpAny_loadName_free I.ok.kind hk hc hcell fin hcd) hd
theorem akO {i j pos}:PE X (.Constant (.int i) j pos) (tC (.int i)):=fun _ _ _ H _ I h=>wpAny_Constant_int ⟨.int i,H,I.tok _,⟨_,rfl⟩,h⟩
theorem aqP {b j pos}:PE X (.Constant (.bool b) j pos) (tC (.bl b)):=fun _ _ _ H _ I h=>Constant_bool ⟨.bl b,H,I,rfl,h⟩
theorem akP {j pos}:PE X (.Constant .none j pos) (tC .non):=fun _ _ _ H _ I h=>Constant_none ⟨.non,H,I,rfl,h⟩
theorem akQ {x j pos}:PE X (.Constant (.str x) j pos) (tC (.str x)):=fun _ _ _ H _ I h=>Calls.Constant_str ⟨.str x,H,I.tok _,⟨_,rfl⟩,h⟩
noncomputable def Gl (X:Cx) (x:Str):Prop:=X.env.kindOf x=some .globalImplicit
theorem ZO {E:Value->SP0}{Kp:List (Addr × Obj)}{s:Shared}{σ:St}{H:Hp}{x:Str}{u:Value}{pos:Pos}{Q:Value->SP0} (I:Inv X Kp σ H s) (hg:Gl X x) (hm:X.mg x=some u) (h:Q u s)
  (hd:(x == ("__debug__":Str))=false:=by decide):wpAny (model X.prog X.w) X.A (eval (.Name x pos) X.env) Q E s:=
 Calls.Name_function_global I.ok.kind hg (Calls.loadGlobal_global (by rw [I.ok.glob]; exact I.mod.glob.keeps I.bk) hm h) hd
theorem aas {E:Value->SP0}{Kp:List (Addr × Obj)}{s:Shared}{σ:St}{H:Hp}{x:Str}{u:Value}{pos:Pos}{Q:Value->SP0} (I:Inv X Kp σ H s) (hg:Gl X x) (hm:X.mg x=none) (hv:bootBuiltins x=some u) (h:Q u s)
  (hn:x ≠ "__name__":=by decide) (hd:(x == ("__debug__":Str))=false:=by decide):wpAny (model X.prog X.w) X.A (eval (.Name x pos) X.env) Q E s:=by
 obtain ⟨mb,h1,h2⟩:=I.mod.blt
 exact Calls.Name_function_global I.ok.kind hg (Calls.loadGlobal_builtin (by rw [I.ok.glob]; exact I.mod.glob.keeps I.bk) hm (by rw [I.ok.blt]; exact h1.keeps I.bk) ((h2 x hn).trans hv) h) hd
theorem acw {x:Str}{v:V}{u:Value}{pos:Pos} (hg:Gl X x) (hm:X.mg x=some u) (r:qe v u) (hd:(x == ("__debug__":Str))=false:=by decide):PE X (.Name x pos) (tC v):=
 fun _ _ _ H _ I h=>ZO I hg hm ⟨v,H,I,r,h⟩ hd
theorem aiB {x:Str}{v:V}{u:Value}{pos:Pos} (hg:Gl X x) (hm:X.mg x=none) (hv:bootBuiltins x=some u) (r:qe v u) (hn:x ≠ "__name__":=by decide) (hd:(x == ("__debug__":Str))=false:=by decide):PE X (.Name x pos) (tC v):=
 fun _ _ _ H _ I h=>aas I hg hm hv ⟨v,H,I,r,h⟩ hn hd
variable {a b:Expr}{ta tb:TE}{pos:Pos}
noncomputable def tB (t:TE):TT:=fun σ H Q=>t σ H fun x H1=>∃ c,x= .bl c/\Q c H1
theorem apc {e:Expr}{t:TE} (h:PE X e t) (he:∀ whole,isTrue e X.env whole=(do let v ←whole; standAt e.pos; holding [v] (truthy v)):=by intro _; rfl):PT X e (tB t):=by
 intro Kp s σ H Q I hw
 refine isTrue_plain (thn (h Kp s σ H _ I hw) fun v s1 ⟨x,H1,I1,r1,q1⟩=>?_) (he _)
 obtain ⟨d,rfl,q⟩:=q1
 cases r1
 exact wpAny_truthy_bool ⟨H1,I1,q⟩
variable {tA tB':TT}{j9:List Expr}
noncomputable def tOr (t u:TT):TT:=fun σ H Q=>t σ H fun c H1=>if c=true then Q true H1 else u σ H1 Q
noncomputable def ar3 (t:TT):TT:=fun σ H Q=>t σ H fun c H1=>Q (!c) H1
theorem apd (ha:PT X a tA):PW X (.BoolOp .Or [a] pos) tA:=by
 intro wh Kp s σ H Q I h
 refine isTrue_or (thn (ha Kp s σ H Q I h) fun c s1 e=>?_)
 cases c with
 | false=>exact isTrue_or_nil e
 | true=>exact e
theorem aqQ (ha:PT X a tA) (hb:PW X (.BoolOp .Or (b::j9) pos) tB'):PW X (.BoolOp .Or (a::b::j9) pos) (tOr tA tB'):=by
 intro wh Kp s σ H Q I h
 refine isTrue_or (thn (ha Kp s σ H _ I h) fun c s1 ⟨H1,I1,q1⟩=>?_)
 cases c with
 | true=>exact ⟨H1,I1,q1⟩
 | false=>exact hb wh Kp s1 σ H1 Q I1 q1
theorem ape (ha:PT X a tA):PT X (.UnaryOp .Not a pos) (ar3 tA):=by
 intro Kp s σ H Q I h
 exact isTrue_not (ha Kp s σ H (fun c H1=>Q (!c) H1) I h)
noncomputable def aqR (ta tb:TE):TE:=fun σ H Q=>ta σ H fun x H1=>∃ c,x= .bl c/\if c=true then tb σ H1 Q else Q (.bl false) H1
theorem apf {op}{t:TE} (h:PE X a t):PE X (.BoolOp op [a] pos) t:=fun Kp s σ H Q I hw=>BoolOp_one (h Kp s σ H Q I hw)
theorem apg (ha:PE X a ta) (hb:PE X (.BoolOp .And (b::j9) pos) tb):PE X (.BoolOp .And (a::b::j9) pos) (aqR ta tb):=by
 intro Kp s σ H Q I h
 refine BoolOp_and (thn (ha Kp s σ H _ I h) fun v s1 ⟨x,H1,I1,r1,q1⟩=>?_)
 obtain ⟨c,rfl,q1⟩:=q1
 cases r1
 refine wpAny_truthy_bool ?_
 cases c with
 | true=>exact hb Kp s1 σ H1 Q I1 q1
 | false=>exact ⟨.bl false,H1,I1,rfl,q1⟩
noncomputable def tIf (t:TT) (ta tb:TE):TE:=fun σ H Q=>t σ H fun c H1=>if c=true then ta σ H1 Q else tb σ H1 Q
theorem aga {c:Expr} (hc:PT X c tA) (ha:PE X a ta) (hb:PE X b tb):PE X (.IfExp c a b pos) (tIf tA ta tb):=by
 intro Kp s σ H Q I h
 refine wpAny_IfExp (thn (hc Kp s σ H _ I h) fun d s1 ⟨H1,I1,q1⟩=>?_)
 cases d with
 | true=>exact ha Kp s1 σ H1 Q I1 q1
 | false=>exact hb Kp s1 σ H1 Q I1 q1
end
noncomputable def SqL (K:Fg) (H:Hp) (a:Addr) (xs:List V):Prop:=
 Rd H a (.lst xs) ∨
  ∃ (o:Obj) (its:Array Value) (n:Nat),K.lookup a=some o/\o.cls= .type "list"/\o.dict=none/\o.data= .seq its n/\its.size<=sizeLine/\jQ xs its.toList
noncomputable def SqT (K:Fg) (H:Hp) (a:Addr) (xs:List V):Prop:=
 Rd H a (.tup xs) ∨
  ∃ (o:Obj) (its:Array Value) (n:Nat),K.lookup a=some o/\o.cls= .type "tuple"/\o.data= .seq its n/\its.size<=sizeLine/\jQ xs its.toList
noncomputable def ar4:Value->Option V
 | .none=>some .non
 | .bool b=>some (.bl b)
 | .int i _=>some (.int i)
 | .str x _=>some (.str x)
 | .bytes b _=>some (.byt b)
 | .float b _=>some (.flt b)
 | .ref a=>some (.ref a)
 | .type n=>some (.ty n)
 | _=>none
theorem qe.abs {x:V}{u:Value} (r:qe x u):ar4 u=some x:=by
 cases x with
 | non=>cases r; rfl
 | bl _=>cases r; rfl
 | int _=>obtain ⟨t,rfl⟩:=r; rfl
 | str _=>obtain ⟨t,rfl⟩:=r; rfl
 | byt _=>obtain ⟨t,rfl⟩:=r; rfl
 | flt _=>obtain ⟨t,rfl⟩:=r; rfl
 | ref _=>cases r; rfl
 | ty _=>cases r; rfl
theorem qe.inj {x y:V}{u:Value} (r:qe x u) (q:qe y u):x=y:=Option.some.inj (r.abs.symm.trans q.abs)
theorem jQ.inj:∀ {xs ys:List V}{us:List Value},jQ xs us->jQ ys us->xs=ys
 | _,_,_,.nil,.nil=>rfl
 | _,_,_,.cons r t,.cons r' t'=>by rw [r.inj r',jQ.inj t t']
section
variable {X:Cx}{Kp:List (Addr × Obj)}{σ:St}{H:Hp}{s:Shared}{a:Addr}{xs ys:List V}
theorem SqL.of {K:Fg} (h:H a=some (.lst xs)):SqL K H a xs:= .inl (.inl h)
theorem SqT.of {K:Fg} (h:H a=some (.tup xs)):SqT K H a xs:= .inl (.inl h)
theorem Inv.list (I:Inv X Kp σ H s) (h:SqL X.K H a xs):∃ its:List Value,jQ xs its/\PlainL s.heap a its.toArray/\xs.length<=sizeLine:=by
 rcases h with h | ⟨o,its,n,hk,hc,hd,hs,hz,r⟩
 ·obtain ⟨z,its,n,r,e⟩:=h.ok I.hok
  exact ⟨its,r,⟨_,n,e,rfl,rfl,rfl⟩,z⟩
 ·refine ⟨its.toList,r,⟨o,n,I.kIn a o hk,hc,hd,by simpa using hs⟩,?_⟩
  have e:=r.length
  simp only [Array.length_toList] at e
  omega
theorem Inv.tuple (I:Inv X Kp σ H s) (h:SqT X.K H a xs):∃ its:List Value,jQ xs its/\IsTup s.heap a its.toArray/\xs.length<=sizeLine:=by
 rcases h with h | ⟨o,its,n,hk,hc,hs,hz,r⟩
 ·obtain ⟨z,its,r,p⟩:=h.ok I.hok
  exact ⟨its,r,p,z⟩
 ·refine ⟨its.toList,r,⟨o,I.kIn a o hk,hc,n,by simpa using hs⟩,?_⟩
  have e:=r.length
  simp only [Array.length_toList] at e
  omega
theorem Inv.list_inj (I:Inv X Kp σ H s) (h:SqL X.K H a xs) (h':SqL X.K H a ys):xs=ys:=by
 obtain ⟨its,r,⟨o,n,e,_,_,d⟩,_⟩:=I.list h
 obtain ⟨its',r',⟨o',n',e',_,_,d'⟩,_⟩:=I.list h'
 rw [e] at e'; cases e'
 rw [d] at d'
 injection d' with d1 _
 have:its=its':=by simpa using congrArg Array.toList d1
 subst this
 exact r.inj r'
theorem Inv.tuple_inj (I:Inv X Kp σ H s) (h:SqT X.K H a xs) (h':SqT X.K H a ys):xs=ys:=by
 obtain ⟨its,r,⟨o,e,_,n,d⟩,_⟩:=I.tuple h
 obtain ⟨its',r',⟨o',e',_,n',d'⟩,_⟩:=I.tuple h'
 rw [e] at e'; cases e'
 rw [d] at d'
 injection d' with d1 _
 have:its=its':=by simpa using congrArg Array.toList d1
 subst this
 exact r.inj r'
end
noncomputable abbrev Cx.wish (X:Cx) (E:Value->SP0):Cx:={ X with xe:=E }
noncomputable abbrev Cx.nox (X:Cx):Cx:=X.wish fun _ _=>False
theorem Cx.Ok.wish {X:Cx} (ok:X.Ok) (E:Value->SP0):(X.wish E).Ok:=
 ⟨ok.mod,ok.kind,ok.glob,ok.blt,ok.above,ok.inj,ok.has,ok.cab,ok.hd,ok.frames,ok.stk,ok.exf,ok.bs,ok.bsz,ok.noex,ok.exfs,ok.funs,ok.frf⟩
theorem Cx.Ok.unwish {X:Cx}{E:Value->SP0} (ok:(X.wish E).Ok):X.Ok:=
 ⟨ok.mod,ok.kind,ok.glob,ok.blt,ok.above,ok.inj,ok.has,ok.cab,ok.hd,ok.frames,ok.stk,ok.exf,ok.bs,ok.bsz,ok.noex,ok.exfs,ok.funs,ok.frf⟩
section
variable {X:Cx}{Kp:List (Addr × Obj)}{σ:St}{H:Hp}{s:Shared}{E:Value->SP0}
theorem Inv.wish (I:Inv X Kp σ H s) (E:Value->SP0):Inv (X.wish E) Kp σ H s:=⟨I.ok.wish E,I.os,I.bare,I.base,I.loc,I.cell,I.free,I.freeC,I.pin,I.hok,I.len⟩
theorem Inv.unwish (I:Inv (X.wish E) Kp σ H s):Inv X Kp σ H s:=⟨I.ok.unwish,I.os,I.bare,I.base,I.loc,I.cell,I.free,I.freeC,I.pin,I.hok,I.len⟩
theorem SP.unwish {D:Ends}{f:Flow}{s':Shared} (h:SP (X.wish E) Kp D f s'):SP X Kp D f s':=by
 cases f with
 | next=>obtain ⟨σ',H',I,q⟩:=h; exact ⟨σ',H',I.unwish,q⟩
 | brk=>obtain ⟨σ',H',I,q⟩:=h; exact ⟨σ',H',I.unwish,q⟩
 | cont=>obtain ⟨σ',H',I,q⟩:=h; exact ⟨σ',H',I.unwish,q⟩
 | ret u=>obtain ⟨v,σ',H',I,r,q⟩:=h; exact ⟨v,σ',H',I.unwish,r,q⟩
theorem PSs.nox {st:List Stmt}{t:TS} (h:PSs X.nox st t):PSs X st t:=fun Kp s σ H D I hw=>
 wpAny_mono (h Kp s σ H D (I.wish _) hw) (fun _ _ q=>q.unwish) fun _ _ z=>False.elim z
end
section
variable {X:Cx}{st:Stmt}{j9:List Stmt}{t u:TS}{e:Expr}{te:TE}{pos:Pos}
noncomputable def aqS:TS:=fun D σ H=>D.nx σ H
noncomputable def ar5 (t u:TS):TS:=fun D σ H=>t { D with nx:=u D } σ H
theorem ae9:PSs X [] aqS:=fun _ _ σ H _ I h=>wpAny_execs_nil ⟨σ,H,I,h⟩
theorem Qp (h1:PS X st t) (h2:PSs X j9 u):PSs X (st::j9) (ar5 t u):=by
 intro Kp s σ H D I h
 refine wpAny_execs_cons (thn (h1 Kp s σ H { D with nx:=u D } I h) fun f s1 q=>?_)
 cases f with
 | next=>
  obtain ⟨σ',H',I',q⟩:=q
  exact h2 Kp s1 σ' H' D I' q
 | ret v=>exact q
 | brk=>exact q
 | cont=>exact q
theorem afa (h1:PS X st t):PSs X [st] t:=by
 intro Kp s σ H D I h
 refine wpAny_execs_cons (thn (h1 Kp s σ H D I h) fun f s1 q=>?_)
 cases f with
 | next=>exact wpAny_execs_nil q
 | ret v=>exact q
 | brk=>exact q
 | cont=>exact q
theorem Inv.quiet {Kp:List (Addr × Obj)}{σ:St}{H:Hp}{s:Shared} (I:Inv X Kp σ H s):interactive X.env=false:=by simp [interactive,I.ok.kind]
noncomputable def aqT (te:TE):TS:=fun D σ H=>te σ H fun _ H1=>D.nx σ H1
theorem afb (he:PE X e te) (hs:swapsWith e none pos.line X.env=pure false:=by rfl):PS X (.Expr e pos) (aqT te):=by
 intro Kp s σ H D I h
 exact wpAny_Expr_any (thn (he Kp s σ H _ I h) fun v s1 ⟨x,H1,I1,r1,q1⟩=>⟨σ,H1,I1,q1⟩) I.quiet hs
noncomputable def ar6 (te:TE):TS:=fun D σ H=>te σ H D.rt
theorem afc (he:PE X e te):PS X (.Return (some e) pos) (ar6 te):=by
 intro Kp s σ H D I h
 exact wpAny_Return_some (thn (he Kp s σ H _ I h) fun v s1 ⟨x,H1,I1,r1,q1⟩=>⟨x,σ,H1,I1,r1,q1⟩)
noncomputable def ar7 (c:TT) (t u:TS):TS:=fun D σ H=>c σ H fun b H1=>if b=true then t D σ H1 else u D σ H1
theorem akR {c:Expr}{a b:List Stmt}{tc:TT} (hc:PT X c tc) (ha:PSs X a t) (hb:PSs X b u):PS X (.If c a b pos) (ar7 tc t u):=by
 intro Kp s σ H D I h
 refine wpAny_If (thn (hc Kp s σ H _ I h) fun d s1 ⟨H1,I1,q1⟩=>?_)
 cases d with
 | true=>exact ha Kp s1 σ H1 D I1 q1
 | false=>exact hb Kp s1 σ H1 D I1 q1
noncomputable def akS:TS:=fun _ _ _=>False
theorem akT:PS X st akS:=fun _ _ _ _ _ _ h=>h.elim
theorem ajz {sts:List Stmt}:PSs X sts akS:=fun _ _ _ _ _ _ h=>h.elim
end
noncomputable abbrev TG:=V->St->Hp->(St->Hp->Prop)->Prop
noncomputable abbrev TGs:=List V->St->Hp->(St->Hp->Prop)->Prop
noncomputable def PG (X:Cx) (target:Expr) (t:TG):Prop:=
 ∀ (Kp:List (Addr × Obj)) (s:Shared) (σ:St) (H:Hp) (v:V) (u:Value) (Q:St->Hp->Prop),Inv X Kp σ H s->qe v u->t v σ H Q->
  wpAny (model X.prog X.w) X.A (assign target X.env u) (fun _ s'=>∃ σ' H',Inv X Kp σ' H' s'/\Q σ' H') X.xe s
noncomputable def PGs (X:Cx) (ts:List Expr) (t:TGs):Prop:=
 ∀ (Kp:List (Addr × Obj)) (s:Shared) (σ:St) (H:Hp) (vs:List V) (us:List Value) (Q:St->Hp->Prop),Inv X Kp σ H s->jQ vs us->t vs σ H Q->
  wpAny (model X.prog X.w) X.A (assignInOrder ((assignEach ts X.env).map (·.2)) us) (fun _ s'=>∃ σ' H',Inv X Kp σ' H' s'/\Q σ' H') X.xe s
noncomputable abbrev aph:=V->V->V->Hp->(Hp->Prop)->Prop
noncomputable def api (X:Cx) (t:aph):Prop:=
 ∀ (Kp:List (Addr × Obj)) (s:Shared) (σ:St) (H:Hp) (o i v:V) (ov iv u:Value) (Q:Hp->Prop),Inv X Kp σ H s->qe o ov->qe i iv->qe v u->t o i v H Q->
  wpAny (model X.prog X.w) X.A (setItem ov iv u) (fun _ s'=>∃ H',Inv X Kp σ H' s'/\Q H') X.xe s
section
variable {X:Cx}{pos:Pos}
noncomputable def akU (i:Nat):TG:=fun v σ H Q=>Q (σ.set i (some v)) H
theorem aaN {i:Nat}{x:Str} (hN:X.N.Nodup) (hi:X.N[i]?=some x) (hx:Loc X.env.scope x) (hf:X.fn x=true ∨ X.env.scope.names.lookup x=some .local:=by first | exact .inl rfl | exact .inr rfl | assumption):PG X (.Name x pos) (akU i):=by
 intro Kp s σ H v u Q I r h
 exact wpAny_assign_Name (acX I hN hi hx r (fun s' I'=>⟨_,H,I',h⟩) hf)
noncomputable def ar8:TGs:=fun vs σ H Q=>vs=[]/\Q σ H
noncomputable def aqU (t:TG) (u:TGs):TGs:=fun vs σ H Q=>∃ v r,vs=v::r/\t v σ H fun σ' H'=>u r σ' H' Q
theorem aiC:PGs X [] ar8:=by
 intro Kp s σ H vs us Q I r h
 obtain ⟨e,h⟩:=h
 subst e
 cases r
 exact assignInOrder_nil ⟨σ,H,I,h⟩
theorem agb {e:Expr}{es:List Expr}{t:TG}{u:TGs} (h1:PG X e t) (h2:PGs X es u)
  (hs:(assignEach (e::es) X.env).map (·.2)=assign e X.env::(assignEach es X.env).map (·.2):=by rfl):PGs X (e::es) (aqU t u):=by
 intro Kp s σ H vs us Q I r h
 obtain ⟨v,vr,e1,h⟩:=h
 subst e1
 cases r with
 | cons r rr=>
  rw [hs]
  refine assignInOrder_cons (thn (h1 Kp s σ H _ _ _ I r h) fun _ s1 ⟨σ1,H1,I1,q1⟩=>?_)
  exact h2 Kp s1 σ1 H1 _ _ Q I1 rr q1
noncomputable def ar9 (K:Fg) (n:Nat) (t:TGs):TG:=fun v σ H Q=>∃ a xs,v= .ref a/\SqT K H a xs/\xs.length=n/\t xs σ H Q
theorem akV {es:List Expr}{k:Nat}{t:TGs}{n:Nat} (hc:X.calm=true) (h:PGs X es t)
  (hn:(assignEach es X.env).length=n:=by rfl) (hst:(assignEach es X.env).findIdx? (·.1)=none:=by rfl):PG X (.Tuple es k pos) (ar9 X.K n t):=by
 intro Kp s σ H v u Q I r hw
 obtain ⟨a,xs,e1,hq,hl,hw⟩:=hw
 subst e1
 cases r
 obtain ⟨its,rv,ht,hz⟩:=I.tuple hq
 refine assign_Tuple_tuple (I.ok.hd hc) ht (by simp [hn,←hl,rv.length]) hst fun h' hx=>?_
 have I1:Inv X Kp σ H { s with heap:=h' }:=I.kept (t':=s.toks) fun b o e=>hx b o (Nat.ne_of_lt (Heap.lt_size e)) e
 exact h Kp _ σ H xs _ Q I1 (by simpa using rv) hw
noncomputable def asa (to ti:TE) (t:aph):TG:=fun v σ H Q=>to σ H fun o H1=>ti σ H1 fun i H2=>t o i v H2 fun H3=>Q σ H3
theorem akW {o i:Expr}{to ti:TE}{t:aph} (ho:PE X o to) (hi:PE X i ti) (hs:api X t)
  (ha:∀ v,assign (.Subscript o i pos) X.env v=(do
   let ov ←holding [v] (eval o X.env)
   let iv ←holding [v,ov] (eval i X.env)
   standAt pos
   holding [v,ov,iv] (setItem ov iv v)
   release [v,ov,iv] []):=by intro _; rfl):PG X (.Subscript o i pos) (asa to ti t):=by
 intro Kp s σ H v u Q I r h
 rw [ha]
 refine wpAny_bind (wpAny_holding (thn (ho Kp s σ H _ I h) fun ov s1 ⟨x,H1,I1,r1,q1⟩=>?_))
 refine wpAny_bind (wpAny_holding (thn (hi Kp s1 σ H1 _ I1 q1) fun iv s2 ⟨y,H2,I2,r2,q2⟩=>?_))
 refine wpAny_bind (wpAny_standAt (wpAny_bind (wpAny_holding (thn (hs Kp s2 σ H2 x y v ov iv u _ I2 r1 r2 r q2) fun _ s3 ⟨H3,I3,q3⟩=>?_))))
 exact wpAny_release ⟨σ,H3,I3,q3⟩
noncomputable def apj (te:TE) (g:TG):TS:=fun D σ H=>te σ H fun x H1=>g x σ H1 D.nx
theorem akX {tg e:Expr}{te:TE}{g:TG} (he:PE X e te) (hg:PG X tg g) (hs:swapsWithSole [tg] e pos.line X.env=pure false:=by rfl) (hw:swappedStores [tg] e X.env=pure none:=by rfl)
  (h1:(assignEach [tg] X.env).map (·.2)=[assign tg X.env]:=by rfl):PS X (.Assign [tg] e pos) (apj te g):=by
 intro Kp s σ H D I h
 refine wpAny_Assign_stores (thn (he Kp s σ H _ I h) fun v s1 ⟨x,H1,I1,r1,q1⟩=>?_) hs hw
 rw [h1]
 exact thn (hg Kp s1 σ H1 x v _ I1 r1 q1) fun _ s2 q=>q
theorem acY {i:Nat}{x:Str}{e:Expr}{te:TE}{pos':Pos} (hN:X.N.Nodup) (hi:X.N[i]?=some x) (hx:Loc X.env.scope x) (he:PE X e te) (hs:swapsWith e (some (.Name x pos')) pos.line X.env=pure false:=by rfl) (hf:X.fn x=true ∨ X.env.scope.names.lookup x=some .local:=by first | exact .inl rfl | exact .inr rfl | assumption):
  PS X (.Assign [.Name x pos'] e pos) (apj te (akU i)):=by
 intro Kp s σ H D I h
 refine wpAny_Assign_Name (thn (he Kp s σ H _ I h) fun v s1 ⟨y,H1,I1,r1,q1⟩=>?_) hs
 exact acX I1 hN hi hx r1 (fun s2 I2=>⟨_,H1,I2,q1⟩) hf
end
section
variable {X:Cx}{pos:Pos}
noncomputable def apk (c:TT) (tb:TS):TS:=fun D σ H=>∃ W:Nat->St->Hp->Prop,(∃ m,W m σ H)/\∀ m σ H,W m σ H->
 c σ H fun b H1=>if b=true then ∃ N:St->Hp->Prop,(∀ σ' H',N σ' H'->∃ m',m' < m/\W m' σ' H')/\tb { D with nx:=N,ct:=N,bk:=D.nx } σ H1 else D.nx σ H1
theorem agc {c:Expr}{body:List Stmt}{tc:TT}{tb:TS} (hp:PassesOwn (model X.prog X.w) X.A X.env X.xe) (hc:PT X c tc) (hb:PSs X body tb):PS X (.While c body [] pos) (apk tc tb):=by
 intro Kp s σ H D I h
 obtain ⟨W,⟨m0,w0⟩,turn⟩:=h
 refine wpAny_While (codeAny_whileLoop (fun n s'=>∃ σ' H',Inv X Kp σ' H' s'/\W n σ' H') ?_ m0 ⟨σ,H,I,w0⟩)
 rintro n s1 ⟨σ1,H1,I1,w1⟩
 refine wpAny_passesOwn hp (thn (hc Kp s1 σ1 H1 _ I1 (turn n σ1 H1 w1)) fun b s2 ⟨H2,I2,q2⟩=>?_)
 cases b with
 | true=>
  obtain ⟨N,hN,q2⟩:=q2
  rw [if_pos rfl]
  refine wpAny_passesOwn hp (thn (hb Kp s2 σ1 H2 _ I2 q2) fun f s3 q3=>?_)
  cases f with
  | next=>
   obtain ⟨σ3,H3,I3,n3⟩:=q3
   obtain ⟨m',hm,w3⟩:=hN σ3 H3 n3
   exact ⟨m',hm,σ3,H3,I3,w3⟩
  | cont=>
   obtain ⟨σ3,H3,I3,n3⟩:=q3
   obtain ⟨m',hm,w3⟩:=hN σ3 H3 n3
   exact ⟨m',hm,σ3,H3,I3,w3⟩
  | brk=>exact q3
  | ret v=>exact q3
 | false=>
  rw [if_neg Bool.false_ne_true]
  exact wpAny_execs_nil ⟨σ1,H2,I2,q2⟩
end
structure It where
 go:Nat->Hp->Prop
 yld:Nat->Hp->V->Hp->Prop
 stop:Nat->Hp->Prop
noncomputable def afd (X:Cx) (Kp:List (Addr × Obj)) (H:Hp) (b:Addr):Prop:=
 H b=none/\b ≠ X.env.locals/\b ∉ X.fs/\(b ∈ X.ex ∨ X.s₀.heap.objs.size<=b)/\(∀ x c,X.env.cells.lookup x=some c->c ≠ b)/\∀ p ∈ X.pn++Kp,p.1 ≠ b
theorem Inv.fpOk {X:Cx}{Kp:List (Addr × Obj)}{σ:St}{H H':Hp}{s:Shared}{b:Addr} (I:Inv X Kp σ H s) (hb:s.heap.objs.size<=b) (hn:H' b=none):afd X Kp H' b:=by
 refine ⟨hn,Nat.ne_of_gt (Nat.lt_of_lt_of_le I.lt hb),I.nofs hb,.inr (Nat.le_trans I.sz hb),fun x c e z=>?_,fun p hp z=>?_⟩
 ·obtain ⟨v,q⟩:=I.cell x c e
  exact absurd (Nat.lt_of_lt_of_le q.lt (by rw [z]; exact hb)) (Nat.lt_irrefl _)
 ·exact absurd (Nat.lt_of_lt_of_le (Heap.lt_size (I.pin p hp).1) (by rw [z]; exact hb)) (Nat.lt_irrefl _)
structure Turn (P:Program) (w:World) (K:Fg) (tg:Expr) (J:It) (fp:List Addr) (it:Addr) (tn:Nat->Heap->Prop):Prop where
 mem:it ∈ fp
 obj:∀ i h,tn i h->∀ b ∈ fp,∃ o,h.get? b=some o/\∀ v,o.data ≠ .cell v
 keep:∀ i h h',tn i h->(∀ b ∈ fp,∀ o,h.get? b=some o->h'.get? b=some o)->tn i h'
 item:∀ (X:Cx),X.prog=P->X.w=w->X.K=K->X.calm=true->∀ (i:Nat) (Kp:List (Addr × Obj)) (s:Shared) (σ:St) (H:Hp) (E:Value->SP0),Inv X Kp σ H s->(∀ b ∈ fp,afd X Kp H b)->tn i s.heap->J.go i H->
  wpAny (model P w) X.A (pyNext (.ref it)) (fun r s1=>∃ u,r=some u/\
   wpAny (model P w) X.A (letOwnedTupleGo tg (.ref it) u) (fun _ s2=>∃ x H',Inv X Kp σ H' s2/\qe x u/\J.yld i H x H'/\tn (i+1) s2.heap/\∀ b ∈ fp,H' b=none) E s1) E s
 done:∀ (X:Cx),X.prog=P->X.w=w->X.K=K->X.calm=true->∀ (i:Nat) (Kp:List (Addr × Obj)) (s:Shared) (σ:St) (H:Hp) (E:Value->SP0),Inv X Kp σ H s->(∀ b ∈ fp,afd X Kp H b)->tn i s.heap->J.stop i H->
  wpAny (model P w) X.A (pyNext (.ref it)) (fun r s1=>r=none/\Inv X Kp σ H s1) E s
 self:∀ (A:Around) (i:Nat) (s:Shared) (Q:Value->SP0) (E:Value->SP0),tn i s.heap->Q (.ref it) s->wpAny (model P w) A (pyIter (.ref it)) Q E s
noncomputable abbrev TI:=St->Hp->(It->Hp->Prop)->Prop
noncomputable def PIE (X:Cx) (Kp:List (Addr × Obj)) (σ:St) (tg:Expr) (R:It->Hp->Prop) (itv:Value) (s2:Shared):Prop:=
 ∃ (it:Addr) (fp:List Addr) (tn:Nat->Heap->Prop) (J:It) (H':Hp),itv= .ref it/\Inv X Kp σ H' s2/\Turn X.prog X.w X.K tg J fp it tn/\tn 0 s2.heap/\(∀ b ∈ fp,afd X Kp H' b)/\R J H'
noncomputable def PI (X:Cx) (tg iter:Expr) (wi:TI):Prop:=
 ∀ (Kp:List (Addr × Obj)) (s:Shared) (σ:St) (H:Hp) (R:It->Hp->Prop),Inv X Kp σ H s->wi σ H R->
  wpAny (model X.prog X.w) X.A (eval iter X.env) (fun v s1=>wpAny (model X.prog X.w) X.A (pyIter v) (PIE X Kp σ tg R) X.xe s1) X.xe s
theorem akY {M : Model} {A : Around} {E : Value -> Shared -> Prop} {s : Shared} {tg : Expr} {it : Addr} {u : Value} {o : Obj} {n : String} {vs : Array Value} {Q : Unit -> Shared -> Prop} (ho : s.heap.get? it = some o) (hc : o.cls = .type n) (hd : o.data = .fields vs)
    (hn : ["enumerate", "zip", "dict_itemiterator", "dict_reverseitemiterator", "odict_iterator", "itertools.zip_longest", "itertools.pairwise"].contains n = false) (hQ : Q () s) : wpAny M A (letOwnedTupleGo tg (.ref it) u) Q E s := by
  unfold letOwnedTupleGo
  cases tg <;> first
    | exact wpAny_pure hQ
    | (cases u <;> first
        | exact wpAny_pure hQ
        | (refine wpAny_bind (wpAny_load ho ?_)
           rw [hc, hd]
           show wpAny M A (if (["enumerate", "zip", "dict_itemiterator", "dict_reverseitemiterator", "odict_iterator", "itertools.zip_longest", "itertools.pairwise"].contains n && vs[0]? == some (rawInt _)) = true then _ else _) Q E s
           rw [if_neg (by intro h; rw [hn, Bool.false_and] at h; cases h)]
           exact wpAny_pure hQ))
noncomputable def Itl (K:Fg) (a:Addr):It:=
 ⟨fun i H=>∃ xs x,SqL K H a xs/\xs[i]?=some x,fun i H x H'=>H'=H/\∀ xs,SqL K H a xs->xs[i]?=some x,fun i H=>∃ xs,SqL K H a xs/\xs.length<=i⟩
noncomputable def Itt (K:Fg) (a:Addr):It:=
 ⟨fun i H=>∃ xs x,SqT K H a xs/\xs[i]?=some x,fun i H x H'=>H'=H/\∀ xs,SqT K H a xs->xs[i]?=some x,fun i H=>∃ xs,SqT K H a xs/\xs.length<=i⟩
noncomputable def Itr (lo:Int) (n:Nat):It:=⟨fun i _=>i<n,fun i H x H'=>H'=H/\x= .int (lo+i),fun i _=>n<=i⟩
theorem ajA {P:Program}{w:World}{K:Fg}{tg:Expr} (a it:Addr):Turn P w K tg (Itl K a) [it] it (fun i h=>h.IsListIter it a i) where
 mem:=by simp
 obj:=fun i h st b hb=>by
  have e:b=it:=by simpa using hb
  subst e
  obtain ⟨o,e,c,d⟩:=st
  exact ⟨o,e,fun v z=>by rw [d] at z; cases z⟩
 keep:=fun i h h' st k=>st.at fun o e=>k it (by simp) o e
 item:=by
  intro X hP hw hK hc i Kp s σ H E I hf st hg
  subst hP hw hK
  obtain ⟨xs,x,hq,hx⟩:=hg
  obtain ⟨its,rv,p,hz⟩:=I.list hq
  obtain ⟨u,hu,ru⟩:=rv.get hx
  obtain ⟨f0,f1,f2,f3,f4,f5⟩:=hf it (by simp)
  refine wpAny_pyNext_list_item st p.isList (x:=u) (by simpa using hu) fun h' st' sb=>?_
  have I1:Inv X Kp σ H { s with heap:=h' }:=I.turned (t':=s.toks) (fun b o hb e=>(sb.2 b hb).trans e) f0 f1 f3 f4 f5
  obtain ⟨o,e,c,d⟩:=id st'
  exact ⟨u,rfl,akY (s:={ s with heap:=h' }) e c d (by decide) ⟨x,H,I1,ru,⟨rfl,fun ys hy=>by rw [I.list_inj hy hq]; exact hx⟩,st',fun b hb=>(hf b hb).1⟩⟩
 done:=by
  intro X hP hw hK hc i Kp s σ H E I hf st hg
  subst hP hw hK
  obtain ⟨xs,hq,hx⟩:=hg
  obtain ⟨its,rv,p,hz⟩:=I.list hq
  obtain ⟨f0,f1,f2,f3,f4,f5⟩:=hf it (by simp)
  have hl:=rv.length
  exact wpAny_pyNext_list_end (I.ok.hd hc) st p.isList (by simp; omega) fun h' eb=>⟨rfl,I.turned (t':=s.toks) (fun b o hb e=>eb b o hb e) f0 f1 f3 f4 f5⟩
 self:=fun _ _ _ _ _ st h=>wpAny_pyIter_listiter st h
theorem ahx {P:Program}{w:World}{K:Fg}{tg:Expr} (a it:Addr):Turn P w K tg (Itt K a) [it] it (fun i h=>h.IsTupleIter it a i) where
 mem:=by simp
 obj:=fun i h st b hb=>by
  have e:b=it:=by simpa using hb
  subst e
  obtain ⟨o,e,c,d⟩:=st
  exact ⟨o,e,fun v z=>by rw [d] at z; cases z⟩
 keep:=fun i h h' st k=>st.at fun o e=>k it (by simp) o e
 item:=by
  intro X hP hw hK hc i Kp s σ H E I hf st hg
  subst hP hw hK
  obtain ⟨xs,x,hq,hx⟩:=hg
  obtain ⟨its,rv,p,hz⟩:=I.tuple hq
  obtain ⟨u,hu,ru⟩:=rv.get hx
  obtain ⟨f0,f1,f2,f3,f4,f5⟩:=hf it (by simp)
  refine wpAny_pyNext_tuple_item st (show s.heap.IsTuple a its.toArray from p) (x:=u) (by simpa using hu) fun h' st' sb=>?_
  have I1:Inv X Kp σ H { s with heap:=h' }:=I.turned (t':=s.toks) (fun b o hb e=>(sb.2 b hb).trans e) f0 f1 f3 f4 f5
  obtain ⟨o,e,c,d⟩:=id st'
  exact ⟨u,rfl,akY (s:={ s with heap:=h' }) e c d (by decide) ⟨x,H,I1,ru,⟨rfl,fun ys hy=>by rw [I.tuple_inj hy hq]; exact hx⟩,st',fun b hb=>(hf b hb).1⟩⟩
 done:=by
  intro X hP hw hK hc i Kp s σ H E I hf st hg
  subst hP hw hK
  obtain ⟨xs,hq,hx⟩:=hg
  obtain ⟨its,rv,p,hz⟩:=I.tuple hq
  obtain ⟨f0,f1,f2,f3,f4,f5⟩:=hf it (by simp)
  have hl:=rv.length
  exact wpAny_pyNext_tuple_end (I.ok.hd hc) st (show s.heap.IsTuple a its.toArray from p) (by simp; omega) fun h' eb=>⟨rfl,I.turned (t':=s.toks) (fun b o hb e=>eb b o hb e) f0 f1 f3 f4 f5⟩
 self:=fun _ _ _ _ _ st h=>wpAny_pyIter_tupleiter st h
theorem ahy {P:Program}{w:World}{K:Fg}{tg:Expr} (it:Addr) (lo:Int) (n:Nat):Turn P w K tg (Itr lo n) [it] it (fun i h=>IsRangeIter h it (lo+(i:Nat)*1) ((n:Int) - (i:Nat)) 1) where
 mem:=by simp
 obj:=fun i h st b hb=>by
  have e:b=it:=by simpa using hb
  subst e
  exact ⟨_,st,fun v z=>by
   have z':Data.fields _=Data.cell v:=z
   cases z'⟩
 keep:=fun i h h' st k=>k it (by simp) _ st
 item:=by
  intro X hP hw hK hc i Kp s σ H E I hf st hg
  subst hP hw hK
  obtain ⟨f0,f1,f2,f3,f4,f5⟩:=hf it (by simp)
  have W:=Walks.range (prog:=X.prog) (w:=X.w) (I.ok.hd hc) it lo 1 n
  refine W.item i s _ _ hg st fun v h' tk hv st' kk=>?_
  obtain ⟨t,rfl⟩:=hv
  have I1:Inv X Kp σ H { s with heap:=h',toks:=tk }:=I.turned (fun b o hb e=>kk b o (by simpa using hb) e) f0 f1 f3 f4 f5
  refine ⟨_,rfl,akY (s:={ s with heap:=h',toks:=tk }) (n:="range_iterator") st' rfl rfl (by decide) ⟨.int (lo+i),H,I1,⟨t,?_⟩,⟨rfl,rfl⟩,st',fun b hb=>(hf b hb).1⟩⟩
  rw [Int.mul_one]
 done:=by
  intro X hP hw hK hc i Kp s σ H E I hf st hg
  subst hP hw hK
  obtain ⟨f0,f1,f2,f3,f4,f5⟩:=hf it (by simp)
  exact wpAny_pyNext_range_end (I.ok.hd hc) st (by have:n<=i:=hg; omega) fun h' eb=>⟨rfl,I.turned (t':=s.toks) (fun b o hb e=>eb b o hb e) f0 f1 f3 f4 f5⟩
 self:=fun _ _ _ _ _ st h=>wpAny_pyIter_rangeiter st h
section
variable {X:Cx}{tg:Expr}
noncomputable def aqV (K:Fg) (tl:TE):TI:=fun σ H R=>tl σ H fun x H1=>∃ a,x= .ref a/\(∃ xs,SqL K H1 a xs)/\R (Itl K a) H1
noncomputable def asb (K:Fg) (tl:TE):TI:=fun σ H R=>tl σ H fun x H1=>∃ a,x= .ref a/\(∃ xs,SqT K H1 a xs)/\R (Itt K a) H1
theorem am6 {l:Expr}{tl:TE} (hl:PE X l tl):PI X tg l (aqV X.K tl):=by
 intro Kp s σ H R I h
 refine thn (hl Kp s σ H _ I h) fun v s1 ⟨x,H1,I1,r1,q1⟩=>?_
 obtain ⟨a,e,⟨xs,hq⟩,q⟩:=q1
 subst e
 cases r1
 obtain ⟨its,rv,p,hz⟩:=I1.list hq
 refine wpAny_pyIter_list p.isList ?_
 refine ⟨s1.heap.objs.size,[s1.heap.objs.size],_,_,H1,rfl,I1.kept (t':=s1.toks) fun b o e=>Heap.get?_push_of_some _ e,ajA a _,⟨_,Heap.get?_push_size _ rfl,rfl,rfl⟩,fun b hb=>?_,q⟩
 have e:b=s1.heap.objs.size:=by simpa using hb
 subst e
 exact I1.fpOk (Nat.le_refl _) (I1.hok.fresh (Nat.le_refl _))
theorem apl {l:Expr}{tl:TE} (hl:PE X l tl):PI X tg l (asb X.K tl):=by
 intro Kp s σ H R I h
 refine thn (hl Kp s σ H _ I h) fun v s1 ⟨x,H1,I1,r1,q1⟩=>?_
 obtain ⟨a,e,⟨xs,hq⟩,q⟩:=q1
 subst e
 cases r1
 obtain ⟨its,rv,p,hz⟩:=I1.tuple hq
 refine wpAny_pyIter_tuple (show s1.heap.IsTuple a its.toArray from p) ?_
 refine ⟨s1.heap.objs.size,[s1.heap.objs.size],_,_,H1,rfl,I1.kept (t':=s1.toks) fun b o e=>Heap.get?_push_of_some _ e,ahx a _,⟨_,Heap.get?_push_size _ rfl,rfl,rfl⟩,fun b hb=>?_,q⟩
 have e:b=s1.heap.objs.size:=by simpa using hb
 subst e
 exact I1.fpOk (Nat.le_refl _) (I1.hok.fresh (Nat.le_refl _))
theorem akZ {Kp:List (Addr × Obj)}{σ:St}{H:Hp}{s:Shared}{R:It->Hp->Prop}{E:Value->SP0}{lo hi:Int}{t u v:Tok}{tk:Nat} (I:Inv X Kp σ H s) (h1:-(2 ^ 62)<=lo) (h2:lo<2 ^ 62) (h3:-(2 ^ 62)<=hi) (h4:hi<2 ^ 62)
  (q:R (Itr lo (hi - lo).toNat) H):wpAny (model X.prog X.w) X.A (pyIter (.ref s.heap.objs.size)) (PIE X Kp σ tg R) E { s with heap:=s.heap.push { cls:= .type "range",data:= .fields #[.int lo t,.int hi u,.int 1 v] },toks:=tk }:=by
 refine wpAny_pyIter_range (IsRange.new ..) (small_one h1 h2 h3 h4) ?_
 have I1:Inv X Kp σ H { s with heap:=s.heap.push { cls:= .type "range",data:= .fields #[.int lo t,.int hi u,.int 1 v] },toks:=tk }:=I.kept fun b o e=>Heap.get?_push_of_some _ e
 refine ⟨(s.heap.push { cls:= .type "range",data:= .fields #[.int lo t,.int hi u,.int 1 v] }).objs.size,[(s.heap.push { cls:= .type "range",data:= .fields #[.int lo t,.int hi u,.int 1 v] }).objs.size],_,_,H,rfl,
  I1.kept (t':=tk) fun b o e=>Heap.get?_push_of_some _ e,ahy _ lo (hi - lo).toNat,?_,fun b hb=>?_,q⟩
 ·have e1:lo+((0:Nat):Int)*1=lo:=by simp
  have e2:(((hi - lo).toNat:Nat):Int) - ((0:Nat):Int)=Builtin.Range.rangeSize lo hi 1:=by rw [rangeSize_one]; split <;> omega
  show IsRangeIter _ _ (lo+((0:Nat):Int)*1) ((((hi - lo).toNat:Nat):Int) - ((0:Nat):Int)) 1
  rw [e1,e2]
  exact Heap.get?_push_size _ rfl
 ·have e:b=(s.heap.push { cls:= .type "range",data:= .fields #[.int lo t,.int hi u,.int 1 v] }).objs.size:=by simpa using hb
  subst e
  exact I1.fpOk (Nat.le_refl _) (I1.hok.fresh (Nat.le_refl _))
noncomputable def aqW (ta:TA):TI:=fun σ H R=>ta σ H fun vs H1=>∃ j:Int,vs=[.int j]/\-(2 ^ 62)<=j/\j<2 ^ 62/\R (Itr 0 j.toNat) H1
theorem ZP {a:Expr}{ta:TA}{p pos:Pos} (hg:Gl X "range") (hm:X.mg "range"=none) (ha:PA X [a] ta) (hs:starEach [a] X.env=[(false,eval a X.env)]:=by rfl):PI X tg (.Call (.Name "range" p) [a] [] pos) (aqW ta):=by
 intro Kp s σ H R I h
 refine Call_ (aas I hg hm boot_range (PyProof.Rows.callWith_type1 (thn (ha pos Kp s σ H _ I h) fun us s1 ⟨vs,H1,I1,r1,q1⟩=>?_) hs rfl))
 obtain ⟨j,e,q1,q2,q⟩:=q1
 subst e
 cases r1 with
 | cons r rr=>
  cases rr
  obtain ⟨t,rfl⟩:=r
  exact call_range_1 (akZ I1 (by omega) (by omega) q1 q2 (by simpa using q))
noncomputable def asc (wi:TI) (g:TG) (tb:TS):TS:=fun D σ H=>wi σ H fun J H1=>∃ W:Nat->Nat->St->Hp->Prop,(∃ m,W 0 m σ H1)/\∀ i m σ H,W i m σ H->
 (J.stop i H/\D.nx σ H) ∨ (J.go i H/\∃ N:St->Hp->Prop,(∀ σ' H',N σ' H'->∃ m',m' < m/\W (i+1) m' σ' H')/\∀ x H',J.yld i H x H'->g x σ H' fun σ2 H2=>tb { D with nx:=N,ct:=N,bk:=D.nx } σ2 H2)
noncomputable def abF (fp:List Addr) (h:Heap):List (Addr × Obj):=fp.filterMap fun b=>(h.get? b).map fun o=>(b,o)
theorem zX {fp:List Addr}{h:Heap}{b:Addr}{o:Obj} (hb:b ∈ fp) (e:h.get? b=some o):(b,o) ∈ abF fp h:=List.mem_filterMap.mpr ⟨b,hb,by rw [e]; rfl⟩
theorem ajB {fp:List Addr}{h:Heap}{p:Addr × Obj} (hp:p ∈ abF fp h):p.1 ∈ fp/\h.get? p.1=some p.2:=by
 obtain ⟨b,hb,e⟩:=List.mem_filterMap.mp hp
 cases q:h.get? b with
 | none=>rw [q] at e; cases e
 | some o=>
  rw [q] at e
  have e':(b,o)=p:=Option.some.inj e
  subst e'
  exact ⟨hb,q⟩
theorem Inv.pinned {Kp:List (Addr × Obj)}{σ:St}{H:Hp}{s:Shared}{fp:List Addr} (I:Inv X Kp σ H s) (hf:∀ b ∈ fp,afd X Kp H b) (ho:∀ b ∈ fp,∃ o,s.heap.get? b=some o/\∀ v,o.data ≠ .cell v):Inv X (Kp++abF fp s.heap) σ H s:=
 I.pins_of fun p hp=>(List.mem_append.mp hp).elim (fun z=>I.pin p (List.mem_append_right _ z)) fun z=>by
  obtain ⟨hb,e⟩:=ajB z
  obtain ⟨f0,f1,f2,_⟩:=hf p.1 hb
  obtain ⟨o,e',d⟩:=ho p.1 hb
  rw [e] at e'; cases e'
  exact ⟨e,f0,f1,f2,d⟩
theorem Inv.unpinned {Kp pl:List (Addr × Obj)}{σ:St}{H:Hp}{s:Shared} (I:Inv X (Kp++pl) σ H s):Inv X Kp σ H s:=I.pins_of fun p hp=>I.pin p (List.mem_append_right _ (List.mem_append_left _ hp))
theorem acZ {iter:Expr}{body:List Stmt}{wi:TI}{g:TG}{tb:TS}{pos:Pos} (hp:PassesOwn (model X.prog X.w) X.A X.env X.xe) (hc:X.calm=true) (hi:PI X tg iter wi) (hg:PG X tg g) (hb:PSs X body tb)
  (hs:∀ x,foldedSetIterable iter X.env x=pure x:=by intro _; rfl):PS X (.For tg iter body [] pos) (asc wi g tb):=by
 intro Kp s σ H D I h
 refine wpAny_For (thn (hi Kp s σ H _ I h) fun v s1 h1=>thn h1 fun itv s2 h2=>?_) hs
 obtain ⟨it,fp,tn,J,H2,e,I2,T,st2,f2,W,⟨m0,w0⟩,turn⟩:=h2
 subst e
 have stat:∀ {H':Hp},(∀ b ∈ fp,H' b=none)->∀ b ∈ fp,afd X Kp H' b:=fun hn b hb=>⟨hn b hb,(f2 b hb).2⟩
 refine codeAny_forLoop_any (fun n s'=>∃ i σ' H',Inv X Kp σ' H' s'/\tn i s'.heap/\(∀ b ∈ fp,H' b=none)/\W i n σ' H') ?_ m0 ⟨0,σ,H2,I2,st2,fun b hb=>(f2 b hb).1,w0⟩
 rintro n s3 ⟨i,σ3,H3,I3,st3,fr3,w3⟩
 rcases turn i n σ3 H3 w3 with ⟨stop,qn⟩ | ⟨go,N,hN,step⟩
 ·refine wpAny_passesOwn hp (thn (T.done X rfl rfl rfl hc i Kp s3 σ3 H3 X.xe I3 (stat fr3) st3 stop) fun r s4 ⟨hr,I4⟩=>?_)
  subst hr
  exact wpAny_execs_nil ⟨σ3,H3,I4,qn⟩
 ·refine wpAny_passesOwn hp (thn (T.item X rfl rfl rfl hc i Kp s3 σ3 H3 X.xe I3 (stat fr3) st3 go) fun r s4 ⟨u,hr,h4⟩=>?_)
  subst hr
  refine wpAny_passesOwn hp (thn h4 fun _ s5 ⟨x,H5,I5,r5,y5,st5,fr5⟩=>?_)
  have I5':=I5.pinned (stat fr5) (T.obj _ _ st5)
  refine wpAny_passesOwn hp (thn (hg _ s5 σ3 H5 x u _ I5' r5 (step x H5 y5)) fun _ s6 ⟨σ6,H6,I6,q6⟩=>?_)
  refine wpAny_passesOwn hp (thn (hb _ s6 σ6 H6 _ I6 q6) fun f s7 q7=>?_)
  have again:∀ {σ7:St} {H7:Hp},Inv X (Kp++abF fp s5.heap) σ7 H7 s7->N σ7 H7->∃ m,m<n/\∃ i σ' H',Inv X Kp σ' H' s7/\tn i s7.heap/\(∀ b ∈ fp,H' b=none)/\W i m σ' H':=fun {σ7 H7} I7 n7=>by
   obtain ⟨m',hm,w7⟩:=hN σ7 H7 n7
   refine ⟨m',hm,i+1,σ7,H7,I7.unpinned,T.keep _ _ _ st5 fun b hb o e=>(I7.pin (b,o) (List.mem_append_right _ (List.mem_append_right _ (zX hb e)))).1,fun b hb=>?_,w7⟩
   obtain ⟨o,e,d⟩:=T.obj _ _ st5 b hb
   exact (I7.pin (b,o) (List.mem_append_right _ (List.mem_append_right _ (zX hb e)))).2.1
  cases f with
  | next=>obtain ⟨σ7,H7,I7,n7⟩:=q7; exact again I7 n7
  | cont=>obtain ⟨σ7,H7,I7,n7⟩:=q7; exact again I7 n7
  | brk=>obtain ⟨σ7,H7,I7,q7⟩:=q7; exact ⟨σ7,H7,I7.unpinned,q7⟩
  | ret v=>obtain ⟨x7,σ7,H7,I7,r7,q7⟩:=q7; exact ⟨x7,σ7,H7,I7.unpinned,r7,q7⟩
end
theorem aed {lo:Int}{n:Nat}{g:TG}{tb:TS}{D:Ends}{σ:St}{H:Hp} (Pv:Nat->St->Hp->Prop) (h0:Pv 0 σ H)
  (hs:∀ i σ H,i<n->Pv i σ H->g (.int (lo+i)) σ H fun σ2 H2=>tb { D with nx:=Pv (i+1),ct:=Pv (i+1),bk:=D.nx } σ2 H2) (hd:∀ σ H,Pv n σ H->D.nx σ H):
  ∃ W:Nat->Nat->St->Hp->Prop,(∃ m,W 0 m σ H)/\∀ i m σ H,W i m σ H->
   ((Itr lo n).stop i H/\D.nx σ H) ∨ ((Itr lo n).go i H/\∃ N:St->Hp->Prop,(∀ σ' H',N σ' H'->∃ m',m' < m/\W (i+1) m' σ' H')/\∀ x H',(Itr lo n).yld i H x H'->g x σ H' fun σ2 H2=>tb { D with nx:=N,ct:=N,bk:=D.nx } σ2 H2):=by
 refine ⟨fun i m σ H=>m=n - i/\i<=n/\Pv i σ H,⟨n,by simp,Nat.zero_le _,h0⟩,?_⟩
 rintro i m σ H ⟨rfl,hi,p⟩
 by_cases hlt:i<n
 ·refine .inr ⟨hlt,Pv (i+1),fun σ' H' p'=>⟨n - (i+1),by omega,rfl,hlt,p'⟩,fun x H' y=>?_⟩
  obtain ⟨e,y⟩:=y
  subst e y
  exact hs i σ _ hlt p
 ·have e:i=n:=by omega
  subst e
  exact .inl ⟨Nat.le_refl _,hd σ H p⟩
noncomputable abbrev R2:=V->V->Hp->VK->Prop
noncomputable def OpR (X:Cx) (f:Value->Value->Sem Value) (r:R2):Prop:=
 ∀ (Kp:List (Addr × Obj)) (s:Shared) (σ:St) (H:Hp) (x y:V) (v u:Value) (Q:VK),Inv X Kp σ H s->qe x v->qe y u->r x y H Q->
  wpAny (model X.prog X.w) X.A (f v u) (EP X Kp σ Q) X.xe s
noncomputable def UnR (X:Cx) (f:Value->Sem Value) (r:V->Hp->VK->Prop):Prop:=
 ∀ (Kp:List (Addr × Obj)) (s:Shared) (σ:St) (H:Hp) (x:V) (v:Value) (Q:VK),Inv X Kp σ H s->qe x v->r x H Q->
  wpAny (model X.prog X.w) X.A (f v) (EP X Kp σ Q) X.xe s
noncomputable def Jn (X:Cx) (f:Value) (r:List V->Hp->VK->Prop):Prop:=
 ∀ (Kp:List (Addr × Obj)) (s:Shared) (σ:St) (H:Hp) (xs:List V) (us:List Value) (Q:VK),Inv X Kp σ H s->jQ xs us->r xs H Q->
  wpAny (model X.prog X.w) X.A (call f us) (EP X Kp σ Q) X.xe s
noncomputable def tOp (r:R2) (ta tb:TE):TE:=fun σ H Q=>ta σ H fun x H1=>tb σ H1 fun y H2=>r x y H2 Q
noncomputable def tUn (r:V->Hp->VK->Prop) (ta:TE):TE:=fun σ H Q=>ta σ H fun x H1=>r x H1 Q
noncomputable def rI (C:Int->Int->Prop) (g:Int->Int->V):R2:=fun x y H Q=>∃ i j,x= .int i/\y= .int j/\C i j/\Q (g i j) H
noncomputable def rI0 (g:Int->Int->V):R2:=fun x y H Q=>∃ i j,x= .int i/\y= .int j/\Q (g i j) H
noncomputable def rU (g:Int->V):V->Hp->VK->Prop:=fun x H Q=>∃ i,x= .int i/\Q (g i) H
section
variable {X:Cx}{a b c:Expr}{ta tb tc:TE}{pos:Pos}
theorem apm (ha:PE X a ta) (hb:PE X b tb) {Kp:List (Addr × Obj)}{s:Shared}{σ:St}{H:Hp}{R:V->V->Hp->Prop} (I:Inv X Kp σ H s)
  (h:ta σ H fun x H1=>tb σ H1 fun y H2=>R x y H2) {Q:Value->SP0} {f:Value->Value->Sem Value}
  (hf:∀ v u s2 x y H2,Inv X Kp σ H2 s2->qe x v->qe y u->R x y H2->wpAny (model X.prog X.w) X.A (f v u) Q X.xe s2):
  wpAny (model X.prog X.w) X.A (eval a X.env) (fun v s₁=>wpAny (model X.prog X.w) X.A (eval b X.env) (fun u s₂=>wpAny (model X.prog X.w) X.A (f v u) Q X.xe s₂) X.xe s₁) X.xe s:=by
 refine thn (ha Kp s σ H _ I h) fun v s1 ⟨x,H1,I1,r1,q1⟩=>?_
 refine thn (hb Kp s1 σ H1 _ I1 q1) fun u s2 ⟨y,H2,I2,r2,q2⟩=>?_
 exact hf v u s2 x y H2 I2 r1 r2 q2
theorem aoR {op:Operator}{r:R2} (ho:OpR X (binaryOp op) r) (ha:PE X a ta) (hb:PE X b tb):PE X (.BinOp a op b pos) (tOp r ta tb):=by
 intro Kp s σ H Q I h
 exact wpAny_BinOp (apm ha hb I h fun v u s2 x y H2 I2 rx ry q=>ho Kp s2 σ H2 x y v u Q I2 rx ry q)
theorem aoS {op:UnaryOp}{r:V->Hp->VK->Prop} (ho:UnR X (unaryOp op) r) (ha:PE X a ta):PE X (.UnaryOp op a pos) (tUn r ta):=by
 intro Kp s σ H Q I h
 exact UnaryOp_ (thn (ha Kp s σ H _ I h) fun v s1 ⟨x,H1,I1,r1,q1⟩=>ho Kp s1 σ H1 x v Q I1 r1 q1)
theorem opI {f:Value->Value->Sem Value}{C:Int->Int->Prop}{g:Int->Int->Int}
  (rule:∀ (i j:Int) (t u:Tok) (s:Shared) (Q:Value->SP0) (E:Value->SP0),C i j->Q (.int (g i j) s.toks) { s with toks:=s.toks+1 }->wpAny (model X.prog X.w) X.A (f (.int i t) (.int j u)) Q E s):
  OpR X f (rI C fun i j=> .int (g i j)):=by
 intro Kp s σ H x y v u Q I rx ry h
 obtain ⟨i,j,rfl,rfl,hc,q⟩:=h
 obtain ⟨t,rfl⟩:=rx
 obtain ⟨t',rfl⟩:=ry
 exact rule i j t t' s _ _ hc ⟨.int (g i j),H,I.tok _,⟨_,rfl⟩,q⟩
theorem aqX {f:Value->Value->Sem Value}{g:Int->Int->Int}
  (rule:∀ (i j:Int) (t u:Tok) (s:Shared) (Q:Value->SP0) (E:Value->SP0),Q (.int (g i j) s.toks) { s with toks:=s.toks+1 }->wpAny (model X.prog X.w) X.A (f (.int i t) (.int j u)) Q E s):
  OpR X f (rI0 fun i j=> .int (g i j)):=by
 intro Kp s σ H x y v u Q I rx ry h
 obtain ⟨i,j,rfl,rfl,q⟩:=h
 obtain ⟨t,rfl⟩:=rx
 obtain ⟨t',rfl⟩:=ry
 exact rule i j t t' s _ _ ⟨.int (g i j),H,I.tok _,⟨_,rfl⟩,q⟩
theorem am7 {f:Value->Value->Sem Value}{g:Int->Int->Bool}
  (rule:∀ (i j:Int) (t u:Tok) (s:Shared) (Q:Value->SP0) (E:Value->SP0),Q (.bool (g i j)) s->wpAny (model X.prog X.w) X.A (f (.int i t) (.int j u)) Q E s):
  OpR X f (rI0 fun i j=> .bl (g i j)):=by
 intro Kp s σ H x y v u Q I rx ry h
 obtain ⟨i,j,rfl,rfl,q⟩:=h
 obtain ⟨t,rfl⟩:=rx
 obtain ⟨t',rfl⟩:=ry
 exact rule i j t t' s _ _ ⟨.bl (g i j),H,I,rfl,q⟩
noncomputable def asd (i j:Int):Prop:=0<j/\j<1073741824
noncomputable def apn (i j:Int):Prop:=(-(2 ^ 64)<i/\i<2 ^ 64) ∨ (-(2 ^ 64)<j/\j<2 ^ 64)
theorem apn.ok {i j:Int} (h:apn i j):IntMulOk i j:=by
 rcases h with ⟨h1,h2⟩ | ⟨h1,h2⟩
 ·exact .of_left (intBits_le_64 h1 h2)
 ·exact .of_right (intBits_le_64 h1 h2)
theorem apo:OpR X (binaryOp .Add) (rI0 fun i j=> .int (i+j)):=aqX fun _ _ _ _ _ _ _ q=>add_int q
theorem apq:OpR X (binaryOp .Sub) (rI0 fun i j=> .int (i - j)):=aqX fun _ _ _ _ _ _ _ q=>sub_int q
theorem apr:OpR X (binaryOp .Mult) (rI apn fun i j=> .int (i*j)):=opI fun _ _ _ _ _ _ _ hc q=>mul_int q hc.ok
theorem am8:OpR X (binaryOp .FloorDiv) (rI asd fun i j=> .int (i / j)):=opI fun i j _ _ _ _ _ hc q=>by
 have h1:(0:Int)<j:=hc.1
 have h2:j<1073741824:=hc.2
 exact floordiv_int (by omega) (by rw [Int.fdiv_eq_ediv_of_nonneg i (by omega)]; exact q) (.inl (PyProof.noPylong_small (by omega)))
theorem aps:OpR X (binaryOp .Mod) (rI (fun _ j=>0<j) fun i j=> .int (i % j)):=opI fun i j _ _ _ _ _ hc q=>by
 have h1:(0:Int)<j:=hc
 exact mod_int' (by omega) (by rw [Int.fmod_eq_emod_of_nonneg i (by omega)]; exact q)
theorem unI {f:Value->Sem Value}{g:Int->Int}
  (rule:∀ (i:Int) (t:Tok) (s:Shared) (Q:Value->SP0) (E:Value->SP0),Q (.int (g i) s.toks) { s with toks:=s.toks+1 }->wpAny (model X.prog X.w) X.A (f (.int i t)) Q E s):
  UnR X f (rU fun i=> .int (g i)):=by
 intro Kp s σ H x v Q I rx h
 obtain ⟨i,rfl,q⟩:=h
 obtain ⟨t,rfl⟩:=rx
 exact rule i t s _ _ ⟨.int (g i),H,I.tok _,⟨_,rfl⟩,q⟩
theorem ak0:UnR X (unaryOp .USub) (rU fun i=> .int (-i)):=unI fun _ _ _ _ _ q=>neg_int q
end
section
variable {X:Cx}{a b c:Expr}{ta tb tc:TE}{pos:Pos}
theorem apt {Kp:List (Addr × Obj)}{σ:St}{H:Hp}{s:Shared}{Q:VK}{k k':Bool} (I:Inv X Kp σ H s) (q:Q (.bl k) H) (e:k=k'):EP X Kp σ Q (.bool k') s:=by
 subst e
 exact ⟨.bl k,H,I,rfl,q⟩
theorem aqY:OpR X (compareOp .Lt) (rI0 fun i j=> .bl (decide (i<j))):=am7 fun _ _ _ _ _ _ _ q=>lt_int q
theorem aqZ:OpR X (compareOp .LtE) (rI0 fun i j=> .bl (decide (i<=j))):=am7 fun _ _ _ _ _ _ _ q=>le_int q
theorem aq0:OpR X (compareOp .Gt) (rI0 fun i j=> .bl (decide (j<i))):=am7 fun _ _ _ _ _ _ _ q=>gt_int q
theorem aq1:OpR X (compareOp .GtE) (rI0 fun i j=> .bl (decide (j<=i))):=am7 fun _ _ _ _ _ _ _ q=>ge_int q
theorem apu:OpR X (compareOp .Is) (fun x y H Q=>y= .non/\Q (.bl (decide (x= .non))) H):=by
 intro Kp s σ H x y v u Q I rx ry h
 obtain ⟨rfl,q⟩:=h
 cases ry
 refine is_none_gen (apt I q ?_)
 cases x <;> first
  | (cases rx; rfl)
  | (obtain ⟨t,rfl⟩:=rx; rfl)
theorem OpR.or {f:Value->Value->Sem Value}{r r':R2} (h:OpR X f r) (h':OpR X f r'):OpR X f (fun x y H Q=>r x y H Q ∨ r' x y H Q):=by
 intro Kp s σ H x y v u Q I rx ry q
 rcases q with q | q
 ·exact h Kp s σ H x y v u Q I rx ry q
 ·exact h' Kp s σ H x y v u Q I rx ry q
theorem ak1 (b:Expr) {op:CmpOp} (h:op ≠ .In:=by decide) (h2:op ≠ .NotIn:=by decide):behindInMarks op b=false:=by
 have e1:(op == CmpOp.In)=false:=by cases op <;> first | rfl | exact absurd rfl h
 have e2:(op == CmpOp.NotIn)=false:=by cases op <;> first | rfl | exact absurd rfl h2
 cases b <;> simp [behindInMarks,e1,e2]
theorem am9 {op:CmpOp}{r:R2} (ho:OpR X (compareOp op) r) (ha:PE X a ta) (hb:PE X b tb) (hm:behindInMarks op b=false):PE X (.Compare a [op] [b] pos) (tOp r ta tb):=by
 intro Kp s σ H Q I h
 exact wpAny_Compare1 (apm ha hb I h fun v u s2 x y H2 I2 rx ry q=>ho Kp s2 σ H2 x y v u Q I2 rx ry q) hm
noncomputable def aoT (t:TE):TT:=fun σ H Q=>t σ H fun x H'=>∃ k,x= .bl k/\Q k H'
theorem ana {op:CmpOp}{r:R2} (ho:OpR X (compareOp op) r) (ha:PE X a ta) (hb:PE X b tb) (hm:behindInMarks op b=false):PT X (.Compare a [op] [b] pos) (aoT (tOp r ta tb)):=by
 intro Kp s σ H Q I h
 refine wpAny_isTrue_Compare1 (thn (ha Kp s σ H _ I h) fun v s1 ⟨x,H1,I1,r1,q1⟩=>thn (hb Kp s1 σ H1 _ I1 q1) fun u s2 ⟨y,H2,I2,r2,q2⟩=>
  thn (ho Kp s2 σ H2 x y v u _ I2 r1 r2 q2) fun c s3 ⟨z,H3,I3,r3,k,e,q3⟩=>?_) hm
 subst e
 cases r3
 exact wpAny_truthy_bool ⟨H3,I3,q3⟩
noncomputable def ahz (r r':R2) (ta tb tc:TE):TE:=fun σ H Q=>ta σ H fun x H1=>tb σ H1 fun y H2=>r x y H2 fun z H3=>∃ k,z= .bl k/\
 (if k=true then tc σ H3 fun w' H4=>r' y w' H4 Q else Q (.bl false) H3)
theorem ak2 {op op':CmpOp}{r r':R2} (ho:OpR X (compareOp op) r) (ho':OpR X (compareOp op') r') (ha:PE X a ta) (hb:PE X b tb) (hc:PE X c tc)
  (hm:lastMarks [op,op'] [b,c]=false:=by with_unfolding_all rfl):PE X (.Compare a [op,op'] [b,c] pos) (ahz r r' ta tb tc):=by
 intro Kp s σ H Q I h
 refine Compare_chain (thn (ha Kp s σ H _ I h) fun v s1 ⟨x,H1,I1,r1,q1⟩=>chain_link (thn (hb Kp s1 σ H1 _ I1 q1) fun u s2 ⟨y,H2,I2,r2,q2⟩=>
  thn (ho Kp s2 σ H2 x y v u _ I2 r1 r2 q2) fun d s3 ⟨z,H3,I3,r3,k,e,q3⟩=>?_)) hm
 subst e
 cases r3
 refine wpAny_truthy_bool ?_
 cases k with
 | false=>exact ite_ff ⟨.bl false,H3,I3,rfl,q3⟩
 | true=>exact ite_tt (chain_last (thn (hc Kp s3 σ H3 _ I3 q3) fun w' s4 ⟨z',H4,I4,r4,q4⟩=>ho' Kp s4 σ H4 y z' u w' Q I4 r2 r4 q4))
theorem ak3 {op op':CmpOp}{r r':R2} (ho:OpR X (compareOp op) r) (ho':OpR X (compareOp op') r') (ha:PE X a ta) (hb:PE X b tb) (hc:PE X c tc)
  (hm:lastMarks [op,op'] [b,c]=false:=by with_unfolding_all rfl):PT X (.Compare a [op,op'] [b,c] pos) (aoT (ahz r r' ta tb tc)):=by
 intro Kp s σ H Q I h
 refine isTrue_chain (thn (ha Kp s σ H _ I h) fun v s1 ⟨x,H1,I1,r1,q1⟩=>test_link (thn (hb Kp s1 σ H1 _ I1 q1) fun u s2 ⟨y,H2,I2,r2,q2⟩=>
  thn (ho Kp s2 σ H2 x y v u _ I2 r1 r2 q2) fun d s3 ⟨z,H3,I3,r3,k,e,q3⟩=>?_)) hm
 subst e
 cases r3
 refine wpAny_truthy_bool ?_
 cases k with
 | false=>
  obtain ⟨k',e',q'⟩:=q3
  cases e'
  exact ite_ff ⟨H3,I3,q'⟩
 | true=>
  refine ite_tt (test_last (thn (hc Kp s3 σ H3 _ I3 q3) fun w' s4 ⟨z',H4,I4,r4,q4⟩=>thn (ho' Kp s4 σ H4 y z' u w' _ I4 r2 r4 q4) fun d' s5 ⟨z2,H5,I5,r5,k2,e2,q5⟩=>?_))
  subst e2
  cases r5
  exact wpAny_truthy_bool ⟨H5,I5,q5⟩
theorem ac0:(sizeLine:Nat)<2 ^ 63:=by rw [sizeLine_eq]; decide
theorem Zn {x:V}{us:List Value} (r:jQ [x] us):∃ u,us=[u]/\qe x u:=by
 cases r with
 | cons r1 r2=>cases r2; exact ⟨_,rfl,r1⟩
theorem agd {x y:V}{us:List Value} (r:jQ [x,y] us):∃ u w',us=[u,w']/\qe x u/\qe y w':=by
 cases r with
 | cons r1 r2=>
  cases r2 with
  | cons r3 r4=>cases r4; exact ⟨_,_,rfl,r1,r3⟩
theorem ajC (hc:X.calm=true):Jn X (.builtin "max") (fun xs H Q=>∃ i j,xs=[.int i,.int j]/\Q (.int (if j > i then j else i)) H):=by
 intro Kp s σ H xs us Q I r h
 obtain ⟨i,j,rfl,q⟩:=h
 obtain ⟨u,w',rfl,⟨t,rfl⟩,⟨t',rfl⟩⟩:=agd r
 refine max_two_ints (I.ok.hd hc) fun h' tk k=>⟨_,H,I.kept k,?_,q⟩
 by_cases hj:j > i
 ·rw [if_pos hj,if_pos hj]; exact ⟨_,rfl⟩
 ·rw [if_neg hj,if_neg hj]; exact ⟨_,rfl⟩
theorem ajD (hc:X.calm=true):Jn X (.builtin "min") (fun xs H Q=>∃ i j,xs=[.int i,.int j]/\Q (.int (if j<i then j else i)) H):=by
 intro Kp s σ H xs us Q I r h
 obtain ⟨i,j,rfl,q⟩:=h
 obtain ⟨u,w',rfl,⟨t,rfl⟩,⟨t',rfl⟩⟩:=agd r
 refine min_two_ints (I.ok.hd hc) fun h' tk k=>⟨_,H,I.kept k,?_,q⟩
 by_cases hj:j<i
 ·rw [if_pos hj,if_pos hj]; exact ⟨_,rfl⟩
 ·rw [if_neg hj,if_neg hj]; exact ⟨_,rfl⟩
theorem ajE:Jn X (.type "int") (fun xs H Q=>(∃ i,xs=[.int i]/\Q (.int i) H) ∨ ∃ k,xs=[.bl k]/\Q (.int (if k then 1 else 0)) H):=by
 intro Kp s σ H xs us Q I r h
 rcases h with ⟨i,rfl,q⟩ | ⟨k,rfl,q⟩
 ·obtain ⟨u,rfl,t,rfl⟩:=Zn r
  exact call_int_int ⟨.int i,H,I,⟨_,rfl⟩,q⟩
 ·obtain ⟨u,rfl,r1⟩:=Zn r
  cases r1
  exact call_int_bool ⟨.int (if k then 1 else 0),H,I.tok _,⟨_,rfl⟩,q⟩
end
structure ObjM (h:Heap) (x dx C:Addr) (mA:SV):Prop where
 obj:h.get? x=some (PySem.W.instObj C dx)
 ns:h.Ns1 dx mA
 ne:dx ≠ x
section
variable {prog:Program}{w:World}{A:Around}{E:Value->SP0}{s:Shared}{K:Fg}{x dx C f:Addr}{mA:SV}{name:Str}{v:Value}
end
noncomputable def ase (f:Str) (v:V):List (Str × V)->List (Str × V)
 | []=>[(f,v)]
 | (g,x)::r=>if g=f then (g,v)::r else (g,x)::ase f v r
section
variable {P:Program}{w:World}{H H':Hp}{h h':Heap}{a C dx:Addr}{fs fs':List (Str × V)}
end
structure Cls (K:Fg) (C:Addr):Prop where
 pg:PySem.W.plainGet K C Str.empty=true
 hd:PySem.W.hasDictIn K C=true
 po:PySem.W.plainOver K C=true
 sa:PySem.W.findIn K (.ref C) "__setattr__"=some (some (.builtin "object.__setattr__"))
noncomputable def apv (K:Fg) (C:Addr) (f:Str):Prop:=PySem.W.findIn K (.ref C) f=some none
structure Con (K:Fg) (C:Addr) (f:Str) (v:V) (u:Value):Prop where
 at_:PySem.W.findIn K (.ref C) f=some (some u)
 rel:qe v u
 get:PySem.W.specialIn K u "__get__"=some none
 cp:PySem.W.copiedNames.contains f=false
structure Meth (K:Fg) (C:Addr) (m:Str) (f:Addr):Prop where
 at_:PySem.W.findIn K (.ref C) m=some (some (.ref f))
 fn:PySem.W.isFn K (.ref f)=true
 kp:PySem.W.keepIn K (.ref f)=true
section
variable {X:Cx}{Kp:List (Addr × Obj)}{σ:St}{H:Hp}{s:Shared}{a C dx:Addr}{fs:List (Str × V)}{f:Str}{v:V}{A:Around}{E:Value->SP0}
end
section
variable {X:Cx}{o e value:Expr}{f:Str}{pos pos' tpos:Pos}{ta tv:TE}
end
section
variable {X:Cx}{Kp:List (Addr × Obj)}{σ:St}{H:Hp}{s:Shared}{A:Around}{E:Value->SP0}{Q:Value->SP0}{c:Value}{b:Bool}
inductive TyOf (K:Fg) (H:Hp):V->Value->Prop where
 | non:TyOf K H .non (.type "NoneType")
 | bl (x:Bool):TyOf K H (.bl x) (.type "bool")
 | int (i:Int):TyOf K H (.int i) (.type "int")
 | str (x:Str):TyOf K H (.str x) (.type "str")
 | flt (x:UInt64):TyOf K H (.flt x) (.type "float")
 | lst {a:Addr} {xs:List V} (e:H a=some (.lst xs)):TyOf K H (.ref a) (.type "list")
 | frz {a:Addr} {o:Obj} {xs:List V} (e:H a=some (.frz o (.lst xs))):TyOf K H (.ref a) (.type "list")
 | tup {a:Addr} {xs:List V} (e:H a=some (.tup xs)):TyOf K H (.ref a) (.type "tuple")
 | dK {a:Addr} {kvs:List (Key × V)} (e:H a=some (.dK kvs)):TyOf K H (.ref a) (.type "dict")
 | dT {a:Addr} {kvs:List (List Key × V)} (e:H a=some (.dT kvs)):TyOf K H (.ref a) (.type "dict")
 | ins {a C dx:Addr} {fs:List (Str × V)} (e:H a=some (.ins C dx fs)) (cl:Cls K C) (ha:PySem.W.findIn K (.ref C) "__class__"=some (some (.builtin "object.__class__")))
   (hn:PySem.W.specialIn K (.builtin "object.__class__") "__get__"=some (some (.builtin "getset_descriptor.__get__"))) (htk:PySem.W.takesIn K (.builtin "object.__class__")=some true)
   (hm:PySem.W.mroIn K C (.type "object")=some true):TyOf K H (.ref a) (.ref C)
end
structure Room (k:Nat) (A:Around):Prop where
 hd:A.handled=none
 dp:A.depth+3*k+5<recursionLimit
 un:A.units+16*k+200<cLine
theorem Room.mono {j k:Nat}{A:Around} (r:Room k A) (h:j<=k):Room j A:=⟨r.hd,by have:=r.dp; omega,by have:=r.un; omega⟩
theorem Room.deeper {k:Nat}{A:Around} (r:Room (k+1) A) (env:Env):Room k (A.deeper env):=
 ⟨r.hd,by have:=r.dp; show A.depth+1+3*k+5<_; omega,by have:=r.un; show A.units+3+16*k+200<_; omega⟩
theorem Room.in1 {k:Nat}{A:Around} (r:Room (k+1) A):Room k A.in1:=
 ⟨r.hd,by have:=r.dp; show A.depth+3*k+5<_; omega,by have:=r.un; show A.units+1+16*k+200<_; omega⟩
theorem Room.depth {k:Nat}{A:Around} (r:Room k A):A.depth<recursionLimit:=by have:=r.dp; omega
theorem Room.units {k:Nat}{A:Around} (r:Room k A):A.units+64<cLine:=by have:=r.un; omega
noncomputable def anb:TA:=fun _ H Q=>Q [] H
noncomputable def age (ta:TE) (tr:TA):TA:=fun σ H Q=>ta σ H fun x H1=>tr σ H1 fun xs H2=>Q (x::xs) H2
section
variable {X:Cx}{e:Expr}{es:List Expr}{te:TE}{t:TA}{pos:Pos}
theorem adY {α:Type}:∀ (us:List α),us.length=1->∃ a,us=[a]
 | [a],_=>⟨a,rfl⟩
theorem aat {α:Type} (us:List α) (h:us.length=2):∃ a b,us=[a,b]:=by
 cases us with
 | nil=>cases h
 | cons a r=>obtain ⟨b,rfl⟩:=adY r (Nat.succ.inj h); exact ⟨a,b,rfl⟩
theorem aco {α:Type} (us:List α) (h:us.length=3):∃ a b c,us=[a,b,c]:=by
 cases us with
 | nil=>cases h
 | cons a r=>obtain ⟨b,c,rfl⟩:=aat r (Nat.succ.inj h); exact ⟨a,b,c,rfl⟩
theorem ahA {α:Type} (us:List α) (h:us.length=4):∃ a b c d,us=[a,b,c,d]:=by
 cases us with
 | nil=>cases h
 | cons a r=>obtain ⟨b,c,d,rfl⟩:=aco r (Nat.succ.inj h); exact ⟨a,b,c,d,rfl⟩
theorem zn:PA X [] anb:=fun _ _ _ _ H Q I h=>Calls.spliced_nil ⟨[],H,I,.nil,h⟩
theorem qt (ha:PE X e te) (hr:PA X es t) (hs:starEach (e::es) X.env=(false,eval e X.env)::starEach es X.env:=by rfl):PA X (e::es) (age te t):=by
 intro pos Kp s σ H Q I h
 rw [hs]
 show wpAny _ _ (spliced ((false,eval e X.env)::backTo pos (starEach es X.env))) _ _ s
 refine Calls.spliced_cons (thn (ha Kp s σ H _ I h) fun u s1 ⟨x,H1,I1,r1,q1⟩=>?_)
 exact thn (hr pos Kp s1 σ H1 _ I1 q1) fun us s2 ⟨xs,H2,I2,r2,q2⟩=>⟨x::xs,H2,I2,.cons r1 r2,q2⟩
noncomputable def asf (t:TA):TE:=fun σ H Q=>t σ H fun xs H1=>xs.length<=sizeLine/\∀ p,H1 p=none->Q (.ref p) (upd H1 p (.tup xs))
noncomputable def asg (t:TA):TE:=fun σ H Q=>t σ H fun xs H1=>xs.length<=sizeLine/\∀ p,H1 p=none->Q (.ref p) (upd H1 p (.lst xs))
theorem ahB {x1} (h:PA X es t):PE X (.Tuple es x1 pos) (asf t):=by
 intro Kp s σ H Q I hq
 refine wpAny_Tuple_spliced (thn (h pos Kp s σ H _ I hq) fun us s1 ⟨xs,H1,I1,r,z,q⟩=>⟨by rw [←r.length]; exact z,?_⟩)
 have hf:H1 s1.heap.objs.size=none:=I1.hok.fresh (Nat.le_refl _)
 refine ⟨.ref s1.heap.objs.size,upd H1 s1.heap.objs.size (.tup xs),I1.laid (t':=s1.toks) (fun b u e=>Heap.get?_push_of_some _ e) (Nat.le_refl _) ?_,rfl,q _ hf⟩
 exact ⟨z,us,r,⟨_,Heap.get?_push_size _ rfl,rfl,_,rfl⟩⟩
theorem afe (h:PA X es t):PE X (.List es pos) (asg t):=by
 intro Kp s σ H Q I hq
 refine wpAny_List_spliced (thn (h pos Kp s σ H _ I hq) fun us s1 ⟨xs,H1,I1,r,z,q⟩=>⟨by rw [←r.length]; exact z,?_⟩)
 have hf:H1 s1.heap.objs.size=none:=I1.hok.fresh (Nat.le_refl _)
 refine ⟨.ref s1.heap.objs.size,upd H1 s1.heap.objs.size (.lst xs),I1.laid (t':=s1.toks) (fun b u e=>Heap.get?_push_of_some _ e) (Nat.le_refl _) ?_,rfl,q _ hf⟩
 exact ⟨z,us,0,r,Heap.get?_push_size _ rfl⟩
end
noncomputable abbrev Sp:=List V->Hp->VK->XK->Prop
noncomputable abbrev CXT:=List Env->Hp->Shared->XK->Value->SP0
structure Env0 (P:Program) (w:World) (K:Fg) (mg:SV) (base:Heap) (A:Around) (Ko:List Env) (s:Shared) (H:Hp):Prop where
 frames:A.frames=some Ko
 mod:Mod K mg base
 bs:∀ b o,base.get? b=some o->s.heap.get? b=some o/\H b=none
 bsz:base.objs.size<=s.heap.objs.size
 funs:s.heap.FunFrames base Ko
 frf:∀ b ∈ frs Ko,H b=none
 hok:HOk P w H s.heap
 bare:AllBare s.gens
noncomputable def CE (Ko:List Env) (P:Program) (w:World) (H:Hp) (s:Shared) (Q:VK) (u:Value) (s':Shared):Prop:=
 ∃ v H',s'.os=s.os/\AllBare s'.gens/\Un (frs Ko) [] H H' s.heap s'.heap/\HOk P w H' s'.heap/\qe v u/\Q v H'
noncomputable def CR (CX:CXT) (Ko:List Env) (P:Program) (w:World) (H:Hp) (s:Shared) (Q:VK) (E:XK) (r:Result) (s':Shared):Prop:=
 match r with
 | .ok (.ret u)=>CE Ko P w H s Q u s'
 | .ok _=>False
 | .error e=>CX Ko H s E e s'
structure FnOk (P:Program) (w:World) (K:Fg) (mg:SV) (base:Heap) (CX:CXT) (k:Nat) (f:Addr) (fd:FuncData) (ps:List Str) (sp:Sp):Prop where
 len:∀ vs H Q E,sp vs H Q E->vs.length=ps.length
 run:∀ (A:Around) (Ko:List Env) (s:Shared) (H:Hp) (args:Args) (us:List Value) (vs:List V) (Q:VK) (E:XK),Room k A->Env0 P w K mg base A Ko s H->BindsTo s fd args (ps.zip us)->jQ vs us->sp vs H Q E->
  codeAny (model P w) A (.call (.ref f) args) (CR CX Ko P w H s Q E) s
section
variable {X:Cx}{Kp:List (Addr × Obj)}{σ:St}{H:Hp}{s s':Shared}
theorem Inv.env0 (I:Inv X Kp σ H s):Env0 X.prog X.w X.K X.mg X.base X.A X.stack s H:=
 ⟨I.ok.frames,I.ok.mod,I.bs,Nat.le_trans I.ok.bsz I.sz,I.stack,I.stkFree,I.hok,I.bare⟩
theorem Inv.after {Q:VK}{u:Value} (I:Inv X Kp σ H s) (h:CE X.stack X.prog X.w H s Q u s'):EP X Kp σ Q u s':=by
 obtain ⟨v,H',os,bare,un,hok,r,q⟩:=h
 obtain ⟨hh,g,d,t,os'⟩:=s'
 obtain rfl:os'=s.os:=os
 exact ⟨v,H',I.call (h':=hh) (g':=g) (d':=d) (t':=t) (ch:=[]) un hok bare (fun b z=>absurd z (by simp)),r,q⟩
end
noncomputable def ak4 (sp:Sp) (dvs:List V) (E:XK) (t:TA):TE:=fun σ H Q=>t σ H fun vs H1=>sp (vs++dvs) H1 Q E
noncomputable def JZ (K:Fg) (fd:FuncData) (ps:List Str) (ds:List Value):Prop:=
 ∀ (s:Shared) (us:List Value),K.In s.heap->(us++ds).length=ps.length->BindsTo s fd ⟨us,[]⟩ (ps.zip (us++ds))
theorem JZ.all {K:Fg}{fd:FuncData}{ps:List Str} (h:∀ us:List Value,us.length=ps.length->bindArgs fd ⟨us,[]⟩=pure (ps.zip us)):JZ K fd ps []:=fun s us _ hl=>by
 rw [List.append_nil] at hl ⊢
 exact .of_eq (h us hl)
noncomputable def aff (CX:CXT) (X:Cx) (E:XK):Prop:=∀ (Kp:List (Addr × Obj)) (σ:St) (H:Hp) (s:Shared) (e:Value) (s':Shared),Inv X Kp σ H s->CX X.stack H s E e s'->X.xe e s'
section
variable {X:Cx}{CX:CXT}{k:Nat}{f C:Addr}{fd:FuncData}{ps:List Str}{sp:Sp}{dvs:List V}{ds:List Value}{E:XK}{x m:Str}{p pos apos:Pos}{e o:Expr}{es:List Expr}{ta:TE}{t:TA}
theorem afg {Kp:List (Addr × Obj)}{σ:St}{H:Hp}{s:Shared}{Q:VK}{us:List Value}{vs:List V} (F:FnOk X.prog X.w X.K X.mg X.base CX k f fd ps sp) (hr:Room k X.A) (hb:JZ X.K fd ps ds) (hd:jQ dvs ds) (hx:aff CX X E)
  (I:Inv X Kp σ H s) (r:jQ vs us) (h:sp (vs++dvs) H Q E):wpAny (model X.prog X.w) X.A (call (.ref f) us) (EP X Kp σ Q) X.xe s:=by
 have r2:jQ (vs++dvs) (us++ds):=r.append hd
 have hl:(us++ds).length=ps.length:=by rw [←r2.length]; exact F.len _ _ _ _ h
 refine wpAny_call (codeAny_mono (F.run X.A X.stack s H ⟨us,[]⟩ (us++ds) (vs++dvs) Q E hr I.env0 (hb s us I.kIn hl) r2 h) fun r s' hq=>?_)
 cases r with
 | error e=>exact hx Kp σ H s e s' I hq
 | ok fl=>
  cases fl with
  | ret u=>exact I.after hq
  | next=>exact False.elim hq
  | brk=>exact False.elim hq
  | cont=>exact False.elim hq
theorem aiD (F:FnOk X.prog X.w X.K X.mg X.base CX k f fd ps sp) (hr:Room k X.A) (hg:Gl X x) (hm:X.mg x=some (.ref f)) (hk:PySem.W.keepIn X.K (.ref f)=true) (hb:JZ X.K fd ps ds) (hd:jQ dvs ds) (hx:aff CX X E)
  (ha:PA X (e::es) t) (hdb:(x == ("__debug__":Str))=false:=by decide) (he:starEach (e::es) X.env=(false,eval e X.env)::starEach es X.env:=by rfl) (hpl:(backTo pos (starEach es X.env)).any (·.1)=false:=by rfl):
  PE X (.Call (.Name x p) (e::es) [] pos) (ak4 sp dvs E t):=by
 intro Kp s σ H Q I h
 refine wpAny_Call_Name_kw (ZO I hg hm ?_ hdb)
 refine PySem.W.callWith_K (h₀:=X.base) I.ok.mod.kin hk (thn (ha pos Kp s σ H _ I h) fun us s1 ⟨vs,H1,I1,r,q⟩=>⟨I1.kIn,?_⟩) he hpl
 exact afg F hr hb hd hx I1 r q
structure Mk (K:Fg) (C f:Addr):Prop where
 makes:PySem.W.makesIn K C=true
 init:PySem.W.findIn K (.ref C) "__init__"=some (some (.ref f))
 fn:PySem.W.isFn K (.ref f)=true
 kp:PySem.W.keepIn K (.ref C)=true
end
noncomputable def PK (X:Cx) (kws:List Keyword) (t:TA):Prop:=
 ∀ (pos:Pos) (Kp:List (Addr × Obj)) (s:Shared) (σ:St) (H:Hp) (Q:List V->Hp->Prop),Inv X Kp σ H s->t σ H Q->wpAny (model X.prog X.w) X.A (evalAll ((backToKw pos (keywordEach kws X.env)).map (·.2))) (AP X Kp σ Q) X.xe s
section
variable {X:Cx}{CX:CXT}{k:Nat}{f C:Addr}{fd:FuncData}{ps ks:List Str}{sp:Sp}{E:XK}{x m:Str}{p pos apos kpos:Pos}{e o:Expr}{es:List Expr}{kws:List Keyword}{te ta:TE}{t tk:TA}{nm:Option Str}
theorem apw:PK X [] anb:=fun _ _ _ _ H Q I h=>wpAny_evalAll_nil ⟨[],H,I,.nil,h⟩
theorem aiE (ha:PE X e te) (hr:PK X kws t):PK X (⟨nm,e,kpos⟩::kws) (age te t):=by
 intro pos Kp s σ H Q I h
 show wpAny _ _ (evalAll ((do let v ←eval e X.env; standAt pos; pure v)::(backToKw pos (keywordEach kws X.env)).map (·.2))) _ _ s
 refine wpAny_evalAll_cons (wpAny_bind (thn (ha Kp s σ H _ I h) fun u s1 ⟨x,H1,I1,r1,q1⟩=>wpAny_bind (wpAny_standAt (wpAny_pure ?_))))
 exact thn (hr pos Kp s1 σ H1 _ I1 q1) fun us s2 ⟨xs,H2,I2,r2,q2⟩=>⟨x::xs,H2,I2,.cons r1 r2,q2⟩
structure KBinds (K:Fg) (fd:FuncData) (ps ks:List Str) (g:List Value->List Value->List Value) (gV:List V->List V->List V):Prop where
 to:∀ (s:Shared) (us ws:List Value),K.In s.heap->(g us ws).length=ps.length->BindsTo s fd ⟨us,ks.zip ws⟩ (ps.zip (g us ws))
 rel:∀ {vs:List V} {us:List Value} {zs:List V} {ws:List Value},jQ vs us->jQ zs ws->jQ (gV vs zs) (g us ws)
variable {g:List Value->List Value->List Value}{gV:List V->List V->List V}
end
structure FnScope (N P:List Str) (sc:Scope):Prop where
 kind:sc.kind= .function
 co:sc.isCoroutine=false
 gen:sc.isGenerator=false
 nd:N.Nodup
 pre:N.take P.length=P
 par:∀ x ∈ P,sc.names.lookup x=some .local ∨ sc.names.lookup x=some .cell
 nofree:∀ y ∈ sc.names,y.2 ≠ .free
theorem aee {kindOf:Str->Option NameKind}{x:Str}:∀ {binds:List (Str × Value)}{m:SV},(∀ v,(x,v) ∉ binds)->bindL kindOf binds m x=m x
 | [],_,_=>rfl
 | (n,v)::r,m,h=>by
  unfold bindL
  rw [aee fun w hw=>h w (List.mem_cons_of_mem _ hw)]
  split
  ·have:x ≠ n:=by rintro rfl; exact h v List.mem_cons_self
   simp [this]
  ·rfl
theorem aef {kindOf:Str->Option NameKind}{x:Str}:∀ {binds:List (Str × Value)}{m:SV},(∀ v,(x,v) ∉ binds)->bindC kindOf binds m x=m x
 | [],_,_=>rfl
 | (n,v)::r,m,h=>by
  unfold bindC
  rw [aef fun w hw=>h w (List.mem_cons_of_mem _ hw)]
  split
  ·rfl
  ·have:x ≠ n:=by rintro rfl; exact h v List.mem_cons_self
   simp [this]
theorem aeg {kindOf:Str->Option NameKind}{x:Str}{v:Value}:∀ {P:List Str}{vs:List Value}{i:Nat}{m:SV},P.Nodup->P[i]?=some x->vs[i]?=some v->kindOf x=some .local->
  bindL kindOf (P.zip vs) m x=some v
 | [],_,_,_,_,h,_,_=>by simp at h
 | _::_,[],_,_,_,_,h,_=>by simp at h
 | p::P,w::vs,0,m,nd,h1,h2,hk=>by
  simp at h1 h2; subst h1; subst h2
  show bindL kindOf ((p,w)::P.zip vs) m p=_
  unfold bindL
  rw [aee fun v hv=>(List.nodup_cons.mp nd).1 (List.of_mem_zip hv).1,if_pos hk]
  simp
 | p::P,w::vs,i+1,m,nd,h1,h2,hk=>by
  show bindL kindOf ((p,w)::P.zip vs) m x=_
  unfold bindL
  exact aeg (i:=i) (List.nodup_cons.mp nd).2 (by simpa using h1) (by simpa using h2) hk
theorem aeh {kindOf:Str->Option NameKind}{x:Str}{v:Value}:∀ {P:List Str}{vs:List Value}{i:Nat}{m:SV},P.Nodup->P[i]?=some x->vs[i]?=some v->kindOf x ≠ some .local->
  bindC kindOf (P.zip vs) m x=some v
 | [],_,_,_,_,h,_,_=>by simp at h
 | _::_,[],_,_,_,_,h,_=>by simp at h
 | p::P,w::vs,0,m,nd,h1,h2,hk=>by
  simp at h1 h2; subst h1; subst h2
  show bindC kindOf ((p,w)::P.zip vs) m p=_
  unfold bindC
  rw [aef fun v hv=>(List.nodup_cons.mp nd).1 (List.of_mem_zip hv).1,if_neg hk]
  simp
 | p::P,w::vs,i+1,m,nd,h1,h2,hk=>by
  show bindC kindOf ((p,w)::P.zip vs) m x=_
  unfold bindC
  exact aeh (i:=i) (List.nodup_cons.mp nd).2 (by simpa using h1) (by simpa using h2) hk
noncomputable def zV (N:List Str) (vs:List V):St:=vs.map some++List.replicate (N.length - vs.length) none
noncomputable def zT (CX:CXT) (P:Program) (w:World) (K:Fg) (mg:SV) (base:Heap) (N:List Str) (qual:Str) (scope:Scope) (f:Addr) (cd:Value) (A:Around) (Ko:List Env) (s:Shared) (H:Hp) (E:XK):Cx where
 prog:=P
 w:=w
 K:=K
 mg:=mg
 base:=base
 A:=A.deeper (envOfC qual scope s.heap.objs.size f cd)
 N:=N
 s₀:=s
 H₀:=H
 env:=envOfC qual scope s.heap.objs.size f cd
 Ko:=Ko
 stack:=envOfC qual scope s.heap.objs.size f cd::Ko
 ex:=[]
 calm:=true
 fn:=fun _=>true
 pn:=[]
 xe:=fun e s'=>wpAny (model P w) (A.deeper (envOfC qual scope s.heap.objs.size f cd)) (leaving (envOfC qual scope s.heap.objs.size f cd) e) (fun _ s''=>CX Ko H s E e s'') (fun e' s''=>CX Ko H s E e' s'') s'
theorem agf {sc:Scope}{n:Nat}{x:Str} (h:sc.names.lookup x=some .cell):∃ c,(cellsFrom n sc.names []).lookup x=some c:=by
 have q:=PySem.W.cellsFrom_some sc.names n [] (.inl h)
 exact Option.isSome_iff_exists.mp q
theorem abG {CX:CXT}{P:Program}{w:World}{K:Fg}{mg:SV}{base:Heap}{N ps:List Str}{qual:Str}{scope:Scope}{f:Addr}{cd:Value}{A:Around}{Ko:List Env}{s s1:Shared}{H:Hp}{E:XK}{us:List Value}{vs:List V}
  (S:FnScope N ps scope) (hd:A.handled=none) (e0:Env0 P w K mg base A Ko s H) (hl:vs.length=ps.length) (r:jQ vs us)
  (x:InCallC s s.heap.objs.size (bindL (envOfC qual scope s.heap.objs.size f cd).kindOf (ps.zip us) fun _=>none) (cellsFrom (s.heap.objs.size+1) scope.names []) (bindC (envOfC qual scope s.heap.objs.size f cd).kindOf (ps.zip us) fun _=>none) s1):
  Inv (zT CX P w K mg base N qual scope f cd A Ko s H E) [] (zV N vs) H s1:=by
 have hpl:ps.length<=N.length:=by have:=congrArg List.length S.pre; rw [List.length_take] at this; omega
 obtain ⟨h1,tk,rfl,hk⟩:=x.done
 have noA:∀ b:Addr,b ∉ (zT CX P w K mg base N qual scope f cd A Ko s H E).ex:=fun b z=>absurd (show b ∈ ([]:List Addr) from z) (by simp)
 refine ⟨⟨e0.mod,S.kind,rfl,rfl,Nat.le_refl _,fun y z c h1 h2=>?_,fun y hy=>?_,fun y c _ h=>?_,fun _=>hd,Around.frames_deeper e0.frames,.inr ⟨rfl,rfl⟩,fun b z=>absurd z (noA b),e0.bs,e0.bsz,fun b _ _=>noA b,fun b z=>absurd z (noA b),e0.funs,e0.frf⟩,
  rfl,e0.bare,Un.kept hk,⟨_,x.toInCall.ns,fun i y v h1 h2 h3=>?_⟩,fun y c h=>⟨_,x.cell y c h⟩,e0.hok.fresh (Nat.le_refl _),fun y c h=>?_,fun p hp=>absurd (show p ∈ ([]:List (Addr × Obj)) from hp) (by simp),e0.hok.kept hk,?_⟩
 ·exact name_of_addr x.apart (PySem.mem_of_lookup h1) (PySem.mem_of_lookup h2)
 ·have hy:scope.names.lookup y=some .cell ∨ scope.names.lookup y=some .free:=hy
  rcases hy with hy | hy
  ·exact agf hy
  ·exact absurd rfl (S.nofree _ (PySem.mem_of_lookup hy))
 ·exact Nat.le_of_lt (x.above y c (PySem.mem_of_lookup h))
 ·have hi:i<vs.length:=by
   unfold zV at h2
   by_cases hi:i<vs.length
   ·exact hi
   ·rw [List.getElem?_append_right (by simpa using hi)] at h2
    rw [List.getElem?_replicate] at h2
    split at h2 <;> cases h2
  have ha:vs[i]?=some v:=by
   unfold zV at h2
   rw [List.getElem?_append_left (by simpa using hi),List.getElem?_map] at h2
   cases e:vs[i]? with
   | none=>rw [e] at h2; cases h2
   | some a=>rw [e] at h2; cases h2; rfl
  obtain ⟨u,hu,rv⟩:=r.get ha
  have hp:ps[i]?=some y:=by
   rw [←S.pre,List.getElem?_take_of_lt (by omega)]; exact h1
  have ndP:ps.Nodup:=by rw [←S.pre]; exact S.nd.sublist (List.take_sublist _ _)
  refine ⟨u,rv,?_⟩
  rcases S.par y (List.mem_of_getElem? hp) with k | k
  ·exact .inl ⟨k,aeg ndP hp hu k⟩
  ·obtain ⟨c,e⟩:=agf (n:=s.heap.objs.size+1) k
   refine .inr ⟨.inl k,c,e,?_⟩
   have q:=x.cell y c e
   rw [aeh ndP hp hu (by show scope.names.lookup y ≠ _; rw [k]; decide)] at q
   exact q
 ·exact e0.hok.fresh (Nat.le_of_lt (x.above y c (PySem.mem_of_lookup h)))
 ·unfold zV
  show _=N.length
  rw [List.length_append,List.length_map,List.length_replicate]
  omega
theorem aq2 {CX:CXT}{P:Program}{w:World}{K:Fg}{mg:SV}{base:Heap}{k:Nat}{f:Addr}{name qual:Str}{params:Arguments}{body:List Stmt}{scope:Scope}{dV kV doc pm Kc ct oc:Value}{an od:Option Addr}
  {osl:Array (Option Value)} {N ps:List Str} {sp:Sp} (lk:K.lookup f=some ⟨oc,od,.func (PySem.W.fnOf name qual params body scope dV kV doc pm an Kc ct),osl⟩) (hcd:PySem.W.codeIn K Kc qual=true) (S:FnScope N ps scope)
  (len:∀ vs H Q E,sp vs H Q E->vs.length=ps.length)
  (hbody:∀ (A:Around) (Ko:List Env) (s:Shared) (H:Hp) (vs:List V) (Q:VK) (E:XK),Room k (A.deeper (envOfC qual scope s.heap.objs.size f Kc))->sp vs H Q E->
   ∃ t,PSs (zT CX P w K mg base N qual scope f Kc A Ko s H E) body t/\t { nx:=fun _ H'=>Q .non H',rt:=Q } (zV N vs) H):
  FnOk P w K mg base CX (k+1) f (PySem.W.fnOf name qual params body scope dV kV doc pm an Kc ct) ps sp:=by
 refine ⟨len,fun A Ko s H args us vs Q E hr e0 hb r hsp=>?_⟩
 have hl:=len _ _ _ _ hsp
 have KX:K.In s.heap:=e0.mod.kin.keeps fun b o e=>(e0.bs b o e).1
 have lim:s.heap.NoLimit:=e0.mod.nolimit.keeps fun b o e=>(e0.bs b o e).1
 have hkind:∀ y ∈ ps.zip us,scope.names.lookup y.1=some .local ∨ (scope.names.lookup y.1=some .cell/\((cellsFrom (s.heap.objs.size+1) scope.names []).lookup y.1).isSome=true):=fun ⟨n,v⟩ hy=>by
  rcases S.par n (List.of_mem_zip hy).1 with q | q
  ·exact .inl q
  ·exact .inr ⟨q,PySem.W.cellsFrom_some _ _ _ (.inl q)⟩
 refine codeAny_call_function hr.depth (KX _ _ lk) rfl S.co S.gen rfl (PySem.W.codeRec_of KX hcd) (hb _ _ _ _ ?_)
 refine wpAny_newFunctionEnv_cells S.kind hkind fun env he s1 x=>?_
 subst he
 refine ⟨lim.keeps x.toInCall.keep,codeAny_func ?_⟩
 obtain ⟨t,ht,hq⟩:=hbody A Ko s H vs Q E (hr.deeper _) hsp
 have I:Inv (zT CX P w K mg base N qual scope f Kc A Ko s H E) [] (zV N vs) H s1:=abG S hr.hd e0 hl r x
 refine wpAny_mono (ht [] s1 (zV N vs) H _ I hq) (fun fl s' hs=>?_) fun e s' hs=>hs
 have fin:∀ {σ':St} {H':Hp} {v:V} {u:Value},Inv (zT CX P w K mg base N qual scope f Kc A Ko s H E) [] σ' H' s'->qe v u->Q v H'->CE Ko P w H s Q u s':=
  fun {σ' H' v u} J rv q=>⟨v,H',J.os,J.bare,J.base,J.hok,rv,q⟩
 cases fl with
 | ret u=>
  obtain ⟨v,σ',H',J,rv,q⟩:=hs
  exact fin J rv q
 | next=>
  obtain ⟨σ',H',J,q⟩:=hs
  exact fin (v:=V.non) (u:=Value.none) J rfl q
 | brk=>
  obtain ⟨_,_,_,q⟩:=hs
  exact False.elim q
 | cont=>
  obtain ⟨_,_,_,q⟩:=hs
  exact False.elim q
section
variable {X:Cx}{x:Str}{p pos:Pos}{e:Expr}{es:List Expr}{t:TA}{id T:String}{r:List V->Hp->VK->Prop}
noncomputable def tCB (r:List V->Hp->VK->Prop) (t:TA):TE:=fun σ H Q=>t σ H fun vs H1=>r vs H1 Q
theorem aaO (hc:Jn X (.builtin id) r) (hg:Gl X x) (hm:X.mg x=none) (hv:bootBuiltins x=some (.builtin id)) (ha:PA X (e::es) t) (hn:x ≠ "__name__":=by decide) (hdb:(x == ("__debug__":Str))=false:=by decide)
  (he:starEach (e::es) X.env=(false,eval e X.env)::starEach es X.env:=by rfl) (hpl:(backTo pos (starEach es X.env)).any (·.1)=false:=by rfl):PE X (.Call (.Name x p) (e::es) [] pos) (tCB r t):=by
 intro Kp s σ H Q I h
 refine wpAny_Call_Name_kw (aas I hg hm hv ?_ hn hdb)
 exact PyProof.Rows.callWith_builtin1 (thn (ha pos Kp s σ H _ I h) fun us s1 ⟨vs,H1,I1,r1,q1⟩=>hc Kp s1 σ H1 vs us Q I1 r1 q1) he hpl
theorem ZQ (hc:Jn X (.type T) r) (hg:Gl X x) (hm:X.mg x=none) (hv:bootBuiltins x=some (.type T)) (ha:PA X (e::es) t) (hn:x ≠ "__name__":=by decide) (hdb:(x == ("__debug__":Str))=false:=by decide)
  (he:starEach (e::es) X.env=(false,eval e X.env)::starEach es X.env:=by rfl) (hpl:(backTo pos (starEach es X.env)).any (·.1)=false:=by rfl):PE X (.Call (.Name x p) (e::es) [] pos) (tCB r t):=by
 intro Kp s σ H Q I h
 refine wpAny_Call_Name_kw (aas I hg hm hv ?_ hn hdb)
 exact PyProof.Rows.callWith_type1 (thn (ha pos Kp s σ H _ I h) fun us s1 ⟨vs,H1,I1,r1,q1⟩=>hc Kp s1 σ H1 vs us Q I1 r1 q1) he hpl
end
end L2
namespace HT
open PySem PyProof.Rows
noncomputable def lexLt:List Int->List Int->Bool
 | [],[]=>false
 | [],_::_=>true
 | _::_,[]=>false
 | x::xs,y::ys=>if x=y then lexLt xs ys else decide (x<y)
theorem lexLt_cons (x y:Int) (xs ys:List Int):lexLt (x::xs) (y::ys)=if x=y then lexLt xs ys else decide (x<y):=rfl
theorem lexLt_nil_nil:lexLt [] []=false:=rfl
theorem ac1 (y:Int) (ys:List Int):lexLt [] (y::ys)=true:=rfl
theorem ac2 (x:Int) (xs:List Int):lexLt (x::xs) []=false:=rfl
theorem ak5 (A:Around) (s:Shared) (a:Int) (t:Tok) (c:Int) (u:Tok):∃ e,SeqAt.EqAt A s (.int a t) (.int c u) e/\(e=true ↔ a=c):=
 ⟨(a == c),SeqAt.EqAt.int_int a t c u,by simp⟩
theorem ak6 (A:Around) (s:Shared) (a:Int) (t:Tok) (c:Int) (u:Tok) (prog:Program) (w:World) (E:Value->SP0) (Q:Value->SP0) (h:Q (.bool (decide (a<c))) s):
  wpAny (model prog w) A (richCompare .Lt (.int a t) (.int c u)) Q E s:=
 (PyProof.Rows.lt_int h:wpAny (model prog w) A (compareOp .Lt (.int a t) (.int c u)) Q E s)
section
open PySem.SeqAt
open PySem.AutoSeq1 (wpAny_loadPart')
open PySem.MeetsSeq PySem.MeetsSeq2 PySem.MeetsSeq3
theorem adZ (l b:Addr) (items items2:Array Value) (n n2:Nat) (dd dd2:Option Addr) (sl sl2:Array (Option Value)) (ns ms:List Int) (hi:IntsAre items.toList ns) (hj:IntsAre items2.toList ms):
  Meets (Builtin.«tuple.__lt__» ⟨[.ref l,.ref b],[]⟩)
   (fun _ R s=>s.heap.get? l=some { cls:= .type "tuple",dict:=dd,data:= .seq items n,slots:=sl }/\s.heap.get? b=some { cls:= .type "tuple",dict:=dd2,data:= .seq items2 n2,slots:=sl2 }/\
    R (.ok (.ret (.bool (lexLt ns ms)))) s):=
 .of_wp fun prog w A R s h=>by
  obtain ⟨hp,g,d,tk,os⟩:=s; obtain ⟨hl,hb,h⟩:=h
  have f2:=AutoSeq1.sub_tuple_tuple
  have z1:items.size=ns.length:=by rw [←hi.length]; simp
  have z2:items2.size=ms.length:=by rw [←hj.length]; simp
  wp_walk using wpAny_loadPart' hl,wpAny_loadPart' hb,wpAny_forIn_list _ (fun j9 b s'=>b.1=none/\s'=⟨hp,g,d,tk,os⟩/\∃ (vs ws:List Value) (ns' ms':List Int),j9=vs.zip ws/\
   IntsAre vs ns'/\IntsAre ws ms'/\ns'.length+items2.size=ms'.length+items.size/\R (.ok (.ret (.bool (lexLt ns' ms')))) ⟨hp,g,d,tk,os⟩) _
  case turn=>
   rintro ⟨y,x⟩ j9 b s' ⟨hb',rfl,vs,ws,ns',ms',hz,hvi,hwi,hlen,hR⟩
   cases hvi with
   | nil=>rw [List.zip_nil_left] at hz; cases hz
   | cons a t hvi'=>
    cases hwi with
    | nil=>rw [List.zip_nil_right] at hz; cases hz
    | cons c u hwi'=>
     rw [List.zip_cons_cons] at hz
     injection hz with hyx hrest
     injection hyx with hy hx
     subst hy hx
     rw [lexLt_cons] at hR
     simp only [List.length_cons] at hlen
     obtain ⟨e,he,hiff⟩:=ak5 A.in1 ⟨hp,g,d,tk,os⟩ a t c u
     refine wpAny_bind (he prog w _ _ ?_)
     cases e with
     | true=>
      rw [if_pos (hiff.mp rfl)] at hR
      wp_walk
      exact ⟨rfl,rfl,_,_,_,_,hrest,hvi',hwi',by omega,hR⟩
     | false=>
      rw [if_neg (fun q=>absurd (hiff.mpr q) Bool.false_ne_true)] at hR
      have hri:=ak6 A.in1 ⟨hp,g,d,tk,os⟩ a t c u prog w
      wp_walk using hri
      exact ⟨_,rfl,by simpa using hR⟩
  case fin=>
   rintro ⟨b1,b2⟩ s' ⟨hb',rfl,vs,ws,ns',ms',hz,hvi,hwi,hlen,hR⟩
   simp only at hb'
   subst hb'
   have hv:lexLt ns' ms'=decide (items.size<items2.size):=by
    cases hvi with
    | nil=>
     cases hwi with
     | nil=>
      simp only [List.length_nil] at hlen
      rw [lexLt_nil_nil]
      exact (decide_eq_false (by omega)).symm
     | cons c u hw=>
      simp only [List.length_nil,List.length_cons] at hlen
      rw [ac1]
      exact (decide_eq_true (by omega)).symm
    | cons a t hv=>
     cases hwi with
     | nil=>
      simp only [List.length_nil,List.length_cons] at hlen
      rw [ac2]
      exact (decide_eq_false (by omega)).symm
     | cons c u hw=>
      rw [List.zip_cons_cons] at hz
      cases hz
   rw [hv] at hR
   wp_walk
   exact ⟨_,rfl,by simpa [Builtin.Tuple.tupleCompareSizes] using hR⟩
  case h=>
   exact ⟨rfl,rfl,items.toList,items2.toList,ns,ms,rfl,hi,hj,by omega,h⟩
end
section
variable {prog:Program}{w:World}{A:Around}{E:Value->SP0}{s:Shared}
theorem lt_tupInts {l b:Addr}{items items2:Array Value}{ns ms:List Int}{Q:Value->SP0} (hl:IsTup s.heap l items) (hb:IsTup s.heap b items2) (hi:IntsAre items.toList ns) (hj:IntsAre items2.toList ms)
  (hu:A.units<cLine) (h:Q (.bool (lexLt ns ms)) s):wpAny (model prog w) A (compareOp .Lt (.ref l) (.ref b)) Q E s:=by
 obtain ⟨⟨cls,dd,data,sl⟩,ho,hc,n,hd⟩:=id hl
 obtain ⟨⟨cls2,dd2,data2,sl2⟩,ho2,hc2,n2,hd2⟩:=id hb
 simp only at hc hd hc2 hd2
 subst hc hd hc2 hd2
 exact richCompare_meets_room (op:= .Lt) ⟨_,ho,rfl⟩ ⟨_,ho2,rfl⟩ PySem.F.slot_tuple_lt PySem.F.entry_tuple_lt (PySem.F.args_tuple_lt_2 _ _) (adZ l b items items2 n n2 dd dd2 sl sl2 ns ms hi hj)
  ⟨ho,ho2,show Value.bool (lexLt ns ms) ≠ Value.notImplemented/\Q (.bool (lexLt ns ms)) s from ⟨(fun x=>nomatch x),h⟩⟩ hu
theorem cat_tup {t b:Addr}{vs ws:List Value}{Q:Value->SP0} (ht:IsTup s.heap t vs.toArray) (hb:IsTup s.heap b ws.toArray) (hv:vs ≠ [])
  (h1:ws=[]->Q (.ref t) s) (h2:ws ≠ []->Q (.ref s.heap.objs.size) { s with heap:=s.heap.push { cls:= .type "tuple",data:= .seq (vs++ws).toArray } })
  (hsz:vs.length+ws.length<=sizeLine):wpAny (model prog w) A (binaryOp .Add (.ref t) (.ref b)) Q E s:=by
 obtain ⟨⟨cls,dd,data,sl⟩,ho,hc,n,hd⟩:=id ht
 obtain ⟨⟨cls2,dd2,data2,sl2⟩,ho2,hc2,n2,hd2⟩:=id hb
 simp only at hc hd hc2 hd2
 subst hc hd hc2 hd2
 have e:vs.toArray++ws.toArray=(vs++ws).toArray:=by simp
 by_cases hw:ws=[]
 ·exact concat_meets ⟨_,ho,rfl⟩ ⟨_,ho2,rfl⟩ noFill_tuple_add seq_tuple_add PySem.F.slot_tuple_add PySem.F.entry_tuple_add (PySem.F.args_tuple_add_2 _ _)
   (tuple_addW1 t b vs.toArray ws.toArray n n2 dd dd2 sl sl2 (by simpa using hv) (by simp [hw])) ⟨ho,ho2,h1 hw⟩
 ·refine concat_meets ⟨_,ho,rfl⟩ ⟨_,ho2,rfl⟩ noFill_tuple_add seq_tuple_add PySem.F.slot_tuple_add PySem.F.entry_tuple_add (PySem.F.args_tuple_add_2 _ _)
   (tuple_addW2 t b vs.toArray ws.toArray n n2 dd dd2 sl sl2 (by simpa using hv) (by simpa using hw) (by rw [List.size_toArray,List.size_toArray]; exact hsz)) ⟨ho,ho2,?_⟩
  rw [e]
  exact h2 hw
noncomputable def sIx (n d:Nat):Option Int->Nat
 | none=>d
 | some v=>if v<0 then (v+(n:Int)).toNat else min v.toNat n
theorem apx (n d:Nat) (hd:d<=n) (o:Option Int):sIx n d o<=n:=by
 cases o with
 | none=>exact hd
 | some v=>
  show (if v<0 then (v+(n:Int)).toNat else min v.toNat n)<=n
  by_cases hv:v<0
  ·rw [if_pos hv]; omega
  ·rw [if_neg hv]; exact Nat.min_le_right _ _
theorem aiF (v:Int) (n d:Nat):(if v<0 then max (v+(n:Int)) 0 else min v (n:Int))=((sIx n d (some v):Nat):Int):=by
 show (if v<0 then max (v+(n:Int)) 0 else min v (n:Int))=(((if v<0 then (v+(n:Int)).toNat else min v.toNat n):Nat):Int)
 by_cases hv:v<0
 ·simp only [if_pos hv]; omega
 ·simp only [if_neg hv]; omega
theorem ahC (lo hi:Option Int) (n:Nat):Builtin.Slice.sliceAdjust lo hi 1 (n:Int)=(((sIx n 0 lo:Nat):Int),((sIx n n hi:Nat):Int)):=by
 have h1:¬ ((1:Int)<0):=by omega
 unfold Builtin.Slice.sliceAdjust
 simp only [h1,zzN]
 refine Prod.ext ?_ ?_
 ·cases lo with
  | none=>rfl
  | some v=>exact aiF v n 0
 ·cases hi with
  | none=>rfl
  | some v=>exact aiF v n n
theorem ahD (i j:Nat):Builtin.Slice.slicePlaces (i:Int) (j:Int) 1=j - i:=by
 unfold Builtin.Slice.slicePlaces
 have h1:(1:Int) > 0:=by omega
 simp only [h1,zzM,Int.ediv_one]
 split <;> omega
theorem slicePart_ {v:Value}{o:Option Int}{Q:Option Int->SP0} (p:IsPart v o) (h:Q o s):wpAny (model prog w) A (Builtin.Slice.slicePartIndex v) Q E s:=by
 cases p with
 | none=>exact slicePart_none h
 | int i t=>exact slicePart_int h
theorem sliceApplied_gen {sl:Addr}{vl vu:Value}{lo hi:Option Int}{n:Nat}{Q:Int × Int × Nat->SP0} (hs:s.heap.IsSliceOf sl vl vu .none) (pl:IsPart vl lo) (pu:IsPart vu hi)
  (h:Q (((sIx n 0 lo:Nat):Int),1,sIx n n hi - sIx n 0 lo) s):wpAny (model prog w) A (Builtin.Slice.sliceApplied (.ref sl) (pure (n:Int))) Q E s:=by
 obtain ⟨os,hos,hcs,hds⟩:=id hs
 unfold Builtin.Slice.sliceApplied Builtin.Slice.sliceFields
 refine wpAny_bind (wpAny_bind (wpAny_field hos hds (x:=vl) rfl (wpAny_bind (wpAny_field hos hds (x:=vu) rfl (wpAny_bind (wpAny_field hos hds (x:= .none) rfl (wpAny_pure ?_)))))))
 refine wpAny_bind (slicePart_none ?_)
 show wpAny _ _ (if ((1:Int) == 0)=true then _ else _) _ _ s
 rw [if_neg (by decide)]
 refine wpAny_bind (slicePart_ pl (wpAny_bind (slicePart_ pu (wpAny_bind (wpAny_pure ?_)))))
 show wpAny _ _ (match Builtin.Slice.sliceAdjust lo hi 1 (n:Int) with | (lo,hi)=>pure (lo,(1:Int),Builtin.Slice.slicePlaces lo hi 1)) _ _ s
 rw [ahC lo hi n]
 show wpAny _ _ (pure (((sIx n 0 lo:Nat):Int),(1:Int),Builtin.Slice.slicePlaces ((sIx n 0 lo:Nat):Int) ((sIx n n hi:Nat):Int) 1)) _ _ s
 rw [ahD]
 exact wpAny_pure h
theorem ak7 (xs:Array Value) (i k:Nat):((List.range k).filterMap fun (m:Nat)=>xs[((i:Int)+(m:Int)*1).toNat]?).toArray=((xs.toList.drop i).take k).toArray:=by
 have e:(fun (m:Nat)=>xs[((i:Int)+(m:Int)*1).toNat]?)=fun m=>xs[i+m]?:=by
  funext m
  have:((i:Int)+(m:Int)*1).toNat=i+m:=by omega
  rw [this]
 rw [e]
 have:=pick_run xs i k
 rw [List.filterMap_map] at this
 have e2:((fun x=>xs[x]?) ∘ fun x=>i+x)=fun m=>xs[i+m]?:=rfl
 rw [e2] at this
 rw [this]
theorem getItem_tuple_cut {t sl:Addr}{items:Array Value}{vl vu:Value}{lo hi:Option Int}{Q:Value->SP0} (ht:IsTup s.heap t items) (hs:s.heap.IsSliceOf sl vl vu .none) (pl:IsPart vl lo) (pu:IsPart vu hi)
  (hw:¬ (sIx items.size 0 lo=0/\sIx items.size items.size hi=items.size))
  (h:Q (.ref s.heap.objs.size) { s with heap:=s.heap.push { cls:= .type "tuple",data:= .seq ((items.toList.drop (sIx items.size 0 lo)).take (sIx items.size items.size hi - sIx items.size 0 lo)).toArray } })
  (hsz:items.size<=sizeLine):wpAny (model prog w) A (getItem (.ref t) (.ref sl)) Q E s:=by
 have htake:sizeOk (.seq ((items.toList.drop (sIx items.size 0 lo)).take (sIx items.size items.size hi - sIx items.size 0 lo)).toArray):=by
  show ((items.toList.drop (sIx items.size 0 lo)).take (sIx items.size items.size hi - sIx items.size 0 lo)).toArray.size<=sizeLine
  rw [List.size_toArray,List.length_take,List.length_drop,Array.length_toList]
  omega
 have hj:sIx items.size items.size hi<=items.size:=apx _ _ (Nat.le_refl _) hi
 obtain ⟨os,hos,hcs,hds⟩:=id hs
 have hTs:s.TypeIs (.ref sl) "slice":=⟨os,hos,hcs⟩
 unfold getItem
 try with_reducible refine wpAny_holding ?_
 first | refine wpAny_bind (wpAny_pure ?_) | skip
 refine wpAny_bind (wpAny_sequenceKey ht.typeIs (by decide) ?_)
 refine wpAny_bind (wpAny_callSpecial?_slot (name:=Str.ofString "__getitem__") ht.typeIs PyProof.Rows.slot_tuple_getitem
  (wpAny_call_entry PyProof.Rows.slot_tuple_getitem ht.typeIs entry_tuple_getitem ?_ (args_tuple_getitem _ _)))
 show wpAny _ _ (Builtin.Tuple.tupleItemsOf (.ref t) >>= _) _ _ s
 refine wpAny_bind (tupleItemsOf_ ht ?_)
 refine wpAny_bind (wpAny_typeOf hTs ?_)
 rw [if_pos (by decide)]
 refine wpAny_bind (sliceApplied_gen hs pl pu ?_)
 have hno:¬ ((((sIx items.size 0 lo:Nat):Int) == 0 && (1:Int) == 1 && (sIx items.size items.size hi - sIx items.size 0 lo) == items.size)=true):=by
  intro q
  rw [Bool.and_eq_true,Bool.and_eq_true] at q
  have q1:((sIx items.size 0 lo:Nat):Int)=0:=eq_of_beq q.1.1
  have q2:sIx items.size items.size hi - sIx items.size 0 lo=items.size:=eq_of_beq q.2
  exact hw ⟨by omega,by omega⟩
 show wpAny _ _ (if (((sIx items.size 0 lo:Nat):Int) == 0 && (1:Int) == 1 && (sIx items.size items.size hi - sIx items.size 0 lo) == items.size)=true then _ else _) _ _ s
 rw [if_neg hno,ak7]
 first
  | exact wpAny_bind (m:=Builtin.Tuple.tupleExact _) (wpAny_newObj_type (wpAny_pure ⟨_,rfl,wpAny_pure h⟩) htake)
  | exact wpAny_bind (m:=Builtin.Tuple.tupleExact _) (wpAny_newObj_type (wpAny_bind (wpAny_pure (wpAny_pure ⟨_,rfl,wpAny_pure h⟩))) htake)
  | exact wpAny_bind (wpAny_bind (m:=Builtin.Tuple.tupleExact _) (wpAny_newObj_type (wpAny_pure (wpAny_pure ⟨_,rfl,wpAny_pure h⟩)) htake))
  | exact wpAny_bind (wpAny_bind (m:=Builtin.Tuple.tupleExact _) (wpAny_newObj_type (wpAny_pure ⟨_,rfl,wpAny_pure h⟩) htake))
end
end HT
namespace L2
open PySem PySem.Spec PyProof.Rows
noncomputable abbrev TO:=St->Hp->(Option Int->Hp->Prop)->Prop
noncomputable def PO (X:Cx) (e:Option Expr) (t:TO):Prop:=
 ∀ (Kp:List (Addr × Obj)) (s:Shared) (σ:St) (H:Hp) (Q:Option Int->Hp->Prop),Inv X Kp σ H s->t σ H Q->
  wpAny (model X.prog X.w) X.A (evalPart e X.env) (fun u s'=>∃ o H',Inv X Kp σ H' s'/\IsPart u o/\Q o H') X.xe s
noncomputable def anc:TO:=fun _ H Q=>Q none H
noncomputable def aq3 (t:TE):TO:=fun σ H Q=>t σ H fun x H1=>∃ i,x= .int i/\Q (some i) H1
section
variable {X:Cx}{e:Expr}{te:TE}{lo hi:Option Expr}{tl th:TO}{pos p2:Pos}
theorem ane:PO X none anc:=by
 intro Kp s σ H Q I h
 rw [evalPart_none]
 exact wpAny_pure ⟨none,H,I,.none,h⟩
theorem aiG (h:PE X e te):PO X (some e) (aq3 te):=by
 intro Kp s σ H Q I hw
 rw [evalPart_some]
 refine thn (h Kp s σ H _ I hw) fun u s1 ⟨x,H1,I1,r1,q1⟩=>?_
 obtain ⟨i,rfl,q⟩:=q1
 obtain ⟨t,rfl⟩:=r1
 exact ⟨some i,H1,I1,.int i t,q⟩
noncomputable def SlR (X:Cx) (r:V->Option Int->Option Int->Hp->VK->Prop):Prop:=
 ∀ (Kp:List (Addr × Obj)) (s:Shared) (σ:St) (H:Hp) (x:V) (v vl vu:Value) (lo hi:Option Int) (sl:Addr) (Q:VK),Inv X Kp σ H s->qe x v->s.heap.IsSliceOf sl vl vu .none->IsPart vl lo->IsPart vu hi->r x lo hi H Q->
  ∃ T id,typeLookup (.type T) "__getitem__"=pure (some (.builtin id))/\s.TypeIs v T/\wpAny (model X.prog X.w) X.A (getItem v (.ref sl)) (EP X Kp σ Q) X.xe s
theorem SlR.or {r r':V->Option Int->Option Int->Hp->VK->Prop} (h:SlR X r) (h':SlR X r'):SlR X (fun x lo hi H Q=>r x lo hi H Q ∨ r' x lo hi H Q):=by
 intro Kp s σ H x v vl vu lo hi sl Q I rx hs pl pu q
 rcases q with q | q
 ·exact h Kp s σ H x v vl vu lo hi sl Q I rx hs pl pu q
 ·exact h' Kp s σ H x v vl vu lo hi sl Q I rx hs pl pu q
noncomputable def tSl (r:V->Option Int->Option Int->Hp->VK->Prop) (te:TE) (tl th:TO):TE:=fun σ H Q=>te σ H fun x H1=>tl σ H1 fun l H2=>th σ H2 fun u H3=>r x l u H3 Q
theorem ak8 {r:V->Option Int->Option Int->Hp->VK->Prop} (hr:SlR X r) (he:PE X e te) (hl:PO X lo tl) (hu:PO X hi th):PE X (.Subscript e (.Slice lo hi none p2) pos) (tSl r te tl th):=by
 intro Kp s σ H Q I h
 refine Subscript_ (thn (he Kp s σ H _ I h) fun v s1 ⟨x,H1,I1,r1,q1⟩=>?_)
 refine wpAny_Slice (thn (hl Kp s1 σ H1 _ I1 q1) fun vl s2 ⟨l,H2,I2,pl,q2⟩=>thn (hu Kp s2 σ H2 _ I2 q2) fun vu s3 ⟨u,H3,I3,pu,q3⟩=>?_)
 rw [evalPart_none]
 refine wpAny_pure ?_
 have I4:Inv X Kp σ H3 { s3 with heap:=s3.heap.push { cls:= .type "slice",data:= .fields #[vl,vu,.none] } }:=I3.kept (t':=s3.toks) fun b ob q=>Heap.get?_push_of_some _ q
 obtain ⟨T,id,hT,ht,hg⟩:=hr Kp { s3 with heap:=s3.heap.push { cls:= .type "slice",data:= .fields #[vl,vu,.none] } } σ H3 x v vl vu l u s3.heap.objs.size Q I4 r1 (Heap.IsSliceOf.new ..) pl pu q3
 show wpAny (model X.prog X.w) X.A (subscriptTail e (.Slice lo hi none p2) v (.ref s3.heap.objs.size)) (EP X Kp σ Q) X.xe { s3 with heap:=s3.heap.push { cls:= .type "slice",data:= .fields #[vl,vu,.none] } }
 exact tail_any (ops:=[.ref s3.heap.objs.size,v]) ht hT hg (by with_unfolding_all rfl)
noncomputable def afh (xs:List V) (lo hi:Option Int):List V:=(xs.drop (HT.sIx xs.length 0 lo)).take (HT.sIx xs.length xs.length hi - HT.sIx xs.length 0 lo)
theorem agg (xs:List V) (lo hi:Option Int):(afh xs lo hi).length<=xs.length:=by
 unfold afh
 rw [List.length_take,List.length_drop]
 omega
noncomputable def aq4 (K:Fg):V->Option Int->Option Int->Hp->VK->Prop:=fun x lo hi H Q=>∃ a xs,x= .ref a/\SqT K H a xs/\
 ¬ (HT.sIx xs.length 0 lo=0/\HT.sIx xs.length xs.length hi=xs.length)/\∀ p,H p=none->Q (.ref p) (upd H p (.tup (afh xs lo hi)))
theorem apy:SlR X (aq4 X.K):=by
 intro Kp s σ H x v vl vu lo hi sl Q I rx hs pl pu h
 obtain ⟨a,xs,rfl,hx,hw,q⟩:=h
 cases rx
 obtain ⟨its,r,ht,hz⟩:=I.tuple hx
 have hlen:its.toArray.size=xs.length:=by rw [List.size_toArray]; exact r.length.symm
 refine ⟨"tuple",_,PyProof.Rows.slot_tuple_getitem.lookup,ht.typeIs,?_⟩
 refine HT.getItem_tuple_cut ht hs pl pu (by rw [hlen]; exact hw) ?_ (by rw [hlen]; exact hz)
 rw [hlen]
 refine ⟨.ref s.heap.objs.size,_,I.laid (t':=s.toks) (o:= .tup (afh xs lo hi)) (fun b ob q=>Heap.get?_push_of_some _ q) (Nat.le_refl _) ?_,rfl,q _ (I.hok.fresh (Nat.le_refl _))⟩
 exact ⟨Nat.le_trans (agg xs lo hi) hz,_,(r.drop (HT.sIx xs.length 0 lo)).take (HT.sIx xs.length xs.length hi - HT.sIx xs.length 0 lo),IsTup.new _ _⟩
noncomputable def aq5 (K:Fg):R2:=fun x y H Q=>∃ a b xs ys,x= .ref a/\y= .ref b/\SqT K H a xs/\SqT K H b ys/\xs ≠ []/\xs.length+ys.length<=sizeLine/\
 (ys=[]->Q (.ref a) H)/\(ys ≠ []->∀ p,H p=none->Q (.ref p) (upd H p (.tup (xs++ys))))
theorem jQ.nil_iff {xs:List V}{us:List Value} (r:jQ xs us):us=[] ↔ xs=[]:=by
 cases r with
 | nil=>simp
 | cons _ _=>simp
theorem anf:OpR X (binaryOp .Add) (aq5 X.K):=by
 intro Kp s σ H x y v u Q I rx ry h
 obtain ⟨a,b,xs,ys,rfl,rfl,ha,hb,hx,hz,q1,q2⟩:=h
 cases rx
 cases ry
 obtain ⟨its,r1,p1,_⟩:=I.tuple ha
 obtain ⟨its2,r2,p2,_⟩:=I.tuple hb
 refine HT.cat_tup p1 p2 (fun z=>hx (r1.nil_iff.mp z)) (fun z=>⟨.ref a,H,I,rfl,q1 (r2.nil_iff.mp z)⟩) (fun z=>?_) (by rw [←r1.length,←r2.length]; exact hz)
 refine ⟨.ref s.heap.objs.size,_,I.laid (t':=s.toks) (o:= .tup (xs++ys)) (fun b ob q=>Heap.get?_push_of_some _ q) (Nat.le_refl _) ?_,rfl,q2 (fun w=>z (r2.nil_iff.mpr w)) _ (I.hok.fresh (Nat.le_refl _))⟩
 exact ⟨by rw [List.length_append]; exact hz,_,r1.append r2,IsTup.new _ _⟩
end
noncomputable def ixN (n:Nat) (i:Int):Option Nat:=if 0<=i then (if i<n then some i.toNat else none) else if -(n:Int)<=i then some (i+n).toNat else none
noncomputable def atI {α:Type} (xs:List α) (i:Int):Option α:=(ixN xs.length i).bind fun j=>xs[j]?
theorem aiH {n:Nat}{i:Int}{j:Nat} (h:ixN n i=some j):seqIndex? i n=some j/\j<n/\-(n:Int)<=i/\i<n:=by
 unfold ixN at h
 by_cases h0:0<=i
 ·rw [if_pos h0] at h
  by_cases h1:i<n
  ·rw [if_pos h1] at h
   have e:i.toNat=j:=Option.some.inj h
   exact ⟨by rw [seqIndex_of h0 h1,e],by omega,by omega,h1⟩
  ·rw [if_neg h1] at h; cases h
 ·rw [if_neg h0] at h
  by_cases h1:-(n:Int)<=i
  ·rw [if_pos h1] at h
   have e:(i+n).toNat=j:=Option.some.inj h
   exact ⟨by rw [seqIndex_neg (by omega) h1,e],by omega,h1,by omega⟩
  ·rw [if_neg h1] at h; cases h
theorem aiI {α:Type}{xs:List α}{i:Int}{v:α} (h:atI xs i=some v):∃ j,seqIndex? i xs.length=some j/\xs[j]?=some v/\j<xs.length/\-(xs.length:Int)<=i/\i<xs.length:=by
 unfold atI at h
 cases e:ixN xs.length i with
 | none=>rw [e] at h; cases h
 | some j=>
  rw [e] at h
  obtain ⟨h1,h2,h3,h4⟩:=aiH e
  exact ⟨j,h1,h,h2,h3,h4⟩
noncomputable def aiJ (b:Expr):Prop:=∀ o i,subscripted b false o i=operate [o,i] (getItem o i)
noncomputable def IxR (X:Cx) (r:R2):Prop:=
 ∀ (value slice:Expr) (Kp:List (Addr × Obj)) (s:Shared) (σ:St) (H:Hp) (x y:V) (v u:Value) (Q:VK),Inv X Kp σ H s->qe x v->qe y u->r x y H Q->
  subscripted slice false v u=operate [v,u] (getItem v u)->wpAny (model X.prog X.w) X.A (subscriptTail value slice v u) (EP X Kp σ Q) X.xe s
noncomputable def MtR (X:Cx) (id:String) (r:V->List V->Hp->VK->Prop):Prop:=
 ∀ (Kp:List (Addr × Obj)) (s:Shared) (σ:St) (H:Hp) (x:V) (xs:List V) (v:Value) (us:List Value) (Q:VK),Inv X Kp σ H s->qe x v->jQ xs us->r x xs H Q->
  wpAny (model X.prog X.w) X.A (call (.builtin id) (v::us)) (EP X Kp σ Q) X.xe s
section
variable {X:Cx}{a b:Expr}{ta tb:TE}{pos:Pos}
theorem IxR.or {r r':R2} (h:IxR X r) (h':IxR X r'):IxR X (fun x y H Q=>r x y H Q ∨ r' x y H Q):=by
 intro value slice Kp s σ H x y v u Q I rx ry q hs
 rcases q with q | q
 ·exact h value slice Kp s σ H x y v u Q I rx ry q hs
 ·exact h' value slice Kp s σ H x y v u Q I rx ry q hs
theorem aq6 {r:R2} (hr:IxR X r) (ha:PE X a ta) (hb:PE X b tb) (hs:aiJ b):PE X (.Subscript a b pos) (tOp r ta tb):=by
 intro Kp s σ H Q I h
 exact Subscript_ (apm ha hb I h fun v u s2 x y H2 I2 rx ry q=>hr a b Kp s2 σ H2 x y v u Q I2 rx ry q (hs _ _))
noncomputable def ash (K:Fg):R2:=fun x y H Q=>∃ p xs i v,x= .ref p/\y= .int i/\SqL K H p xs/\atI xs i=some v/\Q v H
noncomputable def asi (K:Fg):R2:=fun x y H Q=>∃ p xs i v,x= .ref p/\y= .int i/\SqT K H p xs/\atI xs i=some v/\Q v H
theorem ang:IxR X (ash X.K):=by
 intro value slice Kp s σ H x y v u Q I rx ry h hs
 obtain ⟨p,xs,i,z,rfl,rfl,hq,he,q⟩:=h
 cases rx
 obtain ⟨t,rfl⟩:=ry
 obtain ⟨its,r,pl,hz⟩:=I.list hq
 obtain ⟨j,h1,h2,h3,h4,h5⟩:=aiI he
 obtain ⟨w,ew,rw'⟩:=r.get h2
 have hl:=r.length
 have hn:=ac0
 have fin:EP X Kp σ Q w s:=⟨z,H,I,rw',q⟩
 by_cases h0:0<=i
 ·have hj:i.toNat=j:=by
   rw [seqIndex_of h0 h5] at h1
   exact Option.some.inj h1
  exact item_listR pl.isList h0 (by omega) (by rw [hj]; simpa using ew) fin hs
 ·have hj:(i+(its.toArray.size:Int)).toNat=j:=by
   rw [seqIndex_neg (by omega) h4] at h1
   rw [List.size_toArray,←hl]
   exact Option.some.inj h1
  exact subscriptTail_builtinR (x:=w) pl.isList.typeIs slot_list_getitem.lookup
   (wpAny_getItem_list_neg (Q:=fun r s'=>r=w/\EP X Kp σ Q r s') pl.isList (by omega) (by rw [List.size_toArray] <;> omega) (by omega) (by rw [hj]; simpa using ew) ⟨rfl,fin⟩) hs
theorem apz:IxR X (asi X.K):=by
 intro value slice Kp s σ H x y v u Q I rx ry h hs
 obtain ⟨p,xs,i,z,rfl,rfl,hq,he,q⟩:=h
 cases rx
 obtain ⟨t,rfl⟩:=ry
 obtain ⟨its,r,pl,hz⟩:=I.tuple hq
 obtain ⟨j,h1,h2,h3,h4,h5⟩:=aiI he
 obtain ⟨w,ew,rw'⟩:=r.get h2
 have hl:=r.length
 have hn:=ac0
 have fin:EP X Kp σ Q w s:=⟨z,H,I,rw',q⟩
 exact subscriptTail_builtinR (x:=w) pl.typeIs slot_tuple_getitem.lookup
  (getItem_tuple (j:=j) (Q:=fun r s'=>r=w/\EP X Kp σ Q r s') pl (by omega) (by omega) (by rw [List.size_toArray,←hl]; exact h1) (by simpa using ew) ⟨rfl,fin⟩) hs
theorem ahE (its:List Value) (n j:Nat) (u:Value):Obj.mapSeq (·.setIfInBounds j u) { cls:= .type "list",data:= .seq its.toArray n }={ cls:= .type "list",data:= .seq (its.set j u).toArray n }:=by
 simp [Obj.mapSeq]
theorem Inv.lst {Kp:List (Addr × Obj)}{σ:St}{H:Hp}{s:Shared}{p:Addr}{xs:List V} (I:Inv X Kp σ H s) (h:H p=some (.lst xs)):
  ∃ (its:List Value) (n:Nat),jQ xs its/\s.heap.get? p=some { cls:= .type "list",data:= .seq its.toArray n }/\xs.length<=sizeLine:=by
 obtain ⟨z,its,n,r,e⟩:=I.hok p _ h
 exact ⟨its,n,r,e,z⟩
theorem Inv.lstUpd {Kp:List (Addr × Obj)}{σ:St}{H:Hp}{s:Shared}{p:Addr}{xs ys:List V}{its its':List Value}{n n':Nat}{f:Obj->Obj} (I:Inv X Kp σ H s) (h:H p=some (.lst xs))
  (ho:s.heap.get? p=some { cls:= .type "list",data:= .seq its.toArray n }) (hf:f { cls:= .type "list",data:= .seq its.toArray n }={ cls:= .type "list",data:= .seq its'.toArray n' }) (r:jQ ys its') (hz:ys.length<=sizeLine) (t:Nat):
  Inv X Kp σ (upd H p (.lst ys)) { s with heap:=s.heap.update p f,toks:=t }:=by
 have e:(s.heap.update p f).get? p=some { cls:= .type "list",data:= .seq its'.toArray n' }:=by
  rw [Heap.get?_update_self f ho (by rw [hf] <;> rfl),hf]
 refine I.write (x:=p) (e:=p) (by rw [h]; trivial) (.inl rfl) (fun b u hb q=>(Heap.get?_update_other _ _ (Ne.symm hb)).trans q) ⟨_,e⟩ ?_
 exact ⟨hz,its',n',r,e⟩
noncomputable def aq7:V->V->V->Hp->(Hp->Prop)->Prop:=fun o i v H Q=>∃ p xs k j,o= .ref p/\i= .int k/\H p=some (.lst xs)/\ixN xs.length k=some j/\Q (upd H p (.lst (xs.set j v)))
theorem ak9:api X aq7:=by
 intro Kp s σ H o i v ov iv u Q I ro ri rv h
 obtain ⟨p,xs,k,j,rfl,rfl,hp,hj,q⟩:=h
 cases ro
 obtain ⟨t,rfl⟩:=ri
 obtain ⟨its,n,r,ho,hz⟩:=I.lst hp
 obtain ⟨h1,h2,h3,h4⟩:=aiH hj
 have hl:=r.length
 have hn:=ac0
 have I':Inv X Kp σ (upd H p (.lst (xs.set j v))) { s with heap:=s.heap.update p (Obj.mapSeq (·.setIfInBounds j u)) }:=
  I.lstUpd hp ho (ahE its n j u) (r.set rv j) (by rw [List.length_set]; exact hz) s.toks
 by_cases h0:0<=k
 ·have hk:k.toNat=j:=by
   rw [seqIndex_of h0 h4] at h1
   exact Option.some.inj h1
  exact PySem.W.ki_setAt ho h0 (by omega) (by rw [List.size_toArray,←hl]; exact h4) (by rw [hk]; exact ⟨_,I',q⟩)
 ·have hk:(k+(its.toArray.size:Int)).toNat=j:=by
   rw [seqIndex_neg (by omega) h3] at h1
   rw [List.size_toArray,←hl]
   exact Option.some.inj h1
  exact PySem.W.ki_setBack ho (by omega) (by rw [List.size_toArray,←hl]; exact h3) (by omega) (by rw [hk]; exact ⟨_,I',q⟩)
theorem afi:Jn X (.builtin "len") (fun xs H Q=>∃ p ys,xs=[.ref p]/\(SqL X.K H p ys ∨ SqT X.K H p ys)/\Q (.int ys.length) H):=by
 intro Kp s σ H xs us Q I r h
 obtain ⟨p,ys,rfl,hq,q⟩:=h
 obtain ⟨u,rfl,rx⟩:=Zn r
 cases rx
 have hn:=ac0
 rcases hq with hq | hq
 ·obtain ⟨its,r',pl,hz⟩:=I.list hq
  have hlen:=r'.length
  exact Calls.call_len_list pl.isList (by simp only [List.size_toArray] <;> omega) ⟨.int ys.length,H,I.tok _,⟨s.toks+1,by rw [List.size_toArray,hlen]⟩,q⟩
 ·obtain ⟨its,r',pl,hz⟩:=I.tuple hq
  have hlen:=r'.length
  exact len_tuple pl (by simp only [List.size_toArray] <;> omega) ⟨.int ys.length,H,I.tok _,⟨s.toks+1,by rw [List.size_toArray,hlen]⟩,q⟩
theorem aaP:Jn X (.type "list") (fun xs H Q=>∃ p ys,xs=[.ref p]/\(SqL X.K H p ys ∨ SqT X.K H p ys)/\∀ l,H l=none->Q (.ref l) (upd H l (.lst ys))):=by
 intro Kp s σ H xs us Q I r h
 obtain ⟨p,ys,rfl,hq,q⟩:=h
 obtain ⟨u,rfl,rx⟩:=Zn r
 cases rx
 have fin:∀ (its:List Value),jQ ys its->ys.length<=sizeLine->∀ (h':Heap) (c':Nat),(∀ b o',s.heap.get? b=some o'->h'.get? b=some o')->
   h'.get? s.heap.objs.size=some { cls:= .type "list",dict:=none,data:= .seq its.toArray c',slots:=#[] }->EP X Kp σ Q (.ref s.heap.objs.size) { s with heap:=h' }:=fun its r' hz h' c' kp e=>
  ⟨.ref s.heap.objs.size,_,I.laid (t':=s.toks) kp (Nat.le_refl _) (show qV X.prog X.w _ h' _ (.lst ys) from ⟨hz,its,c',r',e⟩),rfl,q _ (I.hok.fresh (Nat.le_refl _))⟩
 rcases hq with hq | hq
 ·obtain ⟨its,r',pl,hz⟩:=I.list hq
  have hlen:=r'.length
  obtain ⟨o,ho,hc,n,hd⟩:=pl.isList
  exact call_list_seq p (.inl rfl) ho hc hd (fun h' c' kp e=>fin its r' hz h' c' kp e) (by simp only [List.size_toArray] <;> omega)
 ·obtain ⟨its,r',pl,hz⟩:=I.tuple hq
  have hlen:=r'.length
  obtain ⟨o,ho,hc,n,hd⟩:=pl
  exact call_list_seq p (.inr rfl) ho hc hd (fun h' c' kp e=>fin its r' hz h' c' kp e) (by simp only [List.size_toArray] <;> omega)
theorem ad0:Jn X (.type "tuple") (fun xs H Q=>∃ p ys,xs=[.ref p]/\((SqL X.K H p ys/\∀ l,H l=none->Q (.ref l) (upd H l (.tup ys))) ∨ (SqT X.K H p ys/\Q (.ref p) H))):=by
 intro Kp s σ H xs us Q I r h
 obtain ⟨p,ys,rfl,h⟩:=h
 obtain ⟨u,rfl,rx⟩:=Zn r
 cases rx
 rcases h with ⟨hq,q⟩ | ⟨hq,q⟩
 ·obtain ⟨its,r',pl,hz⟩:=I.list hq
  have hlen:=r'.length
  refine call_tuple_list pl.isList (fun h' kp=>?_) (by simp only [List.size_toArray] <;> omega)
  have I1:Inv X Kp σ H { s with heap:=h' }:=I.kept (t':=s.toks) kp
  have I2:Inv X Kp σ (upd H h'.objs.size (.tup ys)) { s with heap:=h'.push { cls:= .type "tuple",data:= .seq its.toArray } }:=
   I1.laid (t':=s.toks) (fun b o e=>Heap.get?_push_of_some _ e) (Nat.le_refl _) (show qV X.prog X.w _ _ _ (.tup ys) from ⟨hz,its,r',IsTup.new _ _⟩)
  exact ⟨.ref h'.objs.size,_,I2,rfl,q _ (I1.hok.fresh (Nat.le_refl _))⟩
 ·obtain ⟨its,r',pl,hz⟩:=I.tuple hq
  exact call_tuple_same pl ⟨.ref p,H,I,rfl,q⟩
noncomputable def tyV (K:Fg) (T:String) (x:V) (H:Hp):Prop:=match x with
 | .str _=>T="str"
 | .int _=>T="int"
 | .ref p=>(T="list"/\∃ xs,SqL K H p xs) ∨ (T="tuple"/\∃ o,K.lookup p=some o/\o.cls= .type "tuple"/\o.dict=none) ∨
   (T="dict"/\((∃ kvs,H p=some (.dK kvs)) ∨ ∃ kvs,H p=some (.dT kvs))) ∨ (T="set"/\∃ S n,H p=some (.set S n))
 | _=>False
theorem apA {Kp:List (Addr × Obj)}{σ:St}{H:Hp}{s:Shared}{T:String}{x:V}{v:Value} (I:Inv X Kp σ H s) (r:qe x v) (ty:tyV X.K T x H):
  s.TypeIs v T/\∀ a,v= .ref a->∃ ob,s.heap.get? a=some ob/\ob.dict=none:=by
 cases x with
 | str z=>
  obtain ⟨t,rfl⟩:=r
  cases (show T="str" from ty)
  exact ⟨typeIs_str s z t,fun _ e=>nomatch e⟩
 | int i=>
  obtain ⟨t,rfl⟩:=r
  cases (show T="int" from ty)
  exact ⟨typeIs_int s i t,fun _ e=>nomatch e⟩
 | ref p=>
  cases r
  rcases ty with ⟨rfl,xs,hq⟩ | ⟨rfl,o,hk,hc,hd⟩ | ⟨rfl,hk⟩ | ⟨rfl,S,n,hk⟩
  ·obtain ⟨its,_,pl,_⟩:=I.list hq
   refine ⟨pl.isList.typeIs,fun a e=>?_⟩
   cases e
   obtain ⟨o,n,e,c,hd,_⟩:=pl
   exact ⟨o,e,hd⟩
  ·refine ⟨⟨o,I.kIn p o hk,hc⟩,fun a e=>?_⟩
   cases e
   exact ⟨o,I.kIn _ o hk,hd⟩
  ·have z:∃ o,s.heap.get? p=some o/\o.ExactDict:=by
    rcases hk with ⟨kvs,hk⟩ | ⟨kvs,hk⟩
    ·obtain ⟨_,_,_,_,o,_,_,e,ex,_⟩:=I.hok p _ hk
     exact ⟨o,e,ex⟩
    ·obtain ⟨_,_,_,_,o,_,_,e,ex,_⟩:=I.hok p _ hk
     exact ⟨o,e,ex⟩
   obtain ⟨o,e,ex⟩:=z
   refine ⟨⟨o,e,ex.1⟩,fun a e2=>?_⟩
   cases e2
   exact ⟨o,e,ex.2.1⟩
  ·obtain ⟨o,_,_,_,e,ex,_⟩:=I.hok p _ hk
   refine ⟨⟨o,e,ex.1⟩,fun a e2=>?_⟩
   cases e2
   exact ⟨o,e,ex.2.1⟩
 | _=>exact False.elim ty
noncomputable def tBM (K:Fg) (T:String) (r:V->List V->Hp->VK->Prop) (to:TE) (t:TA):TE:=fun σ H Q=>to σ H fun x H1=>tyV K T x H1/\t σ H1 fun xs H2=>r x xs H2 Q
variable {o e:Expr}{es:List Expr}{to:TE}{t:TA}{name:Str}{apos cpos:Pos}{T id:String}{r:V->List V->Hp->VK->Prop}
theorem aei (pa:PlainAttrs T) (slot:Slot T name id) (hty:typeOf (.builtin id)=pure (.type "method_descriptor")) (hm:MtR X id r) (ho:PE X o to) (ha:PA X (e::es) t)
  (hbase:attributeBase o name X.env (eval o X.env)=eval o X.env:=by rfl)
  (hfew:((backTo cpos (starEach (e::es) X.env)).all (fun x=>!x.1) && (backToKw cpos (keywordEach [] X.env)).all (fun x=>x.1.isSome)
   && decide ((e::es).length+([]:List Keyword).length+(if ([]:List Keyword).isEmpty then 0 else 1)<30))=true:=by rfl)
  (hline:(apos.endLine == cpos.line)=true:=by rfl) (hs:starEach (e::es) X.env=(false,eval e X.env)::starEach es X.env:=by rfl) (hplain:(backTo cpos (starEach es X.env)).any (·.1)=false:=by rfl):
  PE X (.Call (.Attribute o name apos) (e::es) [] cpos) (tBM X.K T r to t):=by
 intro Kp s σ H Q I h
 refine wpAny_Call_method_late hbase hfew hline rfl (thn (ho Kp s σ H _ I h) fun v s1 ⟨x,H1,I1,r1,ty,q1⟩=>?_)
 obtain ⟨h1,h2⟩:=apA I1 r1 ty
 refine ⟨T,id,pa,slot,hty,h1,h2,?_⟩
 have hA:=ha cpos Kp s1 σ H1 _ I1 q1
 rw [hs] at hA ⊢
 refine Calls.callWith_builtin (by show (false || (backTo cpos (starEach es X.env)).any (·.1))=false; rw [hplain] <;> rfl) (Calls.evalArgs_plain ?_)
 exact thn hA fun us s2 ⟨vs,H2,I2,r2,q2⟩=>hm Kp s2 σ H2 x vs v us Q I2 r1 r2 q2
end
noncomputable def MtM (X:Cx) (id:String) (r:V->List V->Hp->VK->Prop):Prop:=
 ∀ (Kp:List (Addr × Obj)) (s:Shared) (σ:St) (H:Hp) (x:V) (xs:List V) (v:Value) (us:List Value) (Q:VK),Inv X Kp σ H s->qe x v->jQ xs us->r x xs H Q->
  wpAny (model X.prog X.w) X.A (call (.builtin id) (v::us)) (EP X Kp σ Q) X.xe s
theorem jQ.one:∀ {x:V}{us:List Value},jQ [x] us->∃ u,us=[u]/\qe x u
 | _,_,.cons r .nil=>⟨_,rfl,r⟩
theorem jQ.reverse {xs:List V}{us:List Value} (h:jQ xs us):jQ xs.reverse us.reverse:=by
 induction h with
 | nil=>exact .nil
 | cons r t ih=>rw [List.reverse_cons,List.reverse_cons]; exact jQ.append ih (.cons r .nil)
theorem jQ.rep {xs:List V}{us:List Value} (h:jQ xs us):∀ k:Nat,jQ (List.replicate k xs).flatten (List.replicate k us).flatten
 | 0=> .nil
 | k+1=>by
  rw [List.replicate_succ,List.replicate_succ,List.flatten_cons,List.flatten_cons]
  exact jQ.append h (jQ.rep h k)
theorem aej (its:List Value):∀ (k:Nat) (acc:List Value),
  List.foldl (fun x1 x2=>x1++x2) acc.toArray (List.replicate k its.toArray)=(acc++(List.replicate k its).flatten).toArray
 | 0,acc=>by simp
 | k+1,acc=>by
  have e:acc.toArray++its.toArray=(acc++its).toArray:=by simp
  have e2:(acc++its)++(List.replicate k its).flatten=acc++(List.replicate (k+1) its).flatten:=by
   rw [List.replicate_succ,List.flatten_cons,List.append_assoc]
  rw [←e2,←aej its k (acc++its),←e,List.replicate_succ,List.foldl_cons]
section
variable {X:Cx}{Kp:List (Addr × Obj)}{σ:St}{H:Hp}{s:Shared}{l b:Addr}{xs ys zs:List V}
theorem Inv.lset {its its':List Value}{n:Nat}{f:Array Value->Array Value}{t':Nat} (I:Inv X Kp σ H s) (hH:H l=some (.lst xs))
  (e:s.heap.get? l=some { cls:= .type "list",data:= .seq its.toArray n }) (hf:f its.toArray=its'.toArray) (hv:jQ ys its') (hz:ys.length<=sizeLine):
  Inv X Kp σ (upd H l (.lst ys)) { s with heap:=s.heap.update l (Obj.mapSeq f),toks:=t' }:=by
 have q:=PySem.IsL.update e f
 rw [hf] at q
 refine I.write (x:=l) (e:=l) (by rw [hH]; exact trivial) (.inl rfl) (fun b' u hb hu=>(Heap.get?_update_other s.heap (Obj.mapSeq f) (Ne.symm hb)).trans hu) ⟨_,q⟩ ?_
 exact ⟨hz,its',_,hv,q⟩
theorem Inv.lnew {its:List Value}{t':Nat} (I:Inv X Kp σ H s) (hv:jQ ys its) (hz:ys.length<=sizeLine):
  Inv X Kp σ (upd H s.heap.objs.size (.lst ys)) { s with heap:=s.heap.push { cls:= .type "list",data:= .seq its.toArray },toks:=t' }:=
 I.laid (fun _ _ q=>Heap.get?_push_of_some _ q) (Nat.le_refl _) ⟨hz,its,0,hv,Heap.get?_push_size _ rfl⟩
theorem Inv.fresh (I:Inv X Kp σ H s):H s.heap.objs.size=none:=I.hok.fresh (Nat.le_refl _)
theorem Inv.lstM (I:Inv X Kp σ H s) (hH:H l=some (.lst xs)):xs.length<=sizeLine/\∃ (its:List Value) (n:Nat),jQ xs its/\xs.length=its.length/\s.heap.get? l=some { cls:= .type "list",data:= .seq its.toArray n }:=by
 obtain ⟨z,its,n,r,e⟩:=I.hok l _ hH
 exact ⟨z,its,n,r,r.length,e⟩
theorem agh {n:Nat} (h:n<=sizeLine):Builtin.List.listTooLong n=false:=by
 unfold Builtin.List.listTooLong
 exact decide_eq_false (by omega)
end
section
variable {X:Cx}
noncomputable def anh:V->List V->Hp->VK->Prop:=fun x vs H Q=>∃ l xs y,x= .ref l/\vs=[y]/\H l=some (.lst xs)/\xs.length<sizeLine/\Q .non (upd H l (.lst (xs++[y])))
theorem aek:MtM X "list.append" anh:=by
 intro Kp s σ H x vs v us Q I rx rv h
 obtain ⟨l,xs,y,rfl,rfl,hH,hz,q⟩:=h
 cases rx
 obtain ⟨u,rfl,ru⟩:=rv.one
 obtain ⟨z,its,n,r,hl,e⟩:=I.lstM hH
 refine call_meets F.slot_list_append ⟨_,e,rfl⟩ F.entry_list_append (F.args_list_append_2 _ _) (PySem.list_append l its.toArray n u (by rw [List.size_toArray]; omega)) ⟨e,?_⟩
 refine ⟨.non,_,I.lset (its':=its++[u]) hH e (by simp) (r.append (.cons ru .nil)) ?_,rfl,q⟩
 rw [List.length_append,List.length_singleton]
 omega
noncomputable def ani:V->List V->Hp->VK->Prop:=fun x vs H Q=>∃ l b xs zs,x= .ref l/\vs=[.ref b]/\H l=some (.lst xs)/\H b=some (.lst zs)/\xs.length+zs.length<=sizeLine/\Q .non (upd H l (.lst (xs++zs)))
theorem ajF:MtM X "list.extend" ani:=by
 intro Kp s σ H x vs v us Q I rx rv h
 obtain ⟨l,b,xs,zs,rfl,rfl,hH,hB,hz,q⟩:=h
 cases rx
 obtain ⟨u,rfl,ru⟩:=rv.one
 cases ru
 obtain ⟨z,its,n,r,hl,e⟩:=I.lstM hH
 obtain ⟨z2,its2,n2,r2,hl2,e2⟩:=I.lstM hB
 have hsz:its.toArray.size+its2.toArray.size<=sizeLine:=by rw [List.size_toArray,List.size_toArray]; omega
 have hlong:¬ (!its.toArray.isEmpty && Builtin.List.listTooLong (its.toArray.size+its2.toArray.size))=true:=by
  rw [agh hsz,Bool.and_false]
  exact Bool.false_ne_true
 refine call_meets F.slot_list_extend ⟨_,e,rfl⟩ F.entry_list_extend (F.args_list_extend_2 _ _)
  (AutoSeq1.list_extend_list_list_0 l its.toArray n b its2.toArray n2 hlong (by rw [List.size_toArray]; omega) (by omega)) ⟨e,e2,?_⟩
 refine ⟨.non,_,I.lset (its':=its++its2) hH e (by simp) (r.append r2) ?_,rfl,q⟩
 rw [List.length_append]
 omega
noncomputable def asj:R2:=fun x y H Q=>∃ l b xs zs,x= .ref l/\y= .ref b/\H l=some (.lst xs)/\H b=some (.lst zs)/\xs.length+zs.length<=sizeLine/\∀ p,H p=none->Q (.ref p) (upd H p (.lst (xs++zs)))
theorem apB:OpR X (binaryOp .Add) asj:=by
 intro Kp s σ H x y v u Q I rx ry h
 obtain ⟨l,b,xs,zs,rfl,rfl,hH,hB,hz,q⟩:=h
 cases rx
 cases ry
 obtain ⟨z,its,n,r,hl,e⟩:=I.lstM hH
 obtain ⟨z2,its2,n2,r2,hl2,e2⟩:=I.lstM hB
 refine PySem.P.add_list e e2 ?_ (by rw [List.size_toArray,List.size_toArray]; omega)
 have ea:its.toArray++its2.toArray=(its++its2).toArray:=by simp
 rw [ea]
 exact ⟨.ref _,_,I.lnew (t':=s.toks) (r.append r2) (by rw [List.length_append]; omega),rfl,q _ I.fresh⟩
noncomputable def asl:R2:=fun x y H Q=>∃ l k xs,x= .ref l/\y= .int k/\H l=some (.lst xs)/\-(2 ^ 63)<=k/\k<2 ^ 63/\xs.length*k.toNat<=sizeLine/\
 ∀ p,H p=none->Q (.ref p) (upd H p (.lst (List.replicate k.toNat xs).flatten))
theorem anj {α:Type} (xs:List α) (k:Nat):(List.replicate k xs).flatten.length=k*xs.length:=by
 induction k with
 | zero=>simp
 | succ k ih=>rw [List.replicate_succ,List.flatten_cons,List.length_append,ih,Nat.succ_mul,Nat.add_comm]
theorem ala:OpR X (binaryOp .Mult) asl:=by
 intro Kp s σ H x y v u Q I rx ry h
 obtain ⟨l,k,xs,rfl,rfl,hH,h1,h2,hz,q⟩:=h
 cases rx
 obtain ⟨t,rfl⟩:=ry
 obtain ⟨z,its,n,r,hl,e⟩:=I.lstM hH
 have hlen:its.toArray.size*k.toNat<=sizeLine:=by rw [List.size_toArray,←hl]; exact hz
 have hcap:¬ its.toArray.size*k.toNat > (2 ^ 63 - 1) / 8:=by
  have:(sizeLine:Nat)<=(2 ^ 63 - 1) / 8:=by decide
  omega
 have hfit:¬ (!Builtin.List.listFitsIndex k)=true:=by
  rw [fitsIndex_both h1 h2]
  exact Bool.false_ne_true
 have hlong:¬ Builtin.List.listTooLong (its.toArray.size*k.toNat)=true:=by
  rw [agh hlen]
  exact Bool.false_ne_true
 have hnew:List.foldl (fun x1 x2=>x1++x2) #[] (List.replicate (if its.toArray.isEmpty=true then 0 else k.toNat) its.toArray)=(List.replicate k.toNat its).flatten.toArray:=by
  have f0:∀ m:Nat,List.foldl (fun x1 x2=>x1++x2) #[] (List.replicate m its.toArray)=(List.replicate m its).flatten.toArray:=fun m=>by
   have:=aej its m []
   rw [List.nil_append] at this
   exact this
  rw [f0]
  cases its with
  | nil=>simp
  | cons a r'=>rw [if_neg (by simp)]
 refine wpAny_binaryOp_repeat_ref (T:="list") (U:="int") (by decide) ⟨_,e,rfl⟩ (fun s'=>typeIs_int s' k t) noFill_list_mul F.fills_int_mul F.slot_int_rmul repeat_list F.slot_int_index.lookup
  (call_meets F.slot_int_rmul (typeIs_int s k t) F.entry_int_rmul (F.args_int_rmul_2 _ _) (int___rmul___int_list k t l its.toArray n)
   ⟨e,rfl,⟨_,e,rfl⟩,call_meets F.slot_list_mul ⟨_,e,rfl⟩ F.entry_list_mul (F.args_list_mul_2 _ _) (AutoListH.list___mul___list_int_3 l its.toArray n k t hfit hcap hlong) ⟨e,?_⟩⟩)
 rw [hnew]
 exact ⟨.ref _,_,I.lnew (t':=s.toks) (r.rep k.toNat) (by rw [anj,Nat.mul_comm]; exact hz),rfl,q _ I.fresh⟩
end
section
variable {prog:Program}{w:World}{A:Around}{E:Value->SP0}{s:Shared}
set_option maxRecDepth 100000 in
end
section
variable {X:Cx}
end
end L2
namespace Att
open PySem PySem.W PySem.Calls PyProof.Rows
theorem acp {P:Params}{h:Heap}:∀ (ns:List Int) (vs:List Value),WellAll P h vs (ns.map WData.int)->IntsAre vs ns:=by
 intro ns
 induction ns with
 | nil=>
  intro vs w
  rw [List.map_nil] at w
  cases w
  exact .nil
 | cons n ns ih=>
  intro vs w
  rw [List.map_cons] at w
  cases w with
  | cons a b=>
   cases a
   exact .cons _ _ (ih _ b)
theorem ajG {l:OpenLaw}{n:Nat} (hn:l.most=some n) {P:Params}{h:Heap}{args:List WData}{vals:List Value}
  (hpre:l.row.toRowW.claim.pre args=true) (hwl:WellAll P h vals args):
  ∃ a vs ns,vals=[Value.ref a]/\args=[WData.list (ns.map WData.int)]/\h.get? a=some { cls:= .type "list",data:= .seq vs.toArray }/\IntsAre vs ns/\ns.length<=n:=by
 have hsh:WShape.hasAll [] args [.list .int]=true:=(pre_splitW hpre).1
 have hc:l.pre.holds [] { args:=args }=true:=(pre_splitW hpre).2
 obtain ⟨d,r,rfl,h1,h2⟩:=hasAllW_cons hsh
 obtain rfl:=hasAllW_nil h2
 obtain ⟨xs,rfl,h3⟩:=hasW_list h1
 obtain ⟨ns,rfl⟩:=items_int h3
 have hlen:ns.length<=n:=by
  unfold OpenLaw.pre at hc
  have h4:(WTm.not (.lt (.lit (.int (n:Int))) (.len (.arg 0)))).holds [] { args:=[.list (ns.map .int)] }=true:=by
   have h4:=(holds_andW hc).1
   rw [hn] at h4
   exact h4
  have h5:=condW_of h4 (w_not (w_lt w_lit (w_len_list (w_arg rfl))))
  rw [List.length_map] at h5
  refine Nat.le_of_not_lt fun q=>?_
  have q':(n:Int)<((ns.length:Nat):Int):=by omega
  first
   | (rw [decide_eq_true q'] at h5; exact absurd h5 (by decide))
   | (simp at h5; omega)
 cases hwl with
 | cons w1 w2=>
  cases w2
  cases w1 with
  | list ho hall=>exact ⟨_,_,ns,rfl,rfl,ho,acp ns _ hall,hlen⟩
theorem ajH (l:OpenLaw) (args:List WData):l.row.toRowW.claim.post args (.bool true) args=true:=
 postW_of (r:=l.row.toRowW) (X:=(true == true))
  (show WShape.has [] (.bool true) .bool=true by first | rfl | decide | simp [WShape.has,WShape.arms,WShape.armsAll])
  (show (WTm.eq .res (.lit (.bool true))).value [] { args:=args,res:=some (.bool true),after:=args }=some (.bool (true == true)) from w_eq_bool (w_res rfl) w_lit) rfl
theorem attach_call {l:OpenLaw}{n:Nat}{q:Program}{loose:List Str}{XP:(SV)->Heap->Prop}{YP:World->Heap->Prop}{d:DefRec}
  (hn:l.most=some n) (hdf:d.params.defaults=[])
  (call:∀ (w:World) (s₀ s₁:Shared) (mg mb:SV) (fa:Addr) (o:Obj) (pm cd doc:Value) (a:Addr) (vs:List Value) (ns:List Int),
   Ground q loose [] XP w s₀ mg mb s₁.heap->YP w s₁.heap->
   s₁.heap.get? fa=some o->o.data= .func (docDef d.name d.params d.body d.scope pm cd doc)->s₁.heap.CodeRec cd d.name->mg d.name=some (.ref fa)->
   s₁.heap.get? a=some { cls:= .type "list",data:= .seq vs.toArray }->IntsAre vs ns->ns.length<=n->s₁.gens=#[]->
   codeAny (model l.prog w) callerA (.call (.ref fa) ⟨[.ref a],[]⟩) (fun r s'=>r= .ok (.ret (.bool true))/\OldK s₁.heap s'.heap/\s'.os=s₁.os/\AllBare s'.gens) s₁):
  WalkO q loose XP YP l.row.toRowW d [] (fun f vs=>PySem.call f vs):=by
 intro w s₀ s₁ mg mb G Y fa o pm cd doc dV kV ho hd hcd hD hmg hg args vals as hpre hlay hrd hwl hlo
 obtain rfl:dV= .none:=Dflts.none hD hdf
 obtain rfl:kV= .none:=Dflts.noKw hD
 obtain ⟨a,vs,ns,rfl,rfl,hobj,hints,hlen⟩:=ajG hn hpre hwl
 refine enter_call (codeAny_mono (call w s₀ s₁ mg mb fa o pm cd doc a vs ns G Y ho (fd_plain hd) hcd hmg hobj hints hlen hg) fun r s' hq=>?_)
 obtain ⟨rfl,h2,h3,h4⟩:=hq
 exact ⟨.inl ⟨.bool true,.bool true,[],rfl,fun _=>rfl,.bool true,ajH l _,fun _=>⟨List.Pairwise.nil,fun _ hm=>(nomatch hm)⟩⟩,h2,h3,h4⟩
section
variable {prog:Program}{w:World}{A:Around}{E:Value->SP0}{s:Shared}{K:Frag}
noncomputable def asm (h:Heap) (L d:Addr):List (Addr × Obj):=(List.range h.objs.size).filterMap fun a=>if a=L ∨ a=d then none else (h.get? a).map fun o=>(a,o)
end
end Att
namespace L2
open PySem PySem.Spec PyProof.Rows
theorem ZR:∀ {vs:List Value}{ns:List Int},IntsAre vs ns->jQ (ns.map V.int) vs
 | _,_,.nil=> .nil
 | _,_,.cons n t h=> .cons ⟨t,rfl⟩ (ZR h)
noncomputable def apC (H:Hp):Prop:=∀ b,H b=none ∨ ∃ o xs,H b=some (.frz o (.lst xs))
theorem alb {P:Program}{w:World}{K:Fg}{mg mb:SV}{CX:CXT}{k:Nat}{fa a:Addr}{fd:FuncData}{x:Str}{sp:Sp}{s₁:Shared}{vs:List Value}{ns:List Int}
  (KX:K.In s₁.heap) (hns:s₁.heap.Ns mainGlobals mg) (hb:s₁.heap.Ns builtinsNs mb) (hbb:∀ x:Str,x ≠ "__name__"->mb x=bootBuiltins x) (hlim:s₁.heap.NoLimit) (hg:s₁.gens=#[])
  (ha:s₁.heap.get? a=some { cls:= .type "list",data:= .seq vs.toArray }) (hi:IntsAre vs ns) (hl:ns.length<=sizeLine) (hr:Room k callerA)
  (F:∀ base:Heap,K.In base->base.Ns mainGlobals mg->FnOk P w K mg base CX k fa fd [x] sp) (hbind:∀ (s:Shared) (u:Value),BindsTo s fd ⟨[u],[]⟩ [(x,u)])
  (hsp:∀ H:Hp,apC H->SqL K H a (ns.map V.int)->sp [.ref a] H (fun v _=>v= .bl true) fun _ _ _=>False)
  (hCX:∀ H e s',CX [] H s₁ (fun _ _ _=>False) e s'->False):
  codeAny (model P w) callerA (.call (.ref fa) ⟨[.ref a],[]⟩) (fun r s'=>r= .ok (.ret (.bool true))/\OldK s₁.heap s'.heap/\s'.os=s₁.os/\AllBare s'.gens) s₁:=by
 have rv:=ZR hi
 have lenV:=hi.length
 have core:∀ H:Hp,apC H->SqL K H a (ns.map V.int)->HOk P w H s₁.heap->(∀ b,H b ≠ none->b=a)->(H a ≠ none->K.lookup a=none)->
   codeAny (model P w) callerA (.call (.ref fa) ⟨[.ref a],[]⟩) (fun r s'=>r= .ok (.ret (.bool true))/\OldK s₁.heap s'.heap/\s'.os=s₁.os/\AllBare s'.gens) s₁:=by
  intro H hO hS hok hA hK
  have base_of:∀ {b:Addr} {o:Obj},s₁.heap.get? b=some o->H b=none->(ae8 s₁.heap H).get? b=some o:=fun e n=>akM e n
  have noA:∀ {b:Addr} {o:Obj} {es:Array DictEntry} {ep:Nat},s₁.heap.get? b=some o->o.data= .dict es ep->H b=none:=fun {b o es ep} e d=>by
   cases q:H b with
   | none=>rfl
   | some u=>
    have e':b=a:=hA b (by rw [q]; simp)
    subst e'
    rw [ha] at e; cases e
    have d':Data.seq vs.toArray _=Data.dict es ep:=d
    cases d'
  have nsK:∀ {b:Addr} {m:SV},s₁.heap.Ns b m->(ae8 s₁.heap H).Ns b m:=fun {b m} ⟨o,es,ep,e,d,r⟩=>⟨o,es,ep,base_of e (noA e d),d,r⟩
  have hKb:K.In (ae8 s₁.heap H):=fun b o e=>base_of (KX b o e) (by
   cases q:H b with
   | none=>rfl
   | some u=>
    have e':b=a:=hA b (by rw [q]; simp)
    subst e'
    rw [hK (by rw [q]; simp)] at e; cases e)
  have hM:Mod K mg (ae8 s₁.heap H):=⟨hKb,nsK hns,⟨mb,nsK hb,hbb⟩,let ⟨mc,h1,h2⟩:=hlim; ⟨mc,nsK h1,h2⟩⟩
  have e0:Env0 P w K mg (ae8 s₁.heap H) callerA [] s₁ H:=⟨rfl,hM,fun b o e=>am5 e,Nat.le_of_eq (ajy _ _),trivial,fun b hb=>absurd (show b ∈ ([]:List Addr) from hb) (by simp),hok,.of_eq hg⟩
  refine codeAny_mono ((F _ hKb (nsK hns)).run callerA [] s₁ H ⟨[.ref a],[]⟩ [.ref a] [.ref a] _ _ hr e0 (hbind s₁ (.ref a)) (.cons rfl .nil) (hsp H hO hS)) fun r s' h=>?_
  cases r with
  | error e=>exact (hCX H e s' h).elim
  | ok fl=>
   cases fl with
   | next=>exact False.elim h
   | brk=>exact False.elim h
   | cont=>exact False.elim h
   | ret u=>
    obtain ⟨v,H',os,bare,un,hok',r',q⟩:=h
    have q':v= .bl true:=q
    subst q'
    obtain rfl:u=Value.bool true:=r'
    refine ⟨rfl,OldK.of_keep fun b o e=>?_,os,bare⟩
    cases q:H b with
    | none=>exact un.keep b o e q (by intro z; exact absurd (show b ∈ ([]:List Addr) from z) (by simp)) (by simp)
    | some u=>
     rcases hO b with z | ⟨ob,xs,z⟩
     ·rw [q] at z; cases z
     ·have z2:=un.frzs b ob _ z
      obtain ⟨e1,_⟩:=hok b _ z
      obtain ⟨e2,_⟩:=hok' b _ z2
      rw [e] at e1; cases e1
      exact e2
 cases hk:K.lookup a with
 | some o=>
  have e:=KX a o hk
  rw [ha] at e
  cases e
  refine core (fun _=>none) (fun _=> .inl rfl) (.inr ⟨_,vs.toArray,_,hk,rfl,rfl,rfl,by rw [List.size_toArray,lenV]; exact hl,by simpa using rv⟩) (fun b u z=>by have z':(none:Option HO)=some u:=z; cases z') (fun b z=>absurd rfl z) fun z=>absurd rfl z
 | none=>
  refine core (fun b=>if b=a then some (.frz { cls:= .type "list",data:= .seq vs.toArray } (.lst (ns.map V.int))) else none) (fun b=>?_) (.inl (.inr ⟨{ cls:= .type "list",data:= .seq vs.toArray },if_pos rfl⟩)) (fun b u z=>?_) (fun b z=>?_) fun _=>hk
  ·by_cases hb:b=a
   ·exact .inr ⟨_,_,if_pos hb⟩
   ·exact .inl (if_neg hb)
  ·by_cases hb:b=a
   ·have z':=(if_pos hb).symm.trans z
    cases z'
    subst hb
    exact ⟨ha,by rw [List.length_map]; exact hl,vs,_,rv,ha⟩
   ·have z':=(if_neg hb).symm.trans z
    cases z'
  ·by_cases hb:b=a
   ·exact hb
   ·exact absurd (if_neg hb) z
theorem ank {l:PySem.W.OpenLaw}{n k:Nat}{q:Program}{loose:List Str}{XP:(SV)->Heap->Prop}{YP:World->Heap->Prop}{d:DefRec}{K:Params->Fg}{CX:World->CXT}{sp:World->Sp}{x:Str}
  (hn:l.most=some n) (hn2:n<=sizeLine) (hdf:d.params.defaults=[]) (hr:Room k callerA)
  (hY:∀ (w:World) (h:Heap),YP w h->(K w.params).In h)
  (F:∀ (w:World) (mg:SV) (fa:Addr) (h:Heap),(K w.params).In h->h.Ns mainGlobals mg->mg d.name=some (.ref fa)->
   ∃ fd:FuncData,(∀ (s:Shared) (u:Value),BindsTo s fd ⟨[u],[]⟩ [(x,u)])/\
    ∀ base:Heap,(K w.params).In base->base.Ns mainGlobals mg->FnOk l.prog w (K w.params) mg base (CX w) k fa fd [x] (sp w))
  (hsp:∀ (w:World) (H:Hp) (a:Addr) (ns:List Int),ns.length<=n->apC H->SqL (K w.params) H a (ns.map V.int)->sp w [.ref a] H (fun v _=>v= .bl true) fun _ _ _=>False)
  (hCX:∀ (w:World) (H:Hp) (s:Shared) (e:Value) (s':Shared),CX w [] H s (fun _ _ _=>False) e s'->False):
  PySem.W.WalkO q loose XP YP l.row.toRowW d [] (fun f vs=>PySem.call f vs):=by
 refine Att.attach_call hn hdf fun w s₀ s₁ mg mb fa o pm cd doc a vs ns G Y ho hd hcd hmg hobj hints hlen hg=>?_
 have KX:=hY w _ Y
 obtain ⟨fd,hb,hF⟩:=F w mg fa _ KX G.T.g hmg
 exact alb KX G.T.g G.T.b G.T.builtins G.T.nolimit hg hobj hints (Nat.le_trans hlen hn2) hr hF hb (fun H hO hS=>hsp w H a ns hlen hO hS) fun H e s'=>hCX w H s₁ e s'
noncomputable def JB (s:Stmt):Arguments:=match s with
 | .FunctionDef _ a _ _ _ _ _ _ _ _=>a
 | _=>{ posonlyargs:=[],args:=[],vararg:=none,kwonlyargs:=[],kw_defaults:=[],kwarg:=none,defaults:=[] }
noncomputable def jJ (s:Stmt):List Stmt:=match s with
 | .FunctionDef _ _ b _ _ _ _ _ _ _=>b
 | _=>[]
noncomputable def jf (s:Stmt):Scope:=match s with
 | .FunctionDef _ _ _ _ _ _ sc _ _ _=>sc
 | _=>{ kind:= .function,names:=[],isGenerator:=false,isCoroutine:=false }
noncomputable abbrev CX0:CXT:=fun _ _ _ _ _ _=>False
noncomputable abbrev E0:XK:=fun _ _ _=>False
theorem ael {X:Cx}:aff CX0 X E0:=fun _ _ _ _ _ _ _ h=>h.elim
structure Fun (K:Fg) (x qual:Str) (st:Stmt) (f:Addr) (fd:FuncData):Prop where
 ex:∃ (oc:Value) (od:Option Addr) (kV doc pm:Value) (an:Option Addr) (Kc ct:Value) (osl:Array (Option Value)),
  fd=PySem.W.fnOf x qual (JB st) (jJ st) (jf st) .none kV doc pm an Kc ct/\K.lookup f=some ⟨oc,od,.func fd,osl⟩/\PySem.W.codeIn K Kc qual=true
 kp:PySem.W.keepIn K (.ref f)=true
section
variable {P:Program}{w:World}{K:Fg}{mg:SV}{base:Heap}
theorem Fun.ok {x qual:Str}{st:Stmt}{f:Addr}{fd:FuncData}{N ps:List Str}{k:Nat}{sp:Sp} (F:Fun K x qual st f fd) (S:FnScope N ps (jf st)) (len:∀ vs H Q E,sp vs H Q E->vs.length=ps.length)
  (hbody:∀ (Kc:Value) (A:Around) (Ko:List Env) (s:Shared) (H:Hp) (vs:List V) (Q:VK) (E:XK),Room k (A.deeper (envOfC qual (jf st) s.heap.objs.size f Kc))->sp vs H Q E->
   ∃ t,PSs (zT CX0 P w K mg base N qual (jf st) f Kc A Ko s H E).nox (jJ st) t/\t { nx:=fun _ H'=>Q .non H',rt:=Q } (zV N vs) H):FnOk P w K mg base CX0 (k+1) f fd ps sp:=by
 obtain ⟨oc,od,kV,doc,pm,an,Kc,ct,osl,rfl,lk,hcd⟩:=F.ex
 refine aq2 lk hcd S len fun A Ko s H vs Q E hr hsp=>?_
 obtain ⟨t,h,q⟩:=hbody Kc A Ko s H vs Q E hr hsp
 exact ⟨t,h.nox,q⟩
theorem Fun.binds {x qual:Str}{st:Stmt}{f:Addr}{fd:FuncData}{ps:List Str} (F:Fun K x qual st f fd)
  (h:∀ (kV doc pm:Value) (an:Option Addr) (Kc ct:Value) (us:List Value),us.length=ps.length->bindArgs (PySem.W.fnOf x qual (JB st) (jJ st) (jf st) .none kV doc pm an Kc ct) ⟨us,[]⟩=pure (ps.zip us)):JZ K fd ps []:=by
 obtain ⟨oc,od,kV,doc,pm,an,Kc,ct,osl,rfl,lk,hcd⟩:=F.ex
 exact .all (h kV doc pm an Kc ct)
theorem ac3 {x qual:Str}{st:Stmt}{f:Addr}{oc:Value}{od an:Option Addr}{osl:Array (Option Value)}{kV doc pm Kc ct:Value} (l:K.lookup f=some ⟨oc,od,.func (PySem.W.fnOf x qual (JB st) (jJ st) (jf st) .none kV doc pm an Kc ct),osl⟩)
  (c:PySem.W.codeIn K Kc qual=true) (k:PySem.W.keepIn K (.ref f)=true):Fun K x qual st f (PySem.W.fnOf x qual (JB st) (jJ st) (jf st) .none kV doc pm an Kc ct):=⟨⟨oc,od,kV,doc,pm,an,Kc,ct,osl,rfl,l,c⟩,k⟩
end
section
variable {X:Cx}
theorem pv (i:Nat) {x:Str}{pos:Pos} (hN:X.N[i]?=some x:=by rfl) (hv:Vis X.env.scope x:=by first | exact Or.inl rfl | exact Or.inr (Or.inl rfl) | exact Or.inr (Or.inr rfl)) (hd:(x == ("__debug__":Str))=false:=by decide)
  (hcd:(x == ("__classdict__":Str))=false:=by decide):PE X (.Name x pos) (apb i):=Zm hN hv hd hcd
end
theorem apD {A B:Prop} (h:B):if false=true then A else B:=by
 rw [if_neg Bool.false_ne_true]
 exact h
theorem apE {A B:Prop} (h:A):if true=true then A else B:=by
 rw [if_pos rfl]
 exact h
noncomputable def jq (H H':Hp):Prop:=∀ b o,H b=some o->H' b=some o
theorem jq.refl (H:Hp):jq H H:=fun _ _ h=>h
theorem jq.trans {H H1 H2:Hp} (a:jq H H1) (b:jq H1 H2):jq H H2:=fun c o h=>b c o (a c o h)
theorem jq.free {H H':Hp} (e:jq H H') {l:Addr} (h:H' l=Option.none):H l=Option.none:=by
 cases q:H l with
 | none=>rfl
 | some o=>
  rw [e l o q] at h
  cases h
theorem jq.seq {K:Fg}{H H':Hp}{a:Addr}{xs:List V} (e:jq H H') (h:SqL K H a xs):SqL K H' a xs:=by
 rcases h with (h | ⟨o,h⟩) | h
 ·exact .inl (.inl (e _ _ h))
 ·exact .inl (.inr ⟨o,e _ _ h⟩)
 ·exact .inr h
section
variable {κ:Type} [DecidableEq κ]
noncomputable def aq8 (kvs:List (κ × V)) (k:κ):Option V:=(kvs.find? fun kv=>decide (kv.1=k)).map (·.2)
noncomputable def aq9 (kvs:List (κ × V)) (k:κ) (v:V):List (κ × V):=
 if (kvs.any fun kv=>decide (kv.1=k))=true then kvs.map (fun kv=>if kv.1=k then (kv.1,v) else kv) else kvs++[(k,v)]
noncomputable def asL (kvs:List (κ × V)) (k:κ):List (κ × V):=kvs.filter fun kv=>decide (kv.1 ≠ k)
end
noncomputable abbrev KT (H:Hp):List (List Key × V)->List (List Key × Addr × Value)->Prop:=Paired fun p q=>p.1=q.1/\H q.2.1=some (.tup (p.1.map kV))/\qe p.2 q.2.2
section
variable {P:Program}{w:World}{H:Hp}{h:Heap}{a:Addr}
theorem ara {u:HO} (ok:HOk P w H h) (e:Rd H a u):qV P w H h a u:=e.ok ok
theorem arb {kvs:List (Key × V)} (ok:HOk P w H h) (e:Rd H a (.dK kvs)):kvs.length<=sizeLine/\(a == sysModules)=false/\∃ vs,KV kvs vs/\h.DictOf (acv P w) a vs:=
 show qV P w H h a (.dK kvs) from ara ok e
end
noncomputable def asP (H:Hp) (a:Addr) (y:V) (r:Option V):Prop:=
 (∃ kvs k,Rd H a (.dK kvs)/\y=kV k/\r=aq8 kvs k) ∨ ∃ kvs k b,Rd H a (.dT kvs)/\y= .ref b/\H b=some (.tup (k.map kV))/\r=aq8 kvs k
noncomputable def asQ (H:Hp) (a:Addr) (y v:V) (H':Hp):Prop:=
 (∃ kvs k,H a=some (.dK kvs)/\y=kV k/\kvs.length<sizeLine/\H'=upd H a (.dK (aq9 kvs k v))) ∨
 ∃ kvs k b,H a=some (.dT kvs)/\y= .ref b/\H b=some (.tup (k.map kV))/\kvs.length<sizeLine/\H'=upd H a (.dT (aq9 kvs k v))
section
variable {X:Cx}{Kp:List (Addr × Obj)}{σ:St}{H:Hp}{s:Shared}{a:Addr}{y v:V}{u r:Value}{o:Option V}{A:Around}{E:Value->SP0}
end
section
variable {X:Cx}{Kp:List (Addr × Obj)}{σ:St}{H:Hp}{s:Shared}{a:Addr}{kvs:List (Key × V)}{k:Key}{u:Value}{A:Around}{E:Value->SP0}
end
section
variable {X:Cx}{o i e value:Expr}{pos pos' tpos:Pos}{td ty tv:TE}
end
section
variable {X:Cx}{pos:Pos}
end
structure M1 (X:Cx) (o:Expr) (m:Str) (apos:Pos) (e:Expr) (cpos:Pos):Prop where
 base:attributeBase o m X.env (eval o X.env)=eval o X.env
 few:((backTo cpos (starEach [e] X.env)).all (fun x=>!x.1) && (backToKw cpos (keywordEach [] X.env)).all (fun x=>x.1.isSome)
  && decide (([e]:List Expr).length+([]:List Keyword).length+(if ([]:List Keyword).isEmpty then 0 else 1)<30))=true
 line:(apos.endLine == cpos.line)=true
 trees:backTo cpos (starEach [e] X.env)=[(false,eval e X.env)]
structure M2 (X:Cx) (o:Expr) (m:Str) (apos:Pos) (e f:Expr) (cpos:Pos):Prop where
 base:attributeBase o m X.env (eval o X.env)=eval o X.env
 few:((backTo cpos (starEach [e,f] X.env)).all (fun x=>!x.1) && (backToKw cpos (keywordEach [] X.env)).all (fun x=>x.1.isSome)
  && decide (([e,f]:List Expr).length+([]:List Keyword).length+(if ([]:List Keyword).isEmpty then 0 else 1)<30))=true
 line:(apos.endLine == cpos.line)=true
 trees:backTo cpos (starEach [e,f] X.env)=[(false,eval e X.env),(false,eval f X.env)]
section
variable {X:Cx}{Kp:List (Addr × Obj)}{σ:St}{H:Hp}{s:Shared}{a:Addr}{y d:V}{u r:Value}{o:Option V}{A:Around}{E:Value->SP0}
end
section
variable {X:Cx}{o e f:Expr}{apos cpos:Pos}{td ty tx:TE}
end
section
variable {X:Cx}{Kp:List (Addr × Obj)}{σ:St}{H:Hp}{s:Shared}{a:Addr}{kvs:List (Key × V)}{A:Around}{E:Value->SP0}
end
section
variable {X:Cx}{Kp:List (Addr × Obj)}{σ:St}{H:Hp}{s:Shared}{a:Addr}{y:V}{u:Value}{A:Around}{E:Value->SP0}
end
section
variable {X:Cx}
end
section
variable {κ:Type} [DecidableEq κ]
end
end L2
end
section
namespace BX
open PySem PySem.Spec L2
open PyProof.Rows hiding St
noncomputable abbrev NoX:Value->SP0:=fun _ _=>False
noncomputable def aiK (ts:List Expr) (en:Env):Sem Bool:=
 forIn ts true fun c r=>if r=true then do let ok ←isTrue c en (eval c en); pure (ForInStep.yield ok) else pure (ForInStep.yield r)
section
variable {prog:Program}{w:World}{A:Around}{s:Shared}{R:Result->SP0}
theorem aem {el tg src:Expr}{ts:List Expr}{sc:Scope}{ps:Pos}{it acc:Value}{en:Env} (J:Nat->SP0)
  (turn:∀ n s,J n s->wpAny (model prog w) A (pyNext it) (fun r s1=>match r with
   | none=>R (.ok .next) s1
   | some v=>wpAny (model prog w) A (letOwnedTupleGo tg it v) (fun _ sg=>wpAny (model prog w) A (assign tg en v) (fun _ s2=>
     wpAny (model prog w) A (aiK ts en) (fun ok s3=>
      if ok=true then wpAny (model prog w) A (eval el en) (fun y s4=>
       wpAny (model prog w) A (call (.builtin "list.append") [acc,y]) (fun _ s5=>∃ m,m<n/\J m s5) NoX s4) NoX s3
      else ∃ m,m<n/\J m s3) NoX s2) NoX sg) NoX s1) NoX s)
  (n:Nat) (h:J n s):
  codeAny (model prog w) A (.compLoop (.ListComp el [⟨tg,src,ts,0⟩] sc ps) 0 it acc en) R s:=by
 refine codeAny_loop rfl J (fun n s hJ=>?_) n h
 show wpAny _ A
  ((compTurn (.ListComp el [⟨tg,src,ts,0⟩] sc ps) 0 it acc en).onRaise
   (fun x=>do noteFrame x en; theTreesLotGoes x)) _ _ s
 refine wpAny_noted ?_
 rw [compTurn_list]
 have no:∀ {E:Value->SP0} (e:Value) (s':Shared),NoX e s'->E e s':=fun _ _ z=>z.elim
 refine wpAny_bind (wpAny_standAt (wpAny_bind (wpAny_mono (turn n s hJ) (fun r s1 h1=>?_) no)))
 cases r with
 | none=>exact wpAny_pure h1
 | some v=>
  refine wpAny_bind (wpAny_mono h1 (fun _ sg hg=>?_) no)
  refine wpAny_bind (wpAny_mono hg (fun _ s2 h2=>?_) no)
  refine wpAny_bind (wpAny_mono h2 (fun ok s3 h3=>?_) no)
  cases ok with
  | false=>exact wpAny_pure ⟨rfl,h3⟩
  | true=>
   refine wpAny_bind (wpAny_bind (wpAny_mono h3 (fun y s4 h4=>?_) no))
   exact wpAny_bind (wpAny_mono h4 (fun _ s5 h5=>wpAny_pure (wpAny_pure ⟨rfl,h5⟩)) no)
end
noncomputable def Ze (en:Env):List (Str × NameKind)->List (Str × Addr)->List (Str × Addr)
 | [],cs=>cs
 | (n,k)::r,cs=>Ze en r (if k == .free then (n,(en.cells.lookup n).getD 0)::cs else cs)
theorem aiL (sc:Scope) (en:Env) (h:∀ x ∈ sc.names,x.2= .free->∃ c,en.cells.lookup x.1=some c):closureFor sc en=pure (Ze en sc.names []):=by
 have go:∀ (l:List (Str × NameKind)) (cs:List (Str × Addr)),(∀ x ∈ l,x.2= .free->∃ c,en.cells.lookup x.1=some c)->
   (forIn l cs (fun (x:Str × NameKind) (r:List (Str × Addr))=>(do
    if x.2 == .free then do
     let c ←cellOf en x.1
     pure (ForInStep.yield ((x.1,c)::r))
    else pure (ForInStep.yield r):Sem (ForInStep (List (Str × Addr))))):Sem _)=pure (Ze en l cs):=by
  intro l
  induction l with
  | nil=>intro cs _; rfl
  | cons x l ih=>
   intro cs hl
   obtain ⟨n,k⟩:=x
   rw [List.forIn_cons]
   by_cases hk:(k == NameKind.free)=true
   ·obtain ⟨c,e⟩:=hl (n,k) List.mem_cons_self (by simpa using hk)
    have e':en.cells.lookup n=some c:=e
    simp only [hk,zzM,cellOf,e',pure_bind,Ze,Option.getD_some]
    exact ih _ fun y hy=>hl y (List.mem_cons_of_mem _ hy)
   ·simp only [hk,pure_bind,Ze,zzL,zzN]
    exact ih _ fun y hy=>hl y (List.mem_cons_of_mem _ hy)
 have:=go sc.names [] h
 unfold closureFor
 rw [←this]
 first
  | (simp only [bind_pure_comp,id_map',map_pure]; done)
  | (simp only [bind_pure_comp,id_map',map_pure]; exact bind_pure _)
theorem abH (en:Env):∀ (l:List (Str × NameKind)) (cs:List (Str × Addr)),(∀ x ∈ l,x.2= .free->∃ c,en.cells.lookup x.1=some c)->(∀ p ∈ cs,en.cells.lookup p.1=some p.2)->
  ∀ p ∈ Ze en l cs,en.cells.lookup p.1=some p.2
 | [],_,_,h,p,hp=>h p hp
 | (n,k)::r,cs,hl,h,p,hp=>by
  refine abH en r _ (fun y hy=>hl y (List.mem_cons_of_mem _ hy)) (fun q hq=>?_) p hp
  by_cases hk:(k == NameKind.free)=true
  ·rw [if_pos hk] at hq
   rcases List.mem_cons.mp hq with rfl | hq
   ·obtain ⟨c,e⟩:=hl (n,k) List.mem_cons_self (by simpa using hk)
    have e':en.cells.lookup n=some c:=e
    show en.cells.lookup n=some ((en.cells.lookup n).getD 0)
    rw [e']; rfl
   ·exact h q hq
  ·rw [if_neg hk] at hq
   exact h q hq
theorem acb (en:Env):∀ (l:List (Str × NameKind)) (cs:List (Str × Addr)) (x:Str),(∃ c,(x,c) ∈ cs)->∃ c,(x,c) ∈ Ze en l cs
 | [],_,_,h=>h
 | (n,k)::r,cs,x,⟨c,h⟩=>by
  refine acb en r _ x ?_
  by_cases hk:(k == NameKind.free)=true
  ·rw [if_pos hk]; exact ⟨c,List.mem_cons_of_mem _ h⟩
  ·rw [if_neg hk]; exact ⟨c,h⟩
theorem Qq (en:Env):∀ (l:List (Str × NameKind)) (cs:List (Str × Addr)) (x:Str),(x,NameKind.free) ∈ l->∃ c,(x,c) ∈ Ze en l cs
 | (n,k)::r,cs,x,h=>by
  rcases List.mem_cons.mp h with e | h
  ·obtain ⟨e1,e2⟩:=Prod.mk.inj e
   subst e1; subst e2
   exact acb en r _ _ ⟨_,by rw [if_pos (by rfl)]; exact List.mem_cons_self⟩
  ·exact Qq en r _ x h
theorem zq {β:Type}:∀ {l:List (Str × β)}{x:Str}{c:β},(x,c) ∈ l->∃ d,l.lookup x=some d
 | (n,k)::r,x,c,h=>by
  by_cases e:x=n
  ·subst e; exact ⟨k,by simp [List.lookup_cons]⟩
  ·have eb:(x == n)=false:=by simpa using e
   rcases List.mem_cons.mp h with z | h
   ·cases z; exact absurd rfl e
   ·obtain ⟨d,hd⟩:=zq h
    exact ⟨d,by simp only [List.lookup_cons,eb]; exact hd⟩
theorem J1 {sc:Scope}{en:Env}{x:Str}{k:NameKind} (h:(x,k) ∈ (relabel sc en).names) (hc:∀ y ∈ sc.names,y.2 ≠ .cell) (hk:k= .cell ∨ k= .free):(x,NameKind.free) ∈ sc.names:=by
 obtain ⟨⟨n,j⟩,hm,e⟩:=List.mem_map.mp h
 by_cases q:(j == NameKind.free && en.scope.kind == .function && en.kindOf n == some .cell)=true
 ·have e1:(n,NameKind.cell)=(x,k):=by simpa only [q,zzM] using e
  cases e1
  have hj:j= .free:=by
   simp only [Bool.and_eq_true] at q
   simpa using q.1.1
  rw [←hj]; exact hm
 ·have e1:(n,j)=(x,k):=by simpa only [q,zzL,zzN] using e
  cases e1
  rcases hk with rfl | rfl
  ·exact absurd rfl (hc _ hm)
  ·exact hm
theorem QP {en:Env}:∀ {l:List (Str × NameKind)}{x:Str},l.lookup x=some .free->
  (l.map fun (n,k)=>if (k == NameKind.free && en.scope.kind == .function && en.kindOf n == some .cell) then (n,NameKind.cell) else (n,k)).lookup x=some .cell ∨
  (l.map fun (n,k)=>if (k == NameKind.free && en.scope.kind == .function && en.kindOf n == some .cell) then (n,NameKind.cell) else (n,k)).lookup x=some .free
 | (n,k)::r,x,h=>by
  rw [List.map_cons]
  cases hx:x == n with
  | true=>
   simp only [List.lookup_cons,hx] at h
   cases h
   by_cases q:(NameKind.free == NameKind.free && en.scope.kind == .function && en.kindOf n == some .cell)=true
   ·left; simp only [q,zzM,List.lookup_cons,hx]
   ·right; simp only [q,zzL,zzN,List.lookup_cons,hx]
  | false=>
   simp only [List.lookup_cons,hx] at h
   rcases QP (en:=en) h with g | g
   ·left
    by_cases q:(k == NameKind.free && en.scope.kind == .function && en.kindOf n == some .cell)=true
    ·simp only [q,zzM,List.lookup_cons,hx]; exact g
    ·simp only [q,zzL,zzN,List.lookup_cons,hx]; exact g
   ·right
    by_cases q:(k == NameKind.free && en.scope.kind == .function && en.kindOf n == some .cell)=true
    ·simp only [q,zzM,List.lookup_cons,hx]; exact g
    ·simp only [q,zzL,zzN,List.lookup_cons,hx]; exact g
noncomputable def blk (X:Cx) (N':List Str) (sc:Scope) (cl:List (Str × Addr)) (C:Addr) (s0:Shared) (H0:Hp) (fp:List Addr) (pn:List (Addr × Obj)):Cx:=
 { X with N:=N',s₀:=s0,H₀:=H0,env:=compEnvC sc cl C X.env,Ko:=X.stack,ex:=fp,fn:=fun _=>false,pn:=pn,xe:=NoX }
noncomputable def acq (cap:List (Option Nat)) (σ:St):St:=cap.map fun o=>o.bind fun i=>(σ[i]?).join
noncomputable def PTs (X:Cx) (ts:List Expr) (t:TT):Prop:=
 ∀ (Kp:List (Addr × Obj)) (s:Shared) (σ:St) (H:Hp) (Q:Bool->Hp->Prop),Inv X Kp σ H s->t σ H Q->wpAny (model X.prog X.w) X.A (aiK ts X.env) (TP X Kp σ Q) X.xe s
noncomputable def arc:TT:=fun _ H Q=>Q true H
theorem anl {X:Cx}:PTs X [] arc:=fun _ _ _ H _ I h=>wpAny_pure ⟨H,I,h⟩
theorem anm {X:Cx}{c:Expr}{t:TT} (h:PT X c t):PTs X [c] t:=fun Kp s σ H Q I hq=>wpAny_tests_one (h Kp s σ H Q I hq)
structure CompOk (X:Cx) (sc:Scope) (N':List Str) (cap:List (Option Nat)):Prop where
 fr:∀ x ∈ sc.names,x.2= .free->X.env.kindOf x.1=some .cell ∨ X.env.kindOf x.1=some .free
 nc:∀ x ∈ sc.names,x.2 ≠ .cell
 kind:sc.kind= .function
 nm:∀ x ∈ sc.names,x.2= .local->sc.names.lookup x.1=some .local
 len:cap.length=N'.length
 cp:∀ (j i:Nat) (x:Str),N'[j]?=some x->cap[j]?=some (some i)->X.N[i]?=some x/\sc.names.lookup x=some .free
noncomputable def aiM (wi:TI) (cap:List (Option Nat)) (g:TG) (tt:TT) (te:TE):TE:=fun σ H Q=>wi σ H fun J H1=>
 ∃ W:Nat->Nat->St->List V->Hp->Prop,(∃ m,W 0 m (acq cap σ) [] H1)/\∀ i m τ ys H,W i m τ ys H->ys.length<sizeLine/\
  ((J.stop i H/\∀ l,H l=none->Q (.ref l) (upd H l (.lst ys))) ∨
   (J.go i H/\∀ x H',J.yld i H x H'->g x τ H' fun τ2 H2=>tt τ2 H2 fun b H3=>if b=true then te τ2 H3 fun y H4=>∃ m',m' < m/\W (i+1) m' τ2 (ys++[y]) H4 else ∃ m',m' < m/\W (i+1) m' τ2 ys H3))
theorem Inv.track {X:Cx}{Kp:List (Addr × Obj)}{σ:St}{H:Hp}{s:Shared}{D:Addr}{o:HO} (I:Inv X Kp σ H s) (hn:H D=none) (h1:X.s₀.heap.objs.size<=D) (h2:D ≠ X.env.locals) (h3:∀ x c,X.env.cells.lookup x=some c->c ≠ D)
  (h4:∀ p ∈ X.pn++Kp,p.1 ≠ D) (new:qV X.prog X.w (upd H D o) s.heap D o):Inv X Kp σ (upd H D o) s:=by
 have nd:∀ b u,H b=some u->b ≠ D:=fun b u e z=>by rw [z,hn] at e; cases e
 have hok:HOk X.prog X.w (upd H D o) s.heap:=fun b u e=>by
  by_cases hb:b=D
  ·subst hb; rw [jn] at e; cases e; exact new
  ·rw [jp hb] at e
   exact (I.hok b u e).stay (fun _ _ _ q=>q) (fun c q=>by rw [jp (nd c _ q)]; exact q) fun c xs q=>by rw [jp (nd c _ q)]; exact q
 refine I.step (h':=s.heap) (g':=s.gens) (d':=s.drawn) (t':=s.toks) (ch:=[D]) (fun b hb=>?_) (fun b o _ _ _ e _=>e) (fun b o _ _ _ e _=>⟨o.slots,e⟩) (fun b o hc _ n=>?_) (fun b o _ e=>⟨o,e⟩) (fun b xs e=>by rw [jp (nd b _ e)]; exact e)
  (fun b ob u e=>by rw [jp (nd b _ e)]; exact e) (fun b ps e=>⟨#[],by rw [jp (nd b _ e),e]; simp⟩) (fun m hm=>hm) hok I.bare
 ·have e:b=D:=by simpa using hb
  subst e
  exact ⟨.inr h1,h2,h3,h4⟩
 ·have e:b ≠ D:=by simpa using hc
  rw [jp e]; exact n
theorem ann {X : Cx} {el tg src : Expr} {ts : List Expr} {sc : Scope} {ps : Pos} {wi : TI} {g : TG} {tt : TT} {te : TE} {N' : List Str} {cap : List (Option Nat)} (hc : X.calm = true) (hi : PI X tg src wi) (ok : CompOk X sc N' cap)
    (body : ∀ cl C s0 H0 fp pn, PG (blk X N' sc cl C s0 H0 fp pn) tg g /\ PTs (blk X N' sc cl C s0 H0 fp pn) ts tt /\ PE (blk X N' sc cl C s0 H0 fp pn) el te)
    (hs : ∀ x, foldedSetIterable src X.env x = pure x := by intro _; rfl) : PE X (.ListComp el [⟨tg, src, ts, 0⟩] sc ps) (aiM wi cap g tt te) := by
  intro Kp s σ H Q I h
  have hfr : ∀ x ∈ sc.names, x.2 = .free -> ∃ c, X.env.cells.lookup x.1 = some c := fun x hx e => I.ok.has x.1 (ok.fr x hx e)
  have hcl := aiL sc X.env hfr
  have clm : ∀ x c, (Ze X.env sc.names []).lookup x = some c -> X.env.cells.lookup x = some c := fun x c e =>
    abH X.env sc.names [] hfr (fun _ z => nomatch z) (x, c) (PySem.mem_of_lookup e)
  generalize hgl : Ze X.env sc.names [] = cl at hcl clm
  rw [eval_ListComp]
  refine wpAny_comprehension_free (use := none) rfl hs hcl ok.kind ok.nm ?_
  refine thn (hi Kp s σ H _ I h) fun v s1 h1 => thn h1 fun itv s2 h2 => ?_
  obtain ⟨it, fp, tn, J, H2, e, I2, T, st2, f2, W, ⟨m0, w0⟩, turn⟩ := h2
  subst e
  refine wpAny_newObj_type (wpAny_newFunctionEnv ok.nc (by intro y hy; simp at hy) (fun h4 hns hsb => ?_) ok.kind)
  dsimp only at hns hsb ⊢
  generalize hH3 : s2.heap.push { cls := .type "list", dict := none, data := .seq ([] : List Value).toArray } = h3 at hns hsb ⊢
  have hC : h3.objs.size = s2.heap.objs.size + 1 := by rw [← hH3, Heap.size_push]
  generalize hCC : h3.objs.size = C at hns hsb hC ⊢
  generalize hDD : s2.heap.objs.size = D at hC ⊢
  have hDC : D ≠ C := by rw [hC]; exact Nat.ne_of_lt (Nat.lt_succ_self _)
  have old : ∀ b o, s2.heap.get? b = some o -> h4.get? b = some o := fun b o e => hsb.extBut b o (by have := Heap.lt_size e; rw [hDD] at this; rw [hC]; exact Nat.ne_of_lt (Nat.lt_succ_of_lt this)) (Heap.get?_push_of_some _ (hH3 ▸ Heap.get?_push_of_some _ e))
  have accO : h4.get? D = some { cls := .type "list", data := .seq ([] : List Value).toArray 0 } := hsb.extBut _ _ hDC (Heap.get?_push_of_some _ (by rw [← hH3, ← hDD]; exact Heap.get?_push_size _ rfl))
  have H2D : H2 D = none := I2.hok.fresh (by rw [hDD]; exact Nat.le_refl _)
  have H2C : H2 C = none := I2.hok.fresh (by rw [hDD, hC]; exact Nat.le_succ _)
  have cellsLt : ∀ x c, X.env.cells.lookup x = some c -> c<D := fun x c e => by
    obtain ⟨v, q⟩ := I2.cell x c e
    rw [← hDD]; exact q.lt
  have pinLt : ∀ p ∈ X.pn ++ Kp, p.1<D := fun p hp => by rw [← hDD]; exact Heap.lt_size (I2.pin p hp).1
  have stkLt : ∀ b ∈ frs X.stack, b<D := fun b hb => by
    obtain ⟨_, o, ho, _⟩ := I2.stack.mem hb
    rw [← hDD]; exact Heap.lt_size ho
  have fpLt : ∀ b ∈ fp, b<D := fun b hb => by
    obtain ⟨o, ho, _⟩ := T.obj _ _ st2 b hb
    rw [← hDD]; exact Heap.lt_size ho
  have ltC : ∀ {b : Addr}, b<D -> b ≠ C := fun hb => by rw [hC]; exact Nat.ne_of_lt (Nat.lt_succ_of_lt hb)
  have locLt : X.env.locals<D := by rw [← hDD]; exact I2.lt
  have hDge : s2.heap.objs.size <= D := by rw [hDD]; exact Nat.le_refl _
  have hCge : s2.heap.objs.size <= C := by rw [hDD, hC]; exact Nat.le_succ _
  have bok : (blk X N' sc cl C s2 H2 fp (X.pn ++ Kp)).Ok := by
    refine ⟨I2.ok.mod, ok.kind, I2.ok.glob, I2.ok.blt, hCge, fun x y c e1 e2 => I2.ok.inj x y c (clm x c e1) (clm y c e2), fun x hx => ?_, fun x c z _ => ?_, I2.ok.hd, I2.ok.frames, .inl rfl, fun b hb => ?_, I2.bs, Nat.le_trans I2.ok.bsz I2.sz, fun b o e hb => ?_, fun b hb z => ?_, I2.stack, I2.stkFree⟩
    · have hx' : (relabel sc X.env).names.lookup x = some .cell ∨ (relabel sc X.env).names.lookup x = some .free := hx
      have hm : (x, NameKind.free) ∈ sc.names := by
        rcases hx' with z | z
        · exact J1 (PySem.mem_of_lookup z) ok.nc (.inl rfl)
        · exact J1 (PySem.mem_of_lookup z) ok.nc (.inr rfl)
      obtain ⟨c, hc⟩ := Qq X.env sc.names [] x hm
      rw [hgl] at hc
      exact zq hc
    · exact absurd (show false = true from z) Bool.false_ne_true
    · exact ⟨ltC (fpLt b hb), fun x c e => (f2 b hb).2.2.2.2.1 x c (clm x c e)⟩
    · rcases (f2 b hb).2.2.2.1 with z | z
      · exact I2.ok.noex b o e z
      · have := Heap.lt_size e
        exact absurd (Nat.lt_of_lt_of_le this (Nat.le_trans I2.ok.bsz z)) (Nat.lt_irrefl _)
    · rcases List.mem_cons.mp (I2.stkSub b z) with q | q
      · exact (f2 b hb).2.1 q
      · exact (f2 b hb).2.2.1 q
  have pinB : ∀ p ∈ X.pn ++ Kp, p.1 ≠ C /\ p.1 ∉ frs X.stack := fun p hp => ⟨ltC (pinLt p hp), fun z => by
    rcases List.mem_cons.mp (I2.stkSub p.1 z) with q | q
    · exact (I2.pin p hp).2.2.1 q
    · exact (I2.pin p hp).2.2.2.1 q⟩
  have I4 : Inv (blk X N' sc cl C s2 H2 fp (X.pn ++ Kp)) [] (acq cap σ) H2 { s2 with heap := h4, toks := s2.toks + ([] : List (Str × Value)).length } := by
    refine ⟨bok, rfl, I2.bare, Un.kept old, ⟨_, hns, fun j x v e1 e2 e3 => ?_⟩, fun x c e => ?_, H2C, fun x c e => I2.freeC x c (clm x c e), fun p hp => ?_, I2.hok.kept old, ?_⟩
    · unfold acq at e2
      rw [List.getElem?_map] at e2
      cases e4 : cap[j]? with
      | none => rw [e4] at e2; cases e2
      | some o =>
        rw [e4] at e2
        cases o with
        | none => cases e2
        | some i =>
          obtain ⟨hNi, hf⟩ := ok.cp j i x e1 e4
          have e5 : (σ[i]?).join = some v := by
            have := Option.some.inj e2
            simpa using this
          have e6 : σ[i]? = some (some v) := by
            cases e7 : σ[i]? with
            | none => rw [e7] at e5; cases e5
            | some z => rw [e7] at e5; cases z with
              | none => cases e5
              | some z => cases e5; rfl
          have hk := ok.fr (x, .free) (PySem.mem_of_lookup hf) rfl
          obtain ⟨m, hn, hl⟩ := I2.loc
          have hv : Vis X.env.scope x := by
            rcases hk with z | z
            · exact .inr (.inl z)
            · exact .inr (.inr z)
          obtain ⟨u, r, lk⟩ := hl i x v hNi e6 hv
          have cellX : ∃ c, X.env.cells.lookup x = some c /\ s2.heap.IsCell c (some u) := by
            rcases lk with ⟨k1, _⟩ | ⟨_, c, e, z⟩
            · rcases hk with z | z
              · have z' : X.env.kindOf x = some .cell := z
                rw [k1] at z'; cases z'
              · have z' : X.env.kindOf x = some .free := z
                rw [k1] at z'; cases z'
            · exact ⟨c, e, z⟩
          obtain ⟨c, hc1, ob, hc2, hc3⟩ := cellX
          obtain ⟨c', hc'⟩ := Qq X.env sc.names [] x (PySem.mem_of_lookup hf)
          rw [hgl] at hc'
          obtain ⟨d, hd⟩ := zq hc'
          have ed : d = c := by
            have := clm x d hd
            rw [hc1] at this; cases this; rfl
          subst ed
          refine ⟨u, r, .inr ⟨?_, d, hd, ob, old _ _ hc2, hc3⟩⟩
          exact QP hf
    · obtain ⟨v, ob, ho, hd⟩ := I2.cell x c (clm x c e)
      exact ⟨v, ob, old _ _ ho, hd⟩
    · have hp' : p ∈ X.pn ++ Kp := by simpa [blk] using hp
      obtain ⟨e1, e2, e3, e4, e5⟩ := I2.pin p hp'
      exact ⟨old _ _ e1, e2, (pinB p hp').1, (pinB p hp').2, e5⟩
    · show (acq cap σ).length = N'.length
      unfold acq
      rw [List.length_map]; exact ok.len
  have fpB : ∀ {H' : Hp} {pl : List (Addr × Obj)}, (∀ b ∈ fp, H' b = none) -> (∀ p ∈ pl, p.1 ∉ fp) -> ∀ b ∈ fp, afd (blk X N' sc cl C s2 H2 fp (X.pn ++ Kp)) pl H' b := fun {H' pl} hn hpl b hb =>
    ⟨hn b hb, ltC (fpLt b hb), bok.exfs b hb, .inl hb, fun x c e => (f2 b hb).2.2.2.2.1 x c (clm x c e), fun p hp z => by
      rcases List.mem_append.mp (show p ∈ (X.pn ++ Kp) ++ pl from hp) with q | q
      · exact (f2 b hb).2.2.2.2.2 p q z
      · exact hpl p q (by rw [z]; exact hb)⟩
  have Dfp : ∀ (o : Obj), ∀ p ∈ [(D, o)], p.1 ∉ fp := fun o p hp z => by
    have e : p = (D, o) := by simpa using hp
    subst e
    exact Nat.lt_irrefl _ (fpLt D z)
  have Dfs : D ∉ frs X.stack := fun z => Nat.lt_irrefl _ (stkLt D z)
  obtain ⟨bG, bT, bE⟩ := body cl C s2 H2 fp (X.pn ++ Kp)
  have loop : codeAny (model X.prog X.w) X.A (.compLoop (.ListComp el [⟨tg, src, ts, 0⟩] sc ps) 0 (.ref it) (.ref D) (compEnvC sc cl C X.env)) (compPost (model X.prog X.w) X.A X.xe none (EP X Kp σ Q) (.ref D) C)
      { s2 with heap := h4, toks := s2.toks + ([] : List (Str × Value)).length } := by
    refine aem (fun n s' => ∃ i τ ys us k H', Inv (blk X N' sc cl C s2 H2 fp (X.pn ++ Kp)) [] τ H' s' /\ tn i s'.heap /\ (∀ b ∈ fp, H' b = none) /\ jQ ys us /\ s'.heap.get? D = some { cls := .type "list", data := .seq us.toArray k } /\ H' D = none /\ W i n τ ys H') ?_ m0
      ⟨0, _, [], [], 0, H2, I4, T.keep _ _ _ st2 (fun b _ o e => old b o e), fun b hb => (f2 b hb).1, .nil, accO, H2D, w0⟩
    rintro n s5 ⟨i, τ, ys, us, k, H5, I5, st5, fr5, rv5, ho5, hD5, w5⟩
    obtain ⟨hsz, alt⟩ := turn i n τ ys H5 w5
    have I5p : Inv (blk X N' sc cl C s2 H2 fp (X.pn ++ Kp)) [(D, { cls := .type "list", data := .seq us.toArray k })] τ H5 s5 := I5.pins_of fun p hp => by
      have e : p = (D, { cls := .type "list", data := .seq us.toArray k }) := by simpa using hp
      subst e
      exact ⟨ho5, hD5, hDC, Dfs, fun v z => by cases z⟩
    rcases alt with ⟨stop, fin⟩ | ⟨go, step⟩
    · refine thn (T.done (blk X N' sc cl C s2 H2 fp (X.pn ++ Kp)) rfl rfl rfl hc i _ s5 τ H5 NoX I5p (fpB fr5 (Dfp _)) st5 stop) fun r s6 ⟨hr, I6⟩ => ?_
      subst hr
      have ho6 := (I6.pin (D, _) (List.mem_append_right _ (List.mem_singleton.mpr rfl))).1
      obtain ⟨m6, hn6, _⟩ := I6.loc
      refine ⟨m6, hn6, fun h7 hs7 => ?_⟩
      have J6 : Inv X Kp σ H5 s6 := I2.call' (ch := fp) I6.os I6.base I6.hok I6.bare fun b hb => ⟨(f2 b hb).2.2.2.1, (f2 b hb).2.1, (f2 b hb).2.2.2.2.1, (f2 b hb).2.2.2.2.2⟩
      have H5C : H5 C = none := I6.free
      have cne : ∀ {b : Addr}, b<D -> b ≠ C := ltC
      have J7 : Inv X Kp σ H5 { s6 with heap := h7, toks := s6.toks } := J6.turned (it := C) (fun b o hb e => hs7.extBut b o hb e) H5C (Ne.symm (ltC locLt)) (.inr (Nat.le_trans I2.sz hCge)) (fun x c e => ltC (cellsLt x c e)) (fun p hp => ltC (pinLt p hp))
      have ho7 : h7.get? D = some { cls := .type "list", data := .seq us.toArray k } := hs7.extBut D _ hDC ho6
      refine ⟨.ref D, upd H5 D (.lst ys), ?_, rfl, fin D hD5⟩
      exact Inv.track J7 hD5 (Nat.le_trans I2.sz hDge) (Ne.symm (Nat.ne_of_lt locLt)) (fun x c e => Nat.ne_of_lt (cellsLt x c e)) (fun p hp => Nat.ne_of_lt (pinLt p hp)) ⟨Nat.le_of_lt hsz, us, k, rv5, ho7⟩
    · refine thn (T.item (blk X N' sc cl C s2 H2 fp (X.pn ++ Kp)) rfl rfl rfl hc i _ s5 τ H5 NoX I5p (fpB fr5 (Dfp _)) st5 go) fun r s6 ⟨u, hr, h6⟩ => ?_
      subst hr
      refine thn h6 fun _ s7 ⟨x, H7, I7, r7, y7, st7, fr7⟩ => ?_
      have I7p := I7.pinned (fpB fr7 (Dfp _)) (T.obj _ _ st7)
      refine thn (bG _ s7 τ H7 x u _ I7p r7 (step x H7 y7)) fun _ s8 ⟨τ8, H8, I8, q8⟩ => ?_
      have back : ∀ {τ9 : St} {H9 : Hp} {s9 : Shared}, Inv (blk X N' sc cl C s2 H2 fp (X.pn ++ Kp)) ([(D, { cls := .type "list", data := .seq us.toArray k })] ++ abF fp s7.heap) τ9 H9 s9 ->
          tn (i + 1) s9.heap /\ (∀ b ∈ fp, H9 b = none) /\ s9.heap.get? D = some { cls := .type "list", data := .seq us.toArray k } /\ H9 D = none := fun {τ9 H9 s9} I9 => by
        have pD := I9.pin (D, { cls := .type "list", data := .seq us.toArray k }) (List.mem_append_right _ (List.mem_append_left _ (List.mem_singleton.mpr rfl)))
        refine ⟨T.keep _ _ _ st7 fun b hb o e => (I9.pin (b, o) (List.mem_append_right _ (List.mem_append_right _ (zX hb e)))).1, fun b hb => ?_, pD.1, pD.2.1⟩
        obtain ⟨o, e, _⟩ := T.obj _ _ st7 b hb
        exact (I9.pin (b, o) (List.mem_append_right _ (List.mem_append_right _ (zX hb e)))).2.1
      have drop : ∀ {τ9 : St} {H9 : Hp} {s9 : Shared} {pl : List (Addr × Obj)}, Inv (blk X N' sc cl C s2 H2 fp (X.pn ++ Kp)) pl τ9 H9 s9 -> Inv (blk X N' sc cl C s2 H2 fp (X.pn ++ Kp)) [] τ9 H9 s9 := fun I9 => I9.pins_of fun p hp => nomatch hp
      refine thn (bT _ s8 τ8 H8 _ I8 q8) fun b s9 ⟨H9, I9, q9⟩ => ?_
      cases b with
      | false =>
        rw [if_neg Bool.false_ne_true] at q9 ⊢
        obtain ⟨m', hm, w9⟩ := q9
        obtain ⟨t9, f9, o9, d9⟩ := back I9
        exact ⟨m', hm, i + 1, τ8, ys, us, k, H9, drop I9, t9, f9, rv5, o9, d9, w9⟩
      | true =>
        rw [if_pos rfl] at q9 ⊢
        refine thn (bE _ s9 τ8 H9 _ I9 q9) fun y s10 ⟨z, H10, I10, r10, q10⟩ => ?_
        obtain ⟨m', hm, w10⟩ := q10
        obtain ⟨t10, f10, o10, d10⟩ := back I10
        have hl := rv5.length
        refine append_at (hsz := by show us.toArray.size <= sizeLine; rw [List.size_toArray, ← hl]; exact Nat.le_of_lt hsz) o10 fun h11 hs11 hD11 => ?_
        have I11 : Inv (blk X N' sc cl C s2 H2 fp (X.pn ++ Kp)) [] τ8 H10 { s10 with heap := h11, toks := s10.toks } := (drop I10).turned (it := D) (fun b o hb e => hs11.extBut b o hb e) d10 hDC (.inr hDge) (fun x c e => Nat.ne_of_lt (cellsLt x c (clm x c e)))
          (fun p hp => by have hp' : p ∈ X.pn ++ Kp := by simpa [blk] using hp
                          exact Nat.ne_of_lt (pinLt p hp'))
        refine ⟨m', hm, i + 1, τ8, ys ++ [z], us ++ [y], k + 1, H10, I11, T.keep _ _ _ t10 (fun b hb o e => hs11.extBut b o (Nat.ne_of_lt (fpLt b hb)) e), f10, rv5.append (.cons r10 .nil), ?_, d10, w10⟩
        rw [hD11]
        simp
  refine codeAny_compStart_list loop ?_
  exact T.self _ 0 _ _ _ (T.keep _ _ _ st2 (fun b _ o e => old b o e)) loop
theorem jq.tup {K:Fg}{H H':Hp}{a:Addr}{xs:List V} (e:jq H H') (h:SqT K H a xs):SqT K H' a xs:=by
 rcases h with (h | ⟨o,h⟩) | h
 ·exact .inl (.inl (e _ _ h))
 ·exact .inl (.inr ⟨o,e _ _ h⟩)
 ·exact .inr h
noncomputable def scr (ns:List Int):PyData:= .dict (ns.map fun n=>(.int n,.none))
mutual
noncomputable def Rep (K:Fg) (H:Hp):PyData->V->Prop
 | .none,v=>v= .non
 | .bool b,v=>v= .bl b
 | .int i,v=>v= .int i
 | .str x,v=>v= .str x
 | .tuple ds,v=>∃ a xs,v= .ref a/\SqT K H a xs/\Reps K H ds xs
 | .list ds,v=>∃ a xs,v= .ref a/\H a=some (.lst xs)/\Reps K H ds xs
 | .dict kvs,v=>∃ a,v= .ref a/\((∃ ns:List Int,SqL K H a (List.map V.int ns)/\kvs=ns.map (fun n=>(PyData.int n,PyData.none))) ∨ (∃ ks ob,H a=some (.frz ob (.dK ks))/\RepD K H kvs ks) ∨ (∃ x:Str,kvs=[(.str x,.none)]/\PySem.W.nsIn K mainGlobals x=some (some (.ref a))) ∨ (∃ (x:Str) (C:Addr) (oe:Obj),kvs=[(.str x,.bool true)]/\H a=some (.frz oe (.own a))/\PySem.W.nsIn K mainGlobals x=some (some (.ref C))/\oe.cls= .ref C/\oe.dict=none/\∃ vs,oe.data= .fields vs) ∨ kvs=[(.bool true,.int (a:Int))])
noncomputable def Reps (K:Fg) (H:Hp):LP->List V->Prop
 | [],xs=>xs=[]
 | d::ds,xs=>∃ x r,xs=x::r/\Rep K H d x/\Reps K H ds r
noncomputable def RepD (K:Fg) (H:Hp):List (PyData × PyData)->List (Key × V)->Prop
 | [],_=>False
 | (.none,_)::r,ks=>RepM K H r ks
 | _::_,_=>False
noncomputable def RepM (K:Fg) (H:Hp):List (PyData × PyData)->List (Key × V)->Prop
 | [],ks=>ks=[]
 | (k,d)::r,ks=>∃ i x s,k= .int i/\ks=(Sum.inl i,x)::s/\Rep K H d x/\RepM K H r s
end
noncomputable def Jo (kvs:List (PyData × PyData)):Bool:=kvs.all fun p=>match p with
 | (.int _,.none)=>true
 | _=>false
theorem aen (ns:List Int):Jo (ns.map fun n=>(PyData.int n,PyData.none))=true:=by
 simp [Jo]
theorem RepD.out {K:Fg}{H:Hp}:∀ {kvs:List (PyData × PyData)}{ks:List (Key × V)},RepD K H kvs ks->∃ c r,kvs=(.none,c)::r/\RepM K H r ks
 | [],_,h=>h.elim
 | (.none,c)::r,ks,h=>⟨c,r,rfl,h⟩
 | (.bool _,_)::_,_,h=>h.elim
 | (.int _,_)::_,_,h=>h.elim
 | (.str _,_)::_,_,h=>h.elim
 | (.list _,_)::_,_,h=>h.elim
 | (.tuple _,_)::_,_,h=>h.elim
 | (.dict _,_)::_,_,h=>h.elim
theorem Rep.scrOut {K:Fg}{H:Hp}{kvs:List (PyData × PyData)}{v:V} (h:Rep K H (.dict kvs) v) (hs:Jo kvs=true):∃ a ns,v= .ref a/\SqL K H a (List.map V.int ns)/\kvs=ns.map (fun n=>(PyData.int n,PyData.none)):=by
 obtain ⟨a,h1,h2 | ⟨ks,ob,h2,h3⟩ | ⟨x,h2,_⟩ | ⟨x,_,_,h2,_⟩ | h2⟩:=h
 ·obtain ⟨ns,q1,q2⟩:=h2; exact ⟨a,ns,h1,q1,q2⟩
 ·obtain ⟨c,r,rfl,_⟩:=h3.out
  simp [Jo] at hs
 ·subst h2; simp [Jo] at hs
 ·subst h2; simp [Jo] at hs
 ·subst h2; simp [Jo] at hs
noncomputable def zz (a:Addr):PyData:= .dict [(.bool true,.int (a:Int))]
noncomputable def Jw (x:Str):PyData:= .dict [(.str x,.bool true)]
noncomputable def fnD (x:Str):PyData:= .dict [(.str x,.none)]
noncomputable def qf (H H':Hp):Prop:=∀ b o,H b=some o->(∀ φ,o ≠ .ext φ)->H' b=some o
theorem jq.e {H H':Hp} (s:jq H H'):qf H H':=fun b o h _=>s b o h
theorem qf.trans {H H1 H2:Hp} (a:qf H H1) (b:qf H1 H2):qf H H2:=fun c o h n=>b c o (a c o h n) n
theorem qf.tup {K:Fg}{H H':Hp}{a:Addr}{xs:List V} (e:qf H H') (h:SqT K H a xs):SqT K H' a xs:=by
 rcases h with (h | ⟨o,h⟩) | h
 ·exact .inl (.inl (e _ _ h fun _ z=>nomatch z))
 ·exact .inl (.inr ⟨o,e _ _ h fun _ z=>nomatch z⟩)
 ·exact .inr h
theorem qf.sql {K:Fg}{H H':Hp}{a:Addr}{xs:List V} (e:qf H H') (h:SqL K H a xs):SqL K H' a xs:=by
 rcases h with (h | ⟨o,h⟩) | h
 ·exact .inl (.inl (e _ _ h fun _ z=>nomatch z))
 ·exact .inl (.inr ⟨o,e _ _ h fun _ z=>nomatch z⟩)
 ·exact .inr h
section
variable {K:Fg}{H H':Hp}
mutual
theorem Rep.mono (e:jq H H'):∀ (d:PyData) (v:V),Rep K H d v->Rep K H' d v
 | .none,v,h=>h
 | .bool _,v,h=>h
 | .int _,v,h=>h
 | .str _,v,h=>h
 | .tuple ds,v,⟨a,xs,h1,h2,h3⟩=>⟨a,xs,h1,jq.tup e h2,Reps.mono e ds xs h3⟩
 | .list ds,v,⟨a,xs,h1,h2,h3⟩=>⟨a,xs,h1,e _ _ h2,Reps.mono e ds xs h3⟩
 | .dict kvs,v,⟨a,h1,h2⟩=>⟨a,h1,h2.imp (fun ⟨ns,q1,q2⟩=>⟨ns,e.seq q1,q2⟩) fun z=>z.imp (fun ⟨ks,ob,q1,q2⟩=>⟨ks,ob,e _ _ q1,RepD.mono e kvs ks q2⟩) fun y=>y.imp id fun z=>z.imp (fun ⟨x,C,oe,q1,q2,q3⟩=>⟨x,C,oe,q1,e _ _ q2,q3⟩) id⟩
theorem Reps.mono (e:jq H H'):∀ (ds:LP) (xs:List V),Reps K H ds xs->Reps K H' ds xs
 | [],xs,h=>h
 | d::ds,xs,⟨x,r,h1,h2,h3⟩=>⟨x,r,h1,Rep.mono e d x h2,Reps.mono e ds r h3⟩
theorem RepD.mono (e:jq H H'):∀ (kvs:List (PyData × PyData)) (ks:List (Key × V)),RepD K H kvs ks->RepD K H' kvs ks
 | [],_,h=>h
 | (.none,c)::r,ks,h=>RepM.mono e r ks h
 | (.bool _,_)::_,_,h=>h
 | (.int _,_)::_,_,h=>h
 | (.str _,_)::_,_,h=>h
 | (.list _,_)::_,_,h=>h
 | (.tuple _,_)::_,_,h=>h
 | (.dict _,_)::_,_,h=>h
theorem RepM.mono (e:jq H H'):∀ (kvs:List (PyData × PyData)) (ks:List (Key × V)),RepM K H kvs ks->RepM K H' kvs ks
 | [],_,h=>h
 | (k,d)::r,ks,⟨i,x,s,h1,h2,h3,h4⟩=>⟨i,x,s,h1,h2,Rep.mono e d x h3,RepM.mono e r s h4⟩
end
mutual
theorem Rep.monoE (e:qf H H'):∀ (d:PyData) (v:V),Rep K H d v->Rep K H' d v
 | .none,v,h=>h
 | .bool _,v,h=>h
 | .int _,v,h=>h
 | .str _,v,h=>h
 | .tuple ds,v,⟨a,xs,h1,h2,h3⟩=>⟨a,xs,h1,qf.tup e h2,Reps.monoE e ds xs h3⟩
 | .list ds,v,⟨a,xs,h1,h2,h3⟩=>⟨a,xs,h1,e _ _ h2 (fun _ z=>nomatch z),Reps.monoE e ds xs h3⟩
 | .dict kvs,v,⟨a,h1,h2⟩=>⟨a,h1,h2.imp (fun ⟨ns,q1,q2⟩=>⟨ns,qf.sql e q1,q2⟩) fun z=>z.imp (fun ⟨ks,ob,q1,q2⟩=>⟨ks,ob,e _ _ q1 (fun _ z=>nomatch z),RepD.monoE e kvs ks q2⟩) fun y=>y.imp id fun z=>z.imp (fun ⟨x,C,oe,q1,q2,q3⟩=>⟨x,C,oe,q1,e _ _ q2 (fun _ z=>nomatch z),q3⟩) id⟩
theorem Reps.monoE (e:qf H H'):∀ (ds:LP) (xs:List V),Reps K H ds xs->Reps K H' ds xs
 | [],xs,h=>h
 | d::ds,xs,⟨x,r,h1,h2,h3⟩=>⟨x,r,h1,Rep.monoE e d x h2,Reps.monoE e ds r h3⟩
theorem RepD.monoE (e:qf H H'):∀ (kvs:List (PyData × PyData)) (ks:List (Key × V)),RepD K H kvs ks->RepD K H' kvs ks
 | [],_,h=>h
 | (.none,c)::r,ks,h=>RepM.monoE e r ks h
 | (.bool _,_)::_,_,h=>h
 | (.int _,_)::_,_,h=>h
 | (.str _,_)::_,_,h=>h
 | (.list _,_)::_,_,h=>h
 | (.tuple _,_)::_,_,h=>h
 | (.dict _,_)::_,_,h=>h
theorem RepM.monoE (e:qf H H'):∀ (kvs:List (PyData × PyData)) (ks:List (Key × V)),RepM K H kvs ks->RepM K H' kvs ks
 | [],_,h=>h
 | (k,d)::r,ks,⟨i,x,s,h1,h2,h3,h4⟩=>⟨i,x,s,h1,h2,Rep.monoE e d x h3,RepM.monoE e r s h4⟩
end
end
noncomputable def alc:HO->Bool
 | .lst _=>true
 | .tup _=>true
 | .frz _ _=>true
 | _=>false
noncomputable def jG (H H':Hp):Prop:=∀ b o,H b=some o->alc o=true->H' b=some o
section
variable {K:Fg}{H H':Hp}
theorem jG.tup {a:Addr}{xs:List V} (e:jG H H') (h:SqT K H a xs):SqT K H' a xs:=by
 rcases h with (h | ⟨o,h⟩) | h
 ·exact .inl (.inl (e _ _ h rfl))
 ·exact .inl (.inr ⟨o,e _ _ h rfl⟩)
 ·exact .inr h
theorem jG.sql {a:Addr}{xs:List V} (e:jG H H') (h:SqL K H a xs):SqL K H' a xs:=by
 rcases h with (h | ⟨o,h⟩) | h
 ·exact .inl (.inl (e _ _ h rfl))
 ·exact .inl (.inr ⟨o,e _ _ h rfl⟩)
 ·exact .inr h
mutual
theorem Rep.monoA (e:jG H H'):∀ (d:PyData) (v:V),Rep K H d v->Rep K H' d v
 | .none,v,h=>h
 | .bool _,v,h=>h
 | .int _,v,h=>h
 | .str _,v,h=>h
 | .tuple ds,v,⟨a,xs,h1,h2,h3⟩=>⟨a,xs,h1,jG.tup e h2,Reps.monoA e ds xs h3⟩
 | .list ds,v,⟨a,xs,h1,h2,h3⟩=>⟨a,xs,h1,e _ _ h2 rfl,Reps.monoA e ds xs h3⟩
 | .dict kvs,v,⟨a,h1,h2⟩=>⟨a,h1,h2.imp (fun ⟨ns,q1,q2⟩=>⟨ns,jG.sql e q1,q2⟩) fun z=>z.imp (fun ⟨ks,ob,q1,q2⟩=>⟨ks,ob,e _ _ q1 rfl,RepD.monoA e kvs ks q2⟩) fun y=>y.imp id fun z=>z.imp (fun ⟨x,C,oe,q1,q2,q3⟩=>⟨x,C,oe,q1,e _ _ q2 rfl,q3⟩) id⟩
theorem Reps.monoA (e:jG H H'):∀ (ds:LP) (xs:List V),Reps K H ds xs->Reps K H' ds xs
 | [],xs,h=>h
 | d::ds,xs,⟨x,r,h1,h2,h3⟩=>⟨x,r,h1,Rep.monoA e d x h2,Reps.monoA e ds r h3⟩
theorem RepD.monoA (e:jG H H'):∀ (kvs:List (PyData × PyData)) (ks:List (Key × V)),RepD K H kvs ks->RepD K H' kvs ks
 | [],_,h=>h
 | (.none,c)::r,ks,h=>RepM.monoA e r ks h
 | (.bool _,_)::_,_,h=>h
 | (.int _,_)::_,_,h=>h
 | (.str _,_)::_,_,h=>h
 | (.list _,_)::_,_,h=>h
 | (.tuple _,_)::_,_,h=>h
 | (.dict _,_)::_,_,h=>h
theorem RepM.monoA (e:jG H H'):∀ (kvs:List (PyData × PyData)) (ks:List (Key × V)),RepM K H kvs ks->RepM K H' kvs ks
 | [],_,h=>h
 | (k,d)::r,ks,⟨i,x,s,h1,h2,h3,h4⟩=>⟨i,x,s,h1,h2,Rep.monoA e d x h3,RepM.monoA e r s h4⟩
end
end
theorem jq.a {H H':Hp} (s:jq H H'):jG H H':=fun b o h _=>s b o h
theorem qf.a {H H':Hp} (s:qf H H'):jG H H':=fun b o h q=>s b o h fun φ z=>by subst z; cases q
theorem jG.refl (H:Hp):jG H H:=fun _ _ h _=>h
theorem jG.trans {H H1 H2:Hp} (a:jG H H1) (b:jG H1 H2):jG H H2:=fun c o h n=>b c o (a c o h n) n
section
variable {K:Fg}{H H':Hp}
theorem Rep.cel (a:Addr):Rep K H (zz a) (.ref a):=⟨a,rfl,.inr (.inr (.inr (.inr rfl)))⟩
theorem Rep.celOut {a:Addr}{v:V} (h:Rep K H (zz a) v):v= .ref a:=by
 obtain ⟨b,h1,⟨ns,_,h2⟩ | ⟨ks,ob,h2,h3⟩ | ⟨x,h2,_⟩ | ⟨x,_,_,h2,_⟩ | h2⟩:=h
 ·cases ns with
  | nil=>cases h2
  | cons n ns=>simp at h2
 ·exact h3.elim
 ·simp at h2
 ·simp at h2
 ·have z:(a:Int)=(b:Int):=by simpa using h2
  rw [h1,Int.ofNat.inj z]
theorem Reps.length:∀ {ds:LP}{xs:List V},Reps K H ds xs->xs.length=ds.length
 | [],xs,h=>by cases h; rfl
 | d::ds,xs,⟨x,r,h1,h2,h3⟩=>by subst h1; simp [Reps.length h3]
theorem Reps.get:∀ {ds:LP}{xs:List V}{i:Nat}{d:PyData},Reps K H ds xs->ds[i]?=some d->∃ x,xs[i]?=some x/\Rep K H d x
 | [],xs,i,d,h,e=>by simp at e
 | c::ds,xs,0,d,⟨x,r,h1,h2,h3⟩,e=>by subst h1; simp at e; subst e; exact ⟨x,rfl,h2⟩
 | c::ds,xs,i+1,d,⟨x,r,h1,h2,h3⟩,e=>by
  subst h1
  obtain ⟨y,e1,e2⟩:=Reps.get (i:=i) h3 (by simpa using e)
  exact ⟨y,by simpa using e1,e2⟩
theorem Reps.append:∀ {ds es:LP}{xs ys:List V},Reps K H ds xs->Reps K H es ys->Reps K H (ds++es) (xs++ys)
 | [],es,xs,ys,h,g=>by cases h; exact g
 | d::ds,es,xs,ys,⟨x,r,h1,h2,h3⟩,g=>by subst h1; exact ⟨x,r++ys,rfl,h2,Reps.append h3 g⟩
theorem Reps.take:∀ {ds:LP}{xs:List V} (n:Nat),Reps K H ds xs->Reps K H (ds.take n) (xs.take n)
 | ds,xs,0,h=>by simp; rfl
 | [],xs,n+1,h=>by cases h; rfl
 | d::ds,xs,n+1,⟨x,r,h1,h2,h3⟩=>by subst h1; exact ⟨x,_,rfl,h2,Reps.take n h3⟩
theorem Reps.drop:∀ {ds:LP}{xs:List V} (n:Nat),Reps K H ds xs->Reps K H (ds.drop n) (xs.drop n)
 | ds,xs,0,h=>by simpa using h
 | [],xs,n+1,h=>by cases h; rfl
 | d::ds,xs,n+1,⟨x,r,h1,h2,h3⟩=>by subst h1; simpa using Reps.drop n h3
theorem Reps.ints:∀ {ns:List Int}{xs:List V},Reps K H (ns.map PyData.int) xs->xs=ns.map V.int
 | [],xs,h=>h
 | n::ns,xs,⟨x,r,h1,h2,h3⟩=>by subst h1; cases (show x=V.int n from h2); rw [Reps.ints h3]; rfl
end
section
variable {X:Cx}{Kp:List (Addr × Obj)}{σ:St}{H:Hp}{s:Shared}
mutual
theorem zK (I:Inv X Kp σ H s):∀ (d:PyData) (v:V) (u:Value),Rep X.K H d v->qe v u->d.canLay0=true->∃ as,Reads s.heap u d as
 | .none,v,u,h,r,_=>by cases h; cases r; exact ⟨_,.none⟩
 | .bool b,v,u,h,r,_=>by cases h; cases r; exact ⟨_,.bool b⟩
 | .int i,v,u,h,r,_=>by cases h; obtain ⟨t,rfl⟩:=r; exact ⟨_,.int i t⟩
 | .str x,v,u,h,r,_=>by cases h; obtain ⟨t,rfl⟩:=r; exact ⟨_,.str x t⟩
 | .tuple ds,v,u,⟨a,xs,h1,h2,h3⟩,r,hc=>by
  subst h1; cases r
  obtain ⟨its,rv,⟨o,e1,e2,n,e3⟩,_⟩:=I.tuple h2
  obtain ⟨as,ra⟩:=readsAll_of I ds xs its h3 rv (by simpa [PyData.canLay0] using hc)
  exact ⟨as,.tuple e1 e2 e3 (by simpa using ra)⟩
 | .list ds,v,u,⟨a,xs,h1,h2,h3⟩,r,hc=>by
  subst h1; cases r
  obtain ⟨its,rv,⟨o,n,e1,e2,e3,e4⟩,_⟩:=I.list (SqL.of h2)
  obtain ⟨as,ra⟩:=readsAll_of I ds xs its h3 rv (by simpa [PyData.canLay0] using hc)
  exact ⟨a::as,.list e1 e2 e4 (by simpa using ra)⟩
 | .dict kvs,v,u,h,r,hc=>by simp [PyData.canLay0] at hc
theorem readsAll_of (I:Inv X Kp σ H s):∀ (ds:LP) (xs:List V) (us:List Value),Reps X.K H ds xs->jQ xs us->PyData.canLayAll0 ds=true->∃ as,ReadsAll s.heap us ds as
 | [],xs,us,h,r,_=>by cases h; cases r; exact ⟨_,.nil⟩
 | d::ds,xs,us,⟨x,q,h1,h2,h3⟩,r,hc=>by
  subst h1
  cases r with
  | cons r1 r2=>
   have hc':d.canLay0=true/\PyData.canLayAll0 ds=true:=by simpa [PyData.canLayAll0] using hc
   obtain ⟨as,ra⟩:=zK I d x _ h2 r1 hc'.1
   obtain ⟨bs,rb⟩:=readsAll_of I ds q _ h3 r2 hc'.2
   exact ⟨_,.cons ra rb⟩
end
end
noncomputable abbrev Rho:=List (OP)
abbrev RP:=Rho->OP
structure EnvR (K:Fg) (H:Hp) (ρ:Rho) (σ:St):Prop where
 len:ρ.length=σ.length
 at':∀ (i:Nat) (d:PyData),ρ[i]?=some (some d)->∃ v,σ[i]?=some (some v)/\Rep K H d v
theorem EnvR.mono {K:Fg}{H H':Hp}{ρ:Rho}{σ:St} (e:EnvR K H ρ σ) (h:jq H H'):EnvR K H' ρ σ:=
 ⟨e.len,fun i d q=>let ⟨v,e1,e2⟩:=e.at' i d q; ⟨v,e1,Rep.mono h d v e2⟩⟩
theorem EnvR.set {K:Fg}{H:Hp}{ρ:Rho}{σ:St} (e:EnvR K H ρ σ) {i:Nat}{d:PyData}{v:V} (r:Rep K H d v):EnvR K H (ρ.set i (some d)) (σ.set i (some v)):=by
 refine ⟨by simp [e.len],fun j c q=>?_⟩
 by_cases hj:i=j
 ·subst hj
  rw [List.getElem?_set] at q ⊢
  simp only [zzM] at q ⊢
  by_cases hl:i < ρ.length
  ·rw [if_pos hl] at q
   rw [if_pos (by rw [←e.len]; exact hl)]
   cases q
   exact ⟨v,rfl,r⟩
  ·rw [if_neg hl] at q; cases q
 ·rw [List.getElem?_set_ne hj] at q ⊢
  exact e.at' j c q
noncomputable def lkp (i:Nat) (ρ:Rho):OP:=(ρ[i]?).join
theorem qB {i:Nat}{ρ:Rho}{d:PyData} (h:lkp i ρ=some d):ρ[i]?=some (some d):=by
 unfold lkp at h
 cases e:ρ[i]? with
 | none=>rw [e] at h; cases h
 | some o=>rw [e] at h; cases o with
  | none=>cases h
  | some c=>cases h; rfl
noncomputable def tD (K:Fg) (f:RP):TE:=fun σ H Q=>∃ ρ d,EnvR K H ρ σ/\f ρ=some d/\∀ v H',jq H H'->Rep K H' d v->Q v H'
@[irreducible] noncomputable def PD (X:Cx) (e:Expr) (f:RP):Prop:=PE X e (tD X.K f)
noncomputable def tDT (K:Fg) (f:Rho->Option Bool):TT:=fun σ H Q=>∃ ρ b,EnvR K H ρ σ/\f ρ=some b/\∀ H',jq H H'->Q b H'
@[irreducible] noncomputable def PTD (X:Cx) (e:Expr) (f:Rho->Option Bool):Prop:=PT X e (tDT X.K f)
noncomputable def tDA (K:Fg) (f:Rho->Option (LP)):TA:=fun σ H Q=>∃ ρ ds,EnvR K H ρ σ/\f ρ=some ds/\∀ vs H',jq H H'->Reps K H' ds vs->Q vs H'
@[irreducible] noncomputable def PAD (X:Cx) (es:List Expr) (f:Rho->Option (LP)):Prop:=PA X es (tDA X.K f)
inductive Out where
 | nx (ρ:Rho) | rt (d:PyData) | bk (ρ:Rho) | ct (ρ:Rho)
abbrev RO:=Rho->Option Out
noncomputable def agi (K:Fg) (D:Ends) (H:Hp):Out->Prop
 | .nx ρ=>∀ σ H',jq H H'->EnvR K H' ρ σ->D.nx σ H'
 | .rt d=>∀ v H',jq H H'->Rep K H' d v->D.rt v H'
 | .bk ρ=>∀ σ H',jq H H'->EnvR K H' ρ σ->D.bk σ H'
 | .ct ρ=>∀ σ H',jq H H'->EnvR K H' ρ σ->D.ct σ H'
theorem agi.mono {K:Fg}{D:Ends}{H H':Hp}{o:Out} (h:agi K D H o) (e:jq H H'):agi K D H' o:=by
 cases o with
 | nx ρ=>exact fun σ H2 e2 r=>h σ H2 (e.trans e2) r
 | rt d=>exact fun v H2 e2 r=>h v H2 (e.trans e2) r
 | bk ρ=>exact fun σ H2 e2 r=>h σ H2 (e.trans e2) r
 | ct ρ=>exact fun σ H2 e2 r=>h σ H2 (e.trans e2) r
noncomputable def tDS (K:Fg) (F:RO):TS:=fun D σ H=>∃ ρ o,EnvR K H ρ σ/\F ρ=some o/\agi K D H o
@[irreducible] noncomputable def PSD (X:Cx) (st:Stmt) (F:RO):Prop:=PS X st (tDS X.K F)
@[irreducible] noncomputable def aao (X:Cx) (st:List Stmt) (F:RO):Prop:=PSs X st (tDS X.K F)
noncomputable def tDG (K:Fg) (ga:PyData->Rho->Option Rho):TG:=fun v σ H Q=>∃ ρ d ρ',EnvR K H ρ σ/\Rep K H d v/\ga d ρ=some ρ'/\∀ σ' H',jq H H'->EnvR K H' ρ' σ'->Q σ' H'
@[irreducible] noncomputable def PGD (X:Cx) (tg:Expr) (ga:PyData->Rho->Option Rho):Prop:=PG X tg (tDG X.K ga)
section
variable {X:Cx}{e a b c:Expr}{es:List Expr}{fa fb fc:RP}{pos:Pos}
theorem PE.imp {t t':TE} (h:PE X e t) (hi:∀ σ H Q,t' σ H Q->t σ H Q):PE X e t':=fun Kp s σ H Q I q=>h Kp s σ H Q I (hi σ H Q q)
theorem PT.imp {t t':TT} (h:PT X e t) (hi:∀ σ H Q,t' σ H Q->t σ H Q):PT X e t':=fun Kp s σ H Q I q=>h Kp s σ H Q I (hi σ H Q q)
theorem PA.imp {t t':TA} (h:PA X es t) (hi:∀ σ H Q,t' σ H Q->t σ H Q):PA X es t':=fun pos Kp s σ H Q I q=>h pos Kp s σ H Q I (hi σ H Q q)
theorem PS.imp {st:Stmt}{t t':TS} (h:PS X st t) (hi:∀ D σ H,t' D σ H->t D σ H):PS X st t':=fun Kp s σ H D I q=>h Kp s σ H D I (hi D σ H q)
theorem PSs.imp {st:List Stmt}{t t':TS} (h:PSs X st t) (hi:∀ D σ H,t' D σ H->t D σ H):PSs X st t':=fun Kp s σ H D I q=>h Kp s σ H D I (hi D σ H q)
theorem PG.imp {t t':TG} (h:PG X e t) (hi:∀ v σ H Q,t' v σ H Q->t v σ H Q):PG X e t':=fun Kp s σ H v u Q I r q=>h Kp s σ H v u Q I r (hi v σ H Q q)
theorem jb (i:Nat) {x:Str}{pos:Pos} (hN:X.N[i]?=some x:=by rfl) (hv:Vis X.env.scope x:=by first | exact Or.inl rfl | exact Or.inr (Or.inl rfl) | exact Or.inr (Or.inr rfl)) (hd:(x == ("__debug__":Str))=false:=by decide)
  (hcd:(x == ("__classdict__":Str))=false:=by decide):PD X (.Name x pos) (lkp i):=by
 with_unfolding_all exact (PE.imp (Zm hN hv hd hcd) fun σ H Q ⟨ρ,d,e,h,k⟩=>let ⟨v,e1,e2⟩:=e.at' i d (qB h); ⟨v,e1,k v H (jq.refl H) e2⟩)
noncomputable def cst (d:PyData) (_:Rho):OP:=some d
theorem jg {i j pos}:PD X (.Constant (.int i) j pos) (cst (.int i)):=by
 with_unfolding_all exact (PE.imp akO fun σ H Q ⟨ρ,d,e,h,k⟩=>by cases h; exact k _ H (jq.refl H) rfl)
theorem J9 {i j pos}:PD X (.Constant (.bool i) j pos) (cst (.bool i)):=by
 with_unfolding_all exact (PE.imp aqP fun σ H Q ⟨ρ,d,e,h,k⟩=>by cases h; exact k _ H (jq.refl H) rfl)
theorem ac4 {j pos}:PD X (.Constant .none j pos) (cst .none):=by
 with_unfolding_all exact (PE.imp akP fun σ H Q ⟨ρ,d,e,h,k⟩=>by cases h; exact k _ H (jq.refl H) rfl)
theorem afj {i j pos}:PD X (.Constant (.str i) j pos) (cst (.str i)):=by
 with_unfolding_all exact (PE.imp akQ fun σ H Q ⟨ρ,d,e,h,k⟩=>by cases h; exact k _ H (jq.refl H) rfl)
theorem ano {x:Str}{v:V}{u:Value}{d:PyData} (hg:Gl X x) (hm:X.mg x=some u) (r:qe v u) (hr:∀ H,Rep X.K H d v) (hd:(x == ("__debug__":Str))=false:=by decide):PD X (.Name x pos) (cst d):=by
 with_unfolding_all exact (PE.imp (acw hg hm r hd) fun σ H Q ⟨ρ,d',e,h,k⟩=>by cases h; exact k _ H (jq.refl H) (hr H))
noncomputable def op2 (g:PyData->PyData->OP) (fa fb:RP):RP:=fun ρ=>(fa ρ).bind fun x=>(fb ρ).bind fun y=>g x y
noncomputable def OpD (X:Cx) (f:Value->Value->Sem Value) (g:PyData->PyData->OP):Prop:=
 ∃ r,OpR X f r/\∀ p q d x y H Q,g p q=some d->Rep X.K H p x->Rep X.K H q y->(∀ v H',jq H H'->Rep X.K H' d v->Q v H')->r x y H Q
theorem anp {g:PyData->PyData->OP}{K:Fg}{r:R2} (hr:∀ p q d x y H Q,g p q=some d->Rep K H p x->Rep K H q y->(∀ v H',jq H H'->Rep K H' d v->Q v H')->r x y H Q)
  {σ:St} {H:Hp} {Q:VK} (h:tD K (op2 g fa fb) σ H Q):tOp r (tD K fa) (tD K fb) σ H Q:=by
 obtain ⟨ρ,d,e,h,k⟩:=h
 unfold op2 at h
 cases ha:fa ρ with
 | none=>rw [ha] at h; cases h
 | some p=>
  rw [ha] at h
  cases hb:fb ρ with
  | none=>rw [hb] at h; cases h
  | some q=>
   rw [hb] at h
   refine ⟨ρ,p,e,ha,fun x H1 s1 r1=>⟨ρ,q,e.mono s1,hb,fun y H2 s2 r2=>?_⟩⟩
   exact hr p q d x y H2 Q h (Rep.mono s2 p x r1) r2 fun v H' s3 r3=>k v H' (s1.trans (s2.trans s3)) r3
theorem jo {op:Operator}{g:PyData->PyData->OP} (ho:OpD X (binaryOp op) g) (ha:PD X a fa) (hb:PD X b fb):PD X (.BinOp a op b pos) (op2 g fa fb):=by
 with_unfolding_all
  obtain ⟨r,h1,h2⟩:=ho
  exact PE.imp (aoR h1 ha hb) fun σ H Q h=>anp h2 h
theorem ac5 {op:CmpOp}{g:PyData->PyData->OP} (ho:OpD X (compareOp op) g) (ha:PD X a fa) (hb:PD X b fb) (hm:behindInMarks op b=false:=by first | exact ak1 _ | with_unfolding_all rfl):PD X (.Compare a [op] [b] pos) (op2 g fa fb):=by
 with_unfolding_all
  obtain ⟨r,h1,h2⟩:=ho
  exact PE.imp (am9 h1 ha hb hm) fun σ H Q h=>anp h2 h
noncomputable def asB:PyData->Option Bool
 | .bool b=>some b
 | _=>none
noncomputable def tst (f:RP):Rho->Option Bool:=fun ρ=>(f ρ).bind asB
theorem Qr {d:PyData}{b:Bool} (h:asB d=some b):d= .bool b:=by
 cases d <;> simp [asB] at h
 rw [h]
theorem jV {op:CmpOp}{g:PyData->PyData->OP} (ho:OpD X (compareOp op) g) (ha:PD X a fa) (hb:PD X b fb) (hm:behindInMarks op b=false:=by first | exact ak1 _ | with_unfolding_all rfl):PTD X (.Compare a [op] [b] pos) (tst (op2 g fa fb)):=by
 with_unfolding_all
  obtain ⟨r,h1,h2⟩:=ho
  refine PT.imp (ana h1 ha hb hm) fun σ H Q ⟨ρ,t,e,h,k⟩=>?_
  cases hd:op2 g fa fb ρ with
  | none=>simp [tst,hd] at h
  | some d=>
   have ht:d= .bool t:=Qr (by simpa [tst,hd] using h)
   subst ht
   exact anp h2 ⟨ρ,_,e,hd,fun v H' s r=>⟨t,r,k H' s⟩⟩
theorem qh (h:PD X e fa) (he:∀ whole,isTrue e X.env whole=(do let v ←whole; standAt e.pos; holding [v] (truthy v)):=by intro _; rfl):PTD X e (tst fa):=by
 with_unfolding_all
  refine PT.imp (apc h he) fun σ H Q ⟨ρ,t,e,h,k⟩=>?_
  cases hd:fa ρ with
  | none=>simp [tst,hd] at h
  | some d=>
   have ht:d= .bool t:=Qr (by simpa [tst,hd] using h)
   subst ht
   exact ⟨ρ,_,e,hd,fun v H' s r=>⟨t,r,k H' s⟩⟩
variable {ta tb:Rho->Option Bool}{j9:List Expr}
@[irreducible] noncomputable def PWD (X:Cx) (e:Expr) (f:Rho->Option Bool):Prop:=PW X e (tDT X.K f)
theorem PW.imp {t t':TT} (h:PW X e t) (hi:∀ σ H Q,t' σ H Q->t σ H Q):PW X e t':=fun wh Kp s σ H Q I q=>h wh Kp s σ H Q I (hi σ H Q q)
noncomputable def asn (ta tb:Rho->Option Bool):Rho->Option Bool:=fun ρ=>(ta ρ).bind fun x=>if x=true then tb ρ else some false
noncomputable def orB (ta tb:Rho->Option Bool):Rho->Option Bool:=fun ρ=>(ta ρ).bind fun x=>if x=true then some true else tb ρ
noncomputable def zo (ta:Rho->Option Bool):Rho->Option Bool:=fun ρ=>(ta ρ).map (!·)
theorem ZS (ha:PTD X a ta):PWD X (.BoolOp .Or [a] pos) ta:=by
 with_unfolding_all exact (apd ha)
theorem abI (ha:PTD X a ta) (hb:PWD X (.BoolOp .Or (b::j9) pos) tb):PWD X (.BoolOp .Or (a::b::j9) pos) (orB ta tb):=by
 with_unfolding_all
  refine PW.imp (aqQ ha hb) fun σ H Q ⟨ρ,t,e,h,k⟩=>?_
  cases h1:ta ρ with
  | none=>simp [orB,h1] at h
  | some x=>
   refine ⟨ρ,x,e,h1,fun H' s=>?_⟩
   cases x with
   | false=>rw [if_neg Bool.false_ne_true]; exact ⟨ρ,t,e.mono s,by simpa [orB,h1] using h,fun H2 s2=>k H2 (s.trans s2)⟩
   | true=>
    rw [if_pos rfl]
    have:t=true:=by simpa [orB,h1] using h.symm
    subst this
    exact k H' s
theorem Qs {op:BoolOp}{l:List Expr} (h:PWD X (.BoolOp op l pos) ta):PTD X (.BoolOp op l pos) ta:=by
 with_unfolding_all exact (h.pt)
theorem qm (ha:PTD X a ta):PTD X (.UnaryOp .Not a pos) (zo ta):=by
 with_unfolding_all
  refine PT.imp (ape ha) fun σ H Q ⟨ρ,t,e,h,k⟩=>?_
  cases h1:ta ρ with
  | none=>simp [zo,h1] at h
  | some x=>
   have:(!x)=t:=by simpa [zo,h1] using h
   subst this
   exact ⟨ρ,x,e,h1,fun H' s=>k H' s⟩
noncomputable def ifD (tc:Rho->Option Bool) (fa fb:RP):RP:=fun ρ=>(tc ρ).bind fun x=>if x=true then fa ρ else fb ρ
theorem ard {tc:Rho->Option Bool} (hc:PTD X c tc) (ha:PD X a fa) (hb:PD X b fb):PD X (.IfExp c a b pos) (ifD tc fa fb):=by
 with_unfolding_all
  refine PE.imp (aga hc ha hb) fun σ H Q ⟨ρ,d,e,h,k⟩=>?_
  cases h1:tc ρ with
  | none=>simp [ifD,h1] at h
  | some x=>
   refine ⟨ρ,x,e,h1,fun H' s=>?_⟩
   cases x with
   | true=>rw [if_pos rfl]; exact ⟨ρ,d,e.mono s,by simpa [ifD,h1] using h,fun v H2 s2=>k v H2 (s.trans s2)⟩
   | false=>rw [if_neg Bool.false_ne_true]; exact ⟨ρ,d,e.mono s,by simpa [ifD,h1] using h,fun v H2 s2=>k v H2 (s.trans s2)⟩
noncomputable def jr (_:Rho):Option (LP):=some []
noncomputable def jk (fa:RP) (fr:Rho->Option (LP)):Rho->Option (LP):=fun ρ=>(fa ρ).bind fun x=>(fr ρ).map fun r=>x::r
theorem jd:PAD X [] jr:=by
 with_unfolding_all exact (PA.imp zn fun σ H Q ⟨ρ,d,e,h,k⟩=>by cases h; exact k [] H (jq.refl H) rfl)
theorem ja {fr:Rho->Option (LP)} (ha:PD X e fa) (hr:PAD X es fr) (hs:starEach (e::es) X.env=(false,eval e X.env)::starEach es X.env:=by rfl):PAD X (e::es) (jk fa fr):=by
 with_unfolding_all
  refine PA.imp (qt ha hr hs) fun σ H Q ⟨ρ,ds,en,h,k⟩=>?_
  cases h1:fa ρ with
  | none=>simp [jk,h1] at h
  | some x=>
   cases h2:fr ρ with
   | none=>simp [jk,h1,h2] at h
   | some r=>
    have:x::r=ds:=by simpa [jk,h1,h2] using h
    subst this
    exact ⟨ρ,x,en,h1,fun v H1 s1 r1=>⟨ρ,r,en.mono s1,h2,fun vs H2 s2 r2=>k _ H2 (s1.trans s2) ⟨v,vs,rfl,Rep.mono s2 x v r1,r2⟩⟩⟩
noncomputable def few (ds:LP):Bool:=decide (ds.length<1000000)
theorem aau {n:Nat} (h:n<1000000):n<=sizeLine:=Nat.le_of_lt (Nat.lt_of_lt_of_le h (by rw [sizeLine_eq]; decide))
theorem jw {H:Hp}{p:Addr}{o:HO} (hp:H p=none):jq H (upd H p o):=fun b u h=>by rw [jp (qS h hp)]; exact h
noncomputable def Qh (fr:Rho->Option (LP)):RP:=fun ρ=>(fr ρ).bind fun ds=>if few ds=true then some (.tuple ds) else none
noncomputable def zA (fr:Rho->Option (LP)):RP:=fun ρ=>(fr ρ).bind fun ds=>if few ds=true then some (.list ds) else none
theorem ze {x1}{fr:Rho->Option (LP)} (h:PAD X es fr):PD X (.Tuple es x1 pos) (Qh fr):=by
 with_unfolding_all
  refine PE.imp (ahB h) fun σ H Q ⟨ρ,d,e,h,k⟩=>?_
  cases h1:fr ρ with
  | none=>simp [Qh,h1] at h
  | some ds=>
   by_cases hf:few ds=true
   ·have:PyData.tuple ds=d:=by simpa [Qh,h1,hf] using h
    subst this
    refine ⟨ρ,ds,e,h1,fun vs H1 s1 r1=>⟨aau (by rw [r1.length]; simpa [few] using hf),fun p hp=>k _ _ (s1.trans (jw hp)) ⟨p,vs,rfl,SqT.of jn,Reps.mono (jw hp) _ _ r1⟩⟩⟩
   ·simp [Qh,h1,hf] at h
theorem qC {fr:Rho->Option (LP)} (h:PAD X es fr):PD X (.List es pos) (zA fr):=by
 with_unfolding_all
  refine PE.imp (afe h) fun σ H Q ⟨ρ,d,e,h,k⟩=>?_
  cases h1:fr ρ with
  | none=>simp [zA,h1] at h
  | some ds=>
   by_cases hf:few ds=true
   ·have:PyData.list ds=d:=by simpa [zA,h1,hf] using h
    subst this
    refine ⟨ρ,ds,e,h1,fun vs H1 s1 r1=>⟨aau (by rw [r1.length]; simpa [few] using hf),fun p hp=>k _ _ (s1.trans (jw hp)) ⟨p,vs,rfl,jn,Reps.mono (jw hp) _ _ r1⟩⟩⟩
   ·simp [zA,h1,hf] at h
end
end BX
end
section
namespace BX
open PySem PySem.Spec L2
open PyProof.Rows hiding St
section
variable {X:Cx}{e a b c tg src:Expr}{es:List Expr}{st:Stmt}{sts j9:List Stmt}{fa fb fc:RP}{F G:RO}{pos:Pos}
noncomputable def qq (fa:RP):RO:=fun ρ=>(fa ρ).map Out.rt
theorem jA (h:PD X e fa):PSD X (.Return (some e) pos) (qq fa):=by
 with_unfolding_all
  refine PS.imp (afc h) fun D σ H ⟨ρ,o,en,q,k⟩=>?_
  cases h1:fa ρ with
  | none=>simp [qq,h1] at q
  | some d=>
   have:Out.rt d=o:=by simpa [qq,h1] using q
   subst this
   exact ⟨ρ,d,en,h1,k⟩
noncomputable def ifS (tc:Rho->Option Bool) (F G:RO):RO:=fun ρ=>(tc ρ).bind fun x=>if x=true then F ρ else G ρ
theorem qg {l r:List Stmt}{tc:Rho->Option Bool} (hc:PTD X c tc) (hl:aao X l F) (hr:aao X r G):PSD X (.If c l r pos) (ifS tc F G):=by
 with_unfolding_all
  refine PS.imp (akR hc hl hr) fun D σ H ⟨ρ,o,en,q,k⟩=>?_
  cases h1:tc ρ with
  | none=>simp [ifS,h1] at q
  | some x=>
   refine ⟨ρ,x,en,h1,fun H1 s1=>?_⟩
   cases x with
   | true=>rw [if_pos rfl]; exact ⟨ρ,o,en.mono s1,by simpa [ifS,h1] using q,k.mono s1⟩
   | false=>rw [if_neg Bool.false_ne_true]; exact ⟨ρ,o,en.mono s1,by simpa [ifS,h1] using q,k.mono s1⟩
noncomputable def qy:RO:=fun ρ=>some (.nx ρ)
noncomputable def jM (F G:RO):RO:=fun ρ=>(F ρ).bind fun o=>match o with
 | .nx ρ'=>G ρ'
 | o=>some o
theorem jl:aao X [] qy:=by
 with_unfolding_all
  refine PSs.imp ae9 fun D σ H ⟨ρ,o,en,q,k⟩=>?_
  cases q
  exact k σ H (jq.refl H) en
theorem je (h1 : PSD X st F) (h2 : aao X j9 G) : aao X (st :: j9) (jM F G) := by
  with_unfolding_all
   refine PSs.imp (Qp h1 h2) fun D σ H ⟨ρ, o, en, q, k⟩ => ?_
   cases hf : F ρ with
   | none => simp [jM, hf] at q
   | some p =>
     refine ⟨ρ, p, en, hf, ?_⟩
     cases p with
     | nx ρ' => exact fun σ' H' s' r' => ⟨ρ', o, r', by simpa [jM, hf] using q, k.mono s'⟩
     | rt d => have : Out.rt d = o := by simpa [jM, hf] using q
               subst this; exact k
     | bk d => have : Out.bk d = o := by simpa [jM, hf] using q
               subst this; exact k
     | ct d => have : Out.ct d = o := by simpa [jM, hf] using q
               subst this; exact k
noncomputable def ajI:RO:=fun _=>none
theorem aeo:PSD X st ajI:=by
 with_unfolding_all exact (PS.imp akT fun D σ H ⟨ρ,o,en,q,k⟩=>by cases q)
theorem zf:aao X sts ajI:=by
 with_unfolding_all exact (PSs.imp ajz fun D σ H ⟨ρ,o,en,q,k⟩=>by cases q)
noncomputable def aaQ (fa:RP):RO:=fun ρ=>(fa ρ).map fun _=> .nx ρ
theorem qW (h:PD X e fa) (hs:swapsWith e none pos.line X.env=pure false:=by rfl):PSD X (.Expr e pos) (aaQ fa):=by
 with_unfolding_all
  refine PS.imp (afb h hs) fun D σ H ⟨ρ,o,en,q,k⟩=>?_
  cases h1:fa ρ with
  | none=>simp [aaQ,h1] at q
  | some d=>
   have:Out.nx ρ=o:=by simpa [aaQ,h1] using q
   subst this
   exact ⟨ρ,d,en,h1,fun v H' s r=>k σ H' s (en.mono s)⟩
noncomputable def jH (i:Nat) (d:PyData) (ρ:Rho):Option Rho:=some (ρ.set i (some d))
theorem jS (i:Nat) {x:Str} (hN:X.N.Nodup) (hi:X.N[i]?=some x:=by rfl) (hx:Loc X.env.scope x:=by first | exact Or.inl rfl | exact Or.inr rfl)
  (hf:X.fn x=true ∨ X.env.scope.names.lookup x=some .local:=by first | exact .inl rfl | exact .inr rfl | assumption):PGD X (.Name x pos) (jH i):=by
 with_unfolding_all
  refine PG.imp (aaN hN hi hx hf) fun v σ H Q ⟨ρ,d,ρ',en,r,q,k⟩=>?_
  cases q
  exact k _ H (jq.refl H) (en.set r)
@[irreducible] noncomputable def anq (X:Cx) (ts:List Expr) (ga:LP->Rho->Option Rho):Prop:=PGs X ts fun vs σ H Q=>∃ ρ ds ρ',EnvR X.K H ρ σ/\Reps X.K H ds vs/\ga ds ρ=some ρ'/\∀ σ' H',jq H H'->EnvR X.K H' ρ' σ'->Q σ' H'
noncomputable def zY (ds:LP) (ρ:Rho):Option Rho:=match ds with
 | []=>some ρ
 | _=>none
noncomputable def j8 (ga:PyData->Rho->Option Rho) (gr:LP->Rho->Option Rho) (ds:LP) (ρ:Rho):Option Rho:=match ds with
 | d::r=>(ga d ρ).bind fun ρ1=>gr r ρ1
 | []=>none
theorem PGs.imp {ts:List Expr}{t t':TGs} (h:PGs X ts t) (hi:∀ v σ H Q,t' v σ H Q->t v σ H Q):PGs X ts t':=fun Kp s σ H v u Q I r q=>h Kp s σ H v u Q I r (hi v σ H Q q)
theorem agj:anq X [] zY:=by
 with_unfolding_all
  refine PGs.imp aiC fun vs σ H Q ⟨ρ,ds,ρ',en,r,q,k⟩=>?_
  cases ds with
  | nil=>cases r; cases q; exact ⟨rfl,k σ H (jq.refl H) en⟩
  | cons d ds=>cases q
theorem Qt {ga:PyData->Rho->Option Rho}{gr:LP->Rho->Option Rho} (h1:PGD X e ga) (h2:anq X es gr)
  (hs:(assignEach (e::es) X.env).map (·.2)=assign e X.env::(assignEach es X.env).map (·.2):=by rfl):anq X (e::es) (j8 ga gr):=by
 with_unfolding_all
  refine PGs.imp (agb h1 h2 hs) fun vs σ H Q ⟨ρ,ds,ρ',en,r,q,k⟩=>?_
  cases ds with
  | nil=>cases q
  | cons d ds=>
   obtain ⟨x,rr,e1,r1,r2⟩:=r
   subst e1
   cases h3:ga d ρ with
   | none=>simp [j8,h3] at q
   | some ρ1=>
    refine ⟨x,rr,rfl,ρ,d,ρ1,en,r1,h3,fun σ1 H1 s1 e1=>⟨ρ1,ds,ρ',e1,Reps.mono s1 ds rr r2,by simpa [j8,h3] using q,fun σ2 H2 s2 e2=>k σ2 H2 (s1.trans s2) e2⟩⟩
noncomputable def QQ (n:Nat) (gr:LP->Rho->Option Rho) (d:PyData) (ρ:Rho):Option Rho:=match d with
 | .tuple ds=>if ds.length=n then gr ds ρ else none
 | _=>none
theorem aiN {k n:Nat}{gr:LP->Rho->Option Rho} (hc:X.calm=true) (h:anq X es gr) (hn:(assignEach es X.env).length=n:=by rfl) (hst:(assignEach es X.env).findIdx? (·.1)=none:=by rfl):
  PGD X (.Tuple es k pos) (QQ n gr):=by
 with_unfolding_all
  refine PG.imp (akV hc h hn hst) fun v σ H Q ⟨ρ,d,ρ',en,r,q,k⟩=>?_
  cases d with
  | tuple ds=>
   obtain ⟨a,xs,e1,e2,e3⟩:=r
   by_cases hl:ds.length=n
   ·exact ⟨a,xs,e1,e2,by rw [e3.length]; exact hl,ρ,ds,ρ',en,e3,by simpa [QQ,hl] using q,k⟩
   ·simp [QQ,hl] at q
  | _=>simp [QQ] at q
noncomputable def qO (fa:RP) (ga:PyData->Rho->Option Rho):RO:=fun ρ=>(fa ρ).bind fun d=>(ga d ρ).map Out.nx
theorem jx (i:Nat) {x:Str}{pos':Pos} (hN:X.N.Nodup) (he:PD X e fa) (hi:X.N[i]?=some x:=by rfl) (hx:Loc X.env.scope x:=by first | exact Or.inl rfl | exact Or.inr rfl) (hs:swapsWith e (some (.Name x pos')) pos.line X.env=pure false:=by rfl)
  (hf:X.fn x=true ∨ X.env.scope.names.lookup x=some .local:=by first | exact .inl rfl | exact .inr rfl | assumption):PSD X (.Assign [.Name x pos'] e pos) (qO fa (jH i)):=by
 with_unfolding_all
  refine PS.imp (acY hN hi hx he hs hf) fun D σ H ⟨ρ,o,en,q,k⟩=>?_
  cases h1:fa ρ with
  | none=>simp [qO,h1] at q
  | some d=>
   have:Out.nx (ρ.set i (some d))=o:=by simpa [qO,h1,jH] using q
   subst this
   exact ⟨ρ,d,en,h1,fun v H1 s1 r1=>k _ H1 s1 ((en.mono s1).set r1)⟩
noncomputable def ahF (K:Fg) (J:It) (ds:LP) (H0:Hp):Prop:=∀ i H,jG H0 H->(i<ds.length->J.go i H)/\(ds.length<=i->J.stop i H)/\∀ x H',J.yld i H x H'->jq H H'/\∀ d,ds[i]?=some d->Rep K H' d x
noncomputable def tDI (K:Fg) (fi:Rho->Option (LP)):TI:=fun σ H R=>∃ ρ ds,EnvR K H ρ σ/\fi ρ=some ds/\∀ J H',jq H H'->ahF K J ds H'->R J H'
@[irreducible] noncomputable def PID (X:Cx) (tg src:Expr) (fi:Rho->Option (LP)):Prop:=PI X tg src (tDI X.K fi)
theorem PI.imp {t t':TI} (h:PI X tg src t) (hi:∀ σ H R,t' σ H R->t σ H R):PI X tg src t':=fun Kp s σ H R I q=>h Kp s σ H R I (hi σ H R q)
noncomputable def QS:PyData->Option (LP)
 | .list ds=>some ds
 | _=>none
noncomputable def aav:PyData->Option (LP)
 | .tuple ds=>some ds
 | _=>none
noncomputable def itL (fa:RP):Rho->Option (LP):=fun ρ=>(fa ρ).bind QS
noncomputable def itT (fa:RP):Rho->Option (LP):=fun ρ=>(fa ρ).bind aav
theorem Qu (h:PD X e fa):PID X tg e (itL fa):=by
 with_unfolding_all
  refine PI.imp (am6 h) fun σ H R ⟨ρ,ds,en,q,k⟩=>?_
  cases h1:fa ρ with
  | none=>simp [itL,h1] at q
  | some d=>
   cases d with
   | list es=>
    have:es=ds:=by simpa [itL,h1,QS] using q
    subst this
    refine ⟨ρ,_,en,h1,fun v H1 s1 r1=>?_⟩
    obtain ⟨a,xs,e1,e2,e3⟩:=r1
    refine ⟨a,e1,⟨xs,SqL.of e2⟩,k _ H1 s1 fun i H2 s2=>⟨fun hi=>?_,fun hi=>?_,fun x H' y=>?_⟩⟩
    ·exact ⟨xs,xs[i]'(by rw [e3.length]; exact hi),SqL.of (s2 _ _ e2 rfl),by simp [e3.length,hi]⟩
    ·exact ⟨xs,SqL.of (s2 _ _ e2 rfl),by rw [e3.length]; exact hi⟩
    ·obtain ⟨z1,z2⟩:=y
     subst z1
     refine ⟨jq.refl _,fun d hd=>?_⟩
     obtain ⟨y,e4,e5⟩:=(Reps.monoA s2 _ _ e3).get hd
     have:=z2 xs (SqL.of (s2 _ _ e2 rfl))
     rw [e4] at this; cases this
     exact e5
   | _=>simp [itL,h1,QS] at q
theorem acx (h:PD X e fa):PID X tg e (itT fa):=by
 with_unfolding_all
  refine PI.imp (apl h) fun σ H R ⟨ρ,ds,en,q,k⟩=>?_
  cases h1:fa ρ with
  | none=>simp [itT,h1] at q
  | some d=>
   cases d with
   | tuple es=>
    have:es=ds:=by simpa [itT,h1,aav] using q
    subst this
    refine ⟨ρ,_,en,h1,fun v H1 s1 r1=>?_⟩
    obtain ⟨a,xs,e1,e2,e3⟩:=r1
    refine ⟨a,e1,⟨xs,e2⟩,k _ H1 s1 fun i H2 s2=>⟨fun hi=>?_,fun hi=>?_,fun x H' y=>?_⟩⟩
    ·exact ⟨xs,xs[i]'(by rw [e3.length]; exact hi),jG.tup s2 e2,by simp [e3.length,hi]⟩
    ·exact ⟨xs,jG.tup s2 e2,by rw [e3.length]; exact hi⟩
    ·obtain ⟨z1,z2⟩:=y
     subst z1
     refine ⟨jq.refl _,fun d hd=>?_⟩
     obtain ⟨y,e4,e5⟩:=(Reps.monoA s2 _ _ e3).get hd
     have:=z2 xs (jG.tup s2 e2)
     rw [e4] at this; cases this
     exact e5
   | _=>simp [itT,h1,aav] at q
noncomputable def qP (lo:Int) (n:Nat):LP:=(List.range n).map fun (k:Nat)=>PyData.int (lo+(k:Int))
noncomputable def Jp (ds:LP):Option (LP):=match ds with
 | [.int j]=>if -(2 ^ 62)<=j/\j<2 ^ 62 then some (qP 0 j.toNat) else none
 | _=>none
theorem aaR {K:Fg}{H:Hp} (lo:Int) (n:Nat):ahF K (Itr lo n) (qP lo n) H:=fun i H2 s2=>by
 have hl:(qP lo n).length=n:=by simp [qP]
 refine ⟨fun hi=>by rw [hl] at hi; exact hi,fun hi=>by rw [hl] at hi; exact hi,fun x H' y=>?_⟩
 obtain ⟨z1,z2⟩:=y
 subst z1
 refine ⟨jq.refl _,fun d hd=>?_⟩
 have hi:i<n:=by
  have:=(List.getElem?_eq_some_iff.mp hd).1
  rw [hl] at this; exact this
 have:d= .int (lo+i):=by
  simp [qP,hi] at hd
  exact hd.symm
 subst this
 exact z2
theorem qD {p pos:Pos}{fr:Rho->Option (LP)} (hg:Gl X "range") (hm:X.mg "range"=none) (ha:PAD X [a] fr) (hs:starEach [a] X.env=[(false,eval a X.env)]:=by rfl):PID X tg (.Call (.Name "range" p) [a] [] pos) (fun ρ=>(fr ρ).bind Jp):=by
 with_unfolding_all
  refine PI.imp (ZP hg hm ha hs) fun σ H R ⟨ρ,ds,en,q,k⟩=>?_
  cases h1:fr ρ with
  | none=>simp [h1] at q
  | some as=>
   have q':Jp as=some ds:=by simpa [h1] using q
   refine ⟨ρ,as,en,h1,fun vs H1 s1 r1=>?_⟩
   unfold Jp at q'
   split at q'
   ·rename_i j
    split at q'
    ·rename_i hj
     cases q'
     obtain ⟨x,r,e1,e2,e3⟩:=r1
     cases (show x=V.int j from e2)
     cases (show r=[] from e3)
     exact ⟨j,e1,hj.1,hj.2,k _ H1 s1 (aaR 0 j.toNat)⟩
    ·cases q'
   ·cases q'
noncomputable def j0 (ga:PyData->Rho->Option Rho) (F:RO):LP->RO
 | [],ρ=>some (.nx ρ)
 | d::r,ρ=>(ga d ρ).bind fun ρ1=>(F ρ1).bind fun o=>match o with
  | .nx ρ2=>j0 ga F r ρ2
  | .ct ρ2=>j0 ga F r ρ2
  | .bk ρ2=>some (.nx ρ2)
  | .rt d=>some (.rt d)
noncomputable def Zk (fi:Rho->Option (LP)) (ga:PyData->Rho->Option Rho) (F:RO):RO:=fun ρ=>(fi ρ).bind fun ds=>j0 ga F ds ρ
theorem QT {body:List Stmt}{fi:Rho->Option (LP)}{ga:PyData->Rho->Option Rho} (hp:PassesOwn (model X.prog X.w) X.A X.env X.xe) (hc:X.calm=true) (hi:PID X tg src fi) (hg:PGD X tg ga) (hb:aao X body F)
  (hs:∀ x,foldedSetIterable src X.env x=pure x:=by intro _; rfl):PSD X (.For tg src body [] pos) (Zk fi ga F):=by
 with_unfolding_all
  refine PS.imp (acZ hp hc hi hg hb hs) fun D σ H ⟨ρ,o,en,q,k⟩=>?_
  cases h1:fi ρ with
  | none=>simp [Zk,h1] at q
  | some ds=>
   have q':j0 ga F ds ρ=some o:=by simpa [Zk,h1] using q
   refine ⟨ρ,ds,en,h1,fun J H1 s1 Y=>?_⟩
   refine ⟨fun i m σ H2=>m=ds.length - i/\i<=ds.length/\jq H1 H2/\∃ ρ2,EnvR X.K H2 ρ2 σ/\j0 ga F (ds.drop i) ρ2=some o,⟨ds.length,by simp,Nat.zero_le _,jq.refl _,ρ,en.mono s1,by simpa using q'⟩,?_⟩
   rintro i m σ2 H2 ⟨rfl,hi,s2,ρ2,en2,q2⟩
   obtain ⟨g1,g2,g3⟩:=Y i H2 (jq.a s2)
   by_cases hlt:i<ds.length
   ·right
    have hd:ds.drop i=ds[i]::ds.drop (i+1):=List.drop_eq_getElem_cons hlt
    rw [hd] at q2
    refine ⟨g1 hlt,fun σ3 H3=>jq H1 H3/\∃ ρ3,EnvR X.K H3 ρ3 σ3/\j0 ga F (ds.drop (i+1)) ρ3=some o,fun σ3 H3 ⟨a1,ρ3,a2,a3⟩=>⟨ds.length - (i+1),by omega,rfl,hlt,a1,ρ3,a2,a3⟩,fun x H3 y=>?_⟩
    obtain ⟨s3,r3⟩:=g3 x H3 y
    have r3':=r3 ds[i] (by simp [hlt])
    cases h4:ga ds[i] ρ2 with
    | none=>simp [j0,h4] at q2
    | some ρ4=>
     refine ⟨ρ2,ds[i],ρ4,en2.mono s3,r3',h4,fun σ5 H5 s5 en5=>?_⟩
     cases h5:F ρ4 with
     | none=>simp [j0,h4,h5] at q2
     | some p=>
      refine ⟨ρ4,p,en5,h5,?_⟩
      have s15:=s2.trans (s3.trans s5)
      cases p with
      | nx ρ6=>exact fun σ6 H6 s6 en6=>⟨s15.trans s6,ρ6,en6,by simpa [j0,h4,h5] using q2⟩
      | ct ρ6=>exact fun σ6 H6 s6 en6=>⟨s15.trans s6,ρ6,en6,by simpa [j0,h4,h5] using q2⟩
      | bk ρ6=>
       have:Out.nx ρ6=o:=by simpa [j0,h4,h5] using q2
       subst this
       exact fun σ6 H6 s6 en6=>k σ6 H6 (s1.trans (s15.trans s6)) en6
      | rt d=>
       have:Out.rt d=o:=by simpa [j0,h4,h5] using q2
       subst this
       exact fun v H6 s6 r6=>k v H6 (s1.trans (s15.trans s6)) r6
   ·left
    have he:i=ds.length:=by omega
    have hn:ds.drop i=[]:=by rw [he]; simp
    rw [hn] at q2
    have:Out.nx ρ2=o:=by simpa [j0] using q2
    subst this
    exact ⟨g2 (by omega),k σ2 H2 (s1.trans s2) en2⟩
noncomputable def Qi (cap:List (Option Nat)) (ρ:Rho):Rho:=cap.map fun o=>o.bind fun i=>(ρ[i]?).join
theorem EnvR.cap {K:Fg}{H:Hp}{ρ:Rho}{σ:St} (e:EnvR K H ρ σ) (cap:List (Option Nat)):EnvR K H (Qi cap ρ) (acq cap σ):=by
 refine ⟨by simp [Qi,acq],fun j d q=>?_⟩
 unfold Qi at q
 unfold acq
 rw [List.getElem?_map] at q ⊢
 cases h1:cap[j]? with
 | none=>rw [h1] at q; cases q
 | some o=>
  rw [h1] at q
  cases o with
  | none=>cases q
  | some i=>
   have q':lkp i ρ=some d:=by simpa [lkp] using q
   obtain ⟨v,e1,e2⟩:=e.at' i d (qB q')
   exact ⟨v,by simp [e1],e2⟩
noncomputable def jX (ga:PyData->Rho->Option Rho) (ft:Rho->Option Bool) (fe:RP):LP->Rho->Option (LP)
 | [],_=>some []
 | d::r,τ=>(ga d τ).bind fun τ2=>(ft τ2).bind fun b=>if b=true then (fe τ2).bind fun y=>(jX ga ft fe r τ2).map fun ys=>y::ys else jX ga ft fe r τ2
noncomputable def ql (fi:Rho->Option (LP)) (cap:List (Option Nat)) (ga:PyData->Rho->Option Rho) (ft:Rho->Option Bool) (fe:RP):RP:=fun ρ=>(fi ρ).bind fun ds=>
 if few ds=true then (jX ga ft fe ds (Qi cap ρ)).map PyData.list else none
@[irreducible] noncomputable def ald (X:Cx) (ts:List Expr) (f:Rho->Option Bool):Prop:=PTs X ts (tDT X.K f)
noncomputable def aaS (_:Rho):Option Bool:=some true
theorem zg:ald X [] aaS:=by
 with_unfolding_all exact (fun Kp s σ H Q I ⟨ρ,b,en,q,k⟩=>by cases q; exact anl Kp s σ H Q I (k H (jq.refl H)))
theorem ac6 {ft:Rho->Option Bool} (h:PTD X c ft):ald X [c] ft:=by
 with_unfolding_all exact (anm h)
theorem zv {el:Expr}{ts:List Expr}{sc:Scope}{ps:Pos}{fi:Rho->Option (LP)}{ga:PyData->Rho->Option Rho}{ft:Rho->Option Bool}{fe:RP} (N':List Str) (cap:List (Option Nat)) (hc:X.calm=true) (hi:PID X tg src fi) (ok:CompOk X sc N' cap)
  (body:∀ cl C s0 H0 fp pn,PGD (blk X N' sc cl C s0 H0 fp pn) tg ga/\ald (blk X N' sc cl C s0 H0 fp pn) ts ft/\PD (blk X N' sc cl C s0 H0 fp pn) el fe)
  (hs:∀ x,foldedSetIterable src X.env x=pure x:=by intro _; rfl):PD X (.ListComp el [⟨tg,src,ts,0⟩] sc ps) (ql fi cap ga ft fe):=by
 with_unfolding_all
  refine PE.imp (ann (g:=tDG X.K ga) (tt:=tDT X.K ft) (te:=tD X.K fe) hc hi ok (fun cl C s0 H0 fp pn=>body cl C s0 H0 fp pn) hs) fun σ H Q ⟨ρ,d,en,q,k⟩=>?_
  cases h1:fi ρ with
  | none=>simp [ql,h1] at q
  | some ds=>
   by_cases hf:few ds=true
   ·cases h2:jX ga ft fe ds (Qi cap ρ) with
    | none=>simp [ql,h1,hf,h2] at q
    | some ys=>
     have:PyData.list ys=d:=by simpa [ql,h1,hf,h2] using q
     subst this
     refine ⟨ρ,ds,en,h1,fun J H1 s1 Y=>?_⟩
     refine ⟨fun i m τ us H2=>m=ds.length - i/\i<=ds.length/\jq H1 H2/\us.length<=i/\∃ ρ2 zs ws,EnvR X.K H2 ρ2 τ/\Reps X.K H2 zs us/\jX ga ft fe (ds.drop i) ρ2=some ws/\ys=zs++ws,
      ⟨ds.length,by simp,Nat.zero_le _,jq.refl _,Nat.le_refl _,Qi cap ρ,[],ys,(en.mono s1).cap cap,rfl,by simpa using h2,rfl⟩,?_⟩
     rintro i m τ us H2 ⟨rfl,hi',s2,hu,ρ2,zs,ws,en2,r2,q2,ey⟩
     have hsm:us.length<sizeLine:=Nat.lt_of_le_of_lt (Nat.le_trans hu hi') (Nat.lt_of_lt_of_le (by simpa [few] using hf) (by rw [sizeLine_eq]; decide:1000000<=sizeLine))
     obtain ⟨g1,g2,g3⟩:=Y i H2 (jq.a s2)
     refine ⟨hsm,?_⟩
     by_cases hlt:i<ds.length
     ·right
      have hd:ds.drop i=ds[i]::ds.drop (i+1):=List.drop_eq_getElem_cons hlt
      rw [hd] at q2
      refine ⟨g1 hlt,fun x H3 y=>?_⟩
      obtain ⟨s3,r3⟩:=g3 x H3 y
      have r3':=r3 ds[i] (by simp [hlt])
      cases h4:ga ds[i] ρ2 with
      | none=>simp [jX,h4] at q2
      | some ρ4=>
       refine ⟨ρ2,ds[i],ρ4,en2.mono s3,r3',h4,fun σ5 H5 s5 en5=>?_⟩
       cases h5:ft ρ4 with
       | none=>simp [jX,h4,h5] at q2
       | some b=>
        refine ⟨ρ4,b,en5,h5,fun H6 s6=>?_⟩
        have s26:=s3.trans (s5.trans s6)
        cases b with
        | false=>
         refine apD ?_
         exact ⟨ds.length - (i+1),by omega,rfl,hlt,s2.trans s26,by omega,ρ4,zs,ws,en5.mono s6,Reps.mono s26 _ _ r2,by simpa [jX,h4,h5] using q2,ey⟩
        | true=>
         refine apE ?_
         cases h6:fe ρ4 with
         | none=>simp [jX,h4,h5,h6] at q2
         | some y=>
          cases h7:jX ga ft fe (ds.drop (i+1)) ρ4 with
          | none=>simp [jX,h4,h5,h6,h7] at q2
          | some ws'=>
           have hw:y::ws'=ws:=by simpa [jX,h4,h5,h6,h7] using q2
           refine ⟨ρ4,y,en5.mono s6,h6,fun v H7 s7 r7=>?_⟩
           refine ⟨ds.length - (i+1),by omega,rfl,hlt,s2.trans (s26.trans s7),by rw [List.length_append]; simp; omega,ρ4,zs++[y],ws',(en5.mono s6).mono s7,(Reps.mono (s26.trans s7) _ _ r2).append ⟨v,[],rfl,r7,rfl⟩,h7,?_⟩
           rw [ey,←hw]; simp
     ·left
      have he:i=ds.length:=by omega
      have hn:ds.drop i=[]:=by rw [he]; simp
      rw [hn] at q2
      have hw:[]=ws:=by simpa [jX] using q2
      subst hw
      have ey':ys=zs:=by simpa using ey
      subst ey'
      exact ⟨g2 (by omega),fun l hl=>k _ _ (s1.trans (s2.trans (jw hl))) ⟨l,us,rfl,jn,Reps.mono (jw hl) _ _ r2⟩⟩
   ·simp [ql,h1,hf] at q
noncomputable def Pur (K:Fg) (n:Nat) (g:LP->OP):Sp:=fun vs H Q _=>∃ ds d,ds.length=n/\Reps K H ds vs/\g ds=some d/\∀ v H',jq H H'->Rep K H' d v->Q v H'
noncomputable def jy (g:LP->OP) (fr:Rho->Option (LP)):RP:=fun ρ=>(fr ρ).bind g
theorem anr {k n:Nat}{f:Addr}{fd:FuncData}{ps:List Str}{g:LP->OP}{x:Str}{p:Pos}{fr:Rho->Option (LP)} (FO:FnOk X.prog X.w X.K X.mg X.base CX0 k f fd ps (Pur X.K n g)) (hr:Room k X.A) (hm:X.mg x=some (.ref f)) (hk:PySem.W.keepIn X.K (.ref f)=true)
  (hb:JZ X.K fd ps []) (hn:(e::es).length=n) (ha:PAD X (e::es) fr) (hl:∀ ρ ds,fr ρ=some ds->ds.length=(e::es).length) (hg:Gl X x:=by rfl) (hdb:(x == ("__debug__":Str))=false:=by decide) (he:starEach (e::es) X.env=(false,eval e X.env)::starEach es X.env:=by rfl)
  (hpl:(backTo pos (starEach es X.env)).any (·.1)=false:=by rfl):PD X (.Call (.Name x p) (e::es) [] pos) (jy g fr):=by
 with_unfolding_all
  refine PE.imp (aiD FO hr hg hm hk hb .nil ael ha hdb he hpl) fun σ H Q ⟨ρ,d,en,q,k⟩=>?_
  cases h1:fr ρ with
  | none=>simp [jy,h1] at q
  | some ds=>
   refine ⟨ρ,ds,en,h1,fun vs H1 s1 r1=>?_⟩
   refine ⟨ds,d,by rw [hl ρ ds h1,hn],by rw [List.append_nil]; exact r1,by simpa [jy,h1] using q,fun v H' s r=>k v H' (s1.trans s) r⟩
noncomputable def Zo (X:Cx) (f:Value) (g:LP->OP):Prop:=∃ r,Jn X f r/\∀ ds d xs H Q,g ds=some d->Reps X.K H ds xs->(∀ v H',jq H H'->Rep X.K H' d v->Q v H')->r xs H Q
theorem j2 {id:String}{g:LP->OP}{x:Str}{p:Pos}{fr:Rho->Option (LP)} (hc:Zo X (.builtin id) g) (hm:X.mg x=none) (hv:bootBuiltins x=some (.builtin id)) (ha:PAD X (e::es) fr) (hg:Gl X x:=by rfl) (hn:x ≠ "__name__":=by decide) (hdb:(x == ("__debug__":Str))=false:=by decide)
  (he:starEach (e::es) X.env=(false,eval e X.env)::starEach es X.env:=by rfl) (hpl:(backTo pos (starEach es X.env)).any (·.1)=false:=by rfl):PD X (.Call (.Name x p) (e::es) [] pos) (jy g fr):=by
 with_unfolding_all
  obtain ⟨r,h1,h2⟩:=hc
  refine PE.imp (aaO h1 hg hm hv ha hn hdb he hpl) fun σ H Q ⟨ρ,d,en,q,k⟩=>?_
  cases h3:fr ρ with
  | none=>simp [jy,h3] at q
  | some ds=>exact ⟨ρ,ds,en,h3,fun vs H1 s1 r1=>h2 ds d vs H1 Q (by simpa [jy,h3] using q) r1 fun v H' s r=>k v H' (s1.trans s) r⟩
theorem zZ {T:String}{g:LP->OP}{x:Str}{p:Pos}{fr:Rho->Option (LP)} (hc:Zo X (.type T) g) (hm:X.mg x=none) (hv:bootBuiltins x=some (.type T)) (ha:PAD X (e::es) fr) (hg:Gl X x:=by rfl) (hn:x ≠ "__name__":=by decide) (hdb:(x == ("__debug__":Str))=false:=by decide)
  (he:starEach (e::es) X.env=(false,eval e X.env)::starEach es X.env:=by rfl) (hpl:(backTo pos (starEach es X.env)).any (·.1)=false:=by rfl):PD X (.Call (.Name x p) (e::es) [] pos) (jy g fr):=by
 with_unfolding_all
  obtain ⟨r,h1,h2⟩:=hc
  refine PE.imp (ZQ h1 hg hm hv ha hn hdb he hpl) fun σ H Q ⟨ρ,d,en,q,k⟩=>?_
  cases h3:fr ρ with
  | none=>simp [jy,h3] at q
  | some ds=>exact ⟨ρ,ds,en,h3,fun vs H1 s1 r1=>h2 ds d vs H1 Q (by simpa [jy,h3] using q) r1 fun v H' s r=>k v H' (s1.trans s) r⟩
end
noncomputable def jE (N:List Str) (ds:LP):Rho:=ds.map some++List.replicate (N.length - ds.length) none
theorem Qv {K:Fg}{H:Hp}{N:List Str}{ds:LP}{vs:List V} (r:Reps K H ds vs):EnvR K H (jE N ds) (L2.zV N vs):=by
 have hl:=r.length
 refine ⟨by simp [jE,L2.zV,hl],fun i d q=>?_⟩
 unfold jE at q
 by_cases hi:i<ds.length
 ·rw [List.getElem?_append_left (by simpa using hi),List.getElem?_map] at q
  cases e:ds[i]? with
  | none=>rw [e] at q; cases q
  | some c=>
   rw [e] at q; cases q
   obtain ⟨x,e1,e2⟩:=r.get e
   refine ⟨x,?_,e2⟩
   unfold L2.zV
   rw [List.getElem?_append_left (by simp; omega),List.getElem?_map,e1]; rfl
 ·rw [List.getElem?_append_right (by simpa using hi),List.getElem?_replicate] at q
  split at q <;> cases q
noncomputable def jv (N:List Str) (n:Nat) (B:RO) (ds:LP):OP:=if ds.length=n then match B (jE N ds) with
 | some (.rt d)=>some d
 | some (.nx _)=>some .none
 | _=>none else none
section
variable {P:Program}{w:World}{K:Fg}{mg:SV}{base:Heap}
theorem jO {x qual:Str}{st:Stmt}{f:Addr}{fd:FuncData}{N ps:List Str}{k:Nat}{B:RO} (F:Fun K x qual st f fd) (S:FnScope N ps (jf st))
  (body:∀ (Kc:Value) (A:Around) (Ko:List Env) (s:Shared) (H:Hp) (E:XK),Room k (A.deeper (envOfC qual (jf st) s.heap.objs.size f Kc))->
   aao (zT CX0 P w K mg base N qual (jf st) f Kc A Ko s H E).nox (jJ st) B):FnOk P w K mg base CX0 (k+1) f fd ps (Pur K ps.length (jv N ps.length B)):=by
 with_unfolding_all
  refine F.ok S (fun vs H Q E h=>?_) (fun Kc A Ko s H vs Q E hr h=>?_)
  ·obtain ⟨ds,d,h1,h2,_⟩:=h
   rw [h2.length]; exact h1
  ·obtain ⟨ds,d,h1,h2,h3,h4⟩:=h
   refine ⟨_,body Kc A Ko s H E hr,?_⟩
   unfold jv at h3
   rw [if_pos h1] at h3
   cases hB:B (jE N ds) with
   | none=>rw [hB] at h3; cases h3
   | some o=>
    refine ⟨jE N ds,o,Qv h2,hB,?_⟩
    rw [hB] at h3
    cases o with
    | rt c=>cases h3; exact fun v H' s r=>h4 v H' s r
    | nx ρ=>cases h3; exact fun σ H' s r=>h4 .non H' s rfl
    | bk ρ=>cases h3
    | ct ρ=>cases h3
end
section
variable {X:Cx}
noncomputable def are (K:Fg):R2:=fun x y H Q=>∃ a b ys,x= .ref a/\y= .ref b/\SqT K H a []/\SqT K H b ys/\Q (.ref b) H
theorem ans:OpR X (binaryOp .Add) (are X.K):=by
 intro Kp s σ H x y v u Q I rx ry h
 obtain ⟨a,b,ys,rfl,rfl,ha,hb,q⟩:=h
 cases rx
 cases ry
 obtain ⟨its,r1,p1,_⟩:=I.tuple ha
 obtain ⟨its2,r2,p2,_⟩:=I.tuple hb
 cases r1
 obtain ⟨⟨c1,d1,t1,l1⟩,ho,hc,n,hd⟩:=id p1
 obtain ⟨⟨c2,d2,t2,l2⟩,ho2,hc2,n2,hd2⟩:=id p2
 simp only at hc hd hc2 hd2
 subst hc hd hc2 hd2
 exact concat_meets ⟨_,ho,rfl⟩ ⟨_,ho2,rfl⟩ noFill_tuple_add seq_tuple_add PySem.F.slot_tuple_add PySem.F.entry_tuple_add (PySem.F.args_tuple_add_2 _ _)
  (tuple_addW0 a b _ _ n n2 d1 d2 l1 l2 (by simp)) ⟨ho,ho2,⟨.ref b,H,I,rfl,q⟩⟩
noncomputable def zh:PyData->PyData->OP
 | .int i,.int j=>some (.int (i+j))
 | .list xs,.list ys=>if few (xs++ys)=true then some (.list (xs++ys)) else none
 | .tuple [],.tuple ys=>some (.tuple ys)
 | .tuple (x::xs),.tuple ys=>if few ((x::xs)++ys)=true then some (.tuple ((x::xs)++ys)) else none
 | _,_=>none
theorem jB:OpD X (binaryOp .Add) zh:=by
 refine ⟨_,apo.or (apB.or (ans.or anf)),fun p q d x y H Q h rx ry k=>?_⟩
 unfold zh at h
 split at h
 ·cases h
  cases (show x=_ from rx)
  cases (show y=_ from ry)
  exact .inl ⟨_,_,rfl,rfl,k _ H (jq.refl H) rfl⟩
 ·rename_i xs ys
  split at h
  ·rename_i hf
   cases h
   obtain ⟨a,us,e1,e2,e3⟩:=rx
   obtain ⟨b,ws,e4,e5,e6⟩:=ry
   have hl:us.length+ws.length<1000000:=by
    rw [e3.length,e6.length]
    simp [few] at hf
    try simp only [List.length_cons]
    omega
   exact .inr (.inl ⟨a,b,us,ws,e1,e4,e2,e5,aau hl,fun p hp=>k _ _ (jw hp) ⟨p,_,rfl,jn,Reps.mono (jw hp) _ _ (e3.append e6)⟩⟩)
  ·cases h
 ·rename_i ys
  cases h
  obtain ⟨a,us,e1,e2,e3⟩:=rx
  cases (show us=[] from e3)
  obtain ⟨b,ws,e4,e5,e6⟩:=ry
  exact .inr (.inr (.inl ⟨a,b,ws,e1,e4,e2,e5,k _ H (jq.refl H) ⟨b,ws,rfl,e5,e6⟩⟩))
 ·rename_i z xs ys
  split at h
  ·rename_i hf
   cases h
   obtain ⟨a,us,e1,e2,e3⟩:=rx
   obtain ⟨b,ws,e4,e5,e6⟩:=ry
   have hl:us.length+ws.length<1000000:=by
    rw [e3.length,e6.length]
    simp [few] at hf
    try simp only [List.length_cons]
    omega
   refine .inr (.inr (.inr ⟨a,b,us,ws,e1,e4,e2,e5,fun z=>?_,aau hl,fun z=>?_,fun _ p hp=>?_⟩))
   ·have:=e3.length; rw [z] at this; simp at this
   ·subst z
    have:=e6.length
    have hy:ys=[]:=List.length_eq_zero_iff.mp (by simpa using this.symm)
    subst hy
    exact k _ H (jq.refl H) ⟨a,us,rfl,e2,by simpa using e3⟩
   ·exact k _ _ (jw hp) ⟨p,_,rfl,SqT.of jn,Reps.mono (jw hp) _ _ (e3.append e6)⟩
  ·cases h
 ·cases h
noncomputable def acr:PyData->PyData->OP
 | .int i,.int j=>some (.int (i - j))
 | _,_=>none
theorem Qa:OpD X (binaryOp .Sub) acr:=by
 refine ⟨_,apq,fun p q d x y H Q h rx ry k=>?_⟩
 unfold acr at h
 split at h
 ·cases h; cases (show x=_ from rx); cases (show y=_ from ry); exact ⟨_,_,rfl,rfl,k _ H (jq.refl H) rfl⟩
 ·cases h
theorem Reps.rep {K:Fg}{H:Hp}{ds:LP}{xs:List V} (h:Reps K H ds xs):∀ (n:Nat),Reps K H (List.replicate n ds).flatten (List.replicate n xs).flatten
 | 0=>rfl
 | n+1=>by rw [List.replicate_succ,List.replicate_succ,List.flatten_cons,List.flatten_cons]; exact h.append (Reps.rep h n)
noncomputable def zp:PyData->PyData->OP
 | .int i,.int j=>if (-(2 ^ 64)<i/\i<2 ^ 64) ∨ (-(2 ^ 64)<j/\j<2 ^ 64) then some (.int (i*j)) else none
 | .list xs,.int k=>if k<1000/\xs.length<1000/\-1000<k then some (.list (List.replicate k.toNat xs).flatten) else none
 | _,_=>none
theorem qo:OpD X (binaryOp .Mult) zp:=by
 refine ⟨_,apr.or ala,fun p q d x y H Q h rx ry k=>?_⟩
 unfold zp at h
 split at h
 ·split at h
  ·rename_i hc
   cases h; cases (show x=_ from rx); cases (show y=_ from ry); exact .inl ⟨_,_,rfl,rfl,hc,k _ H (jq.refl H) rfl⟩
  ·cases h
 ·rename_i xs n
  split at h
  ·rename_i hc
   cases h
   obtain ⟨a,us,e1,e2,e3⟩:=rx
   cases (show y=_ from ry)
   have hl:=e3.length
   have hs:us.length*n.toNat<=sizeLine:=by
    rw [sizeLine_eq]
    have h1:us.length<=1000:=by omega
    have h2:n.toNat<=1000:=by omega
    exact Nat.le_trans (Nat.mul_le_mul h1 h2) (by decide)
   exact .inr ⟨a,n,us,e1,rfl,e2,by omega,by omega,hs,fun p hp=>k _ _ (jw hp) ⟨p,_,rfl,jn,Reps.mono (jw hp) _ _ (Reps.rep e3 n.toNat)⟩⟩
  ·cases h
 ·cases h
noncomputable def aaT:PyData->PyData->OP
 | .int i,.int j=>if 0<j/\j<1073741824 then some (.int (i / j)) else none
 | _,_=>none
theorem zL:OpD X (binaryOp .FloorDiv) aaT:=by
 refine ⟨_,am8,fun p q d x y H Q h rx ry k=>?_⟩
 unfold aaT at h
 split at h
 ·split at h
  ·rename_i hc
   cases h; cases (show x=_ from rx); cases (show y=_ from ry); exact ⟨_,_,rfl,rfl,hc,k _ H (jq.refl H) rfl⟩
  ·cases h
 ·cases h
noncomputable def ad1:PyData->PyData->OP
 | .int i,.int j=>if 0<j then some (.int (i % j)) else none
 | _,_=>none
theorem zl:OpD X (binaryOp .Mod) ad1:=by
 refine ⟨_,aps,fun p q d x y H Q h rx ry k=>?_⟩
 unfold ad1 at h
 split at h
 ·split at h
  ·rename_i hc
   cases h; cases (show x=_ from rx); cases (show y=_ from ry); exact ⟨_,_,rfl,rfl,hc,k _ H (jq.refl H) rfl⟩
  ·cases h
 ·cases h
noncomputable def okD (d:PyData):Bool:=d.canLay0 && decide (d.depth<30)
noncomputable def arf (K:Fg) (neg:Bool):R2:=fun x y H Q=>∃ p q,Rep K H p x/\Rep K H q y/\okD p=true/\okD q=true/\Q (.bl (if neg then !PyData.eqv p q else PyData.eqv p q)) H
theorem zm {d:PyData} (h:okD d=true):d.canLay0=true:=by simp [okD] at h; exact h.1
theorem afk {d:PyData} (h:okD d=true):d.depth<30:=by simp [okD] at h; exact h.2
theorem apF (hu:X.A.units+64<cLine):OpR X (compareOp .Eq) (arf X.K false):=by
 intro Kp s σ H x y v u Q I rx ry ⟨p,q,h1,h2,h3,h4,k⟩
 obtain ⟨as,ra⟩:=zK I p x v h1 rx (zm h3)
 obtain ⟨bs,rb⟩:=zK I q y u h2 ry (zm h4)
 have d1:=afk h3
 exact SeqAt.compareEq_reads ra rb (zm h3) (zm h4) (by omega) ⟨.bl _,H,I,rfl,k⟩
theorem apG (hu:X.A.units+64<cLine):OpR X (compareOp .NotEq) (arf X.K true):=by
 intro Kp s σ H x y v u Q I rx ry ⟨p,q,h1,h2,h3,h4,k⟩
 obtain ⟨as,ra⟩:=zK I p x v h1 rx (zm h3)
 obtain ⟨bs,rb⟩:=zK I q y u h2 ry (zm h4)
 have d1:=afk h3
 exact SeqAt.compareNe_reads ra rb (zm h3) (zm h4) (by omega) ⟨.bl _,H,I,rfl,k⟩
noncomputable def arh (K:Fg):R2:=fun x y H Q=>∃ a b ns,x= .ref a/\y= .ref b/\SqL K H a (List.map V.int ns)/\H b=some (.lst [])/\Q (.bl ns.isEmpty) H
theorem aap (h:Heap):∀ (ns:List Int) (us:List Value),jQ (List.map V.int ns) us->∃ as,ReadsAll h us (ns.map PyData.int) as
 | [],us,r=>by cases r; exact ⟨_,.nil⟩
 | n::ns,us,r=>by
  cases r with
  | cons r1 r2=>
   obtain ⟨t,rfl⟩:=r1
   obtain ⟨as,ra⟩:=aap h ns _ r2
   exact ⟨_,.cons (.int n t) ra⟩
theorem agk:∀ ns:List Int,PyData.canLayAll0 (ns.map PyData.int)=true
 | []=>rfl
 | n::ns=>by simp [PyData.canLayAll0,PyData.canLay0,agk ns]
theorem ant (hu:X.A.units+64<cLine):OpR X (compareOp .Eq) (arh X.K):=by
 intro Kp s σ H x y v u Q I rx ry ⟨a,b,ns,e1,e2,h1,h2,k⟩
 subst e1; subst e2
 cases rx; cases ry
 obtain ⟨its,rv,⟨o,n,g1,g2,g3,g4⟩,_⟩:=I.list h1
 obtain ⟨as,ra⟩:=aap s.heap ns its rv
 obtain ⟨bs,rb⟩:=zK I (.list []) (.ref b) (.ref b) ⟨b,[],rfl,h2,rfl⟩ rfl rfl
 have ra':Reads s.heap (.ref a) (.list (ns.map PyData.int)) (a::as):= .list g1 g2 g4 (by simpa using ra)
 refine SeqAt.compareEq_reads ra' rb (by simpa [PyData.canLay0] using agk ns) rfl ?_ ⟨.bl _,H,I,rfl,?_⟩
 ·have:(PyData.list []).depth=1:=rfl
  rw [this]; omega
 ·have:PyData.eqv (.list (ns.map PyData.int)) (.list [])=ns.isEmpty:=by cases ns <;> simp [PyData.eqv,PyData.eqvAll]
  rw [this]; exact k
noncomputable def dEq:PyData->PyData->OP
 | .dict kvs,.list []=>if Jo kvs=true then some (.bool kvs.isEmpty) else none
 | p,q=>if okD p=true/\okD q=true then some (.bool (PyData.eqv p q)) else none
theorem aaw (hu:X.A.units+64<cLine):OpD X (compareOp .Eq) dEq:=by
 refine ⟨_,(ant hu).or (apF hu),fun p q d x y H Q h rx ry k=>?_⟩
 unfold dEq at h
 split at h
 ·split at h
  ·rename_i hs
   cases h
   obtain ⟨a,ns,e1,e2,e3⟩:=rx.scrOut hs
   obtain ⟨b,ws,e4,e5,e6⟩:=ry
   cases (show ws=[] from e6)
   refine .inl ⟨a,b,ns,e1,e4,e2,e5,?_⟩
   have:ns.isEmpty=(ns.map fun n=>(PyData.int n,PyData.none)).isEmpty:=by simp
   subst e3
   rw [this]
   exact k _ H (jq.refl H) rfl
  ·cases h
 ·split at h
  ·rename_i hc
   cases h
   exact .inr ⟨p,q,rx,ry,hc.1,hc.2,k _ H (jq.refl H) rfl⟩
  ·cases h
noncomputable def dNe:PyData->PyData->OP:=fun p q=>if okD p=true/\okD q=true then some (.bool (!PyData.eqv p q)) else none
theorem QU (hu:X.A.units+64<cLine):OpD X (compareOp .NotEq) dNe:=by
 refine ⟨_,apG hu,fun p q d x y H Q h rx ry k=>?_⟩
 unfold dNe at h
 split at h
 ·rename_i hc
  cases h
  exact ⟨p,q,rx,ry,hc.1,hc.2,k _ H (jq.refl H) rfl⟩
 ·cases h
noncomputable def ari (K:Fg) (neg:Bool):R2:=fun x y H Q=>∃ p ds,Rep K H p x/\(Rep K H (.list ds) y ∨ Rep K H (.tuple ds) y)/\okD p=true/\okD (.list ds)=true/\Q (.bl (if neg then !(ds.any fun z=>PyData.eqv z p) else ds.any fun z=>PyData.eqv z p)) H
theorem apH (hu:X.A.units+64<cLine):OpR X (compareOp .In) (ari X.K false):=by
 intro Kp s σ H x y v u Q I rx ry ⟨p,ds,h1,h2,h3,h4,k⟩
 obtain ⟨as,ra⟩:=zK I p x v h1 rx (zm h3)
 have d1:=afk h3
 have hc:PyData.canLayAll0 ds=true:=by simpa [PyData.canLay0] using zm h4
 rcases h2 with h2 | h2
 ·obtain ⟨bs,rb⟩:=zK I (.list ds) y u h2 ry (zm h4)
  exact SeqAt.in_list_reads rb ra hc (zm h3) (by omega) ⟨.bl _,H,I,rfl,k⟩
 ·obtain ⟨bs,rb⟩:=zK I (.tuple ds) y u h2 ry (by simpa [PyData.canLay0] using hc)
  exact SeqAt.in_tuple_reads rb ra hc (zm h3) (by omega) ⟨.bl _,H,I,rfl,k⟩
noncomputable def dIn (neg:Bool):PyData->PyData->OP:=fun p q=>match q with
 | .list ds=>if okD p=true/\okD (.list ds)=true then some (.bool (if neg then !(ds.any fun z=>PyData.eqv z p) else ds.any fun z=>PyData.eqv z p)) else none
 | .tuple ds=>if okD p=true/\okD (.list ds)=true then some (.bool (if neg then !(ds.any fun z=>PyData.eqv z p) else ds.any fun z=>PyData.eqv z p)) else none
 | _=>none
theorem arj {neg:Bool}{p q d:PyData}{x y:V}{H:Hp}{Q:VK}{K:Fg} (h:dIn neg p q=some d) (rx:Rep K H p x) (ry:Rep K H q y) (k:∀ v H',jq H H'->Rep K H' d v->Q v H'):ari K neg x y H Q:=by
 unfold dIn at h
 split at h
 ·split at h
  ·rename_i ds hc
   cases h
   exact ⟨p,ds,rx,.inl ry,hc.1,hc.2,k _ H (jq.refl H) rfl⟩
  ·cases h
 ·split at h
  ·rename_i ds hc
   cases h
   exact ⟨p,ds,rx,.inr ry,hc.1,hc.2,k _ H (jq.refl H) rfl⟩
  ·cases h
 ·cases h
theorem apI (hu:X.A.units+64<cLine):OpD X (compareOp .In) (dIn false):=⟨_,apH hu,fun p q d x y H Q h rx ry k=>arj h rx ry k⟩
noncomputable def qJ (f:Int->Int->Bool):PyData->PyData->OP
 | .int i,.int j=>some (.bool (f i j))
 | _,_=>none
theorem afl {f:Int->Int->Bool}{p q d:PyData}{x y:V}{H:Hp}{Q:VK}{K:Fg} (h:qJ f p q=some d) (rx:Rep K H p x) (ry:Rep K H q y) (k:∀ v H',jq H H'->Rep K H' d v->Q v H'):rI0 (fun i j=> .bl (f i j)) x y H Q:=by
 unfold qJ at h
 split at h
 ·cases h; cases (show x=_ from rx); cases (show y=_ from ry); exact ⟨_,_,rfl,rfl,k _ H (jq.refl H) rfl⟩
 ·cases h
theorem Zp:OpD X (compareOp .Lt) (qJ fun i j=>decide (i<j)):=⟨_,aqY,fun p q d x y H Q h rx ry k=>afl h rx ry k⟩
theorem ac7:OpD X (compareOp .LtE) (qJ fun i j=>decide (i<=j)):=⟨_,aqZ,fun p q d x y H Q h rx ry k=>afl h rx ry k⟩
theorem afm:OpD X (compareOp .Gt) (qJ fun i j=>decide (j<i)):=⟨_,aq0,fun p q d x y H Q h rx ry k=>afl h rx ry k⟩
theorem afn:OpD X (compareOp .GtE) (qJ fun i j=>decide (j<=i)):=⟨_,aq1,fun p q d x y H Q h rx ry k=>afl h rx ry k⟩
noncomputable def chn (g g':PyData->PyData->OP) (fa fb fc:RP):RP:=fun ρ=>(fa ρ).bind fun x=>(fb ρ).bind fun y=>(g x y).bind fun z=>(asB z).bind fun t=>if t=true then (fc ρ).bind fun w=>g' y w else some (.bool false)
variable {a b c e:Expr}{fa fb fc:RP}{pos:Pos}
theorem aoU {g g':PyData->PyData->OP}{K:Fg}{r r':R2} (hr:∀ p q d x y H Q,g p q=some d->Rep K H p x->Rep K H q y->(∀ v H',jq H H'->Rep K H' d v->Q v H')->r x y H Q)
  (hr':∀ p q d x y H Q,g' p q=some d->Rep K H p x->Rep K H q y->(∀ v H',jq H H'->Rep K H' d v->Q v H')->r' x y H Q) {σ:St} {H:Hp} {Q:VK} (h:tD K (chn g g' fa fb fc) σ H Q):ahz r r' (tD K fa) (tD K fb) (tD K fc) σ H Q:=by
 obtain ⟨ρ,d,en,h,k⟩:=h
 unfold chn at h
 cases ha:fa ρ with
 | none=>rw [ha] at h; cases h
 | some p=>
  cases hb:fb ρ with
  | none=>rw [ha,hb] at h; cases h
  | some q=>
   rw [ha,hb] at h
   cases hg:g p q with
   | none=>simp [hg] at h
   | some z=>
    cases ht:asB z with
    | none=>simp [hg,ht] at h
    | some t=>
     have hz:=Qr ht
     subst hz
     refine ⟨ρ,p,en,ha,fun x H1 s1 r1=>⟨ρ,q,en.mono s1,hb,fun y H2 s2 r2=>?_⟩⟩
     refine hr p q _ x y H2 _ hg (Rep.mono s2 p x r1) r2 fun v H3 s3 r3=>⟨t,r3,?_⟩
     have s13:=s1.trans (s2.trans s3)
     cases t with
     | false=>
      rw [if_neg Bool.false_ne_true]
      have hd:PyData.bool false=d:=by simpa [hg,asB] using h
      subst hd
      exact k _ H3 s13 rfl
     | true=>
      rw [if_pos rfl]
      cases hc:fc ρ with
      | none=>simp [hg,asB,hc] at h
      | some w=>
       refine ⟨ρ,w,en.mono s13,hc,fun z H4 s4 r4=>?_⟩
       exact hr' q w d y z H4 Q (by simpa [hg,asB,hc] using h) (Rep.mono (s3.trans s4) q y r2) r4 fun v H5 s5 r5=>k v H5 (s13.trans (s4.trans s5)) r5
theorem ale {op op':CmpOp}{g g':PyData->PyData->OP} (ho:OpD X (compareOp op) g) (ho':OpD X (compareOp op') g') (ha:PD X a fa) (hb:PD X b fb) (hc:PD X c fc)
  (hm:lastMarks [op,op'] [b,c]=false:=by with_unfolding_all rfl):PD X (.Compare a [op,op'] [b,c] pos) (chn g g' fa fb fc):=by
 with_unfolding_all
  obtain ⟨r,h1,h2⟩:=ho
  obtain ⟨r',h3,h4⟩:=ho'
  exact PE.imp (ak2 h1 h3 ha hb hc hm) fun σ H Q h=>aoU h2 h4 h
theorem ajJ {op op':CmpOp}{g g':PyData->PyData->OP} (ho:OpD X (compareOp op) g) (ho':OpD X (compareOp op') g') (ha:PD X a fa) (hb:PD X b fb) (hc:PD X c fc)
  (hm:lastMarks [op,op'] [b,c]=false:=by with_unfolding_all rfl):PTD X (.Compare a [op,op'] [b,c] pos) (tst (chn g g' fa fb fc)):=by
 with_unfolding_all
  obtain ⟨r,h1,h2⟩:=ho
  obtain ⟨r',h3,h4⟩:=ho'
  refine PT.imp (ak3 h1 h3 ha hb hc hm) fun σ H Q ⟨ρ,t,en,h,k⟩=>?_
  cases hd:chn g g' fa fb fc ρ with
  | none=>simp [tst,hd] at h
  | some d=>
   have ht:d= .bool t:=Qr (by simpa [tst,hd] using h)
   subst ht
   exact aoU h2 h4 ⟨ρ,_,en,hd,fun v H' s r=>⟨t,r,k H' s⟩⟩
noncomputable def dIx:PyData->PyData->OP
 | .list ds,.int i=>if ds.length<1000000 then atI ds i else none
 | .tuple ds,.int i=>if ds.length<1000000 then atI ds i else none
 | .dict kvs,.int i=>if kvs.length<1000000/\Jo kvs=true then (atI kvs i).map (·.1) else none
 | _,_=>none
theorem aiO {K:Fg}{H:Hp}{ds:LP}{xs:List V}{i:Int}{d:PyData} (r:Reps K H ds xs) (h:atI ds i=some d):∃ x,atI xs i=some x/\Rep K H d x:=by
 have hl:=r.length
 unfold atI at h ⊢
 rw [hl]
 cases e:ixN ds.length i with
 | none=>rw [e] at h; cases h
 | some j=>
  rw [e] at h
  obtain ⟨x,e1,e2⟩:=r.get (show ds[j]?=some d from h)
  exact ⟨x,e1,e2⟩
noncomputable def IxD (X:Cx) (g:PyData->PyData->OP):Prop:=∃ r,IxR X r/\∀ p q d x y H Q,g p q=some d->Rep X.K H p x->Rep X.K H q y->(∀ v H',jq H H'->Rep X.K H' d v->Q v H')->r x y H Q
theorem ixd:IxD X dIx:=by
 refine ⟨_,ang.or apz,fun p q d x y H Q h rx ry k=>?_⟩
 unfold dIx at h
 split at h
 ·split at h
  ·obtain ⟨a,us,e1,e2,e3⟩:=rx
   cases (show y=_ from ry)
   obtain ⟨z,g1,g2⟩:=aiO e3 h
   exact .inl ⟨a,us,_,z,e1,rfl,SqL.of e2,g1,k z H (jq.refl H) g2⟩
  ·cases h
 ·split at h
  ·obtain ⟨a,us,e1,e2,e3⟩:=rx
   cases (show y=_ from ry)
   obtain ⟨z,g1,g2⟩:=aiO e3 h
   exact .inr ⟨a,us,_,z,e1,rfl,e2,g1,k z H (jq.refl H) g2⟩
  ·cases h
 ·split at h
  ·rename_i hs
   obtain ⟨a,ns,e1,e2,e3⟩:=rx.scrOut hs.2
   cases (show y=_ from ry)
   subst e3
   rename_i i
   unfold atI at h
   rw [List.length_map] at h
   cases e:ixN ns.length i with
   | none=>rw [e] at h; cases h
   | some j=>
    rw [e] at h
    have h':((ns.map fun n=>(PyData.int n,PyData.none))[j]?).map (·.1)=some d:=h
    rw [List.getElem?_map] at h'
    cases e4:ns[j]? with
    | none=>rw [e4] at h'; cases h'
    | some n=>
     rw [e4] at h'
     cases h'
     refine .inl ⟨a,List.map V.int ns,i,.int n,e1,rfl,e2,?_,k _ H (jq.refl H) rfl⟩
     unfold atI
     rw [List.length_map,e]
     show (List.map V.int ns)[j]?=_
     rw [List.getElem?_map,e4]; rfl
  ·cases h
 ·cases h
theorem jI (ha:PD X a fa) (hb:PD X b fb) (hs:aiJ b:=by intro _ _; rfl):PD X (.Subscript a b pos) (op2 dIx fa fb):=by
 with_unfolding_all
  obtain ⟨r,h1,h2⟩:=ixd (X:=X)
  exact PE.imp (aq6 h1 ha hb hs) fun σ H Q h=>anp h2 h
noncomputable def Ja (ds:LP):OP:=match ds with
 | [.list xs]=>some (.int xs.length)
 | [.tuple xs]=>some (.int xs.length)
 | [.dict xs]=>if Jo xs=true then some (.int xs.length) else none
 | _=>none
theorem zM:Zo X (.builtin "len") Ja:=by
 refine ⟨_,afi,fun ds d xs H Q h r k=>?_⟩
 unfold Ja at h
 split at h
 ·cases h
  obtain ⟨x,q,e1,e2,e3⟩:=r
  cases (show q=[] from e3)
  obtain ⟨a,us,g1,g2,g3⟩:=e2
  subst g1
  exact ⟨a,us,e1,.inl (SqL.of g2),k _ H (jq.refl H) (by show _=_; rw [g3.length])⟩
 ·cases h
  obtain ⟨x,q,e1,e2,e3⟩:=r
  cases (show q=[] from e3)
  obtain ⟨a,us,g1,g2,g3⟩:=e2
  subst g1
  exact ⟨a,us,e1,.inr g2,k _ H (jq.refl H) (by show _=_; rw [g3.length])⟩
 ·split at h
  ·rename_i hs
   cases h
   obtain ⟨x,q,e1,e2,e3⟩:=r
   cases (show q=[] from e3)
   obtain ⟨a,ns,g1,g2,g3⟩:=e2.scrOut hs
   subst g1; subst g3
   exact ⟨a,_,e1,.inl g2,k _ H (jq.refl H) (by show _=_; simp)⟩
  ·cases h
 ·cases h
noncomputable def alf (ds:LP):OP:=match ds with
 | [.int i,.int j]=>some (.int (if j > i then j else i))
 | _=>none
noncomputable def agl (ds:LP):OP:=match ds with
 | [.int i,.int j]=>some (.int (if j<i then j else i))
 | _=>none
theorem anu (hc:X.calm=true):Zo X (.builtin "max") alf:=by
 refine ⟨_,ajC hc,fun ds d xs H Q h r k=>?_⟩
 unfold alf at h
 split at h
 ·cases h
  obtain ⟨x,q,e1,e2,y,q',e3,e4,e5⟩:=r
  cases (show x=_ from e2); cases (show y=_ from e4); cases (show q'=[] from e5); subst e3
  exact ⟨_,_,e1,k _ H (jq.refl H) rfl⟩
 ·cases h
theorem aiP (hc:X.calm=true):Zo X (.builtin "min") agl:=by
 refine ⟨_,ajD hc,fun ds d xs H Q h r k=>?_⟩
 unfold agl at h
 split at h
 ·cases h
  obtain ⟨x,q,e1,e2,y,q',e3,e4,e5⟩:=r
  cases (show x=_ from e2); cases (show y=_ from e4); cases (show q'=[] from e5); subst e3
  exact ⟨_,_,e1,k _ H (jq.refl H) rfl⟩
 ·cases h
end
section
variable {X:Cx}{Kp:List (Addr × Obj)}{σ:St}{H:Hp}{s:Shared}
theorem aep {prog:Program}{w:World}{A:Around}{E:Value->SP0}{l:Addr}{its:Array Value}{Q:Value->SP0} (hl:s.heap.IsList l its)
  (h:∀ (h2:Heap) (it:Addr),(h2.IsListIter it l 0/\h2.IsList l its)->(∀ b ∈ [it,l],b<h2.objs.size)->l ≠ it->(∀ b o,s.heap.get? b=some o->h2.get? b=some o)->s.heap.get? it=none->Q (.ref it) { s with heap:=h2 }):
  wpAny (model prog w) A (pyIter (.ref l)) Q E s:=by
 have hlt:l<s.heap.objs.size:=by
  obtain ⟨_,e,_⟩:=hl
  exact Heap.lt_size e
 refine wpAny_pyIter_list hl (h _ _ ⟨⟨_,Heap.get?_push_size _ rfl,rfl,rfl⟩,hl.push _⟩ (fun b hb=>?_) (Nat.ne_of_lt hlt) (fun b o e=>Heap.get?_push_of_some _ e) (Heap.get?_none_of_le (Nat.le_refl _)))
 rw [Heap.size_push]
 rcases List.mem_cons.mp hb with e | hb
 ·rw [e]; exact Nat.lt_succ_self _
 ·have e:b=l:=by simpa using hb
  rw [e]; exact Nat.lt_succ_of_lt hlt
theorem ajK {prog:Program}{w:World}{A:Around}{E:Value->SP0}{l:Addr}{its:Array Value}{Q:Value->SP0} (hl:s.heap.IsTuple l its)
  (h:∀ (h2:Heap) (it:Addr),(h2.IsTupleIter it l 0/\h2.IsTuple l its)->(∀ b ∈ [it,l],b<h2.objs.size)->l ≠ it->(∀ b o,s.heap.get? b=some o->h2.get? b=some o)->s.heap.get? it=none->Q (.ref it) { s with heap:=h2 }):
  wpAny (model prog w) A (pyIter (.ref l)) Q E s:=by
 have hlt:l<s.heap.objs.size:=by
  obtain ⟨_,e,_⟩:=hl
  exact Heap.lt_size e
 have hl2:∀ o,(s.heap.push o).IsTuple l its:=fun o=>by
  obtain ⟨ob,e,r⟩:=hl
  exact ⟨ob,Heap.get?_push_of_some _ e,r⟩
 refine wpAny_pyIter_tuple hl (h _ _ ⟨⟨_,Heap.get?_push_size _ rfl,rfl,rfl⟩,hl2 _⟩ (fun b hb=>?_) (Nat.ne_of_lt hlt) (fun b o e=>Heap.get?_push_of_some _ e) (Heap.get?_none_of_le (Nat.le_refl _)))
 rw [Heap.size_push]
 rcases List.mem_cons.mp hb with e | hb
 ·rw [e]; exact Nat.lt_succ_self _
 ·have e:b=l:=by simpa using hb
  rw [e]; exact Nat.lt_succ_of_lt hlt
theorem afo {h h2 h3 : Heap} {it : Addr} (k1 : ∀ b o, h.get? b = some o -> h2.get? b = some o) (hn : h.get? it = none) (k2 : ∀ b o, b ∉ [it] -> h2.get? b = some o -> h3.get? b = some o) : ∀ b o, h.get? b = some o -> h3.get? b = some o := fun b o e =>
  k2 b o (fun z => by have e1 : b = it := by simpa using z
                      rw [e1, hn] at e; cases e) (k1 b o e)
theorem aiQ:∀ {bs:List Bool}{us:List Value},jQ (bs.map V.bl) us->us=bs.map Value.bool
 | [],us,r=>by cases r; rfl
 | b::bs,us,r=>by
  cases r with
  | cons r1 r2=>cases (show _=_ from r1); rw [aiQ r2]; rfl
theorem ajL (bs:List Bool):(List.range bs.length).all (fun i=>bs.getD i false)=bs.all id:=by
 have:bs=(List.range bs.length).map (fun i=>bs.getD i false):=by
  apply List.ext_getElem?
  intro i
  rw [List.getElem?_map]
  by_cases h:i<bs.length
  ·rw [List.getElem?_range h]; simp [List.getD,h]
  ·simp [h]
 conv=>rhs; rw [this]
 rw [List.all_map]; rfl
noncomputable def aso (K:Fg):List V->Hp->VK->Prop:=fun xs H Q=>∃ a bs,xs=[.ref a]/\SqL K H a (List.map V.bl bs)/\Q (.bl (bs.all id)) H
theorem ajM (hc:X.calm=true):Jn X (.builtin "all") (aso X.K):=by
 intro Kp s σ H xs us Q I r ⟨a,bs,e,hq,q⟩
 subst e
 obtain ⟨u,rfl,rx⟩:=Zn r
 cases rx
 obtain ⟨its,rv,pl,hz⟩:=I.list hq
 have ei:=aiQ rv
 have hh:=I.ok.hd hc
 refine call_all_walk (aep pl.isList fun h2 it st hlt hne k1 hn=>?_)
 refine ⟨it,[it,a],[it],its.toArray.size,(fun i v=>its.toArray[i]?=some v),_,fun i=>bs.getD i false,rfl,Walks.list (A:=X.A.in1) hh it a hne its.toArray,st,?_,fun h3 tk k2=>?_⟩
 ·intro i v s' Q' E' hP hq'
  have:v= .bool (bs.getD i false):=by
   have hP':its[i]?=some v:=by simpa using hP
   rw [ei,List.getElem?_map] at hP'
   cases hb:bs[i]? with
   | none=>rw [hb] at hP'; cases hP'
   | some b=>rw [hb] at hP'; cases hP'; simp [List.getD,hb]
  subst this
  exact wpAny_truthy_bool hq'
 ·have I3:=I.kept (t':=tk) (afo k1 hn k2)
  have hl:its.toArray.size=bs.length:=by rw [ei]; simp
  refine ⟨.bl (bs.all id),H,I3,?_,q⟩
  show _=_
  rw [hl,ajL]
noncomputable def bls:LP->Option (List Bool)
 | []=>some []
 | d::r=>(asB d).bind fun b=>(bls r).map fun q=>b::q
theorem Reps.bls {K:Fg}{H:Hp}:∀ {ds:LP}{bs:List Bool}{xs:List V},BX.bls ds=some bs->Reps K H ds xs->xs=bs.map V.bl
 | [],bs,xs,h,r=>by simp [BX.bls] at h; subst h; exact r
 | d::ds,bs,xs,h,⟨x,q,e1,e2,e3⟩=>by
  subst e1
  cases h1:asB d with
  | none=>simp [BX.bls,h1] at h
  | some b=>
   cases h2:BX.bls ds with
   | none=>simp [BX.bls,h1,h2] at h
   | some r=>
    have:b::r=bs:=by simpa [BX.bls,h1,h2] using h
    subst this
    have hd:=Qr h1
    subst hd
    cases (show x=_ from e2)
    rw [Reps.bls h2 e3]; rfl
noncomputable def ajN (ds:LP):OP:=match ds with
 | [.list xs]=>(bls xs).map fun bs=> .bool (bs.all id)
 | _=>none
theorem ahG (hc:X.calm=true):Zo X (.builtin "all") ajN:=by
 refine ⟨_,ajM hc,fun ds d xs H Q h r k=>?_⟩
 unfold ajN at h
 split at h
 ·rename_i ys
  cases hb:bls ys with
  | none=>simp [hb] at h
  | some bs=>
   have:PyData.bool (bs.all id)=d:=by simpa [hb] using h
   subst this
   obtain ⟨x,q,e1,e2,e3⟩:=r
   cases (show q=[] from e3)
   obtain ⟨a,us,g1,g2,g3⟩:=e2
   subst g1
   have:=Reps.bls hb g3
   subst this
   exact ⟨a,bs,e1,SqL.of g2,k _ H (jq.refl H) rfl⟩
 ·cases h
noncomputable def Zq:PyData->Option Int
 | .int i=>some i
 | _=>none
noncomputable def Zr:LP->Option (List Int)
 | []=>some []
 | d::r=>(Zq d).bind fun b=>(Zr r).map fun q=>b::q
theorem abJ:∀ {ds:LP}{ns:List Int},Zr ds=some ns->ds=ns.map PyData.int
 | [],ns,h=>by simp [Zr] at h; subst h; rfl
 | d::ds,ns,h=>by
  cases d with
  | int i=>
   cases h2:Zr ds with
   | none=>simp [Zr,Zq,h2] at h
   | some r=>
    have:i::r=ns:=by simpa [Zr,Zq,h2] using h
    subst this
    rw [abJ h2]; rfl
  | _=>simp [Zr,Zq] at h
theorem acd {ns:List Int}{us:List Value}{i:Nat}{v:Value} (r:jQ (ns.map V.int) us) (h:us.toArray[i]?=some v):∃ t,v= .int (ns.getD i 0) t:=by
 have h':us[i]?=some v:=by simpa using h
 have hi:i<us.length:=(List.getElem?_eq_some_iff.mp h').1
 have hl:=r.length
 rw [List.length_map] at hl
 obtain ⟨u,e1,e2⟩:=r.get (show (ns.map V.int)[i]?=some (V.int (ns.getD i 0)) by
  rw [List.getElem?_map]
  have:i<ns.length:=by omega
  simp [List.getD,this])
 rw [h'] at e1; cases e1
 exact e2
theorem ace (ns:List Int):preSum (fun i=>ns.getD i 0) ns.length=ns.sum:=by
 have go:∀ k,k<=ns.length->preSum (fun i=>ns.getD i 0) k=(ns.take k).sum:=by
  intro k
  induction k with
  | zero=>intro _; simp [preSum]
  | succ k ih=>
   intro hk
   have hlt:k<ns.length:=by omega
   have h1:ns.take (k+1)=ns.take k++[ns[k]]:=by rw [List.take_succ]; simp [hlt]
   rw [h1]
   simp only [preSum,ih (by omega),List.sum_append,List.sum_cons,List.sum_nil,Int.add_zero]
   simp [List.getD,hlt]
 have:=go ns.length (Nat.le_refl _)
 simpa using this
noncomputable def asp (K:Fg):List V->Hp->VK->Prop:=fun xs H Q=>∃ a ns,xs=[.ref a]/\(SqL K H a (List.map V.int ns) ∨ SqT K H a (List.map V.int ns))/\Q (.int ns.sum) H
theorem ajO (hc:X.calm=true):Jn X (.builtin "sum") (asp X.K):=by
 intro Kp s σ H xs us Q I r ⟨a,ns,e,hq,q⟩
 subst e
 obtain ⟨u,rfl,rx⟩:=Zn r
 cases rx
 have hh:=I.ok.hd hc
 rcases hq with hq | hq
 ·obtain ⟨its,rv,pl,hz⟩:=I.list hq
  have hl:its.toArray.size=ns.length:=by have:=rv.length; simp at this ⊢; omega
  refine call_sum_walkG (aep pl.isList fun h2 it st hlt hne k1 hn=>?_)
  refine ⟨it,[it,a],[it],its.toArray.size,(fun i v=>its.toArray[i]?=some v),_,fun i=>ns.getD i 0,rfl,Walks.list (A:=X.A.in1) hh it a hne its.toArray,st,hlt,fun i v hP=>acd rv hP,fun h3 tk t' k2=>?_⟩
  exact ⟨.int ns.sum,H,I.kept (t':=tk) (afo k1 hn k2),⟨t',by rw [hl,ace]⟩,q⟩
 ·obtain ⟨its,rv,pl,hz⟩:=I.tuple hq
  have hl:its.toArray.size=ns.length:=by have:=rv.length; simp at this ⊢; omega
  refine call_sum_walkG (ajK (show s.heap.IsTuple a its.toArray from pl) fun h2 it st hlt hne k1 hn=>?_)
  refine ⟨it,[it,a],[it],its.toArray.size,(fun i v=>its.toArray[i]?=some v),_,fun i=>ns.getD i 0,rfl,Walks.tuple (A:=X.A.in1) hh it a hne its.toArray,st,hlt,fun i v hP=>acd rv hP,fun h3 tk t' k2=>?_⟩
  exact ⟨.int ns.sum,H,I.kept (t':=tk) (afo k1 hn k2),⟨t',by rw [hl,ace]⟩,q⟩
noncomputable def alg (ds:LP):OP:=match ds with
 | [.list xs]=>(Zr xs).map fun ns=> .int ns.sum
 | [.tuple xs]=>(Zr xs).map fun ns=> .int ns.sum
 | _=>none
theorem apJ (hc:X.calm=true):Zo X (.builtin "sum") alg:=by
 refine ⟨_,ajO hc,fun ds d xs H Q h r k=>?_⟩
 unfold alg at h
 split at h
 ·rename_i ys
  cases hb:Zr ys with
  | none=>simp [hb] at h
  | some ns=>
   have:PyData.int ns.sum=d:=by simpa [hb] using h
   subst this
   obtain ⟨x,q,e1,e2,e3⟩:=r
   cases (show q=[] from e3)
   obtain ⟨a,us,g1,g2,g3⟩:=e2
   subst g1
   rw [abJ hb] at g3
   have:=Reps.ints g3
   subst this
   exact ⟨a,ns,e1,.inl (SqL.of g2),k _ H (jq.refl H) rfl⟩
 ·rename_i ys
  cases hb:Zr ys with
  | none=>simp [hb] at h
  | some ns=>
   have:PyData.int ns.sum=d:=by simpa [hb] using h
   subst this
   obtain ⟨x,q,e1,e2,e3⟩:=r
   cases (show q=[] from e3)
   obtain ⟨a,us,g1,g2,g3⟩:=e2
   subst g1
   rw [abJ hb] at g3
   have:=Reps.ints g3
   subst this
   exact ⟨a,ns,e1,.inr g2,k _ H (jq.refl H) rfl⟩
 ·cases h
end
section
variable {prog:Program}{w:World}{A:Around}{E:Value->SP0}{s:Shared}
theorem aax {it t:Addr}{i:Nat}{ys:Array Value}{x:Value}{Q:Value->SP0} (hit:s.heap.IsTupleIter it t i) (ht:s.heap.IsTuple t ys) (hx:ys[i]?=some x)
  (hQ:∀ h',h'.IsTupleIter it t (i+1)->Heap.SameBut it s.heap h'->Q x { s with heap:=h' }):wpAny (model prog w) A (Builtin.SmallTypes.nextOf (.ref it)) Q E s:=by
 obtain ⟨o,ho,hc,hd⟩:=id hit
 obtain ⟨ot,hot,_,nt,hdt⟩:=ht
 unfold Builtin.SmallTypes.nextOf
 refine wpAny_bind (wpAny_callSpecial?_slot (name:=Str.ofString "__next__") hit.typeIs F.slot_tuple_iterator_next
  (wpAny_call_entry F.slot_tuple_iterator_next hit.typeIs F.entry_tuple_iterator_next ?_
   (F.args_tuple_iterator_next_1 _)))
 refine wpAny_bind (m:=field (.ref it) 0) (wpAny_field ho hd (x:= .ref t) rfl ?_)
 have no:¬ ((Value.ref t == Value.none)=true):=Bool.false_ne_true
 show wpAny _ _ (if (Value.ref t == Value.none)=true then _ else
  _) _ _ s
 rw [if_neg no]
 refine wpAny_bind (m:=field (.ref it) 1) (wpAny_field ho hd (x:= .int i 0) rfl ?_)
 refine wpAny_bind (m:=seqItems? (.ref t)) (wpAny_seqItems hot hdt ?_)
 simp only [Int.toNat_natCast,hx]
 refine wpAny_bind (wpAny_setField ho hd (by simp) (wpAny_pure ⟨x,rfl,wpAny_pure (hQ _ ?_ (Heap.SameBut.update ..))⟩))
 refine ⟨_,Heap.get?_update_self _ ho (Obj.isFreed_of_fields (Obj.data_mapFields hd _)),(Obj.cls_mapFields ..).trans hc,?_⟩
 rw [Obj.data_mapFields hd]
 simp [rawInt]
theorem ajP {it t:Addr}{i:Nat}{ys:Array Value}{Q:Value->SP0} (hh:A.handled=none) (hit:s.heap.IsTupleIter it t i) (ht:s.heap.IsTuple t ys) (hx:ys[i]?=none)
  (hE:∀ h' e,Heap.ExtBut it s.heap h'->(∃ o,h'.get? e=some o/\o.cls= .type "StopIteration")->E (.ref e) { s with heap:=h' }):wpAny (model prog w) A (Builtin.SmallTypes.nextOf (.ref it)) Q E s:=by
 obtain ⟨o,ho,hc,hd⟩:=id hit
 obtain ⟨ot,hot,_,nt,hdt⟩:=ht
 unfold Builtin.SmallTypes.nextOf
 refine wpAny_bind (wpAny_callSpecial?_slot (name:=Str.ofString "__next__") hit.typeIs F.slot_tuple_iterator_next
  (wpAny_call_entry F.slot_tuple_iterator_next hit.typeIs F.entry_tuple_iterator_next ?_
   (F.args_tuple_iterator_next_1 _)))
 refine wpAny_bind (m:=field (.ref it) 0) (wpAny_field ho hd (x:= .ref t) rfl ?_)
 have no:¬ ((Value.ref t == Value.none)=true):=Bool.false_ne_true
 show wpAny _ _ (if (Value.ref t == Value.none)=true then _ else
  _) _ _ s
 rw [if_neg no]
 refine wpAny_bind (m:=field (.ref it) 1) (wpAny_field ho hd (x:= .int i 0) rfl ?_)
 refine wpAny_bind (m:=seqItems? (.ref t)) (wpAny_seqItems hot hdt ?_)
 simp only [Int.toNat_natCast,hx]
 refine wpAny_bind (wpAny_rule (wpAny_bind (wpAny_setField ho hd (by simp) ?_)))
 refine wpAny_bind (m:=newExc (.type "StopIteration") []) ?_
 simp only [newExc,newTuple]
 refine wpAny_bind (wpAny_newObj_type ?_ (by size_fits))
 refine wpAny_bind (m:=firstArgMember _ _) (wpAny_of_eq (a:=Value.none)
  (by first | rfl | (simp only [firstArgMember]; rfl)) ?_)
 refine wpAny_newObj_type ?_ (by size_fits)
 simp only [raiseNew]
 refine wpAny_bind (wpAny_handled ?_)
 rw [show A.in1.handled=none from hh]
 refine wpAny_bind (wpAny_pure (wpAny_throw ?_))
 exact hE _ _ (((Heap.SameBut.update ..).extBut.push _).push _) ⟨_,Heap.get?_push_size _ rfl,rfl⟩
noncomputable abbrev aaU (h:Heap) (T:Addr) (a b c:Value):Prop:=h.get? T=some { cls:= .type "tuple",data:= .seq #[a,b,c] }
theorem ac8 {T:Addr}{a b c x:Value}{k:Nat}{Q:Unit->SP0} (hT:aaU s.heap T a b c)
  (h:∀ h',h'.get? T=some { cls:= .type "tuple",data:= .seq ((#[a,b,c]:Array Value).setIfInBounds k x) }->Heap.SameBut T s.heap h'->Q () { s with heap:=h' }):
  wpAny (model prog w) A (updateSeq T (·.setIfInBounds k x)) Q E s:=by
 refine wpAny_updateSeq hT rfl (h _ ?_ (Heap.SameBut.update ..))
 rw [Heap.get?_update_self _ hT rfl]
 simp [Obj.mapSeq]
structure Apart3 (z TI TO i1 i2 i3 t1 t2 t3:Addr):Prop where
 nd:[z,TO,i1,i2,i3].Nodup
 ti:TI ∉ [z,TO,i1,i2,i3]
 s1:t1 ∉ [z,TO,i1,i2,i3]
 s2:t2 ∉ [z,TO,i1,i2,i3]
 s3:t3 ∉ [z,TO,i1,i2,i3]
structure Zip3 (h:Heap) (z TI TO i1 i2 i3 t1 t2 t3:Addr) (xs ys zs:Array Value) (f0:Value) (k:Nat):Prop where
 hz:IsZip h z TI TO f0
 hTI:aaU h TI (.ref i1) (.ref i2) (.ref i3)
 hTO:∃ a b c,aaU h TO a b c
 g1:h.IsTupleIter i1 t1 k
 g2:h.IsTupleIter i2 t2 k
 g3:h.IsTupleIter i3 t3 k
 a1:h.IsTuple t1 xs
 a2:h.IsTuple t2 ys
 a3:h.IsTuple t3 zs
noncomputable def But (l:List Addr) (h h':Heap):Prop:=∀ b o,b ∉ l->h.get? b=some o->h'.get? b=some o
theorem But.of {b:Addr}{l:List Addr}{h h':Heap} (x:Heap.ExtBut b h h') (hb:b ∈ l):But l h h':=fun c o hc e=>x c o (fun z=>hc (by rw [z]; exact hb)) e
theorem But.trans {l:List Addr}{h h1 h2:Heap} (a:But l h h1) (b:But l h1 h2):But l h h2:=fun c o hc e=>b c o hc (a c o hc e)
theorem ajQ {z TI TO i1 i2 i3 t1 t2 t3:Addr}{xs ys zs:Array Value}{k:Nat}{x y v:Value}{Q:Value->SP0} (D:Apart3 z TI TO i1 i2 i3 t1 t2 t3) (S:Zip3 s.heap z TI TO i1 i2 i3 t1 t2 t3 xs ys zs .none k)
  (hx:xs[k]?=some x) (hy:ys[k]?=some y) (hv:zs[k]?=some v)
  (hQ:∀ h',Zip3 h' z TI TO i1 i2 i3 t1 t2 t3 xs ys zs (rawInt s.heap.objs.size) (k+1)->aaU h' s.heap.objs.size x y v->But [z,TO,i1,i2,i3] s.heap h'->Q (.ref s.heap.objs.size) { s with heap:=h' }):
  wpAny (model prog w) A (Builtin.«zip.__next__» ⟨[.ref z],[]⟩) (fun fin s'=>∃ v,fin= .done (.ret v)/\Q v s') E s:=by
 obtain ⟨hz,hTI,⟨a,b,c,hTO⟩,g1,g2,g3,a1,a2,a3⟩:=S
 obtain ⟨nd,ti,s1,s2,s3⟩:=D
 simp only [List.nodup_cons,List.mem_cons,List.not_mem_nil,or_false,not_or] at nd ti s1 s2 s3
 obtain ⟨⟨n1,n2,n3,n4⟩,⟨n5,n6,n7⟩,⟨n8,n9⟩,n10,_⟩:=nd
 obtain ⟨t1z,t1o,t11,t12,t13⟩:=s1
 obtain ⟨t2z,t2o,t21,t22,t23⟩:=s2
 obtain ⟨t3z,t3o,t31,t32,t33⟩:=s3
 obtain ⟨tiz,tio,ti1,ti2,ti3⟩:=ti
 refine wpAny_bind (m:=field (.ref z) 2) (wpAny_field hz rfl (x:= .bool false) rfl ?_)
 refine wpAny_bind (m:=field (.ref z) 3) (wpAny_field hz rfl (x:= .ref TI) rfl ?_)
 refine wpAny_bind (wpAny_seqItems hTI rfl ?_)
 refine wpAny_bind (m:=Builtin.SmallTypes.ownedTupleIsFree (.ref z)) ?_
 unfold Builtin.SmallTypes.ownedTupleIsFree
 refine wpAny_bind (wpAny_field hz rfl (x:= .none) rfl (wpAny_pure ?_))
 simp only [zzM]
 refine wpAny_bind (wpAny_rule ?_)
 refine wpAny_bind (wpAny_field hz rfl (x:= .ref TO) rfl ?_)
 refine wpAny_bind (wpAny_setField_rec hz (by simp) fun h1 hz1 b1=>?_)
 replace hz1:IsZip h1 z TI TO .ellipsis:=hz1
 refine wpAny_bind ?_
 simp only [List.zipIdx_cons,List.zipIdx_nil,List.forIn_cons,List.forIn_nil]
 refine wpAny_bind (wpAny_bind (wpAny_onRaise ?_))
 refine wpAny_bind (m:=Builtin.SmallTypes.nextOf (.ref i1)) ?_
 refine aax (g1.extBut b1.extBut (Ne.symm n2)) (a1.extBut b1.extBut t1z) hx fun h2 g1' b2=>wpAny_pure ?_
 have o2:aaU h2 TO a b c:=b2.extBut _ _ n5 (b1.extBut _ _ (Ne.symm n1) hTO)
 refine wpAny_bind (wpAny_seqItems o2 rfl ?_)
 refine wpAny_bind (ac8 o2 fun h3 o3 b3=>?_)
 replace o3:aaU h3 TO x b c:=o3
 refine wpAny_bind (wpAny_letGo (wpAny_pure ?_))
 refine wpAny_bind (wpAny_bind (wpAny_onRaise ?_))
 refine wpAny_bind (m:=Builtin.SmallTypes.nextOf (.ref i2)) ?_
 refine aax (((g2.extBut b1.extBut (Ne.symm n3)).extBut b2.extBut (Ne.symm n8)).extBut b3.extBut (Ne.symm n6)) (((a2.extBut b1.extBut t2z).extBut b2.extBut t21).extBut b3.extBut t2o) hy fun h4 g2' b4=>wpAny_pure ?_
 have o4:aaU h4 TO x b c:=b4.extBut _ _ n6 o3
 refine wpAny_bind (wpAny_seqItems o4 rfl ?_)
 refine wpAny_bind (ac8 o4 fun h5 o5 b5=>?_)
 replace o5:aaU h5 TO x y c:=o5
 refine wpAny_bind (wpAny_letGo (wpAny_pure ?_))
 refine wpAny_bind (wpAny_bind (wpAny_onRaise ?_))
 refine wpAny_bind (m:=Builtin.SmallTypes.nextOf (.ref i3)) ?_
 refine aax (((((g3.extBut b1.extBut (Ne.symm n4)).extBut b2.extBut (Ne.symm n9)).extBut b3.extBut (Ne.symm n7)).extBut b4.extBut (Ne.symm n10)).extBut b5.extBut (Ne.symm n7))
  (((((a3.extBut b1.extBut t3z).extBut b2.extBut t31).extBut b3.extBut t3o).extBut b4.extBut t32).extBut b5.extBut t3o) hv fun h6 g3' b6=>wpAny_pure ?_
 have o6:aaU h6 TO x y c:=b6.extBut _ _ n7 o5
 refine wpAny_bind (wpAny_seqItems o6 rfl ?_)
 refine wpAny_bind (ac8 o6 fun h7 o7 b7=>?_)
 replace o7:aaU h7 TO x y v:=o7
 refine wpAny_bind (wpAny_letGo (wpAny_pure (wpAny_pure ?_)))
 refine wpAny_bind (wpAny_seqItems o7 rfl ?_)
 refine wpAny_bind (wpAny_newTuple ?_)
 have sz:h7.objs.size=s.heap.objs.size:=by rw [b7.1,b6.1,b5.1,b4.1,b3.1,b2.1,b1.1]
 have B:But [z,TO,i1,i2,i3] s.heap h7:=
  ((((((But.of b1.extBut (by simp)).trans (But.of b2.extBut (by simp))).trans (But.of b3.extBut (by simp))).trans (But.of b4.extBut (by simp))).trans (But.of b5.extBut (by simp))).trans (But.of b6.extBut (by simp))).trans (But.of b7.extBut (by simp))
 have z7:IsZip h7 z TI TO .ellipsis:=b7.extBut _ _ n1 (b6.extBut _ _ n4 (b5.extBut _ _ n1 (b4.extBut _ _ n3 (b3.extBut _ _ n1 (b2.extBut _ _ n2 hz1)))))
 have i17:h7.IsTupleIter i1 t1 (k+1):=((((g1'.extBut b3.extBut (Ne.symm n5)).extBut b4.extBut n8).extBut b5.extBut (Ne.symm n5)).extBut b6.extBut n9).extBut b7.extBut (Ne.symm n5)
 have i27:h7.IsTupleIter i2 t2 (k+1):=((g2'.extBut b5.extBut (Ne.symm n6)).extBut b6.extBut n10).extBut b7.extBut (Ne.symm n6)
 have i37:h7.IsTupleIter i3 t3 (k+1):=g3'.extBut b7.extBut (Ne.symm n7)
 refine wpAny_bind (m:=Builtin.SmallTypes.ownedTupleHandOut (.ref z) (.ref h7.objs.size)) ?_
 unfold Builtin.SmallTypes.ownedTupleHandOut
 have z8:IsZip (h7.push { cls:= .type "tuple",data:= .seq #[x,y,v] }) z TI TO .ellipsis:=Heap.get?_push_of_some _ z7
 refine wpAny_bind (wpAny_setField_rec z8 (by simp) fun h9 z9 b9=>?_)
 replace z9:IsZip h9 z TI TO (rawInt h7.objs.size):=z9
 refine wpAny_setField_rec z9 (by simp) fun h10 z10 b10=>?_
 replace z10:IsZip h10 z TI TO (rawInt h7.objs.size):=z10
 have up:∀ c o,c ≠ z->h7.get? c=some o->h10.get? c=some o:=fun c o c1 e=>b10.extBut _ _ c1 (b9.extBut _ _ c1 (Heap.get?_push_of_some _ e))
 have zlt:z<h7.objs.size:=Heap.lt_size z7
 have T10:aaU h10 h7.objs.size x y v:=b10.extBut _ _ (Nat.ne_of_gt zlt) (b9.extBut _ _ (Nat.ne_of_gt zlt) (Heap.get?_push_size _ rfl))
 rw [sz] at z10 T10
 refine wpAny_pure ⟨_,rfl,?_⟩
 show Q (.ref h7.objs.size) _
 rw [sz]
 have itk:∀ {i t:Addr} {m:Nat},i ≠ z->h7.IsTupleIter i t m->h10.IsTupleIter i t m:=fun ne ⟨o,e,r⟩=>⟨o,up _ o ne e,r⟩
 have tuk:∀ {t:Addr} {us:Array Value},t ∉ [z,TO,i1,i2,i3]->s.heap.IsTuple t us->h10.IsTuple t us:=fun ne ⟨o,e,r⟩=>⟨o,up _ o (fun q=>ne (by simp [q])) (B _ o ne e),r⟩
 refine hQ h10 ⟨z10,up _ _ tiz (B _ _ (by simp [tiz,tio,ti1,ti2,ti3]) hTI),⟨x,y,v,up _ _ (Ne.symm n1) o7⟩,itk (Ne.symm n2) i17,itk (Ne.symm n3) i27,itk (Ne.symm n4) i37,
  tuk (by simp [t1z,t1o,t11,t12,t13]) a1,tuk (by simp [t2z,t2o,t21,t22,t23]) a2,tuk (by simp [t3z,t3o,t31,t32,t33]) a3⟩ T10 fun c o hc e=>up c o (fun q=>hc (by simp [q])) (B c o hc e)
theorem alh {z TI TO i1 i2 i3 t1 t2 t3:Addr}{xs ys zs:Array Value}{k:Nat}{Q:Fin->SP0} (hh:A.handled=none) (D:Apart3 z TI TO i1 i2 i3 t1 t2 t3) (S:Zip3 s.heap z TI TO i1 i2 i3 t1 t2 t3 xs ys zs .none k) (hx:xs[k]?=none)
  (hE:∀ h' e,But [z,TO,i1,i2,i3] s.heap h'->(∃ o,h'.get? e=some o/\o.cls= .type "StopIteration")->E (.ref e) { s with heap:=h' }):
  wpAny (model prog w) A (Builtin.«zip.__next__» ⟨[.ref z],[]⟩) Q E s:=by
 obtain ⟨hz,hTI,⟨a,b,c,hTO⟩,g1,g2,g3,a1,a2,a3⟩:=S
 obtain ⟨nd,ti,s1,s2,s3⟩:=D
 simp only [List.nodup_cons,List.mem_cons,List.not_mem_nil,or_false,not_or] at nd ti s1 s2 s3
 obtain ⟨⟨n1,n2,n3,n4⟩,⟨n5,n6,n7⟩,⟨n8,n9⟩,n10,_⟩:=nd
 refine wpAny_bind (m:=field (.ref z) 2) (wpAny_field hz rfl (x:= .bool false) rfl ?_)
 refine wpAny_bind (m:=field (.ref z) 3) (wpAny_field hz rfl (x:= .ref TI) rfl ?_)
 refine wpAny_bind (wpAny_seqItems hTI rfl ?_)
 refine wpAny_bind (m:=Builtin.SmallTypes.ownedTupleIsFree (.ref z)) ?_
 unfold Builtin.SmallTypes.ownedTupleIsFree
 refine wpAny_bind (wpAny_field hz rfl (x:= .none) rfl (wpAny_pure ?_))
 simp only [zzM]
 refine wpAny_bind (wpAny_rule ?_)
 refine wpAny_bind (wpAny_field hz rfl (x:= .ref TO) rfl ?_)
 refine wpAny_bind (wpAny_setField_rec hz (by simp) fun h1 hz1 b1=>?_)
 replace hz1:IsZip h1 z TI TO .ellipsis:=hz1
 refine wpAny_bind ?_
 simp only [List.zipIdx_cons,List.zipIdx_nil,List.forIn_cons,List.forIn_nil]
 refine wpAny_bind (wpAny_bind (wpAny_onRaise ?_))
 refine wpAny_bind (m:=Builtin.SmallTypes.nextOf (.ref i1)) ?_
 refine ajP hh (g1.extBut b1.extBut (Ne.symm n2)) (a1.extBut b1.extBut s1.1) hx fun h2 e b2 he=>?_
 obtain ⟨oe,ho,hc⟩:=he
 have z2:IsZip h2 z TI TO .ellipsis:=b2 _ _ n2 hz1
 have ez:e ≠ z:=fun q=>by subst q; rw [z2] at ho; cases ho; simp at hc
 refine wpAny_setField_rec z2 (by simp) fun h3 _ b3=>?_
 exact hE h3 e (((But.of b1.extBut (by simp)).trans (But.of b2 (by simp))).trans (But.of b3.extBut (by simp))) ⟨oe,b3.extBut _ _ ez ho,hc⟩
end
structure ZipC (h:Heap) (z TI TO i1 i2 i3 t1 t2 t3:Addr) (f0:Value) (k:Nat):Prop where
 hz:IsZip h z TI TO f0
 hTI:aaU h TI (.ref i1) (.ref i2) (.ref i3)
 hTO:∃ a b c,aaU h TO a b c
 g1:h.IsTupleIter i1 t1 k
 g2:h.IsTupleIter i2 t2 k
 g3:h.IsTupleIter i3 t3 k
theorem ZipC.all {h:Heap}{z TI TO i1 i2 i3 t1 t2 t3:Addr}{f0:Value}{k:Nat} (S:ZipC h z TI TO i1 i2 i3 t1 t2 t3 f0 k) {xs ys zs:Array Value} (a1:h.IsTuple t1 xs) (a2:h.IsTuple t2 ys) (a3:h.IsTuple t3 zs):
  Zip3 h z TI TO i1 i2 i3 t1 t2 t3 xs ys zs f0 k:=⟨S.hz,S.hTI,S.hTO,S.g1,S.g2,S.g3,a1,a2,a3⟩
theorem Zip3.c {h:Heap}{z TI TO i1 i2 i3 t1 t2 t3:Addr}{xs ys zs:Array Value}{f0:Value}{k:Nat} (S:Zip3 h z TI TO i1 i2 i3 t1 t2 t3 xs ys zs f0 k):ZipC h z TI TO i1 i2 i3 t1 t2 t3 f0 k:=⟨S.hz,S.hTI,S.hTO,S.g1,S.g2,S.g3⟩
theorem ZipC.keep {h h':Heap}{z TI TO i1 i2 i3 t1 t2 t3:Addr}{f0:Value}{k:Nat} (S:ZipC h z TI TO i1 i2 i3 t1 t2 t3 f0 k) (kp:∀ b ∈ [z,TI,TO,i1,i2,i3],∀ o,h.get? b=some o->h'.get? b=some o):
  ZipC h' z TI TO i1 i2 i3 t1 t2 t3 f0 k:=by
 obtain ⟨hz,hTI,⟨a,b,c,hTO⟩,⟨o1,e1,r1⟩,⟨o2,e2,r2⟩,⟨o3,e3,r3⟩⟩:=S
 exact ⟨kp z (by simp) _ hz,kp TI (by simp) _ hTI,⟨a,b,c,kp TO (by simp) _ hTO⟩,⟨o1,kp i1 (by simp) _ e1,r1⟩,⟨o2,kp i2 (by simp) _ e2,r2⟩,⟨o3,kp i3 (by simp) _ e3,r3⟩⟩
noncomputable def Itz (K:Fg) (t1 t2 t3:Addr):It:=
 ⟨fun i H=>∃ xs ys zs x y v,SqT K H t1 xs/\SqT K H t2 ys/\SqT K H t3 zs/\xs[i]?=some x/\ys[i]?=some y/\zs[i]?=some v,
  fun i H u H'=>∃ p x y v,u= .ref p/\H p=none/\H'=upd H p (.tup [x,y,v])/\∀ xs ys zs,SqT K H t1 xs->SqT K H t2 ys->SqT K H t3 zs->xs[i]?=some x/\ys[i]?=some y/\zs[i]?=some v,
  fun i H=>∃ xs ys zs,SqT K H t1 xs/\SqT K H t2 ys/\SqT K H t3 zs/\xs.length<=i⟩
theorem ali {P:Program}{w:World}{K:Fg}{elts:List Expr}{x1:Nat}{pos:Pos}{z TI TO i1 i2 i3 t1 t2 t3:Addr} (nd:[z,TO,i1,i2,i3].Nodup) (ti:TI ∉ [z,TO,i1,i2,i3]):
  Turn P w K (.Tuple elts x1 pos) (Itz K t1 t2 t3) [z,TI,TO,i1,i2,i3] z (fun i h=>ZipC h z TI TO i1 i2 i3 t1 t2 t3 .none i) where
 mem:=by simp
 obj:=fun i h st b hb=>by
  obtain ⟨hz,hTI,⟨a,b',c,hTO⟩,⟨o1,e1,_,d1⟩,⟨o2,e2,_,d2⟩,⟨o3,e3,_,d3⟩⟩:=st
  simp only [List.mem_cons,List.not_mem_nil,or_false] at hb
  rcases hb with rfl | rfl | rfl | rfl | rfl | rfl
  ·exact ⟨_,hz,fun v q=>by cases q⟩
  ·exact ⟨_,hTI,fun v q=>by cases q⟩
  ·exact ⟨_,hTO,fun v q=>by cases q⟩
  ·exact ⟨o1,e1,fun v q=>by rw [d1] at q; cases q⟩
  ·exact ⟨o2,e2,fun v q=>by rw [d2] at q; cases q⟩
  ·exact ⟨o3,e3,fun v q=>by rw [d3] at q; cases q⟩
 keep:=fun i h h' st k=>st.keep k
 item:=by
  intro X hP hw hK hc i Kp s σ H E I hf st hg
  subst hP hw hK
  obtain ⟨xs,ys,zs,x,y,v,q1,q2,q3,ex,ey,ev⟩:=hg
  obtain ⟨us1,r1,p1,z1⟩:=I.tuple q1
  obtain ⟨us2,r2,p2,z2⟩:=I.tuple q2
  obtain ⟨us3,r3,p3,z3⟩:=I.tuple q3
  obtain ⟨u1,m1,l1⟩:=r1.get ex
  obtain ⟨u2,m2,l2⟩:=r2.get ey
  obtain ⟨u3,m3,l3⟩:=r3.get ev
  have trk:∀ {t:Addr} {ws:List V},SqT X.K H t ws->t ∉ [z,TO,i1,i2,i3]:=fun {t ws} hq hb=>by
   have hb':t ∈ [z,TI,TO,i1,i2,i3]:=by
    simp only [List.mem_cons,List.not_mem_nil,or_false] at hb ⊢
    rcases hb with e | e | e | e | e <;> simp [e]
   rcases hq with (e | ⟨o,e⟩) | ⟨o,its,n,hk,hcl,hs,_,_⟩
   ·have:=(hf t hb').1; rw [e] at this; cases this
   ·have:=(hf t hb').1; rw [e] at this; cases this
   ·-- an object of the module is no iterator of ours
    obtain ⟨f0,f1,f2,f3,f4,f5⟩:=hf t hb'
    have hbase:=I.mod.kin t o hk
    rcases f3 with q | q
    ·exact I.ok.noex t o hbase q
    ·exact absurd (Nat.lt_of_lt_of_le (Heap.lt_size hbase) (Nat.le_trans I.ok.bsz q)) (Nat.lt_irrefl _)
  have D:Apart3 z TI TO i1 i2 i3 t1 t2 t3:=⟨nd,ti,trk q1,trk q2,trk q3⟩
  have S:=st.all (xs:=us1.toArray) (ys:=us2.toArray) (zs:=us3.toArray) p1 p2 p3
  have hT:s.TypeIs (.ref z) "zip":=⟨_,st.hz,rfl⟩
  unfold pyNext
  refine wpAny_bind (wpAny_attempt (wpAny_callSpecial?_slot (name:=Str.ofString "__next__") hT F.slot_zip_next
   (wpAny_call_entry F.slot_zip_next hT F.entry_zip_next (ajQ D S (by simpa using m1) (by simpa using m2) (by simpa using m3) fun h1 S1 T1 B1=>wpAny_pure ?_)
    (F.args_zip_next_1 _))))
  refine ⟨_,rfl,?_⟩
  refine wpAny_letOwnedTupleGo_zip (s:={ s with heap:=h1 }) S1.hz fun h2 z2' b2=>?_
  have nT:H s.heap.objs.size=none:=I.hok.fresh (Nat.le_refl _)
  have zlt:z<s.heap.objs.size:=Heap.lt_size st.hz
  have T2:aaU h2 s.heap.objs.size u1 u2 u3:=b2.extBut _ _ (Nat.ne_of_gt zlt) T1
  have B2:But [z,TO,i1,i2,i3] s.heap h2:=B1.trans (But.of b2.extBut (by simp))
  have inF:∀ b ∈ [z,TO,i1,i2,i3],b ∈ [z,TI,TO,i1,i2,i3]:=fun b hb=>by
   simp only [List.mem_cons,List.not_mem_nil,or_false] at hb ⊢
   rcases hb with e | e | e | e | e <;> simp [e]
  have ntr:∀ b u,H b=some u->b ∉ [z,TO,i1,i2,i3]:=fun b u e hb=>by
   have:=(hf b (inF b hb)).1
   rw [e] at this; cases this
  have neT:∀ b u,H b=some u->b ≠ s.heap.objs.size:=fun b u e q=>by rw [q,nT] at e; cases e
  have hok2:HOk X.prog X.w (upd H s.heap.objs.size (.tup [x,y,v])) h2:=fun b u e=>by
   by_cases hb:b=s.heap.objs.size
   ·subst hb
    rw [jn] at e
    cases e
    exact ⟨by show 3<=sizeLine; rw [sizeLine_eq]; decide,[u1,u2,u3],.cons l1 (.cons l2 (.cons l3 .nil)),⟨_,T2,rfl,_,rfl⟩⟩
   ·rw [jp hb] at e
    refine (I.hok b u e).stay (fun c o hc' q=>B2 c o ?_ q) (fun c q=>by rw [jp (neT c _ q)]; exact q) fun c ws q=>by rw [jp (neT c _ q)]; exact q
    rcases hc' with q' | q'
    ·rw [q']; exact ntr b u e
    ·exact ntr c _ q'
  have I2:Inv X Kp σ (upd H s.heap.objs.size (.tup [x,y,v])) { s with heap:=h2,toks:=s.toks }:=by
   refine I.step (g':=s.gens) (d':=s.drawn) (ch:=[z,TO,i1,i2,i3]) (fun b hb=>?_) (fun b o _ _ hb e _=>B2 b o hb e) (fun b o _ _ hb e _=>⟨o.slots,B2 b o hb e⟩) (fun b o hb e n=>?_) (fun b o hb e=>⟨o,B2 b o hb e⟩)
    (fun b ws e=>by rw [jp (neT b _ e)]; exact e) (fun b ob ws e=>by rw [jp (neT b _ e)]; exact e) (fun b ps e=>⟨#[],by rw [jp (neT b _ e),e]; simp⟩) (fun m hm=>?_) hok2 I.bare
   ·obtain ⟨f0,f1,f2,f3,f4,f5⟩:=hf b (inF b hb)
    exact ⟨f3,f1,f4,f5⟩
   ·rw [jp (Nat.ne_of_lt (Heap.lt_size e))]; exact n
   ·obtain ⟨o,es,ep,ho,r⟩:=hm
    refine ⟨o,es,ep,B2 _ o (fun hb=>?_) ho,r⟩
    exact (hf _ (inF _ hb)).2.1 rfl
  refine ⟨.ref s.heap.objs.size,_,I2,rfl,⟨_,x,y,v,rfl,nT,rfl,fun as bs cs g1 g2 g3=>?_⟩,?_,fun b hb=>?_⟩
  ·rw [I.tuple_inj g1 q1,I.tuple_inj g2 q2,I.tuple_inj g3 q3]
   exact ⟨ex,ey,ev⟩
  ·have c1:=S1.c
   obtain ⟨_,hTI,⟨a,b,c,hTO⟩,⟨o1,e1,w1⟩,⟨o2,e2,w2⟩,⟨o3,e3,w3⟩⟩:=c1
   simp only [List.nodup_cons,List.mem_cons,List.not_mem_nil,or_false,not_or] at nd ti
   obtain ⟨⟨n1,n2,n3,n4⟩,_⟩:=nd
   exact ⟨z2',b2.extBut _ _ ti.1 hTI,⟨a,b,c,b2.extBut _ _ (Ne.symm n1) hTO⟩,⟨o1,b2.extBut _ _ (Ne.symm n2) e1,w1⟩,⟨o2,b2.extBut _ _ (Ne.symm n3) e2,w2⟩,⟨o3,b2.extBut _ _ (Ne.symm n4) e3,w3⟩⟩
  ·obtain ⟨o,ho,_⟩:∃ o,s.heap.get? b=some o/\True:=by
    obtain ⟨hz,hTI,⟨a,b',c,hTO⟩,⟨o1,e1,_⟩,⟨o2,e2,_⟩,⟨o3,e3,_⟩⟩:=st
    simp only [List.mem_cons,List.not_mem_nil,or_false] at hb
    rcases hb with rfl | rfl | rfl | rfl | rfl | rfl
    ·exact ⟨_,hz,trivial⟩
    ·exact ⟨_,hTI,trivial⟩
    ·exact ⟨_,hTO,trivial⟩
    ·exact ⟨_,e1,trivial⟩
    ·exact ⟨_,e2,trivial⟩
    ·exact ⟨_,e3,trivial⟩
   rw [jp (Nat.ne_of_lt (Heap.lt_size ho))]
   exact (hf b hb).1
 done:=by
  intro X hP hw hK hc i Kp s σ H E I hf st hg
  subst hP hw hK
  obtain ⟨xs,ys,zs,q1,q2,q3,hl⟩:=hg
  obtain ⟨us1,r1,p1,z1⟩:=I.tuple q1
  obtain ⟨us2,r2,p2,z2⟩:=I.tuple q2
  obtain ⟨us3,r3,p3,z3⟩:=I.tuple q3
  have trk:∀ {t:Addr} {ws:List V},SqT X.K H t ws->t ∉ [z,TO,i1,i2,i3]:=fun {t ws} hq hb=>by
   have hb':t ∈ [z,TI,TO,i1,i2,i3]:=by
    simp only [List.mem_cons,List.not_mem_nil,or_false] at hb ⊢
    rcases hb with e | e | e | e | e <;> simp [e]
   rcases hq with (e | ⟨o,e⟩) | ⟨o,its,n,hk,hcl,hs,_,_⟩
   ·have:=(hf t hb').1; rw [e] at this; cases this
   ·have:=(hf t hb').1; rw [e] at this; cases this
   ·obtain ⟨f0,f1,f2,f3,f4,f5⟩:=hf t hb'
    have hbase:=I.mod.kin t o hk
    rcases f3 with q | q
    ·exact I.ok.noex t o hbase q
    ·exact absurd (Nat.lt_of_lt_of_le (Heap.lt_size hbase) (Nat.le_trans I.ok.bsz q)) (Nat.lt_irrefl _)
  have D:Apart3 z TI TO i1 i2 i3 t1 t2 t3:=⟨nd,ti,trk q1,trk q2,trk q3⟩
  have S:=st.all (xs:=us1.toArray) (ys:=us2.toArray) (zs:=us3.toArray) p1 p2 p3
  have hT:s.TypeIs (.ref z) "zip":=⟨_,st.hz,rfl⟩
  have hlen:=r1.length
  unfold pyNext
  refine wpAny_bind (wpAny_attempt (wpAny_callSpecial?_slot (name:=Str.ofString "__next__") hT F.slot_zip_next
   (wpAny_call_entry F.slot_zip_next hT F.entry_zip_next (alh (I.ok.hd hc) D S (by simp; omega) fun h1 e B1 he=>?_)
    (F.args_zip_next_1 _))))
  obtain ⟨o,ho,hcl⟩:=he
  refine wpAny_bind (wpAny_isInstance (T:="StopIteration") (b:=true) ⟨o,ho,hcl⟩ isSubtype_stop ?_)
  refine wpAny_pure ⟨rfl,?_⟩
  have inF:∀ b ∈ [z,TO,i1,i2,i3],b ∈ [z,TI,TO,i1,i2,i3]:=fun b hb=>by
   simp only [List.mem_cons,List.not_mem_nil,or_false] at hb ⊢
   rcases hb with e | e | e | e | e <;> simp [e]
  have ntr:∀ b u,H b=some u->b ∉ [z,TO,i1,i2,i3]:=fun b u e hb=>by
   have:=(hf b (inF b hb)).1
   rw [e] at this; cases this
  refine I.step (t':=s.toks) (g':=s.gens) (d':=s.drawn) (ch:=[z,TO,i1,i2,i3]) (fun b hb=>?_) (fun b o _ _ hb e _=>B1 b o hb e) (fun b o _ _ hb e _=>⟨o.slots,B1 b o hb e⟩) (fun b o hb e n=>n) (fun b o hb e=>⟨o,B1 b o hb e⟩)
   (fun b ws e=>e) (fun b ob ws e=>e) (fun b ps e=>⟨#[],by rw [e]; simp⟩) (fun m hm=>?_) (fun b u e=>?_) I.bare
  ·obtain ⟨f0,f1,f2,f3,f4,f5⟩:=hf b (inF b hb)
   exact ⟨f3,f1,f4,f5⟩
  ·obtain ⟨o,es,ep,ho,r⟩:=hm
   refine ⟨o,es,ep,B1 _ o (fun hb=>?_) ho,r⟩
   exact (hf _ (inF _ hb)).2.1 rfl
  ·refine (I.hok b u e).stay (fun c o hc' q=>B1 c o ?_ q) (fun c q=>q) fun c ws q=>q
   rcases hc' with q' | q'
   ·rw [q']; exact ntr b u e
   ·exact ntr c _ q'
 self:=fun _ _ _ _ _ st h=>wpAny_pyIter_zip st.hz h
theorem ad2 (a b c:Value):checkTypeCall "zip" ⟨[a,b,c],[]⟩=pure ():=by kernel_rfl
theorem afp (a b c:Value):checkBuiltinCall "zip.__new__" ⟨[.type "zip",a,b,c],[]⟩=pure ():=by kernel_rfl
theorem ahH (a b c d:Value):argsOk "object.__init__" ⟨[a,b,c,d],[]⟩:=by
 unfold argsOk
 rw [signature?_of (id:="object.__init__") (n:=['_','_','t','i','n','i','_','_'])
  (o:=['t','c','e','j','b','o']) (by kernel_rfl) F.owner_object]
 kernel_rfl
noncomputable abbrev apK (t:Addr):Obj:={ cls:= .type "tuple_iterator",data:= .fields #[.ref t,.int 0 0] }
noncomputable abbrev zh1 (h:Heap) (a:Addr):Heap:=h.push (apK a)
noncomputable abbrev zh2 (h:Heap) (a b:Addr):Heap:=(zh1 h a).push (apK b)
noncomputable abbrev zh3 (h:Heap) (a b c:Addr):Heap:=(zh2 h a b).push (apK c)
noncomputable abbrev zh4 (h:Heap) (a b c:Addr):Heap:=(zh3 h a b c).push { cls:= .type "tuple",data:= .seq #[.ref h.objs.size,.ref (zh1 h a).objs.size,.ref (zh2 h a b).objs.size] }
noncomputable abbrev zh5 (h:Heap) (a b c:Addr):Heap:=(zh4 h a b c).push { cls:= .type "tuple",data:= .seq #[.none,.none,.none] }
noncomputable abbrev zh6 (h:Heap) (a b c:Addr):Heap:=(zh5 h a b c).push { cls:= .type "zip",data:= .fields #[.none,.bool false,.bool false,.ref (zh3 h a b c).objs.size,.ref (zh4 h a b c).objs.size] }
theorem alj (a b c:Addr) (xs ys zs:Array Value):
  Meets (Builtin.«zip.__new__» ⟨[.type "zip",.ref a,.ref b,.ref c],[]⟩) (fun _ R s=>s.heap.IsTuple a xs/\s.heap.IsTuple b ys/\s.heap.IsTuple c zs/\
   R (.ok (.ret (.ref (zh5 s.heap a b c).objs.size))) { s with heap:=zh6 s.heap a b c }):=
 .of_wp fun prog w A R s h=>by
  obtain ⟨hp,g,d,tk,os⟩:=s
  obtain ⟨h1,h2,h3,h⟩:=h
  have hsub:=sub_zip
  have k1:Heap.IsTuple (Shared.heap ⟨hp,g,d,tk,os⟩) a xs:=h1
  have k2:Heap.IsTuple (Shared.heap ⟨zh1 hp a,g,d,tk,os⟩) b ys:=Heap.IsTuple.push h2 _
  have k3:Heap.IsTuple (Shared.heap ⟨zh2 hp a b,g,d,tk,os⟩) c zs:=Heap.IsTuple.push (Heap.IsTuple.push h3 _) _
  wp_walk using wpAny_pyIter_tuple k1,wpAny_pyIter_tuple k2,wpAny_pyIter_tuple k3
  exact ⟨_,rfl,h⟩
section
variable {X:Cx}
noncomputable def ark (K:Fg) (ta:TA):TI:=fun σ H R=>ta σ H fun vs H1=>∃ a b c xs ys zs,vs=[.ref a,.ref b,.ref c]/\SqT K H1 a xs/\SqT K H1 b ys/\SqT K H1 c zs/\R (Itz K a b c) H1
theorem anv {ea eb ec:Expr}{elts:List Expr}{x1:Nat}{tp:Pos}{ta:TA}{p pos:Pos} (hg:Gl X "zip") (hm:X.mg "zip"=none) (ha:PA X [ea,eb,ec] ta)
  (hs:starEach [ea,eb,ec] X.env=[(false,eval ea X.env),(false,eval eb X.env),(false,eval ec X.env)]:=by rfl) (hs2:starEach [eb,ec] X.env=[(false,eval eb X.env),(false,eval ec X.env)]:=by rfl):
  PI X (.Tuple elts x1 tp) (.Call (.Name "zip" p) [ea,eb,ec] [] pos) (ark X.K ta):=by
 intro Kp s σ H R I h
 refine Call_ (aas I hg hm boot_zip (PyProof.Rows.callWith_type1 (thn (ha pos Kp s σ H _ I h) fun us s1 ⟨vs,H1,I1,r1,q1⟩=>?_) (by rw [hs,hs2]) (by rw [hs2]; rfl)))
 obtain ⟨a,b,c,xs,ys,zs,e,q1,q2,q3,q⟩:=q1
 subst e
 cases r1 with
 | cons r1 rr=>
  cases rr with
  | cons r2 rr=>
   cases rr with
   | cons r3 rr=>
    cases rr
    cases r1; cases r2; cases r3
    obtain ⟨us1,v1,p1,z1⟩:=I1.tuple q1
    obtain ⟨us2,v2,p2,z2⟩:=I1.tuple q2
    obtain ⟨us3,v3,p3,z3⟩:=I1.tuple q3
    refine callType_new F.called_zip (by decide) (ad2 _ _ _) (afp _ _ _) (fun obj=>ahH obj _ _ _) F.entry_zip_new
     (alj a b c us1.toArray us2.toArray us3.toArray) ⟨p1,p2,p3,?_⟩
    have n1:(zh1 s1.heap a).objs.size=s1.heap.objs.size+1:=Heap.size_push ..
    have n2:(zh2 s1.heap a b).objs.size=s1.heap.objs.size+2:=by rw [Heap.size_push,n1]
    have n3:(zh3 s1.heap a b c).objs.size=s1.heap.objs.size+3:=by rw [Heap.size_push,n2]
    have n4:(zh4 s1.heap a b c).objs.size=s1.heap.objs.size+4:=by rw [Heap.size_push,n3]
    have n5:(zh5 s1.heap a b c).objs.size=s1.heap.objs.size+5:=by rw [Heap.size_push,n4]
    have g6:(zh6 s1.heap a b c).get? (zh5 s1.heap a b c).objs.size=some _:=Heap.get?_push_size _ rfl
    have g5:(zh6 s1.heap a b c).get? (zh4 s1.heap a b c).objs.size=some _:=Heap.get?_push_of_some _ (Heap.get?_push_size _ rfl)
    have g4:(zh6 s1.heap a b c).get? (zh3 s1.heap a b c).objs.size=some _:=Heap.get?_push_of_some _ (Heap.get?_push_of_some _ (Heap.get?_push_size _ rfl))
    have up3:∀ x o,(zh3 s1.heap a b c).get? x=some o->(zh6 s1.heap a b c).get? x=some o:=fun x o e=>Heap.get?_push_of_some _ (Heap.get?_push_of_some _ (Heap.get?_push_of_some _ e))
    have g3:(zh6 s1.heap a b c).get? (zh2 s1.heap a b).objs.size=some _:=up3 _ _ (Heap.get?_push_size _ rfl)
    have g2:(zh6 s1.heap a b c).get? (zh1 s1.heap a).objs.size=some _:=up3 _ _ (Heap.get?_push_of_some _ (Heap.get?_push_size _ rfl))
    have g1:(zh6 s1.heap a b c).get? s1.heap.objs.size=some _:=up3 _ _ (Heap.get?_push_of_some _ (Heap.get?_push_of_some _ (Heap.get?_push_size _ rfl)))
    have kp:∀ x o,s1.heap.get? x=some o->(zh6 s1.heap a b c).get? x=some o:=fun x o e=>up3 _ _ (Heap.get?_push_of_some _ (Heap.get?_push_of_some _ (Heap.get?_push_of_some _ e)))
    show _/\_
    refine ⟨⟨_,g6,rfl⟩,?_⟩
    refine wpAny_pyIter_zip g6 ?_
    have I2:Inv X Kp σ H1 { s1 with heap:=zh6 s1.heap a b c }:=I1.kept (t':=s1.toks) kp
    refine ⟨_,[(zh5 s1.heap a b c).objs.size,(zh3 s1.heap a b c).objs.size,(zh4 s1.heap a b c).objs.size,s1.heap.objs.size,(zh1 s1.heap a).objs.size,(zh2 s1.heap a b).objs.size],
     _,_,H1,rfl,I2,ali (z:=(zh5 s1.heap a b c).objs.size) (TI:=(zh3 s1.heap a b c).objs.size) (TO:=(zh4 s1.heap a b c).objs.size) (i1:=s1.heap.objs.size) (i2:=(zh1 s1.heap a).objs.size) (i3:=(zh2 s1.heap a b).objs.size) (t1:=a) (t2:=b) (t3:=c) ?_ ?_,
     ⟨g6,g4,⟨_,_,_,g5⟩,⟨_,g1,rfl,rfl⟩,⟨_,g2,rfl,rfl⟩,⟨_,g3,rfl,rfl⟩⟩,fun x hx=>?_,q⟩
    ·rw [n5,n4,n1,n2]
     simp [List.nodup_cons]
    ·rw [n3,n5,n4,n1,n2]
     simp
    ·have hle:s1.heap.objs.size<=x:=by
      rw [n5,n3,n4,n1,n2] at hx
      simp only [List.mem_cons,List.not_mem_nil,or_false] at hx
      rcases hx with e | e | e | e | e | e <;> rw [e] <;> first | exact Nat.le_refl _ | exact Nat.le_add_right _ _
     exact I1.fpOk hle (I1.hok.fresh hle)
noncomputable def Zs:LP->LP->LP->LP
 | x::xs,y::ys,z::zs=> .tuple [x,y,z]::Zs xs ys zs
 | _,_,_=>[]
noncomputable def aiR (ds:LP):Option (LP):=match ds with
 | [.tuple xs,.tuple ys,.tuple zs]=>if xs.length=ys.length/\ys.length=zs.length then some (Zs xs ys zs) else none
 | _=>none
theorem aeq:∀ (xs ys zs:LP),xs.length=ys.length->ys.length=zs.length->(Zs xs ys zs).length=xs.length
 | [],_,_,_,_=>by simp [Zs]
 | x::xs,[],_,h,_=>by simp at h
 | x::xs,y::ys,[],_,h=>by simp at h
 | x::xs,y::ys,z::zs,h,g=>by simp [Zs,aeq xs ys zs (by simpa using h) (by simpa using g)]
theorem aer:∀ (xs ys zs:LP) (i:Nat) (d:PyData),(Zs xs ys zs)[i]?=some d->∃ x y z,xs[i]?=some x/\ys[i]?=some y/\zs[i]?=some z/\d= .tuple [x,y,z]
 | [],_,_,i,d,h=>by simp [Zs] at h
 | x::xs,[],_,i,d,h=>by simp [Zs] at h
 | x::xs,y::ys,[],i,d,h=>by simp [Zs] at h
 | x::xs,y::ys,z::zs,0,d,h=>by simp [Zs] at h; exact ⟨x,y,z,rfl,rfl,rfl,h.symm⟩
 | x::xs,y::ys,z::zs,i+1,d,h=>by
  obtain ⟨a,b,c,e1,e2,e3,e4⟩:=aer xs ys zs i d (by simpa [Zs] using h)
  exact ⟨a,b,c,by simpa using e1,by simpa using e2,by simpa using e3,e4⟩
theorem alk {ea eb ec:Expr}{elts:List Expr}{x1:Nat}{tp:Pos}{p pos:Pos}{fr:Rho->Option (LP)} (hm:X.mg "zip"=none) (ha:PAD X [ea,eb,ec] fr) (hg:Gl X "zip":=by rfl)
  (hs:starEach [ea,eb,ec] X.env=[(false,eval ea X.env),(false,eval eb X.env),(false,eval ec X.env)]:=by rfl) (hs2:starEach [eb,ec] X.env=[(false,eval eb X.env),(false,eval ec X.env)]:=by rfl):
  PID X (.Tuple elts x1 tp) (.Call (.Name "zip" p) [ea,eb,ec] [] pos) (fun ρ=>(fr ρ).bind aiR):=by
 with_unfolding_all
  refine PI.imp (anv hg hm ha hs hs2) fun σ H R ⟨ρ,ds,en,q,k⟩=>?_
  cases h1:fr ρ with
  | none=>simp [h1] at q
  | some as=>
   have q':aiR as=some ds:=by simpa [h1] using q
   refine ⟨ρ,as,en,h1,fun vs H1 s1 r1=>?_⟩
   unfold aiR at q'
   split at q'
   ·rename_i xs ys zs
    split at q'
    ·rename_i hl
     cases q'
     obtain ⟨v1,w1,e1,⟨a,us1,ea',qa,ra⟩,v2,w2,e2,⟨b,us2,eb',qb,rb⟩,v3,w3,e3,⟨c,us3,ec',qc,rc⟩,e4⟩:=r1
     cases (show w3=[] from e4)
     subst ea'; subst eb'; subst ec'; subst e3; subst e2
     have l1:=ra.length
     have l2:=rb.length
     have l3:=rc.length
     have lz:=aeq xs ys zs hl.1 hl.2
     refine ⟨a,b,c,us1,us2,us3,e1,qa,qb,qc,k _ H1 s1 fun i H2 s2=>⟨fun hi=>?_,fun hi=>?_,fun u H3 y=>?_⟩⟩
     ·rw [lz] at hi
      exact ⟨us1,us2,us3,us1[i]'(by omega),us2[i]'(by omega),us3[i]'(by omega),jG.tup s2 qa,jG.tup s2 qb,jG.tup s2 qc,by simp <;> omega,by simp <;> omega,by simp <;> omega⟩
     ·rw [lz] at hi
      exact ⟨us1,us2,us3,jG.tup s2 qa,jG.tup s2 qb,jG.tup s2 qc,by omega⟩
     ·obtain ⟨pp,x,y,v,e5,e6,e7,e8⟩:=y
      subst e5; subst e7
      refine ⟨jw e6,fun d hd=>?_⟩
      obtain ⟨dx,dy,dz,g1,g2,g3,g4⟩:=aer xs ys zs i d hd
      subst g4
      obtain ⟨f1,f2,f3⟩:=e8 us1 us2 us3 (jG.tup s2 qa) (jG.tup s2 qb) (jG.tup s2 qc)
      have m:=s2.trans (jq.a (jw (o:= .tup [x,y,v]) e6))
      obtain ⟨x',a1,a2⟩:=(Reps.monoA m _ _ ra).get g1
      obtain ⟨y',b1,b2⟩:=(Reps.monoA m _ _ rb).get g2
      obtain ⟨z',c1,c2⟩:=(Reps.monoA m _ _ rc).get g3
      rw [f1] at a1; cases a1
      rw [f2] at b1; cases b1
      rw [f3] at c1; cases c1
      exact ⟨pp,[x,y,v],rfl,SqT.of jn,x,_,rfl,a2,y,_,rfl,b2,v,_,rfl,c2,rfl⟩
    ·cases q'
   ·cases q'
noncomputable def tyn:PyData->String
 | .none=>"NoneType"
 | .bool _=>"bool"
 | .int _=>"int"
 | .str _=>"str"
 | .tuple _=>"tuple"
 | .list _=>"list"
 | .dict kvs=>if Jo kvs then "list" else "dict"
noncomputable def isFn:PyData->Bool
 | .dict [(.str _,_)]=>true
 | .dict [(.bool _,_)]=>true
 | _=>false
noncomputable def ad3 (T:String) (d:PyData):OP:=if isFn d=true then none else some (.bool (tyn d == T || (T == "int" && tyn d == "bool")))
theorem alm {Kp:List (Addr × Obj)}{σ:St}{H:Hp}{s:Shared}{E:Value->SP0}{Q:Value->SP0}{d:PyData}{v:V}{u c:Value}{b:Bool} (I:Inv X Kp σ H s) (r:Rep X.K H d v) (hF:isFn d=false) (rv:qe v u)
  (e:PySem.W.kitOne X.K (.type (tyn d)) c=some b) (h:∀ tk,Q (.bool b) { s with toks:=tk }):wpAny (model X.prog X.w) X.A (call (.builtin "isinstance") [u,c]) Q E s:=by
 cases d with
 | none=>cases r; cases rv; exact PySem.W.kia_one PySem.W.kitx_none I.kIn True.intro e (fun z=>nomatch z) h
 | bool y=>cases r; cases rv; exact PySem.W.kia_one PySem.W.kitx_bool I.kIn True.intro e (fun z=>nomatch z) h
 | int i=>cases r; obtain ⟨t,rfl⟩:=rv; exact PySem.W.kia_one PySem.W.kitx_int I.kIn True.intro e (fun z=>nomatch z) h
 | str y=>cases r; obtain ⟨t,rfl⟩:=rv; exact PySem.W.kia_one PySem.W.kitx_str I.kIn True.intro e (fun z=>nomatch z) h
 | tuple ds=>
  obtain ⟨a,xs,e1,e2,e3⟩:=r
  subst e1; cases rv
  obtain ⟨its,_,⟨o,h1,h2,_⟩,_⟩:=I.tuple e2
  exact PySem.W.kia_one PySem.W.kitx_tuple I.kIn ⟨o,h1,h2⟩ e (fun z=>nomatch z) h
 | list ds=>
  obtain ⟨a,xs,e1,e2,e3⟩:=r
  subst e1; cases rv
  obtain ⟨its,_,⟨o,n,h1,h2,_⟩,_⟩:=I.list (SqL.of e2)
  exact PySem.W.kia_one PySem.W.kitx_list I.kIn ⟨o,h1,h2⟩ e (fun z=>nomatch z) h
 | dict ds=>
  obtain ⟨a,e1,⟨ns,e2,e3⟩ | ⟨ks,ob,e2,e3⟩ | ⟨x,e2,_⟩ | ⟨x,_,_,e2,_⟩ | e2⟩:=r
  ·subst e1; cases rv
   subst e3
   have e:PySem.W.kitOne X.K (.type "list") c=some b:=by simpa [tyn,aen] using e
   obtain ⟨its,_,⟨o,n,h1,h2,_⟩,_⟩:=I.list e2
   exact PySem.W.kia_one PySem.W.kitx_list I.kIn ⟨o,h1,h2⟩ e (fun z=>nomatch z) h
  ·subst e1; cases rv
   obtain ⟨cc,rr,rfl,e4⟩:=e3.out
   have e:PySem.W.kitOne X.K (.type "dict") c=some b:=by simpa [tyn,Jo] using e
   obtain ⟨_,_,vs,_,dd⟩:=arb I.hok (.inr ⟨ob,e2⟩)
   obtain ⟨o,es,ep,h1,h2,_⟩:=dd
   exact PySem.W.kia_one PySem.W.kitx_dict I.kIn ⟨o,h1,h2.1⟩ e (fun z=>nomatch z) h
  ·subst e2; simp [isFn] at hF
  ·subst e2; simp [isFn] at hF
  ·subst e2; simp [isFn] at hF
noncomputable def asq (K:Fg) (T:String):List V->Hp->VK->Prop:=fun xs H Q=>∃ x d b,xs=[x,.ty T]/\Rep K H d x/\isFn d=false/\PySem.W.kitOne K (.type (tyn d)) (.type T)=some b/\Q (.bl b) H
theorem aln {T:String}:Jn X (.builtin "isinstance") (asq X.K T):=by
 intro Kp s σ H xs us Q I r ⟨x,d,b,e,h1,hF,h2,q⟩
 subst e
 obtain ⟨u,w',rfl,r1,r2⟩:=agd r
 cases (show w'=_ from r2)
 exact alm I h1 hF r1 h2 fun tk=>⟨.bl b,H,I.tok tk,rfl,q⟩
noncomputable def Qj (T:String) (d:PyData):Bool:=tyn d == T || (T == "int" && tyn d == "bool")
@[simp] theorem aqL (T:String):ad3 T .none=some (.bool (Qj T .none)):=rfl
@[simp] theorem aqM (T:String) (b:Bool):ad3 T (.bool b)=some (.bool (Qj T (.bool b))):=rfl
@[simp] theorem arl (T:String) (i:Int):ad3 T (.int i)=some (.bool (Qj T (.int i))):=rfl
@[simp] theorem arm (T:String) (x:Str):ad3 T (.str x)=some (.bool (Qj T (.str x))):=rfl
@[simp] theorem apL (T:String) (ds:LP):ad3 T (.tuple ds)=some (.bool (Qj T (.tuple ds))):=rfl
@[simp] theorem aqN (T:String) (ds:LP):ad3 T (.list ds)=some (.bool (Qj T (.list ds))):=rfl
theorem alo {T:String}{d e:PyData} (h:ad3 T d=some e):isFn d=false/\e= .bool (Qj T d):=by
 unfold ad3 at h
 split at h
 ·cases h
 ·rename_i hf; cases h; exact ⟨by simpa using hf,rfl⟩
theorem anw {K:Fg}{T:String} (hT:T="bool" ∨ T="int" ∨ T="tuple") (d:PyData):PySem.W.kitOne K (.type (tyn d)) (.type T)=some (Qj T d):=by
 rcases hT with rfl | rfl | rfl <;> cases d <;> first | rfl | (rename_i kvs; by_cases h:Jo kvs=true <;> simp only [tyn,Qj,h] <;> rfl)
theorem ac9 {a:Expr}{fa:RP}{T:Str}{Tn:String}{p p2 pos:Pos} (hT:Tn="bool" ∨ Tn="int" ∨ Tn="tuple") (hm1:X.mg "isinstance"=none) (hm2:X.mg T=none) (hv:bootBuiltins T=some (.type Tn)) (ha:PD X a fa)
  (hg1:Gl X "isinstance":=by rfl) (hg2:Gl X T:=by rfl) (hn:T ≠ "__name__":=by decide) (hd:(T == ("__debug__":Str))=false:=by decide)
  (he:starEach [a,.Name T p2] X.env=[(false,eval a X.env),(false,eval (.Name T p2) X.env)]:=by rfl) (he2:starEach [.Name T p2] X.env=[(false,eval (.Name T p2) X.env)]:=by rfl) (hpl:(backTo pos (starEach [.Name T p2] X.env)).any (·.1)=false:=by rfl):
  PD X (.Call (.Name "isinstance" p) [a,.Name T p2] [] pos) (fun ρ=>(fa ρ).bind fun d=>ad3 Tn d):=by
 with_unfolding_all
  have hT2:PE X (.Name T p2) (tC (.ty Tn)):=aiB hg2 hm2 hv rfl hn hd
  refine PE.imp (aaO (aln (T:=Tn)) hg1 hm1 (by decide +kernel) (qt ha (qt hT2 zn (by rw [he2]; rfl)) (by rw [he,he2])) (by decide) (by decide) (by rw [he,he2]) hpl) fun σ H Q ⟨ρ,d,en,q,k⟩=>?_
  cases h1:fa ρ with
  | none=>simp [h1] at q
  | some c=>
   obtain ⟨hF,rfl⟩:=alo (show ad3 Tn c=some d by simpa [h1] using q)
   exact ⟨ρ,c,en,h1,fun v H1 s1 r1=>⟨v,c,_,rfl,r1,hF,anw hT c,k _ H1 s1 rfl⟩⟩
end
noncomputable def Jq (H H':Hp):Prop:=∀ b o,H b=some o->(∀ xs,o ≠ .lst xs)->H' b=some o
theorem jq.n {H H':Hp} (e:jq H H'):Jq H H':=fun b o h _=>e b o h
theorem Jq.trans {H H1 H2:Hp} (a:Jq H H1) (b:Jq H1 H2):Jq H H2:=fun c o h n=>b c o (a c o h n) n
theorem Jq.upd {H:Hp}{p:Addr}{xs ys:List V} (hp:H p=some (.lst xs)):Jq H (upd H p (.lst ys)):=fun b o h n=>by
 have:b ≠ p:=fun e=>by subst e; rw [hp] at h; cases h; exact n _ rfl
 rw [jp this]; exact h
mutual
noncomputable def noL:PyData->Bool
 | .none=>true
 | .bool _=>true
 | .int _=>true
 | .str _=>true
 | .tuple ds=>noLs ds
 | .list _=>false
 | .dict _=>false
noncomputable def noLs:LP->Bool
 | []=>true
 | d::ds=>noL d && noLs ds
end
section
variable {K:Fg}{H H':Hp}
theorem Jq.tup {a:Addr}{xs:List V} (e:Jq H H') (h:SqT K H a xs):SqT K H' a xs:=by
 rcases h with (h | ⟨o,h⟩) | h
 ·exact .inl (.inl (e _ _ h fun _ z=>nomatch z))
 ·exact .inl (.inr ⟨o,e _ _ h fun _ z=>nomatch z⟩)
 ·exact .inr h
mutual
theorem Rep.monoN (e:Jq H H'):∀ (d:PyData) (v:V),noL d=true->Rep K H d v->Rep K H' d v
 | .none,v,_,h=>h
 | .bool _,v,_,h=>h
 | .int _,v,_,h=>h
 | .str _,v,_,h=>h
 | .tuple ds,v,n,⟨a,xs,h1,h2,h3⟩=>⟨a,xs,h1,Jq.tup e h2,Reps.monoN e ds xs (by simpa [noL] using n) h3⟩
 | .list ds,v,n,h=>by simp [noL] at n
 | .dict ds,v,n,h=>by simp [noL] at n
theorem Reps.monoN (e:Jq H H'):∀ (ds:LP) (xs:List V),noLs ds=true->Reps K H ds xs->Reps K H' ds xs
 | [],xs,_,h=>h
 | d::ds,xs,n,⟨x,r,h1,h2,h3⟩=>by
  have n':noL d=true/\noLs ds=true:=by simpa [noLs] using n
  exact ⟨x,r,h1,Rep.monoN e d x n'.1 h2,Reps.monoN e ds r n'.2 h3⟩
end
theorem Zt:∀ (ds es:LP),noLs (ds++es)=(noLs ds && noLs es)
 | [],es=>by simp [noLs]
 | d::ds,es=>by simp [noLs,Zt ds es,Bool.and_assoc]
theorem Zu:∀ {ds:LP},(∀ d ∈ ds,noL d=true)->noLs ds=true
 | [],_=>rfl
 | d::ds,h=>by simp [noLs,h d List.mem_cons_self,Zu fun x hx=>h x (List.mem_cons_of_mem _ hx)]
end
end BX
end
section
namespace BX
open PySem PySem.Spec L2
open PyProof.Rows hiding St
noncomputable def jm (P:Program) (w:World) (K:Fg) (mg:SV) (base:Heap) (x:Str) (ps:List Str) (k n:Nat) (g:LP->OP):Prop:=
 ∃ (f:Addr) (fd:FuncData),FnOk P w K mg base CX0 k f fd ps (Pur K n g)/\mg x=some (.ref f)/\PySem.W.keepIn K (.ref f)=true/\JZ K fd ps []
theorem jh:∀ (ρ:Rho) (ds:LP),jr ρ=some ds->ds.length=0:=fun ρ ds h=>by cases h; rfl
theorem jc {fa:RP}{fr:Rho->Option (LP)}{n:Nat} (h:∀ (ρ:Rho) (ds:LP),fr ρ=some ds->ds.length=n):∀ (ρ:Rho) (ds:LP),jk fa fr ρ=some ds->ds.length=n+1:=fun ρ ds q=>by
 cases h1:fa ρ with
 | none=>simp [jk,h1] at q
 | some x=>
  cases h2:fr ρ with
  | none=>simp [jk,h1,h2] at q
  | some r=>
   have:x::r=ds:=by simpa [jk,h1,h2] using q
   subst this
   simp [h ρ r h2]
section
variable {X:Cx}{e:Expr}{es:List Expr}{pos:Pos}
theorem ji {k j n:Nat}{ps:List Str}{g:LP->OP}{x:Str}{p:Pos}{fr:Rho->Option (LP)} (c:jm X.prog X.w X.K X.mg X.base x ps k n g) (hr:Room j X.A) (hkj:k<=j) (ha:PAD X (e::es) fr)
  (hl:∀ (ρ:Rho) (ds:LP),fr ρ=some ds->ds.length=n) (hn:(e::es).length=n:=by rfl) (hg:Gl X x:=by rfl) (hdb:(x == ("__debug__":Str))=false:=by decide) (he:starEach (e::es) X.env=(false,eval e X.env)::starEach es X.env:=by rfl)
  (hpl:(backTo pos (starEach es X.env)).any (·.1)=false:=by rfl):PD X (.Call (.Name x p) (e::es) [] pos) (jy g fr):=by
 with_unfolding_all
  obtain ⟨f,fd,h1,h2,h3,h4⟩:=c
  exact anr h1 (hr.mono hkj) h2 h3 h4 hn ha (fun ρ ds q=>by rw [hl ρ ds q,hn]) hg hdb he hpl
end
theorem ada {ft:Rho->Option Bool}{fe:RP}{i:Nat} (p:PyData->Bool) (h:PyData->PyData):∀ (ds:LP) (τ:Rho),(∀ d ∈ ds,ft (τ.set i (some d))=some (p d))->(∀ d ∈ ds,p d=true->fe (τ.set i (some d))=some (h d))->
  jX (jH i) ft fe ds τ=some ((ds.filter p).map h)
 | [],τ,_,_=>rfl
 | d::ds,τ,h1,h2=>by
  have ih:=ada p h ds (τ.set i (some d)) (fun c hc=>by rw [List.set_set]; exact h1 c (List.mem_cons_of_mem _ hc)) (fun c hc hp=>by rw [List.set_set]; exact h2 c (List.mem_cons_of_mem _ hc) hp)
  simp only [jX,jH,zzD,h1 d List.mem_cons_self]
  by_cases hp:p d=true
  ·simp [hp,h2 d List.mem_cons_self hp,ih,List.filter_cons]
  ·simp [hp,ih,List.filter_cons]
theorem Jb {fe:RP}{i:Nat} (h:PyData->PyData) (ds:LP) (τ:Rho) (h2:∀ d ∈ ds,fe (τ.set i (some d))=some (h d)):jX (jH i) aaS fe ds τ=some (ds.map h):=by
 rw [ada (fun _=>true) h ds τ (fun _ _=>rfl) (fun d hd _=>h2 d hd),List.filter_eq_self.mpr (fun _ _=>rfl)]
noncomputable def aiS (st:Scope) (N:List Str) (sc:Scope) (N':List Str) (cap:List (Option Nat)):Bool:=
 sc.names.all (fun x=>!decide (x.2= .free) || decide (st.names.lookup x.1=some .cell) || decide (st.names.lookup x.1=some .free)) && sc.names.all (fun x=>!decide (x.2= .cell)) && decide (sc.kind= .function) &&
 sc.names.all (fun x=>!decide (x.2= .local) || decide (sc.names.lookup x.1=some .local)) && decide (cap.length=N'.length) &&
 (List.range N'.length).all (fun j=>match N'[j]?,cap[j]? with
  | some x,some (some i)=>decide (N[i]?=some x) && decide (sc.names.lookup x=some .free)
  | _,_=>true)
theorem za {X:Cx}{sc:Scope}{N':List Str}{cap:List (Option Nat)} (st:Scope) (N:List Str) (h:aiS st N sc N' cap=true) (hst:X.env.scope=st:=by rfl) (hN:X.N=N:=by rfl):CompOk X sc N' cap:=by
 simp only [aiS,Bool.and_eq_true,List.all_eq_true,Bool.or_eq_true,Bool.not_eq_true',decide_eq_true_eq,decide_eq_false_iff_not] at h
 obtain ⟨⟨⟨⟨⟨h1,h2⟩,h3⟩,h4⟩,h5⟩,h6⟩:=h
 subst hst; subst hN
 refine ⟨fun x hx e=>?_,h2,h3,fun x hx e=>?_,h5,fun j i x e1 e2=>?_⟩
 ·rcases h1 x hx with (z | z) | z
  ·exact absurd e z
  ·exact .inl z
  ·exact .inr z
 ·rcases h4 x hx with z | z
  ·exact absurd e z
  ·exact z
 ·have hj:j<N'.length:=(List.getElem?_eq_some_iff.mp e1).1
  have:=h6 j (List.mem_range.mpr hj)
  rw [e1,e2] at this
  simpa using this
noncomputable def Cx.inB (X:Cx):Cx:={ X with A:=X.A.in1,xe:=NoX }
theorem Cx.Ok.inB {X:Cx} (ok:X.Ok):(Cx.inB X).Ok:=
 ⟨ok.mod,ok.kind,ok.glob,ok.blt,ok.above,ok.inj,ok.has,ok.cab,fun h=>ok.hd h,ok.frames,ok.stk,ok.exf,ok.bs,ok.bsz,ok.noex,ok.exfs,ok.funs,ok.frf⟩
theorem Cx.Ok.outB {X:Cx} (ok:(Cx.inB X).Ok):X.Ok:=
 ⟨ok.mod,ok.kind,ok.glob,ok.blt,ok.above,ok.inj,ok.has,ok.cab,fun h=>ok.hd h,ok.frames,ok.stk,ok.exf,ok.bs,ok.bsz,ok.noex,ok.exfs,ok.funs,ok.frf⟩
section
variable {X:Cx}{Kp:List (Addr × Obj)}{σ:St}{H:Hp}{s:Shared}
theorem Inv.inB (I:Inv X Kp σ H s):Inv (Cx.inB X) Kp σ H s:=⟨Cx.Ok.inB I.ok,I.os,I.bare,I.base,I.loc,I.cell,I.free,I.freeC,I.pin,I.hok,I.len⟩
theorem Inv.outB (I:Inv (Cx.inB X) Kp σ H s):Inv X Kp σ H s:=⟨Cx.Ok.outB I.ok,I.os,I.bare,I.base,I.loc,I.cell,I.free,I.freeC,I.pin,I.hok,I.len⟩
end
theorem arn {prog:Program}{w:World}{A:Around}{E:Value->SP0}{s:Shared}{a b:Int}{t u:Tok}{Q:Value->SP0} (h:Q (.bool (decide (a<b))) s):wpAny (model prog w) A (richCompare .Lt (.int a t) (.int b u)) Q E s:=
 CmpOf.ints_lt (prog:=prog) (w:=w) (A:=A) (P:=fun (i:Nat) v=>∃ t,v= .int (if i=0 then a else b) t) (fun i=>if i=0 then a else b) (fun _ _ q=>q) 0 1 _ _ _ _ _ ⟨t,rfl⟩ ⟨u,rfl⟩ h
noncomputable def Qw (kf:PyData->Int):PyData->LP->PyData
 | b,[]=>b
 | b,d::r=>if kf d<kf b then Qw kf d r else Qw kf b r
noncomputable def adb (kf:PyData->Int):OP->LP->PyData
 | none,[]=> .none
 | none,d::r=>Qw kf d r
 | some b,r=>Qw kf b r
noncomputable def lob (us:Array Value) (c:Nat):Obj:={ cls:= .type "list",data:= .seq us c }
structure Own1 (X:Cx) (Kp:List (Addr × Obj)) (b:Addr):Prop where
 h1:b ≠ X.env.locals
 h2:b ∉ X.fs
 h3:X.s₀.heap.objs.size<=b
 h4:∀ x c,X.env.cells.lookup x=some c->c ≠ b
 h5:∀ p ∈ X.pn++Kp,p.1 ≠ b
noncomputable def alp (K:Fg) (H:Hp) (h:Heap) (S:Addr) (kf:PyData->Int):OP->Prop
 | none=>∃ c,h.get? S=some (lob #[] c)
 | some b=>∃ x u t c,Rep K H b x/\qe x u/\h.get? S=some (lob #[u,.int (kf b) t] c)
theorem afq {h:Heap}{S:Addr}{us ws:Array Value}{c:Nat} (ho:h.get? S=some (lob us c)):∃ c2,(h.update S (Obj.mapSeq fun _=>ws)).get? S=some (lob ws c2):=by
 have e:=Heap.get?_update_self (Obj.mapSeq fun _=>ws) ho rfl
 exact ⟨_,e⟩
theorem aaV:(toString "min"++toString ".loop":String)="min.loop":=by decide
theorem ajR {X:Cx}{k:Nat}{f:Addr}{fd:FuncData}{ps:List Str}{g:LP->OP}{kf:PyData->Int}{ds:LP}{xs:List V}{l it S:Addr}{Kp:List (Addr × Obj)}{σ:St}{R:Result->SP0} (hc:X.calm=true)
  (FO:FnOk X.prog X.w X.K X.mg X.base CX0 k f fd ps (Pur X.K 1 g)) (hr:Room (k+1) X.A) (hb:JZ X.K fd ps []) (hk:∀ d ∈ ds,g [d]=some (.int (kf d))) (oI:Own1 X Kp it) (oS:Own1 X Kp S) (nIS:it ≠ S) (nlI:l ≠ it) (nlS:l ≠ S):
  ∀ (r:LP) (i:Nat) (bo:OP) (s:Shared) (H:Hp),ds.drop i=r->Inv (Cx.inB X) Kp σ H s->H l=some (.lst xs)->Reps X.K H ds xs->H it=none->H S=none->s.heap.IsListIter it l i->alp X.K H s.heap S kf bo->
   (∀ v u s' H',Inv (Cx.inB X) Kp σ H' s'->jq H H'->qe v u->Rep X.K H' (adb kf bo r) v->R (.ok (.ret u)) s')->
   codeAny (model X.prog X.w) X.A (.builtin "min.loop" ⟨[.ref it,.ref f,.ref S],[("default",.none)]⟩) R s:=by
 have fpo:∀ {b:Addr} {H:Hp} {pl:List (Addr × Obj)},Own1 X Kp b->H b=none->(∀ p ∈ pl,p.1 ≠ b)->afd (Cx.inB X) (Kp++pl) H b:=fun {b H pl} o hn hp=>⟨hn,o.h1,o.h2,.inr o.h3,o.h4,fun p hq z=>by
  rcases List.mem_append.mp (show p ∈ X.pn++(Kp++pl) from hq) with q | q
  ·exact o.h5 p (List.mem_append_left _ q) z
  ·rcases List.mem_append.mp q with q | q
   ·exact o.h5 p (List.mem_append_right _ q) z
   ·exact hp p q z⟩
 intro r
 induction r with
 | nil=>
  intro i bo s H hd I hl hR hI hS st hB fin
  obtain ⟨its,rv,p,hz⟩:=I.list (SqL.of (K:=X.K) hl)
  have hle:ds.length<=i:=by
   have:=congrArg List.length hd
   simp at this; omega
  have hlen:=hR.length
  have hvl:=rv.length
  have f0:=fpo (pl:=[]) oI hI (fun _ z=>nomatch z)
  obtain ⟨q0,q1,q2,q3,q4,q5⟩:=f0
  refine codeAny_builtin PySem.F.entry_min_loop ?_
  rw [Around.under_plainId PySem.F.plain_min_loop _]
  cases bo with
  | none=>
   obtain ⟨c,hSo⟩:=hB
   refine wpAny_bind (m:=seqItems? (.ref S)) (wpAny_seqItems hSo rfl ?_)
   refine wpAny_bind (m:=tryCatch (pyNext (.ref it)) _) (wpAny_tryCatch (wpAny_pyNext_list_end (I.ok.hd hc) st p.isList (by simp; omega) fun h' eb=>?_))
   have I1:Inv (Cx.inB X) Kp σ H { s with heap:=h' }:=I.turned (t':=s.toks) (it:=it) (fun b o hb e=>eb b o hb e) hI oI.h1 (.inr oI.h3) oI.h4 oI.h5
   refine wpAny_bind (m:=rule _) (wpAny_rule ?_)
   exact wpAny_pure (fin .non _ _ H I1 (jq.refl H) rfl rfl)
  | some b=>
   obtain ⟨x,u,t,c,rx,ru,hSo⟩:=hB
   refine wpAny_bind (m:=seqItems? (.ref S)) (wpAny_seqItems hSo rfl ?_)
   refine wpAny_bind (m:=tryCatch (pyNext (.ref it)) _) (wpAny_tryCatch (wpAny_pyNext_list_end (I.ok.hd hc) st p.isList (by simp; omega) fun h' eb=>?_))
   have I1:Inv (Cx.inB X) Kp σ H { s with heap:=h' }:=I.turned (t':=s.toks) (it:=it) (fun b o hb e=>eb b o hb e) hI oI.h1 (.inr oI.h3) oI.h4 oI.h5
   have hS1:h'.get? S=some (lob #[u,.int (kf b) t] c):=eb S _ (Ne.symm nIS) hSo
   refine wpAny_bind (m:=updateSeq S fun _=>#[]) ?_
   refine wpAny_updateSeq hS1 rfl (wpAny_bind (wpAny_letGo (wpAny_pure ?_)))
   have I2:Inv (Cx.inB X) Kp σ H { s with heap:=h'.update S (Obj.mapSeq fun _=>(#[]:Array Value)) }:=Inv.turned (s:={ s with heap:=h' }) I1 (t':=s.toks) (it:=S) (fun b o hb e=>((Heap.SameBut.update h' S _).2 b hb).trans e) hS oS.h1 (.inr oS.h3) oS.h4 oS.h5
   exact fin x u _ H I2 (jq.refl H) ru rx
 | cons d r ih=>
  intro i bo s H hd I hl hR hI hS st hB fin
  obtain ⟨its,rv,p,hz⟩:=I.list (SqL.of (K:=X.K) hl)
  have hi:ds[i]?=some d:=by
   have:(ds.drop i)[0]?=some d:=by rw [hd]; rfl
   simpa using this
  have hd':ds.drop (i+1)=r:=by
   have:(ds.drop i).drop 1=r:=by rw [hd]; rfl
   simpa [List.drop_drop,Nat.add_comm] using this
  have hmem:d ∈ ds:=List.mem_of_getElem? hi
  obtain ⟨x,hx,rx⟩:=hR.get hi
  obtain ⟨u,hu,ru⟩:=rv.get hx
  refine codeAny_builtin PySem.F.entry_min_loop ?_
  rw [Around.under_plainId PySem.F.plain_min_loop _]
  obtain ⟨olds,hSo⟩:∃ olds:Obj,s.heap.get? S=some olds/\(∀ v,olds.data ≠ .cell v):=by
   cases bo with
   | none=>obtain ⟨c,e⟩:=hB; exact ⟨_,e,fun v z=>by cases z⟩
   | some b=>obtain ⟨_,_,_,c,_,_,e⟩:=hB; exact ⟨_,e,fun v z=>by cases z⟩
  obtain ⟨hSo,hSc⟩:=hSo
  have nxt:∀ {Q2:Option Value->SP0} {E2:Value->SP0},(∀ h' oi,Inv (Cx.inB X) (Kp++[(S,olds),(it,oi)]) σ H { s with heap:=h' }->(oi.cls= .type "list_iterator"/\oi.data= .fields #[.ref l,.int ((i+1:Nat):Int) 0])->Q2 (some u) { s with heap:=h' })->
    wpAny (model X.prog X.w) X.A.in1 (pyNext (.ref it)) Q2 E2 s:=by
   intro Q2 E2 go
   refine wpAny_pyNext_list_item st p.isList (x:=u) (by simpa using hu) fun h' st' sb=>?_
   have I1:Inv (Cx.inB X) Kp σ H { s with heap:=h' }:=I.turned (t':=s.toks) (it:=it) (fun b o hb e=>(sb.2 b hb).trans e) hI oI.h1 (.inr oI.h3) oI.h4 oI.h5
   have hS1:h'.get? S=some olds:=(sb.2 S (Ne.symm nIS)).trans hSo
   obtain ⟨oi,hoi,hci,hdi⟩:=id st'
   refine go h' oi (I1.pins_of fun q hq=>?_) ⟨hci,hdi⟩
   rcases List.mem_append.mp hq with z | z
   ·exact I1.pin q (List.mem_append_right _ z)
   ·rcases List.mem_cons.mp z with e | z
    ·subst e; exact ⟨hS1,hS,oS.h1,oS.h2,hSc⟩
    ·have e:q=(it,oi):=by simpa using z
     subst e; exact ⟨hoi,hI,oI.h1,oI.h2,fun v z=>by rw [hdi] at z; cases z⟩
  have key:∀ {Q3:Value->SP0} {E3:Value->SP0} {h':Heap} {oi:Obj},Inv (Cx.inB X) (Kp++[(S,olds),(it,oi)]) σ H { s with heap:=h' }->(oi.cls= .type "list_iterator"/\oi.data= .fields #[.ref l,.int ((i+1:Nat):Int) 0])->
    (∀ t s2 H2,Inv (Cx.inB X) Kp σ H2 s2->jq H H2->H2 it=none->H2 S=none->s2.heap.IsListIter it l (i+1)->s2.heap.get? S=some olds->Q3 (.int (kf d) t) s2)->wpAny (model X.prog X.w) X.A.in1 (call (.ref f) [u]) Q3 E3 { s with heap:=h' }:=by
   intro Q3 E3 h' oi I1p ho go
   have kk:(Pur X.K 1 g) [x] H (fun v H2=>v= .int (kf d)/\jq H H2) E0:=⟨[d],.int (kf d),rfl,⟨x,[],rfl,rx,rfl⟩,hk d hmem,fun v H2 s2 r2=>⟨r2,s2⟩⟩
   refine wpAny_mono (afg (X:=Cx.inB X) (dvs:=[]) (ds:=[]) (E:=E0) FO (Room.in1 hr) hb .nil ael I1p (.cons ru .nil) (by simpa using kk)) (fun kv s2 h2=>?_) fun _ _ z=>z.elim
   obtain ⟨v2,H2,I2,r2,e2,s2'⟩:=h2
   subst e2
   obtain ⟨t,rfl⟩:=r2
   have pS:=I2.pin (S,olds) (List.mem_append_right _ (List.mem_append_right _ (by simp)))
   have pI:=I2.pin (it,oi) (List.mem_append_right _ (List.mem_append_right _ (by simp)))
   have I2d:Inv (Cx.inB X) Kp σ H2 s2:=I2.pins_of fun q hq=>I2.pin q (List.mem_append_right _ (List.mem_append_left _ hq))
   exact go t s2 H2 I2d s2' pI.2.1 pS.2.1 ⟨oi,pI.1,ho.1,ho.2⟩ pS.1
  have back:∀ {b2:PyData} {s2:Shared} {H2:Hp},Inv (Cx.inB X) Kp σ H2 s2->jq H H2->H2 it=none->H2 S=none->s2.heap.IsListIter it l (i+1)->alp X.K H2 s2.heap S kf (some b2)->adb kf bo (d::r)=adb kf (some b2) r->
    codeAny (model X.prog X.w) X.A (.builtin "min.loop" ⟨[.ref it,.ref f,.ref S],[("default",.none)]⟩) R s2:=fun {b2 s2 H2} I2 s12 hI2 hS2 st2 hB2 em=>
   ih (i+1) (some b2) s2 H2 hd' I2 (s12 _ _ hl) (Reps.mono s12 _ _ hR) hI2 hS2 st2 hB2 fun v u s' H' I' s' r' q'=>fin v u _ H' I' (s12.trans s') r' (by rw [em]; exact q')
  cases bo with
  | none=>
   obtain ⟨c,hSn⟩:=hB
   rw [hSn] at hSo; cases hSo
   refine wpAny_bind (m:=seqItems? (.ref S)) (wpAny_seqItems hSn rfl ?_)
   refine wpAny_bind (m:=tryCatch (pyNext (.ref it)) _) (wpAny_tryCatch (nxt fun h' oi I1p ho=>?_))
   refine wpAny_bind (m:=tryCatch (holding [u] (call (.ref f) [u])) _) (wpAny_tryCatch (wpAny_holding (key I1p ho fun t s2 H2 I2 s12 hI2 hS2 st2 hS2o=>?_)))
   refine wpAny_bind (m:=updateSeq S fun _=>#[u,.int (kf d) t]) ?_
   refine wpAny_updateSeq hS2o rfl ?_
   obtain ⟨c2,hc2⟩:=afq (ws:=#[u,.int (kf d) t]) hS2o
   have sb:=Heap.SameBut.update s2.heap S (Obj.mapSeq fun _=>#[u,.int (kf d) t])
   have I3:Inv (Cx.inB X) Kp σ H2 { s2 with heap:=s2.heap.update S (Obj.mapSeq fun _=>#[u,.int (kf d) t]) }:=I2.turned (t':=s2.toks) (it:=S) (fun b o hb e=>(sb.2 b hb).trans e) hS2 oS.h1 (.inr oS.h3) oS.h4 oS.h5
   obtain ⟨oi,e1,e2⟩:=st2
   rw [aaV]
   exact wpAny_pure ⟨plainId_quiet PySem.F.plain_min_loop _,back (b2:=d) I3 s12 hI2 hS2 ⟨oi,(sb.2 it nIS).trans e1,e2⟩ ⟨x,u,t,c2,Rep.mono s12 _ _ rx,ru,hc2⟩ rfl⟩
  | some b=>
   obtain ⟨xb,ub,tb,c,rb,rub,hSn⟩:=hB
   rw [hSn] at hSo; cases hSo
   refine wpAny_bind (m:=seqItems? (.ref S)) (wpAny_seqItems hSn rfl ?_)
   refine wpAny_bind (m:=tryCatch (pyNext (.ref it)) _) (wpAny_tryCatch (nxt fun h' oi I1p ho=>?_))
   refine wpAny_bind (m:=tryCatch (holding [u] (call (.ref f) [u])) _) (wpAny_tryCatch (wpAny_holding (key I1p ho fun t s2 H2 I2 s12 hI2 hS2 st2 hS2o=>?_)))
   refine wpAny_bind (m:=tryCatch (holding [u,.int (kf d) t] (richCompare .Lt (.int (kf d) t) (.int (kf b) tb) >>= _)) _) (wpAny_tryCatch (wpAny_holding (wpAny_bind (arn ?_))))
   refine wpAny_bind (wpAny_holding (wpAny_truthy_bool ?_))
   refine wpAny_bind (wpAny_letGo (wpAny_pure ?_))
   by_cases hlt:kf d<kf b
   ·simp only [hlt,decide_true,zzM]
    refine wpAny_bind (m:=updateSeq S fun _=>#[u,.int (kf d) t]) ?_
    refine wpAny_updateSeq hS2o rfl (wpAny_bind (wpAny_letGo ?_))
    obtain ⟨c2,hc2⟩:=afq (ws:=#[u,.int (kf d) t]) hS2o
    have sb:=Heap.SameBut.update s2.heap S (Obj.mapSeq fun _=>#[u,.int (kf d) t])
    have I3:Inv (Cx.inB X) Kp σ H2 { s2 with heap:=s2.heap.update S (Obj.mapSeq fun _=>#[u,.int (kf d) t]) }:=I2.turned (t':=s2.toks) (it:=S) (fun b o hb e=>(sb.2 b hb).trans e) hS2 oS.h1 (.inr oS.h3) oS.h4 oS.h5
    obtain ⟨oi,e1,e2⟩:=st2
    rw [aaV]
    exact wpAny_pure ⟨plainId_quiet PySem.F.plain_min_loop _,back (b2:=d) I3 s12 hI2 hS2 ⟨oi,(sb.2 it nIS).trans e1,e2⟩ ⟨x,u,t,c2,Rep.mono s12 _ _ rx,ru,hc2⟩ (by simp [adb,Qw,hlt])⟩
   ·simp only [hlt,decide_false,zzL,zzN]
    refine wpAny_bind (wpAny_letGo ?_)
    rw [aaV]
    exact wpAny_pure ⟨plainId_quiet PySem.F.plain_min_loop _,back (b2:=b) I2 s12 hI2 hS2 st2 ⟨xb,ub,tb,c,Rep.mono s12 _ _ rb,rub,hS2o⟩ (by simp [adb,Qw,hlt])⟩
theorem ahI (a v d:Value):argsOk "min" ⟨[a],[("key",v),("default",d)]⟩:=by unfold argsOk; kernel_rfl
theorem agm {X:Cx}{Kp:List (Addr × Obj)}{σ:St}{H:Hp}{s:Shared} (I:Inv X Kp σ H s) {b:Addr} (hb:s.heap.objs.size<=b):Own1 X Kp b:=by
 obtain ⟨_,h1,h2,h3,h4,h5⟩:=I.fpOk (H':=fun _=>none) hb rfl
 exact ⟨h1,h2,Nat.le_trans I.sz hb,h4,h5⟩
theorem ahJ {X:Cx}{k:Nat}{f:Addr}{fd:FuncData}{ps:List Str}{g:LP->OP}{kf:PyData->Int}{ds:LP}{xs:List V}{l:Addr}{Kp:List (Addr × Obj)}{σ:St}{H:Hp}{s:Shared}{Q:VK} (hc:X.calm=true)
  (FO:FnOk X.prog X.w X.K X.mg X.base CX0 k f fd ps (Pur X.K 1 g)) (hr:Room (k+1) X.A) (hb:JZ X.K fd ps []) (hk:∀ d ∈ ds,g [d]=some (.int (kf d))) (I:Inv X Kp σ H s) (hl:H l=some (.lst xs)) (hR:Reps X.K H ds xs)
  (q:∀ v H',jq H H'->Rep X.K H' (adb kf none ds) v->Q v H'):
  wpAny (model X.prog X.w) X.A (call (.builtin "min") [.ref l] [("key",.ref f),("default",.none)]) (EP X Kp σ Q) X.xe s:=by
 obtain ⟨its,rv,p,hz⟩:=I.list (SqL.of (K:=X.K) hl)
 have hlt:l<s.heap.objs.size:=I.hok.lt hl
 refine PyProof.Rows.kmk_tree PySem.F.kind_min PySem.F.plain_min PySem.F.entry_min (ahI _ _ _) ?_
 refine wpAny_bind (m:=Builtin.Builtins.bindParams "min" ["key","default"] 0 ⟨[],[("key",.ref f),("default",.none)]⟩)
  (wpAny_of_eq (show _=pure [some (.ref f),some .none] from rfl) ?_)
 refine wpAny_bind (wpAny_pure ?_)
 refine wpAny_bind (wpAny_pyIter_list p.isList ?_)
 refine wpAny_bind (wpAny_newList ?_ (Nat.zero_le _))
 rw [aaV]
 refine wpAny_pure ⟨plainId_quiet PySem.F.plain_min_loop _,?_⟩
 generalize hh1:s.heap.push { cls:= .type "list_iterator",data:= .fields #[.ref l,.int 0 0] }=h1
 have n1:h1.objs.size=s.heap.objs.size+1:=by rw [←hh1]; exact Heap.size_push ..
 have k2:∀ b o,s.heap.get? b=some o->(h1.push { cls:= .type "list",data:= .seq ([]:List Value).toArray }).get? b=some o:=fun b o e=>Heap.get?_push_of_some _ (by rw [←hh1]; exact Heap.get?_push_of_some _ e)
 have I2:Inv X Kp σ H { s with heap:=h1.push { cls:= .type "list",data:= .seq ([]:List Value).toArray } }:=I.kept (t':=s.toks) k2
 refine ajR (kf:=kf) hc FO hr hb hk (agm I (Nat.le_refl _)) (agm I (b:=h1.objs.size) (by rw [n1]; exact Nat.le_succ _)) (by rw [n1]; exact Nat.ne_of_lt (Nat.lt_succ_self _)) (Nat.ne_of_lt hlt) (by rw [n1]; exact Nat.ne_of_lt (Nat.lt_succ_of_lt hlt))
  ds 0 none _ H rfl (Inv.inB I2) hl hR (I.hok.fresh (Nat.le_refl _)) (I.hok.fresh (by rw [n1]; exact Nat.le_succ _)) ⟨_,Heap.get?_push_of_some _ (by rw [←hh1]; exact Heap.get?_push_size _ rfl),rfl,rfl⟩ ⟨0,Heap.get?_push_size _ rfl⟩ fun v u s' H' I' s1 r' q'=>?_
 exact ⟨v,H',Inv.outB I',r',q v H' s1 q'⟩
noncomputable def aay (g:LP->OP) (ds:LP):Bool:=ds.all fun d=>((g [d]).bind Zq).isSome
noncomputable def Qx (g:LP->OP) (d:PyData):Int:=((g [d]).bind Zq).getD 0
noncomputable def aaz (g:LP->OP):PyData->OP
 | .list ds=>if aay g ds=true then some (adb (Qx g) none ds) else none
 | _=>none
theorem ajS {d:PyData}{i:Int} (h:Zq d=some i):d= .int i:=by
 cases d <;> simp [Zq] at h
 rw [h]
theorem alq {g:LP->OP}{ds:LP} (h:aay g ds=true):∀ d ∈ ds,g [d]=some (.int (Qx g d)):=fun d hd=>by
 have:=List.all_eq_true.mp h d hd
 cases e:g [d] with
 | none=>simp [e] at this
 | some c=>
  cases e2:Zq c with
  | none=>simp [e,e2] at this
  | some i=>
   have:=ajS e2
   subst this
   simp [Qx,e,Zq]
theorem afr:bootBuiltins "min"=some (.builtin "min"):=by decide +kernel
theorem alr:bootBuiltins "max"=some (.builtin "max"):=by decide +kernel
section
variable {X:Cx}{a:Expr}{fa:RP}{pos p p2 p3 kp kp2:Pos}{j3:Nat}
theorem als {k j:Nat}{ps:List Str}{g:LP->OP}{x:Str} (hc:X.calm=true) (c:jm X.prog X.w X.K X.mg X.base x ps k 1 g) (hr:Room j X.A) (hkj:k+1<=j) (hm:X.mg "min"=none) (ha:PD X a fa) (hg:Gl X "min":=by rfl) (hgx:Gl X x:=by rfl)
  (hdb:(x == ("__debug__":Str))=false:=by decide) (hs:starEach [a] X.env=[(false,eval a X.env)]:=by rfl):
  PD X (.Call (.Name "min" p) [a] [⟨some "key",.Name x p2,kp⟩,⟨some "default",.Constant .none j3 p3,kp2⟩] pos) (fun ρ=>(fa ρ).bind (aaz g)):=by
 with_unfolding_all
  obtain ⟨f,fd,FO,hmx,hkp,hb⟩:=c
  intro Kp s σ H Q I h
  obtain ⟨ρ,d,en,q,kq⟩:=h
  cases h1:fa ρ with
  | none=>simp [h1] at q
  | some y=>
   have q':aaz g y=some d:=by simpa [h1] using q
   refine wpAny_Call_Name_kw (aas I hg hm afr ?_)
   have hA:PA X [a] (age (tD X.K fa) anb):=qt ha zn (by rw [hs]; rfl)
   have hK:PK X [⟨some "key",.Name x p2,kp⟩,⟨some "default",.Constant .none j3 p3,kp2⟩] (age (tC (.ref f)) (age (tC .non) anb)):=aiE (acw hgx hmx rfl hdb) (aiE akP apw)
   refine callWith_kw (thn (hA pos Kp s σ H (fun vs H1=>∃ v,vs=[v]/\jq H H1/\Rep X.K H1 y v) I ⟨ρ,y,en,h1,fun v H1 s1 r1=>⟨v,rfl,s1,r1⟩⟩) fun us s1 ⟨vs,H1,I1,r1,v,e1,s1',rv⟩=>?_) (by rw [hs]; rfl) (by rw [hs]; rfl)
   subst e1
   obtain ⟨u,rfl,ru⟩:=Zn r1
   refine thn (hK pos Kp s1 σ H1 (fun zs H2=>zs=[.ref f,.non]/\H2=H1) I1 ⟨rfl,rfl⟩) fun ws s2 ⟨zs,H2,I2,r2,e2,e3⟩=>?_
   subst e2; subst e3
   obtain ⟨w1,w2,rfl,a1,a2⟩:=agd r2
   cases (show w1=_ from a1)
   cases (show w2=_ from a2)
   cases y with
   | list ds=>
    by_cases hko:aay g ds=true
    ·have:adb (Qx g) none ds=d:=by simpa [aaz,hko] using q'
     subst this
     obtain ⟨l,xs,e4,e5,e6⟩:=rv
     subst e4
     cases (show u=_ from ru)
     exact ahJ (kf:=Qx g) hc FO (hr.mono hkj) hb (alq hko) I2 e5 e6 fun v H' s' r'=>kq v H' (s1'.trans s') r'
    ·simp [aaz,hko] at q'
   | _=>simp [aaz] at q'
end
noncomputable def aiT:Int->List Int->Int
 | b,[]=>b
 | b,d::r=>if d > b then aiT d r else aiT b r
noncomputable def apM:Option Int->List Int->PyData
 | none,[]=> .none
 | none,d::r=> .int (aiT d r)
 | some b,r=> .int (aiT b r)
section
variable {X:Cx}{a:Expr}{fa:RP}{pos p p3 kp2:Pos}{j3:Nat}
end
end BX
end
section
namespace BX.Srt
open PySem PySem.W
open PyProof.Rows (mirror bubble mirror_size mirror_perm bubble_size bubble_perm getElem?_mirror_all getElem?_bubble)
section
variable (rk:Nat->Int) (n:Nat)
noncomputable def val (p:Array Nat) (k:Nat):Int:=rk (p.getD k 0)
noncomputable def QV (p:Array Nat) (m:Nat):Prop:=∀ i j,i<=j->j<m->val rk p i<=val rk p j
noncomputable def adc (p:Array Nat) (m:Nat):Prop:=∀ i j,i<=j->j<m->val rk p j<=val rk p i
noncomputable def agn (p:Array Nat) (m q:Nat):Prop:=∀ i,m - (q+1)<=i->i<m->val rk p i=val rk p (m - 1)
noncomputable def OKp (p:Array Nat):Prop:=p.Perm (List.range n).toArray
end
section
variable {rk:Nat->Int}{n:Nat}{p p':Array Nat}
theorem OKp.size (h:OKp n p):p.size=n:=by
 have:=h.size_eq
 simpa using this
theorem OKp.lt (h:OKp n p) {k:Nat} (hk:k<n):p.getD k 0<n:=by
 have hs:=h.size
 have e:p.getD k 0=p[k]'(by omega):=by simp [Array.getD,hs,hk]
 have:p[k]'(by omega) ∈ (List.range n).toArray:=h.mem_iff.mp (Array.getElem_mem _)
 rw [e]
 simpa using this
theorem QW (p:Array Nat) (k:Nat):p.getD k 0=(p[k]?).getD 0:=by simp [Array.getD_eq_getD_getElem?]
theorem acy {i j k:Nat} (hj:j<=p.size):val rk (kas_rev p i j) k=if i<=k/\k<j then val rk p (i+j - 1 - k) else val rk p k:=by
 unfold val kas_rev
 rw [QW,getElem?_mirror_all hj]
 by_cases h:i<=k/\k<j
 ·rw [if_pos h,if_pos h,←QW]
 ·rw [if_neg h,if_neg h,←QW]
theorem aiU {src d k:Nat} (hs:src<p.size) (hd:d<=src):val rk (bubble p src d) k=if k=src - d then val rk p src else if src - d<k/\k<=src then val rk p (k - 1) else val rk p k:=by
 unfold val
 rw [QW,getElem?_bubble hs d hd k]
 by_cases h:k=src - d
 ·rw [if_pos h,if_pos h,←QW]
 ·rw [if_neg h,if_neg h]
  by_cases h2:src - d<k/\k<=src
  ·rw [if_pos h2,if_pos h2,←QW]
  ·rw [if_neg h2,if_neg h2,←QW]
theorem OKp.rev (h:OKp n p) (i j:Nat):OKp n (kas_rev p i j):=(mirror_perm p i j _).trans h
theorem OKp.bub (h:OKp n p) (i j:Nat):OKp n (bubble p i j):=(bubble_perm p i j).trans h
theorem aaA {m q k:Nat} (hm:m<=p.size) (hq:q+1<=m) (h:agn rk p m q):val rk (kas_rev p (m - (q+1)) m) k=val rk p k:=by
 rw [acy hm]
 split
 ·rename_i hk
  rw [h _ (by omega) (by omega),h k hk.1 hk.2]
 ·rfl
end
variable {rk:Nat->Int}{n:Nat}{cmp:Nat->Nat->(Bool->SP0)->SP0}
section
variable {s:Shared} (hc:∀ i j (C:Bool->SP0),i<n->j<n->C (decide (rk i<rk j)) s->cmp i j C s)
include hc
theorem add {α:Type}{p:Array Nat}{a b:Nat}{k:Bool->KasT α}{Q:α->SP0} (h:OKp n p) (ha:a<n) (hb:b<n) (h1:val rk p a<val rk p b->(k true).kasWp cmp Q s) (h2:val rk p b<=val rk p a->(k false).kasWp cmp Q s):
  (KasT.ask (p.getD a 0) (p.getD b 0) k).kasWp cmp Q s:=by
 refine hc _ _ _ (h.lt ha) (h.lt hb) ?_
 by_cases hl:rk (p.getD a 0)<rk (p.getD b 0)
 ·simp only [hl,decide_true]; exact h1 hl
 ·simp only [hl,decide_false]; exact h2 (Int.not_lt.mp hl)
theorem ahK {p:Array Nat} (h:OKp n p):∀ (f m:Nat) (Q:Nat->SP0),1<=m->m+f<=n->QV rk p m->
  (∀ m',m<=m'->m'<=m+f->QV rk p m'->(m'=m+f ∨ val rk p m' < val rk p (m' - 1))->Q m' s)->(kas_asc p f m).kasWp cmp Q s
 | 0,m,Q,_,_,hs,k=>k m (Nat.le_refl _) (Nat.le_refl _) hs (.inl rfl)
 | f+1,m,Q,h1,h2,hs,k=>by
  refine add hc h (by omega) (by omega) (fun hl=>?_) (fun hl=>?_)
  ·show (if true=true then KasT.ret m else kas_asc p f (m+1)).kasWp cmp Q s
   rw [if_pos rfl]
   exact k m (Nat.le_refl _) (by omega) hs (.inr hl)
  ·show (if false=true then KasT.ret m else kas_asc p f (m+1)).kasWp cmp Q s
   rw [if_neg Bool.false_ne_true]
   refine ahK h f (m+1) Q (by omega) (by omega) (fun i j hij hj=>?_) fun m' a1 a2 a3 a4=>k m' (by omega) (by omega) a3 (a4.elim (fun e=> .inl (by omega)) .inr)
   by_cases hjm:j<m
   ·exact hs i j hij hjm
   ·have ej:j=m:=by omega
    subst ej
    by_cases him:i<j
    ·exact Int.le_trans (hs i (j - 1) (by omega) (by omega)) hl
    ·have ei:i=j:=by omega
     subst ei; exact Int.le_refl _
theorem acz:∀ (f:Nat) (p:Array Nat) (m q:Nat) (Q:Array Nat × Nat × Nat->SP0),OKp n p->q+1<=m->m+f<=n->adc rk p m->agn rk p m q->
  (∀ p' m' q',OKp n p'->q'+1<=m'->m'<=m+f->adc rk p' m'->agn rk p' m' q'->Q (p',m',q') s)->(kas_desc f p m q).kasWp cmp Q s
 | 0,p,m,q,Q,h,h1,h2,hn,he,k=>k p m q h h1 (Nat.le_refl _) hn he
 | f+1,p,m,q,Q,h,h1,h2,hn,he,k=>by
  have hsz:=h.size
  have grow:∀ {p':Array Nat},(∀ i,val rk p' i=val rk p i)->val rk p m<=val rk p (m - 1)->adc rk p' (m+1):=fun {p'} hv hl i j hij hj=>by
   rw [hv,hv]
   by_cases hjm:j<m
   ·exact hn i j hij hjm
   ·have ej:j=m:=by omega
    subst ej
    by_cases him:i<j
    ·exact Int.le_trans hl (hn i (j - 1) (by omega) (by omega))
    ·have ei:i=j:=by omega
     subst ei; exact Int.le_refl _
  refine add hc h (by omega) (by omega) (fun hl=>?_) (fun hl=>?_)
  ·show (if true=true then (if q > 0 then kas_desc f (kas_rev p (m - (q+1)) m) (m+1) 0 else kas_desc f p (m+1) 0) else _).kasWp cmp Q s
   rw [if_pos rfl]
   have er:∀ {p':Array Nat},agn rk p' (m+1) 0:=fun {p'} i h3 h4=>by
    have e:i=m+1 - 1:=by omega
    rw [e]
   by_cases hq:q > 0
   ·rw [if_pos hq]
    exact acz f _ (m+1) 0 Q (h.rev _ _) (by omega) (by omega) (grow (fun i=>aaA (by omega) h1 he) (Int.le_of_lt hl)) er fun p' m' q' a1 a2 a3 a4 a5=>k p' m' q' a1 a2 (by omega) a4 a5
   ·rw [if_neg hq]
    exact acz f p (m+1) 0 Q h (by omega) (by omega) (grow (fun _=>rfl) (Int.le_of_lt hl)) er fun p' m' q' a1 a2 a3 a4 a5=>k p' m' q' a1 a2 (by omega) a4 a5
  ·show (if false=true then _ else KasT.ask (p.getD (m - 1) 0) (p.getD m 0) fun d=>if d=true then .ret (p,m,q) else kas_desc f p (m+1) (q+1)).kasWp cmp Q s
   rw [if_neg Bool.false_ne_true]
   refine add hc h (by omega) (by omega) (fun hl2=>?_) (fun hl2=>?_)
   ·show (if true=true then KasT.ret (p,m,q) else kas_desc f p (m+1) (q+1)).kasWp cmp Q s
    rw [if_pos rfl]
    exact k p m q h h1 (by omega) hn he
   ·show (if false=true then KasT.ret (p,m,q) else kas_desc f p (m+1) (q+1)).kasWp cmp Q s
    rw [if_neg Bool.false_ne_true]
    have eq:val rk p m=val rk p (m - 1):=Int.le_antisymm hl2 hl
    refine acz f p (m+1) (q+1) Q h (by omega) (by omega) (grow (fun _=>rfl) hl2) (fun i h3 h4=>?_) fun p' m' q' a1 a2 a3 a4 a5=>k p' m' q' a1 a2 (by omega) a4 a5
    have e1:m+1 - 1=m:=by omega
    rw [e1]
    by_cases him:i<m
    ·rw [he i (by omega) him,eq]
    ·have ei:i=m:=by omega
     rw [ei]
theorem aiV {p:Array Nat}{m:Nat}{Q:Nat × Array Nat->SP0} (h:OKp n p) (h1:1<=m) (h2:m<=n) (hn:adc rk p m) (k:∀ m' p',OKp n p'->1<=m'->m'<=n->QV rk p' m'->Q (m',p') s):(kas_tail3 m n p).kasWp cmp Q s:=by
 have hsz:=h.size
 unfold kas_tail3
 rw [KasT.kasWp_bind]
 refine ahK hc (h.rev 0 m) (n - m) m _ h1 (by omega) (fun i j hij hj=>?_) fun m' a1 a2 a3 _=>k m' _ (h.rev 0 m) (by omega) (by omega) a3
 rw [acy (by omega),acy (by omega),if_pos ⟨Nat.zero_le _,by omega⟩,if_pos ⟨Nat.zero_le _,hj⟩]
 exact hn _ _ (by omega) (by omega)
theorem acf {p:Array Nat}{m:Nat}{Q:Nat × Array Nat->SP0} (h:OKp n p) (h2:m+1<=n) (hn:adc rk p (m+1)) (k:∀ m' p',OKp n p'->1<=m'->m'<=n->QV rk p' m'->Q (m',p') s):
  (kas_descPart m n p).kasWp cmp Q s:=by
 unfold kas_descPart
 rw [KasT.kasWp_bind]
 have er:agn rk p (m+1) 0:=fun i h3 h4=>by
  have e:i=m+1 - 1:=by omega
  rw [e]
 refine acz hc (n - (m+1)) p (m+1) 0 _ h (by omega) (by omega) hn er fun p' m' q' a1 a2 a3 a4 a5=>?_
 have hsz:=a1.size
 show (if q' > 0 then kas_tail3 m' n (kas_rev p' (m' - (q'+1)) m') else kas_tail3 m' n p').kasWp cmp Q s
 by_cases hq:q' > 0
 ·rw [if_pos hq]
  refine aiV hc (a1.rev _ _) (by omega) (by omega) (fun i j hij hj=>?_) k
  rw [aaA (by omega) a2 a5,aaA (by omega) a2 a5]
  exact a4 i j hij hj
 ·rw [if_neg hq]
  exact aiV hc a1 (by omega) (by omega) a4 k
theorem alu {p:Array Nat}{Q:Nat × Array Nat->SP0} (h:OKp n p) (hn1:1<=n) (k:∀ m' p',OKp n p'->1<=m'->m'<=n->QV rk p' m'->Q (m',p') s):(kas_count n p).kasWp cmp Q s:=by
 have hsz:=h.size
 unfold kas_count
 rw [KasT.kasWp_bind]
 refine ahK hc h (n - 1) 1 _ (Nat.le_refl _) (by omega) (fun i j hij hj=>by
  have e1:i=0:=by omega
  have e2:j=0:=by omega
  rw [e1,e2]; exact Int.le_refl _) fun m a1 a2 a3 a4=>?_
 by_cases hm:(m == n)=true
 ·rw [if_pos hm]
  exact k m p h a1 (by omega) a3
 ·rw [if_neg hm]
  have hmn:m ≠ n:=by simpa using hm
  have hlast:val rk p m<val rk p (m - 1):=a4.resolve_left (by omega)
  by_cases hm1:m > 1
  ·rw [if_pos hm1]
   refine add hc h (by omega) (by omega) (fun hl=>?_) (fun hl=>?_)
   ·show (if true=true then KasT.ret (m,p) else _).kasWp cmp Q s
    rw [if_pos rfl]
    exact k m p h a1 (by omega) a3
   ·show (if false=true then KasT.ret (m,p) else kas_descPart m n (kas_rev p 0 m)).kasWp cmp Q s
    rw [if_neg Bool.false_ne_true]
    have alleq:∀ i,i<m->val rk p i=val rk p (m - 1):=fun i hi=>by
     have b1:=a3 i (m - 1) (by omega) (by omega)
     have b2:=a3 0 i (Nat.zero_le _) hi
     omega
    have hv:∀ i,val rk (kas_rev p 0 m) i=val rk p i:=fun i=>by
     rw [acy (by omega)]
     split
     ·rename_i hi
      rw [alleq _ (by omega),alleq i hi.2]
     ·rfl
    refine acf hc (h.rev _ _) (by omega) (fun i j hij hj=>?_) k
    rw [hv,hv]
    by_cases hjm:j<m
    ·rw [alleq j hjm,alleq i (by omega)]; exact Int.le_refl _
    ·have ej:j=m:=by omega
     subst ej
     by_cases him:i<j
     ·rw [alleq i him]; exact Int.le_of_lt hlast
     ·have ei:i=j:=by omega
      rw [ei]; exact Int.le_refl _
  ·rw [if_neg hm1]
   have em:m=1:=by omega
   subst em
   refine acf hc h (by omega) (fun i j hij hj=>?_) k
   by_cases hj0:j=0
   ·have:i=0:=by omega
    rw [this,hj0]; exact Int.le_refl _
   ·have ej:j=1:=by omega
    subst ej
    by_cases hi0:i=0
    ·rw [hi0]; exact Int.le_of_lt hlast
    ·have ei:i=1:=by omega
     rw [ei]; exact Int.le_refl _
theorem ade {p:Array Nat}{k:Nat} (h:OKp n p) (hk:k<n) (hs:QV rk p k):∀ (f l r:Nat) (Q:Nat->SP0),l<=r->r<=k->r - l<=f->(∀ i,i<l->val rk p i<=val rk p k)->(∀ i,r<=i->i<k->val rk p k<val rk p i)->
  (∀ l',l'<=k->(∀ i,i<l'->val rk p i<=val rk p k)->(∀ i,l'<=i->i<k->val rk p k<val rk p i)->Q l' s)->(kas_place p k f l r).kasWp cmp Q s
 | 0,l,r,Q,h1,h2,h3,a,b,q=>by
  have e:l=r:=by omega
  subst e
  exact q l h2 a b
 | f+1,l,r,Q,h1,h2,h3,a,b,q=>by
  show (if l >= r then KasT.ret l else .ask (p.getD k 0) (p.getD ((l+r) / 2) 0) fun c=>if c=true then kas_place p k f l ((l+r) / 2) else kas_place p k f ((l+r) / 2+1) r).kasWp cmp Q s
  by_cases hlr:l >= r
  ·rw [if_pos hlr]
   have e:l=r:=by omega
   subst e
   exact q l h2 a b
  ·rw [if_neg hlr]
   refine add hc h hk (by omega) (fun hl=>?_) (fun hl=>?_)
   ·show (if true=true then kas_place p k f l ((l+r) / 2) else kas_place p k f ((l+r) / 2+1) r).kasWp cmp Q s
    rw [if_pos rfl]
    refine ade h hk hs f l ((l+r) / 2) Q (by omega) (by omega) (by omega) a (fun i h4 h5=>?_) q
    exact Int.lt_of_lt_of_le hl (hs _ i h4 h5)
   ·show (if false=true then kas_place p k f l ((l+r) / 2) else kas_place p k f ((l+r) / 2+1) r).kasWp cmp Q s
    rw [if_neg Bool.false_ne_true]
    refine ade h hk hs f ((l+r) / 2+1) r Q (by omega) h2 (by omega) (fun i h4=>?_) b q
    exact Int.le_trans (hs i ((l+r) / 2) (by omega) (by omega)) hl
theorem alv:∀ (f:Nat) (p:Array Nat) (k:Nat) (Q:Array Nat->SP0),OKp n p->k+f=n->QV rk p k->(∀ p',OKp n p'->QV rk p' n->Q p' s)->(kas_bin f p k).kasWp cmp Q s
 | 0,p,k,Q,h,hk,hs,q=>by
  have e:k=n:=by omega
  exact q p h (by rw [←e]; exact hs)
 | f+1,p,k,Q,h,hk,hs,q=>by
  have hsz:=h.size
  show ((kas_place p k k 0 k).bind fun l=>kas_bin f (bubble p k (k - l)) (k+1)).kasWp cmp Q s
  rw [KasT.kasWp_bind]
  refine ade hc h (by omega) hs k 0 k _ (Nat.zero_le _) (Nat.le_refl _) (by omega) (fun i hi=>absurd hi (Nat.not_lt_zero _)) (fun i h1 h2=>absurd h2 (by omega)) fun l hl a b=>?_
  refine alv f _ (k+1) Q (h.bub _ _) (by omega) (fun i j hij hj=>?_) q
  have hb:k - (k - l)=l:=by omega
  rw [aiU (by omega) (by omega),aiU (by omega) (by omega),hb]
  by_cases hi1:i=l
  ·rw [if_pos hi1]
   by_cases hj1:j=l
   ·rw [if_pos hj1]; exact Int.le_refl _
   ·rw [if_neg hj1,if_pos ⟨by omega,by omega⟩]
    exact Int.le_of_lt (b _ (by omega) (by omega))
  ·rw [if_neg hi1]
   by_cases hi2:l<i/\i<=k
   ·rw [if_pos hi2,if_neg (by omega),if_pos ⟨by omega,by omega⟩]
    exact hs _ _ (by omega) (by omega)
   ·rw [if_neg hi2]
    by_cases hj1:j=l
    ·rw [if_pos hj1]; exact a i (by omega)
    ·rw [if_neg hj1]
     by_cases hj2:l<j/\j<=k
     ·rw [if_pos hj2]
      exact hs _ _ (by omega) (by omega)
     ·rw [if_neg hj2]
      exact hs _ _ hij (by omega)
theorem sort_ok {Q:Array Nat->SP0} (hn1:1<=n) (q:∀ p',OKp n p'->QV rk p' n->Q p' s):(kas_sort n).kasWp cmp Q s:=by
 unfold kas_sort
 rw [KasT.kasWp_bind]
 refine alu hc (p:=(List.range n).toArray) (Array.Perm.refl _) hn1 fun m p h h1 h2 hs=>?_
 show (if m<n then kas_bin (n - max m 1) p (max m 1) else KasT.ret p).kasWp cmp Q s
 have em:max m 1=m:=by omega
 by_cases hm:m<n
 ·rw [if_pos hm,em]
  exact alv hc (n - m) p m Q h (by omega) hs q
 ·rw [if_neg hm]
  have e:m=n:=by omega
  exact q p h (by rw [←e]; exact hs)
end
end BX.Srt
end
section
namespace BX
open PySem PySem.Spec L2
open PyProof.Rows hiding St
theorem anx (vs:List Value):(vs.toArray.zip vs.toArray).map (·.2)=vs.toArray:=by
 apply Array.toList_inj.mp
 simp [List.map_snd_zip]
theorem anz (vs:List Value):(arrOf (SortSt.mk' general' (vs.toArray.zip vs.toArray) #[] 7 none)).map (·.2)=vs.toArray:=anx vs
section
variable {prog:Program}{w:World}{A:Around}{E:Value->SP0}{s:Shared}
theorem ahL {l:Addr}{vs:List Value}{Q:Value->SP0} (hl:s.heap.IsList l vs.toArray) (h2:vs.length<2)
  (h:∀ h' D c,(∀ b o,s.heap.get? b=some o->h'.get? b=some o)->h'.get? D=some (lob vs.toArray c)->s.heap.objs.size<=D->Q (.ref D) { s with heap:=h' }):
  wpAny (model prog w) A (call (.builtin "sorted") [.ref l]) Q E s:=by
 have small:vs.length<=sizeLine:=by rw [sizeLine_eq]; omega
 refine Calls.call_function_entry kind_sorted plain_sorted entry_sorted (args_sorted1 _) ?_
 unfold Builtin.«sorted»
 refine wpAny_bind (m:=checkCount "sorted" 1 1 _) (wpAny_pure ?_)
 refine wpAny_bind (collect_list hl ?_ small)
 refine wpAny_bind (wpAny_newList ?_ small)
 generalize hh1:(s.heap.push (seqObj "list" #[] 0)).update s.heap.objs.size (Obj.mapSeq (·++vs.toArray))=h1
 have n1:h1.objs.size=s.heap.objs.size+1:=by rw [←hh1,Heap.size_update,size_push']
 have k1:∀ b o,s.heap.get? b=some o->h1.get? b=some o:=fun b o q=>by
  have hlt:b<s.heap.objs.size:=Heap.lt_size q
  rw [←hh1,Heap.get?_update_ne _ _ _ _ (Nat.ne_of_lt hlt),Heap.get?_push_ne _ _ _ (Nat.ne_of_lt hlt)]
  exact q
 have hD:(h1.push (seqObj "list" vs.toArray 0)).get? h1.objs.size=some (seqObj "list" vs.toArray 0):=Heap.get?_push_size _ rfl
 refine wpAny_bind (wpAny_holding (wpAny_call_entry (s:={ s with heap:=h1.push (seqObj "list" vs.toArray 0) }) slot_list_sort ⟨_,hD,rfl⟩ entry_list_sort ?body (args_list_sort _)))
 case body=>
  rw [list_sort_plain]
  refine wpAny_bind (listItems_at hD rfl ?_)
  refine wpAny_bind (listUpdate_at hD rfl ?_ (by rw [List.size_toArray]; exact small) (Nat.zero_le _))
  obtain ⟨e1,ho1⟩:∃ e1,((h1.push (seqObj "list" vs.toArray 0)).update h1.objs.size (Obj.mapSeq fun _=>(#[]:Array Value))).get? h1.objs.size=some (seqObj "list" #[] e1):=⟨_,get?_update_seq hD fun _=>#[]⟩
  refine wpAny_bind (seqEpoch_at ho1 rfl ?_)
  refine wpAny_bind (wpAny_newTuple ?_ small)
  refine wpAny_bind (wpAny_newList ?_ (Nat.zero_le _))
  refine wpAny_holding ?_
  dsimp only
  have hlt:vs.toArray.size<2:=by rw [List.size_toArray]; exact h2
  rw [if_pos hlt,if_pos hlt]
  refine wpAny_bind (wpAny_pure ?_)
  rw [StateT.run_pure]
  refine wpAny_bind (wpAny_pure ?_)
  dsimp only
  have ho3:((((h1.push (seqObj "list" vs.toArray 0)).update h1.objs.size (Obj.mapSeq fun _=>(#[]:Array Value))).push (seqObj "tuple" vs.toArray 0)).push (seqObj "list" #[] 0)).get? h1.objs.size=some (seqObj "list" #[] e1):=Heap.get?_push_of_some _ (Heap.get?_push_of_some _ ho1)
  refine wpAny_bind (seqEpoch_at ho3 rfl ?_)
  rw [anz]
  refine wpAny_bind (listUpdate_at ho3 rfl ?_ (Nat.zero_le _) (by rw [List.size_toArray]; exact Nat.le_succ_of_le small))
  obtain ⟨c2,hc2⟩:=afq (ws:=vs.toArray) (show _=some (lob #[] e1) from ho3)
  simp only [bne_self_eq_false,zzL,zzN]
  refine wpAny_pure ⟨_,rfl,?_⟩
  refine wpAny_pure ⟨_,rfl,?_⟩
  refine h _ _ c2 (fun b o q=>?_) hc2 (by rw [n1]; exact Nat.le_succ _)
  have q1:=k1 b o q
  have lt1:b<h1.objs.size:=Heap.lt_size q1
  have u1:=Heap.SameBut.update (h1.push (seqObj "list" vs.toArray 0)) h1.objs.size (Obj.mapSeq fun _=>(#[]:Array Value))
  have q2:=(u1.2 b (Nat.ne_of_lt lt1)).trans (Heap.get?_push_of_some _ q1)
  have q3:=Heap.get?_push_of_some { cls:= .type "list",data:= .seq (#[]:Array Value) } (Heap.get?_push_of_some { cls:= .type "tuple",data:= .seq vs.toArray } q2)
  exact ((Heap.SameBut.update _ h1.objs.size (Obj.mapSeq fun _=>vs.toArray)).2 b (Nat.ne_of_lt lt1)).trans q3
end
theorem qV.there {P:Program}{w:World}{H:Hp}{h:Heap}{a:Addr}{o:HO} (x:qV P w H h a o):∃ u,h.get? a=some u:=by
 cases o with
 | lst xs=>obtain ⟨_,_,_,_,e⟩:=x; exact ⟨_,e⟩
 | tup xs=>obtain ⟨_,_,_,u,e,_⟩:=x; exact ⟨_,e⟩
 | dK kvs=>obtain ⟨_,_,_,_,o,_,_,e,_⟩:=x; exact ⟨_,e⟩
 | dT kvs=>obtain ⟨_,_,_,_,o,_,_,e,_⟩:=x; exact ⟨_,e⟩
 | set S n=>obtain ⟨o,_,_,_,e,_⟩:=x; exact ⟨_,e⟩
 | ins C dx fs=>obtain ⟨_,_,_,e,_⟩:=x; exact ⟨_,e⟩
 | own y=>obtain ⟨_,e⟩:=x; exact ⟨_,e⟩
 | xd fs=>obtain ⟨_,⟨_,_,_,e,_⟩,_⟩:=x; exact ⟨_,e⟩
 | rng lo hi=>obtain ⟨_,_,_,e⟩:=x; exact ⟨_,e⟩
 | frz ob u=>obtain ⟨e,_⟩:=x; exact ⟨_,e⟩
 | tbl ps=>exact ⟨_,(show h.get? a=some _ from x)⟩
 | met f y=>exact ⟨_,(show h.get? a=some _ from x)⟩
 | ext φ=>obtain ⟨_,⟨_,e⟩,_⟩:=x; exact ⟨_,e⟩
theorem apN {h:Heap}{L:Addr}{m m':SV} (a:h.Ns L m) (b:h.Ns L m'):m=m':=by
 obtain ⟨o,es,ep,e1,d1,_,q1⟩:=a
 obtain ⟨o',es',ep',e2,d2,_,q2⟩:=b
 rw [e1] at e2; cases e2
 rw [d1] at d2; cases d2
 funext x
 rw [←q1 x,←q2 x]
theorem Inv.grownL {X:Cx}{Kp:List (Addr × Obj)}{σ:St}{H:Hp}{s:Shared}{h':Heap}{m:SV}{D:Addr}{ys:List V}{us:List Value}{c:Nat} (I:Inv X Kp σ H s) (hm:s.heap.Ns X.env.locals m) (hm':h'.Ns X.env.locals m)
  (kp:∀ b o,b ≠ X.env.locals->s.heap.get? b=some o->h'.get? b=some o) (hD:s.heap.get? D=none) (ho:h'.get? D=some (lob us.toArray c)) (rv:jQ ys us) (hz:ys.length<=sizeLine):Inv X Kp σ (upd H D (.lst ys)) { s with heap:=h' }:=by
 have nD:H D=none:=by
  cases e:H D with
  | none=>rfl
  | some o=>obtain ⟨u,q⟩:=qV.there (I.hok D o e); rw [hD] at q; cases q
 have neD:∀ b u,H b=some u->b ≠ D:=fun b u e z=>by rw [z,nD] at e; cases e
 have nL:∀ b u,H b=some u->b ≠ X.env.locals:=fun b u e z=>by rw [z,I.free] at e; cases e
 refine I.step (t':=s.toks) (g':=s.gens) (d':=s.drawn) (ch:=[]) (fun b hb=>nomatch hb) (fun b o hL _ _ e _=>kp b o hL e) (fun b o hL _ _ e _=>⟨o.slots,kp b o hL e⟩) (fun b o _ e n=>?_) (fun b o _ e=>?_) (fun b ws e=>by rw [jp (neD b _ e)]; exact e)
  (fun b ob ws e=>by rw [jp (neD b _ e)]; exact e) (fun b ps e=>⟨#[],by rw [jp (neD b _ e),e]; simp⟩) (fun m2 h2=>by rw [←apN hm h2]; exact hm') (fun b u e=>?_) I.bare
 ·have:b ≠ D:=fun z=>by rw [z,hD] at e; cases e
  rw [jp this]; exact n
 ·by_cases hb:b=X.env.locals
  ·obtain ⟨o',_,_,e',_⟩:=hm'
   exact ⟨o',by rw [hb]; exact e'⟩
  ·exact ⟨o,kp b o hb e⟩
 ·by_cases hb:b=D
  ·subst hb
   rw [jn] at e
   cases e
   exact ⟨hz,us,c,rv,ho⟩
  ·rw [jp hb] at e
   refine (I.hok b u e).stay (fun c' o hc' q=>kp c' o ?_ q) (fun c' q=>by rw [jp (neD c' _ q)]; exact q) fun c' ws q=>by rw [jp (neD c' _ q)]; exact q
   rcases hc' with q' | q'
   ·rw [q']; exact nL b u e
   ·exact nL c' _ q'
noncomputable def Qy (p:Int × Int):PyData:= .tuple [.int p.1,.int p.2]
noncomputable def inB (p:Int × Int):Bool:=decide (0<=p.2) && decide (p.2<1000000)
structure PairAt (h:Heap) (u:Value) (p:Int × Int):Prop where
 ex:∃ a o k t t',u= .ref a/\h.get? a=some o/\o.cls= .type "tuple"/\o.data= .seq #[.int p.1 t,.int p.2 t'] k
theorem getD_some {α:Type}{l:List α}{i:Nat}{d x:α} (h:l[i]?=some x):l.getD i d=x:=by simp [List.getD,h]
theorem ajT {us:List Value}{xs:List V} (rv:jQ xs us) (is:List Nat) (h:∀ i ∈ is,i<us.length):jQ (is.map fun i=>xs.getD i .non) (is.map fun i=>us.getD i Value.none):=by
 induction is with
 | nil=>exact .nil
 | cons i is ih=>
  have hi:=h i List.mem_cons_self
  have hl:=rv.length
  obtain ⟨u,e1,e2⟩:=rv.get (show xs[i]?=some (xs[i]'(by omega)) by simp [hl,hi])
  refine .cons ?_ (ih fun j hj=>h j (List.mem_cons_of_mem _ hj))
  show L2.qe (xs.getD i .non) (us.getD i Value.none)
  rw [getD_some e1,getD_some (show xs[i]?=some (xs[i]'(by omega)) by simp [hl,hi])]
  exact e2
theorem ajU {K:Fg}{H:Hp}{ds:LP}{xs:List V} (r:Reps K H ds xs) (is:List Nat) (h:∀ i ∈ is,i<ds.length):Reps K H (is.map fun i=>ds.getD i .none) (is.map fun i=>xs.getD i .non):=by
 induction is with
 | nil=>rfl
 | cons i is ih=>
  have hi:=h i List.mem_cons_self
  obtain ⟨x,e1,e2⟩:=r.get (show ds[i]?=some ds[i] by simp [hi])
  refine ⟨_,_,rfl,?_,ih fun j hj=>h j (List.mem_cons_of_mem _ hj)⟩
  show Rep K H (ds.getD i .none) (xs.getD i .non)
  rw [getD_some e1,getD_some (show ds[i]?=some ds[i] by simp [hi])]
  exact e2
theorem afs {α:Type}{R:α->α->Prop}:∀ {l:List α},l.length<2->l.Pairwise R
 | [],_=> .nil
 | [p],_=>List.pairwise_singleton _ _
 | _::_::_,h=>by simp at h; omega
section
variable {X:Cx}
variable {a b:Expr}{fa fb:RP}{pos p2:Pos}
noncomputable def aro:PyData->OP
 | .int i=>some (.int (-i))
 | _=>none
theorem alw (h:PD X a fa):PD X (.UnaryOp .USub a pos) (fun ρ=>(fa ρ).bind aro):=by
 with_unfolding_all
  refine PE.imp (aoS ak0 h) fun σ H Q ⟨ρ,d,en,q,k⟩=>?_
  cases h1:fa ρ with
  | none=>simp [h1] at q
  | some y=>
   refine ⟨ρ,y,en,h1,fun v H1 s1 r1=>?_⟩
   have q':aro y=some d:=by simpa [h1] using q
   cases y with
   | int i=>cases q'; cases (show v=_ from r1); exact ⟨i,rfl,k _ H1 s1 rfl⟩
   | _=>cases q'
end
variable {X:Cx}
end BX
end
section
namespace BX
open PySem PySem.Spec L2
open PyProof.Rows hiding St
variable {X:Cx}
noncomputable def ad4 (f:Expr->OP):List Expr->Option (LP)
 | []=>some []
 | e::es=>(f e).bind fun d=>(ad4 f es).map fun ds=>d::ds
noncomputable def lit:Nat->Expr->OP
 | 0,_=>none
 | n+1,e=>match e with
  | .Constant (.int i) _ _=>some (.int i)
  | .Constant (.bool b) _ _=>some (.bool b)
  | .Constant .none _ _=>some .none
  | .Constant (.str x) _ _=>some (.str x)
  | .Tuple es _ _=>(ad4 (lit n) es).bind fun ds=>if few ds=true then some (.tuple ds) else none
  | .List es _=>(ad4 (lit n) es).bind fun ds=>if few ds=true then some (.list ds) else none
  | _=>none
theorem PD.as {e:Expr}{F G:RP} (h:PD X e F) (hi:∀ ρ d,G ρ=some d->F ρ=some d):PD X e G:=by
 with_unfolding_all exact (PE.imp h fun σ H Q ⟨ρ,d,en,q,k⟩=>⟨ρ,d,en,hi ρ d q,k⟩)
theorem PAD.as {es:List Expr}{F G:Rho->Option (LP)} (h:PAD X es F) (hi:∀ ρ d,G ρ=some d->F ρ=some d):PAD X es G:=by
 with_unfolding_all exact (PA.imp h fun σ H Q ⟨ρ,d,en,q,k⟩=>⟨ρ,d,en,hi ρ d q,k⟩)
noncomputable def alx (e:Expr):Prop:=∀ (es:List Expr) (env:Env),starEach (e::es) env=(false,eval e env)::starEach es env
theorem aft {f:Expr->OP} (hf:∀ e d,f e=some d->PD X e (cst d)/\alx e):∀ (es:List Expr) (ds:LP),ad4 f es=some ds->PAD X es (fun _=>some ds)
 | [],ds,h=>by cases h; exact jd
 | e::es,ds,h=>by
  cases h1:f e with
  | none=>simp [ad4,h1] at h
  | some d=>
   cases h2:ad4 f es with
   | none=>simp [ad4,h1,h2] at h
   | some r=>
    have:d::r=ds:=by with_unfolding_all simpa [ad4,h1,h2] using h
    subst this
    obtain ⟨p,st⟩:=hf e d h1
    exact (ja p (aft hf es r h2) (st es X.env)).as fun ρ d' q=>by cases q; simp [jk,cst]
theorem ahM:∀ (n:Nat) (e:Expr) (d:PyData),lit n e=some d->PD X e (cst d)/\alx e
 | 0,e,d,h=>by cases h
 | n+1,e,d,h=>by
  unfold lit at h
  split at h
  ·cases h; exact ⟨jg,fun _ _=>rfl⟩
  ·cases h; exact ⟨J9,fun _ _=>rfl⟩
  ·cases h; exact ⟨ac4,fun _ _=>rfl⟩
  ·cases h; exact ⟨afj,fun _ _=>rfl⟩
  ·rename_i es x1 pos
   cases h1:ad4 (lit n) es with
   | none=>simp [h1] at h
   | some ds=>
    by_cases hf:few ds=true
    ·have:PyData.tuple ds=d:=by with_unfolding_all simpa [h1,hf] using h
     subst this
     exact ⟨(ze (aft (ahM n) es ds h1)).as fun ρ d' q=>by cases q; simp [Qh,hf],fun _ _=>rfl⟩
    ·simp [h1,hf] at h
  ·rename_i es pos
   cases h1:ad4 (lit n) es with
   | none=>simp [h1] at h
   | some ds=>
    by_cases hf:few ds=true
    ·have:PyData.list ds=d:=by simpa [h1,hf] using h
     subst this
     exact ⟨(qC (aft (ahM n) es ds h1)).as fun ρ d' q=>by cases q; simp [zA,hf],fun _ _=>rfl⟩
    ·simp [h1,hf] at h
  ·cases h
theorem JM (n:Nat) {e:Expr} (d:PyData) (h:lit n e=some d):PD X e (cst d):=by
 with_unfolding_all exact ((ahM n e d h).1)
end BX
end
section
namespace BX
open PySem L2
open PyProof.Rows hiding St
noncomputable def jT (K:Fg) (x:Str) (st:Stmt):Prop:=
 ∃ (f:Addr) (oc:Value) (od an:Option Addr) (kV doc pm Kc ct:Value) (osl:Array (Option Value)),PySem.W.nsIn K mainGlobals x=some (some (.ref f))/\
  K.lookup f=some ⟨oc,od,.func (PySem.W.fnOf x x (JB st) (jJ st) (jf st) .none kV doc pm an Kc ct),osl⟩/\PySem.W.codeIn K Kc x=true/\PySem.W.keepIn K (.ref f)=true
theorem aly {K:Fg}{x:Str}{st:Stmt}{f:Addr}{oc:Value}{od an:Option Addr}{kV doc pm Kc ct:Value}{osl:Array (Option Value)} (a:PySem.W.nsIn K mainGlobals x=some (some (.ref f)))
  (l:K.lookup f=some ⟨oc,od,.func (PySem.W.fnOf x x (JB st) (jJ st) (jf st) .none kV doc pm an Kc ct),osl⟩) (c:PySem.W.codeIn K Kc x=true) (k:PySem.W.keepIn K (.ref f)=true):jT K x st:=
 ⟨f,oc,od,an,kV,doc,pm,Kc,ct,osl,a,l,c,k⟩
noncomputable abbrev jt (x:Str) (st:Stmt) (ps:List Str):Prop:=∀ (kV doc pm:Value) (an:Option Addr) (Kc ct:Value) (us:List Value),us.length=ps.length->bindArgs (PySem.W.fnOf x x (JB st) (jJ st) (jf st) .none kV doc pm an Kc ct) ⟨us,[]⟩=pure (ps.zip us)
theorem jT.callee {P:Program}{w:World}{K:Fg}{mg:SV}{base h:Heap}{x:Str}{st:Stmt}{ps:List Str}{k n:Nat}{g:LP->OP} (T:jT K x st) (X:K.In h) (G:h.Ns mainGlobals mg)
  (hb:jt x st ps) (F:∀ (f:Addr) (fd:FuncData),Fun K x x st f fd->FnOk P w K mg base CX0 k f fd ps (Pur K n g)):jm P w K mg base x ps k n g:=by
 obtain ⟨f,oc,od,an,kV,doc,pm,Kc,ct,osl,a,l,c,kp⟩:=T
 have F1:=ac3 (st:=st) l c kp
 exact ⟨f,_,F f _ F1,PySem.W.mg_of X G a,kp,F1.binds hb⟩
theorem alz {K:Fg}{mg:SV}{h:Heap}{x:Str}{a:Addr}{ob:Obj}{ds:LP} (X:K.In h) (G:h.Ns mainGlobals mg) (e:PySem.W.nsIn K mainGlobals x=some (some (.ref a))) (l:K.lookup a=some ob)
  (hc:ob.cls= .type "tuple") (hi:∃ (its:Array Value) (n:Nat) (xs:List V),ob.data= .seq its n/\its.size<=sizeLine/\jQ xs its.toList/\∀ H,Reps K H ds xs):∃ v u,mg x=some u/\qe v u/\∀ H,Rep K H (.tuple ds) v:=by
 obtain ⟨its,n,xs,h1,h2,h3,h4⟩:=hi
 exact ⟨.ref a,.ref a,PySem.W.mg_of X G e,rfl,fun H=>⟨a,xs,rfl,.inr ⟨ob,its,n,l,hc,h1,h2,h3⟩,h4 H⟩⟩
end BX
end
section
namespace BX
open PySem PySem.Spec L2
open PyProof.Rows hiding St
noncomputable def qu (a:Addr) (xs:List V):HO:= .ext fun h=>xs.length<=sizeLine/\∃ (its:List Value) (n:Nat),jQ xs its/\h.get? a=some { cls:= .type "list",data:= .seq its.toArray n }
noncomputable def aoV (P:Program) (w:World) (a:Addr) (ob:Obj) (ks:List (Key × V)):HO:= .ext fun h=>h.get? a=some ob/\ks.length<=sizeLine/\(a == sysModules)=false/\∃ vs,KV ks vs/\h.DictOf (acv P w) a vs
inductive Seal (P:Program) (w:World) (a:Addr):HO->HO->Prop where
 | l (xs:List V):Seal P w a (qu a xs) (.lst xs)
 | d (ob:Obj) (ks:List (Key × V)):Seal P w a (aoV P w a ob ks) (.frz ob (.dK ks))
theorem Seal.ext {P:Program}{w:World}{a:Addr}{c o:HO} (S:Seal P w a c o):∃ φ,c= .ext φ:=by cases S <;> exact ⟨_,rfl⟩
section
variable {X:Cx}{Kp:List (Addr × Obj)}{σ:St}{H:Hp}{s:Shared}{a:Addr}{c o:HO}
theorem Inv.opened (I:Inv X Kp σ H s) (S:Seal X.prog X.w a c o) (e:H a=some c):Inv X Kp σ (upd H a o) s:=by
 have q:=I.hok a c e
 have mu:Mut (H a):=by rw [e]; obtain ⟨φ,rfl⟩:=S.ext; trivial
 cases S with
 | l xs=>
  obtain ⟨h1,h2,_⟩:=q
  exact I.write (x:=a) (e:=a) (h':=s.heap) (t':=s.toks) mu (.inl rfl) (fun _ _ _ z=>z) h2 h1
 | d ob ks=>
  obtain ⟨h1,h2,_⟩:=q
  exact I.write (x:=a) (e:=a) (h':=s.heap) (t':=s.toks) mu (.inl rfl) (fun _ _ _ z=>z) h2 ⟨h1.1,h1.2⟩
theorem Inv.redesc {o1 o2:HO} (I:Inv X Kp σ H s) (h1:H a=some o1) (n1:∀ y,o1 ≠ .own y) (n2:∀ xs,o1 ≠ .tup xs) (n3:∀ ps,o1 ≠ .tbl ps) (nf:∀ ob u,X.H₀ a ≠ some (.frz ob u)) (new:qV X.prog X.w (upd H a o2) s.heap a o2):Inv X Kp σ (upd H a o2) s:=by
 have na:∀ b,H b=none->upd H a o2 b=none:=fun b z=>by
  have:b ≠ a:=fun q=>by subst q; rw [h1] at z; cases z
  rw [jp this]; exact z
 refine ⟨I.ok,I.os,I.bare,⟨I.base.keep,I.base.slot,fun b u q n hx=>na b (I.base.free b u q n hx),I.base.there,fun b xs q=>?_,fun b ob u q=>?_,fun b ps q=>?_⟩,I.loc,I.cell,na _ I.free,fun x c' q=>na _ (I.freeC x c' q),fun p hp=>?_,fun b u q=>?_,I.len⟩
 ·have q':=I.base.tups b xs q
  have:b ≠ a:=fun z=>by subst z; rw [h1] at q'; cases q'; exact n2 _ rfl
  rw [jp this]; exact q'
 ·have:b ≠ a:=fun z=>by subst z; exact nf _ _ q
  rw [jp this]; exact I.base.frzs b ob u q
 ·obtain ⟨more,q'⟩:=I.base.tbls b ps q
  have:b ≠ a:=fun z=>by subst z; rw [h1] at q'; cases q'; exact n3 _ rfl
  exact ⟨more,by rw [jp this]; exact q'⟩
 ·obtain ⟨g1,g2,g3⟩:=I.pin p hp
  exact ⟨g1,na _ g2,g3⟩
 ·by_cases hb:b=a
  ·subst hb
   rw [jn] at q; cases q
   exact new
  ·rw [jp hb] at q
   refine (I.hok b u q).stay (fun c' v _ z=>z) (fun c' z=>?_) fun c' xs z=>?_
   ·have:c' ≠ a:=fun m=>by subst m; rw [h1] at z; cases z; exact n1 _ rfl
    rw [jp this]; exact z
   ·have:c' ≠ a:=fun m=>by subst m; rw [h1] at z; cases z; exact n2 _ rfl
    rw [jp this]; exact z
theorem Inv.nofrz {φ:Heap->Prop} (I:Inv X Kp σ H s) (e:H a=some (.ext φ)):∀ ob u,X.H₀ a ≠ some (.frz ob u):=fun ob u z=>by
 have:=I.base.frzs _ _ _ z
 rw [e] at this; cases this
theorem Inv.closed (I:Inv X Kp σ H s) (S:Seal X.prog X.w a c o) (e:H a=some o) (nf:∀ ob u,X.H₀ a ≠ some (.frz ob u)):Inv X Kp σ (upd H a c) s:=by
 have q:=I.hok a o e
 cases S with
 | l xs=>
  obtain ⟨h1,its,n,h2,h3⟩:=q
  refine I.write (x:=a) (e:=a) (h':=s.heap) (t':=s.toks) (by rw [e]; trivial) (.inl rfl) (fun _ _ _ z=>z) ⟨_,h3⟩ ⟨⟨h1,its,n,h2,h3⟩,⟨_,h3⟩,?_⟩
  rintro g1 g2 ⟨z1,its,n,z2,z3⟩ k
  exact ⟨z1,its,n,z2,k _ z3⟩
 | d ob ks=>
  obtain ⟨h0,h1,h2,vs,h3,ob',es,ep,h4,h5⟩:=q
  refine Inv.redesc I e (fun _ z=>nomatch z) (fun _ z=>nomatch z) (fun _ z=>nomatch z) nf ⟨⟨h0,h1,h2,vs,h3,ob',es,ep,h4,h5⟩,⟨_,h4⟩,?_⟩
  rintro g1 g2 ⟨z0,z1,z2,vs,z3,ob',es,ep,z4,z5⟩ k
  exact ⟨k _ z0,z1,z2,vs,z3,ob',es,ep,k _ z4,z5⟩
end
mutual
noncomputable def noD:PyData->Bool
 | .tuple ds=>noDs ds
 | .list ds=>noDs ds
 | .dict _=>false
 | _=>true
noncomputable def noDs:LP->Bool
 | []=>true
 | d::ds=>noD d && noDs ds
end
noncomputable def ago (H H':Hp):Prop:=∀ b o,H b=some o->(∀ ob ks,o ≠ .frz ob (.dK ks))->H' b=some o
section
variable {K:Fg}{H H':Hp}
theorem ago.tup {a:Addr}{xs:List V} (e:ago H H') (h:SqT K H a xs):SqT K H' a xs:=by
 rcases h with (h | ⟨o,h⟩) | h
 ·exact .inl (.inl (e _ _ h fun _ _ z=>nomatch z))
 ·exact .inl (.inr ⟨o,e _ _ h fun _ _ z=>nomatch z⟩)
 ·exact .inr h
mutual
theorem Rep.monoM (e:ago H H'):∀ (d:PyData) (v:V),noD d=true->Rep K H d v->Rep K H' d v
 | .none,v,_,h=>h
 | .bool _,v,_,h=>h
 | .int _,v,_,h=>h
 | .str _,v,_,h=>h
 | .tuple ds,v,n,⟨a,xs,h1,h2,h3⟩=>⟨a,xs,h1,ago.tup e h2,Reps.monoM e ds xs (by simpa [noD] using n) h3⟩
 | .list ds,v,n,⟨a,xs,h1,h2,h3⟩=>⟨a,xs,h1,e _ _ h2 (fun _ _ z=>nomatch z),Reps.monoM e ds xs (by simpa [noD] using n) h3⟩
 | .dict ds,v,n,h=>by simp [noD] at n
theorem Reps.monoM (e:ago H H'):∀ (ds:LP) (xs:List V),noDs ds=true->Reps K H ds xs->Reps K H' ds xs
 | [],xs,_,h=>h
 | d::ds,xs,n,⟨x,r,h1,h2,h3⟩=>by
  have n':noD d=true/\noDs ds=true:=by simpa [noDs] using n
  exact ⟨x,r,h1,Rep.monoM e d x n'.1 h2,Reps.monoM e ds r n'.2 h3⟩
end
end
noncomputable def okB (c d:PyData):Bool:=match c with
 | .list _=>noL d
 | .dict _=>noD d
 | _=>false
noncomputable def aaW (P:Program) (w:World) (K:Fg) (H:Hp) (a:Addr):PyData->Prop
 | .list ds=>∃ xs,H a=some (qu a xs)/\Reps K H ds xs
 | .dict kvs=>∃ ks r ob,kvs=(.none,.none)::r/\H a=some (aoV P w a ob ks)/\RepM K H r ks
 | _=>False
theorem aaW.out {P:Program}{w:World}{K:Fg}{H:Hp}{a:Addr}{d:PyData} (h:aaW P w K H a d):∃ c o,Seal P w a c o/\H a=some c/\
  (∀ H',qf H H'->H' a=some o->Rep K H' d (.ref a))/\(∀ H',qf H H'->H' a=some c->aaW P w K H' a d)/\
  ∀ x H3 v,okB d x=true->H3 a=some o->Rep K H3 x v->Rep K (upd H3 a c) x v:=by
 cases d with
 | list ds=>
  obtain ⟨xs,h1,h2⟩:=h
  exact ⟨_,_,.l xs,h1,fun H' e q=>⟨a,xs,rfl,q,Reps.monoE e _ _ h2⟩,fun H' e q=>⟨xs,q,Reps.monoE e _ _ h2⟩,fun x H3 v n q r=>Rep.monoN (fun b u hb m=>by
   have:b ≠ a:=fun z=>by subst z; rw [q] at hb; cases hb; exact m _ rfl
   rw [jp this]; exact hb) x v n r⟩
 | dict kvs=>
  obtain ⟨ks,r,ob,rfl,h1,h2⟩:=h
  exact ⟨_,_,.d ob ks,h1,fun H' e q=>⟨a,rfl,.inr (.inl ⟨ks,ob,q,show RepM K H' r ks from RepM.monoE e _ _ h2⟩)⟩,fun H' e q=>⟨ks,r,ob,rfl,q,RepM.monoE e _ _ h2⟩,fun x H3 v n q r=>Rep.monoM (fun b u hb m=>by
   have:b ≠ a:=fun z=>by subst z; rw [q] at hb; cases hb; exact m _ _ rfl
   rw [jp this]; exact hb) x v n r⟩
 | none=>exact h.elim
 | bool _=>exact h.elim
 | int _=>exact h.elim
 | str _=>exact h.elim
 | tuple _=>exact h.elim
theorem qf.upd {H:Hp}{a:Addr}{φ:Heap->Prop}{o:HO} (e:H a=some (.ext φ)):qf H (upd H a o):=fun b u h n=>by
 have:b ≠ a:=fun z=>by subst z; rw [e] at h; cases h; exact n _ rfl
 rw [jp this]; exact h
structure EnvO (P:Program) (w:World) (K:Fg) (Hs H:Hp) (own:Option Nat) (ρ:Rho) (σ:St):Prop where
 len:ρ.length=σ.length
 sm:jq Hs H
 pl:∀ i d,ρ[i]?=some (some d)->own ≠ some i->∃ v,σ[i]?=some (some v)/\Rep K H d v
 ow:∀ i,own=some i->∃ d a,ρ[i]?=some (some d)/\σ[i]?=some (some (.ref a))/\Hs a=none/\aaW P w K H a d
noncomputable def hid (own:Option Nat) (ρ:Rho):Rho:=match own with
 | none=>ρ
 | some i=>ρ.set i none
section
variable {P:Program}{w:World}{K:Fg}{Hs H H':Hp}{own:Option Nat}{ρ:Rho}{σ:St}
theorem EnvO.of (e:EnvR K H ρ σ) (s:jq Hs H):EnvO P w K Hs H none ρ σ:=⟨e.len,s,fun i d h _=>e.at' i d h,fun i z=>nomatch z⟩
theorem EnvO.to (e:EnvO P w K Hs H none ρ σ):EnvR K H ρ σ:=⟨e.len,fun i d h=>e.pl i d h (fun z=>nomatch z)⟩
theorem EnvO.hid (e:EnvO P w K Hs H own ρ σ):EnvR K H (hid own ρ) σ:=by
 cases own with
 | none=>exact e.to
 | some i=>
  refine ⟨by simp [BX.hid,e.len],fun j d h=>?_⟩
  by_cases hj:i=j
  ·subst hj
   simp only [BX.hid] at h
   rw [List.getElem?_set] at h
   simp at h
  ·simp only [BX.hid] at h
   rw [List.getElem?_set_ne hj] at h
   exact e.pl j d h (fun z=>hj (Option.some.inj z))
theorem aaW.mono {a:Addr}{d:PyData} (h:aaW P w K H a d) (s:jq H H'):aaW P w K H' a d:=by
 obtain ⟨c,o,_,h1,_,h2,_⟩:=h.out
 exact h2 H' (jq.e s) (s _ _ h1)
theorem EnvO.mono (e:EnvO P w K Hs H own ρ σ) (s:jq H H'):EnvO P w K Hs H' own ρ σ:=
 ⟨e.len,e.sm.trans s,fun i d h n=>let ⟨v,h1,h2⟩:=e.pl i d h n; ⟨v,h1,Rep.mono s d v h2⟩,fun i n=>let ⟨d,a,h1,h2,h3,h4⟩:=e.ow i n; ⟨d,a,h1,h2,h3,h4.mono s⟩⟩
theorem EnvO.opn {i:Nat} (e:EnvO P w K Hs H (some i) ρ σ):∃ d a c o,ρ[i]?=some (some d)/\σ[i]?=some (some (.ref a))/\Hs a=none/\Seal P w a c o/\H a=some c/\EnvR K (upd H a o) ρ σ/\jq Hs (upd H a o)/\
  (∀ H3,jq (upd H a o) H3->qf H (upd H3 a c)/\EnvO P w K Hs (upd H3 a c) (some i) ρ σ)/\∀ x H3 v,okB d x=true->H3 a=some o->Rep K H3 x v->Rep K (upd H3 a c) x v:=by
 obtain ⟨d,a,h1,h2,h3,h4⟩:=e.ow i rfl
 obtain ⟨c,o,S,h5,h6,h7,h8⟩:=h4.out
 obtain ⟨φ,rfl⟩:=S.ext
 have s1:qf H (upd H a o):=qf.upd h5
 have sH:∀ {H2:Hp},(∀ b u,b ≠ a->H b=some u->H2 b=some u)->jq Hs H2:=fun {H2} k b u q=>k b u (fun z=>by subst z; rw [h3] at q; cases q) (e.sm b u q)
 refine ⟨d,a,_,o,h1,h2,h3,S,h5,⟨e.len,fun j x q=>?_⟩,sH fun b u n q=>by rw [jp n]; exact q,fun H3 s3=>⟨fun b u q m=>?_,e.len,sH fun b u n q=>by rw [jp n]; exact s3 b u (by rw [jp n]; exact q),fun j x q n=>?_,fun j n=>?_⟩,h8⟩
 ·by_cases hj:i=j
  ·subst hj
   rw [h1] at q; cases q
   exact ⟨.ref a,h2,h6 _ s1 jn⟩
  ·obtain ⟨v,g1,g2⟩:=e.pl j x q (fun z=>hj (Option.some.inj z))
   exact ⟨v,g1,Rep.monoE s1 _ _ g2⟩
 ·have:b ≠ a:=fun z=>by subst z; rw [h5] at q; cases q; exact m _ rfl
  rw [jp this]
  exact s3 b u (by rw [jp this]; exact q)
 ·have s4:qf H (upd H3 a (.ext φ)):=fun b u q m=>by
   have:b ≠ a:=fun z=>by subst z; rw [h5] at q; cases q; exact m _ rfl
   rw [jp this]
   exact s3 b u (by rw [jp this]; exact q)
  obtain ⟨v,g1,g2⟩:=e.pl j x q n
  exact ⟨v,g1,Rep.monoE s4 _ _ g2⟩
 ·cases n
  have s4:qf H (upd H3 a (.ext φ)):=fun b u q m=>by
   have:b ≠ a:=fun z=>by subst z; rw [h5] at q; cases q; exact m _ rfl
   rw [jp this]
   exact s3 b u (by rw [jp this]; exact q)
  exact ⟨d,a,h1,h2,h3,h7 _ s4 jn⟩
end
end BX
end
section
namespace BX
open PySem PySem.Spec L2
open PyProof.Rows hiding St
noncomputable def brw (own:Option Nat) (f:RP):RP:=fun ρ=>match f (hid own ρ) with
 | some d=>some d
 | none=>match own with
  | none=>none
  | some i=>match f ρ,lkp i ρ with
   | some d,some c=>if okB c d=true then some d else none
   | _,_=>none
theorem anA {own:Option Nat}{f:RP}{ρ:Rho}{d:PyData} (h:brw own f ρ=some d):f (hid own ρ)=some d ∨ ∃ i c,own=some i/\f ρ=some d/\ρ[i]?=some (some c)/\okB c d=true:=by
 unfold brw at h
 cases h1:f (hid own ρ) with
 | some x=>rw [h1] at h; exact .inl h
 | none=>
  rw [h1] at h
  cases own with
  | none=>cases h
  | some i=>
   simp only at h
   cases h2:f ρ with
   | none=>rw [h2] at h; cases h
   | some x=>
    rw [h2] at h
    cases h3:lkp i ρ with
    | none=>rw [h3] at h; cases h
    | some c=>
     rw [h3] at h
     simp only at h
     split at h
     ·rename_i ok
      cases h
      exact .inr ⟨i,c,rfl,rfl,qB h3,ok⟩
     ·cases h
section
variable {X:Cx}{e a b c tg src:Expr}{es:List Expr}{st:Stmt}{sts j9:List Stmt}{fa fb fc:RP}{F G:RO}{pos:Pos}{own:Option Nat}
noncomputable def tE (P:Program) (w:World) (K:Fg) (own:Option Nat) (f:RP):TE:=fun σ H Q=>∃ Hs ρ d,EnvO P w K Hs H own ρ σ/\brw own f ρ=some d/\∀ v H',qf H H'->EnvO P w K Hs H' own ρ σ->Rep K H' d v->Q v H'
theorem ahN (h:PD X e fa):PE X e (tE X.prog X.w X.K own fa):=by
 with_unfolding_all
  intro Kp s σ H Q I ⟨Hs,ρ,d,E,hb,k⟩
  rcases anA hb with h1 | ⟨i,c,ho,h1,h2,ok⟩
  ·exact h Kp s σ H Q I ⟨hid own ρ,d,E.hid,h1,fun v H' s r=>k v H' (jq.e s) (E.mono s) r⟩
  ·subst ho
   obtain ⟨d0,a,cl,o,g1,g2,g3,S,g4,env,sm,back,keep⟩:=E.opn
   rw [h2] at g1; cases g1
   refine thn (h Kp s σ (upd H a o) (fun v H3=>jq (upd H a o) H3/\Rep X.K H3 d v) (Inv.opened I S g4) ⟨ρ,d,env,h1,fun v H3 s3 r3=>⟨s3,r3⟩⟩) fun u s1 ⟨v,H3,I3,r,s3,r3⟩=>?_
   have e3:H3 a=some o:=s3 _ _ jn
   exact ⟨v,upd H3 a cl,Inv.closed I3 S e3 (by obtain ⟨φ,rfl⟩:=S.ext; exact Inv.nofrz I g4),r,k v _ (back H3 s3).1 (back H3 s3).2 (keep d H3 v ok e3 r3)⟩
noncomputable def tT (P:Program) (w:World) (K:Fg) (own:Option Nat) (f:Rho->Option Bool):TT:=fun σ H Q=>∃ Hs ρ d,EnvO P w K Hs H own ρ σ/\f ρ=some d/\∀ H',qf H H'->EnvO P w K Hs H' own ρ σ->Q d H'
theorem alA {tc:Rho->Option Bool} (h:PTD X e tc):PT X e (tT X.prog X.w X.K own tc):=by
 with_unfolding_all
  intro Kp s σ H Q I ⟨Hs,ρ,d,E,h1,k⟩
  cases own with
  | none=>exact h Kp s σ H Q I ⟨ρ,d,E.to,h1,fun H' s=>k H' (jq.e s) (E.mono s)⟩
  | some i=>
   obtain ⟨d0,a,cl,o,g1,g2,g3,S,g4,env,sm,back,keep⟩:=E.opn
   refine thn (h Kp s σ (upd H a o) (fun b H3=>b=d/\jq (upd H a o) H3) (Inv.opened I S g4) ⟨ρ,d,env,h1,fun H3 s3=>⟨rfl,s3⟩⟩) fun b s1 ⟨H3,I3,hb,s3⟩=>?_
   subst hb
   exact ⟨upd H3 a cl,Inv.closed I3 S (s3 _ _ jn) (by obtain ⟨φ,rfl⟩:=S.ext; exact Inv.nofrz I g4),k _ (back H3 s3).1 (back H3 s3).2⟩
noncomputable def tF (P:Program) (w:World) (K:Fg) (own:Option Nat) (f:RP):TE:=fun σ H Q=>∃ Hs ρ d,EnvO P w K Hs H own ρ σ/\f ρ=some d/\∀ v H',jq Hs H'->Rep K H' d v->Q v H'
theorem apO (h:PD X e fa):PE X e (tF X.prog X.w X.K own fa):=by
 with_unfolding_all
  intro Kp s σ H Q I ⟨Hs,ρ,d,E,h1,k⟩
  cases own with
  | none=>exact h Kp s σ H Q I ⟨ρ,d,E.to,h1,fun v H' s r=>k v H' (E.sm.trans s) r⟩
  | some i=>
   obtain ⟨d0,a,cl,o,g1,g2,g3,S,g4,env,sm,back,keep⟩:=E.opn
   exact h Kp s σ (upd H a o) Q (Inv.opened I S g4) ⟨ρ,d,env,h1,fun v H3 s3 r3=>k v H3 (sm.trans s3) r3⟩
noncomputable def arp (P:Program) (w:World) (K:Fg) (Hs:Hp) (own:Option Nat) (D:Ends):Out->Prop
 | .nx ρ=>∀ σ H,EnvO P w K Hs H own ρ σ->D.nx σ H
 | .rt d=>∀ v H,jq Hs H->Rep K H d v->D.rt v H
 | .bk ρ=>∀ σ H,EnvO P w K Hs H own ρ σ->D.bk σ H
 | .ct ρ=>∀ σ H,EnvO P w K Hs H own ρ σ->D.ct σ H
noncomputable def tOS (P:Program) (w:World) (K:Fg) (own:Option Nat) (F:RO):TS:=fun D σ H=>∃ Hs ρ o,EnvO P w K Hs H own ρ σ/\F ρ=some o/\arp P w K Hs own D o
@[irreducible] noncomputable def PSO (X:Cx) (own:Option Nat) (st:Stmt) (F:RO):Prop:=PS X st (tOS X.prog X.w X.K own F)
@[irreducible] noncomputable def adf (X:Cx) (own:Option Nat) (sts:List Stmt) (F:RO):Prop:=PSs X sts (tOS X.prog X.w X.K own F)
theorem abK (h:PSD X st F):PSO X none st F:=by
 with_unfolding_all
  refine PS.imp h fun D σ H ⟨Hs,ρ,o,E,q,k⟩=>⟨ρ,o,E.to,q,?_⟩
  cases o with
  | nx ρ'=>exact fun σ' H' s r=>k σ' H' (EnvO.of r (E.sm.trans s))
  | rt d=>exact fun v H' s r=>k v H' (E.sm.trans s) r
  | bk ρ'=>exact fun σ' H' s r=>k σ' H' (EnvO.of r (E.sm.trans s))
  | ct ρ'=>exact fun σ' H' s r=>k σ' H' (EnvO.of r (E.sm.trans s))
theorem Qz (h:adf X none sts F):aao X sts F:=by
 with_unfolding_all
  refine PSs.imp h fun D σ H ⟨ρ,o,en,q,k⟩=>⟨H,ρ,o,EnvO.of en (jq.refl H),q,?_⟩
  cases o with
  | nx ρ'=>exact fun σ' H' E=>k σ' H' E.sm E.to
  | rt d=>exact fun v H' s r=>k v H' s r
  | bk ρ'=>exact fun σ' H' E=>k σ' H' E.sm E.to
  | ct ρ'=>exact fun σ' H' E=>k σ' H' E.sm E.to
theorem qE:adf X own [] qy:=by
 with_unfolding_all
  refine PSs.imp ae9 fun D σ H ⟨Hs,ρ,o,E,q,k⟩=>?_
  cases q
  exact k σ H E
theorem jz (h1 : PSO X own st F) (h2 : adf X own j9 G) : adf X own (st :: j9) (jM F G) := by
  with_unfolding_all
   refine PSs.imp (Qp h1 h2) fun D σ H ⟨Hs, ρ, o, E, q, k⟩ => ?_
   cases hf : F ρ with
   | none => simp [jM, hf] at q
   | some p =>
     refine ⟨Hs, ρ, p, E, hf, ?_⟩
     cases p with
     | nx ρ' => exact fun σ' H' E' => ⟨Hs, ρ', o, E', by simpa [jM, hf] using q, k⟩
     | rt d => have : Out.rt d = o := by simpa [jM, hf] using q
               subst this; exact k
     | bk d => have : Out.bk d = o := by simpa [jM, hf] using q
               subst this; exact k
     | ct d => have : Out.ct d = o := by simpa [jM, hf] using q
               subst this; exact k
theorem QX (h:PD X e fa):PSO X own (.Return (some e) pos) (qq fa):=by
 with_unfolding_all
  refine PS.imp (afc (apO (own:=own) h)) fun D σ H ⟨Hs,ρ,o,E,q,k⟩=>?_
  cases h1:fa ρ with
  | none=>simp [qq,h1] at q
  | some d=>
   have:Out.rt d=o:=by simpa [qq,h1] using q
   subst this
   exact ⟨Hs,ρ,d,E,h1,k⟩
theorem apP {l r:List Stmt}{tc:Rho->Option Bool} (hc:PTD X c tc) (hl:adf X own l F) (hr:adf X own r G):PSO X own (.If c l r pos) (ifS tc F G):=by
 with_unfolding_all
  refine PS.imp (akR (alA (own:=own) hc) hl hr) fun D σ H ⟨Hs,ρ,o,E,q,k⟩=>?_
  cases h1:tc ρ with
  | none=>simp [ifS,h1] at q
  | some x=>
   refine ⟨Hs,ρ,x,E,h1,fun H1 _ E1=>?_⟩
   cases x with
   | true=>rw [if_pos rfl]; exact ⟨Hs,ρ,o,E1,by simpa [ifS,h1] using q,k⟩
   | false=>rw [if_neg Bool.false_ne_true]; exact ⟨Hs,ρ,o,E1,by simpa [ifS,h1] using q,k⟩
theorem EnvO.set {P:Program}{w:World}{K:Fg}{Hs H:Hp}{ρ:Rho}{σ:St}{i:Nat}{d:PyData}{v:V} (E:EnvO P w K Hs H own ρ σ) (hi:own ≠ some i) (r:Rep K H d v):EnvO P w K Hs H own (ρ.set i (some d)) (σ.set i (some v)):=by
 refine ⟨by simp [E.len],E.sm,fun j x q n=>?_,fun j n=>?_⟩
 ·by_cases hj:i=j
  ·subst hj
   rw [List.getElem?_set] at q ⊢
   simp only [zzM] at q ⊢
   by_cases hl:i < ρ.length
   ·rw [if_pos hl] at q
    rw [if_pos (by rw [←E.len]; exact hl)]
    cases q
    exact ⟨v,rfl,r⟩
   ·rw [if_neg hl] at q; cases q
  ·rw [List.getElem?_set_ne hj] at q ⊢
   exact E.pl j x q n
 ·have hj:i ≠ j:=fun z=>by subst z; exact hi n
  rw [List.getElem?_set_ne hj,List.getElem?_set_ne hj]
  exact E.ow j n
theorem Jj (i:Nat) {x:Str}{pos':Pos} (hN:X.N.Nodup) (he:PD X e fa) (ho:own ≠ some i:=by decide) (hi:X.N[i]?=some x:=by rfl) (hx:Loc X.env.scope x:=by first | exact Or.inl rfl | exact Or.inr rfl) (hs:swapsWith e (some (.Name x pos')) pos.line X.env=pure false:=by rfl)
  (hf:X.fn x=true ∨ X.env.scope.names.lookup x=some .local:=by first | exact .inl rfl | exact .inr rfl | assumption):PSO X own (.Assign [.Name x pos'] e pos) (qO (brw own fa) (jH i)):=by
 with_unfolding_all
  refine PS.imp (acY hN hi hx (ahN (own:=own) he) hs hf) fun D σ H ⟨Hs,ρ,o,E,q,k⟩=>?_
  cases h1:brw own fa ρ with
  | none=>simp [qO,h1] at q
  | some d=>
   have:Out.nx (ρ.set i (some d))=o:=by simpa [qO,h1,jH] using q
   subst this
   exact ⟨Hs,ρ,d,E,h1,fun v H1 _ E1 r1=>k _ H1 (E1.set ho r1)⟩
end
section
variable {X:Cx}{e a b c tg src:Expr}{es:List Expr}{st:Stmt}{sts j9 body:List Stmt}{fa fb fc:RP}{F G:RO}{pos:Pos}{own:Option Nat}
@[irreducible] noncomputable def PGO (X:Cx) (own:Option Nat) (tg:Expr) (ga:PyData->Rho->Option Rho):Prop:=
 PG X tg fun v σ H Q=>∃ Hs ρ d ρ',EnvO X.prog X.w X.K Hs H own ρ σ/\Rep X.K H d v/\ga d ρ=some ρ'/\∀ σ' H',EnvO X.prog X.w X.K Hs H' own ρ' σ'->Q σ' H'
@[irreducible] noncomputable def anB (X:Cx) (own:Option Nat) (ts:List Expr) (ga:LP->Rho->Option Rho):Prop:=
 PGs X ts fun vs σ H Q=>∃ Hs ρ ds ρ',EnvO X.prog X.w X.K Hs H own ρ σ/\Reps X.K H ds vs/\ga ds ρ=some ρ'/\∀ σ',EnvO X.prog X.w X.K Hs H own ρ' σ'->Q σ' H
theorem adg (i:Nat) {x:Str} (hN:X.N.Nodup) (ho:own ≠ some i:=by decide) (hi:X.N[i]?=some x:=by rfl) (hx:Loc X.env.scope x:=by first | exact Or.inl rfl | exact Or.inr rfl)
  (hf:X.fn x=true ∨ X.env.scope.names.lookup x=some .local:=by first | exact .inl rfl | exact .inr rfl | assumption):PGO X own (.Name x pos) (jH i):=by
 with_unfolding_all
  refine PG.imp (aaN hN hi hx hf) fun v σ H Q ⟨Hs,ρ,d,ρ',E,r,q,k⟩=>?_
  cases q
  exact k _ H (E.set ho r)
theorem agp:anB X own [] zY:=by
 with_unfolding_all
  refine PGs.imp aiC fun vs σ H Q ⟨Hs,ρ,ds,ρ',E,r,q,k⟩=>?_
  cases ds with
  | nil=>cases r; cases q; exact ⟨rfl,k σ E⟩
  | cons d ds=>cases q
theorem ZT (i:Nat) {x:Str}{gr:LP->Rho->Option Rho} (hN:X.N.Nodup) (h2:anB X own es gr) (ho:own ≠ some i:=by decide) (hi:X.N[i]?=some x:=by rfl) (hx:Loc X.env.scope x:=by first | exact Or.inl rfl | exact Or.inr rfl)
  (hf:X.fn x=true ∨ X.env.scope.names.lookup x=some .local:=by first | exact .inl rfl | exact .inr rfl | assumption)
  (hs:(assignEach (.Name x pos::es) X.env).map (·.2)=assign (.Name x pos) X.env::(assignEach es X.env).map (·.2):=by rfl):anB X own (.Name x pos::es) (j8 (jH i) gr):=by
 with_unfolding_all
  refine PGs.imp (agb (aaN hN hi hx hf) h2 hs) fun vs σ H Q ⟨Hs,ρ,ds,ρ',E,r,q,k⟩=>?_
  cases ds with
  | nil=>cases q
  | cons d ds=>
   obtain ⟨y,rr,e1,r1,r2⟩:=r
   subst e1
   exact ⟨y,rr,rfl,Hs,_,ds,ρ',E.set ho r1,r2,by simpa [j8,jH] using q,k⟩
theorem aiW {k n:Nat}{gr:LP->Rho->Option Rho} (hc:X.calm=true) (h:anB X own es gr) (hn:(assignEach es X.env).length=n:=by rfl) (hst:(assignEach es X.env).findIdx? (·.1)=none:=by rfl):
  PGO X own (.Tuple es k pos) (QQ n gr):=by
 with_unfolding_all
  refine PG.imp (akV hc h hn hst) fun v σ H Q ⟨Hs,ρ,d,ρ',E,r,q,k⟩=>?_
  cases d with
  | tuple ds=>
   obtain ⟨a,xs,e1,e2,e3⟩:=r
   by_cases hl:ds.length=n
   ·exact ⟨a,xs,e1,e2,by rw [e3.length]; exact hl,Hs,ρ,ds,ρ',E,e3,by simpa [QQ,hl] using q,fun σ' E'=>k σ' H E'⟩
   ·simp [QQ,hl] at q
  | _=>simp [QQ] at q
theorem EnvO.rebase {P:Program}{w:World}{K:Fg}{Hs H:Hp}{ρ:Rho}{σ:St} (E:EnvO P w K Hs H own ρ σ):∃ Hb,EnvO P w K Hb H own ρ σ/\(∀ H3,jq Hb H3->qf H H3)/\
  (∀ H3 ρ3 σ3,EnvO P w K Hb H3 own ρ3 σ3->EnvO P w K Hs H3 own ρ3 σ3)/\∀ H3,jq Hb H3->jq Hs H3:=by
 cases own with
 | none=>exact ⟨H,⟨E.len,jq.refl H,E.pl,fun i z=>nomatch z⟩,fun _ s=>jq.e s,fun H3 ρ3 σ3 E3=>⟨E3.len,E.sm.trans E3.sm,E3.pl,fun i z=>nomatch z⟩,fun _ s=>E.sm.trans s⟩
 | some i=>
  obtain ⟨d,a,h1,h2,h3,h4⟩:=E.ow i rfl
  obtain ⟨c,o,S,h5,_⟩:=h4.out
  obtain ⟨φ,rfl⟩:=S.ext
  let Hb:Hp:=fun b=>if b=a then none else H b
  have ha:Hb a=none:=if_pos rfl
  have hb:∀ b,b ≠ a->Hb b=H b:=fun b n=>if_neg n
  have sH:∀ H3,jq Hb H3->jq Hs H3:=fun H3 s b u q=>by
   have n:b ≠ a:=fun z=>by subst z; rw [h3] at q; cases q
   exact s b u (by rw [hb b n]; exact E.sm b u q)
  refine ⟨Hb,⟨E.len,fun b u q=>?_,E.pl,fun j n=>?_⟩,fun H3 s b u q m=>?_,fun H3 ρ3 σ3 E3=>⟨E3.len,sH H3 E3.sm,E3.pl,fun j n=>?_⟩,sH⟩
  ·by_cases n:b=a
   ·subst n; rw [ha] at q; cases q
   ·rw [hb b n] at q; exact q
  ·cases n
   exact ⟨d,a,h1,h2,ha,h4⟩
  ·have n:b ≠ a:=fun z=>by subst z; rw [h5] at q; cases q; exact m _ rfl
   exact s b u (by rw [hb b n]; exact q)
  ·obtain ⟨d3,a3,g1,g2,g3,g4⟩:=E3.ow j n
   refine ⟨d3,a3,g1,g2,?_,g4⟩
   by_cases z:a3=a
   ·rw [z]; exact h3
   ·rw [hb a3 z] at g3
    cases q:Hs a3 with
    | none=>rfl
    | some u=>have:=E.sm _ _ q; rw [g3] at this; cases this
theorem aaX {fi:Rho->Option (LP)}{ga:PyData->Rho->Option Rho} (hp:PassesOwn (model X.prog X.w) X.A X.env X.xe) (hc:X.calm=true) (hi:PID X tg src fi) (hg:PGO X own tg ga) (hb:adf X own body F)
  (hs:∀ x,foldedSetIterable src X.env x=pure x:=by intro _; rfl):PSO X own (.For tg src body [] pos) (Zk (fun ρ=>fi (hid own ρ)) ga F):=by
 with_unfolding_all
  refine PS.imp (acZ hp hc hi hg hb hs) fun D σ H ⟨Hs,ρ,o,E,q,k⟩=>?_
  cases h1:fi (hid own ρ) with
  | none=>simp [Zk,h1] at q
  | some ds=>
   have q':j0 ga F ds ρ=some o:=by simpa [Zk,h1] using q
   refine ⟨hid own ρ,ds,E.hid,h1,fun J H1 s1 Y=>?_⟩
   obtain ⟨Hb,Eb,sE,back,sb⟩:=(E.mono s1).rebase
   refine ⟨fun i m σ H2=>m=ds.length - i/\i<=ds.length/\∃ ρ2,EnvO X.prog X.w X.K Hb H2 own ρ2 σ/\j0 ga F (ds.drop i) ρ2=some o,⟨ds.length,by simp,Nat.zero_le _,ρ,Eb,by simpa using q'⟩,?_⟩
   rintro i m σ2 H2 ⟨rfl,hi,ρ2,en2,q2⟩
   obtain ⟨g1,g2,g3⟩:=Y i H2 (qf.a (sE H2 en2.sm))
   by_cases hlt:i<ds.length
   ·right
    have hd:ds.drop i=ds[i]::ds.drop (i+1):=List.drop_eq_getElem_cons hlt
    rw [hd] at q2
    refine ⟨g1 hlt,fun σ3 H3=>∃ ρ3,EnvO X.prog X.w X.K Hb H3 own ρ3 σ3/\j0 ga F (ds.drop (i+1)) ρ3=some o,fun σ3 H3 ⟨ρ3,a2,a3⟩=>⟨ds.length - (i+1),by omega,rfl,hlt,ρ3,a2,a3⟩,fun x H3 y=>?_⟩
    obtain ⟨s3,r3⟩:=g3 x H3 y
    have r3':=r3 ds[i] (by simp [hlt])
    cases h4:ga ds[i] ρ2 with
    | none=>simp [j0,h4] at q2
    | some ρ4=>
     refine ⟨Hb,ρ2,ds[i],ρ4,en2.mono s3,r3',h4,fun σ5 H5 en5=>?_⟩
     cases h5:F ρ4 with
     | none=>simp [j0,h4,h5] at q2
     | some p=>
      refine ⟨Hb,ρ4,p,en5,h5,?_⟩
      cases p with
      | nx ρ6=>exact fun σ6 H6 en6=>⟨ρ6,en6,by simpa [j0,h4,h5] using q2⟩
      | ct ρ6=>exact fun σ6 H6 en6=>⟨ρ6,en6,by simpa [j0,h4,h5] using q2⟩
      | bk ρ6=>
       have:Out.nx ρ6=o:=by simpa [j0,h4,h5] using q2
       subst this
       exact fun σ6 H6 en6=>k σ6 H6 (back _ _ _ en6)
      | rt d=>
       have:Out.rt d=o:=by simpa [j0,h4,h5] using q2
       subst this
       exact fun v H6 s6 r6=>k v H6 (sb _ s6) r6
   ·left
    have he:i=ds.length:=by omega
    have hn:ds.drop i=[]:=by rw [he]; simp
    rw [hn] at q2
    have:Out.nx ρ2=o:=by simpa [j0] using q2
    subst this
    exact ⟨g2 (by omega),k σ2 H2 (back _ _ _ en2)⟩
noncomputable def zE (tc:Rho->Option Bool) (F:RO):Nat->RO
 | 0,_=>none
 | n+1,ρ=>(tc ρ).bind fun x=>if x=true then (F ρ).bind fun o=>match o with
   | .nx ρ2=>zE tc F n ρ2
   | .ct ρ2=>zE tc F n ρ2
   | .bk ρ2=>some (.nx ρ2)
   | .rt d=>some (.rt d)
  else some (.nx ρ)
theorem aes (n:Nat) {tc:Rho->Option Bool} (hp:PassesOwn (model X.prog X.w) X.A X.env X.xe) (hc:PTD X c tc) (hb:adf X own body F):PSO X own (.While c body [] pos) (zE tc F n):=by
 with_unfolding_all
  refine PS.imp (agc hp (alA (own:=own) hc) hb) fun D σ H ⟨Hs,ρ,o,E,q,k⟩=>?_
  refine ⟨fun m σ H=>∃ ρ,EnvO X.prog X.w X.K Hs H own ρ σ/\zE tc F m ρ=some o,⟨n,ρ,E,q⟩,?_⟩
  rintro m σ2 H2 ⟨ρ2,E2,q2⟩
  cases m with
  | zero=>cases q2
  | succ m=>
   cases h1:tc ρ2 with
   | none=>simp [zE,h1] at q2
   | some x=>
    refine ⟨Hs,ρ2,x,E2,h1,fun H3 _ E3=>?_⟩
    cases x with
    | false=>
     rw [if_neg Bool.false_ne_true]
     have:Out.nx ρ2=o:=by simpa [zE,h1] using q2
     subst this
     exact k σ2 H3 E3
    | true=>
     rw [if_pos rfl]
     refine ⟨fun σ4 H4=>∃ ρ4,EnvO X.prog X.w X.K Hs H4 own ρ4 σ4/\zE tc F m ρ4=some o,fun σ4 H4 ⟨ρ4,a1,a2⟩=>⟨m,Nat.lt_succ_self m,ρ4,a1,a2⟩,?_⟩
     cases h5:F ρ2 with
     | none=>simp [zE,h1,h5] at q2
     | some p=>
      refine ⟨Hs,ρ2,p,E3,h5,?_⟩
      cases p with
      | nx ρ6=>exact fun σ6 H6 en6=>⟨ρ6,en6,by simpa [zE,h1,h5] using q2⟩
      | ct ρ6=>exact fun σ6 H6 en6=>⟨ρ6,en6,by simpa [zE,h1,h5] using q2⟩
      | bk ρ6=>
       have:Out.nx ρ6=o:=by simpa [zE,h1,h5] using q2
       subst this
       exact fun σ6 H6 en6=>k σ6 H6 en6
      | rt d=>
       have:Out.rt d=o:=by simpa [zE,h1,h5] using q2
       subst this
       exact fun v H6 s6 r6=>k v H6 s6 r6
end
theorem ZN {H:Hp}{a:Addr}{o o':HO}:upd (upd H a o) a o'=upd H a o':=by
 funext b
 by_cases h:b=a
 ·subst h; rw [jn,jn]
 ·rw [jp h,jp h,jp h]
section
variable {P:Program}{w:World}{K:Fg}{Hs H:Hp}{ρ:Rho}{σ:St}{i:Nat}
theorem EnvO.put {a:Addr}{d d':PyData}{φ:Heap->Prop}{H3:Hp}{c:HO} (E:EnvO P w K Hs H (some i) ρ σ) (h0:ρ[i]?=some (some d)) (h2:σ[i]?=some (some (.ref a))) (h3:Hs a=none) (h5:H a=some (.ext φ))
  (s3:∀ b u,b ≠ a->H b=some u->H3 b=some u) (ow:aaW P w K (upd H3 a c) a d'):EnvO P w K Hs (upd H3 a c) (some i) (ρ.set i (some d')) σ:=by
 have hi:i < ρ.length:=(List.getElem?_eq_some_iff.mp h0).1
 have s4:qf H (upd H3 a c):=fun b u q m=>by
  have:b ≠ a:=fun z=>by subst z; rw [h5] at q; cases q; exact m _ rfl
  rw [jp this]; exact s3 b u this q
 refine ⟨by simp [E.len],fun b u q=>?_,fun j x q n=>?_,fun j n=>?_⟩
 ·have:b ≠ a:=fun z=>by subst z; rw [h3] at q; cases q
  rw [jp this]; exact s3 b u this (E.sm b u q)
 ·have hj:i ≠ j:=fun z=>n (by rw [z])
  rw [List.getElem?_set_ne hj] at q
  obtain ⟨v,g1,g2⟩:=E.pl j x q n
  exact ⟨v,g1,Rep.monoE s4 _ _ g2⟩
 ·cases n
  exact ⟨d',a,by rw [List.getElem?_set_self hi],h2,h3,ow⟩
theorem EnvO.opnL {ds:LP} (E:EnvO P w K Hs H (some i) ρ σ) (h:ρ[i]?=some (some (.list ds))):∃ a xs,σ[i]?=some (some (.ref a))/\Hs a=none/\H a=some (qu a xs)/\Reps K H ds xs/\EnvR K (upd H a (.lst xs)) ρ σ:=by
 obtain ⟨d,a,h1,h2,h3,h4⟩:=E.ow i rfl
 rw [h] at h1; cases h1
 obtain ⟨xs,h5,h6⟩:=h4
 have s1:qf H (upd H a (.lst xs)):=qf.upd h5
 refine ⟨a,xs,h2,h3,h5,h6,E.len,fun j x q=>?_⟩
 by_cases hj:i=j
 ·subst hj
  rw [h] at q; cases q
  exact ⟨.ref a,h2,a,xs,rfl,jn,Reps.monoE s1 _ _ h6⟩
 ·obtain ⟨v,g1,g2⟩:=E.pl j x q (fun z=>hj (Option.some.inj z))
  exact ⟨v,g1,Rep.monoE s1 _ _ g2⟩
end
section
variable {X:Cx}{e a b c tg src:Expr}{es:List Expr}{st:Stmt}{sts j9 body:List Stmt}{fa fb fc:RP}{F G:RO}{pos:Pos}
noncomputable def anC (P:Program) (w:World) (K:Fg) (i:Nat) (g:RP):TE:=fun σ H Q=>∃ Hs ρ d',EnvO P w K Hs H (some i) ρ σ/\g ρ=some d'/\∀ H',EnvO P w K Hs H' (some i) (ρ.set i (some d')) σ->Q .non H'
noncomputable def agq (i:Nat) (g:RP):RO:=fun ρ=>(g ρ).map fun d=> .nx (ρ.set i (some d))
theorem aaY {i:Nat}{g:RP} (h:PE X e (anC X.prog X.w X.K i g)) (hs:swapsWith e none pos.line X.env=pure false:=by rfl):PSO X (some i) (.Expr e pos) (agq i g):=by
 with_unfolding_all
  refine PS.imp (afb h hs) fun D σ H ⟨Hs,ρ,o,E,q,k⟩=>?_
  cases h1:g ρ with
  | none=>simp [agq,h1] at q
  | some d=>
   have:Out.nx (ρ.set i (some d))=o:=by simpa [agq,h1] using q
   subst this
   exact ⟨Hs,ρ,d,E,h1,fun H' E'=>k σ H' E'⟩
noncomputable def alB (c d:OP):OP:=match c,d with
 | some (.list ds),some d=>if noL d=true/\ds.length<1000000 then some (.list (ds++[d])) else none
 | _,_=>none
noncomputable def apQ (i:Nat) (fa:RP):RP:=fun ρ=>alB (lkp i ρ) (fa ρ)
theorem alC {c d:OP}{r:PyData} (h:alB c d=some r):∃ ds x,c=some (.list ds)/\d=some x/\noL x=true/\ds.length<1000000/\r= .list (ds++[x]):=by
 unfold alB at h
 split at h
 ·split at h
  ·rename_i hc
   cases h
   exact ⟨_,_,rfl,rfl,hc.1,hc.2,rfl⟩
  ·cases h
 ·cases h
theorem aaB {n:Nat} (h:n<1000000):n<sizeLine:=Nat.lt_of_lt_of_le h (by rw [sizeLine_eq]; decide)
theorem aet (i:Nat) {x:Str}{p1 apos cpos:Pos} (h:PD X e fa) (hN:X.N[i]?=some x:=by rfl) (hv:Vis X.env.scope x:=by first | exact Or.inl rfl | exact Or.inr (Or.inl rfl) | exact Or.inr (Or.inr rfl)) (hd:(x == ("__debug__":Str))=false:=by decide)
  (hcd:(x == ("__classdict__":Str))=false:=by decide) (hbase:attributeBase (.Name x p1) "append" X.env (eval (.Name x p1) X.env)=eval (.Name x p1) X.env:=by rfl)
  (hfew:((backTo cpos (starEach [e] X.env)).all (fun x=>!x.1) && (backToKw cpos (keywordEach [] X.env)).all (fun x=>x.1.isSome) && decide ([e].length+([]:List Keyword).length+(if ([]:List Keyword).isEmpty then 0 else 1)<30))=true:=by rfl)
  (hline:(apos.endLine == cpos.line)=true:=by rfl) (hs:starEach [e] X.env=(false,eval e X.env)::starEach [] X.env:=by rfl) (hplain:(backTo cpos (starEach [] X.env)).any (·.1)=false:=by rfl):
  PE X (.Call (.Attribute (.Name x p1) "append" apos) [e] [] cpos) (anC X.prog X.w X.K i (apQ i fa)):=by
 with_unfolding_all
  intro Kp s σ H Q I ⟨Hs,ρ,d',E,hg,k⟩
  obtain ⟨ds,d,q1,q2,hn,hl,rfl⟩:=alC hg
  obtain ⟨a,xs,g2,g3,g4,g5,env⟩:=E.opnL (qB q1)
  have hlen:=g5.length
  have W:=aei (X:=X) (cpos:=cpos) (apos:=apos) PySem.F.plainAttrs_list PySem.F.slot_list_append PySem.F.type_list_append aek (Zm hN hv hd hcd) (qt h zn hs) hbase hfew hline hs hplain
  refine thn (W Kp s σ (upd H a (.lst xs)) (fun v H4=>∃ H3 y,v= .non/\H4=upd H3 a (.lst (xs++[y]))/\jq (upd H a (.lst xs)) H3/\Rep X.K H3 d y) (Inv.opened I (.l xs) g4)
   ⟨.ref a,g2,.inl ⟨rfl,_,SqL.of jn⟩,ρ,d,env,q2,fun y H3 s3 r3=>⟨a,xs,y,rfl,rfl,s3 _ _ jn,by rw [hlen]; exact aaB hl,H3,y,rfl,rfl,s3,r3⟩⟩) fun u s1 ⟨v,H4,I4,r,H3,y,e1,e2,s3,r3⟩=>?_
  subst e1
  have e4:H4 a=some (.lst (xs++[y])):=by rw [e2]; exact jn
  have sb:∀ b u,b ≠ a->H b=some u->H4 b=some u:=fun b u n q=>by rw [e2,jp n]; exact s3 b u (by rw [jp n]; exact q)
  refine ⟨.non,upd H4 a (qu a (xs++[y])),Inv.closed I4 (.l _) e4 (Inv.nofrz I g4),r,k _ (E.put (qB q1) g2 g3 g4 sb ⟨xs++[y],jn,?_⟩)⟩
  have s5:qf H (upd H4 a (qu a (xs++[y]))):=fun b u q m=>by
   have:b ≠ a:=fun z=>by subst z; rw [g4] at q; cases q; exact m _ rfl
   rw [jp this]; exact sb b u this q
  have s6:Jq H3 (upd H4 a (qu a (xs++[y]))):=fun b u q m=>by
   have e3:H3 a=some (.lst xs):=s3 _ _ jn
   have:b ≠ a:=fun z=>by subst z; rw [e3] at q; cases q; exact m _ rfl
   rw [jp this,e2,jp this]; exact q
  exact (Reps.monoE s5 _ _ g5).append ⟨y,[],rfl,Rep.monoN s6 _ _ hn r3,rfl⟩
end
section
variable {X:Cx}{e a b c tg src:Expr}{es:List Expr}{st:Stmt}{sts j9 body:List Stmt}{fa fb fc:RP}{F G:RO}{pos:Pos}
@[irreducible] noncomputable def PN (X:Cx) (e:Expr) (f:RP):Prop:=
 PE X e fun σ H Q=>∃ ρ d,EnvR X.K H ρ σ/\f ρ=some d/\∀ a H',jq H H'->H a=none->aaW X.prog X.w X.K H' a d->Q (.ref a) H'
theorem adh {fr:Rho->Option (LP)} (h:PAD X es fr):PN X (.List es pos) (zA fr):=by
 with_unfolding_all
  intro Kp s σ H Q I ⟨ρ,d,en,hf,k⟩
  cases h1:fr ρ with
  | none=>simp [zA,h1] at hf
  | some ds=>
   by_cases hfew:few ds=true
   ·have:PyData.list ds=d:=by simpa [zA,h1,hfew] using hf
    subst this
    refine thn (afe h Kp s σ H (fun v H2=>∃ a xs H1,v= .ref a/\H1 a=none/\jq H H1/\H2=upd H1 a (.lst xs)/\Reps X.K H1 ds xs) I ⟨ρ,ds,en,h1,fun vs H1 s1 r1=>⟨by rw [r1.length]; exact aau (by simpa [few] using hfew),fun l hl=>⟨l,vs,H1,rfl,hl,s1,rfl,r1⟩⟩⟩) fun u s1 ⟨v,H2,I2,r,a,xs,H1,e1,e2,s1',e3,r1⟩=>?_
    subst e1
    have e4:H2 a=some (.lst xs):=by rw [e3]; exact jn
    have e5:upd H2 a (qu a xs)=upd H1 a (qu a xs):=by rw [e3,ZN]
    have s2:jq H1 (upd H2 a (qu a xs)):=by rw [e5]; exact jw e2
    exact ⟨.ref a,_,Inv.closed I2 (.l xs) e4 (fun ob u z=>by have:=I.base.frzs _ _ _ z; rw [s1'.free e2] at this; cases this),r,k a _ (s1'.trans s2) (s1'.free e2) ⟨xs,jn,Reps.mono s2 _ _ r1⟩⟩
   ·simp [zA,h1,hfew] at hf
noncomputable def aaC (i:Nat) (f:RP) (G:RO):RO:=fun ρ=>(f ρ).bind fun d=>if i < ρ.length then (G (ρ.set i (some d))).bind fun o=>match o with
  | .rt c=>some (.rt c)
  | _=>none
 else none
theorem QA (i:Nat) {x:Str}{pos':Pos} (hN:X.N.Nodup) (he:PN X e fa) (h:adf X (some i) j9 G) (hi:X.N[i]?=some x:=by rfl) (hx:Loc X.env.scope x:=by first | exact Or.inl rfl | exact Or.inr rfl) (hs:swapsWith e (some (.Name x pos')) pos.line X.env=pure false:=by rfl)
  (hf:X.fn x=true ∨ X.env.scope.names.lookup x=some .local:=by first | exact .inl rfl | exact .inr rfl | assumption):adf X none (.Assign [.Name x pos'] e pos::j9) (aaC i fa G):=by
 with_unfolding_all
  refine PSs.imp (Qp (acY hN hi hx he hs hf) h) fun D σ H ⟨Hs,ρ,o,E,q,k⟩=>?_
  cases h1:fa ρ with
  | none=>simp [aaC,h1] at q
  | some d=>
   by_cases hl:i < ρ.length
   ·cases h2:G (ρ.set i (some d)) with
    | none=>simp [aaC,h1,h2] at q
    | some p=>
     cases p with
     | rt c=>
      have:Out.rt c=o:=by simpa [aaC,h1,h2,hl] using q
      subst this
      refine ⟨ρ,d,E.to,h1,fun a H' s hn ow=>⟨Hs,ρ.set i (some d),.rt c,⟨by simp [E.len],E.sm.trans s,fun j y q n=>?_,fun j n=>?_⟩,h2,k⟩⟩
      ·have hj:i ≠ j:=fun z=>n (by rw [z])
       rw [List.getElem?_set_ne hj] at q ⊢
       obtain ⟨v,g1,g2⟩:=E.pl j y q (fun z=>nomatch z)
       exact ⟨v,g1,Rep.mono s _ _ g2⟩
      ·cases n
       refine ⟨d,a,by rw [List.getElem?_set_self hl],by rw [List.getElem?_set_self (by rw [←E.len]; exact hl)],E.sm.free hn,ow⟩
     | nx _=>simp [aaC,h1,h2,hl] at q
     | bk _=>simp [aaC,h1,h2,hl] at q
     | ct _=>simp [aaC,h1,h2,hl] at q
   ·simp [aaC,h1,hl] at q
noncomputable def isI (n:Int):PyData->Bool
 | .int m=>decide (m=n)
 | _=>false
noncomputable def asR (r:List (PyData × PyData)) (n:Int) (d:PyData):List (PyData × PyData):=if r.any (fun p=>isI n p.1)=true then r.map (fun p=>if isI n p.1=true then (p.1,d) else p) else r++[(.int n,d)]
end
section
variable {X:Cx}{e a b c tg src:Expr}{es:List Expr}{fa fb fc:RP}{pos:Pos}
end
section
variable {X:Cx}{e a b c tg src:Expr}{es:List Expr}{fa fb fc:RP}{pos:Pos}
end
end BX
end
section
namespace BX
open PySem PySem.Spec L2
section
open PyProof.Rows hiding St
variable {X:Cx}{e a b c tg src:Expr}{es:List Expr}{fa fb fc:RP}{pos:Pos}{j9:List Expr}
end
end BX
end
section
namespace BX
open PySem PySem.Spec L2
open PyProof.Rows hiding St
section
variable {X:Cx}{e a b c tg src:Expr}{es:List Expr}{fa fb fc:RP}{pos:Pos}{j9:List Expr}
noncomputable def ahO (fa fb:RP):RP:=fun ρ=>(fa ρ).bind fun x=>(asB x).bind fun t=>if t=true then fb ρ else some (.bool false)
theorem apR {op:BoolOp} (ha:PD X a fa):PD X (.BoolOp op [a] pos) fa:=by
 with_unfolding_all exact (apf ha)
theorem apS (ha:PD X a fa) (hb:PD X (.BoolOp .And (b::j9) pos) fb):PD X (.BoolOp .And (a::b::j9) pos) (ahO fa fb):=by
 with_unfolding_all
  refine PE.imp (apg ha hb) fun σ H Q ⟨ρ,d,en,h,k⟩=>?_
  cases h1:fa ρ with
  | none=>simp [ahO,h1] at h
  | some x=>
   cases h2:asB x with
   | none=>simp [ahO,h1,h2] at h
   | some t=>
    have hx:=Qr h2
    subst hx
    refine ⟨ρ,_,en,h1,fun v H1 s1 r1=>⟨t,r1,?_⟩⟩
    cases t with
    | true=>rw [if_pos rfl]; exact ⟨ρ,d,en.mono s1,by simpa [ahO,h1,h2] using h,fun v H2 s2 r2=>k v H2 (s1.trans s2) r2⟩
    | false=>
     rw [if_neg Bool.false_ne_true]
     have:PyData.bool false=d:=by simpa [ahO,h1,h2] using h
     subst this
     exact k _ H1 s1 rfl
noncomputable def arq:PyData->Bool
 | .none=>true
 | _=>false
theorem alD {K:Fg}{H:Hp}{p:PyData}{x:V} (r:Rep K H p x):decide (x= .non)=arq p:=by
 cases p with
 | none=>cases (show x= .non from r); rfl
 | bool b=>cases (show x=_ from r); rfl
 | int b=>cases (show x=_ from r); rfl
 | str b=>cases (show x=_ from r); rfl
 | tuple ds=>obtain ⟨a,xs,h,_⟩:=r; subst h; rfl
 | list ds=>obtain ⟨a,xs,h,_⟩:=r; subst h; rfl
 | dict ds=>obtain ⟨a,h,_⟩:=r; subst h; rfl
noncomputable def anD (p q:PyData):OP:=match q with
 | .none=>some (.bool (arq p))
 | _=>none
theorem anE:OpD X (compareOp .Is) anD:=by
 refine ⟨_,apu,fun p q d x y H Q h rx ry k=>?_⟩
 unfold anD at h
 split at h
 ·cases h
  exact ⟨ry,by rw [alD rx]; exact k _ H (jq.refl H) rfl⟩
 ·cases h
end
section
variable {X:Cx}{e a b c tg src:Expr}{es:List Expr}{fa fb fc:RP}{pos:Pos}
noncomputable def anF (c d:OP):OP:=match c,d with
 | some (.list ds),some (.list es)=>if noLs es=true/\ds.length+es.length<1000000 then some (.list (ds++es)) else none
 | _,_=>none
noncomputable def arr (i:Nat) (fa:RP):RP:=fun ρ=>anF (lkp i ρ) (fa ρ)
theorem alE {c d:OP}{r:PyData} (h:anF c d=some r):∃ ds es,c=some (.list ds)/\d=some (.list es)/\noLs es=true/\ds.length+es.length<1000000/\r= .list (ds++es):=by
 unfold anF at h
 split at h
 ·split at h
  ·rename_i hc
   cases h
   exact ⟨_,_,rfl,rfl,hc.1,hc.2,rfl⟩
  ·cases h
 ·cases h
theorem ajV (i:Nat) {x:Str}{p1 apos cpos:Pos} (h:PD X e fa) (hN:X.N[i]?=some x:=by rfl) (hv:Vis X.env.scope x:=by first | exact Or.inl rfl | exact Or.inr (Or.inl rfl) | exact Or.inr (Or.inr rfl)) (hd:(x == ("__debug__":Str))=false:=by decide)
  (hcd:(x == ("__classdict__":Str))=false:=by decide) (hbase:attributeBase (.Name x p1) "extend" X.env (eval (.Name x p1) X.env)=eval (.Name x p1) X.env:=by rfl)
  (hfew:((backTo cpos (starEach [e] X.env)).all (fun x=>!x.1) && (backToKw cpos (keywordEach [] X.env)).all (fun x=>x.1.isSome) && decide ([e].length+([]:List Keyword).length+(if ([]:List Keyword).isEmpty then 0 else 1)<30))=true:=by rfl)
  (hline:(apos.endLine == cpos.line)=true:=by rfl) (hs:starEach [e] X.env=(false,eval e X.env)::starEach [] X.env:=by rfl) (hplain:(backTo cpos (starEach [] X.env)).any (·.1)=false:=by rfl):
  PE X (.Call (.Attribute (.Name x p1) "extend" apos) [e] [] cpos) (anC X.prog X.w X.K i (arr i fa)):=by
 with_unfolding_all
  intro Kp s σ H Q I ⟨Hs,ρ,d',E,hg,k⟩
  obtain ⟨ds,es,q1,q2,hn,hl,rfl⟩:=alE hg
  obtain ⟨a,xs,g2,g3,g4,g5,env⟩:=E.opnL (qB q1)
  have hlen:=g5.length
  have W:=aei (X:=X) (cpos:=cpos) (apos:=apos) PySem.F.plainAttrs_list PySem.F.slot_list_extend PySem.F.type_list_extend ajF (Zm hN hv hd hcd) (qt h zn hs) hbase hfew hline hs hplain
  refine thn (W Kp s σ (upd H a (.lst xs)) (fun v H4=>∃ H3 zs,v= .non/\H4=upd H3 a (.lst (xs++zs))/\jq (upd H a (.lst xs)) H3/\Reps X.K H3 es zs) (Inv.opened I (.l xs) g4)
   ⟨.ref a,g2,.inl ⟨rfl,_,SqL.of jn⟩,ρ,.list es,env,q2,fun y H3 s3 r3=>?_⟩) fun u s1 ⟨v,H4,I4,r,H3,zs,e1,e2,s3,r3⟩=>?_
  ·obtain ⟨b,zs,z1,z2,z3⟩:=r3
   have hz:=z3.length
   exact ⟨a,b,xs,zs,rfl,by rw [z1],s3 _ _ jn,z2,by rw [hlen,hz]; exact Nat.le_of_lt (aaB hl),H3,zs,rfl,rfl,s3,z3⟩
  subst e1
  have e4:H4 a=some (.lst (xs++zs)):=by rw [e2]; exact jn
  have sb:∀ b u,b ≠ a->H b=some u->H4 b=some u:=fun b u n q=>by rw [e2,jp n]; exact s3 b u (by rw [jp n]; exact q)
  refine ⟨.non,upd H4 a (qu a (xs++zs)),Inv.closed I4 (.l _) e4 (Inv.nofrz I g4),r,k _ (E.put (qB q1) g2 g3 g4 sb ⟨xs++zs,jn,?_⟩)⟩
  have s5:qf H (upd H4 a (qu a (xs++zs))):=fun b u q m=>by
   have:b ≠ a:=fun z=>by subst z; rw [g4] at q; cases q; exact m _ rfl
   rw [jp this]; exact sb b u this q
  have s6:Jq H3 (upd H4 a (qu a (xs++zs))):=fun b u q m=>by
   have e3:H3 a=some (.lst xs):=s3 _ _ jn
   have:b ≠ a:=fun z=>by subst z; rw [e3] at q; cases q; exact m _ rfl
   rw [jp this,e2,jp this]; exact q
  exact (Reps.monoE s5 _ _ g5).append (Reps.monoN s6 _ _ hn r3)
noncomputable def ars:V->List V->Hp->VK->Prop:=fun x vs H Q=>∃ l xs y,x= .ref l/\vs=[.int 0,y]/\H l=some (.lst xs)/\xs.length<sizeLine/\Q .non (upd H l (.lst (y::xs)))
theorem ahP:MtM X "list.insert" ars:=by
 intro Kp s σ H x vs v us Q I rx rv h
 obtain ⟨l,xs,y,rfl,rfl,hH,hz,q⟩:=h
 cases rx
 cases rv with
 | cons r0 rv=>
  obtain ⟨t,rfl⟩:=r0
  obtain ⟨u,rfl,ru⟩:=jQ.one rv
  obtain ⟨z,its,n,r,hl,e⟩:=I.lstM hH
  refine call_meets F.slot_list_insert ⟨_,e,rfl⟩ F.entry_list_insert (F.args_list_insert_3 _ _ _) (AutoSeq1.list_insert_list_int_val_1 l its.toArray n 0 t u (by decide) (by rw [List.size_toArray]; omega)) ⟨e,?_⟩
  refine ⟨.non,_,I.lset (its':=u::its) (t':=s.toks) hH e ?_ (.cons ru r) ?_,rfl,q⟩
  ·simp
  ·rw [List.length_cons]; omega
noncomputable def alF (c z d:OP):OP:=match c,z,d with
 | some (.list ds),some (.int 0),some d=>if noL d=true/\ds.length<1000000 then some (.list (d::ds)) else none
 | _,_,_=>none
noncomputable def apT (i:Nat) (fz fa:RP):RP:=fun ρ=>alF (lkp i ρ) (fz ρ) (fa ρ)
theorem alG {c z d:OP}{r:PyData} (h:alF c z d=some r):∃ ds x,c=some (.list ds)/\z=some (.int 0)/\d=some x/\noL x=true/\ds.length<1000000/\r= .list (x::ds):=by
 unfold alF at h
 split at h
 ·split at h
  ·rename_i hc
   cases h
   exact ⟨_,_,rfl,rfl,rfl,hc.1,hc.2,rfl⟩
  ·cases h
 ·cases h
theorem adi (i:Nat) {x:Str}{p1 apos cpos:Pos}{fz:RP} (hz:PD X b fz) (h:PD X e fa) (hN:X.N[i]?=some x:=by rfl) (hv:Vis X.env.scope x:=by first | exact Or.inl rfl | exact Or.inr (Or.inl rfl) | exact Or.inr (Or.inr rfl)) (hd:(x == ("__debug__":Str))=false:=by decide)
  (hcd:(x == ("__classdict__":Str))=false:=by decide) (hbase:attributeBase (.Name x p1) "insert" X.env (eval (.Name x p1) X.env)=eval (.Name x p1) X.env:=by rfl)
  (hfew:((backTo cpos (starEach [b,e] X.env)).all (fun x=>!x.1) && (backToKw cpos (keywordEach [] X.env)).all (fun x=>x.1.isSome) && decide ([b,e].length+([]:List Keyword).length+(if ([]:List Keyword).isEmpty then 0 else 1)<30))=true:=by rfl)
  (hline:(apos.endLine == cpos.line)=true:=by rfl) (hs:starEach [b,e] X.env=(false,eval b X.env)::starEach [e] X.env:=by rfl) (hs2:starEach [e] X.env=(false,eval e X.env)::starEach [] X.env:=by rfl) (hplain:(backTo cpos (starEach [e] X.env)).any (·.1)=false:=by rfl):
  PE X (.Call (.Attribute (.Name x p1) "insert" apos) [b,e] [] cpos) (anC X.prog X.w X.K i (apT i fz fa)):=by
 with_unfolding_all
  intro Kp s σ H Q I ⟨Hs,ρ,d',E,hg,k⟩
  obtain ⟨ds,d,q1,q0,q2,hn,hl,rfl⟩:=alG hg
  obtain ⟨a,xs,g2,g3,g4,g5,env⟩:=E.opnL (qB q1)
  have hlen:=g5.length
  have W:=aei (X:=X) (cpos:=cpos) (apos:=apos) PySem.F.plainAttrs_list PySem.F.slot_list_insert PySem.F.type_list_insert ahP (Zm hN hv hd hcd) (qt hz (qt h zn hs2) hs) hbase hfew hline hs hplain
  refine thn (W Kp s σ (upd H a (.lst xs)) (fun v H4=>∃ H3 y,v= .non/\H4=upd H3 a (.lst (y::xs))/\jq (upd H a (.lst xs)) H3/\Rep X.K H3 d y) (Inv.opened I (.l xs) g4)
   ⟨.ref a,g2,.inl ⟨rfl,_,SqL.of jn⟩,ρ,.int 0,env,q0,fun y0 H2 s2 r2=>⟨ρ,d,env.mono s2,q2,fun y H3 s3 r3=>?_⟩⟩) fun u s1 ⟨v,H4,I4,r,H3,y,e1,e2,s3,r3⟩=>?_
  ·cases (show y0=V.int 0 from r2)
   exact ⟨a,xs,y,rfl,rfl,s3 _ _ (s2 _ _ jn),by rw [hlen]; exact aaB hl,H3,y,rfl,rfl,s2.trans s3,r3⟩
  subst e1
  have e4:H4 a=some (.lst (y::xs)):=by rw [e2]; exact jn
  have sb:∀ b u,b ≠ a->H b=some u->H4 b=some u:=fun b u n q=>by rw [e2,jp n]; exact s3 b u (by rw [jp n]; exact q)
  refine ⟨.non,upd H4 a (qu a (y::xs)),Inv.closed I4 (.l _) e4 (Inv.nofrz I g4),r,k _ (E.put (qB q1) g2 g3 g4 sb ⟨y::xs,jn,?_⟩)⟩
  have s5:qf H (upd H4 a (qu a (y::xs))):=fun b u q m=>by
   have:b ≠ a:=fun z=>by subst z; rw [g4] at q; cases q; exact m _ rfl
   rw [jp this]; exact sb b u this q
  have s6:Jq H3 (upd H4 a (qu a (y::xs))):=fun b u q m=>by
   have e3:H3 a=some (.lst xs):=s3 _ _ jn
   have:b ≠ a:=fun z=>by subst z; rw [e3] at q; cases q; exact m _ rfl
   rw [jp this,e2,jp this]; exact q
  exact ⟨y,xs,rfl,Rep.monoN s6 _ _ hn r3,Reps.monoE s5 _ _ g5⟩
end
section
variable {X:Cx}{e a b c tg src:Expr}{es:List Expr}{fa fb fc:RP}{pos:Pos}
noncomputable def art:V->V->V->Hp->(Hp->Prop)->Prop:=fun o k v H Q=>∃ a xs n j,o= .ref a/\k= .int n/\H a=some (qu a xs)/\ixN xs.length n=some j/\Q (upd H a (qu a (xs.set j v)))
theorem agr:api X art:=by
 intro Kp s σ H o k v ov iv u Q I ro rk rv ⟨a,xs,n,j,e1,e2,h1,h2,q⟩
 subst e1; subst e2
 refine thn (ak9 Kp s σ (upd H a (.lst xs)) (.ref a) (.int n) v ov iv u (fun H'=>H'=upd (upd H a (.lst xs)) a (.lst (xs.set j v))) (Inv.opened I (.l xs) h1) ro rk rv ⟨a,xs,n,j,rfl,rfl,jn,h2,rfl⟩) fun _ s1 ⟨H',I',e⟩=>?_
 subst e
 have I2:=Inv.closed I' (.l (xs.set j v)) jn (Inv.nofrz I h1)
 rw [ZN,ZN] at I2
 exact ⟨_,I2,q⟩
noncomputable def alH (c v k:OP):OP:=match c,v,k with
 | some (.list ds),some d,some (.int n)=>(ixN ds.length n).map fun j=> .list (ds.set j d)
 | _,_,_=>none
theorem alI {c v k:OP}{o:PyData} (h:alH c v k=some o):∃ ds d n j,c=some (.list ds)/\v=some d/\k=some (.int n)/\ixN ds.length n=some j/\o= .list (ds.set j d):=by
 unfold alH at h
 split at h
 ·rename_i ds d n
  cases q:ixN ds.length n with
  | none=>rw [q] at h; cases h
  | some j=>rw [q] at h; cases h; exact ⟨_,_,_,_,rfl,rfl,rfl,q,rfl⟩
 ·cases h
theorem Reps.set {K:Fg}{H:Hp}{d:PyData}{v:V} (r:Rep K H d v):∀ {ds:LP}{xs:List V} (j:Nat),Reps K H ds xs->Reps K H (ds.set j d) (xs.set j v)
 | [],xs,j,h=>by cases (show xs=[] from h); exact rfl
 | _::ds,xs,0,⟨x,q,h1,h2,h3⟩=>by subst h1; exact ⟨v,q,rfl,r,h3⟩
 | _::ds,xs,j+1,⟨x,q,h1,h2,h3⟩=>by subst h1; exact ⟨x,_,rfl,h2,Reps.set r j h3⟩
noncomputable def anG (i:Nat) (fk fv:RP):RO:=fun ρ=>(alH (lkp i ρ) (brw (some i) fv ρ) (brw (some i) fk ρ)).map fun d=> .nx (ρ.set i (some d))
theorem alJ (i:Nat) {x:Str}{p1 p2:Pos}{fk fv:RP} (hk:PD X b fk) (he:PD X e fv) (hN:X.N[i]?=some x:=by rfl) (hv:Vis X.env.scope x:=by first | exact Or.inl rfl | exact Or.inr (Or.inl rfl) | exact Or.inr (Or.inr rfl))
  (hd:(x == ("__debug__":Str))=false:=by decide) (hcd:(x == ("__classdict__":Str))=false:=by decide)
  (ha:∀ v,assign (.Subscript (.Name x p1) b p2) X.env v=(do
   let ov ←holding [v] (eval (.Name x p1) X.env)
   let iv ←holding [v,ov] (eval b X.env)
   standAt p2
   holding [v,ov,iv] (setItem ov iv v)
   release [v,ov,iv] []):=by intro _; rfl)
  (hs:swapsWithSole [.Subscript (.Name x p1) b p2] e pos.line X.env=pure false:=by rfl) (hw:swappedStores [.Subscript (.Name x p1) b p2] e X.env=pure none:=by rfl)
  (h1:(assignEach [.Subscript (.Name x p1) b p2] X.env).map (·.2)=[assign (.Subscript (.Name x p1) b p2) X.env]:=by rfl):PSO X (some i) (.Assign [.Subscript (.Name x p1) b p2] e pos) (anG i fk fv):=by
 with_unfolding_all
  refine PS.imp (akX (ahN (own:=some i) he) (akW (Zm hN hv hd hcd) (ahN (own:=some i) hk) agr ha) hs hw h1) fun D σ H ⟨Hs,ρ,o,E,q,k⟩=>?_
  cases hp:alH (lkp i ρ) (brw (some i) fv ρ) (brw (some i) fk ρ) with
  | none=>simp [anG,hp] at q
  | some nw=>
   have:Out.nx (ρ.set i (some nw))=o:=by simpa [anG,hp] using q
   subst this
   obtain ⟨ds,d,n,j,q1,q2,q3,hl,rfl⟩:=alI hp
   refine ⟨Hs,ρ,d,E,q2,fun v H1 s1 E1 r1=>?_⟩
   obtain ⟨d0,a,g1,g2,g3,g4⟩:=E1.ow i rfl
   rw [qB q1] at g1; cases g1
   refine ⟨.ref a,g2,Hs,ρ,.int n,E1,q3,fun kv H2 s2 E2 r2=>?_⟩
   cases (show kv=V.int n from r2)
   obtain ⟨d1,a1,f1,f2,f3,f4⟩:=E2.ow i rfl
   rw [qB q1] at f1; cases f1
   rw [g2] at f2; cases f2
   obtain ⟨xs,e2,e3⟩:=f4
   refine ⟨a,xs,n,j,rfl,rfl,e2,by rw [e3.length]; exact hl,k _ _ (E2.put (qB q1) g2 f3 e2 (fun _ _ _ z=>z) ⟨_,jn,?_⟩)⟩
   have s5:qf H2 (upd H2 a (qu a (xs.set j v))):=qf.upd e2
   exact Reps.set (Rep.monoE (s2.trans s5) _ _ r1) j (Reps.monoE s5 _ _ e3)
noncomputable def Jk (ds:LP):OP:=match ds with
 | [.list xs]=>some (.list xs)
 | [.tuple xs]=>some (.list xs)
 | _=>none
noncomputable def Zv (ds:LP):OP:=match ds with
 | [.list xs]=>some (.tuple xs)
 | [.tuple xs]=>some (.tuple xs)
 | _=>none
theorem aaZ:Zo X (.type "tuple") Zv:=by
 refine ⟨_,ad0,fun ds d xs H Q h r k=>?_⟩
 unfold Zv at h
 split at h
 ·cases h
  obtain ⟨x,q,e1,e2,e3⟩:=r
  cases (show q=[] from e3)
  obtain ⟨a,us,g1,g2,g3⟩:=e2
  subst g1
  refine ⟨a,us,e1,.inl ⟨SqL.of g2,fun l hl=>?_⟩⟩
  have s1:=jw (o:= .tup us) hl
  exact k _ _ s1 ⟨l,us,rfl,SqT.of jn,Reps.mono s1 _ _ g3⟩
 ·cases h
  obtain ⟨x,q,e1,e2,e3⟩:=r
  cases (show q=[] from e3)
  obtain ⟨a,us,g1,g2,g3⟩:=e2
  subst g1
  exact ⟨a,us,e1,.inr ⟨g2,k _ H (jq.refl H) ⟨a,us,rfl,g2,g3⟩⟩⟩
 ·cases h
theorem aeu {p:Pos}{fr:Rho->Option (LP)} (hm:X.mg "list"=none) (hv:bootBuiltins "list"=some (.type "list")) (ha:PAD X [e] fr) (hg:Gl X "list":=by rfl)
  (he:starEach [e] X.env=(false,eval e X.env)::starEach [] X.env:=by rfl) (hpl:(backTo pos (starEach [] X.env)).any (·.1)=false:=by rfl):PN X (.Call (.Name "list" p) [e] [] pos) (jy Jk fr):=by
 with_unfolding_all
  intro Kp s σ H Q I ⟨ρ,d,en,hf,k⟩
  cases h1:fr ρ with
  | none=>simp [jy,h1] at hf
  | some as=>
   have q':Jk as=some d:=by simpa [jy,h1] using hf
   have W:=ZQ (X:=X) (pos:=pos) (p:=p) aaP hg hm hv ha (by decide) (by decide) he hpl
   refine thn (W Kp s σ H (fun v H2=>∃ a ys H1 ds,v= .ref a/\H1 a=none/\jq H H1/\H2=upd H1 a (.lst ys)/\d= .list ds/\Reps X.K H1 ds ys) I ⟨ρ,as,en,h1,fun vs H1 s1 r1=>?_⟩) fun u s1 ⟨v,H2,I2,r,a,ys,H1,ds,e1,e2,s1',e3,e0,r1⟩=>?_
   ·unfold Jk at q'
    split at q'
    ·cases q'
     obtain ⟨x,q,z1,z2,z3⟩:=r1
     cases (show q=[] from z3)
     obtain ⟨a,us,g1,g2,g3⟩:=z2
     subst g1
     exact ⟨a,us,z1,.inl (SqL.of g2),fun l hl=>⟨l,us,H1,_,rfl,hl,s1,rfl,rfl,g3⟩⟩
    ·cases q'
     obtain ⟨x,q,z1,z2,z3⟩:=r1
     cases (show q=[] from z3)
     obtain ⟨a,us,g1,g2,g3⟩:=z2
     subst g1
     exact ⟨a,us,z1,.inr g2,fun l hl=>⟨l,us,H1,_,rfl,hl,s1,rfl,rfl,g3⟩⟩
    ·cases q'
   ·subst e1; subst e0
    have e4:H2 a=some (.lst ys):=by rw [e3]; exact jn
    have e5:upd H2 a (qu a ys)=upd H1 a (qu a ys):=by rw [e3,ZN]
    have s2:jq H1 (upd H2 a (qu a ys)):=by rw [e5]; exact jw e2
    exact ⟨.ref a,_,Inv.closed I2 (.l ys) e4 (fun ob u z=>by have:=I.base.frzs _ _ _ z; rw [s1'.free e2] at this; cases this),r,k a _ (s1'.trans s2) (s1'.free e2) ⟨ys,jn,Reps.mono s2 _ _ r1⟩⟩
end
section
variable {X:Cx}{e a b c:Expr}{fa fb fc:RP}{pos p2:Pos}
noncomputable def apU (ds:LP) (lo hi:Option Int):LP:=(ds.drop (HT.sIx ds.length 0 lo)).take (HT.sIx ds.length ds.length hi - HT.sIx ds.length 0 lo)
noncomputable def inI:PyData->Option Int
 | .int i=>some i
 | _=>none
theorem alK {d:PyData}{i:Int} (h:inI d=some i):d= .int i:=by cases d <;> simp [inI] at h; rw [h]
end
section
variable {prog:Program}{w:World}{A:Around}{E:Value->SP0}{s:Shared}
noncomputable def ItA (g:Bool) (h:Heap) (i t:Addr) (k:Nat):Prop:=match g with
 | true=>h.IsListIter i t k
 | false=>h.IsTupleIter i t k
noncomputable def SrA (g:Bool) (h:Heap) (t:Addr) (xs:Array Value):Prop:=match g with
 | true=>h.IsList t xs
 | false=>h.IsTuple t xs
structure Apart2 (z TI TO i1 i2 t1 t2:Addr):Prop where
 nd:[z,TO,i1,i2].Nodup
 ti:TI ∉ [z,TO,i1,i2]
 s1:t1 ∉ [z,TO,i1,i2]
 s2:t2 ∉ [z,TO,i1,i2]
structure Zip2 (ga gb:Bool) (h:Heap) (z TI TO i1 i2 t1 t2:Addr) (f0:Value) (k:Nat):Prop where
 hz:IsZip h z TI TO f0
 hTI:IsPair h TI (.ref i1) (.ref i2)
 hTO:∃ a b,IsPair h TO a b
 g1:ItA ga h i1 t1 k
 g2:ItA gb h i2 t2 k
end
noncomputable def Sq (g:Bool) (K:Fg) (H:Hp) (t:Addr) (xs:List V):Prop:=match g with
 | true=>SqL K H t xs
 | false=>SqT K H t xs
section
variable {X:Cx}
end
section
variable {X:Cx}{e a b c:Expr}{fa fb fc:RP}{pos p2:Pos}
noncomputable def adj (p q:PyData):OP:=match p,q with
 | .list ds,.int k=>if ds.length<1000/\-1000<k/\k<1000 then some (.list (List.replicate k.toNat ds).flatten) else none
 | _,_=>none
theorem Zw:OpD X (binaryOp .Mult) adj:=by
 refine ⟨_,ala,fun p q d x y H Q h rx ry k=>?_⟩
 unfold adj at h
 split at h
 ·rename_i ds n
  split at h
  ·rename_i hc
   cases h
   obtain ⟨l,us,e1,e2,e3⟩:=rx
   cases (show y=V.int n from ry)
   have hl:=e3.length
   refine ⟨l,n,us,e1,rfl,e2,by omega,by omega,?_,fun p hp=>?_⟩
   ·rw [sizeLine_eq]
    have h1:us.length*n.toNat<=1000*1000:=Nat.mul_le_mul (by omega) (by omega)
    exact Nat.le_trans h1 (by decide)
   ·have s1:=jw (o:= .lst (List.replicate n.toNat us).flatten) hp
    exact k _ _ s1 ⟨p,_,rfl,jn,Reps.mono s1 _ _ (e3.rep _)⟩
  ·cases h
 ·cases h
theorem ZR:∀ {is:List Int}{us:List Value},jQ (is.map V.int) us->∀ (j:Nat) (i:Int),is[j]?=some i->∃ t,us[j]?=some (.int i t)
 | [],us,r,j,i,h=>by simp at h
 | i0::is,u::us,.cons r rr,j,i,h=>by
  cases j with
  | zero=>cases h; obtain ⟨t,rfl⟩:=r; exact ⟨t,rfl⟩
  | succ j=>exact ZR rr j i (by simpa using h)
end
structure OneCell (sc:Scope) (y0:Str) (pre post:List (Str × NameKind)):Prop where
 split:sc.names=pre++(y0,.cell)::post
 pre:∀ x ∈ pre,x.2 ≠ .cell
 post:∀ x ∈ post,x.2 ≠ .cell
structure CompOk1 (X:Cx) (sc:Scope) (N':List Str) (cap:List (Option Nat)) (y0:Str):Prop where
 fr:∀ x ∈ sc.names,x.2= .free->X.env.kindOf x.1=some .cell ∨ X.env.kindOf x.1=some .free
 one:∃ pre post,OneCell sc y0 pre post
 lk:sc.names.lookup y0=some .cell
 kind:sc.kind= .function
 nm:∀ x ∈ sc.names,x.2= .local->sc.names.lookup x.1=some .local
 len:cap.length=N'.length
 cp:∀ (j i:Nat) (x:Str),N'[j]?=some x->cap[j]?=some (some i)->X.N[i]?=some x/\sc.names.lookup x=some .free
section
variable {X:Cx}{e:Expr}{fa:RP}
end
theorem aiX {X : Cx} {i0 : Nat} {x0 : Str} {pos0 pos1 : Pos} {el tg src : Expr} {ts : List Expr} {sc : Scope} {ps : Pos} {wi : TI} {g : TG} {tt : TT} {te : TE} {N' : List Str} {cap : List (Option Nat)} (hc : X.calm = true) (hi : PI X tg src wi) (ok : CompOk X sc N' cap)
    (body : ∀ cl C s0 H0 fp pn, PG (blk X N' sc cl C s0 H0 fp pn) tg g /\ PTs (blk X N' sc cl C s0 H0 fp pn) ts tt /\ PE (blk X N' sc cl C s0 H0 fp pn) el te)
    (hN : X.N.Nodup) (hi0 : X.N[i0]? = some x0) (hx0 : Loc X.env.scope x0) (hsw : swapsWith (.ListComp el [⟨tg, src, ts, 0⟩] sc ps) (some (.Name x0 pos0)) pos1.line X.env = pure true)
    (hf0 : X.fn x0 = true ∨ X.env.scope.names.lookup x0 = some .local)
    (hs : ∀ x, foldedSetIterable src X.env x = pure x := by intro _; rfl) : PS X (.Assign [.Name x0 pos0] (.ListComp el [⟨tg, src, ts, 0⟩] sc ps) pos1) (apj (aiM wi cap g tt te) (akU i0)) := by
  intro Kp s σ H Dn I h
  have hfr : ∀ x ∈ sc.names, x.2 = .free -> ∃ c, X.env.cells.lookup x.1 = some c := fun x hx e => I.ok.has x.1 (ok.fr x hx e)
  have hcl := aiL sc X.env hfr
  have clm : ∀ x c, (Ze X.env sc.names []).lookup x = some c -> X.env.cells.lookup x = some c := fun x c e =>
    abH X.env sc.names [] hfr (fun _ z => nomatch z) (x, c) (PySem.mem_of_lookup e)
  generalize hgl : Ze X.env sc.names [] = cl at hcl clm
  rw [exec_Assign_Name_used _ _ _ _ hsw]
  refine wpAny_bind (wpAny_standAt (wpAny_bind ?_))
  show wpAny _ X.A (do let _ ← comprehension (.ListComp el [⟨tg, src, ts, 0⟩] sc ps) sc X.env _ (newList []) false (eval src X.env) (some (assign (.Name x0 pos0) X.env))) _ _ s
  refine wpAny_bind (wpAny_mono (wpAny_comprehension_free (use := some (assign (.Name x0 pos0) X.env)) (Q := fun _ s' => SP X Kp Dn .next s') rfl hs hcl ok.kind ok.nm ?_) (fun _ s' hq => wpAny_pure (wpAny_pure hq)) fun _ _ e => e)
  refine thn (hi Kp s σ H _ I h) fun v s1 h1 => thn h1 fun itv s2 h2 => ?_
  obtain ⟨it, fp, tn, J, H2, e, I2, T, st2, f2, W, ⟨m0, w0⟩, turn⟩ := h2
  subst e
  refine wpAny_newObj_type (wpAny_newFunctionEnv ok.nc (by intro y hy; simp at hy) (fun h4 hns hsb => ?_) ok.kind)
  dsimp only at hns hsb ⊢
  generalize hH3 : s2.heap.push { cls := .type "list", dict := none, data := .seq ([] : List Value).toArray } = h3 at hns hsb ⊢
  have hC : h3.objs.size = s2.heap.objs.size + 1 := by rw [← hH3, Heap.size_push]
  generalize hCC : h3.objs.size = C at hns hsb hC ⊢
  generalize hDD : s2.heap.objs.size = D at hC ⊢
  have hDC : D ≠ C := by rw [hC]; exact Nat.ne_of_lt (Nat.lt_succ_self _)
  have old : ∀ b o, s2.heap.get? b = some o -> h4.get? b = some o := fun b o e => hsb.extBut b o (by have := Heap.lt_size e; rw [hDD] at this; rw [hC]; exact Nat.ne_of_lt (Nat.lt_succ_of_lt this)) (Heap.get?_push_of_some _ (hH3 ▸ Heap.get?_push_of_some _ e))
  have accO : h4.get? D = some { cls := .type "list", data := .seq ([] : List Value).toArray 0 } := hsb.extBut _ _ hDC (Heap.get?_push_of_some _ (by rw [← hH3, ← hDD]; exact Heap.get?_push_size _ rfl))
  have H2D : H2 D = none := I2.hok.fresh (by rw [hDD]; exact Nat.le_refl _)
  have H2C : H2 C = none := I2.hok.fresh (by rw [hDD, hC]; exact Nat.le_succ _)
  have cellsLt : ∀ x c, X.env.cells.lookup x = some c -> c<D := fun x c e => by
    obtain ⟨v, q⟩ := I2.cell x c e
    rw [← hDD]; exact q.lt
  have pinLt : ∀ p ∈ X.pn ++ Kp, p.1<D := fun p hp => by rw [← hDD]; exact Heap.lt_size (I2.pin p hp).1
  have stkLt : ∀ b ∈ frs X.stack, b<D := fun b hb => by
    obtain ⟨_, o, ho, _⟩ := I2.stack.mem hb
    rw [← hDD]; exact Heap.lt_size ho
  have fpLt : ∀ b ∈ fp, b<D := fun b hb => by
    obtain ⟨o, ho, _⟩ := T.obj _ _ st2 b hb
    rw [← hDD]; exact Heap.lt_size ho
  have ltC : ∀ {b : Addr}, b<D -> b ≠ C := fun hb => by rw [hC]; exact Nat.ne_of_lt (Nat.lt_succ_of_lt hb)
  have locLt : X.env.locals<D := by rw [← hDD]; exact I2.lt
  have hDge : s2.heap.objs.size <= D := by rw [hDD]; exact Nat.le_refl _
  have hCge : s2.heap.objs.size <= C := by rw [hDD, hC]; exact Nat.le_succ _
  have bok : (blk X N' sc cl C s2 H2 fp (X.pn ++ Kp)).Ok := by
    refine ⟨I2.ok.mod, ok.kind, I2.ok.glob, I2.ok.blt, hCge, fun x y c e1 e2 => I2.ok.inj x y c (clm x c e1) (clm y c e2), fun x hx => ?_, fun x c z _ => ?_, I2.ok.hd, I2.ok.frames, .inl rfl, fun b hb => ?_, I2.bs, Nat.le_trans I2.ok.bsz I2.sz, fun b o e hb => ?_, fun b hb z => ?_, I2.stack, I2.stkFree⟩
    · have hx' : (relabel sc X.env).names.lookup x = some .cell ∨ (relabel sc X.env).names.lookup x = some .free := hx
      have hm : (x, NameKind.free) ∈ sc.names := by
        rcases hx' with z | z
        · exact J1 (PySem.mem_of_lookup z) ok.nc (.inl rfl)
        · exact J1 (PySem.mem_of_lookup z) ok.nc (.inr rfl)
      obtain ⟨c, hc⟩ := Qq X.env sc.names [] x hm
      rw [hgl] at hc
      exact zq hc
    · exact absurd (show false = true from z) Bool.false_ne_true
    · exact ⟨ltC (fpLt b hb), fun x c e => (f2 b hb).2.2.2.2.1 x c (clm x c e)⟩
    · rcases (f2 b hb).2.2.2.1 with z | z
      · exact I2.ok.noex b o e z
      · have := Heap.lt_size e
        exact absurd (Nat.lt_of_lt_of_le this (Nat.le_trans I2.ok.bsz z)) (Nat.lt_irrefl _)
    · rcases List.mem_cons.mp (I2.stkSub b z) with q | q
      · exact (f2 b hb).2.1 q
      · exact (f2 b hb).2.2.1 q
  have pinB : ∀ p ∈ X.pn ++ Kp, p.1 ≠ C /\ p.1 ∉ frs X.stack := fun p hp => ⟨ltC (pinLt p hp), fun z => by
    rcases List.mem_cons.mp (I2.stkSub p.1 z) with q | q
    · exact (I2.pin p hp).2.2.1 q
    · exact (I2.pin p hp).2.2.2.1 q⟩
  have I4 : Inv (blk X N' sc cl C s2 H2 fp (X.pn ++ Kp)) [] (acq cap σ) H2 { s2 with heap := h4, toks := s2.toks + ([] : List (Str × Value)).length } := by
    refine ⟨bok, rfl, I2.bare, Un.kept old, ⟨_, hns, fun j x v e1 e2 e3 => ?_⟩, fun x c e => ?_, H2C, fun x c e => I2.freeC x c (clm x c e), fun p hp => ?_, I2.hok.kept old, ?_⟩
    · unfold acq at e2
      rw [List.getElem?_map] at e2
      cases e4 : cap[j]? with
      | none => rw [e4] at e2; cases e2
      | some o =>
        rw [e4] at e2
        cases o with
        | none => cases e2
        | some i =>
          obtain ⟨hNi, hf⟩ := ok.cp j i x e1 e4
          have e5 : (σ[i]?).join = some v := by
            have := Option.some.inj e2
            simpa using this
          have e6 : σ[i]? = some (some v) := by
            cases e7 : σ[i]? with
            | none => rw [e7] at e5; cases e5
            | some z => rw [e7] at e5; cases z with
              | none => cases e5
              | some z => cases e5; rfl
          have hk := ok.fr (x, .free) (PySem.mem_of_lookup hf) rfl
          obtain ⟨m, hn, hl⟩ := I2.loc
          have hv : Vis X.env.scope x := by
            rcases hk with z | z
            · exact .inr (.inl z)
            · exact .inr (.inr z)
          obtain ⟨u, r, lk⟩ := hl i x v hNi e6 hv
          have cellX : ∃ c, X.env.cells.lookup x = some c /\ s2.heap.IsCell c (some u) := by
            rcases lk with ⟨k1, _⟩ | ⟨_, c, e, z⟩
            · rcases hk with z | z
              · have z' : X.env.kindOf x = some .cell := z
                rw [k1] at z'; cases z'
              · have z' : X.env.kindOf x = some .free := z
                rw [k1] at z'; cases z'
            · exact ⟨c, e, z⟩
          obtain ⟨c, hc1, ob, hc2, hc3⟩ := cellX
          obtain ⟨c', hc'⟩ := Qq X.env sc.names [] x (PySem.mem_of_lookup hf)
          rw [hgl] at hc'
          obtain ⟨d, hd⟩ := zq hc'
          have ed : d = c := by
            have := clm x d hd
            rw [hc1] at this; cases this; rfl
          subst ed
          refine ⟨u, r, .inr ⟨?_, d, hd, ob, old _ _ hc2, hc3⟩⟩
          exact QP hf
    · obtain ⟨v, ob, ho, hd⟩ := I2.cell x c (clm x c e)
      exact ⟨v, ob, old _ _ ho, hd⟩
    · have hp' : p ∈ X.pn ++ Kp := by simpa [blk] using hp
      obtain ⟨e1, e2, e3, e4, e5⟩ := I2.pin p hp'
      exact ⟨old _ _ e1, e2, (pinB p hp').1, (pinB p hp').2, e5⟩
    · show (acq cap σ).length = N'.length
      unfold acq
      rw [List.length_map]; exact ok.len
  have fpB : ∀ {H' : Hp} {pl : List (Addr × Obj)}, (∀ b ∈ fp, H' b = none) -> (∀ p ∈ pl, p.1 ∉ fp) -> ∀ b ∈ fp, afd (blk X N' sc cl C s2 H2 fp (X.pn ++ Kp)) pl H' b := fun {H' pl} hn hpl b hb =>
    ⟨hn b hb, ltC (fpLt b hb), bok.exfs b hb, .inl hb, fun x c e => (f2 b hb).2.2.2.2.1 x c (clm x c e), fun p hp z => by
      rcases List.mem_append.mp (show p ∈ (X.pn ++ Kp) ++ pl from hp) with q | q
      · exact (f2 b hb).2.2.2.2.2 p q z
      · exact hpl p q (by rw [z]; exact hb)⟩
  have Dfp : ∀ (o : Obj), ∀ p ∈ [(D, o)], p.1 ∉ fp := fun o p hp z => by
    have e : p = (D, o) := by simpa using hp
    subst e
    exact Nat.lt_irrefl _ (fpLt D z)
  have Dfs : D ∉ frs X.stack := fun z => Nat.lt_irrefl _ (stkLt D z)
  obtain ⟨bG, bT, bE⟩ := body cl C s2 H2 fp (X.pn ++ Kp)
  have loop : codeAny (model X.prog X.w) X.A (.compLoop (.ListComp el [⟨tg, src, ts, 0⟩] sc ps) 0 (.ref it) (.ref D) (compEnvC sc cl C X.env)) (compPost (model X.prog X.w) X.A X.xe (some (assign (.Name x0 pos0) X.env)) (fun _ s' => SP X Kp Dn .next s') (.ref D) C)
      { s2 with heap := h4, toks := s2.toks + ([] : List (Str × Value)).length } := by
    refine aem (fun n s' => ∃ i τ ys us k H', Inv (blk X N' sc cl C s2 H2 fp (X.pn ++ Kp)) [] τ H' s' /\ tn i s'.heap /\ (∀ b ∈ fp, H' b = none) /\ jQ ys us /\ s'.heap.get? D = some { cls := .type "list", data := .seq us.toArray k } /\ H' D = none /\ W i n τ ys H') ?_ m0
      ⟨0, _, [], [], 0, H2, I4, T.keep _ _ _ st2 (fun b _ o e => old b o e), fun b hb => (f2 b hb).1, .nil, accO, H2D, w0⟩
    rintro n s5 ⟨i, τ, ys, us, k, H5, I5, st5, fr5, rv5, ho5, hD5, w5⟩
    obtain ⟨hsz, alt⟩ := turn i n τ ys H5 w5
    have I5p : Inv (blk X N' sc cl C s2 H2 fp (X.pn ++ Kp)) [(D, { cls := .type "list", data := .seq us.toArray k })] τ H5 s5 := I5.pins_of fun p hp => by
      have e : p = (D, { cls := .type "list", data := .seq us.toArray k }) := by simpa using hp
      subst e
      exact ⟨ho5, hD5, hDC, Dfs, fun v z => by cases z⟩
    rcases alt with ⟨stop, fin⟩ | ⟨go, step⟩
    · refine thn (T.done (blk X N' sc cl C s2 H2 fp (X.pn ++ Kp)) rfl rfl rfl hc i _ s5 τ H5 NoX I5p (fpB fr5 (Dfp _)) st5 stop) fun r s6 ⟨hr, I6⟩ => ?_
      subst hr
      have ho6 := (I6.pin (D, _) (List.mem_append_right _ (List.mem_singleton.mpr rfl))).1
      obtain ⟨m6, hn6, _⟩ := I6.loc
      have J6 : Inv X Kp σ H5 s6 := I2.call' (ch := fp) I6.os I6.base I6.hok I6.bare fun b hb => ⟨(f2 b hb).2.2.2.1, (f2 b hb).2.1, (f2 b hb).2.2.2.2.1, (f2 b hb).2.2.2.2.2⟩
      have H5C : H5 C = none := I6.free
      have J7 : Inv X Kp σ (upd H5 D (.lst ys)) s6 := Inv.track J6 hD5 (Nat.le_trans I2.sz hDge) (Ne.symm (Nat.ne_of_lt locLt)) (fun x c e => Nat.ne_of_lt (cellsLt x c e)) (fun p hp => Nat.ne_of_lt (pinLt p hp)) ⟨Nat.le_of_lt hsz, us, k, rv5, ho6⟩
      refine wpAny_assign_Name (aec J7 hN hi0 hx0 (show qe (.ref D) (.ref D) from rfl) (fun s8 I8 ⟨a, sb, ha⟩ => ?_) hf0)
      have aC : C ≠ a := by
        rcases ha with z | z
        · rw [z]; exact Ne.symm (ltC locLt)
        · exact Ne.symm (ltC (cellsLt _ _ z))
      refine ⟨m6, hn6.sameBut sb aC, fun h7 hs7 => ?_⟩
      have J8 : Inv X Kp (σ.set i0 (some (.ref D))) (upd H5 D (.lst ys)) { s8 with heap := h7, toks := s8.toks } := I8.turned (it := C) (fun b o hb e => hs7.extBut b o hb e) (by rw [jp (Ne.symm hDC)]; exact H5C) (Ne.symm (ltC locLt)) (.inr (Nat.le_trans I2.sz hCge)) (fun x c e => ltC (cellsLt x c e)) (fun p hp => ltC (pinLt p hp))
      exact ⟨_, _, J8, fin D hD5⟩
    · refine thn (T.item (blk X N' sc cl C s2 H2 fp (X.pn ++ Kp)) rfl rfl rfl hc i _ s5 τ H5 NoX I5p (fpB fr5 (Dfp _)) st5 go) fun r s6 ⟨u, hr, h6⟩ => ?_
      subst hr
      refine thn h6 fun _ s7 ⟨x, H7, I7, r7, y7, st7, fr7⟩ => ?_
      have I7p := I7.pinned (fpB fr7 (Dfp _)) (T.obj _ _ st7)
      refine thn (bG _ s7 τ H7 x u _ I7p r7 (step x H7 y7)) fun _ s8 ⟨τ8, H8, I8, q8⟩ => ?_
      have back : ∀ {τ9 : St} {H9 : Hp} {s9 : Shared}, Inv (blk X N' sc cl C s2 H2 fp (X.pn ++ Kp)) ([(D, { cls := .type "list", data := .seq us.toArray k })] ++ abF fp s7.heap) τ9 H9 s9 ->
          tn (i + 1) s9.heap /\ (∀ b ∈ fp, H9 b = none) /\ s9.heap.get? D = some { cls := .type "list", data := .seq us.toArray k } /\ H9 D = none := fun {τ9 H9 s9} I9 => by
        have pD := I9.pin (D, { cls := .type "list", data := .seq us.toArray k }) (List.mem_append_right _ (List.mem_append_left _ (List.mem_singleton.mpr rfl)))
        refine ⟨T.keep _ _ _ st7 fun b hb o e => (I9.pin (b, o) (List.mem_append_right _ (List.mem_append_right _ (zX hb e)))).1, fun b hb => ?_, pD.1, pD.2.1⟩
        obtain ⟨o, e, _⟩ := T.obj _ _ st7 b hb
        exact (I9.pin (b, o) (List.mem_append_right _ (List.mem_append_right _ (zX hb e)))).2.1
      have drop : ∀ {τ9 : St} {H9 : Hp} {s9 : Shared} {pl : List (Addr × Obj)}, Inv (blk X N' sc cl C s2 H2 fp (X.pn ++ Kp)) pl τ9 H9 s9 -> Inv (blk X N' sc cl C s2 H2 fp (X.pn ++ Kp)) [] τ9 H9 s9 := fun I9 => I9.pins_of fun p hp => nomatch hp
      refine thn (bT _ s8 τ8 H8 _ I8 q8) fun b s9 ⟨H9, I9, q9⟩ => ?_
      cases b with
      | false =>
        rw [if_neg Bool.false_ne_true] at q9 ⊢
        obtain ⟨m', hm, w9⟩ := q9
        obtain ⟨t9, f9, o9, d9⟩ := back I9
        exact ⟨m', hm, i + 1, τ8, ys, us, k, H9, drop I9, t9, f9, rv5, o9, d9, w9⟩
      | true =>
        rw [if_pos rfl] at q9 ⊢
        refine thn (bE _ s9 τ8 H9 _ I9 q9) fun y s10 ⟨z, H10, I10, r10, q10⟩ => ?_
        obtain ⟨m', hm, w10⟩ := q10
        obtain ⟨t10, f10, o10, d10⟩ := back I10
        have hl := rv5.length
        refine append_at (hsz := by show us.toArray.size <= sizeLine; rw [List.size_toArray, ← hl]; exact Nat.le_of_lt hsz) o10 fun h11 hs11 hD11 => ?_
        have I11 : Inv (blk X N' sc cl C s2 H2 fp (X.pn ++ Kp)) [] τ8 H10 { s10 with heap := h11, toks := s10.toks } := (drop I10).turned (it := D) (fun b o hb e => hs11.extBut b o hb e) d10 hDC (.inr hDge) (fun x c e => Nat.ne_of_lt (cellsLt x c (clm x c e)))
          (fun p hp => by have hp' : p ∈ X.pn ++ Kp := by simpa [blk] using hp
                          exact Nat.ne_of_lt (pinLt p hp'))
        refine ⟨m', hm, i + 1, τ8, ys ++ [z], us ++ [y], k + 1, H10, I11, T.keep _ _ _ t10 (fun b hb o e => hs11.extBut b o (Nat.ne_of_lt (fpLt b hb)) e), f10, rv5.append (.cons r10 .nil), ?_, d10, w10⟩
        rw [hD11]
        simp
  refine codeAny_compStart_list loop ?_
  exact T.self _ 0 _ _ _ (T.keep _ _ _ st2 (fun b _ o e => old b o e)) loop
theorem alL {K:Fg}{fi:Rho->Option (LP)}{cap:List (Option Nat)}{ga:PyData->Rho->Option Rho}{ft:Rho->Option Bool}{fe:RP}{σ:St}{H:Hp}{Q:VK} (h:tD K (ql fi cap ga ft fe) σ H Q):
  aiM (tDI K fi) cap (tDG K ga) (tDT K ft) (tD K fe) σ H Q:=by
 obtain ⟨ρ,d,en,q,k⟩:=h
 cases h1:fi ρ with
 | none=>simp [ql,h1] at q
 | some ds=>
  by_cases hf:few ds=true
  ·cases h2:jX ga ft fe ds (Qi cap ρ) with
   | none=>simp [ql,h1,hf,h2] at q
   | some ys=>
    have:PyData.list ys=d:=by simpa [ql,h1,hf,h2] using q
    subst this
    refine ⟨ρ,ds,en,h1,fun J H1 s1 Y=>?_⟩
    refine ⟨fun i m τ us H2=>m=ds.length - i/\i<=ds.length/\jq H1 H2/\us.length<=i/\∃ ρ2 zs ws,EnvR K H2 ρ2 τ/\Reps K H2 zs us/\jX ga ft fe (ds.drop i) ρ2=some ws/\ys=zs++ws,
     ⟨ds.length,by simp,Nat.zero_le _,jq.refl _,Nat.le_refl _,Qi cap ρ,[],ys,(en.mono s1).cap cap,rfl,by simpa using h2,rfl⟩,?_⟩
    rintro i m τ us H2 ⟨rfl,hi',s2,hu,ρ2,zs,ws,en2,r2,q2,ey⟩
    have hsm:us.length<sizeLine:=Nat.lt_of_le_of_lt (Nat.le_trans hu hi') (Nat.lt_of_lt_of_le (by simpa [few] using hf) (by rw [sizeLine_eq]; decide:1000000<=sizeLine))
    obtain ⟨g1,g2,g3⟩:=Y i H2 (jq.a s2)
    refine ⟨hsm,?_⟩
    by_cases hlt:i<ds.length
    ·right
     have hd:ds.drop i=ds[i]::ds.drop (i+1):=List.drop_eq_getElem_cons hlt
     rw [hd] at q2
     refine ⟨g1 hlt,fun x H3 y=>?_⟩
     obtain ⟨s3,r3⟩:=g3 x H3 y
     have r3':=r3 ds[i] (by simp [hlt])
     cases h4:ga ds[i] ρ2 with
     | none=>simp [jX,h4] at q2
     | some ρ4=>
      refine ⟨ρ2,ds[i],ρ4,en2.mono s3,r3',h4,fun σ5 H5 s5 en5=>?_⟩
      cases h5:ft ρ4 with
      | none=>simp [jX,h4,h5] at q2
      | some b=>
       refine ⟨ρ4,b,en5,h5,fun H6 s6=>?_⟩
       have s26:=s3.trans (s5.trans s6)
       cases b with
       | false=>
        refine apD ?_
        exact ⟨ds.length - (i+1),by omega,rfl,hlt,s2.trans s26,by omega,ρ4,zs,ws,en5.mono s6,Reps.mono s26 _ _ r2,by simpa [jX,h4,h5] using q2,ey⟩
       | true=>
        refine apE ?_
        cases h6:fe ρ4 with
        | none=>simp [jX,h4,h5,h6] at q2
        | some y=>
         cases h7:jX ga ft fe (ds.drop (i+1)) ρ4 with
         | none=>simp [jX,h4,h5,h6,h7] at q2
         | some ws'=>
          have hw:y::ws'=ws:=by simpa [jX,h4,h5,h6,h7] using q2
          refine ⟨ρ4,y,en5.mono s6,h6,fun v H7 s7 r7=>?_⟩
          refine ⟨ds.length - (i+1),by omega,rfl,hlt,s2.trans (s26.trans s7),by rw [List.length_append]; simp; omega,ρ4,zs++[y],ws',(en5.mono s6).mono s7,(Reps.mono (s26.trans s7) _ _ r2).append ⟨v,[],rfl,r7,rfl⟩,h7,?_⟩
          rw [ey,←hw]; simp
    ·left
     have he:i=ds.length:=by omega
     have hn:ds.drop i=[]:=by rw [he]; simp
     rw [hn] at q2
     have hw:[]=ws:=by simpa [jX] using q2
     subst hw
     have ey':ys=zs:=by simpa using ey
     subst ey'
     exact ⟨g2 (by omega),fun l hl=>k _ _ (s1.trans (s2.trans (jw hl))) ⟨l,us,rfl,jn,Reps.mono (jw hl) _ _ r2⟩⟩
  ·simp [ql,h1,hf] at q
section
variable {X:Cx}{tg src:Expr}{pos pos':Pos}
theorem alM (i:Nat) {x:Str}{el:Expr}{ts:List Expr}{sc:Scope}{ps:Pos}{fi:Rho->Option (LP)}{ga:PyData->Rho->Option Rho}{ft:Rho->Option Bool}{fe:RP} (N':List Str) (cap:List (Option Nat)) (hc:X.calm=true) (hN:X.N.Nodup) (hi:PID X tg src fi) (ok:CompOk X sc N' cap)
  (body:∀ cl C s0 H0 fp pn,PGD (blk X N' sc cl C s0 H0 fp pn) tg ga/\ald (blk X N' sc cl C s0 H0 fp pn) ts ft/\PD (blk X N' sc cl C s0 H0 fp pn) el fe)
  (hi0:X.N[i]?=some x:=by rfl) (hx:Loc X.env.scope x:=by first | exact Or.inl rfl | exact Or.inr rfl) (hsw:swapsWith (.ListComp el [⟨tg,src,ts,0⟩] sc ps) (some (.Name x pos')) pos.line X.env=pure true:=by rfl)
  (hf:X.fn x=true ∨ X.env.scope.names.lookup x=some .local:=by first | exact .inl rfl | exact .inr rfl | assumption)
  (hs:∀ x,foldedSetIterable src X.env x=pure x:=by intro _; rfl):PSD X (.Assign [.Name x pos'] (.ListComp el [⟨tg,src,ts,0⟩] sc ps) pos) (qO (ql fi cap ga ft fe) (jH i)):=by
 with_unfolding_all
  refine PS.imp (aiX (g:=tDG X.K ga) (tt:=tDT X.K ft) (te:=tD X.K fe) hc hi ok (fun cl C s0 H0 fp pn=>body cl C s0 H0 fp pn) hN hi0 hx hsw hf hs) fun D σ H ⟨ρ,o,en,q,k⟩=>alL ?_
  cases h1:ql fi cap ga ft fe ρ with
  | none=>simp [qO,h1] at q
  | some d=>
   have:Out.nx (ρ.set i (some d))=o:=by simpa [qO,h1,jH] using q
   subst this
   exact ⟨ρ,d,en,h1,fun v H1 s1 r1=>k _ H1 s1 ((en.mono s1).set r1)⟩
end
structure Mine (X:Cx) (H:Hp) (b:Addr):Prop where
 un:H b=none
 new:X.s₀.heap.get? b=none
 loc:b ≠ X.env.locals
 cel:∀ x c,X.env.cells.lookup x=some c->c ≠ b
 pin:∀ p ∈ X.pn,p.1 ≠ b
structure Xc (X:Cx) (H:Hp) (h:Heap) (e C:Addr):Prop where
 mine:Mine X H e
 ob:∃ oe vs,h.get? e=some oe/\(oe.cls= .ref C/\oe.dict=none)/\oe.data= .fields vs/\1<vs.size/\
  (vs[1]?=some .none ∨ ∃ T oT ts,vs[1]?=some (.ref T)/\T ≠ e/\Mine X H T/\h.get? T=some oT/\oT.data= .fields ts/\3<ts.size)
theorem Inv.exIn {X:Cx}{Kp:List (Addr × Obj)}{σ:St}{H:Hp}{s:Shared}{ch:List Addr} (I:Inv X Kp σ H s) (hn:∀ b ∈ ch,X.s₀.heap.get? b=none/\b ≠ X.env.locals/\∀ x c,X.env.cells.lookup x=some c->c ≠ b):Inv { X with ex:=ch++X.ex } Kp σ H s:=by
 have no:∀ b,b ∉ ch++X.ex->b ∉ X.ex:=fun b h z=>h (List.mem_append_right _ z)
 refine ⟨⟨I.ok.mod,I.ok.kind,I.ok.glob,I.ok.blt,I.ok.above,I.ok.inj,I.ok.has,I.ok.cab,I.ok.hd,I.ok.frames,I.ok.stk,fun b hb=>?_,I.ok.bs,I.ok.bsz,fun b o e hb=>?_,fun b hb z=>?_,I.ok.funs,I.ok.frf⟩,I.os,I.bare,
  ⟨fun b o e n hf hx=>I.base.keep b o e n hf (no b hx),fun b o e n hf hx=>I.base.slot b o e n hf (no b hx),fun b o e n hx=>I.base.free b o e n (no b hx),fun b o e hx=>I.base.there b o e (no b hx),I.base.tups,I.base.frzs,I.base.tbls⟩,I.loc,I.cell,I.free,I.freeC,I.pin,I.hok,I.len⟩
 ·rcases List.mem_append.mp hb with q | q
  ·exact (hn b q).2
  ·exact I.ok.exf b q
 ·rcases List.mem_append.mp hb with q | q
  ·have:=(I.ok.bs b o e).1
   rw [(hn b q).1] at this; cases this
  ·exact I.ok.noex b o e q
 ·rcases List.mem_append.mp hb with q | q
  ·obtain ⟨_,o,ho,_⟩:=I.ok.funs.mem z
   rw [(hn b q).1] at ho; cases ho
  ·exact I.ok.exfs b q z
theorem Inv.exOut {X:Cx}{Kp:List (Addr × Obj)}{σ:St}{H:Hp}{s:Shared}{ch:List Addr} (I:Inv { X with ex:=ch++X.ex } Kp σ H s) (ok:X.Ok) (hn:∀ b ∈ ch,X.s₀.heap.get? b=none):Inv X Kp σ H s:=by
 have no:∀ b o,X.s₀.heap.get? b=some o->b ∉ X.ex->b ∉ ch++X.ex:=fun b o e h z=>by
  rcases List.mem_append.mp z with q | q
  ·rw [hn b q] at e; cases e
  ·exact h q
 exact ⟨ok,I.os,I.bare,⟨fun b o e n hf hx=>I.base.keep b o e n hf (no b o e hx),fun b o e n hf hx=>I.base.slot b o e n hf (no b o e hx),fun b o e n hx=>I.base.free b o e n (no b o e hx),fun b o e hx=>I.base.there b o e (no b o e hx),I.base.tups,I.base.frzs,I.base.tbls⟩,I.loc,I.cell,I.free,I.freeC,I.pin,I.hok,I.len⟩
section
variable {X:Cx}{σ:St}{H:Hp}{s:Shared}{h':Heap}{e C:Addr}{E:Value->SP0}{A:Around}
theorem Inv.shake {ch:List Addr} (I:Inv X [] σ H s) (hm:∀ b ∈ ch,Mine X H b) (keep:∀ b o,b ∉ frs X.stack->b ∉ ch->s.heap.get? b=some o->h'.get? b=some o)
  (slot:∀ b o,b ∈ frs X.stack->b ∉ ch->s.heap.get? b=some o->∃ sl,h'.get? b=some { o with slots:=sl }):Inv X [] σ H { s with heap:=h' }:=by
 have u:Un (frs X.stack) ch H H s.heap h':=⟨fun b o q _ nf nc=>keep b o nf nc q,fun b o q _ hf nc=>slot b o hf nc q,fun _ _ _ n _=>n,fun b o q nc=>by
  by_cases hf:b ∈ frs X.stack
  ·obtain ⟨sl,z⟩:=slot b o hf nc q; exact ⟨_,z⟩
  ·exact ⟨o,keep b o hf nc q⟩,fun _ _ q=>q,fun _ _ _ q=>q,fun _ ps q=>⟨#[],by rw [q]; simp⟩⟩
 have hok:HOk X.prog X.w H h':=fun b o q=>(I.hok b o q).stay (fun c v hc r=>by
  have hb:H c ≠ none:=by
   rcases hc with rfl | hc
   ·rw [q]; exact fun z=>nomatch z
   ·rw [hc]; exact fun z=>nomatch z
  exact keep c v (fun z=>hb (I.stkFree c z)) (fun z=>hb (hm c z).un) r) (fun _ r=>r) fun _ _ r=>r
 exact Inv.exOut (Inv.call (X:={ X with ex:=ch++X.ex }) (g':=s.gens) (d':=s.drawn) (t':=s.toks) (Inv.exIn I fun b hb=>⟨(hm b hb).new,(hm b hb).loc,(hm b hb).cel⟩) u hok I.bare fun b hb=>⟨.inl (List.mem_append_left _ hb),(hm b hb).loc,(hm b hb).cel,fun p hp=>(hm b hb).pin p (by simpa using hp)⟩) I.ok fun b hb=>(hm b hb).new
structure XcT (X:Cx) (H:Hp) (h:Heap) (e C:Addr):Prop where
 mine:Mine X H e
 ob:∃ oe vs T oT ts,h.get? e=some oe/\(oe.cls= .ref C/\oe.dict=none)/\oe.data= .fields vs/\vs[1]?=some (.ref T)/\T ≠ e/\Mine X H T/\h.get? T=some oT/\oT.data= .fields ts/\3<ts.size
structure Top0 (X:Cx):Prop where
 st:X.stack=X.env::X.Ko
 fr:X.env.frame=some X.env.locals
 ex:X.ex=[]
theorem Mine.nofr {b:Addr} (m:Mine X H b) (I:Inv X [] σ H s):b ∉ frs X.stack:=fun z=>by
 rcases List.mem_cons.mp (I.stkSub b z) with q | q
 ·exact m.loc q
 ·obtain ⟨_,o,ho,_⟩:=I.ok.funs.mem q
  rw [m.new] at ho; cases ho
theorem anH {P:Program}{w:World}{h:Heap}{b:Addr}{u:HO} (hok:HOk P w H h) (hH:H b=some u) (hb:h.get? b=none):False:=by
 have x:=hok b u hH
 have no:∀ {o:Obj},h.get? b=some o->False:=fun {o} q=>by rw [hb] at q; cases q
 cases u with
 | lst xs=>obtain ⟨_,_,_,_,e⟩:=x; exact no e
 | tup xs=>obtain ⟨_,_,_,⟨_,e,_⟩⟩:=x; exact no e
 | dK kvs=>obtain ⟨_,_,_,_,o,_,_,e,_⟩:=x; exact no e
 | dT kvs=>obtain ⟨_,_,_,_,o,_,_,e,_⟩:=x; exact no e
 | set S n=>obtain ⟨o,_,_,_,e,_⟩:=x; exact no e
 | ins C dx fs=>obtain ⟨_,_,_,e,_⟩:=x; exact no e
 | own y=>obtain ⟨_,e⟩:=x; exact no e
 | xd fs=>obtain ⟨_,⟨_,_,_,e,_⟩,_⟩:=x; exact no e
 | rng lo hi=>obtain ⟨_,_,_,e⟩:=x; exact no e
 | frz ob u=>obtain ⟨e,_⟩:=x; exact no e
 | tbl ps=>exact no (show h.get? b=some _ from x)
 | met f y=>exact no (show h.get? b=some _ from x)
 | ext φ=>obtain ⟨_,⟨_,e⟩,_⟩:=x; exact no e
theorem aa0 (hx:X.ex=[]) (I:Inv X [] σ H s) {b:Addr} (hb:s.heap.get? b=none):Mine X H b:=by
 have no:∀ {o:Obj},s.heap.get? b=some o->False:=fun {o} q=>by rw [hb] at q; cases q
 refine ⟨?_,?_,fun z=>?_,fun x c q z=>?_,fun p hp z=>?_⟩
 ·cases hH:H b with
  | none=>rfl
  | some u=>exact (anH I.hok hH hb).elim
 ·cases h0:X.s₀.heap.get? b with
  | none=>rfl
  | some o=>
   obtain ⟨o',q⟩:=I.base.there b o h0 (by rw [hx]; simp)
   exact (no q).elim
 ·subst z
  obtain ⟨m,⟨o,_,_,ho,_⟩,_⟩:=I.loc
  exact no ho
 ·obtain ⟨v,o,ho,_⟩:=I.cell x c q
  subst z
  exact no ho
 ·have:=(I.pin p (List.mem_append_left _ hp)).1
  rw [z] at this
  exact no this
theorem ags {oe:Obj}{vs:Array Value}{head:Value}{hadNext:Bool} (T0:Top0 X) (hA:A.frames=some X.stack) (I:Inv X [] σ H s) (me:Mine X H e) (he:s.heap.get? e=some oe) (hc:oe.cls= .ref C/\oe.dict=none) (hd:oe.data= .fields vs) (hsz:1<vs.size):
  wpAny (model X.prog X.w) A (do let a ←frameOf X.env; let pl ←entryPlaceOf X.env.locals hadNext; let b ←EntryCells.newEntry head a .none (rawInt X.env.locals) .none pl; setField (.ref e) 1 b) (fun _ s'=>Inv X [] σ H s'/\XcT X H s'.heap e C) E s:=by
 have hst:=T0.st
 have hfn:=I.stack
 rw [hst] at hfn hA
 have hene:e ∉ (X.env::X.Ko).filterMap (·.frame):=by
  have:=me.nofr I
  rw [hst] at this; exact this
 refine wpAny_bind (wpAny_frameOf_fun hA hfn T0.fr fun h₁ hs₁=>?_)
 refine wpAny_bind (wpAny_entryPlaceOf fun pl hpl=>?_)
 unfold EntryCells.newEntry newFields
 refine wpAny_bind (wpAny_newObj_type ?_ (hpl.sizeOk5 _ _ _ _ _))
 have he₁:h₁.get? e=some oe:=(hs₁.2.1 e hene).trans he
 generalize hob:({ cls:= .type "traceback",dict:=none,data:= .fields ([head,Value.ref X.env.locals,.none,rawInt X.env.locals,.none]++(if pl.isEmpty then List.replicate 6 Value.none else pl)).toArray }:Obj)=ob
 have obd:ob.data= .fields ([head,Value.ref X.env.locals,.none,rawInt X.env.locals,.none]++(if pl.isEmpty then List.replicate 6 Value.none else pl)).toArray:=by rw [←hob]
 have obf:ob.isFreed=false:=by rw [←hob]; rfl
 have he₂:(h₁.push ob).get? e=some oe:=Heap.get?_push_of_some ob he₁
 refine wpAny_setField he₂ hd hsz ?_
 have hTe:h₁.objs.size ≠ e:=Nat.ne_of_gt (Heap.lt_size he₁)
 have hd₃:=Obj.data_mapFields hd (·.setIfInBounds 1 (Value.ref h₁.objs.size))
 have he₃:=Heap.get?_update_self (Obj.mapFields (·.setIfInBounds 1 (Value.ref h₁.objs.size))) he₂ (Obj.isFreed_of_fields hd₃)
 have hT₃:((h₁.push ob).update e (Obj.mapFields (·.setIfInBounds 1 (Value.ref h₁.objs.size)))).get? h₁.objs.size=some ob:=(Heap.get?_update_other _ _ (Ne.symm hTe)).trans (Heap.get?_push_size h₁ obf)
 have keep:∀ b o,b ≠ e->h₁.get? b=some o->((h₁.push ob).update e (Obj.mapFields (·.setIfInBounds 1 (Value.ref h₁.objs.size)))).get? b=some o:=fun b o hb q=>by
  rw [Heap.get?_update_other _ _ (Ne.symm hb)]
  exact Heap.get?_push_of_some _ q
 have hfr:frs X.stack=(X.env::X.Ko).filterMap (·.frame):=by rw [hst]; rfl
 have sz:h₁.objs.size=s.heap.objs.size:=hs₁.1
 have J:Inv X [] σ H { s with heap:=(h₁.push ob).update e (Obj.mapFields (·.setIfInBounds 1 (Value.ref h₁.objs.size))) }:=by
  refine Inv.shake (s:=s) (ch:=[e]) I (fun b hb=>by rw [List.mem_singleton.mp hb]; exact me) (fun b o nf nc q=>keep b o (fun z=>nc (by simp [z])) ((hs₁.2.1 b (by rw [←hfr]; exact nf)).trans q)) (fun b o _ nc q=>?_)
  obtain ⟨sl,z⟩:=hs₁.2.2 b o q
  exact ⟨sl,keep b _ (fun w=>nc (by simp [w])) z⟩
 refine ⟨J,me,_,_,h₁.objs.size,ob,_,he₃,?_,hd₃,by simp [hsz],hTe,?_,hT₃,obd,?_⟩
 ·rw [Obj.cls_mapFields]; exact ⟨hc.1,by unfold Obj.mapFields; split <;> exact hc.2⟩
 ·exact aa0 T0.ex I (Heap.get?_none_of_le (by rw [sz]; exact Nat.le_refl _))
 ·simp only [List.size_toArray,List.length_append,List.length_cons,List.length_nil]; omega
theorem afu (T0:Top0 X) (hA:A.frames=some X.stack) (I:Inv X [] σ H s) (x:Xc X H s.heap e C):wpAny (model X.prog X.w) A (noteFrame (.ref e) X.env) (fun _ s'=>Inv X [] σ H s'/\XcT X H s'.heap e C) E s:=by
 obtain ⟨oe,vs,he,hc,hd,hsz,hT⟩:=x.ob
 unfold noteFrame
 simp only [T0.fr]
 rcases hT with h1 | ⟨T,oT,ts,h1,hTe,mT,hT,hdT,h3⟩
 ·refine wpAny_bind (wpAny_field he hd h1 ?_)
  rw [if_neg (by decide)]
  exact ags T0 hA I x.mine he hc hd hsz
 ·refine wpAny_bind (wpAny_field he hd h1 ?_)
  rw [if_pos (show (Value.ref T != Value.none)=true from by simp)]
  refine wpAny_bind (wpAny_field hT hdT (x:=ts[3]) (by simp [h3]) ?_)
  by_cases hq:(ts[3] == rawInt X.env.locals)=true
  ·rw [if_pos hq]
   exact wpAny_pure ⟨I,x.mine,oe,vs,T,oT,ts,he,hc,hd,h1,hTe,mT,hT,hdT,h3⟩
  ·rw [if_neg hq]
   refine wpAny_bind (wpAny_setField hT hdT h3 ?_)
   have other:∀ b,b ≠ T->(s.heap.update T (Obj.mapFields (·.setIfInBounds 3 Value.none))).get? b=s.heap.get? b:=fun b hb=>Heap.get?_update_other _ _ (Ne.symm hb)
   have J:Inv X [] σ H { s with heap:=s.heap.update T (Obj.mapFields (·.setIfInBounds 3 Value.none)) }:=
    Inv.shake (s:=s) (ch:=[T]) I (fun b hb=>by rw [List.mem_singleton.mp hb]; exact mT) (fun b o _ nc q=>(other b fun z=>nc (by simp [z])).trans q) fun b o _ nc q=>⟨o.slots,(other b fun z=>nc (by simp [z])).trans q⟩
   exact ags (s:={ s with heap:=s.heap.update T (Obj.mapFields (·.setIfInBounds 3 Value.none)) }) T0 hA J x.mine ((other e (Ne.symm hTe)).trans he) hc hd hsz
theorem QB (fl:Option Addr) (I:Inv X [] σ H s) (x:XcT X H s.heap e C):wpAny (model X.prog X.w) A (setFlight (.ref e) fl) (fun _ s'=>Inv X [] σ H s'/\XcT X H s'.heap e C) E s:=by
 obtain ⟨oe,vs,T,oT,ts,he,hc,hd,h1,hTe,mT,hT,hdT,h3⟩:=x.ob
 unfold setFlight
 refine wpAny_bind (wpAny_field he hd h1 ?_)
 rw [if_pos (show (Value.ref T != Value.none)=true from by simp)]
 refine wpAny_setField hT hdT h3 ?_
 have other:∀ b,b ≠ T->(s.heap.update T (Obj.mapFields (·.setIfInBounds 3 (fl.elim Value.none fun f=>rawInt f)))).get? b=s.heap.get? b:=fun b hb=>Heap.get?_update_other _ _ (Ne.symm hb)
 have J:Inv X [] σ H { s with heap:=s.heap.update T (Obj.mapFields (·.setIfInBounds 3 (fl.elim Value.none fun f=>rawInt f))) }:=
  Inv.shake (s:=s) (ch:=[T]) I (fun b hb=>by rw [List.mem_singleton.mp hb]; exact mT) (fun b o _ nc q=>(other b fun z=>nc (by simp [z])).trans q) fun b o _ nc q=>⟨o.slots,(other b fun z=>nc (by simp [z])).trans q⟩
 exact ⟨J,x.mine,oe,vs,T,_,_,(other e (Ne.symm hTe)).trans he,hc,hd,h1,hTe,mT,Heap.get?_update_self _ hT (Obj.isFreed_of_fields (Obj.data_mapFields hdT _)),Obj.data_mapFields hdT _,by simpa using h3⟩
theorem asr {P:Value->SP0} (T0:Top0 X) (hA:A.frames=some X.stack) (hP:∀ e s,P e s->∃ a C σ H,e= .ref a/\Inv X [] σ H s/\Xc X H s.heap a C/\∀ s',Inv X [] σ H s'->XcT X H s'.heap a C->P e s'):PassesOwn (model X.prog X.w) A X.env P:=fun ev s' h=>by
 obtain ⟨a,C,σ,H,rfl,I,x,back⟩:=hP ev s' h
 refine wpAny_mono (afu (E:=fun _ _=>False) T0 hA I x) (fun _ s2 ⟨I2,x2⟩=>?_) fun _ _ z=>z.elim
 obtain ⟨oe,vs,T,oT,ts,he,hc,hd,h1,r⟩:=id x2.ob
 unfold cameBackBy
 refine wpAny_bind (wpAny_field he hd h1 ?_)
 rw [if_neg (by simp)]
 first
  | exact wpAny_mono (QB (E:=fun _ _=>False) _ I2 x2) (fun _ s3 ⟨I3,x3⟩=>back s3 I3 x3) fun _ _ z=>z.elim
  | exact wpAny_bind (wpAny_pure (wpAny_mono (QB (E:=fun _ _=>False) _ I2 x2) (fun _ s3 ⟨I3,x3⟩=>back s3 I3 x3) fun _ _ z=>z.elim))
end
structure XcO (h0:Heap) (H:Hp) (h:Heap) (e C:Addr):Prop where
 un:H e=none
 new:h0.get? e=none
 ob:∃ oe vs T oT ts,h.get? e=some oe/\(oe.cls= .ref C/\oe.dict=none)/\oe.data= .fields vs/\vs[1]?=some (.ref T)/\T ≠ e/\H T=none/\h0.get? T=none/\h.get? T=some oT/\oT.data= .fields ts/\3<ts.size
noncomputable def CXt (P:Program) (w:World):CXT:=fun Ko H s E ev s'=>∃ e C H',ev= .ref e/\s'.os=s.os/\AllBare s'.gens/\Un (frs Ko) [] H H' s.heap s'.heap/\HOk P w H' s'.heap/\XcO s.heap H' s'.heap e C/\E (.ref C) none H'
section
variable {X:Cx}
theorem Xc.of (hx:X.ex=[]) {Kp:List (Addr × Obj)}{σ:St}{H H':Hp}{s s':Shared}{e0 C:Addr} (I:Inv X Kp σ H s) (x:XcO s.heap H' s'.heap e0 C):Xc X H' s'.heap e0 C:=by
 have J:Inv X [] σ H s:=I.pins_of fun p hp=>nomatch hp
 obtain ⟨oe,ws,T,oT,ts,h1,h2,h3,h4,h5,h6,h7,h8,h9,h10⟩:=x.ob
 have m1:=aa0 hx J x.new
 have m2:=aa0 hx J h7
 exact ⟨⟨x.un,m1.new,m1.loc,m1.cel,m1.pin⟩,oe,ws,h1,h2,h3,(Array.getElem?_eq_some_iff.mp h4).1,.inr ⟨T,oT,ts,h4,h5,⟨h6,m2.new,m2.loc,m2.cel,m2.pin⟩,h8,h9,h10⟩⟩
end
noncomputable def Thr (X:Cx) (H:Hp) (c:Str) (ev:Value) (s':Shared):Prop:=∃ e C σ' H',ev= .ref e/\X.mg c=some (.ref C)/\Inv X [] σ' H' s'/\jq H H'/\Xc X H' s'.heap e C
theorem Thr.mono {X:Cx}{H H1:Hp}{c:Str}{ev:Value}{s':Shared} (s:jq H H1) (h:Thr X H1 c ev s'):Thr X H c ev s':=by
 obtain ⟨e,C,σ',H',h1,h2,h3,h4,h5⟩:=h
 exact ⟨e,C,σ',H',h1,h2,h3,s.trans h4,h5⟩
@[irreducible] noncomputable def PDX (X:Cx) (e:Expr) (fx:Rho->Option Str):Prop:=∀ (s:Shared) (σ:St) (H:Hp) (ρ:Rho) (c:Str),Inv X [] σ H s->EnvR X.K H ρ σ->fx ρ=some c->(∀ ev s',Thr X H c ev s'->X.xe ev s')->wpAny (model X.prog X.w) X.A (eval e X.env) (fun _ _=>False) X.xe s
@[irreducible] noncomputable def PSX (X:Cx) (st:Stmt) (fx:Rho->Option Str):Prop:=∀ (s:Shared) (σ:St) (H:Hp) (ρ:Rho) (c:Str),Inv X [] σ H s->EnvR X.K H ρ σ->fx ρ=some c->(∀ ev s',Thr X H c ev s'->X.xe ev s')->wpAny (model X.prog X.w) X.A (exec st X.env) (fun _ _=>False) X.xe s
@[irreducible] noncomputable def acs (X:Cx) (sts:List Stmt) (fx:Rho->Option Str):Prop:=∀ (s:Shared) (σ:St) (H:Hp) (ρ:Rho) (c:Str),Inv X [] σ H s->EnvR X.K H ρ σ->fx ρ=some c->(∀ ev s',Thr X H c ev s'->X.xe ev s')->wpAny (model X.prog X.w) X.A (execs sts X.env) (fun _ _=>False) X.xe s
noncomputable def vB:List Value:=[.type "ValueError",.type "Exception",.type "BaseException",.type "object"]
noncomputable def ad5 (K:Fg) (mg:SV) (x:Str):Prop:=∃ C,mg x=some (.ref C)/\PySem.W.excIn K C vB "ValueError.__new__"=true
theorem anI {K:Fg}{h:Heap}{C:Addr} (X:K.In h) (q:PySem.W.excIn K C vB "ValueError.__new__"=true):
  ∃ bm N nm qn bs hdct sn sub ab col dd k0 k1 k2 k3 k5 mN,h.get? C=some (excClassObj nm qn C N bs bm hdct sn sub ab col dd k0 k1 k2 k3 k5 "ValueError.__new__")/\h.Ns N mN/\mN "__init__"=none/\OwnTail h vB bm:=by
 unfold PySem.W.excIn at q
 split at q
 ·rename_i dd cd sl ho
  split at q
  ·rename_i C' bm k0 k1 k2 k3 n k5 hm hs
   simp only [Bool.and_eq_true,beq_iff_eq,Bool.not_eq_true'] at q
   obtain ⟨⟨⟨⟨⟨rfl,rfl⟩,hdel⟩,ht⟩,hok⟩,hni⟩:=q
   obtain ⟨nm,bs,mro,ns,qn,hd,sn,sub,ab,col,del⟩:=cd
   dsimp only at hm hdel hok hni
   subst hm hdel
   have hsl:sl=#[k0,k1,k2,k3,some (.builtin "ValueError.__new__"),k5]:=by
    obtain ⟨l⟩:=sl
    simp only at hs
    rw [hs]
   subst hsl
   exact ⟨bm,ns,nm,qn,bs,hd,sn,sub,ab,col,dd,k0,k1,k2,k3,k5,_,X _ _ ho,.of_isNs (PySem.W.isNs_of_in X hok),PySem.W.nsMap_none_of_in X hok hni,PySem.W.tail_of_in X ht⟩
  ·cases q
 ·cases q
section
variable {X:Cx}{e a b c:Expr}{es:List Expr}{st:Stmt}{sts j9:List Stmt}{fx gx:Rho->Option Str}{F:RO}{pos:Pos}
theorem jF (h:PSX X st fx):acs X (st::j9) fx:=by
 with_unfolding_all
  intro s σ H ρ c I en q k
  exact wpAny_execs_cons (wpAny_mono (h s σ H ρ c I en q k) (fun _ _ z=>z.elim) fun _ _ z=>z)
noncomputable def nxX (F:RO) (gx:Rho->Option Str):Rho->Option Str:=fun ρ=>(F ρ).bind fun o=>match o with
 | .nx ρ'=>gx ρ'
 | _=>none
theorem zF (h1:PSD X st F) (h2:acs X j9 gx):acs X (st::j9) (nxX F gx):=by
 with_unfolding_all
  intro s σ H ρ c I en q k
  cases hF:F ρ with
  | none=>simp [nxX,hF] at q
  | some o=>
   cases o with
   | nx ρ'=>
    have q':gx ρ'=some c:=by simpa [nxX,hF] using q
    refine wpAny_execs_cons (wpAny_mono (h1 [] s σ H { nx:=fun σ' H'=>jq H H'/\EnvR X.K H' ρ' σ',rt:=fun _ _=>False,bk:=fun _ _=>False,ct:=fun _ _=>False } I ⟨ρ,.nx ρ',en,hF,fun σ' H' s1 e1=>⟨s1,e1⟩⟩) (fun f s1 z=>?_) fun _ _ z=>z)
    cases f with
    | next=>
     obtain ⟨σ',H',I',sm,e1⟩:=z
     exact wpAny_mono (h2 s1 σ' H' ρ' c I' e1 q' fun ev s' t=>k ev s' (t.mono sm)) (fun _ _ z=>z.elim) fun _ _ z=>z
    | brk=>obtain ⟨_,_,_,z⟩:=z; exact z.elim
    | cont=>obtain ⟨_,_,_,z⟩:=z; exact z.elim
    | ret u=>obtain ⟨_,_,_,_,_,z⟩:=z; exact z.elim
   | _=>simp [nxX,hF] at q
noncomputable def ifX (tc:Rho->Option Bool) (fx gx:Rho->Option Str):Rho->Option Str:=fun ρ=>(tc ρ).bind fun x=>if x=true then fx ρ else gx ρ
noncomputable def ajW:Rho->Option Str:=fun _=>none
theorem qT:acs X sts ajW:=by
 with_unfolding_all
  intro s σ H ρ c I en q k
  cases q
theorem QY {l r:List Stmt}{tc:Rho->Option Bool} (hc:PTD X a tc) (hl:acs X l fx) (hr:acs X r gx):PSX X (.If a l r pos) (ifX tc fx gx):=by
 with_unfolding_all
  intro s σ H ρ c I en q k
  cases ht:tc ρ with
  | none=>simp [ifX,ht] at q
  | some x=>
   refine wpAny_If (wpAny_mono (hc [] s σ H (fun b H'=>b=x/\jq H H') I ⟨ρ,x,en,ht,fun H' s1=>⟨rfl,s1⟩⟩) (fun d s1 z=>?_) fun _ _ z=>z)
   obtain ⟨H1,I1,rfl,s1'⟩:=z
   cases d with
   | true=>exact hl s1 σ H1 ρ c I1 (en.mono s1') (by simpa [ifX,ht] using q) fun ev s' t=>k ev s' (t.mono s1')
   | false=>exact hr s1 σ H1 ρ c I1 (en.mono s1') (by simpa [ifX,ht] using q) fun ev s' t=>k ev s' (t.mono s1')
theorem acA (h:PDX X e fx):PSX X (.Return (some e) pos) fx:=by
 with_unfolding_all
  intro s σ H ρ c I en q k
  exact wpAny_Return_some (wpAny_mono (h s σ H ρ c I en q k) (fun _ _ z=>z.elim) fun _ _ z=>z)
theorem Jr (h:PDX X e fx) (hs:swapsWith e none pos.line X.env=pure false:=by rfl):PSX X (.Expr e pos) fx:=by
 with_unfolding_all
  intro s σ H ρ c I en q k
  exact wpAny_Expr_any (wpAny_mono (h s σ H ρ c I en q k) (fun _ _ z=>z.elim) fun _ _ z=>z) I.quiet hs
theorem anJ {x:Str}{pos':Pos} (h:PDX X e fx) (hs:swapsWith e (some (.Name x pos')) pos.line X.env=pure false:=by rfl):PSX X (.Assign [.Name x pos'] e pos) fx:=by
 with_unfolding_all
  intro s σ H ρ c I en q k
  exact wpAny_Assign_Name (wpAny_mono (h s σ H ρ c I en q k) (fun _ _ z=>z.elim) fun _ _ z=>z) hs
end
noncomputable def ajX (K:Fg) (mg:SV) (n:Nat) (gx:LP->Option Str):Sp:=fun vs H _ E=>∃ ds c,ds.length=n/\Reps K H ds vs/\gx ds=some c/\∀ C H',mg c=some (.ref C)->jq H H'->E (.ref C) none H'
noncomputable def zB (P:Program) (w:World) (K:Fg) (mg:SV) (base:Heap) (x:Str) (ps:List Str) (k n:Nat) (gx:LP->Option Str):Prop:=
 ∃ (f:Addr) (fd:FuncData),FnOk P w K mg base (CXt P w) k f fd ps (ajX K mg n gx)/\mg x=some (.ref f)/\PySem.W.keepIn K (.ref f)=true/\JZ K fd ps []
section
variable {X:Cx}{e a b c:Expr}{es:List Expr}{st:Stmt}{sts j9:List Stmt}{fx gx:Rho->Option Str}{F:RO}{pos:Pos}
theorem qN {k j n:Nat}{ps:List Str}{g:LP->Option Str}{x:Str}{p:Pos}{fr:Rho->Option (LP)} (hxe:X.ex=[]) (C:zB X.prog X.w X.K X.mg X.base x ps k n g) (hr:Room j X.A) (hkj:k<=j) (ha:PAD X (e::es) fr) (hl:∀ ρ ds,fr ρ=some ds->ds.length=n)
  (hg:Gl X x:=by rfl) (hdb:(x == ("__debug__":Str))=false:=by decide) (he:starEach (e::es) X.env=(false,eval e X.env)::starEach es X.env:=by rfl)
  (hpl:(backTo pos (starEach es X.env)).any (·.1)=false:=by rfl):PDX X (.Call (.Name x p) (e::es) [] pos) (fun ρ=>(fr ρ).bind g):=by
 with_unfolding_all
  intro s σ H ρ c I en q k'
  obtain ⟨f,fd,F,hm,hk,hb⟩:=C
  cases hd:fr ρ with
  | none=>simp [hd] at q
  | some ds=>
   have q':g ds=some c:=by simpa [hd] using q
   refine wpAny_Call_Name_kw (ZO I hg hm ?_ hdb)
   refine PySem.W.callWith_K (h₀:=X.base) I.ok.mod.kin hk (thn (ha pos [] s σ H (fun vs H1=>jq H H1/\Reps X.K H1 ds vs) I ⟨ρ,ds,en,hd,fun vs H1 s1 r1=>⟨s1,r1⟩⟩) fun us s1 ⟨vs,H1,I1,r,sm,rd⟩=>⟨I1.kIn,?_⟩) he hpl
   have hsp:ajX X.K X.mg n g vs H1 (fun _ _=>False) (fun cls _ H'=>X.mg c=some cls/\jq H1 H')->vs.length=ps.length:=fun z=>F.len _ _ _ _ z
   by_cases hn:ds.length=n
   ·have sp:ajX X.K X.mg n g vs H1 (fun _ _=>False) (fun cls _ H'=>X.mg c=some cls/\jq H1 H'):=⟨ds,c,hn,rd,q',fun C H' hC s2=>⟨hC,s2⟩⟩
    have hlu:(us++[]).length=ps.length:=by rw [List.append_nil,←r.length]; exact hsp sp
    have hbd:=hb s1 us I1.kIn hlu
    rw [List.append_nil] at hbd
    refine wpAny_call (codeAny_mono (F.run X.A X.stack s1 H1 ⟨us,[]⟩ us vs _ _ (hr.mono hkj) I1.env0 hbd r sp) fun rs s' hq=>?_)
    cases rs with
    | error ev=>
     obtain ⟨e0,C,H',rfl,os,bare,un,hok,xc,hC,sm2⟩:=hq
     have J':Inv X [] σ H' s':=I1.call' (ch:=[]) os un hok bare fun b z=>nomatch z
     exact k' _ _ ⟨e0,C,σ,H',rfl,hC,J',sm.trans sm2,Xc.of hxe I1 xc⟩
    | ok fl=>
     cases fl with
     | ret u=>obtain ⟨v,H',_,_,_,_,_,z⟩:=hq; exact z.elim
     | next=>exact False.elim hq
     | brk=>exact False.elim hq
     | cont=>exact False.elim hq
   ·exact absurd (hl ρ ds hd) hn
theorem zG {x m:Str}{k0:_}{np p3 cpos:Pos} (hxe:X.ex=[]) (hE:ad5 X.K X.mg x) (hc:X.calm=true) (hg:Gl X x:=by rfl) (hdb:(x == ("__debug__":Str))=false:=by decide)
  (he:starEach [.Constant (.str m) k0 p3] X.env=[(false,eval (.Constant (.str m) k0 p3) X.env)]:=by rfl):PSX X (.Raise (some (.Call (.Name x np) [.Constant (.str m) k0 p3] [] cpos)) none pos) (fun _=>some x):=by
 with_unfolding_all
  intro s σ H ρ c I en q k
  cases q
  obtain ⟨C,hm,hex⟩:=hE
  obtain ⟨bm,N,nm,qn,bs,hdct,sn,sub,ab,col,dd,k0',k1,k2,k3,k5,mN,hC,hN,hni,TL⟩:=anI (h:=X.base) I.ok.mod.kin hex
  have hpl:(backTo cpos (starEach [.Constant (.str m) k0 p3] X.env)).any (·.1)=false:=by rw [he]; rfl
  refine wpAny_Raise_call_subT (C:=C) (nm:=nm) (q:=qn) (N:=N) (bs:=bs) (bm:=bm) (hdct:=hdct) (sn:=sn) (sub:=sub) (ab:=ab) (col:=col) (dd:=dd) (k0:=k0') (k1:=k1) (k2:=k2) (k3:=k3) (k5:=k5) PySem.F.excBase_ValueError (mN:=mN) (TL.hasType rfl) (I.ok.hd hc) hpl hni ?_
  refine wpAny_mono (acw (pos:=np) hg hm (show qe (.ref C) (.ref C) from rfl) hdb [] s σ H (fun v H'=>v= .ref C/\H'=H) I ⟨rfl,rfl⟩) (fun v s1 ⟨y,H1,I1,r1,e1,e2⟩=>?_) fun _ _ z=>z
  subst e1; subst e2
  obtain rfl:v=Value.ref C:=r1
  refine ⟨rfl,?_⟩
  have pa:PA X [.Constant (.str m) k0 p3] _:=qt (X:=X) akQ zn he
  have hsp:=pa cpos [] s1 σ H1 (fun vs H'=>vs.length=1/\H'=H1) I1 ⟨rfl,rfl⟩
  rw [he] at hsp ⊢
  refine Calls.evalArgs_plain (wpAny_mono hsp (fun us s2 ⟨vs,H2,I2,r2,l2,e2⟩=>?_) fun _ _ z=>z)
  subst e2
  have kp:∀ b o,X.base.get? b=some o->s2.heap.get? b=some o:=fun b o e=>(I2.bs b o e).1
  refine ⟨rfl,?_,kp _ _ hC,hN.keeps kp,TL.keeps kp,fun h' e0 md=>?_⟩
  ·show us.length<=sizeLine
   rw [←r2.length,l2,sizeLine_eq]; decide
  ·obtain ⟨t,h1,h2,h3⟩:=md.there
   have I3:Inv X [] σ H2 { s2 with heap:=h' }:=I2.kept (t':=s2.toks) md.keeps
   have m0:=aa0 hxe I2 md.new
   exact k _ _ ⟨e0,C,σ,H2,rfl,hm,I3,jq.refl _,m0,_,_,h1,⟨rfl,rfl⟩,rfl,by simp,.inl rfl⟩
end
theorem alN {CX:CXT}{P:Program}{w:World}{K:Fg}{mg:SV}{base:Heap}{k:Nat}{f:Addr}{name qual:Str}{params:Arguments}{body:List Stmt}{scope:Scope}{dV kV doc pm Kc ct oc:Value}{an od:Option Addr}
  {osl:Array (Option Value)} {N ps:List Str} {sp:Sp} (lk:K.lookup f=some ⟨oc,od,.func (PySem.W.fnOf name qual params body scope dV kV doc pm an Kc ct),osl⟩) (hcd:PySem.W.codeIn K Kc qual=true) (S:FnScope N ps scope)
  (len:∀ vs H Q E,sp vs H Q E->vs.length=ps.length)
  (hbody:∀ (A:Around) (Ko:List Env) (s:Shared) (H:Hp) (vs:List V) (Q:VK) (E:XK) (s1:Shared),Room k (A.deeper (envOfC qual scope s.heap.objs.size f Kc))->sp vs H Q E->
   Inv (zT CX P w K mg base N qual scope f Kc A Ko s H E) [] (L2.zV N vs) H s1->
   wpAny (model P w) (A.deeper (envOfC qual scope s.heap.objs.size f Kc)) (execs body (envOfC qual scope s.heap.objs.size f Kc)) (SP (zT CX P w K mg base N qual scope f Kc A Ko s H E) [] { nx:=fun _ H'=>Q .non H',rt:=Q }) (zT CX P w K mg base N qual scope f Kc A Ko s H E).xe s1):
  FnOk P w K mg base CX (k+1) f (PySem.W.fnOf name qual params body scope dV kV doc pm an Kc ct) ps sp:=by
 refine ⟨len,fun A Ko s H args us vs Q E hr e0 hb r hsp=>?_⟩
 have hl:=len _ _ _ _ hsp
 have KX:K.In s.heap:=e0.mod.kin.keeps fun b o e=>(e0.bs b o e).1
 have lim:s.heap.NoLimit:=e0.mod.nolimit.keeps fun b o e=>(e0.bs b o e).1
 have hkind:∀ y ∈ ps.zip us,scope.names.lookup y.1=some .local ∨ (scope.names.lookup y.1=some .cell/\((cellsFrom (s.heap.objs.size+1) scope.names []).lookup y.1).isSome=true):=fun ⟨n,v⟩ hy=>by
  rcases S.par n (List.of_mem_zip hy).1 with q | q
  ·exact .inl q
  ·exact .inr ⟨q,PySem.W.cellsFrom_some _ _ _ (.inl q)⟩
 refine codeAny_call_function hr.depth (KX _ _ lk) rfl S.co S.gen rfl (PySem.W.codeRec_of KX hcd) (hb _ _ _ _ ?_)
 refine wpAny_newFunctionEnv_cells S.kind hkind fun env he s1 x=>?_
 subst he
 refine ⟨lim.keeps x.toInCall.keep,codeAny_func ?_⟩
 have I:Inv (zT CX P w K mg base N qual scope f Kc A Ko s H E) [] (L2.zV N vs) H s1:=abG S hr.hd e0 hl r x
 refine wpAny_mono (hbody A Ko s H vs Q E s1 (hr.deeper _) hsp I) (fun fl s' hs=>?_) fun e s' hs=>hs
 have fin:∀ {σ':St} {H':Hp} {v:V} {u:Value},Inv (zT CX P w K mg base N qual scope f Kc A Ko s H E) [] σ' H' s'->qe v u->Q v H'->CE Ko P w H s Q u s':=
  fun {σ' H' v u} J rv q=>⟨v,H',J.os,J.bare,J.base,J.hok,rv,q⟩
 cases fl with
 | ret u=>
  obtain ⟨v,σ',H',J,rv,q⟩:=hs
  exact fin J rv q
 | next=>
  obtain ⟨σ',H',J,q⟩:=hs
  exact fin (v:=V.non) (u:=Value.none) J rfl q
 | brk=>
  obtain ⟨_,_,_,q⟩:=hs
  exact False.elim q
 | cont=>
  obtain ⟨_,_,_,q⟩:=hs
  exact False.elim q
theorem ahQ {CX:CXT}{P:Program}{w:World}{K:Fg}{mg:SV}{base:Heap}{N:List Str}{qual:Str}{scope:Scope}{f:Addr}{cd:Value}{A:Around}{Ko:List Env}{s:Shared}{H:Hp}{E:XK}:Top0 (zT CX P w K mg base N qual scope f cd A Ko s H E):=⟨rfl,rfl,rfl⟩
section
variable {P:Program}{w:World}{K:Fg}{mg:SV}{base:Heap}
noncomputable def Js (N:List Str) (n:Nat) (Fx:Rho->Option Str) (ds:LP):Option Str:=if ds.length=n then Fx (jE N ds) else none
theorem Jx {x qual:Str}{st:Stmt}{f:Addr}{fd:FuncData}{N ps:List Str}{k:Nat}{Fx:Rho->Option Str} (F:Fun K x qual st f fd) (S:FnScope N ps (jf st))
  (body:∀ (Kc:Value) (A:Around) (Ko:List Env) (s:Shared) (H:Hp) (E:XK),Room k (A.deeper (envOfC qual (jf st) s.heap.objs.size f Kc))->acs (zT (CXt P w) P w K mg base N qual (jf st) f Kc A Ko s H E) (jJ st) Fx):
  FnOk P w K mg base (CXt P w) (k+1) f fd ps (ajX K mg ps.length (Js N ps.length Fx)):=by
 with_unfolding_all
  obtain ⟨oc,od,kV,doc,pm,an,Kc,ct,osl,rfl,lk,hcd⟩:=F.ex
  refine alN lk hcd S (fun vs H Q E h=>?_) fun A Ko s H vs Q E s1 hr h I=>?_
  ·obtain ⟨ds,c,h1,h2,_⟩:=h
   rw [h2.length]; exact h1
  ·obtain ⟨ds,c,h1,h2,h3,h4⟩:=h
   unfold Js at h3
   rw [if_pos h1] at h3
   refine wpAny_mono (body Kc A Ko s H E hr s1 (L2.zV N vs) H (jE N ds) c I (Qv h2) h3 fun ev s' t=>?_) (fun _ _ z=>z.elim) fun _ _ z=>z
   obtain ⟨e,C,σ',H',rfl,hC,J,sm,xc⟩:=t
   have T0:Top0 (zT (CXt P w) P w K mg base N qual (jf st) f Kc A Ko s H E):=ahQ
   show wpAny (model P w) (A.deeper (envOfC qual (jf st) s.heap.objs.size f Kc)) (leaving (envOfC qual (jf st) s.heap.objs.size f Kc) (.ref e)) (fun _ s''=>CXt P w Ko H s E (.ref e) s'') (fun e' s''=>CXt P w Ko H s E e' s'') s'
   have n1:=afu (E:=fun _ _=>False) (A:=A.deeper (envOfC qual (jf st) s.heap.objs.size f Kc)) T0 J.ok.frames J xc
   unfold leaving
   refine wpAny_bind (wpAny_mono n1 (fun _ s2 ⟨J2,t2⟩=>?_) fun _ _ z=>z.elim)
   have n2:=QB (E:=fun _ _=>False) (A:=A.deeper (envOfC qual (jf st) s.heap.objs.size f Kc)) none J2 t2
   refine wpAny_mono n2 (fun _ s3 ⟨J3,t3⟩=>?_) fun _ _ z=>z.elim
   obtain ⟨oe,ws,T,oT,ts,g1,g2,g3,g4,g5,g6,g7,g8,g9⟩:=t3.ob
   exact ⟨e,C,H',rfl,J3.os,J3.bare,J3.base,J3.hok,⟨t3.mine.un,t3.mine.new,oe,ws,T,oT,ts,g1,g2,g3,g4,g5,g6.un,g6.new,g7,g8,g9⟩,h4 C H' hC sm⟩
end
theorem Inv.asA {X:Cx}{Kp:List (Addr × Obj)}{σ:St}{H:Hp}{s:Shared}{A:Around}{cm:Bool}{xe:Value->SP0} (I:Inv X Kp σ H s) (hf:A.frames=some X.stack) (hd:cm=true->A.handled=none):Inv { X with A:=A,calm:=cm,xe:=xe } Kp σ H s:=
 ⟨⟨I.ok.mod,I.ok.kind,I.ok.glob,I.ok.blt,I.ok.above,I.ok.inj,I.ok.has,I.ok.cab,hd,hf,I.ok.stk,I.ok.exf,I.ok.bs,I.ok.bsz,I.ok.noex,I.ok.exfs,I.ok.funs,I.ok.frf⟩,I.os,I.bare,I.base,I.loc,I.cell,I.free,I.freeC,I.pin,I.hok,I.len⟩
theorem Inv.ofA {X:Cx}{Kp:List (Addr × Obj)}{σ:St}{H:Hp}{s:Shared}{A:Around}{cm:Bool}{xe:Value->SP0} (ok:X.Ok) (I:Inv { X with A:=A,calm:=cm,xe:=xe } Kp σ H s):Inv X Kp σ H s:=
 ⟨ok,I.os,I.bare,I.base,I.loc,I.cell,I.free,I.freeC,I.pin,I.hok,I.len⟩
theorem Mine.unwish {X:Cx}{E:Value->SP0}{H:Hp}{b:Addr} (m:Mine (X.wish E) H b):Mine X H b:=⟨m.un,m.new,m.loc,m.cel,m.pin⟩
theorem Xc.unwish {X:Cx}{E:Value->SP0}{H:Hp}{h:Heap}{e C:Addr} (x:Xc (X.wish E) H h e C):Xc X H h e C:=by
 obtain ⟨oe,vs,h1,h2,h3,h4,h5⟩:=x.ob
 refine ⟨x.mine.unwish,oe,vs,h1,h2,h3,h4,?_⟩
 rcases h5 with q | ⟨T,oT,ts,q1,q2,q3,q4⟩
 ·exact .inl q
 ·exact .inr ⟨T,oT,ts,q1,q2,q3.unwish,q4⟩
@[irreducible] noncomputable def PS0 (X:Cx) (st:Stmt) (F:RO):Prop:=∀ (s:Shared) (σ:St) (H:Hp) (D:Ends),Inv X [] σ H s->tDS X.K F D σ H->wpAny (model X.prog X.w) X.A (exec st X.env) (SP X [] D) X.xe s
@[irreducible] noncomputable def ajY (X:Cx) (sts:List Stmt) (F:RO):Prop:=∀ (s:Shared) (σ:St) (H:Hp) (D:Ends),Inv X [] σ H s->tDS X.K F D σ H->wpAny (model X.prog X.w) X.A (execs sts X.env) (SP X [] D) X.xe s
section
variable {X:Cx}{st:Stmt}{sts j9 tb hb:List Stmt}{F G:RO}{pos:Pos}
theorem aiY (h:aao X sts F):ajY X sts F:=by
 with_unfolding_all
  exact fun s σ H D I t=>h [] s σ H D I t
theorem aev (h1:PS0 X st F) (h2:ajY X j9 G):ajY X (st::j9) (jM F G):=by
 with_unfolding_all
  intro s σ H D I ⟨ρ,o,en,q,k⟩
  cases hF:F ρ with
  | none=>simp [jM,hF] at q
  | some o1=>
   cases o1 with
   | nx ρ1=>
    have q':G ρ1=some o:=by simpa [jM,hF] using q
    refine wpAny_execs_cons (thn (h1 s σ H { D with nx:=fun σ' H'=>jq H H'/\EnvR X.K H' ρ1 σ' } I ⟨ρ,.nx ρ1,en,hF,fun σ' H' s1 e1=>⟨s1,e1⟩⟩) fun f s1 z=>?_)
    cases f with
    | next=>
     obtain ⟨σ',H',I',sm,e1⟩:=z
     exact h2 s1 σ' H' D I' ⟨ρ1,o,e1,q',k.mono sm⟩
    | brk=>exact z
    | cont=>exact z
    | ret u=>exact z
   | rt d=>
    have q':Out.rt d=o:=by simpa [jM,hF] using q
    subst q'
    refine wpAny_execs_cons (thn (h1 s σ H { D with nx:=fun _ _=>False } I ⟨ρ,.rt d,en,hF,k⟩) fun f s1 z=>?_)
    cases f with
    | next=>obtain ⟨_,_,_,z⟩:=z; exact z.elim
    | brk=>exact z
    | cont=>exact z
    | ret u=>exact z
   | bk ρ1=>
    have q':Out.bk ρ1=o:=by simpa [jM,hF] using q
    subst q'
    refine wpAny_execs_cons (thn (h1 s σ H { D with nx:=fun _ _=>False } I ⟨ρ,.bk ρ1,en,hF,k⟩) fun f s1 z=>?_)
    cases f with
    | next=>obtain ⟨_,_,_,z⟩:=z; exact z.elim
    | brk=>exact z
    | cont=>exact z
    | ret u=>exact z
   | ct ρ1=>
    have q':Out.ct ρ1=o:=by simpa [jM,hF] using q
    subst q'
    refine wpAny_execs_cons (thn (h1 s σ H { D with nx:=fun _ _=>False } I ⟨ρ,.ct ρ1,en,hF,k⟩) fun f s1 z=>?_)
    cases f with
    | next=>obtain ⟨_,_,_,z⟩:=z; exact z.elim
    | brk=>exact z
    | cont=>exact z
    | ret u=>exact z
end
section
variable {X:Cx}{st b0:Stmt}{sts j9 tb hb:List Stmt}{F G:RO}{fx:Rho->Option Str}{pos:Pos}
noncomputable def aaq (n:Nat):Rho:=List.replicate n none
noncomputable abbrev hX (X:Cx) (e:Addr):Cx:={ X with A:=X.A.mark (some (.ref e)),calm:=false,xe:=fun _ _=>False }
theorem SP.ofA {A:Around}{cm:Bool}{xe:Value->SP0}{D:Ends}{f:Flow}{s':Shared} (ok:X.Ok) (h:SP { X with A:=A,calm:=cm,xe:=xe } [] D f s'):SP X [] D f s':=by
 cases f with
 | next=>obtain ⟨σ',H',I,q⟩:=h; exact ⟨σ',H',Inv.ofA ok I,q⟩
 | brk=>obtain ⟨σ',H',I,q⟩:=h; exact ⟨σ',H',Inv.ofA ok I,q⟩
 | cont=>obtain ⟨σ',H',I,q⟩:=h; exact ⟨σ',H',Inv.ofA ok I,q⟩
 | ret u=>obtain ⟨v,σ',H',I,r,q⟩:=h; exact ⟨v,σ',H',Inv.ofA ok I,r,q⟩
end
section
variable {P:Program}{w:World}{K:Fg}{mg:SV}{base:Heap}
theorem agt {x qual:Str}{st:Stmt}{f:Addr}{fd:FuncData}{N ps:List Str}{k:Nat}{B:RO} (F:Fun K x qual st f fd) (S:FnScope N ps (jf st))
  (body:∀ (Kc:Value) (A:Around) (Ko:List Env) (s:Shared) (H:Hp) (E:XK),Room k (A.deeper (envOfC qual (jf st) s.heap.objs.size f Kc))->ajY (zT CX0 P w K mg base N qual (jf st) f Kc A Ko s H E) (jJ st) B):
  FnOk P w K mg base CX0 (k+1) f fd ps (Pur K ps.length (jv N ps.length B)):=by
 with_unfolding_all
  obtain ⟨oc,od,kV,doc,pm,an,Kc,ct,osl,rfl,lk,hcd⟩:=F.ex
  refine alN lk hcd S (fun vs H Q E h=>?_) fun A Ko s H vs Q E s1 hr h I=>?_
  ·obtain ⟨ds,d,h1,h2,_⟩:=h
   rw [h2.length]; exact h1
  ·obtain ⟨ds,d,h1,h2,h3,h4⟩:=h
   unfold jv at h3
   rw [if_pos h1] at h3
   cases hB:B (jE N ds) with
   | none=>rw [hB] at h3; cases h3
   | some o=>
    rw [hB] at h3
    refine body Kc A Ko s H E hr s1 (L2.zV N vs) H _ I ⟨jE N ds,o,Qv h2,hB,?_⟩
    cases o with
    | rt c=>cases h3; exact fun v H' sm r=>h4 v H' sm r
    | nx ρ=>cases h3; exact fun σ H' sm e=>h4 .non H' sm rfl
    | bk ρ=>cases h3
    | ct ρ=>cases h3
end
theorem aa1 {t sl:Addr}{items:Array Value}{vl vu:Value}{lo hi:Option Int}{Q:Value->SP0} (ht:IsTup s.heap t items) (hs:s.heap.IsSliceOf sl vl vu .none) (pl:IsPart vl lo) (pu:IsPart vu hi)
  (hw:HT.sIx items.size 0 lo=0/\HT.sIx items.size items.size hi=items.size) (h:Q (.ref t) s):wpAny (model prog w) A (getItem (.ref t) (.ref sl)) Q E s:=by
 obtain ⟨os,hos,hcs,hds⟩:=id hs
 have hTs:s.TypeIs (.ref sl) "slice":=⟨os,hos,hcs⟩
 unfold getItem
 first | (with_reducible refine wpAny_holding ?_) | skip
 first | refine wpAny_bind (wpAny_pure ?_) | skip
 refine wpAny_bind (wpAny_sequenceKey ht.typeIs (by decide) ?_)
 refine wpAny_bind (wpAny_callSpecial?_slot (name:=Str.ofString "__getitem__") ht.typeIs PyProof.Rows.slot_tuple_getitem (wpAny_call_entry PyProof.Rows.slot_tuple_getitem ht.typeIs entry_tuple_getitem ?_ (args_tuple_getitem _ _)))
 show wpAny _ _ (Builtin.Tuple.tupleItemsOf (.ref t) >>= _) _ _ s
 refine wpAny_bind (tupleItemsOf_ ht (wpAny_bind (wpAny_typeOf hTs ?_)))
 rw [if_pos (show (Value.type "slice" == Value.type "slice")=true by decide)]
 refine wpAny_bind (HT.sliceApplied_gen hs pl pu ?_)
 rw [hw.1,hw.2]
 have hyes:((((0:Nat):Int) == 0 && (1:Int) == 1 && (items.size - 0) == items.size)=true):=by simp
 show wpAny _ _ (if ((((0:Nat):Int) == 0 && (1:Int) == 1 && (items.size - 0) == items.size)=true) then _ else _) _ _ s
 rw [if_pos hyes]
 obtain ⟨o,ho,hc,hd⟩:=id ht
 have hT:s.TypeIs (.ref t) "tuple":=⟨o,ho,hc⟩
 have ex:∀ {R:Bool->SP0} {A':Around} {E':Value->SP0},R true s->wpAny (model prog w) A' (Builtin.Tuple.tupleIsExact (.ref t)) R E' s:=fun {R A' E'} hR=>by
  unfold Builtin.Tuple.tupleIsExact
  first
   | exact wpAny_bind (wpAny_typeOf hT (wpAny_pure hR))
   | (wp_walk; exact hR)
 first
  | exact wpAny_bind (ex (wpAny_bind (wpAny_rule (wpAny_pure ⟨_,rfl,wpAny_pure h⟩))))
  | exact wpAny_bind (ex (by rw [if_pos rfl]; exact wpAny_bind (wpAny_rule (wpAny_pure ⟨_,rfl,wpAny_pure h⟩))))
  | (refine wpAny_bind (ex ?_); wp_walk; exact ⟨_,rfl,wpAny_pure h⟩)
  | (refine wpAny_bind (wpAny_bind (ex ?_)); wp_walk; exact ⟨_,rfl,wpAny_pure h⟩)
section
variable {X:Cx}{e a b c:Expr}{fa fb fc:RP}{pos p2:Pos}
noncomputable def aru (K:Fg):V->Option Int->Option Int->Hp->VK->Prop:=fun x lo hi H Q=>∃ a xs,x= .ref a/\SqT K H a xs/\(HT.sIx xs.length 0 lo=0/\HT.sIx xs.length xs.length hi=xs.length)/\Q (.ref a) H
theorem alO:SlR X (aru X.K):=by
 intro Kp s σ H x v vl vu lo hi sl Q I rx hs pl pu h
 obtain ⟨a,xs,rfl,hx,hw,q⟩:=h
 cases rx
 obtain ⟨its,r,ht,hz⟩:=I.tuple hx
 have hlen:its.toArray.size=xs.length:=by rw [List.size_toArray]; exact r.length.symm
 exact ⟨"tuple",_,PyProof.Rows.slot_tuple_getitem.lookup,ht.typeIs,aa1 ht hs pl pu (by rw [hlen]; exact hw) ⟨.ref a,H,I,rfl,q⟩⟩
noncomputable def anK (p:PyData) (lo hi:Option Int):OP:=match p with
 | .tuple ds=>some (.tuple (apU ds lo hi))
 | _=>none
theorem apV {K:Fg}{p d:PyData}{lo hi:Option Int}{x:V}{H:Hp}{Q:VK} (h:anK p lo hi=some d) (r:Rep K H p x) (k:∀ v H',jq H H'->Rep K H' d v->Q v H'):aq4 K x lo hi H Q ∨ aru K x lo hi H Q:=by
 unfold anK at h
 split at h
 ·rename_i ds
  cases h
  obtain ⟨a,xs,e1,e2,e3⟩:=r
  have hl:=e3.length
  have rr:Reps K H (apU ds lo hi) (afh xs lo hi):=by
   unfold afh apU
   rw [hl]
   exact (e3.drop _).take _
  by_cases hw:HT.sIx xs.length 0 lo=0/\HT.sIx xs.length xs.length hi=xs.length
  ·refine .inr ⟨a,xs,e1,e2,hw,k _ H (jq.refl H) ⟨a,xs,rfl,e2,?_⟩⟩
   have ex:afh xs lo hi=xs:=by unfold afh; rw [hw.1,hw.2]; simp
   rw [ex] at rr
   exact rr
  ·refine .inl ⟨a,xs,e1,e2,hw,fun q hq=>?_⟩
   have s1:=jw (o:= .tup (afh xs lo hi)) hq
   exact k _ _ s1 ⟨q,_,rfl,SqT.of jn,Reps.mono s1 _ _ rr⟩
 ·cases h
noncomputable def acg (fa fb:RP):RP:=fun ρ=>(fa ρ).bind fun p=>(fb ρ).bind fun q=>(inI q).bind fun i=>anK p none (some i)
theorem agu (ha:PD X a fa) (hb:PD X b fb):PD X (.Subscript a (.Slice none (some b) none p2) pos) (acg fa fb):=by
 with_unfolding_all
  refine PE.imp (ak8 (apy.or alO) ha ane (aiG hb)) fun σ H Q ⟨ρ,d,en,q,k⟩=>?_
  cases h1:fa ρ with
  | none=>simp [acg,h1] at q
  | some y=>
   cases h2:fb ρ with
   | none=>simp [acg,h1,h2] at q
   | some z=>
    cases h3:inI z with
    | none=>simp [acg,h1,h2,h3] at q
    | some i=>
     have q':anK y none (some i)=some d:=by simpa [acg,h1,h2,h3] using q
     have hz:=alK h3
     subst hz
     refine ⟨ρ,y,en,h1,fun v H1 s1 r1=>⟨ρ,_,en.mono s1,h2,fun u H2 s2 r2=>?_⟩⟩
     cases (show u=_ from r2)
     exact ⟨i,rfl,apV q' (Rep.mono s2 _ _ r1) fun v H' s r=>k v H' (s1.trans (s2.trans s)) r⟩
end
section
variable {X:Cx}
end
section
variable {X:Cx}
end
section
variable {X:Cx}{e a b c:Expr}{fa fb fc:RP}{pos p2:Pos}
end
noncomputable def Ite (K:Fg) (l:Addr):It:=
 ⟨fun i H=>∃ xs x,SqL K H l xs/\xs[i]?=some x,
  fun i H u H'=>∃ p x,u= .ref p/\H p=none/\H'=upd H p (.tup [.int (i:Int),x])/\∀ xs,SqL K H l xs->xs[i]?=some x,
  fun i H=>∃ xs,SqL K H l xs/\xs.length<=i⟩
theorem ajZ {P:Program}{w:World}{K:Fg}{elts:List Expr}{x1:Nat}{pos:Pos}{e it l:Addr} (hei:e ≠ it):
  Turn P w K (.Tuple elts x1 pos) (Ite K l) [e,it] e (fun i h=>(∃ old,IsEnum h e it i old)/\h.IsListIter it l i) where
 mem:=by simp
 obj:=fun i h st b hb=>by
  obtain ⟨⟨old,he⟩,⟨o,ho,hc,hd⟩⟩:=st
  simp only [List.mem_cons,List.not_mem_nil,or_false] at hb
  rcases hb with rfl | rfl
  ·exact ⟨_,he,fun v q=>by cases q⟩
  ·exact ⟨o,ho,fun v q=>by rw [hd] at q; cases q⟩
 keep:=fun i h h' st k=>by
  obtain ⟨⟨old,he⟩,⟨o,ho,r⟩⟩:=st
  exact ⟨⟨old,k e (by simp) _ he⟩,o,k it (by simp) o ho,r⟩
 item:=by
  intro X hP hw hK hc i Kp s σ H E I hf st hg
  subst hP hw hK
  obtain ⟨xs,x,q1,ex⟩:=hg
  obtain ⟨us1,r1,p1,_⟩:=I.list q1
  have p1:=p1.isList
  obtain ⟨u1,m1,l1⟩:=r1.get ex
  obtain ⟨⟨old,he⟩,hit⟩:=st
  refine wpAny_pyNext_enum_item he hit p1 (by simpa using m1) hei fun h1 ho hit1 hT hsz hk=>⟨_,rfl,?_⟩
  refine wpAny_letOwnedTupleGo_enum (s:={ s with heap:=h1,toks:=s.toks+1 }) ho fun h2 he2 hs2=>?_
  have nT:H s.heap.objs.size=none:=I.hok.fresh (Nat.le_refl _)
  have elt:e<s.heap.objs.size:=Heap.lt_size he
  have B2:∀ b o,b ∉ [e,it]->s.heap.get? b=some o->h2.get? b=some o:=fun b o hb q=>by
   simp only [List.mem_cons,List.not_mem_nil,or_false,not_or] at hb
   exact (hs2.2 b hb.1).trans (hk b o hb.1 hb.2 q)
  have T2:h2.get? s.heap.objs.size=some { cls:= .type "tuple",data:= .seq #[.int i s.toks,u1] }:=(hs2.2 _ (Nat.ne_of_gt elt)).trans hT
  have hit2:h2.IsListIter it l (i+1):=by
   obtain ⟨o,ho',r⟩:=hit1
   exact ⟨o,(hs2.2 it hei.symm).trans ho',r⟩
  have ntr:∀ b u,H b=some u->b ∉ [e,it]:=fun b u q hb=>by
   have:=(hf b hb).1
   rw [q] at this; cases this
  have neT:∀ b u,H b=some u->b ≠ s.heap.objs.size:=fun b u e q=>by rw [q,nT] at e; cases e
  have hok2:HOk X.prog X.w (upd H s.heap.objs.size (.tup [.int (i:Int),x])) h2:=fun b u q=>by
   by_cases hb:b=s.heap.objs.size
   ·subst hb
    rw [jn] at q
    cases q
    exact ⟨by show 2<=sizeLine; rw [sizeLine_eq]; decide,[.int i s.toks,u1],.cons ⟨_,rfl⟩ (.cons l1 .nil),⟨_,T2,rfl,_,rfl⟩⟩
   ·rw [jp hb] at q
    refine (I.hok b u q).stay (fun c o hc' z=>B2 c o ?_ z) (fun c z=>by rw [jp (neT c _ z)]; exact z) fun c ws z=>by rw [jp (neT c _ z)]; exact z
    rcases hc' with q' | q'
    ·rw [q']; exact ntr b u q
    ·exact ntr c _ q'
  have I2:Inv X Kp σ (upd H s.heap.objs.size (.tup [.int (i:Int),x])) { s with heap:=h2,toks:=s.toks+1 }:=by
   refine I.step (g':=s.gens) (d':=s.drawn) (ch:=[e,it]) (fun b hb=>?_) (fun b o _ _ hb q _=>B2 b o hb q) (fun b o _ _ hb q _=>⟨o.slots,B2 b o hb q⟩) (fun b o hb q n=>?_) (fun b o hb q=>⟨o,B2 b o hb q⟩)
    (fun b ws q=>by rw [jp (neT b _ q)]; exact q) (fun b ob ws q=>by rw [jp (neT b _ q)]; exact q) (fun b ps q=>⟨#[],by rw [jp (neT b _ q),q]; simp⟩) (fun m hm=>?_) hok2 I.bare
   ·obtain ⟨f0,f1,f2,f3,f4,f5⟩:=hf b hb
    exact ⟨f3,f1,f4,f5⟩
   ·rw [jp (Nat.ne_of_lt (Heap.lt_size q))]; exact n
   ·obtain ⟨o,es,ep,ho',r⟩:=hm
    refine ⟨o,es,ep,B2 _ o (fun hb=>?_) ho',r⟩
    exact (hf _ hb).2.1 rfl
  refine ⟨.ref s.heap.objs.size,_,I2,rfl,⟨_,x,rfl,nT,rfl,fun as g1=>?_⟩,⟨⟨_,by simpa using he2⟩,hit2⟩,fun b hb=>?_⟩
  ·rw [I.list_inj g1 q1]; exact ex
  ·have hlt:b<s.heap.objs.size:=by
    simp only [List.mem_cons,List.not_mem_nil,or_false] at hb
    rcases hb with rfl | rfl
    ·exact elt
    ·obtain ⟨o,ho',_⟩:=hit; exact Heap.lt_size ho'
   rw [jp (Nat.ne_of_lt hlt)]
   exact (hf b hb).1
 done:=by
  intro X hP hw hK hc i Kp s σ H E I hf st hg
  subst hP hw hK
  obtain ⟨xs,q1,hl⟩:=hg
  obtain ⟨us1,r1,p1,_⟩:=I.list q1
  have p1:=p1.isList
  have hlen:=r1.length
  obtain ⟨⟨old,he⟩,hit⟩:=st
  refine wpAny_pyNext_enum_end (I.ok.hd hc) he hit p1 (by simp; omega) fun h1 hx=>⟨rfl,?_⟩
  have ntr:∀ b u,H b=some u->b ≠ it:=fun b u q hb=>by
   have:=(hf it (by simp)).1
   rw [hb] at q
   rw [q] at this; cases this
  refine I.step (t':=s.toks) (g':=s.gens) (d':=s.drawn) (ch:=[it]) (fun b hb=>?_) (fun b o _ _ hb q _=>hx b o (by simpa using hb) q) (fun b o _ _ hb q _=>⟨o.slots,hx b o (by simpa using hb) q⟩) (fun b o hb q n=>n) (fun b o hb q=>⟨o,hx b o (by simpa using hb) q⟩)
   (fun b ws q=>q) (fun b ob ws q=>q) (fun b ps q=>⟨#[],by rw [q]; simp⟩) (fun m hm=>?_) (fun b u q=>?_) I.bare
  ·obtain ⟨f0,f1,f2,f3,f4,f5⟩:=hf b (by simp only [List.mem_cons,List.not_mem_nil,or_false] at hb ⊢; exact .inr hb)
   exact ⟨f3,f1,f4,f5⟩
  ·obtain ⟨o,es,ep,ho,r⟩:=hm
   refine ⟨o,es,ep,hx _ o (fun hb=>?_) ho,r⟩
   exact (hf it (by simp)).2.1 hb.symm
  ·refine (I.hok b u q).stay (fun c o hc' z=>hx c o ?_ z) (fun c z=>z) fun c ws z=>z
   rcases hc' with q' | q'
   ·rw [q']; exact ntr b u q
   ·exact ntr c _ q'
 self:=fun _ _ _ _ _ st h=>by
  obtain ⟨⟨old,he⟩,_⟩:=st
  exact wpAny_pyIter_enum he h
section
variable {X:Cx}
noncomputable def arv (K:Fg) (ta:TA):TI:=fun σ H R=>ta σ H fun vs H1=>∃ a xs,vs=[.ref a]/\SqL K H1 a xs/\R (Ite K a) H1
theorem anL {ea:Expr}{elts:List Expr}{x1:Nat}{tp:Pos}{ta:TA}{p pos:Pos} (hg:Gl X "enumerate") (hm:X.mg "enumerate"=none) (ha:PA X [ea] ta)
  (hs:starEach [ea] X.env=[(false,eval ea X.env)]:=by rfl):
  PI X (.Tuple elts x1 tp) (.Call (.Name "enumerate" p) [ea] [] pos) (arv X.K ta):=by
 intro Kp s σ H R I h
 refine Call_ (aas I hg hm boot_enumerate (PyProof.Rows.callWith_type1 (thn (ha pos Kp s σ H _ I h) fun us s1 ⟨vs,H1,I1,r1,q1⟩=>?_) (by rw [hs]; rfl) (by rfl)))
 obtain ⟨a,xs,e,q1,q⟩:=q1
 subst e
 cases r1 with
 | cons r1 rr=>
  cases rr
  cases r1
  obtain ⟨us1,v1,p1,_⟩:=I1.list q1
  refine call_enumerate_list p1.isList fun h' he hit hz kp=>?_
  refine wpAny_pyIter_enum he ?_
  have I2:Inv X Kp σ H1 { s1 with heap:=h' }:=I1.kept (t':=s1.toks) kp
  refine ⟨_,[s1.heap.objs.size+1,s1.heap.objs.size],_,_,H1,rfl,I2,ajZ (e:=s1.heap.objs.size+1) (it:=s1.heap.objs.size) (l:=a) (Nat.succ_ne_self _),⟨⟨_,he⟩,hit⟩,fun x hx=>?_,q⟩
  have hle:s1.heap.objs.size<=x:=by
   simp only [List.mem_cons,List.not_mem_nil,or_false] at hx
   rcases hx with e | e <;> rw [e] <;> omega
  exact I1.fpOk hle (I1.hok.fresh hle)
noncomputable def Zf:Nat->LP->LP
 | _,[]=>[]
 | i,d::ds=> .tuple [.int (i:Int),d]::Zf (i+1) ds
noncomputable def agv (ds:LP):Option (LP):=match ds with
 | [.list xs]=>some (Zf 0 xs)
 | _=>none
theorem aew:∀ (xs:LP) (k:Nat),(Zf k xs).length=xs.length
 | [],_=>rfl
 | _::xs,k=>by simp [Zf,aew xs]
theorem aex:∀ (xs:LP) (k i:Nat) (d:PyData),(Zf k xs)[i]?=some d->∃ x,xs[i]?=some x/\d= .tuple [.int ((k+i:Nat):Int),x]
 | [],_,_,_,h=>by simp [Zf] at h
 | x::xs,k,0,d,h=>by simp [Zf] at h; exact ⟨x,rfl,h.symm⟩
 | x::xs,k,i+1,d,h=>by
  simp only [Zf,zzB] at h
  obtain ⟨y,h1,h2⟩:=aex xs (k+1) i d h
  exact ⟨y,by simpa using h1,by rw [h2,show k+1+i=k+(i+1) by omega]⟩
theorem alP {ea:Expr}{elts:List Expr}{x1:Nat}{tp:Pos}{p pos:Pos}{fr:Rho->Option (LP)} (hm:X.mg "enumerate"=none) (ha:PAD X [ea] fr) (hg:Gl X "enumerate":=by rfl)
  (hs:starEach [ea] X.env=[(false,eval ea X.env)]:=by rfl):
  PID X (.Tuple elts x1 tp) (.Call (.Name "enumerate" p) [ea] [] pos) (fun ρ=>(fr ρ).bind agv):=by
 with_unfolding_all
  refine PI.imp (anL hg hm ha hs) fun σ H R ⟨ρ,ds,en,q,k⟩=>?_
  cases h1:fr ρ with
  | none=>simp [h1] at q
  | some as=>
   have q':agv as=some ds:=by simpa [h1] using q
   refine ⟨ρ,as,en,h1,fun vs H1 s1 r1=>?_⟩
   unfold agv at q'
   split at q'
   ·rename_i xs
    cases q'
    obtain ⟨v1,w1,e1,rp,e4⟩:=r1
    cases (show w1=[] from e4)
    obtain ⟨a,us,g1,g2,ra⟩:=rp
    subst g1
    have l1:=ra.length
    have lz:=aew xs 0
    have qa:SqL X.K H1 a us:=SqL.of g2
    refine ⟨a,us,e1,qa,k _ H1 s1 fun i H2 s2=>⟨fun hi=>?_,fun hi=>?_,fun u H3 y=>?_⟩⟩
    ·rw [lz] at hi
     exact ⟨us,us[i]'(by omega),jG.sql s2 qa,by simp <;> omega⟩
    ·rw [lz] at hi
     exact ⟨us,jG.sql s2 qa,by omega⟩
    ·obtain ⟨pp,x,e5,e6,e7,e8⟩:=y
     subst e5; subst e7
     refine ⟨jw e6,fun d hd=>?_⟩
     obtain ⟨dx,g3,g4⟩:=aex xs 0 i d hd
     subst g4
     have f1:=e8 us (jG.sql s2 qa)
     have m:=s2.trans (jq.a (jw (o:= .tup [.int (i:Int),x]) e6))
     obtain ⟨x',a1,a2⟩:=(Reps.monoA m _ _ ra).get g3
     rw [f1] at a1; cases a1
     exact ⟨pp,[.int (i:Int),x],rfl,SqT.of jn,_,_,rfl,by show V.int (i:Int)=V.int ((0+i:Nat):Int); rw [Nat.zero_add],x,_,rfl,a2,rfl⟩
   ·cases q'
end
section
variable {X:Cx}{e:Expr}{es:List Expr}{pos p:Pos}
theorem alQ {CX:CXT}{k i:Nat}{f:Addr}{fd:FuncData}{ps:List Str}{sp:Sp}{E:XK}{x y:Str}{t:TA} (F:FnOk X.prog X.w X.K X.mg X.base CX k f fd ps sp) (hr:Room k X.A) (hm:X.mg x=some (.ref f)) (hk:PySem.W.keepIn X.K (.ref f)=true) (hb:JZ X.K fd ps []) (hx:aff CX X E)
  (hN:X.N[i]?=some y) (hv:Vis X.env.scope y) (ha:PA X (e::es) t) (hdb:(y == ("__debug__":Str))=false:=by decide) (hcd:(y == ("__classdict__":Str))=false:=by decide) (he:starEach (e::es) X.env=(false,eval e X.env)::starEach es X.env:=by rfl) (hpl:(backTo pos (starEach es X.env)).any (·.1)=false:=by rfl):
  PE X (.Call (.Name y p) (e::es) [] pos) (fun σ H Q=>apb i σ H fun v H1=>(∃ a,v= .ref a/\PySem.W.nsIn X.K mainGlobals x=some (some (.ref a)))/\ak4 sp [] E t σ H1 Q):=by
 intro Kp s σ H Q I h
 refine wpAny_Call_Name_kw (thn (Zm hN hv hdb hcd Kp s σ H _ I h) fun u s1 ⟨v,H1,I1,rv,⟨a,ev,ea⟩,q⟩=>?_)
 subst ev
 cases rv
 have hf:=(PySem.W.mg_of I1.mod.kin I1.mod.glob ea).symm.trans hm
 cases hf
 refine PySem.W.callWith_K (h₀:=X.base) I1.ok.mod.kin hk (thn (ha pos Kp s1 σ H1 _ I1 q) fun us s2 ⟨vs,H2,I2,r,q2⟩=>⟨I2.kIn,?_⟩) he hpl
 exact afg F hr hb .nil hx I2 r q2
noncomputable def Zg (x:Str):PyData->Bool
 | .dict [(.str y,.none)]=>decide (y=x)
 | _=>false
theorem adk {x:Str}{d:PyData} (h:Zg x d=true):d=fnD x:=by
 unfold Zg at h
 split at h
 ·rw [of_decide_eq_true h]; rfl
 ·cases h
@[simp] theorem zC (x:Str):Zg x (fnD x)=true:=by simp [Zg,fnD]
noncomputable def aj0 (i:Nat) (x:Str) (g:LP->OP) (fr:Rho->Option (LP)):RP:=fun ρ=>(lkp i ρ).bind fun d=>if Zg x d=true then (fr ρ).bind g else none
theorem afv {K:Fg}{H:Hp}{x:Str}{v:V} (h:Rep K H (fnD x) v):∃ a,v= .ref a/\PySem.W.nsIn K mainGlobals x=some (some (.ref a)):=by
 obtain ⟨a,h1,⟨ns,h2,h3⟩ | ⟨ks,ob,h2,h3⟩ | ⟨y,h2,h3⟩ | ⟨y,_,_,h2,_⟩ | h2⟩:=h
 ·cases ns with
  | nil=>cases h3
  | cons n ns=>cases h3
 ·exact h3.elim
 ·cases h2
  exact ⟨a,h1,h3⟩
 ·cases h2
 ·cases h2
theorem alR {k j n:Nat} (i:Nat) {ps:List Str}{g:LP->OP}{x y:Str}{fr:Rho->Option (LP)} (c:jm X.prog X.w X.K X.mg X.base x ps k n g) (hr:Room j X.A) (hkj:k<=j) (ha:PAD X (e::es) fr)
  (hl:∀ (ρ:Rho) (ds:LP),fr ρ=some ds->ds.length=n) (hn:(e::es).length=n:=by rfl) (hN:X.N[i]?=some y:=by rfl) (hv:Vis X.env.scope y:=by first | exact Or.inl rfl | exact Or.inr (Or.inl rfl) | exact Or.inr (Or.inr rfl))
  (hdb:(y == ("__debug__":Str))=false:=by decide) (hcd:(y == ("__classdict__":Str))=false:=by decide) (he:starEach (e::es) X.env=(false,eval e X.env)::starEach es X.env:=by rfl)
  (hpl:(backTo pos (starEach es X.env)).any (·.1)=false:=by rfl):PD X (.Call (.Name y p) (e::es) [] pos) (aj0 i x g fr):=by
 with_unfolding_all
  obtain ⟨f,fd,c1,c2,c3,c4⟩:=c
  refine PE.imp (alQ c1 (hr.mono hkj) c2 c3 c4 ael hN hv ha hdb hcd he hpl) fun σ H Q ⟨ρ,d,en,q,k⟩=>?_
  cases h0:lkp i ρ with
  | none=>simp [aj0,h0] at q
  | some d0=>
   cases hF:Zg x d0 with
   | false=>simp [aj0,h0,hF] at q
   | true=>
    have:=adk hF
    subst this
    cases h1:fr ρ with
    | none=>simp [aj0,h0,hF,h1] at q
    | some ds=>
     have q':g ds=some d:=by simpa [aj0,h0,hF,h1] using q
     obtain ⟨v,e1,e2⟩:=en.at' i _ (qB h0)
     refine ⟨v,e1,afv e2,ρ,ds,en,h1,fun vs H1 s1 r1=>?_⟩
     exact ⟨ds,d,hl ρ ds h1,by rw [List.append_nil]; exact r1,q',fun v H' s r=>k v H' (s1.trans s) r⟩
end
@[irreducible] noncomputable def PAX (X:Cx) (es:List Expr) (fx:Rho->Option Str):Prop:=∀ (pos:Pos) (s:Shared) (σ:St) (H:Hp) (ρ:Rho) (c:Str),Inv X [] σ H s->EnvR X.K H ρ σ->fx ρ=some c->(∀ ev s',Thr X H c ev s'->X.xe ev s')->wpAny (model X.prog X.w) X.A (spliced (backTo pos (starEach es X.env))) (fun _ _=>False) X.xe s
section
variable {X:Cx}{e a b c:Expr}{es:List Expr}{fa:RP}{fx gx:Rho->Option Str}{pos:Pos}
theorem alS (h:PDX X e fx) (hs:starEach (e::es) X.env=(false,eval e X.env)::starEach es X.env:=by rfl):PAX X (e::es) fx:=by
 with_unfolding_all
  intro pos s σ H ρ c I en q k
  rw [hs]
  show wpAny _ _ (spliced ((false,eval e X.env)::backTo pos (starEach es X.env))) _ _ s
  exact Calls.spliced_cons (wpAny_mono (h s σ H ρ c I en q k) (fun _ _ z=>z.elim) fun _ _ z=>z)
noncomputable def anM (fa:RP) (gx:Rho->Option Str):Rho->Option Str:=fun ρ=>(fa ρ).bind fun _=>gx ρ
theorem alT (ha:PD X e fa) (h:PAX X es gx) (hs:starEach (e::es) X.env=(false,eval e X.env)::starEach es X.env:=by rfl):PAX X (e::es) (anM fa gx):=by
 with_unfolding_all
  intro pos s σ H ρ c I en q k
  cases h1:fa ρ with
  | none=>simp [anM,h1] at q
  | some d=>
   have q':gx ρ=some c:=by simpa [anM,h1] using q
   rw [hs]
   show wpAny _ _ (spliced ((false,eval e X.env)::backTo pos (starEach es X.env))) _ _ s
   refine Calls.spliced_cons (wpAny_mono (ha [] s σ H (fun v H'=>jq H H'/\Rep X.K H' d v) I ⟨ρ,d,en,h1,fun v H' s1 r=>⟨s1,r⟩⟩) (fun u s1 z=>?_) fun _ _ z=>z)
   obtain ⟨v,H1,I1,_,sm,_⟩:=z
   exact wpAny_mono (h pos s1 σ H1 ρ c I1 (en.mono sm) q' fun ev s' t=>k ev s' (t.mono sm)) (fun _ _ z=>z.elim) fun _ _ z=>z
theorem alU {k n:Nat}{ps:List Str}{g:LP->OP}{x:Str}{p:Pos} (C:jm X.prog X.w X.K X.mg X.base x ps k n g) (ha:PAX X (e::es) fx)
  (hg:Gl X x:=by rfl) (hdb:(x == ("__debug__":Str))=false:=by decide) (he:starEach (e::es) X.env=(false,eval e X.env)::starEach es X.env:=by rfl)
  (hpl:(backTo pos (starEach es X.env)).any (·.1)=false:=by rfl):PDX X (.Call (.Name x p) (e::es) [] pos) fx:=by
 with_unfolding_all
  intro s σ H ρ c I en q k'
  obtain ⟨f,fd,_,hm,hk,_⟩:=C
  refine wpAny_Call_Name_kw (ZO I hg hm ?_ hdb)
  exact PySem.W.callWith_K (h₀:=X.base) I.ok.mod.kin hk (wpAny_mono (ha pos s σ H ρ c I en q k') (fun _ _ z=>z.elim) fun _ _ z=>z) he hpl
end
section
variable {X:Cx}{own:Option Nat}{e a b c tg src:Expr}{es:List Expr}{st:Stmt}{sts j9 body:List Stmt}{fx gx:Rho->Option Str}{F:RO}{fa:RP}{pos:Pos}
end
section
variable {X:Cx}{e a b c:Expr}{es:List Expr}{st:Stmt}{sts j9:List Stmt}{fx gx:Rho->Option Str}{F:RO}{pos p:Pos}
noncomputable def orX (fx gx:Rho->Option Str):Rho->Option Str:=fun ρ=>match fx ρ with
 | some c=>some c
 | none=>gx ρ
theorem QZ (h1:acs X sts fx) (h2:acs X sts gx):acs X sts (orX fx gx):=by
 with_unfolding_all
  intro s σ H ρ c I en q k
  cases hf:fx ρ with
  | some c'=>
   have:c'=c:=by simpa [orX,hf] using q
   subst this
   exact h1 s σ H ρ c' I en hf k
  | none=>exact h2 s σ H ρ c I en (by simpa [orX,hf] using q) k
end
section
variable {X:Cx}{a b c:Expr}{tc ta tb:Rho->Option Bool}{pos:Pos}
end
section
variable {X:Cx}{a b:Expr}{fa fb:RP}
theorem adl:∀ {is:List Bool}{us:List Value},jQ (is.map V.bl) us->us=is.map Value.bool
 | [],us,r=>by cases r; rfl
 | i0::is,u::us,.cons r rr=>by
  rw [List.map_cons,←adl rr,show u=Value.bool i0 from r]
noncomputable def aj1 (k:Bool):Value->Bool
 | .bool i=>i == k
 | _=>false
noncomputable def anN:V->List V->Hp->VK->Prop:=fun x vs H Q=>∃ (l:Addr) (is:List Bool) (k:Bool) (j:Nat),x= .ref l/\vs=[.bl k]/\H l=some (.lst (is.map V.bl))/\is.findIdx? (· == k)=some j/\Q (.int j) H
noncomputable def anO:V->List V->Hp->VK->Prop:=fun x vs H Q=>∃ (l:Addr) (is:List Bool) (k:Bool),x= .ref l/\vs=[.bl k]/\H l=some (.lst (is.map V.bl))/\Q (.int (is.countP (· == k))) H
theorem aj2:MtR X "list.index" anN:=by
 intro Kp s σ H x vs v us Q I rx rv h
 obtain ⟨l,is,k,j,rfl,rfl,hH,hj,q⟩:=h
 cases rx
 obtain ⟨u,rfl,ru⟩:=jQ.one rv
 cases (show u=Value.bool k from ru)
 obtain ⟨z,its,n,r,hl,e⟩:=I.lstM hH
 have hlen:=r.length
 simp only [List.length_map] at hlen
 have hits:=adl r
 subst hits
 obtain ⟨hj1,hj2,hj3⟩:=List.findIdx?_eq_some_iff_getElem.mp hj
 have hln:=ac0
 have z':=z
 rw [List.length_map] at z'
 refine call_meets F.slot_list_index ⟨_,e,rfl⟩ F.entry_list_index (F.args_list_index_2 _ _) (SeqAt.list_indexAt l (is.map Value.bool).toArray n none #[] (.bool k) (aj1 k) j (by simp; omega) ?_ ?_ ?_) ⟨e,?_,?_⟩
 ·omega
 ·simp [aj1]; exact beq_iff_eq.mp hj2
 ·intro m hm hmj
  simp [aj1]
  have:=hj3 m hmj
  exact fun z=>this (by rw [z]; exact beq_self_eq_true k)
 ·intro y hy
  have hy':y ∈ is.map Value.bool:=by simpa using hy
  obtain ⟨i,_,rfl⟩:=List.mem_map.mp hy'
  exact SeqAt.EqAt.bool_bool _ _
 ·exact ⟨.int j,H,I.tok _,⟨_,rfl⟩,q⟩
theorem aj3:MtR X "list.count" anO:=by
 intro Kp s σ H x vs v us Q I rx rv h
 obtain ⟨l,is,k,rfl,rfl,hH,q⟩:=h
 cases rx
 obtain ⟨u,rfl,ru⟩:=jQ.one rv
 cases (show u=Value.bool k from ru)
 obtain ⟨z,its,n,r,hl,e⟩:=I.lstM hH
 have hits:=adl r
 subst hits
 have hc:((is.map Value.bool).toArray.toList.countP (aj1 k))=is.countP (· == k):=by
  show (is.map Value.bool).countP (aj1 k)=_
  rw [List.countP_map]; rfl
 refine call_meets F.slot_list_count ⟨_,e,rfl⟩ F.entry_list_count (F.args_list_count_2 _ _) (SeqAt.list_countAt l (is.map Value.bool).toArray n none #[] (.bool k) (aj1 k)) ⟨e,?_,?_⟩
 ·intro y hy
  have hy':y ∈ is.map Value.bool:=by simpa using hy
  obtain ⟨i,_,rfl⟩:=List.mem_map.mp hy'
  exact SeqAt.EqAt.bool_bool _ _
 ·exact ⟨.int (is.countP (· == k)),H,I.tok _,⟨_,by rw [←hc]⟩,q⟩
noncomputable def agw:LP->Option (List Bool)
 | []=>some []
 | .bool i::r=>(agw r).map (i::·)
 | _=>none
theorem ahR {K:Fg}{H:Hp}:∀ {ds:LP}{is:List Bool}{xs:List V},agw ds=some is->Reps K H ds xs->xs=is.map V.bl
 | [],is,xs,h,r=>by cases h; exact r
 | d::ds,is,xs,h,r=>by
  obtain ⟨x,ys,e1,e2,e3⟩:=r
  cases d with
  | bool i=>
   simp only [agw,Option.map_eq_some_iff] at h
   obtain ⟨js,h1,h2⟩:=h
   subst h2
   cases (show x=_ from e2)
   rw [e1,ahR h1 e3]; rfl
  | _=>simp [agw] at h
noncomputable def afw (p q:PyData):OP:=match p,q with
 | .list ds,.bool k=>(agw ds).bind fun is=>(is.findIdx? (· == k)).map fun (j:Nat)=>PyData.int j
 | _,_=>none
noncomputable def afx (p q:PyData):OP:=match p,q with
 | .list ds,.bool k=>(agw ds).map fun is=>PyData.int (is.countP (· == k))
 | _,_=>none
theorem aj4 {apos cpos:Pos} (ha:PD X a fa) (hb:PD X b fb) (hbase:attributeBase a "index" X.env (eval a X.env)=eval a X.env:=by rfl)
  (hfew:((backTo cpos (starEach [b] X.env)).all (fun x=>!x.1) && (backToKw cpos (keywordEach [] X.env)).all (fun x=>x.1.isSome) && decide ([b].length+([]:List Keyword).length+(if ([]:List Keyword).isEmpty then 0 else 1)<30))=true:=by rfl)
  (hline:(apos.endLine == cpos.line)=true:=by rfl) (hs:starEach [b] X.env=(false,eval b X.env)::starEach [] X.env:=by rfl) (hplain:(backTo cpos (starEach [] X.env)).any (fun x=>x.1)=false:=by rfl):
  PD X (.Call (.Attribute a "index" apos) [b] [] cpos) (op2 afw fa fb):=by
 with_unfolding_all
  refine PE.imp (aei PySem.F.plainAttrs_list PySem.F.slot_list_index PySem.F.type_list_index aj2 ha (qt hb zn hs) hbase hfew hline hs hplain) fun σ H Q ⟨ρ,d,en,h,k⟩=>?_
  cases h1:fa ρ with
  | none=>simp [op2,h1] at h
  | some p=>
   cases h2:fb ρ with
   | none=>simp [op2,h1,h2] at h
   | some q=>
    have h':afw p q=some d:=by simpa [op2,h1,h2] using h
    unfold afw at h'
    split at h'
    ·rename_i ds n
     cases h3:agw ds with
     | none=>simp [h3] at h'
     | some is=>
      cases h4:is.findIdx? (· == n) with
      | none=>simp [h3,h4] at h'
      | some j=>
       simp only [h3,h4,zzD,zzE,Option.some.injEq] at h'
       subst h'
       refine ⟨ρ,_,en,h1,fun v H1 s1 r1=>?_⟩
       obtain ⟨l,xs,e1,e2,e3⟩:=r1
       subst e1
       refine ⟨.inl ⟨rfl,xs,SqL.of e2⟩,ρ,_,en.mono s1,h2,fun y H2 s2 r2=>?_⟩
       cases (show y=V.bl n from r2)
       refine ⟨l,is,n,j,rfl,rfl,?_,h4,k _ H2 (s1.trans s2) rfl⟩
       rw [←ahR h3 e3]
       exact s2 _ _ e2
    ·cases h'
theorem aj5 {apos cpos:Pos} (ha:PD X a fa) (hb:PD X b fb) (hbase:attributeBase a "count" X.env (eval a X.env)=eval a X.env:=by rfl)
  (hfew:((backTo cpos (starEach [b] X.env)).all (fun x=>!x.1) && (backToKw cpos (keywordEach [] X.env)).all (fun x=>x.1.isSome) && decide ([b].length+([]:List Keyword).length+(if ([]:List Keyword).isEmpty then 0 else 1)<30))=true:=by rfl)
  (hline:(apos.endLine == cpos.line)=true:=by rfl) (hs:starEach [b] X.env=(false,eval b X.env)::starEach [] X.env:=by rfl) (hplain:(backTo cpos (starEach [] X.env)).any (fun x=>x.1)=false:=by rfl):
  PD X (.Call (.Attribute a "count" apos) [b] [] cpos) (op2 afx fa fb):=by
 with_unfolding_all
  refine PE.imp (aei PySem.F.plainAttrs_list PySem.F.slot_list_count PySem.F.type_list_count aj3 ha (qt hb zn hs) hbase hfew hline hs hplain) fun σ H Q ⟨ρ,d,en,h,k⟩=>?_
  cases h1:fa ρ with
  | none=>simp [op2,h1] at h
  | some p=>
   cases h2:fb ρ with
   | none=>simp [op2,h1,h2] at h
   | some q=>
    have h':afx p q=some d:=by simpa [op2,h1,h2] using h
    unfold afx at h'
    split at h'
    ·rename_i ds n
     cases h3:agw ds with
     | none=>simp [h3] at h'
     | some is=>
      simp only [h3,zzE,Option.some.injEq] at h'
      subst h'
      refine ⟨ρ,_,en,h1,fun v H1 s1 r1=>?_⟩
      obtain ⟨l,xs,e1,e2,e3⟩:=r1
      subst e1
      refine ⟨.inl ⟨rfl,xs,SqL.of e2⟩,ρ,_,en.mono s1,h2,fun y H2 s2 r2=>?_⟩
      cases (show y=V.bl n from r2)
      refine ⟨l,is,n,rfl,rfl,?_,k _ H2 (s1.trans s2) rfl⟩
      rw [←ahR h3 e3]
      exact s2 _ _ e2
    ·cases h'
end
structure RoomH (k:Nat) (A:Around):Prop where
 dp:A.depth+3*k+5<recursionLimit
 un:A.units+16*k+200<cLine
theorem RoomH.deeper {k:Nat}{A:Around} (r:RoomH (k+1) A) (env:Env):RoomH k (A.deeper env):=
 ⟨by have:=r.dp; show A.depth+1+3*k+5<_; omega,by have:=r.un; show A.units+3+16*k+200<_; omega⟩
theorem Room.h {k:Nat}{A:Around} (r:Room k A):RoomH k A:=⟨r.dp,r.un⟩
theorem RoomH.mark {k:Nat}{A:Around}{v:Option Value} (r:RoomH k A):RoomH k (A.mark v):=⟨r.dp,r.un⟩
structure FnH (P:Program) (w:World) (K:Fg) (mg:SV) (base:Heap) (k:Nat) (f:Addr) (fd:FuncData) (ps:List Str) (sp:Sp):Prop where
 len:∀ vs H Q E,sp vs H Q E->vs.length=ps.length
 run:∀ (A:Around) (Ko:List Env) (s:Shared) (H:Hp) (args:Args) (us:List Value) (vs:List V) (Q:VK) (E:XK),RoomH k A->Env0 P w K mg base A Ko s H->BindsTo s fd args (ps.zip us)->jQ vs us->sp vs H Q E->
  codeAny (model P w) A (.call (.ref f) args) (CR CX0 Ko P w H s Q E) s
noncomputable abbrev cxH (P:Program) (w:World) (K:Fg) (mg:SV) (base:Heap) (N:List Str) (qual:Str) (scope:Scope) (f:Addr) (cd:Value) (A:Around) (Ko:List Env) (s:Shared) (H:Hp) (E:XK):Cx:=
 { zT CX0 P w K mg base N qual scope f cd { A with handled:=none } Ko s H E with A:=A.deeper (envOfC qual scope s.heap.objs.size f cd),calm:=false,xe:=fun _ _=>False }
noncomputable def aa2 (P:Program) (w:World) (K:Fg) (mg:SV) (base:Heap) (x:Str) (ps:List Str) (k n:Nat) (g:LP->OP):Prop:=
 ∃ (f:Addr) (fd:FuncData),FnH P w K mg base k f fd ps (Pur K n g)/\mg x=some (.ref f)/\PySem.W.keepIn K (.ref f)=true/\JZ K fd ps []
section
variable {P:Program}{w:World}{K:Fg}{mg:SV}{base:Heap}
theorem ass {x qual:Str}{st:Stmt}{f:Addr}{fd:FuncData}{N ps:List Str}{k:Nat}{B:RO} (F:Fun K x qual st f fd) (S:FnScope N ps (jf st))
  (body:∀ (Kc:Value) (A:Around) (Ko:List Env) (s:Shared) (H:Hp) (E:XK),RoomH k (A.deeper (envOfC qual (jf st) s.heap.objs.size f Kc))->aao (cxH P w K mg base N qual (jf st) f Kc A Ko s H E) (jJ st) B):
  FnH P w K mg base (k+1) f fd ps (Pur K ps.length (jv N ps.length B)):=by
 with_unfolding_all
  obtain ⟨oc,od,kV,doc,pm,an,Kc,ct,osl,rfl,lk,hcd⟩:=F.ex
  have len:∀ vs H Q E,Pur K ps.length (jv N ps.length B) vs H Q E->vs.length=ps.length:=fun vs H Q E h=>by
   obtain ⟨ds,d,h1,h2,_⟩:=h
   rw [h2.length]; exact h1
  refine ⟨len,fun A Ko s H args us vs Q E hr e0 hb r hsp=>?_⟩
  have hl:=len _ _ _ _ hsp
  have KX:K.In s.heap:=e0.mod.kin.keeps fun b o e=>(e0.bs b o e).1
  have lim:s.heap.NoLimit:=e0.mod.nolimit.keeps fun b o e=>(e0.bs b o e).1
  have hkind:∀ y ∈ ps.zip us,(jf st).names.lookup y.1=some .local ∨ ((jf st).names.lookup y.1=some .cell/\((cellsFrom (s.heap.objs.size+1) (jf st).names []).lookup y.1).isSome=true):=fun ⟨n,v⟩ hy=>by
   rcases S.par n (List.of_mem_zip hy).1 with q | q
   ·exact .inl q
   ·exact .inr ⟨q,PySem.W.cellsFrom_some _ _ _ (.inl q)⟩
  have hdp:A.depth<recursionLimit:=by have:=hr.dp; omega
  refine codeAny_call_function hdp (KX _ _ lk) rfl S.co S.gen rfl (PySem.W.codeRec_of KX hcd) (hb _ _ _ _ ?_)
  refine wpAny_newFunctionEnv_cells S.kind hkind fun env he s1 x=>?_
  subst he
  refine ⟨lim.keeps x.toInCall.keep,codeAny_func ?_⟩
  have e1:Env0 P w K mg base { A with handled:=none } Ko s H:=⟨e0.frames,e0.mod,e0.bs,e0.bsz,e0.funs,e0.frf,e0.hok,e0.bare⟩
  have I0:Inv (zT CX0 P w K mg base N qual (jf st) f Kc { A with handled:=none } Ko s H E) [] (L2.zV N vs) H s1:=abG S rfl e1 hl r x
  have I:Inv (cxH P w K mg base N qual (jf st) f Kc A Ko s H E) [] (L2.zV N vs) H s1:=Inv.asA I0 I0.ok.frames (fun z=>nomatch z)
  obtain ⟨ds,d,h1,h2,h3,h4⟩:=hsp
  unfold jv at h3
  rw [if_pos h1] at h3
  cases hB:B (jE N ds) with
  | none=>rw [hB] at h3; cases h3
  | some o=>
   rw [hB] at h3
   have bd:=body Kc A Ko s H E (hr.deeper _) [] s1 (L2.zV N vs) H { nx:=fun _ H'=>Q .non H',rt:=Q } I ⟨jE N ds,o,Qv h2,hB,by
    cases o with
    | rt c=>cases h3; exact fun v H' sm r=>h4 v H' sm r
    | nx ρ=>cases h3; exact fun σ H' sm e=>h4 .non H' sm rfl
    | bk ρ=>cases h3
    | ct ρ=>cases h3⟩
   refine wpAny_mono bd (fun fl s' hs=>?_) fun e s' hs=>hs.elim
   have fin:∀ {σ':St} {H':Hp} {v:V} {u:Value},Inv (cxH P w K mg base N qual (jf st) f Kc A Ko s H E) [] σ' H' s'->qe v u->Q v H'->CE Ko P w H s Q u s':=
    fun {σ' H' v u} J rv q=>⟨v,H',J.os,J.bare,J.base,J.hok,rv,q⟩
   cases fl with
   | ret u=>
    obtain ⟨v,σ',H',J,rv,q⟩:=hs
    exact fin J rv q
   | next=>
    obtain ⟨σ',H',J,q⟩:=hs
    exact fin (v:=V.non) (u:=Value.none) J rfl q
   | brk=>
    obtain ⟨_,_,_,q⟩:=hs
    exact False.elim q
   | cont=>
    obtain ⟨_,_,_,q⟩:=hs
    exact False.elim q
end
section
variable {X:Cx}{e:Expr}{es:List Expr}{pos:Pos}
theorem agx {k n:Nat}{ps:List Str}{g:LP->OP}{x:Str}{p:Pos}{fr:Rho->Option (LP)} (c:aa2 X.prog X.w X.K X.mg X.base x ps k n g) (hr:RoomH k X.A) (ha:PAD X (e::es) fr)
  (hl:∀ (ρ:Rho) (ds:LP),fr ρ=some ds->ds.length=n) (hn:(e::es).length=n:=by rfl) (hg:Gl X x:=by rfl) (hdb:(x == ("__debug__":Str))=false:=by decide) (he:starEach (e::es) X.env=(false,eval e X.env)::starEach es X.env:=by rfl)
  (hpl:(backTo pos (starEach es X.env)).any (·.1)=false:=by rfl):PD X (.Call (.Name x p) (e::es) [] pos) (jy g fr):=by
 with_unfolding_all
  obtain ⟨f,fd,F,hm,hk,hb⟩:=c
  have run:∀ {Kp:List (Addr × Obj)} {σ:St} {H:Hp} {s:Shared} {Q:VK} {us:List Value} {vs:List V},Inv X Kp σ H s->jQ vs us->Pur X.K n g vs H Q (fun _ _ _=>False)->wpAny (model X.prog X.w) X.A (call (.ref f) us) (EP X Kp σ Q) X.xe s:=by
   intro Kp σ H s Q us vs I r h
   have hl:us.length=ps.length:=by rw [←r.length]; exact F.len _ _ _ _ h
   have hb':=hb s us I.kIn (by rw [List.append_nil]; exact hl)
   rw [List.append_nil] at hb'
   refine wpAny_call (codeAny_mono (F.run X.A X.stack s H ⟨us,[]⟩ us vs Q (fun _ _ _=>False) hr I.env0 hb' r h) fun r s' hq=>?_)
   cases r with
   | error e=>exact (ael [] σ H s e s' (I.pins_of fun p hp=>nomatch hp) hq:X.xe e s')
   | ok fl=>
    cases fl with
    | ret u=>exact I.after hq
    | next=>exact False.elim hq
    | brk=>exact False.elim hq
    | cont=>exact False.elim hq
  have pc:PE X (.Call (.Name x p) (e::es) [] pos) (ak4 (Pur X.K n g) [] (fun _ _ _=>False) (tDA X.K fr)):=by
   intro Kp s σ H Q I h
   refine wpAny_Call_Name_kw (ZO I hg hm ?_ hdb)
   refine PySem.W.callWith_K (h₀:=X.base) I.ok.mod.kin hk (thn (ha pos Kp s σ H _ I h) fun us s1 ⟨vs,H1,I1,r,q⟩=>⟨I1.kIn,?_⟩) he hpl
   have q':Pur X.K n g (vs++[]) H1 Q (fun _ _ _=>False):=q
   rw [List.append_nil] at q'
   exact run I1 r q'
  refine PE.imp pc fun σ H Q ⟨ρ,d,en,q,k⟩=>?_
  cases h1:fr ρ with
  | none=>simp [jy,h1] at q
  | some ds=>
   refine ⟨ρ,ds,en,h1,fun vs H1 s1 r1=>?_⟩
   exact ⟨ds,d,by rw [hl ρ ds h1],by rw [List.append_nil]; exact r1,by simpa [jy,h1] using q,fun v H' s r=>k v H' (s1.trans s) r⟩
end
structure ExcK (K:Fg) (C:Addr):Prop where
 exc:PySem.W.excIn K C vB "ValueError.__new__"=true
 ga:PySem.W.findIn K (.ref C) "__getattribute__"=some (some (.builtin "BaseException.__getattribute__"))
 gt:PySem.W.findIn K (.ref C) "__getattr__"=some none
 cl:PySem.W.findIn K (.ref C) "__class__"=some (some (.builtin "object.__class__"))
 mo:PySem.W.mroIn K C (.type "object")=some true
 mb:PySem.W.mroIn K C (.type "BaseException")=some true
theorem agy {K:Fg}{C:Addr}{t:Value}{b:Bool} (h:PySem.W.mroIn K C t=some b):(PySem.W.clsIn K C).isSome=true:=by
 unfold PySem.W.mroIn at h
 cases hc:PySem.W.clsIn K C with
 | none=>rw [hc] at h; cases h
 | some cd=>rfl
theorem ExcK.ci {K:Fg}{C:Addr} (h:ExcK K C):(PySem.W.clsIn K C).isSome=true:=agy h.mo
structure ClsG (K:Fg):Prop where
 gt:PySem.W.specialIn K (.builtin "object.__class__") "__get__"=some (some (.builtin "getset_descriptor.__get__"))
 tk:PySem.W.takesIn K (.builtin "object.__class__")=some true
section
variable {prog:Program}{w:World}{A:Around}{E:Value->SP0}{s:Shared}{K:Fg}{a C:Addr}{oe:Obj}
theorem alV (hg:ClsG K) (hc:ExcK K C):PySem.W.findObj K C none "__class__"=some (.bind (.builtin "getset_descriptor.__get__") (.builtin "object.__class__")):=by
 obtain ⟨cd,h1⟩:=Option.isSome_iff_exists.mp hc.ci
 unfold PySem.W.findObj
 rw [h1,zzD,hc.cl,zzD]
 simp [hg.gt,hg.tk]
theorem aj6 {nameV:Value}{Q:Unit->SP0} (X:K.In s.heap) (hc:ExcK K C) (I:PySem.W.InstAt s.heap a oe C none) (hq:Q () s):wpAny (model prog w) A (checkBuiltinCall "BaseException.__getattribute__" ⟨[.ref a,nameV],[]⟩) Q E s:=by
 have hk:builtinKind "BaseException.__getattribute__"=some .slot:=by decide +kernel
 have hsplit:splitId "BaseException.__getattribute__"=some ("BaseException","__getattribute__"):=by decide +kernel
 have ha:=F.args_bexc_ga (.ref a) nameV
 have L0:=I.type (M:=model prog w)
 have L1:=PySem.W.looks_mroIn (M:=model prog w) X hc.mb
 obtain ⟨hh,g,d,t,os⟩:=s
 simp only [checkBuiltinCall,hk,hsplit]
 refine wpAny_bind ?_
 unfold isInstance
 repeat (first | with_reducible refine L0.at ?_ | with_reducible refine L1.at ?_ | wp_step)
 exact hq
theorem aj7 {tk:Tok}{Q:Fin->SP0} (X:K.In s.heap) (hg:ClsG K) (hc:ExcK K C) (I:PySem.W.InstAt s.heap a oe C none) (hq:Q (.done (.ret (.ref C))) s):
  wpAny (model prog w) A (Builtin.«object.__getattribute__» ⟨[.ref a,.str "__class__" tk],[]⟩) Q E s:=by
 have L0:=I.type (M:=model prog w)
 have L1:=PySem.W.looks_find (M:=model prog w) X I (alV hg hc)
 obtain ⟨hh,g,d,t,os⟩:=s
 refine wpAny_bind (wpAny_pure (wpAny_bind (wpAny_pure (wpAny_bind (L0.at (wpAny_bind (L1.at ?_)))))))
 show wpAny _ _ (holding [Value.builtin "object.__class__"] (call (.builtin "getset_descriptor.__get__") [.builtin "object.__class__",.ref a,.ref C]) >>= ret) _ _ _
 refine wpAny_bind (wpAny_holding (wpAny_call (PySem.W.class_get (ox:=oe) (od:=none) X I hc.mo ?_)))
 exact wpAny_pure hq
theorem anP {Q:Option Value->SP0} (X:K.In s.heap) (hg:ClsG K) (hc:ExcK K C) (I:PySem.W.InstAt s.heap a oe C none) (hq:Q (some (.ref C)) { s with toks:=s.toks+1 }):wpAny (model prog w) A (getAttr? (.ref a) "__class__") Q E s:=by
 have L0:=I.type (M:=model prog w)
 have L1:=PySem.W.looks_findIn (M:=model prog w) X hc.ga
 have L2:=PySem.W.looks_findIn (M:=model prog w) X hc.gt
 obtain ⟨hh,g,d,t,os⟩:=s
 unfold getAttr? getAttrBy? getAttrBy
 refine wpAny_bind (wpAny_mkText (wpAny_bind (wpAny_attempt (wpAny_holding (wpAny_bind (L0.at (wpAny_bind (L1.at ?_))))))))
 have hx2:(Value.builtin "BaseException.__getattribute__" == Value.builtin "object.__getattribute__")=false:=by decide +kernel
 have hx1:(onTheHeap (Value.ref C) && Value.builtin "BaseException.__getattribute__" == Value.builtin "object.__getattribute__")=false:=by rw [hx2]; rfl
 dsimp only
 rw [hx1]
 show wpAny _ _ (getAttrByItsOwn _ _ _ _ _ _) _ _ _
 unfold getAttrByItsOwn hookBefore
 rw [if_pos (show onTheHeap (Value.ref C)=true from rfl)]
 refine wpAny_bind (L2.at (wpAny_bind (wpAny_attempt (wpAny_holding ?_))))
 unfold callGetattribute
 rw [if_neg (by simp)]
 have f3:=PySem.F.attr_ValueError.ga.bind (.ref a)
 have fin:codeAny (model prog w) A (.call (.builtin "BaseException.__getattribute__") ⟨[.ref a,.str "__class__" t],[]⟩) (fun r s'=>match r with | .ok (.ret v)=>v= .ref C/\s'=⟨hh,g,d,t+1,os⟩ | _=>False) ⟨hh,g,d,t+1,os⟩:=
  codeAny_call_builtin PySem.F.attr_ValueError.ga.plain F.entry_bexc_ga (aj6 (s:=⟨hh,g,d,t+1,os⟩) X hc I (aj7 (s:=⟨hh,g,d,t+1,os⟩) X hg hc I ⟨rfl,rfl⟩))
 unfold boundAndCalled
 rw [f3]
 refine wpAny_bind (wpAny_pure (wpAny_call (codeAny_mono fin fun r s' hr=>?_)))
 cases r with
 | error e=>exact hr.elim
 | ok fl=>
  cases fl with
  | ret v=>
   obtain ⟨rfl,rfl⟩:=hr
   exact PySem.W.handed_on rfl (wpAny_pure hq)
  | next=>exact hr.elim
  | brk=>exact hr.elim
  | cont=>exact hr.elim
theorem alW (hg:ClsG K) (hc:ExcK K C):PySem.W.KitX K (.ref a) (.ref C) (fun h=>∃ oe,PySem.W.InstAt h a oe C none) where
 ty:=fun _ _ _ ⟨_,I⟩=>I.type
 it:=fun _ _ X _=>by
  obtain ⟨cdD,hcD⟩:=Option.isSome_iff_exists.mp hc.ci
  unfold PySem.W.clsIn at hcD
  split at hcD
  ·rename_i ho
   intro A' Q' E' s' k q
   unfold isType loadHead
   exact wpAny_bind (wpAny_loadPart (k _ _ (X _ _ ho)) (wpAny_pure q))
  ·cases hcD
 ne:=fun h tp dd its n sl X htp=>by
  obtain ⟨cdD,hcD⟩:=Option.isSome_iff_exists.mp hc.ci
  refine Bool.eq_false_iff.mpr fun q=>?_
  have e:C=tp:=Value.ref.inj (beq_iff_eq.mp q)
  subst e
  unfold PySem.W.clsIn at hcD
  split at hcD
  ·rename_i ho
   have z:=(X _ _ ho).symm.trans htp
   cases z
  ·cases hcD
 ca:=fun X ⟨_,I⟩ k=>anP X hg hc I k
end
noncomputable def adr (K:Fg) (c:Str):Option Addr:=match PySem.W.nsIn K mainGlobals c with
 | some (some (.ref C))=>some C
 | _=>none
theorem apW {K:Fg}{c:Str}{C:Addr} (h:PySem.W.nsIn K mainGlobals c=some (some (.ref C))):adr K c=some C:=by
 unfold adr; rw [h]
theorem aiZ {K:Fg}{c:Str}{C:Addr} (h:adr K c=some C):PySem.W.nsIn K mainGlobals c=some (some (.ref C)):=by
 unfold adr at h
 split at h
 ·rename_i q; cases h; exact q
 ·cases h
noncomputable def apX (K:Fg) (C:Addr):Bool:=PySem.W.excIn K C vB "ValueError.__new__" && ((PySem.W.findIn K (.ref C) "__getattribute__" == some (some (.builtin "BaseException.__getattribute__"))) && ((PySem.W.findIn K (.ref C) "__getattr__" == some none) && ((PySem.W.findIn K (.ref C) "__class__" == some (some (.builtin "object.__class__"))) && ((PySem.W.mroIn K C (.type "object") == some true) && (PySem.W.mroIn K C (.type "BaseException") == some true)))))
theorem alX {K:Fg}{C:Addr} (h:apX K C=true):ExcK K C:=by
 unfold apX at h
 simp only [Bool.and_eq_true,beq_iff_eq] at h
 obtain ⟨h1,h2,h3,h4,h5,h6⟩:=h
 exact ⟨h1,h2,h3,h4,h5,h6⟩
noncomputable def afy (K:Fg) (y:Str) (cs:List Str):Bool:=(PySem.W.specialIn K (.builtin "object.__class__") "__get__" == some (some (.builtin "getset_descriptor.__get__"))) && ((PySem.W.takesIn K (.builtin "object.__class__") == some true) && (match adr K y with
 | none=>false
 | some B=>(PySem.W.typeIn K (.ref B) == some (.type "type")) && ((PySem.W.mroIn K B (.type "BaseException") == some true) && cs.all fun c=>match adr K c with
  | none=>false
  | some C=>apX K C && ((PySem.W.mroIn K C (.ref B) == some true) && ((PySem.W.kitOne K (.ref C) (.type "ValueError") == some true) && cs.all fun d=>match adr K d with
   | none=>false
   | some D=>PySem.W.kitOne K (.ref C) (.ref D) == some (c == d))))))
structure ErrT (K:Fg) (mg:SV) (y:Str) (cs:List Str):Prop where
 tab:afy K y cs=true
 mgs:∀ c C,adr K c=some C->mg c=some (.ref C)
section
variable {K:Fg}{mg:SV}{y:Str}{cs:List Str}
theorem ErrT.g (h:ErrT K mg y cs):ClsG K:=by
 have:=h.tab
 unfold afy at this
 simp only [Bool.and_eq_true,beq_iff_eq] at this
 exact ⟨this.1,this.2.1⟩
theorem ErrT.par (h:ErrT K mg y cs):∃ B,adr K y=some B/\mg y=some (.ref B)/\PySem.W.typeIn K (.ref B)=some (.type "type")/\PySem.W.mroIn K B (.type "BaseException")=some true/\
  ∀ c ∈ cs,∃ C,adr K c=some C/\mg c=some (.ref C)/\ExcK K C/\PySem.W.mroIn K C (.ref B)=some true/\PySem.W.kitOne K (.ref C) (.type "ValueError")=some true/\∀ d ∈ cs,∃ D,adr K d=some D/\mg d=some (.ref D)/\PySem.W.kitOne K (.ref C) (.ref D)=some (c == d):=by
 have q:=h.tab
 unfold afy at q
 simp only [Bool.and_eq_true,beq_iff_eq] at q
 obtain ⟨_,_,q⟩:=q
 cases hB:adr K y with
 | none=>rw [hB] at q; cases q
 | some B=>
  rw [hB] at q
  simp only [Bool.and_eq_true,beq_iff_eq,List.all_eq_true] at q
  obtain ⟨q1,q2,q3⟩:=q
  refine ⟨B,rfl,h.mgs y B hB,q1,q2,fun c hc=>?_⟩
  have z:=q3 c hc
  cases hC:adr K c with
  | none=>rw [hC] at z; cases z
  | some C=>
   rw [hC] at z
   simp only [Bool.and_eq_true,beq_iff_eq,List.all_eq_true] at z
   obtain ⟨z1,z2,z3,z4⟩:=z
   refine ⟨C,rfl,h.mgs c C hC,alX z1,z2,z3,fun d hd=>?_⟩
   have v:=z4 d hd
   cases hD:adr K d with
   | none=>rw [hD] at v; cases v
   | some D=>
    rw [hD] at v
    exact ⟨D,rfl,h.mgs d D hD,beq_iff_eq.mp v⟩
theorem ErrT.err (h:ErrT K mg y cs) {c:Str} (hc:c ∈ cs):ad5 K mg c:=by
 obtain ⟨B,_,_,_,_,q⟩:=h.par
 obtain ⟨C,_,q2,q3,_⟩:=q c hc
 exact ⟨C,q2,q3.exc⟩
end
noncomputable def aey:PyData->Option Str
 | .dict [(.str c,.bool true)]=>some c
 | _=>none
theorem agz {d:PyData}{c:Str} (h:aey d=some c):d=Jw c:=by
 unfold aey at h
 split at h
 ·cases h; rfl
 ·cases h
@[simp] theorem apY (c:Str):aey (Jw c)=some c:=rfl
theorem alY {K:Fg}{H:Hp}{x:Str}{v:V} (h:Rep K H (Jw x) v):∃ a C oe,v= .ref a/\H a=some (.frz oe (.own a))/\PySem.W.nsIn K mainGlobals x=some (some (.ref C))/\oe.cls= .ref C/\oe.dict=none/\∃ vs,oe.data= .fields vs:=by
 obtain ⟨a,h1,⟨ns,h2,h3⟩ | ⟨ks,ob,h2,h3⟩ | ⟨y,h2,_⟩ | ⟨y,C,oe,h2,h3,h4,h5⟩ | h2⟩:=h
 ·cases ns with
  | nil=>cases h3
  | cons n ns=>cases h3
 ·exact h3.elim
 ·cases h2
 ·cases h2
  exact ⟨a,C,oe,h1,h3,h4,h5⟩
 ·cases h2
noncomputable def aj8 (cs:List Str) (f:Str->Bool) (d:PyData):OP:=(aey d).bind fun c=>if c ∈ cs then some (.bool (f c)) else none
section
variable {X:Cx}{a:Expr}{fa:RP}{pos p p2:Pos}{y:Str}{cs:List Str}
noncomputable def arw (K:Fg) (w:V):List V->Hp->VK->Prop:=fun xs H Q=>∃ x c C b,xs=[x,w]/\Rep K H (Jw c) x/\adr K c=some C/\ExcK K C/\(∀ u,qe w u->PySem.W.kitOne K (.ref C) u=some b)/\Q (.bl b) H
theorem aez {w:V} (G:ClsG X.K):Jn X (.builtin "isinstance") (arw X.K w):=by
 intro Kp s σ H xs us Q I r ⟨x,c,C,b,e,h1,hC,hK,h2,q⟩
 subst e
 obtain ⟨u,w',rfl,r1,r2⟩:=agd r
 obtain ⟨a,C',oe,rfl,e2,e3,e4,e5,vs,e6⟩:=alY h1
 have:=apW e3
 rw [hC] at this; cases this
 cases (show u=Value.ref a from r1)
 have at':s.heap.get? a=some oe:=(I.hok _ _ e2).1
 exact PySem.W.kia_one (alW G hK) I.kIn ⟨oe,at',e4,by unfold PySem.W.notCls; rw [e6],by rw [e5]; trivial⟩ (h2 w' r2) (fun z=>nomatch z) fun tk=>⟨.bl b,H,I.tok tk,rfl,q⟩
theorem ZU {T:Str} (hE:ErrT X.K X.mg y cs) (hm1:X.mg "isinstance"=none) (ha:PD X a fa) (hT:T ∈ cs:=by decide) (hg1:Gl X "isinstance":=by rfl) (hg2:Gl X T:=by rfl) (hd:(T == ("__debug__":Str))=false:=by decide)
  (he:starEach [a,.Name T p2] X.env=[(false,eval a X.env),(false,eval (.Name T p2) X.env)]:=by rfl) (he2:starEach [.Name T p2] X.env=[(false,eval (.Name T p2) X.env)]:=by rfl) (hpl:(backTo pos (starEach [.Name T p2] X.env)).any (·.1)=false:=by rfl):
  PD X (.Call (.Name "isinstance" p) [a,.Name T p2] [] pos) (fun ρ=>(fa ρ).bind (aj8 cs fun c=>c == T)):=by
 with_unfolding_all
  obtain ⟨B,_,_,_,_,par⟩:=hE.par
  obtain ⟨D,d1,d2,_⟩:=par T hT
  have hT2:PE X (.Name T p2) (tC (.ref D)):=acw hg2 d2 rfl hd
  refine PE.imp (aaO (aez (w:= .ref D) hE.g) hg1 hm1 (by decide +kernel) (qt ha (qt hT2 zn (by rw [he2]; rfl)) (by rw [he,he2])) (by decide) (by decide) (by rw [he,he2]) hpl) fun σ H Q ⟨ρ,d,en,q,k⟩=>?_
  cases h1:fa ρ with
  | none=>simp [h1] at q
  | some c0=>
   have q':aj8 cs (fun c=>c == T) c0=some d:=by simpa [h1] using q
   unfold aj8 at q'
   cases h2:aey c0 with
   | none=>rw [h2] at q'; cases q'
   | some c=>
    rw [h2,zzD] at q'
    by_cases hc:c ∈ cs
    ·rw [if_pos hc] at q'
     cases q'
     have:=agz h2
     subst this
     obtain ⟨C,c1,c2,c3,c4,c5,c6⟩:=par c hc
     obtain ⟨D',d1',d2',d3'⟩:=c6 T hT
     rw [d1] at d1'; cases d1'
     exact ⟨ρ,_,en,h1,fun v H1 s1 r1=>⟨v,c,C,_,rfl,r1,c1,c3,fun u ru=>by cases (show u=Value.ref D from ru); exact d3',k _ H1 s1 rfl⟩⟩
    ·rw [if_neg hc] at q'; cases q'
theorem anQ (hE:ErrT X.K X.mg y cs) (hm1:X.mg "isinstance"=none) (hm2:X.mg "ValueError"=none) (ha:PD X a fa) (hg1:Gl X "isinstance":=by rfl) (hg2:Gl X "ValueError":=by rfl)
  (he:starEach [a,.Name "ValueError" p2] X.env=[(false,eval a X.env),(false,eval (.Name "ValueError" p2) X.env)]:=by rfl) (he2:starEach [.Name "ValueError" p2] X.env=[(false,eval (.Name "ValueError" p2) X.env)]:=by rfl) (hpl:(backTo pos (starEach [.Name "ValueError" p2] X.env)).any (·.1)=false:=by rfl):
  PD X (.Call (.Name "isinstance" p) [a,.Name "ValueError" p2] [] pos) (fun ρ=>(fa ρ).bind (aj8 cs fun _=>true)):=by
 with_unfolding_all
  obtain ⟨B,_,_,_,_,par⟩:=hE.par
  have hT2:PE X (.Name "ValueError" p2) (tC (.ty "ValueError")):=aiB hg2 hm2 (u:= .type "ValueError") (by decide +kernel) rfl (by decide) (by decide)
  refine PE.imp (aaO (aez (w:= .ty "ValueError") hE.g) hg1 hm1 (by decide +kernel) (qt ha (qt hT2 zn (by rw [he2]; rfl)) (by rw [he,he2])) (by decide) (by decide) (by rw [he,he2]) hpl) fun σ H Q ⟨ρ,d,en,q,k⟩=>?_
  cases h1:fa ρ with
  | none=>simp [h1] at q
  | some c0=>
   have q':aj8 cs (fun _=>true) c0=some d:=by simpa [h1] using q
   unfold aj8 at q'
   cases h2:aey c0 with
   | none=>rw [h2] at q'; cases q'
   | some c=>
    rw [h2,zzD] at q'
    by_cases hc:c ∈ cs
    ·rw [if_pos hc] at q'
     cases q'
     have:=agz h2
     subst this
     obtain ⟨C,c1,c2,c3,c4,c5,c6⟩:=par c hc
     exact ⟨ρ,_,en,h1,fun v H1 s1 r1=>⟨v,c,C,_,rfl,r1,c1,c3,fun u ru=>by cases (show u=Value.type "ValueError" from ru); exact c5,k _ H1 s1 rfl⟩⟩
    ·rw [if_neg hc] at q'; cases q'
end
section
variable {X:Cx}{σ:St}{H:Hp}{s:Shared}{e C:Addr}
theorem Inv.take {oe:Obj} (I:Inv X [] σ H s) (m:Mine X H e) (he:s.heap.get? e=some oe):Inv X [] σ (upd H e (.frz oe (.own e))) s/\jq H (upd H e (.frz oe (.own e))):=by
 have ne:∀ b o,H b=some o->b ≠ e:=fun b o q z=>by subst z; rw [m.un] at q; cases q
 have sm:jq H (upd H e (.frz oe (.own e))):=fun b o q=>by rw [jp (ne b o q)]; exact q
 have u:Un (frs X.stack) [e] H (upd H e (.frz oe (.own e))) s.heap s.heap:=⟨fun b o q _ _ _=>q,fun b o q _ _ _=>⟨o.slots,q⟩,fun b o q n nc=>by rw [jp (fun z=>nc (by simp [z]))]; exact n,fun b o q _=>⟨o,q⟩,fun b xs q=>sm b _ q,fun b o v q=>sm b _ q,fun b ps q=>⟨#[],by rw [sm b _ q]; simp⟩⟩
 have hok:HOk X.prog X.w (upd H e (.frz oe (.own e))) s.heap:=fun b o q=>by
  by_cases hb:b=e
  ·subst hb
   rw [jn] at q; cases q
   exact ⟨he,_,he⟩
  ·rw [jp hb] at q
   exact (I.hok b o q).stay (fun c v hc r=>r) (fun c r=>sm _ _ r) fun c v r=>sm _ _ r
 refine ⟨?_,sm⟩
 have J:=Inv.call (X:={ X with ex:=[e]++X.ex }) (g':=s.gens) (d':=s.drawn) (t':=s.toks) (Inv.exIn I fun b hb=>by rw [List.mem_singleton.mp hb]; exact ⟨m.new,m.loc,m.cel⟩) u hok I.bare fun b hb=>by
  rw [List.mem_singleton.mp hb]
  exact ⟨.inl (List.mem_append_left _ (by simp)),m.loc,m.cel,fun p hp=>m.pin p (by simpa using hp)⟩
 exact Inv.exOut J I.ok fun b hb=>by rw [List.mem_singleton.mp hb]; exact m.new
theorem anR {M:Model}{A:Around}{E:Value->SP0}{x:Str}{pos:Pos}{Q:Unit->SP0} (I:Inv X [] σ H s) (hl:X.env.kindOf x=some .local) (h:∀ s',Inv X [] (List.replicate σ.length none) H s'->Q () s'):
  wpAny M A (do bindName X.env x .none; unbindBehindTheSuite X.env x pos) Q E s:=by
 obtain ⟨m,hn,_⟩:=id I.loc
 have hcls:(X.env.scope.kind == .class || (X.env.scope.kind == .module && X.env.locals != X.env.globals))=false:=by rw [I.ok.kind]; rfl
 have cne:=I.cne
 refine wpAny_nameGoes hl hn hcls fun h' m' hn' hs=>?_
 obtain ⟨oL,_,_,hoL,_⟩:=id hn
 have tracked:HOk X.prog X.w H h':=fun b ob e=>by
  refine (I.hok b ob e).stay (fun c w' hc q=>(hs.2 c ?_).trans q) (fun _ q=>q) fun _ _ q=>q
  rintro rfl
  rcases hc with rfl | hc
  ·rw [I.free] at e; cases e
  ·rw [I.free] at hc; cases hc
 refine h _ ⟨I.ok,I.os,I.bare,⟨fun b o e n hb hx=>?_,fun b o e n hb hx=>?_,I.base.free,fun b o e hx=>?_,I.base.tups,I.base.frzs,I.base.tbls⟩,⟨_,hn',fun j y v' e1 e2 e3=>?_⟩,fun y c e=>?_,I.free,I.freeC,fun p hp=>?_,tracked,by simpa using I.len⟩
 ·exact (hs.2 b (Nat.ne_of_lt (Nat.lt_of_lt_of_le (Heap.lt_size e) I.ok.above))).trans (I.base.keep b o e n hb hx)
 ·obtain ⟨sl,e1⟩:=I.base.slot b o e n hb hx
  exact ⟨sl,(hs.2 b (Nat.ne_of_lt (Nat.lt_of_lt_of_le (Heap.lt_size e) I.ok.above))).trans e1⟩
 ·obtain ⟨o',e1⟩:=I.base.there b o e hx
  exact ⟨o',(hs.2 b (Nat.ne_of_lt (Nat.lt_of_lt_of_le (Heap.lt_size e) I.ok.above))).trans e1⟩
 ·rw [List.getElem?_replicate] at e2
  split at e2 <;> cases e2
 ·obtain ⟨w',z⟩:=I.cell y c e
  exact ⟨w',z.sameBut hs (cne y c e)⟩
 ·obtain ⟨e,n,ne,nf,d⟩:=I.pin p hp
  exact ⟨(hs.2 p.1 ne).trans e,n,ne,nf,d⟩
theorem agA {M:Model}{A:Around}{E:Value->SP0}{K:Fg}{B:Addr}{oe:Obj}{Q:Bool->SP0} (X:K.In s.heap) (he:s.heap.get? e=some oe) (hc:oe.cls= .ref C)
  (ht:PySem.W.typeIn K (.ref B)=some (.type "type")) (hB:PySem.W.mroIn K B (.type "BaseException")=some true) (hm:PySem.W.mroIn K C (.ref B)=some true) (hq:Q true s):wpAny M A (excMatches (.ref e) (.ref B)) Q E s:=by
 have L0:=PySem.W.looks_typeIn (M:=M) X ht
 have L1:=PySem.W.looks_mroIn (M:=M) X hB
 have L2':=PySem.W.looks_mroIn (M:=M) X hm
 have Lt:PySem.W.Looks M s.heap (isType (.ref B)) true:=by
  obtain ⟨cdD,hcD⟩:=Option.isSome_iff_exists.mp (agy hB)
  unfold PySem.W.clsIn at hcD
  split at hcD
  ·rename_i ho
   intro A' Q' E' s' k q
   unfold isType loadHead
   exact wpAny_bind (wpAny_loadPart (k _ _ (X _ _ ho)) (wpAny_pure q))
  ·cases hcD
 have f:=tc_notTuple
 obtain ⟨hp,g,d,tk,os⟩:=s
 unfold excMatches isInstance isExcClass
 repeat (first | (with_reducible refine wpAny_loadPart_at he ?_; rw [hc]) | with_reducible refine L0.at ?_ | with_reducible refine L1.at ?_ | with_reducible refine L2'.at ?_ | with_reducible refine Lt.at ?_ | wp_step)
 exact hq
end
noncomputable def Zx (n i:Nat) (cs:List Str) (F:RO) (fx:Rho->Option Str) (G:RO):RO:=fun ρ=>match F ρ with
 | some o=>some o
 | none=>match fx ρ with
  | some c=>if c ∈ cs then (match G ((aaq n).set i (some (Jw c))) with
   | some (.rt d)=>some (.rt d)
   | _=>none) else none
  | none=>none
section
variable {X:Cx}{st b0:Stmt}{sts j9 tb hb:List Stmt}{F G:RO}{fx:Rho->Option Str}{pos:Pos}
theorem agB {y x:Str}{np hpos:Pos}{n:Nat}{cs:List Str} (i:Nat) (T0:Top0 X) (hN:X.N.length=n) (hnd:X.N.Nodup) (hE:ErrT X.K X.mg y cs) (hn:∀ E,aao (X.wish E) tb F) (hx:∀ E,acs (X.wish E) tb fx) (hh:∀ e,aao (hX X e) (b0::hb) G)
  (hi:X.N[i]?=some x:=by rfl) (hl:X.env.kindOf x=some .local:=by rfl) (hlk:X.env.scope.names.lookup x=some .local:=by rfl) (hg:Gl X y:=by rfl) (hdb:(y == ("__debug__":Str))=false:=by decide):PS0 X (.Try tb [.ExceptHandler (some (.Name y np)) (some x) (b0::hb) hpos] [] [] pos) (Zx n i cs F fx G):=by
 with_unfolding_all
  intro s σ H D I ⟨ρ,o,en,q,k⟩
  refine wpAny_Try_except ?_
  let E':Value->SP0:=fun ev s1=>wpAny (model X.prog X.w) X.A (noteFrame ev X.env) (fun _ s₂=>wpAny (model X.prog X.w) X.A (setFlight ev none) (fun _ s₃=>wpAny (model X.prog X.w) X.A (handleBy ev X.env [.ExceptHandler (some (.Name y np)) (some x) (b0::hb) hpos]) (SP X [] D) X.xe s₃) X.xe s₂) X.xe s1
  cases hF:F ρ with
  | some o1=>
   have e1:o1=o:=by simpa [Zx,hF] using q
   subst e1
   refine wpAny_mono (hn E' [] s σ H D (I.wish E') ⟨ρ,o1,en,hF,k⟩) (fun f s1 z=>?_) fun _ _ z=>z
   have z':=SP.unwish z
   cases f with
   | next=>exact wpAny_execs_nil z'
   | brk=>exact z'
   | cont=>exact z'
   | ret u=>exact z'
  | none=>
   cases hc:fx ρ with
   | none=>simp [Zx,hF,hc] at q
   | some c=>
    by_cases hy:c ∈ cs
    ·cases hG:G ((aaq n).set i (some (Jw c))) with
     | none=>simp [Zx,hF,hc,hy,hG] at q
     | some o1=>
     cases o1 with
     | nx ρ1=>simp [Zx,hF,hc,hy,hG] at q
     | bk ρ1=>simp [Zx,hF,hc,hy,hG] at q
     | ct ρ1=>simp [Zx,hF,hc,hy,hG] at q
     | rt d=>
     have q':Out.rt d=o:=by simpa [Zx,hF,hc,hy,hG] using q
     subst q'
     obtain ⟨B,aB,mB,tB,bB,par⟩:=hE.par
     obtain ⟨C',aC,mC,xC,pC,_⟩:=par c hy
     refine wpAny_mono (hx E' s σ H ρ c (I.wish E') en hc fun ev s1 t=>?_) (fun _ _ z=>z.elim) fun _ _ z=>z
     obtain ⟨e,C,σ1,H1,rfl,hm,J,sm,xc⟩:=t
     have J0:=J.unwish
     have x0:=xc.unwish
     show wpAny _ X.A (noteFrame (.ref e) X.env) _ _ s1
     refine wpAny_mono (afu (E:=fun _ _=>False) T0 J0.ok.frames J0 x0) (fun _ s2 ⟨J2,t2⟩=>?_) fun _ _ z=>z.elim
     refine wpAny_mono (QB (E:=fun _ _=>False) none J2 t2) (fun _ s3 ⟨J3,t3⟩=>?_) fun _ _ z=>z.elim
     have ok:=J3.ok
     have hm0:X.mg c=some (.ref C):=hm
     rw [hm0] at mC; cases mC
     have fr:(X.A.mark (some (.ref e))).frames=some X.stack:=ok.frames
     have J4:Inv (hX X e) [] σ1 H1 s3:=Inv.asA J3 fr (fun z=>nomatch z)
     refine wpAny_handleBy_cons (codeAny_handlers_test ?_) (fun z=>nomatch z)
     refine ZO (X:=hX X e) J4 hg mB ?_ hdb
     obtain ⟨oe,ws,T,oT,ts,g1,g2,g3,g4,g5,g6,g7,g8,g9⟩:=id t3.ob
     refine agA J4.kIn g1 g2.1 tB bB pC ?_
     refine codeAny_handlers_suite_as ?_
     refine wpAny_mono (QB (A:=X.A.mark (some (.ref e))) (E:=fun _ _=>False) none J3 t3) (fun _ s5 ⟨J5,t5⟩=>?_) fun _ _ z=>z.elim
     obtain ⟨oe5,ws5,T5,oT5,ts5,g51,g52,g53,_⟩:=id t5.ob
     obtain ⟨J6,sm6⟩:=Inv.take J5 t5.mine g51
     have J7:Inv (hX X e) [] σ1 (upd H1 e (.frz oe5 (.own e))) s5:=Inv.asA J6 fr (fun z=>nomatch z)
     have hlen:σ1.length=n:=by rw [←hN,←J5.len]
     refine acX (X:=hX X e) J7 hnd hi (.inl hlk) (v:= .ref e) rfl (fun s6 J8=>?_) (.inr hlk)
     have re:Rep X.K (upd H1 e (.frz oe5 (.own e))) (Jw c) (.ref e):=⟨e,rfl,.inr (.inr (.inr (.inl ⟨c,_,oe5,rfl,jn,aiZ aC,g52.1,g52.2,ws5,g53⟩)))⟩
     have eb:EnvR X.K (upd H1 e (.frz oe5 (.own e))) ((aaq n).set i (some (Jw c))) (σ1.set i (some (.ref e))):=by
      refine ⟨by simp [aaq,hlen],fun j d qd=>?_⟩
      by_cases hj:j=i
      ·subst hj
       rw [List.getElem?_set_self (by simp only [aaq,List.length_replicate]; rw [←hN]; exact (List.getElem?_eq_some_iff.mp hi).1)] at qd
       cases qd
       exact ⟨.ref e,List.getElem?_set_self (by rw [hlen,←hN]; exact (List.getElem?_eq_some_iff.mp hi).1),re⟩
      ·rw [List.getElem?_set_ne (Ne.symm hj)] at qd
       simp [aaq,List.getElem?_replicate] at qd
     refine wpAny_mono (hh e [] s6 _ _ { D with nx:=fun _ _=>False,bk:=fun _ _=>False,ct:=fun _ _=>False } J8 ⟨_,.rt d,eb,hG,fun v H' sm' r=>k v H' ((sm.trans sm6).trans sm') r⟩) (fun f s7 z=>?_) fun _ _ z=>z.elim
     have z':=SP.ofA J5.ok z
     cases f with
     | next=>obtain ⟨_,_,_,z⟩:=z'; exact z.elim
     | brk=>obtain ⟨_,_,_,z⟩:=z'; exact z.elim
     | cont=>obtain ⟨_,_,_,z⟩:=z'; exact z.elim
     | ret u=>
      obtain ⟨v,σ',H',I',r,z⟩:=z'
      exact anR I' hl fun s8 I8=>⟨v,_,H',I8,r,z⟩
    ·simp [Zx,hF,hc,hy] at q
end
noncomputable def alZ {α:Type} (K:Fg) (enc:α->PyData) (rk:α->Int) (ok:α->Prop):List V->Hp->VK->Prop:=fun vs H Q=>∃ a xs ps,vs=[.ref a]/\H a=some (.lst xs)/\Reps K H (ps.map enc) xs/\ps.length<64/\(∀ p ∈ ps,ok p)/\
 ∀ qs:List α,qs.Perm ps->qs.Pairwise (fun a b=>rk a<=rk b)->∀ l ys,H l=none->Reps K H (qs.map enc) ys->Q (.ref l) (upd H l (.lst ys))
theorem ahS {X:Cx}{α:Type} (z0:α) (enc:α->PyData) (rk:α->Int) (T:Value) (ok:α->Prop) (At:Heap->Value->α->Prop)
  (hat:∀ {Kp:List (Addr × Obj)} {σ:St} {H:Hp} {s:Shared} {v:V} {x:α} {u:Value} {h':Heap},Inv X Kp σ H s->ok x->Rep X.K H (enc x) v->qe v u->(∀ b o,b ≠ X.env.locals->s.heap.get? b=some o->h'.get? b=some o)->At h' u x)
  (hfirst:∀ {h:Heap} {u:Value} {x:α},ok x->At h u x->∃ a o xs n f,u= .ref a/\h.get? a=some o/\o.cls= .type "tuple"/\o.data= .seq xs n/\xs[0]?=some f/\∀ M,PySem.W.Looks M h (typeOf f) T)
  (hT:(T == T)=true)
  (hlt:∀ {s:Shared} {u v:Value} {x y:α} {Q:Bool->SP0} {E:Value->SP0},ok x->ok y->At s.heap u x->At s.heap v y->Q (decide (rk x<rk y)) s->wpAny (model X.prog X.w) X.A.in1.in1 (keyLt' (tuples' (T != Value.type "tuple")) u v) Q E s):
  Jn X (.builtin "sorted") (alZ X.K enc rk ok):=by
 intro Kp s σ H vs us0 Q I r ⟨a,xs,ps,e,hl,hR,h64,hB,q⟩
 subst e
 obtain ⟨u,rfl,rx⟩:=Zn r
 cases rx
 obtain ⟨us,rv,pl,hz⟩:=I.list (SqL.of (K:=X.K) hl)
 have l1:=hR.length
 have l2:=rv.length
 rw [List.length_map] at l1
 by_cases h2:us.length<2
 ·refine ahL pl.isList h2 fun h' D c kp ho hD=>?_
  have hps:ps.Pairwise (fun a b=>rk a<=rk b):=afs (by omega)
  refine ⟨.ref D,upd H D (.lst xs),I.laid (t':=s.toks) kp hD ⟨hz,us,c,rv,ho⟩,rfl,q ps (List.Perm.refl _) hps D xs (I.hok.fresh hD) hR⟩
 ·obtain ⟨m,F⟩:=I.fr
  have ge2:2<=us.length:=by omega
  have lt64:us.length<64:=by omega
  refine PySem.W.kat_sorted (h₀:=X.base) (L:=X.env.locals) (m:=m) (news:=JY X.base s.heap X.env.locals) (vs:=us) (l:=a) F akN pl.isList ge2 lt64 ?_
  intro D e1 h' F' N' hlt'
  have nD:=N' (D,seqObj "list" #[] e1) List.mem_cons_self
  have kpb:∀ {h2:Heap},Fr X.base X.env.locals h2 m->(∀ p ∈ JY X.base s.heap X.env.locals,h2.get? p.1=some p.2)->∀ b o,b ≠ X.env.locals->s.heap.get? b=some o->h2.get? b=some o:=fun {h2} F2 N2 b o hb e=>by
   cases e3:X.base.get? b with
   | some u=>have:=F.keep b u e3; rw [e] at this; cases this; exact F2.keep b _ e3
   | none=>exact N2 (b,o) (aca hb e3 e)
  have kp1:=kpb F' fun p hp=>(N' p (List.mem_cons_of_mem _ hp)).1
  have freshD:s.heap.get? D=none:=by
   cases e3:s.heap.get? D with
   | none=>rfl
   | some o=>exact absurd (hlt' (D,o) (aca nD.2.1 nD.2.2 e3)) (Nat.lt_irrefl _)
  have pr:∀ i (hi:i<ps.length),At h' (us.getD i Value.none) ps[i]:=fun i hi=>by
   obtain ⟨x,ex,er⟩:=hR.get (show (ps.map enc)[i]?=some (enc ps[i]) by simp [hi])
   obtain ⟨v,ev,rv2⟩:=rv.get ex
   rw [getD_some ev]
   exact hat I (hB _ (List.getElem_mem _)) er rv2 kp1
  have hu:us.length=ps.length:=by omega
  have kt:∃ fs:List Value,PySem.W.KatTups h' us fs/\fs.length=us.length/\∀ v ∈ fs,∀ M,PySem.W.Looks M h' (typeOf v) T:=by
   have go:∀ (n:Nat) (ws:List Value),us.drop n=ws->∃ fs:List Value,PySem.W.KatTups h' ws fs/\fs.length=ws.length/\∀ v ∈ fs,∀ M,PySem.W.Looks M h' (typeOf v) T:=by
    intro n ws
    induction ws generalizing n with
    | nil=>intro _; exact ⟨[],trivial,rfl,fun v hv=>nomatch hv⟩
    | cons w ws ih=>
     intro hd
     have hn:us[n]?=some w:=by
      have:(us.drop n)[0]?=some w:=by rw [hd]; rfl
      simpa using this
     have hd':us.drop (n+1)=ws:=by
      have:(us.drop n).drop 1=ws:=by rw [hd]; rfl
      simpa [List.drop_drop,Nat.add_comm] using this
     obtain ⟨fs,t1,t2,t3⟩:=ih (n+1) hd'
     have hlt2:n<ps.length:=by
      have:=(List.getElem?_eq_some_iff.mp hn).1
      omega
     obtain ⟨a2,o,ys,k,f,e1,e2,e3,e4,e5,e6⟩:=hfirst (hB _ (List.getElem_mem _)) (pr n hlt2)
     rw [getD_some hn] at e1
     subst e1
     refine ⟨f::fs,PySem.W.KatTups.cons e2 e3 e4 e5 t1,by simp [t2],fun v hv=>?_⟩
     rcases List.mem_cons.mp hv with rfl | hv
     ·exact e6
     ·exact t3 v hv
   exact go 0 us rfl
  obtain ⟨fs,t1,t2,t3⟩:=kt
  refine PySem.W.kat_kind (s:={ s with heap:=h' }) (T:=T) t1 (by omega) (fun v hv=>t3 v hv _) hT ?_
  show (PySem.W.kas_sort us.length).kasWp (PySem.W.kas_ask X.prog X.w X.A.in1.in1 (tuples' (T != Value.type "tuple")) us) _ { s with heap:=h' }
  refine Srt.sort_ok (rk:=fun i=>rk (ps.getD i z0)) (n:=us.length) (s:={ s with heap:=h' }) (fun i j C hi hj hC=>?_) (by omega) fun p hp hs=>?_
  ·have g1:ps.getD i z0=ps[i]'(by omega):=getD_some (List.getElem?_eq_getElem _)
   have g2:ps.getD j z0=ps[j]'(by omega):=getD_some (List.getElem?_eq_getElem _)
   simp only [g1,g2] at hC
   exact hlt (s:={ s with heap:=h' }) (hB _ (List.getElem_mem _)) (hB _ (List.getElem_mem _)) (pr i (by omega)) (pr j (by omega)) hC
  ·have mem:∀ i ∈ p.toList,i<us.length:=fun i hi=>by
    have:i ∈ (List.range us.length).toArray:=hp.mem_iff.mp (by simpa using hi)
    simpa using this
   have permN:p.toList.Perm (List.range us.length):=by simpa using hp.toList
   refine PySem.W.KasFin.intro (news:=(D,seqObj "list" #[] e1)::JY X.base s.heap X.env.locals) (g:=fun o'=>(D,o')::JY X.base s.heap X.env.locals) F' N' (.head fun z hz=>Nat.ne_of_lt (hlt' z hz)) fun h2 c F2 N2=>?_
   have kp2:=kpb F2 fun z hz=>(N2 z (List.mem_cons_of_mem _ hz)).1
   have hD2:=(N2 (D,PySem.W.listOf (List.toArray (p.toList.map fun i=>us.getD i Value.none)) c) List.mem_cons_self).1
   have hln:(p.toList.map fun i=>xs.getD i V.non).length<=sizeLine:=by
    rw [List.length_map,permN.length_eq,List.length_range,sizeLine_eq]; omega
   have I2:=Inv.grownL (ys:=p.toList.map fun i=>xs.getD i V.non) I F.ns F2.ns kp2 freshD hD2 (ajT rv _ mem) hln
   have nH:H D=none:=by
    cases e3:H D with
    | none=>rfl
    | some o=>obtain ⟨u,z⟩:=qV.there (I.hok D o e3); rw [freshD] at z; cases z
   have eqs:(p.toList.map fun i=>(ps.map enc).getD i PyData.none)=(p.toList.map fun i=>ps.getD i z0).map enc:=by
    rw [List.map_map]
    refine List.map_congr_left fun i hi=>?_
    have hi':=mem i hi
    have g1:ps.getD i z0=ps[i]'(by omega):=getD_some (List.getElem?_eq_getElem _)
    show (ps.map enc).getD i PyData.none=enc (ps.getD i z0)
    rw [g1]
    refine getD_some ?_
    rw [List.getElem?_map,List.getElem?_eq_getElem (show i<ps.length by omega)]
    rfl
   have rp:=ajU hR p.toList fun i hi=>by rw [List.length_map]; have:=mem i hi; omega
   rw [eqs] at rp
   refine ⟨.ref D,_,I2,rfl,q _ ?_ ?_ D _ nH rp⟩
   ·have e5:(List.range us.length).map (fun i=>ps.getD i z0)=ps:=by
     apply List.ext_getElem?
     intro i
     rw [List.getElem?_map]
     by_cases hi:i<us.length
     ·rw [List.getElem?_range hi,List.getElem?_eq_getElem (show i<ps.length by omega)]
      show some (ps.getD i z0)=_
      rw [getD_some (List.getElem?_eq_getElem (show i<ps.length by omega))]
     ·rw [List.getElem?_eq_none_iff.mpr (show (List.range us.length).length<=i by rw [List.length_range]; omega),List.getElem?_eq_none_iff.mpr (show ps.length<=i by omega)]
      rfl
    have:=permN.map (fun i=>ps.getD i z0)
    rw [e5] at this
    exact this
   ·rw [List.pairwise_map]
    rw [List.pairwise_iff_getElem]
    intro i j hi hj hij
    have hps:p.size=us.length:=hp.size
    have hi':i<p.size:=by simpa using hi
    have hj':j<p.size:=by simpa using hj
    have:=hs i j (Nat.le_of_lt hij) (by omega)
    simp only [Srt.val] at this
    have g1:p.getD i 0=p.toList[i]:=by simp [Array.getD,hi']
    have g2:p.getD j 0=p.toList[j]:=by simp [Array.getD,hj']
    rw [g1,g2] at this
    exact this
noncomputable abbrev aa3:=Int × (Int × Int)
noncomputable def aar (t:aa3):PyData:= .tuple [.int t.1,Qy t.2]
noncomputable def qF (t:aa3):Int:=t.1*1000000000000+t.2.1*1000000+t.2.2
noncomputable def inT (t:aa3):Bool:=decide (0<=t.2.1) && decide (t.2.1<1000000) && inB t.2
theorem al0 {p q:aa3} (hp:inT p=true) (hq:inT q=true):(qF p<qF q) ↔ (p.1<q.1 ∨ (p.1=q.1/\(p.2.1<q.2.1 ∨ (p.2.1=q.2.1/\p.2.2<q.2.2)))):=by
 simp only [inT,inB,Bool.and_eq_true,decide_eq_true_eq] at hp hq
 unfold qF
 omega
structure TripAt (h:Heap) (u:Value) (t:aa3):Prop where
 ex:∃ a o k tk a2,u= .ref a/\h.get? a=some o/\o.cls= .type "tuple"/\o.data= .seq #[.int t.1 tk,.ref a2] k/\PairAt h (.ref a2) t.2
theorem adm {h:Heap}{a:Addr}{p:Int × Int} (x:PairAt h (.ref a) p):Reads h (.ref a) (Qy p) []:=by
 obtain ⟨b,o,k,t,t',e1,e2,e3,e4⟩:=x.ex
 cases e1
 exact .tuple e2 e3 e4 (.cons (.int _ t) (.cons (.int _ t') .nil))
theorem adn {h:Heap}{a:Addr}{p:Int × Int} (x:PairAt h (.ref a) p):∃ t t',IsTup h a #[.int p.1 t,.int p.2 t']:=by
 obtain ⟨b,o,k,t,t',e1,e2,e3,e4⟩:=x.ex
 cases e1
 exact ⟨t,t',o,e2,e3,k,e4⟩
theorem al1 (p q:Int × Int):PyData.eqv (Qy p) (Qy q)=decide (p.1=q.1/\p.2=q.2):=by
 simp only [Qy,PyData.eqv,PyData.eqvAll,Bool.and_true]
 rw [Bool.decide_and,Bool.beq_eq_decide_eq,Bool.beq_eq_decide_eq]
theorem anS {X:Cx} (hu:X.A.in1.in1.units+8<cLine) {s:Shared}{u v:Value}{p q:aa3}{Q:Bool->SP0}{E:Value->SP0} (hp:inT p=true) (hq:inT q=true) (xu:TripAt s.heap u p) (xv:TripAt s.heap v q)
  (h:Q (decide (qF p<qF q)) s):wpAny (model X.prog X.w) X.A.in1.in1 (keyLt' (tuples' (Value.type "int" != Value.type "tuple")) u v) Q E s:=by
 obtain ⟨a,oa,ka,ta,a2,rfl,ea,_,da,pa⟩:=xu.ex
 obtain ⟨b,ob,kb,tb,b2,rfl,eb,_,db,pb⟩:=xv.ex
 have hr:=al0 hp hq
 have hT:(Value.type "int" != Value.type "tuple")=true:=by decide
 rw [hT]
 refine PySem.W.kat_lt ea da eb db ?_
 show PySem.W.KatLex X.prog X.w X.A.in1.in1 true (decide (2<2)) Q [(.int p.1 ta,.int q.1 tb),(.ref a2,.ref b2)] 0 s
 refine PySem.W.kat_cons (SeqAt.EqAt.int_int p.1 ta q.1 tb X.prog X.w _ _ ?_)
 by_cases e1:p.1=q.1
 ·have eb1:(p.1 == q.1)=true:=by simpa using e1
  rw [eb1]
  refine PySem.W.kat_yes (PySem.W.kat_cons (SeqAt.eqAt_reads (Qy p.2) (Qy q.2) _ s _ _ [] [] (adm pa) (adm pb) rfl rfl ?_ X.prog X.w _ _ ?_))
  ·have:(Qy p.2).depth=2 ∨ (Qy p.2).depth<=8:= .inr (by simp [Qy,PyData.depth,PyData.depthAll])
   omega
  rw [al1]
  by_cases e2:p.2.1=q.2.1/\p.2.2=q.2.2
  ·rw [decide_eq_true e2]
   refine PySem.W.kat_yes (PySem.W.kat_nil ?_)
   have:decide (qF p<qF q)=decide (2<2):=by
    apply decide_eq_decide.mpr
    rw [hr]; omega
   rw [←this]; exact h
  ·rw [decide_eq_false e2]
   obtain ⟨t1,t2,i1⟩:=adn pa
   obtain ⟨t3,t4,i2⟩:=adn pb
   refine PySem.W.kat_no (PySem.W.kat_one _ _ (HT.lt_tupInts (ns:=[p.2.1,p.2.2]) (ms:=[q.2.1,q.2.2]) i1 i2 (.cons _ t1 (.cons _ t2 .nil)) (.cons _ t3 (.cons _ t4 .nil)) (by omega) ?_))
   show Q (HT.lexLt [p.2.1,p.2.2] [q.2.1,q.2.2]) s
   have:HT.lexLt [p.2.1,p.2.2] [q.2.1,q.2.2]=decide (qF p<qF q):=by
    rw [HT.lexLt_cons,HT.lexLt_cons,HT.lexLt_nil_nil]
    by_cases c1:p.2.1=q.2.1
    ·rw [if_pos c1,if_neg (fun z=>e2 ⟨c1,z⟩)]
     apply decide_eq_decide.mpr
     rw [hr]; omega
    ·rw [if_neg c1]
     apply decide_eq_decide.mpr
     rw [hr]; omega
   rw [this]; exact h
 ·have eb1:(p.1 == q.1)=false:=by simpa using e1
  rw [eb1]
  refine PySem.W.kat_no (oneLt_int ?_)
  have:decide (qF p<qF q)=decide (p.1<q.1):=by
   apply decide_eq_decide.mpr
   rw [hr]; omega
  rw [←this]; exact h
section
variable {X:Cx}
theorem ahT {Kp:List (Addr × Obj)}{σ:St}{H:Hp}{s:Shared}{a:Addr}{o:Obj}{xs:Array Value}{k:Nat} (I:Inv X Kp σ H s) (eo:s.heap.get? a=some o) (dk:o.data= .seq xs k):a ≠ X.env.locals:=fun z=>by
 obtain ⟨_,⟨o',es,ep,h1,h2,_⟩,_⟩:=I.loc
 rw [z] at eo; rw [eo] at h1; cases h1
 rw [dk] at h2; cases h2
theorem ai0 {Kp:List (Addr × Obj)}{σ:St}{H:Hp}{s:Shared}{v:V}{p:Int × Int}{u:Value}{h':Heap} (I:Inv X Kp σ H s) (r:Rep X.K H (Qy p) v) (rv:qe v u) (kp:∀ b o,b ≠ X.env.locals->s.heap.get? b=some o->h'.get? b=some o):∃ a,u= .ref a/\PairAt h' u p:=by
 obtain ⟨a2,ws,e2,e3,x1,r1,e4,e5,x2,r2,e6,e7,e8⟩:=r
 cases (show x1=_ from e5)
 cases (show x2=_ from e7)
 cases (show r2=[] from e8)
 subst e6; subst e4; subst e2
 cases rv
 obtain ⟨its,r3,⟨o,eo,co,k,dk⟩,_⟩:=I.tuple e3
 cases r3 with
 | cons y1 r3=>
  cases r3 with
  | cons y2 r3=>
   cases r3
   obtain ⟨t,rfl⟩:=y1
   obtain ⟨t',rfl⟩:=y2
   exact ⟨a2,rfl,a2,o,k,t,t',rfl,kp a2 o (ahT I eo dk) eo,co,by simpa using dk⟩
theorem anT {Kp:List (Addr × Obj)}{σ:St}{H:Hp}{s:Shared}{v:V}{p:aa3}{u:Value}{h':Heap} (I:Inv X Kp σ H s) (r:Rep X.K H (aar p) v) (rv:qe v u) (kp:∀ b o,b ≠ X.env.locals->s.heap.get? b=some o->h'.get? b=some o):TripAt h' u p:=by
 obtain ⟨a2,ws,e2,e3,x1,r1,e4,e5,x2,r2,e6,e7,e8⟩:=r
 cases (show x1=_ from e5)
 cases (show r2=[] from e8)
 subst e6; subst e4; subst e2
 cases rv
 obtain ⟨its,r3,⟨o,eo,co,k,dk⟩,_⟩:=I.tuple e3
 cases r3 with
 | cons y1 r3=>
  cases r3 with
  | cons y2 r3=>
   cases r3
   obtain ⟨t,rfl⟩:=y1
   obtain ⟨a3,rfl,pp⟩:=ai0 I e7 y2 kp
   exact ⟨a2,o,k,t,a3,rfl,kp a2 o (ahT I eo dk) eo,co,by simpa using dk,pp⟩
theorem ahU (hu:X.A.in1.in1.units+8<cLine):Jn X (.builtin "sorted") (alZ X.K aar qF (fun t=>inT t=true)):=
 ahS (0,(0,0)) aar qF (.type "int") _ TripAt (fun I _ r rv kp=>anT I r rv kp) (fun _ x=>by
  obtain ⟨a,o,k,tk,a2,e1,e2,e3,e4,_⟩:=x.ex
  exact ⟨a,o,_,k,_,e1,e2,e3,e4,rfl,fun M=>PySem.W.Looks.of_pure rfl⟩) rfl fun hx hy xu xv h=>anS hu hx hy xu xv h
end
section
variable {α:Type}
noncomputable def aj9 (rk:α->Int) (p:α):List α->List α
 | []=>[p]
 | q::r=>if rk p<=rk q then p::q::r else q::aj9 rk p r
noncomputable def ach (rk:α->Int):List α->List α
 | []=>[]
 | p::r=>aj9 rk p (ach rk r)
theorem abL (rk:α->Int) (p:α):∀ l,(aj9 rk p l).Perm (p::l)
 | []=>List.Perm.refl _
 | q::r=>by
  unfold aj9
  split
  ·exact List.Perm.refl _
  ·exact ((abL rk p r).cons q).trans (List.Perm.swap p q r)
theorem aaD (rk:α->Int):∀ l,(ach rk l).Perm l
 | []=>List.Perm.refl _
 | p::r=>(abL rk p _).trans ((aaD rk r).cons p)
theorem aci (rk:α->Int) (p:α):∀ l,l.Pairwise (fun a b=>rk a<=rk b)->(aj9 rk p l).Pairwise (fun a b=>rk a<=rk b)
 | [],_=>List.pairwise_singleton _ _
 | q::r,h=>by
  have hq:=List.pairwise_cons.mp h
  unfold aj9
  split
  ·rename_i hle
   refine List.pairwise_cons.mpr ⟨fun b hb=>?_,h⟩
   rcases List.mem_cons.mp hb with rfl | hb
   ·exact hle
   ·exact Int.le_trans hle (hq.1 b hb)
  ·rename_i hle
   refine List.pairwise_cons.mpr ⟨fun b hb=>?_,aci rk p r hq.2⟩
   rcases List.mem_cons.mp ((abL rk p r).mem_iff.mp hb) with rfl | hb
   ·omega
   ·exact hq.1 b hb
theorem Q0 (rk:α->Int):∀ l,(ach rk l).Pairwise (fun a b=>rk a<=rk b)
 | []=> .nil
 | p::r=>aci rk p _ (Q0 rk r)
theorem acj {rk:α->Int}:∀ {l l':List α},l.Pairwise (fun a b=>rk a<=rk b)->l'.Pairwise (fun a b=>rk a<=rk b)->l.Perm l'->(∀ p ∈ l,∀ q ∈ l,rk p=rk q->p=q)->l=l'
 | [],l',_,_,hp,_=>hp.nil_eq
 | a::l,[],_,_,hp,_=>by have:=hp.length_eq; simp at this
 | a::l,b::l',h1,h2,hp,hb=>by
  have h1':=List.pairwise_cons.mp h1
  have h2':=List.pairwise_cons.mp h2
  have hab:a=b:=by
   have ha:a ∈ b::l':=hp.mem_iff.mp List.mem_cons_self
   have hb':b ∈ a::l:=hp.mem_iff.mpr List.mem_cons_self
   rcases List.mem_cons.mp ha with e | ha'
   ·exact e
   ·rcases List.mem_cons.mp hb' with e | hb''
    ·exact e.symm
    ·exact hb a List.mem_cons_self b hb' (Int.le_antisymm (h1'.1 b hb'') (h2'.1 a ha'))
  subst hab
  rw [acj h1'.2 h2'.2 (List.Perm.cons_inv hp) fun p hp q hq=>hb p (List.mem_cons_of_mem _ hp) q (List.mem_cons_of_mem _ hq)]
end
noncomputable def afz:PyData->Option aa3
 | .tuple [.int n,.tuple [.int p,.int q]]=>some (n,(p,q))
 | _=>none
theorem agC {d:PyData}{t:aa3} (h:afz d=some t):d=aar t:=by
 unfold afz at h
 split at h
 ·cases h; rfl
 ·cases h
noncomputable def Jy:LP->Option (List aa3)
 | []=>some []
 | d::ds=>(afz d).bind fun t=>(Jy ds).map fun ts=>t::ts
theorem ado:∀ {ds:LP}{ts:List aa3},Jy ds=some ts->ds=ts.map aar
 | [],ts,h=>by cases h; rfl
 | d::ds,ts,h=>by
  cases h1:afz d with
  | none=>simp [Jy,h1] at h
  | some t=>
   cases h2:Jy ds with
   | none=>simp [Jy,h1,h2] at h
   | some r=>
    have:t::r=ts:=by simpa [Jy,h1,h2] using h
    subst this
    rw [agC h1,ado h2]; rfl
theorem aeA:∀ (ts:List aa3),Jy (ts.map aar)=some ts
 | []=>rfl
 | t::ts=>by
  show (some t).bind (fun t=>(Jy (ts.map aar)).map fun ts=>t::ts)=_
  rw [aeA ts]; rfl
theorem aeB {p q:aa3} (hp:inT p=true) (hq:inT q=true) (h:qF p=qF q):p=q:=by
 simp only [inT,inB,Bool.and_eq_true,decide_eq_true_eq] at hp hq
 unfold qF at h
 obtain ⟨p1,p2,p3⟩:=p
 obtain ⟨q1,q2,q3⟩:=q
 simp only at*
 have h1:p1=q1:=by omega
 have h2:p2=q2:=by omega
 have h3:p3=q3:=by omega
 rw [h1,h2,h3]
noncomputable def ahV (ds:LP):OP:=match ds with
 | [.list xs]=>(Jy xs).bind fun ts=>if decide (ts.length<64) && ts.all inT then some (.list ((ach qF ts).map aar)) else none
 | _=>none
theorem al2 {X:Cx} (hu:X.A.in1.in1.units+8<cLine):Zo X (.builtin "sorted") ahV:=by
 refine ⟨_,ahU hu,fun ds d xs H Q h r k=>?_⟩
 unfold ahV at h
 split at h
 ·rename_i ys
  cases hp:Jy ys with
  | none=>simp [hp] at h
  | some ps=>
   by_cases hc:(decide (ps.length<64) && ps.all inT)=true
   ·have:PyData.list ((ach qF ps).map aar)=d:=by simpa [hp,hc] using h
    subst this
    obtain ⟨x,q,e1,e2,e3⟩:=r
    cases (show q=[] from e3)
    obtain ⟨a,us,g1,g2,g3⟩:=e2
    subst g1
    rw [ado hp] at g3
    simp only [Bool.and_eq_true,decide_eq_true_eq,List.all_eq_true] at hc
    refine ⟨a,us,ps,e1,g2,g3,hc.1,hc.2,fun qs p1 p2 l zs hl hz=>?_⟩
    have:qs=ach qF ps:=acj p2 (Q0 qF ps) (p1.trans (aaD qF ps).symm) fun p hp q hq e=>aeB (hc.2 p (p1.mem_iff.mp hp)) (hc.2 q (p1.mem_iff.mp hq)) e
    subst this
    exact k _ _ (jw hl) ⟨l,zs,rfl,jn,Reps.mono (jw hl) _ _ hz⟩
   ·simp [hp,hc] at h
 ·cases h
section
variable {X:Cx}{e a b c:Expr}{es j9:List Expr}{st:Stmt}{sts srest:List Stmt}{fx gx:Rho->Option Str}{fa fb:RP}{F:RO}{pos:Pos}
theorem apZ (h1:PDX X e fx) (h2:PDX X e gx):PDX X e (orX fx gx):=by
 with_unfolding_all
  intro s σ H ρ c I en q k
  cases hf:fx ρ with
  | some c'=>
   have:c'=c:=by simpa [orX,hf] using q
   subst this
   exact h1 s σ H ρ c' I en hf k
  | none=>exact h2 s σ H ρ c I en (by simpa [orX,hf] using q) k
theorem al3 (h1:PSX X st fx) (h2:PSX X st gx):PSX X st (orX fx gx):=by
 with_unfolding_all
  intro s σ H ρ c I en q k
  cases hf:fx ρ with
  | some c'=>
   have:c'=c:=by simpa [orX,hf] using q
   subst this
   exact h1 s σ H ρ c' I en hf k
  | none=>exact h2 s σ H ρ c I en (by simpa [orX,hf] using q) k
noncomputable def orD (f g:RP):RP:=fun ρ=>(f ρ).orElse fun _=>g ρ
theorem al4 (h1:PD X e fa) (h2:PD X e fb):PD X e (orD fa fb):=by
 with_unfolding_all
  intro Kp s σ H Q I ⟨ρ,d,en,q,k⟩
  cases hf:fa ρ with
  | some d'=>
   have:d'=d:=by simpa [orD,hf] using q
   subst this
   exact h1 Kp s σ H Q I ⟨ρ,d',en,hf,k⟩
  | none=>exact h2 Kp s σ H Q I ⟨ρ,d,en,by simpa [orD,hf] using q,k⟩
noncomputable def items:PyData->Option (LP)
 | .list ds=>some ds
 | .tuple ds=>some ds
 | _=>none
noncomputable def itS (fa:RP):Rho->Option (LP):=fun ρ=>(fa ρ).bind items
theorem aa4 {tg:Expr} (h:PD X e fa):PID X tg e (itS fa):=by
 with_unfolding_all
  intro Kp s σ H R I ⟨ρ,ds,en,q,k⟩
  cases hf:fa ρ with
  | none=>simp [itS,hf] at q
  | some d=>
   have q':items d=some ds:=by simpa [itS,hf] using q
   cases d with
   | list es=>
    cases q'
    exact Qu (tg:=tg) h Kp s σ H R I ⟨ρ,ds,en,by simp [itL,hf,QS],k⟩
   | tuple es=>
    cases q'
    exact acx (tg:=tg) h Kp s σ H R I ⟨ρ,ds,en,by simp [itT,hf,aav],k⟩
   | _=>cases q'
end
theorem _root_.L2.Room.sort {k:Nat}{A:Around} (r:Room k A):A.in1.in1.units+8<cLine:=by
 have:=r.un
 show A.units+1+1+8<cLine
 omega
theorem RoomH.units {k:Nat}{A:Around} (r:RoomH k A):A.units+64<cLine:=by have:=r.un; omega
section
variable {X:Cx}{a b:Expr}{pos:Pos}
end
@[irreducible] noncomputable def PTX (X:Cx) (e:Expr) (fx:Rho->Option Str):Prop:=∀ (s:Shared) (σ:St) (H:Hp) (ρ:Rho) (c:Str),Inv X [] σ H s->EnvR X.K H ρ σ->fx ρ=some c->(∀ ev s',Thr X H c ev s'->X.xe ev s')->wpAny (model X.prog X.w) X.A (isTrue e X.env (eval e X.env)) (fun _ _=>False) X.xe s
section
variable {X:Cx}{e a b c:Expr}{l r:List Stmt}{fx gx:Rho->Option Str}{pos:Pos}
theorem ai1 (h:PDX X e fx) (he:∀ whole,isTrue e X.env whole=(do let v ←whole; standAt e.pos; holding [v] (truthy v)):=by intro _; rfl):PTX X e fx:=by
 with_unfolding_all
  intro s σ H ρ c I en q k
  exact isTrue_plain (wpAny_mono (h s σ H ρ c I en q k) (fun _ _ z=>z.elim) fun _ _ z=>z) (he _)
theorem ai2 (h:PTX X e fx):PTX X (.UnaryOp .Not e pos) fx:=by
 with_unfolding_all
  intro s σ H ρ c I en q k
  exact isTrue_not (wpAny_mono (h s σ H ρ c I en q k) (fun _ _ z=>z.elim) fun _ _ z=>z)
theorem ai3 (h:PTX X e fx):PSX X (.If e l r pos) fx:=by
 with_unfolding_all
  intro s σ H ρ c I en q k
  exact wpAny_If (wpAny_mono (h s σ H ρ c I en q k) (fun _ _ z=>z.elim) fun _ _ z=>z)
end
section
variable {X:Cx}{own:Option Nat}{tg:Expr}{st:Stmt}{sts:List Stmt}{fx:Rho->Option Str}{F:RO}
end
theorem aeC {X:Cx}:Zo X (.type "list") Jk:=by
 refine ⟨_,aaP,fun ds d xs H Q h r k=>?_⟩
 unfold Jk at h
 split at h
 ·cases h
  obtain ⟨x,q,e1,e2,e3⟩:=r
  cases (show q=[] from e3)
  obtain ⟨a,us,g1,g2,g3⟩:=e2
  subst g1
  exact ⟨a,us,e1,.inl (SqL.of g2),fun l hl=>k _ _ (jw hl) ⟨l,us,rfl,jn,Reps.mono (jw hl) _ _ g3⟩⟩
 ·cases h
  obtain ⟨x,q,e1,e2,e3⟩:=r
  cases (show q=[] from e3)
  obtain ⟨a,us,g1,g2,g3⟩:=e2
  subst g1
  exact ⟨a,us,e1,.inr g2,fun l hl=>k _ _ (jw hl) ⟨l,us,rfl,jn,Reps.mono (jw hl) _ _ g3⟩⟩
 ·cases h
theorem aa5 (a i:Expr) (fp:Pos) (args:List Expr) (pos:Pos) (env:Env):eval (.Call (.Subscript a i fp) args [] pos) env=(do
  callWith pos (←eval (.Subscript a i fp) env) [] (backTo pos (starEach args env)) (backToKw pos (keywordEach [] env))):=rfl
section
variable {X:Cx}{a i e:Expr}{es:List Expr}{pos fp:Pos}
noncomputable def adp (x:Str) (g:LP->OP) (ff:RP) (fr:Rho->Option (LP)):RP:=fun ρ=>(ff ρ).bind fun d=>if Zg x d=true then (fr ρ).bind g else none
theorem aa6 {k j n:Nat}{ps:List Str}{g:LP->OP}{x:Str}{ff:RP}{fr:Rho->Option (LP)} (c:jm X.prog X.w X.K X.mg X.base x ps k n g) (hr:Room j X.A) (hkj:k<=j) (hf:PD X (.Subscript a i fp) ff) (ha:PAD X (e::es) fr)
  (hl:∀ (ρ:Rho) (ds:LP),fr ρ=some ds->ds.length=n) (he:starEach (e::es) X.env=(false,eval e X.env)::starEach es X.env:=by rfl)
  (hpl:(backTo pos (starEach es X.env)).any (·.1)=false:=by rfl):PD X (.Call (.Subscript a i fp) (e::es) [] pos) (adp x g ff fr):=by
 with_unfolding_all
  obtain ⟨f,fd,c1,c2,c3,c4⟩:=c
  intro Kp s σ H Q I ⟨ρ,d,en,q,k⟩
  cases h0:ff ρ with
  | none=>simp [adp,h0] at q
  | some d0=>
   cases hF:Zg x d0 with
   | false=>simp [adp,h0,hF] at q
   | true=>
    have:=adk hF
    subst this
    cases h1:fr ρ with
    | none=>simp [adp,h0,hF,h1] at q
    | some ds=>
     have q':g ds=some d:=by simpa [adp,h0,hF,h1] using q
     rw [aa5]
     refine wpAny_bind (thn (hf Kp s σ H (fun v H1=>jq H H1/\Rep X.K H1 (fnD x) v) I ⟨ρ,_,en,h0,fun v H1 s1 r1=>⟨s1,r1⟩⟩) fun u s1 ⟨v,H1,I1,rv,sm,re⟩=>?_)
     obtain ⟨ad,ev,ea⟩:=afv re
     subst ev
     cases rv
     have hff:=(PySem.W.mg_of I1.mod.kin I1.mod.glob ea).symm.trans c2
     cases hff
     refine PySem.W.callWith_K (h₀:=X.base) I1.ok.mod.kin c3 (thn (ha pos Kp s1 σ H1 (fun vs H2=>jq H1 H2/\Reps X.K H2 ds vs) I1 ⟨ρ,ds,en.mono sm,h1,fun vs H2 s2 r2=>⟨s2,r2⟩⟩) fun us s2 ⟨vs,H2,I2,r,sm2,rd⟩=>⟨I2.kIn,?_⟩) he hpl
     have sp:Pur X.K n g (vs++[]) H2 Q (fun _ _ _=>False):=⟨ds,d,hl ρ ds h1,by rw [List.append_nil]; exact rd,q',fun v H' s r=>k v H' (sm.trans (sm2.trans s)) r⟩
     exact afg c1 (hr.mono hkj) c4 .nil ael I2 r sp
noncomputable def Zy (x:Str) (g:LP->Option Str) (ff:RP) (fr:Rho->Option (LP)):Rho->Option Str:=fun ρ=>(ff ρ).bind fun d=>if Zg x d=true then (fr ρ).bind g else none
theorem aeD {k j n:Nat}{ps:List Str}{g:LP->Option Str}{x:Str}{ff:RP}{fr:Rho->Option (LP)} (hxe:X.ex=[]) (C:zB X.prog X.w X.K X.mg X.base x ps k n g) (hr:Room j X.A) (hkj:k<=j) (hf:PD X (.Subscript a i fp) ff) (ha:PAD X (e::es) fr) (hl:∀ ρ ds,fr ρ=some ds->ds.length=n)
  (he:starEach (e::es) X.env=(false,eval e X.env)::starEach es X.env:=by rfl)
  (hpl:(backTo pos (starEach es X.env)).any (·.1)=false:=by rfl):PDX X (.Call (.Subscript a i fp) (e::es) [] pos) (Zy x g ff fr):=by
 with_unfolding_all
  intro s σ H ρ c I en q k'
  obtain ⟨f,fd,F,hm,hk,hb⟩:=C
  cases h0:ff ρ with
  | none=>simp [Zy,h0] at q
  | some d0=>
   cases hF:Zg x d0 with
   | false=>simp [Zy,h0,hF] at q
   | true=>
    have:=adk hF
    subst this
    cases hd:fr ρ with
    | none=>simp [Zy,h0,hF,hd] at q
    | some ds=>
     have q':g ds=some c:=by simpa [Zy,h0,hF,hd] using q
     rw [aa5]
     refine wpAny_bind (thn (hf [] s σ H (fun v H1=>jq H H1/\Rep X.K H1 (fnD x) v) I ⟨ρ,_,en,h0,fun v H1 s1 r1=>⟨s1,r1⟩⟩) fun u s1 ⟨v,H1,I1,rv,sm0,re⟩=>?_)
     obtain ⟨ad,ev,ea⟩:=afv re
     subst ev
     cases rv
     have hff:=(PySem.W.mg_of I1.mod.kin I1.mod.glob ea).symm.trans hm
     cases hff
     refine PySem.W.callWith_K (h₀:=X.base) I1.ok.mod.kin hk (thn (ha pos [] s1 σ H1 (fun vs H2=>jq H1 H2/\Reps X.K H2 ds vs) I1 ⟨ρ,ds,en.mono sm0,hd,fun vs H2 s1 r1=>⟨s1,r1⟩⟩) fun us s2 ⟨vs,H2,I2,r,sm,rd⟩=>⟨I2.kIn,?_⟩) he hpl
     have hn:ds.length=n:=hl ρ ds hd
     have sp:ajX X.K X.mg n g vs H2 (fun _ _=>False) (fun cls _ H'=>X.mg c=some cls/\jq H2 H'):=⟨ds,c,hn,rd,q',fun C H' hC s2=>⟨hC,s2⟩⟩
     have hlu:(us++[]).length=ps.length:=by rw [List.append_nil,←r.length]; exact F.len _ _ _ _ sp
     have hbd:=hb s2 us I2.kIn hlu
     rw [List.append_nil] at hbd
     refine wpAny_call (codeAny_mono (F.run X.A X.stack s2 H2 ⟨us,[]⟩ us vs _ _ (hr.mono hkj) I2.env0 hbd r sp) fun rs s' hq=>?_)
     cases rs with
     | error ev=>
      obtain ⟨e0,C,H',rfl,os,bare,un,hok,xc,hC,sm2⟩:=hq
      have J':Inv X [] σ H' s':=I2.call' (ch:=[]) os un hok bare fun b z=>nomatch z
      exact k' _ _ ⟨e0,C,σ,H',rfl,hC,J',sm0.trans (sm.trans sm2),Xc.of hxe I2 xc⟩
     | ok fl=>
      cases fl with
      | ret u=>obtain ⟨v,H',_,_,_,_,_,z⟩:=hq; exact z.elim
      | next=>exact False.elim hq
      | brk=>exact False.elim hq
      | cont=>exact False.elim hq
end
section
variable {X:Cx}{own:Option Nat}{e a b c:Expr}{es:List Expr}{st:Stmt}{sts j9:List Stmt}{fa fb fc:RP}{F G:RO}{pos:Pos}
noncomputable def asS (F:RO):RO:=fun ρ=>match F ρ with
 | some (.rt d)=>some (.rt d)
 | _=>none
end
noncomputable def ahW (ds:LP):OP:=match ds with
 | [.int i]=>some (.int i)
 | [.bool k]=>some (.int (if k=true then 1 else 0))
 | _=>none
theorem al5 {X:Cx}:Zo X (.type "int") ahW:=by
 refine ⟨_,ajE,fun ds d xs H Q h r k=>?_⟩
 unfold ahW at h
 split at h
 ·cases h
  obtain ⟨x,q,e1,e2,e3⟩:=r
  cases (show q=[] from e3)
  rename_i i
  cases (show x=V.int i from e2)
  exact .inl ⟨_,e1,k _ _ (jq.refl _) rfl⟩
 ·cases h
  obtain ⟨x,q,e1,e2,e3⟩:=r
  cases (show q=[] from e3)
  rename_i b
  cases (show x=V.bl b from e2)
  exact .inr ⟨_,e1,k _ _ (jq.refl _) rfl⟩
 ·cases h
section
variable {X:Cx}{tg src:Expr}{pos pos':Pos}{own:Option Nat}
end
noncomputable def arx (ps:List (Int × Int)):PyData:= .tuple (ps.map Qy)
noncomputable def afA (h:Heap):List Value->List (Int × Int)->Prop
 | [],ps=>ps=[]
 | v::vs,ps=>∃ p r a,ps=p::r/\v= .ref a/\PairAt h (.ref a) p/\afA h vs r
structure SetAt (h:Heap) (u:Value) (ps:List (Int × Int)):Prop where
 ex:∃ a o k vs,u= .ref a/\h.get? a=some o/\o.cls= .type "tuple"/\o.data= .seq (List.toArray vs) k/\afA h vs ps
section
variable {X:Cx}
theorem agD {Kp:List (Addr × Obj)}{σ:St}{H:Hp}{s:Shared}{h':Heap} (I:Inv X Kp σ H s) (kp:∀ b o,b ≠ X.env.locals->s.heap.get? b=some o->h'.get? b=some o):∀ (ps:List (Int × Int)) (xs:List V) (us:List Value),Reps X.K H (ps.map Qy) xs->jQ xs us->afA h' us ps
 | [],xs,us,r,v=>by
  cases (show xs=[] from r)
  cases v
  rfl
 | p::ps,xs,us,r,v=>by
  obtain ⟨x,q,rfl,e2,e3⟩:=r
  cases v with
  | cons y v=>
   obtain ⟨a,rfl,pp⟩:=ai0 I e2 y kp
   exact ⟨p,ps,a,rfl,rfl,pp,agD I kp ps _ _ e3 v⟩
theorem qG {Kp:List (Addr × Obj)}{σ:St}{H:Hp}{s:Shared}{v:V}{p:List (Int × Int)}{u:Value}{h':Heap} (I:Inv X Kp σ H s) (r:Rep X.K H (arx p) v) (rv:qe v u) (kp:∀ b o,b ≠ X.env.locals->s.heap.get? b=some o->h'.get? b=some o):SetAt h' u p:=by
 obtain ⟨a2,ws,e2,e3,e4⟩:=r
 subst e2
 cases rv
 obtain ⟨its,r3,⟨o,eo,co,k,dk⟩,_⟩:=I.tuple e3
 exact ⟨a2,o,k,its,rfl,kp a2 o (ahT I eo dk) eo,co,dk,agD I kp p ws its e4 r3⟩
end
set_option maxHeartbeats 4000000 in
section
variable {X:Cx}
end
section
variable {prog:Program}{w:World}{A:Around}{E:Value->SP0}{s:Shared}
theorem agE {sl:Addr}{vk:Value}{n:Nat}{Q:Int × Int × Nat->SP0} (hs:s.heap.IsSliceOf sl .none .none vk) (pk:IsPart vk (some (-1)))
  (h:Q ((n:Int) - 1,-1,n) s):wpAny (model prog w) A (Builtin.Slice.sliceApplied (.ref sl) (pure (n:Int))) Q E s:=by
 obtain ⟨os,hos,hcs,hds⟩:=id hs
 unfold Builtin.Slice.sliceApplied Builtin.Slice.sliceFields
 refine wpAny_bind (wpAny_bind (wpAny_field hos hds (x:= .none) rfl (wpAny_bind (wpAny_field hos hds (x:= .none) rfl (wpAny_bind (wpAny_field hos hds (x:=vk) rfl (wpAny_pure ?_)))))))
 refine wpAny_bind (HT.slicePart_ pk ?_)
 show wpAny _ _ (if (((-1:Int)) == 0)=true then _ else _) _ _ s
 rw [if_neg (by decide)]
 refine wpAny_bind (PyProof.Rows.slicePart_none (wpAny_bind (PyProof.Rows.slicePart_none (wpAny_bind (wpAny_pure ?_)))))
 show wpAny _ _ (pure (((n:Int) - 1),(-1:Int),Builtin.Slice.slicePlaces ((n:Int) - 1) (-1) (-1))) _ _ s
 have e:Builtin.Slice.slicePlaces ((n:Int) - 1) (-1) (-1)=n:=by
  unfold Builtin.Slice.slicePlaces
  rw [if_neg (by decide)]
  by_cases hn:(n:Int) - 1 > -1
  ·rw [if_pos hn,show (- -1:Int)=1 by decide,Int.ediv_one]; omega
  ·rw [if_neg hn]; omega
 rw [e]
 exact wpAny_pure h
theorem aka (xs:Array Value):((List.range xs.size).filterMap fun (k:Nat)=>xs[(((xs.size:Int) - 1)+(k:Int)*(-1)).toNat]?).toArray=xs.toList.reverse.toArray:=by
 have e:((List.range xs.size).filterMap fun (k:Nat)=>xs[(((xs.size:Int) - 1)+(k:Int)*(-1)).toNat]?)=((List.range xs.size).map fun k=>xs.size - 1 - k).filterMap (xs[·]?):=by
  rw [List.filterMap_map]
  have key:∀ l:List Nat,(∀ k ∈ l,k<xs.size)->l.filterMap (fun (k:Nat)=>xs[(((xs.size:Int) - 1)+(k:Int)*(-1)).toNat]?)=l.filterMap ((fun x=>xs[x]?) ∘ fun k=>xs.size - 1 - k):=by
   intro l
   induction l with
   | nil=>intro _; rfl
   | cons k l ih=>
    intro hl
    have hk:=hl k List.mem_cons_self
    have e1:(((xs.size:Int) - 1)+(k:Int)*(-1)).toNat=xs.size - 1 - k:=by omega
    simp only [List.filterMap_cons,Function.comp_apply,e1,ih fun j hj=>hl j (List.mem_cons_of_mem _ hj)]
  exact key _ fun k hk=>List.mem_range.mp hk
 rw [e,PySem.W.krv_range,List.filterMap_reverse,PySem.W.krv_all]
theorem act {t sl:Addr}{items:Array Value}{vk:Value}{Q:Value->SP0} (ht:IsTup s.heap t items) (hs:s.heap.IsSliceOf sl .none .none vk) (pk:IsPart vk (some (-1)))
  (h:Q (.ref s.heap.objs.size) { s with heap:=s.heap.push { cls:= .type "tuple",data:= .seq items.toList.reverse.toArray } }) (hsz:items.size<=sizeLine):wpAny (model prog w) A (getItem (.ref t) (.ref sl)) Q E s:=by
 obtain ⟨os,hos,hcs,hds⟩:=id hs
 have hTs:s.TypeIs (.ref sl) "slice":=⟨os,hos,hcs⟩
 have hz:sizeOk (.seq items.toList.reverse.toArray):=by
  show items.toList.reverse.toArray.size<=sizeLine
  rw [List.size_toArray,List.length_reverse,Array.length_toList]; exact hsz
 unfold getItem
 first | (with_reducible refine wpAny_holding ?_) | skip
 first | refine wpAny_bind (wpAny_pure ?_) | skip
 refine wpAny_bind (wpAny_sequenceKey ht.typeIs (by decide) ?_)
 refine wpAny_bind (wpAny_callSpecial?_slot (name:=Str.ofString "__getitem__") ht.typeIs PyProof.Rows.slot_tuple_getitem (wpAny_call_entry PyProof.Rows.slot_tuple_getitem ht.typeIs entry_tuple_getitem ?_ (args_tuple_getitem _ _)))
 show wpAny _ _ (Builtin.Tuple.tupleItemsOf (.ref t) >>= _) _ _ s
 refine wpAny_bind (tupleItemsOf_ ht (wpAny_bind (wpAny_typeOf hTs ?_)))
 rw [if_pos (show (Value.type "slice" == Value.type "slice")=true by decide)]
 refine wpAny_bind (agE hs pk ?_)
 show wpAny _ _ (if (((items.size:Int) - 1) == 0 && ((-1:Int)) == 1 && items.size == items.size)=true then _ else _) _ _ s
 rw [if_neg (by simp),aka]
 first
  | exact wpAny_bind (m:=Builtin.Tuple.tupleExact _) (wpAny_newObj_type (wpAny_pure ⟨_,rfl,wpAny_pure h⟩) hz)
  | exact wpAny_bind (m:=Builtin.Tuple.tupleExact _) (wpAny_newObj_type (wpAny_bind (wpAny_pure (wpAny_pure ⟨_,rfl,wpAny_pure h⟩))) hz)
  | exact wpAny_bind (wpAny_bind (m:=Builtin.Tuple.tupleExact _) (wpAny_newObj_type (wpAny_pure (wpAny_pure ⟨_,rfl,wpAny_pure h⟩)) hz))
  | exact wpAny_bind (wpAny_bind (m:=Builtin.Tuple.tupleExact _) (wpAny_newObj_type (wpAny_pure ⟨_,rfl,wpAny_pure h⟩) hz))
end
section
variable {X:Cx}{a:Expr}{fa:RP}{pos p1 p2 p3:Pos}{j:Nat}
noncomputable def ahX (p:PyData):OP:=match p with
 | .tuple ds=>some (.tuple ds.reverse)
 | .list ds=>some (.list ds.reverse)
 | _=>none
theorem Reps.rev {K:Fg}{H:Hp}{ds:LP}{xs:List V} (h:Reps K H ds xs):Reps K H ds.reverse xs.reverse:=by
 have app:∀ {as bs:LP} {us vs:List V},Reps K H as us->Reps K H bs vs->Reps K H (as++bs) (us++vs):=by
  intro as
  induction as with
  | nil=>intro bs us vs h1 h2; cases (show us=[] from h1); exact h2
  | cons d as ih=>
   intro bs us vs ⟨x,r,e,h1,h2⟩ h3
   subst e
   exact ⟨x,r++vs,rfl,h1,ih h2 h3⟩
 induction ds generalizing xs with
 | nil=>cases (show xs=[] from h); rfl
 | cons d ds ih=>
  obtain ⟨x,r,rfl,h1,h2⟩:=h
  rw [List.reverse_cons,List.reverse_cons]
  exact app (ih h2) ⟨x,[],rfl,h1,rfl⟩
theorem ap0 (ha:PD X a fa):PD X (.Subscript a (.Slice none none (some (.UnaryOp .USub (.Constant (.int 1) j p1) p2)) p3) pos) (fun ρ=>(fa ρ).bind ahX):=by
 with_unfolding_all
  intro Kp s σ H Q I ⟨ρ,d,en,q,k⟩
  cases h1:fa ρ with
  | none=>simp [h1] at q
  | some p=>
   have q':ahX p=some d:=by simpa [h1] using q
   refine Subscript_ (thn (ha Kp s σ H (fun v H1=>jq H H1/\Rep X.K H1 p v) I ⟨ρ,p,en,h1,fun v H1 s1 r1=>⟨s1,r1⟩⟩) fun v s1 ⟨x,H1,I1,r1,sm,rp⟩=>?_)
   refine wpAny_Slice ?_
   rw [evalPart_none]
   refine wpAny_pure (wpAny_pure ?_)
   refine thn (aiG (X:=X) (aoS ak0 akO) Kp s1 σ H1 (fun o H2=>o=some (-1)/\H2=H1) I1 ⟨1,rfl,-1,rfl,rfl,rfl⟩) fun vk s2 ⟨o,H2,I2,pk,e1,e2⟩=>?_
   subst e1
   subst e2
   have I4:Inv X Kp σ H2 { s2 with heap:=s2.heap.push { cls:= .type "slice",data:= .fields #[.none,.none,vk] } }:=I2.kept (t':=s2.toks) fun b ob q=>Heap.get?_push_of_some _ q
   unfold ahX at q'
   split at q'
   ·rename_i ds
    cases q'
    obtain ⟨t,xs,rfl,hx,rr⟩:=rp
    cases r1
    obtain ⟨its,r,ht,hz⟩:=I4.tuple hx
    have hlen:its.toArray.size=xs.length:=by rw [List.size_toArray]; exact r.length.symm
    refine tail_any (ops:=[.ref t,.ref s2.heap.objs.size]) ht.typeIs PyProof.Rows.slot_tuple_getitem.lookup (act ht (Heap.IsSliceOf.new ..) pk ?_ (by rw [hlen]; exact hz)) (by with_unfolding_all rfl)
    have hn:=I4.hok.fresh (Nat.le_refl _)
    refine ⟨.ref _,_,I4.laid (t':=s2.toks) (o:= .tup xs.reverse) (fun b ob q=>Heap.get?_push_of_some _ q) (Nat.le_refl _) ?_,rfl,k _ _ (sm.trans (jw hn)) ⟨_,_,rfl,SqT.of jn,Reps.mono (jw hn) _ _ rr.rev⟩⟩
    exact ⟨by rw [List.length_reverse]; exact hz,_,r.reverse,IsTup.new _ _⟩
   ·rename_i ds
    cases q'
    obtain ⟨t,xs,rfl,hx,rr⟩:=rp
    cases r1
    obtain ⟨its,r,ht,hz⟩:=I4.list (SqL.of hx)
    have hlen:=r.length
    refine tail_any (ops:=[.ref t,.ref s2.heap.objs.size]) ht.isList.typeIs slot_list_getitem.lookup (wpAny_getItem_list_slice ht.isList (Heap.IsSliceOf.new ..) .none .none pk (by decide) ?_ (by rw [List.size_toArray] <;> omega)) (by with_unfolding_all rfl)
    rw [PySem.W.krv_pick]
    have hn:=I4.hok.fresh (Nat.le_refl _)
    refine ⟨.ref _,_,I4.laid (t':=s2.toks) (o:= .lst xs.reverse) (fun b ob q=>Heap.get?_push_of_some _ q) (Nat.le_refl _) ?_,rfl,k _ _ (sm.trans (jw hn)) ⟨_,_,rfl,jn,Reps.mono (jw hn) _ _ rr.rev⟩⟩
    exact ⟨by rw [List.length_reverse]; exact hz,_,0,r.reverse,Heap.get?_push_size _ rfl⟩
   ·cases q'
end
section
variable {X:Cx}{e b ev:Expr}{j9:List Stmt}{fe fk fv:RP}{G:RO}{pos pos2:Pos}
end
section
variable {X:Cx}
end
section
variable {X:Cx}{σ:St}{H:Hp}{s:Shared}{h':Heap}{e C:Addr}{E:Value->SP0}{A:Around}
end
section
variable {X:Cx}{e a b c:Expr}{es:List Expr}{pos:Pos}
end
section
variable {prog:Program}{w:World}{A:Around}{s:Shared}{R:Result->SP0}
end
section
variable {X:Cx}{tg src:Expr}
end
section
variable {X:Cx}{e:Expr}{st:Stmt}{j9:List Stmt}{fa:RP}{G F:RO}{pos:Pos}
end
section
variable {X:Cx}{e a b c:Expr}{fa fb fc:RP}{pos p2:Pos}
end
section
variable {X:Cx}{own:Option Nat}{e a b c tg src:Expr}{body:List Stmt}{F:RO}{pos:Pos}
variable {es:List Expr}
end
inductive Cell where
 | lst (ds:LP)
 | ins (x:Str) (fs:List (Str × PyData))
noncomputable abbrev jP:=Addr->Option Cell
noncomputable def acu (μ:jP) (a:Addr) (c:Cell):jP:=fun b=>if b=a then some c else μ b
theorem qA {μ:jP}{a:Addr}{c:Cell}:acu μ a c a=some c:=if_pos rfl
theorem ZV {μ:jP}{a b:Addr}{c:Cell} (h:b ≠ a):acu μ a c b=μ b:=if_neg h
noncomputable def akb (K:Fg) (H:Hp):List (Str × PyData)->List (Str × V)->Prop
 | [],vs=>vs=[]
 | (f,d)::fs,vs=>∃ v r,vs=(f,v)::r/\Rep K H d v/\akb K H fs r
noncomputable def ast (f:Str) (d:PyData):List (Str × PyData)->List (Str × PyData)
 | []=>[(f,d)]
 | (k,x)::r=>if k=f then (k,d)::r else (k,x)::ast f d r
section
variable {K:Fg}{H H':Hp}
theorem akb.monoA (s:jG H H'):∀ {fs:List (Str × PyData)}{vs:List (Str × V)},akb K H fs vs->akb K H' fs vs
 | [],_,h=>h
 | (f,d)::fs,_,⟨v,r,h1,h2,h3⟩=>⟨v,r,h1,Rep.monoA s d v h2,akb.monoA s h3⟩
end
noncomputable def Zz (K:Fg) (H:Hp) (a:Addr):Cell->Prop
 | .lst ds=>∃ xs,H a=some (qu a xs)/\Reps K H ds xs
 | .ins x fs=>∃ C dx vs,PySem.W.nsIn K mainGlobals x=some (some (.ref C))/\H a=some (.ins C dx vs)/\akb K H fs vs
noncomputable def qH (K:Fg) (H:Hp) (μ:jP):Prop:=∀ a c,μ a=some c->Zz K H a c
section
variable {K:Fg}{H H':Hp}{μ:jP}{a:Addr}{c:Cell}{ρ:Rho}{σ:St}
theorem EnvR.monoA (e:EnvR K H ρ σ) (h:jG H H'):EnvR K H' ρ σ:=⟨e.len,fun i d q=>let ⟨v,e1,e2⟩:=e.at' i d q; ⟨v,e1,Rep.monoA h d v e2⟩⟩
theorem Zz.to (h:Zz K H a c) (s:jG H H') (e:H' a=H a):Zz K H' a c:=by
 cases c with
 | lst ds=>obtain ⟨xs,h1,h2⟩:=h; exact ⟨xs,e.trans h1,Reps.monoA s _ _ h2⟩
 | ins x fs=>obtain ⟨C,dx,vs,h1,h2,h3⟩:=h; exact ⟨C,dx,vs,h1,e.trans h2,h3.monoA s⟩
theorem Zz.there (h:Zz K H a c):∃ o,H a=some o/\alc o=false:=by
 cases c with
 | lst ds=>obtain ⟨xs,h1,h2⟩:=h; exact ⟨_,h1,rfl⟩
 | ins x fs=>obtain ⟨C,dx,vs,h1,h2,h3⟩:=h; exact ⟨_,h2,rfl⟩
theorem qH.mono (cs:qH K H μ) (s:jq H H'):qH K H' μ:=fun a c h=>by
 obtain ⟨o,h1,_⟩:=(cs a c h).there
 exact (cs a c h).to (jq.a s) ((s _ _ h1).trans h1.symm)
theorem qH.free (cs:qH K H μ) (h:H a=none):μ a=none:=by
 cases q:μ a with
 | none=>rfl
 | some c=>obtain ⟨o,h1,_⟩:=(cs a c q).there; rw [h] at h1; cases h1
theorem qH.put (cs:qH K H μ) (s:jG H H') (k:∀ b,b ≠ a->∀ o,H b=some o->H' b=some o) (new:Zz K H' a c):qH K H' (acu μ a c):=fun b d h=>by
 by_cases hb:b=a
 ·subst hb; rw [qA] at h; cases h; exact new
 ·rw [ZV hb] at h
  obtain ⟨o,h1,_⟩:=(cs b d h).there
  exact (cs b d h).to s ((k b hb o h1).trans h1.symm)
theorem qH.upd {o:HO} (cs:qH K H μ) (s:jG H (L2.upd H a o)) (new:Zz K (L2.upd H a o) a c):qH K (L2.upd H a o) (acu μ a c):=
 cs.put s (fun b hb o h=>by rw [jp hb]; exact h) new
theorem jG.upd {o u:HO} (h:H a=some u) (hu:alc u=false):jG H (L2.upd H a o):=fun b x q d=>by
 have:b ≠ a:=fun z=>by subst z; rw [h] at q; cases q; rw [hu] at d; cases d
 rw [jp this]; exact q
end
inductive Res (α:Type) where
 | ok (d:α) | er (c:Str)
noncomputable abbrev TR (α:Type):=Rho->jP->(Res α->jP->Prop)->Prop
inductive OutC where
 | nx (ρ:Rho) | rt (d:PyData) | bk (ρ:Rho) | ct (ρ:Rho) | er (c:Str)
noncomputable abbrev TRS:=Rho->jP->(OutC->jP->Prop)->Prop
noncomputable def al6 (X:Cx) (H:Hp) (μ:jP) (c:Str) (ev:Value) (s':Shared):Prop:=∃ e C σ' H',ev= .ref e/\X.mg c=some (.ref C)/\Inv X [] σ' H' s'/\jG H H'/\qH X.K H' μ/\Xc X H' s'.heap e C
theorem al6.mono {X:Cx}{H H1:Hp}{μ:jP}{c:Str}{ev:Value}{s':Shared} (s:jG H H1) (h:al6 X H1 μ c ev s'):al6 X H μ c ev s':=by
 obtain ⟨e,C,σ',H',h1,h2,h3,h4,h5⟩:=h
 exact ⟨e,C,σ',H',h1,h2,h3,s.trans h4,h5⟩
noncomputable def adq {α:Type} (X:Cx) (H:Hp) (P:α->Hp->Prop):Res α->jP->Prop
 | .ok d,μ=>∀ H',jG H H'->qH X.K H' μ->P d H'
 | .er c,μ=>∀ ev s',al6 X H μ c ev s'->X.xe ev s'
noncomputable def JA (X:Cx) (H:Hp) (D:Ends):OutC->jP->Prop
 | .nx ρ,μ=>∀ σ H',jG H H'->EnvR X.K H' ρ σ->qH X.K H' μ->D.nx σ H'
 | .rt d,μ=>∀ v H',jG H H'->Rep X.K H' d v->qH X.K H' μ->D.rt v H'
 | .bk ρ,μ=>∀ σ H',jG H H'->EnvR X.K H' ρ σ->qH X.K H' μ->D.bk σ H'
 | .ct ρ,μ=>∀ σ H',jG H H'->EnvR X.K H' ρ σ->qH X.K H' μ->D.ct σ H'
 | .er c,μ=>∀ ev s',al6 X H μ c ev s'->X.xe ev s'
section
variable {X:Cx}{α β:Type}{H H1:Hp}{σ:St}
theorem adq.mono {P:α->Hp->Prop}{o:Res α}{μ:jP} (h:adq X H P o μ) (s:jG H H1):adq X H1 P o μ:=by
 cases o with
 | ok d=>exact fun H' s1 c=>h H' (s.trans s1) c
 | er c=>exact fun ev s' t=>h ev s' (t.mono s)
theorem JA.mono {D:Ends}{o:OutC}{μ:jP} (h:JA X H D o μ) (s:jG H H1):JA X H1 D o μ:=by
 cases o with
 | nx ρ=>exact fun σ H' s1 e c=>h σ H' (s.trans s1) e c
 | rt d=>exact fun v H' s1 e c=>h v H' (s.trans s1) e c
 | bk ρ=>exact fun σ H' s1 e c=>h σ H' (s.trans s1) e c
 | ct ρ=>exact fun σ H' s1 e c=>h σ H' (s.trans s1) e c
 | er c=>exact fun ev s' t=>h ev s' (t.mono s)
noncomputable def AtC (X:Cx) (σ:St) (H:Hp) (T:TR α) (P:α->Hp->Prop):Prop:=∃ ρ μ R,EnvR X.K H ρ σ/\qH X.K H μ/\T ρ μ R/\∀ o μ',R o μ'->adq X H P o μ'
noncomputable def AtS (X:Cx) (σ:St) (H:Hp) (T:TRS) (D:Ends):Prop:=∃ ρ μ R,EnvR X.K H ρ σ/\qH X.K H μ/\T ρ μ R/\∀ o μ',R o μ'->JA X H D o μ'
noncomputable def bindC (T:TR α) (k:α->TR β):TR β:=fun ρ μ R=>T ρ μ fun o μ'=>match o with
 | .ok d=>k d ρ μ' R
 | .er c=>R (.er c) μ'
noncomputable def Zh (T:TR α) (k:α->TRS):TRS:=fun ρ μ R=>T ρ μ fun o μ'=>match o with
 | .ok d=>k d ρ μ' R
 | .er c=>R (.er c) μ'
noncomputable def Zi (f:Rho->Option α):TR α:=fun ρ μ R=>∃ d,f ρ=some d/\R (.ok d) μ
noncomputable def ahY (o:Option α):TR α:=fun _ μ R=>∃ d,o=some d/\R (.ok d) μ
theorem AtC.bind {T:TR α}{k:α->TR β}{P:β->Hp->Prop} (h:AtC X σ H (bindC T k) P):AtC X σ H T fun d H1=>jG H H1/\AtC X σ H1 (k d) P:=by
 obtain ⟨ρ,μ,R,en,cs,t,kk⟩:=h
 refine ⟨ρ,μ,_,en,cs,t,fun o μ1 r=>?_⟩
 cases o with
 | ok d=>exact fun H1 s1 cs1=>⟨s1,ρ,μ1,R,en.monoA s1,cs1,r,fun o μ' q=>(kk o μ' q).mono s1⟩
 | er c=>exact kk (.er c) μ1 r
theorem AtS.bind {T:TR α}{k:α->TRS}{D:Ends} (h:AtS X σ H (Zh T k) D):AtC X σ H T fun d H1=>jG H H1/\AtS X σ H1 (k d) D:=by
 obtain ⟨ρ,μ,R,en,cs,t,kk⟩:=h
 refine ⟨ρ,μ,_,en,cs,t,fun o μ1 r=>?_⟩
 cases o with
 | ok d=>exact fun H1 s1 cs1=>⟨s1,ρ,μ1,R,en.monoA s1,cs1,r,fun o μ' q=>(kk o μ' q).mono s1⟩
 | er c=>exact kk (.er c) μ1 r
theorem AtC.imp {T:TR α}{P P':α->Hp->Prop} (h:AtC X σ H T P) (hp:∀ d H1,jG H H1->P d H1->P' d H1):AtC X σ H T P':=by
 obtain ⟨ρ,μ,R,en,cs,t,kk⟩:=h
 refine ⟨ρ,μ,R,en,cs,t,fun o μ1 r=>?_⟩
 have q:=kk o μ1 r
 cases o with
 | ok d=>exact fun H1 s1 c1=>hp d H1 s1 (q H1 s1 c1)
 | er c=>exact q
theorem AtC.pure {f:Rho->Option α}{P:α->Hp->Prop} (h:AtC X σ H (Zi f) P):∃ ρ d,EnvR X.K H ρ σ/\f ρ=some d/\∀ H',jq H H'->P d H':=by
 obtain ⟨ρ,μ,R,en,cs,⟨d,hf,hR⟩,kk⟩:=h
 exact ⟨ρ,d,en,hf,fun H' s=>kk _ _ hR H' (jq.a s) (cs.mono s)⟩
theorem AtC.ret {o:Option α}{P:α->Hp->Prop} (h:AtC X σ H (ahY o) P):∃ d,o=some d/\∀ H',jq H H'->P d H':=by
 obtain ⟨ρ,μ,R,en,cs,⟨d,hf,hR⟩,kk⟩:=h
 exact ⟨d,hf,fun H' s=>kk _ _ hR H' (jq.a s) (cs.mono s)⟩
end
noncomputable def tC (X:Cx) (T:TR PyData):TE:=fun σ H Q=>AtC X σ H T fun d H'=>∀ v,Rep X.K H' d v->Q v H'
noncomputable def tCT (X:Cx) (T:TR Bool):TT:=fun σ H Q=>AtC X σ H T Q
noncomputable def tCA (X:Cx) (T:TR (LP)):TA:=fun σ H Q=>AtC X σ H T fun ds H'=>∀ vs,Reps X.K H' ds vs->Q vs H'
noncomputable def tCS (X:Cx) (T:TRS):TS:=fun D σ H=>AtS X σ H T D
@[irreducible] noncomputable def PEC (X:Cx) (e:Expr) (T:TR PyData):Prop:=PE X e (tC X T)
@[irreducible] noncomputable def PTC (X:Cx) (e:Expr) (T:TR Bool):Prop:=PT X e (tCT X T)
@[irreducible] noncomputable def PAC (X:Cx) (es:List Expr) (T:TR (LP)):Prop:=PA X es (tCA X T)
@[irreducible] noncomputable def PSC (X:Cx) (st:Stmt) (T:TRS):Prop:=PS X st (tCS X T)
@[irreducible] noncomputable def ad6 (X:Cx) (sts:List Stmt) (T:TRS):Prop:=PSs X sts (tCS X T)
section
variable {X:Cx}{e a b c:Expr}{es:List Expr}{st:Stmt}{sts j9:List Stmt}{fa:RP}{Ta Tb To:TR PyData}{Tt Tu:TR Bool}{F:RO}{S S':TRS}{pos:Pos}
theorem Q1 (h:PD X e fa):PEC X e (Zi fa):=by
 with_unfolding_all
  exact PE.imp h fun σ H Q h=>let ⟨ρ,d,en,hf,k⟩:=h.pure; ⟨ρ,d,en,hf,fun v H' s r=>k H' s v r⟩
theorem ahZ {tc:Rho->Option Bool} (h:PTD X e tc):PTC X e (Zi tc):=by
 with_unfolding_all
  exact PT.imp h fun σ H Q h=>let ⟨ρ,d,en,hf,k⟩:=h.pure; ⟨ρ,d,en,hf,fun H' s=>k H' s⟩
theorem acB:PAC X [] (ahY (some [])):=by
 with_unfolding_all
  exact PA.imp zn fun σ H Q h=>by
   obtain ⟨d,hd,k⟩:=AtC.ret h
   cases hd
   exact k H (jq.refl H) [] rfl
noncomputable def ai4 (Ta:TR PyData) (Tr:TR (LP)):TR (LP):=bindC Ta fun d=>bindC Tr fun ds=>ahY (some (d::ds))
theorem JN {Tr:TR (LP)} (ha:PEC X e Ta) (hr:PAC X es Tr) (hs:starEach (e::es) X.env=(false,eval e X.env)::starEach es X.env:=by rfl):PAC X (e::es) (ai4 Ta Tr):=by
 with_unfolding_all
  exact PA.imp (qt ha hr hs) fun σ H Q h=>(AtC.bind h).imp fun d H1 _ ⟨s1,h1⟩ x rx=>h1.bind.imp fun ds H2 _ ⟨s2,h2⟩ xs rxs=>by
   obtain ⟨d',hd,k⟩:=h2.ret
   cases hd
   exact k H2 (jq.refl _) (x::xs) ⟨x,xs,rfl,Rep.monoA s2 _ _ rx,rxs⟩
noncomputable def opC (g:PyData->PyData->OP) (Ta Tb:TR PyData):TR PyData:=bindC Ta fun p=>bindC Tb fun q=>ahY (g p q)
theorem ary {g:PyData->PyData->OP}{r:R2} (hr:∀ p q d x y H Q,g p q=some d->Rep X.K H p x->Rep X.K H q y->(∀ v H',jq H H'->Rep X.K H' d v->Q v H')->r x y H Q)
  {σ:St} {H:Hp} {Q:VK} (h:tC X (opC g Ta Tb) σ H Q):tOp r (tC X Ta) (tC X Tb) σ H Q:=
 (AtC.bind h).imp fun p H1 _ ⟨s1,h1⟩ x rx=>h1.bind.imp fun q H2 _ ⟨s2,h2⟩ y ry=>by
  obtain ⟨d,hd,k⟩:=h2.ret
  exact hr p q d x y H2 Q hd (Rep.monoA s2 _ _ rx) ry fun v H' s rv=>k H' s v rv
theorem anU {op:Operator}{g:PyData->PyData->OP} (ho:OpD X (binaryOp op) g) (ha:PEC X a Ta) (hb:PEC X b Tb):PEC X (.BinOp a op b pos) (opC g Ta Tb):=by
 with_unfolding_all
  obtain ⟨r,h1,h2⟩:=ho
  exact PE.imp (aoR h1 ha hb) fun σ H Q h=>ary h2 h
variable {er:List Expr}
theorem ap1 {Tc:TR Bool} (hc:PTC X c Tc) (ha:PEC X a Ta) (hb:PEC X b Tb):PEC X (.IfExp c a b pos) (bindC Tc fun x=>if x=true then Ta else Tb):=by
 with_unfolding_all
  exact PE.imp (aga hc ha hb) fun σ H Q h=>(AtC.bind h).imp fun x H1 _ ⟨s1,h1⟩=>by
   cases x with
   | true=>exact h1
   | false=>exact h1
noncomputable def agF (S S':TRS):TRS:=fun ρ μ R=>S ρ μ fun o μ'=>match o with
 | .nx ρ'=>S' ρ' μ' R
 | o=>R o μ'
noncomputable def ap2:TRS:=fun ρ μ R=>R (.nx ρ) μ
theorem QC:ad6 X [] ap2:=by
 with_unfolding_all
  exact PSs.imp ae9 fun D σ H ⟨ρ,μ,R,en,cs,t,k⟩=>k _ _ t σ H (jG.refl _) en cs
theorem ju (h1:PSC X st S) (h2:ad6 X j9 S'):ad6 X (st::j9) (agF S S'):=by
 with_unfolding_all
  refine PSs.imp (Qp h1 h2) fun D σ H ⟨ρ,μ,R,en,cs,t,k⟩=>⟨ρ,μ,_,en,cs,t,fun o μ' r=>?_⟩
  cases o with
  | nx ρ'=>exact fun σ' H' s e c=>⟨ρ',μ',R,e,c,r,fun o μ2 q=>(k o μ2 q).mono s⟩
  | rt d=>exact k (.rt d) μ' r
  | bk d=>exact k (.bk d) μ' r
  | ct d=>exact k (.ct d) μ' r
  | er d=>exact k (.er d) μ' r
noncomputable def aoW:Out->OutC
 | .nx ρ=> .nx ρ
 | .rt d=> .rt d
 | .bk ρ=> .bk ρ
 | .ct ρ=> .ct ρ
noncomputable def al7 (F:RO):TRS:=fun ρ μ R=>∃ o,F ρ=some o/\R (aoW o) μ
theorem ah0 {H:Hp}{D:Ends}{o:Out}{μ:jP} (cs:qH X.K H μ) (h:JA X H D (aoW o) μ):agi X.K D H o:=by
 cases o with
 | nx ρ=>exact fun σ H' s e=>h σ H' (jq.a s) e (cs.mono s)
 | rt d=>exact fun v H' s e=>h v H' (jq.a s) e (cs.mono s)
 | bk ρ=>exact fun σ H' s e=>h σ H' (jq.a s) e (cs.mono s)
 | ct ρ=>exact fun σ H' s e=>h σ H' (jq.a s) e (cs.mono s)
theorem qi (h:PSD X st F):PSC X st (al7 F):=by
 with_unfolding_all
  exact PS.imp h fun D σ H ⟨ρ,μ,R,en,cs,⟨o,hF,hR⟩,k⟩=>⟨ρ,o,en,hF,ah0 cs (k _ _ hR)⟩
noncomputable def anV (i:Nat) (d:PyData):TRS:=fun ρ μ R=>R (.nx (ρ.set i (some d))) μ
theorem aa7 (i:Nat) {x:Str}{pos':Pos} (hN:X.N.Nodup) (he:PEC X e Ta) (hi:X.N[i]?=some x:=by rfl) (hx:Loc X.env.scope x:=by first | exact Or.inl rfl | exact Or.inr rfl) (hs:swapsWith e (some (.Name x pos')) pos.line X.env=pure false:=by rfl)
  (hf:X.fn x=true ∨ X.env.scope.names.lookup x=some .local:=by first | exact .inl rfl | exact .inr rfl | assumption):PSC X (.Assign [.Name x pos'] e pos) (Zh Ta (anV i)):=by
 with_unfolding_all
  exact PS.imp (acY hN hi hx he hs hf) fun D σ H h=>(AtS.bind h).imp fun d H1 _ ⟨s1,ρ,μ,R,en,cs,t,k⟩ v rv=>k _ _ t _ H1 (jG.refl _) (en.set rv) cs
noncomputable def rtC (d:PyData):TRS:=fun _ μ R=>R (.rt d) μ
theorem anW (h:PEC X e Ta):PSC X (.Return (some e) pos) (Zh Ta rtC):=by
 with_unfolding_all
  exact PS.imp (afc h) fun D σ H h=>(AtS.bind h).imp fun d H1 _ ⟨s1,ρ,μ,R,en,cs,t,k⟩ v rv=>k _ _ t v H1 (jG.refl _) rv cs
noncomputable def ifC (T:TR Bool) (S S':TRS):TRS:=Zh T fun b=>if b=true then S else S'
theorem ap3 {l r:List Stmt} (hc:PTC X c Tt) (hl:ad6 X l S) (hr:ad6 X r S'):PSC X (.If c l r pos) (ifC Tt S S'):=by
 with_unfolding_all
  exact PS.imp (akR hc hl hr) fun D σ H h=>(AtS.bind h).imp fun b H1 _ ⟨s1,h1⟩=>by
   cases b with
   | true=>exact h1
   | false=>exact h1
end
noncomputable def asT (K:Fg) (x f:Str):Prop:=∀ C,PySem.W.nsIn K mainGlobals x=some (some (.ref C))->Cls K C/\apv K C f
section
variable {X:Cx}{e a b c o value:Expr}{es:List Expr}{st:Stmt}{Ta Tb To Tv:TR PyData}{Tr:TR (LP)}{pos pos' apos:Pos}{x f m:Str}
noncomputable abbrev GC3:=LP->jP->(Res PyData->jP->Prop)->Prop
noncomputable def asu (K:Fg) (mg:SV) (n:Nat) (g:GC3):Sp:=fun vs H Q E=>∃ ds μ R,ds.length=n/\Reps K H ds vs/\qH K H μ/\g ds μ R/\(∀ d μ',R (.ok d) μ'->∀ v H',jG H H'->Rep K H' d v->qH K H' μ'->Q v H')/\
 ∀ c μ',R (.er c) μ'->∀ C H',mg c=some (.ref C)->jG H H'->qH K H' μ'->E (.ref C) none H'
noncomputable def asU (P:Program) (w:World) (K:Fg) (mg:SV) (base:Heap) (x m:Str) (ps:List Str) (k n:Nat) (g:GC3):Prop:=
 ∃ (C f:Addr) (fd:FuncData),PySem.W.nsIn K mainGlobals x=some (some (.ref C))/\Cls K C/\Meth K C m f/\FnOk P w K mg base (CXt P w) k f fd ps (asu K mg n g)/\JZ K fd ps []
end
section
variable {X:Cx}{e a b c o value:Expr}{es:List Expr}{st:Stmt}{Ta Tb To Tv:TR PyData}{Tr:TR (LP)}{pos pos' apos:Pos}{x f m:Str}
end
section
variable {X:Cx}{e a b c o value:Expr}{es:List Expr}{st:Stmt}{Ta Tb To Tv:TR PyData}{Tr:TR (LP)}{pos pos' apos:Pos}{x f m:Str}
end
section
variable {X:Cx}{e a b c o value:Expr}{es:List Expr}{st:Stmt}{Ta Tb To Tv:TR PyData}{Tr:TR (LP)}{pos pos' apos:Pos}{x f m:Str}
end
section
variable {X:Cx}{e a b c o value:Expr}{es:List Expr}{st:Stmt}{Ta Tb To Tv:TR PyData}{Tr:TR (LP)}{pos pos' apos:Pos}{x f m:Str}
end
section
variable {X:Cx}{e a b c o value:Expr}{es:List Expr}{st:Stmt}{Ta Tb To Tv:TR PyData}{Tr:TR (LP)}{pos pos' apos:Pos}{x f m:Str}
end
section
variable {X:Cx}{e a b c o value:Expr}{es:List Expr}{st:Stmt}{Ta Tb To Tv:TR PyData}{Tr:TR (LP)}{pos pos' apos cpos:Pos}{x f m:Str}
noncomputable def arz (f:RP):TR PyData:=fun ρ μ R=>∃ ds,f ρ=some (.list ds)/\∀ a,μ a=none->R (.ok (zz a)) (acu μ a (.lst ds))
theorem anX {fe:RP} (h:PN X e fe):PEC X e (arz fe):=by
 with_unfolding_all
  exact PE.imp h fun σ H Q ⟨ρ,μ,R,en,cs,⟨ds,hf,hR⟩,kk⟩=>⟨ρ,_,en,hf,fun l H' s hn ow=>by
   have k1:=(kk (.ok (zz l)) _ (hR l (cs.free hn)):adq X H (fun d H'=>∀ v,Rep X.K H' d v->Q v H') (.ok (zz l)) _)
   exact k1 H' (jq.a s) (cs.put (jq.a s) (fun b _ o q=>s b o q) ow) (.ref l) (Rep.cel l)⟩
end
section
variable {X:Cx}{e a b c o value:Expr}{es:List Expr}{st:Stmt}{Ta Tb To Tv:TR PyData}{Tr:TR (LP)}{fa:RP}{pos pos' apos cpos:Pos}{x f m:Str}
theorem al8 {H:Hp}{ρ:Rho}{σ:St}{i:Nat}{l:Addr}{ds:LP}{xs:List V} (en:EnvR X.K H ρ σ) (hi:lkp i ρ=some (zz l)) (h:H l=some (qu l xs)) (rs:Reps X.K H ds xs):EnvR X.K (upd H l (.lst xs)) (ρ.set i (some (.list ds))) σ:=by
 have sA:jG H (upd H l (.lst xs)):=jG.upd h rfl
 have hi':=qB hi
 have hl:i < ρ.length:=(List.getElem?_eq_some_iff.mp hi').1
 refine ⟨by rw [List.length_set]; exact en.len,fun j d q=>?_⟩
 by_cases hj:i=j
 ·subst hj
  rw [List.getElem?_set_self hl] at q; cases q
  obtain ⟨v,h1,h2⟩:=en.at' i _ hi'
  cases Rep.celOut h2
  exact ⟨_,h1,l,xs,rfl,jn,Reps.monoA sA _ _ rs⟩
 ·rw [List.getElem?_set_ne hj] at q
  exact (en.monoA sA).at' j d q
theorem al9 {H H3:Hp}{l:Addr}{xs:List V}{o:HO} (h:H l=some (qu l xs)) (s:jq (upd H l o) H3):jG H (upd H3 l (qu l xs))/\∀ b,b ≠ l->∀ u,H b=some u->upd H3 l (qu l xs) b=some u:=
 have k:∀ b,b ≠ l->∀ u,H b=some u->upd H3 l (qu l xs) b=some u:=fun b hb u q=>by rw [jp hb]; exact s b u (by rw [jp hb]; exact q)
 ⟨fun b u q d=>k b (fun z=>by subst z; rw [h] at q; cases q; cases d) u q,k⟩
theorem ah1 {H H3:Hp}{μ:jP}{l:Addr}{ds:LP}{xs:List V}{o:HO} (cs:qH X.K H μ) (hm:μ l=some (.lst ds)) (h:H l=some (qu l xs)) (s:jq (upd H l o) H3):qH X.K (upd H3 l (qu l xs)) μ:=fun b c q=>by
 obtain ⟨sA,k⟩:=al9 h s
 by_cases hb:b=l
 ·subst hb
  exact (cs b c q).to sA (by rw [jn,h])
 ·obtain ⟨u,h1,_⟩:=(cs b c q).there
  exact (cs b c q).to sA ((k b hb u h1).trans h1.symm)
noncomputable def ap4 (i:Nat) (f:RP):TR PyData:=fun ρ μ R=>∃ a ds d,lkp i ρ=some (zz a)/\μ a=some (.lst ds)/\f (ρ.set i (some (.list ds)))=some d/\noL d=true/\R (.ok d) μ
theorem Qb (i:Nat) (h:PD X e fa):PEC X e (ap4 i fa):=by
 with_unfolding_all
  intro Kp s σ H Q I ⟨ρ,μ,R,en,cs,⟨l,ds,d,hi,hm,hf,hn,hR⟩,kk⟩
  obtain ⟨xs,h1,rs⟩:=cs l _ hm
  refine thn (h Kp s σ (upd H l (.lst xs)) (fun v H3=>jq (upd H l (.lst xs)) H3/\Rep X.K H3 d v) (Inv.opened I (.l xs) h1) ⟨_,d,al8 en hi h1 rs,hf,fun v H3 s3 r3=>⟨s3,r3⟩⟩) fun u s1 ⟨v,H3,I3,r,s3,r3⟩=>?_
  have e3:H3 l=some (.lst xs):=s3 _ _ jn
  have k1:=(kk (.ok d) _ hR:adq X H (fun d H'=>∀ v,Rep X.K H' d v->Q v H') (.ok d) _)
  refine ⟨v,upd H3 l (qu l xs),Inv.closed I3 (.l xs) e3 (Inv.nofrz I h1),r,k1 _ (al9 h1 s3).1 (ah1 cs hm h1 s3) v (Rep.monoN (fun b u hb m=>?_) d v hn r3)⟩
  have:b ≠ l:=fun z=>by subst z; rw [e3] at hb; cases hb; exact m _ rfl
  rw [jp this]; exact hb
noncomputable def asV (i:Nat) (f:Rho->Option Bool):TR Bool:=fun ρ μ R=>∃ a ds d,lkp i ρ=some (zz a)/\μ a=some (.lst ds)/\f (ρ.set i (some (.list ds)))=some d/\R (.ok d) μ
theorem anY {x1} (h:PAC X es Tr):PEC X (.Tuple es x1 pos) (bindC Tr fun ds=>ahY (if few ds=true then some (.tuple ds) else none)):=by
 with_unfolding_all
  exact PE.imp (ahB h) fun σ H Q h=>(AtC.bind h).imp fun ds H1 _ ⟨s1,h3⟩ vs rv=>by
   obtain ⟨d,hd,k⟩:=h3.ret
   by_cases hf:few ds=true
   ·rw [if_pos hf] at hd; cases hd
    refine ⟨by rw [rv.length]; exact aau (by simpa [few] using hf),fun p hp=>?_⟩
    exact k _ (jw hp) (.ref p) ⟨p,vs,rfl,SqT.of jn,Reps.mono (jw hp) _ _ rv⟩
   ·rw [if_neg hf] at hd; cases hd
end
section
variable {X:Cx}{e a b c o tg src:Expr}{es:List Expr}{st:Stmt}{body:List Stmt}{S:TRS}{Tt:TR Bool}{Tr:TR (LP)}{pos:Pos}{x:Str}
noncomputable def ama (nx:Rho->jP->Prop) (R:OutC->jP->Prop):OutC->jP->Prop
 | .nx ρ,μ=>nx ρ μ
 | .ct ρ,μ=>nx ρ μ
 | .bk ρ,μ=>R (.nx ρ) μ
 | .rt d,μ=>R (.rt d) μ
 | .er c,μ=>R (.er c) μ
noncomputable def aeE (ga:PyData->Rho->Option Rho) (S:TRS):LP->TRS
 | []=>fun ρ μ R=>R (.nx ρ) μ
 | d::r=>fun ρ μ R=>∃ ρ1,ga d ρ=some ρ1/\S ρ1 μ (ama (fun ρ2 μ2=>aeE ga S r ρ2 μ2 R) R)
noncomputable def ads (T:TR Bool) (S:TRS):Nat->TRS
 | 0=>fun _ _ _=>False
 | n+1=>fun ρ μ R=>T ρ μ fun o μ'=>match o with
  | .ok b=>if b=true then S ρ μ' (ama (fun ρ2 μ2=>ads T S n ρ2 μ2 R) R) else R (.nx ρ) μ'
  | .er c=>R (.er c) μ'
theorem akc (n:Nat) (hp:PassesOwn (model X.prog X.w) X.A X.env X.xe) (hc:PTC X c Tt) (hb:ad6 X body S):PSC X (.While c body [] pos) (ads Tt S n):=by
 with_unfolding_all
  refine PS.imp (agc hp hc hb) fun D σ H ⟨ρ,μ,R,en,cs,q,k⟩=>?_
  refine ⟨fun m σ2 H2=>∃ ρ2 μ2,jG H H2/\EnvR X.K H2 ρ2 σ2/\qH X.K H2 μ2/\ads Tt S m ρ2 μ2 R,⟨n,ρ,μ,jG.refl _,en,cs,q⟩,?_⟩
  rintro m σ2 H2 ⟨ρ2,μ2,sA,en2,cs2,q2⟩
  cases m with
  | zero=>exact q2.elim
  | succ m=>
   refine ⟨ρ2,μ2,_,en2,cs2,q2,fun o μ' r=>?_⟩
   cases o with
   | er c=>exact fun ev s' t=>(k (.er c) μ' r:JA X H D (.er c) μ') ev s' (t.mono sA)
   | ok b=>
    intro H3 s3 c3
    cases b with
    | false=>exact (k (.nx ρ2) μ' r:JA X H D (.nx ρ2) μ') σ2 H3 (sA.trans s3) (en2.monoA s3) c3
    | true=>
     refine ⟨fun σ4 H4=>∃ ρ4 μ4,jG H H4/\EnvR X.K H4 ρ4 σ4/\qH X.K H4 μ4/\ads Tt S m ρ4 μ4 R,fun σ4 H4 z=>⟨m,Nat.lt_succ_self m,z⟩,ρ2,μ',_,en2.monoA s3,c3,r,fun o μ4 r4=>?_⟩
     have s03:=sA.trans s3
     cases o with
     | nx ρ6=>exact fun σ6 H6 s6 e6 c6=>⟨ρ6,μ4,s03.trans s6,e6,c6,r4⟩
     | ct ρ6=>exact fun σ6 H6 s6 e6 c6=>⟨ρ6,μ4,s03.trans s6,e6,c6,r4⟩
     | bk ρ6=>exact fun σ6 H6 s6 e6 c6=>(k (.nx ρ6) μ4 r4:JA X H D (.nx ρ6) μ4) σ6 H6 (s03.trans s6) e6 c6
     | rt d=>exact fun v H6 s6 e6 c6=>(k (.rt d) μ4 r4:JA X H D (.rt d) μ4) v H6 (s03.trans s6) e6 c6
     | er c=>exact fun ev s' t=>(k (.er c) μ4 r4:JA X H D (.er c) μ4) ev s' (t.mono s03)
end
noncomputable def amb (R:Res PyData->jP->Prop):OutC->jP->Prop
 | .rt d,μ=>R (.ok d) μ
 | .nx _,μ=>R (.ok .none) μ
 | .er c,μ=>R (.er c) μ
 | _,_=>False
noncomputable def amc (N:List Str) (T:TRS):GC3:=fun ds μ R=>T (jE N ds) μ (amb R)
noncomputable def aeF (K:Fg) (n:Nat) (g:GC3):Sp:=fun vs H Q _=>∃ ds μ R,ds.length=n/\Reps K H ds vs/\qH K H μ/\g ds μ R/\(∀ d μ',R (.ok d) μ'->∀ v H',jG H H'->Rep K H' d v->qH K H' μ'->Q v H')/\∀ c μ',¬ R (.er c) μ'
noncomputable def ai5 (P:Program) (w:World) (K:Fg) (mg:SV) (base:Heap) (x:Str) (ps:List Str) (k n:Nat) (g:GC3):Prop:=
 ∃ (f:Addr) (fd:FuncData),FnOk P w K mg base CX0 k f fd ps (aeF K n g)/\mg x=some (.ref f)/\PySem.W.keepIn K (.ref f)=true/\JZ K fd ps []
section
variable {P:Program}{w:World}{K:Fg}{mg:SV}{base:Heap}
theorem aoX {x qual:Str}{st:Stmt}{f:Addr}{fd:FuncData}{N ps:List Str}{k:Nat}{T:TRS} (F:Fun K x qual st f fd) (S:FnScope N ps (jf st))
  (body:∀ (Kc:Value) (A:Around) (Ko:List Env) (s:Shared) (H:Hp) (E:XK),Room k (A.deeper (envOfC qual (jf st) s.heap.objs.size f Kc))->ad6 (zT CX0 P w K mg base N qual (jf st) f Kc A Ko s H E).nox (jJ st) T):
  FnOk P w K mg base CX0 (k+1) f fd ps (aeF K ps.length (amc N T)):=by
 with_unfolding_all
  refine F.ok S (fun vs H Q E h=>?_) (fun Kc A Ko s H vs Q E hr h=>?_)
  ·obtain ⟨ds,μ,R,h1,h2,_⟩:=h
   rw [h2.length]; exact h1
  ·obtain ⟨ds,μ,R,h1,h2,h3,h4,h5,h6⟩:=h
   refine ⟨_,body Kc A Ko s H E hr,jE N ds,μ,_,Qv h2,h3,h4,fun o μ' r=>?_⟩
   cases o with
   | rt d=>exact fun v H' sA rv c=>h5 d μ' r v H' sA rv c
   | nx ρ=>exact fun σ H' sA e c=>h5 .none μ' r .non H' sA rfl c
   | bk ρ=>exact r.elim
   | ct ρ=>exact r.elim
   | er c=>exact (h6 c μ' r).elim
end
section
variable {X:Cx}{e:Expr}{es:List Expr}{Tr:TR (LP)}{pos:Pos}{x:Str}
noncomputable def asv (R:Res PyData->jP->Prop):Res PyData->jP->Prop
 | .ok d,μ=>R (.ok d) μ
 | .er _,_=>False
noncomputable def aoY (g:GC3) (n:Nat) (ds:LP):TR PyData:=fun _ μ R=>ds.length=n/\g ds μ (asv R)
theorem ah2 {k j n:Nat}{ps:List Str}{g:GC3}{p:Pos} (C:ai5 X.prog X.w X.K X.mg X.base x ps k n g) (hr:Room j X.A) (hkj:k<=j) (ha:PAC X (e::es) Tr)
  (hg:Gl X x:=by rfl) (hdb:(x == ("__debug__":Str))=false:=by decide) (he:starEach (e::es) X.env=(false,eval e X.env)::starEach es X.env:=by rfl)
  (hpl:(backTo pos (starEach es X.env)).any (·.1)=false:=by rfl):PEC X (.Call (.Name x p) (e::es) [] pos) (bindC Tr (aoY g n)):=by
 with_unfolding_all
  obtain ⟨f,fd,h1,h2,h3,h4⟩:=C
  exact PE.imp (aiD h1 (hr.mono hkj) hg h2 h3 h4 .nil ael ha hdb he hpl) fun σ H Q h=>(AtC.bind h).imp fun ds H1 _ ⟨s1,ρ,μ,R,en,cs,⟨hn,t⟩,k⟩ vs rv=>
   ⟨ds,μ,_,hn,by rw [List.append_nil]; exact rv,cs,t,fun d μ' r v H' s rd c=>(k (.ok d) μ' r:adq X H1 (fun d H'=>∀ v,Rep X.K H' d v->Q v H') (.ok d) μ') H' s c v rd,fun c μ' r=>r⟩
end
@[irreducible] noncomputable def arA (X:Cx) (sts:List Stmt) (T:TRS):Prop:=∀ (s:Shared) (σ:St) (H:Hp) (D:Ends),Inv X [] σ H s->AtS X σ H T D->wpAny (model X.prog X.w) X.A (execs sts X.env) (SP X [] D) X.xe s
section
variable {X:Cx}{st b0:Stmt}{sts j9 tb hb:List Stmt}{S S':TRS}{G:RO}{pos:Pos}
end
section
variable {P:Program}{w:World}{K:Fg}{mg:SV}{base:Heap}
noncomputable def asM (K:Fg) (x m qual:Str) (st:Stmt):Prop:=
 ∃ (C f:Addr) (oc:Value) (od an:Option Addr) (kV doc pm Kc ct:Value) (osl:Array (Option Value)),PySem.W.nsIn K mainGlobals x=some (some (.ref C))/\PySem.W.findIn K (.ref C) m=some (some (.ref f))/\PySem.W.isFn K (.ref f)=true/\
  K.lookup f=some ⟨oc,od,.func (PySem.W.fnOf m qual (JB st) (jJ st) (jf st) .none kV doc pm an Kc ct),osl⟩/\PySem.W.codeIn K Kc qual=true/\PySem.W.keepIn K (.ref f)=true
noncomputable def asW (K:Fg) (x:Str):Prop:=∃ C,PySem.W.nsIn K mainGlobals x=some (some (.ref C))/\Cls K C/\PySem.W.makesIn K C=true/\PySem.W.keepIn K (.ref C)=true
noncomputable abbrev ap5 (x qual:Str) (st:Stmt) (ps:List Str):Prop:=∀ (kV doc pm:Value) (an:Option Addr) (Kc ct:Value) (us:List Value),us.length=ps.length->bindArgs (PySem.W.fnOf x qual (JB st) (jJ st) (jf st) .none kV doc pm an Kc ct) ⟨us,[]⟩=pure (ps.zip us)
theorem jT.cal0 {h:Heap}{x:Str}{st:Stmt}{ps:List Str}{k n:Nat}{g:GC3} (T:jT K x st) (X:K.In h) (G:h.Ns mainGlobals mg)
  (hb:jt x st ps) (F:∀ (f:Addr) (fd:FuncData),Fun K x x st f fd->FnOk P w K mg base CX0 k f fd ps (aeF K n g)):ai5 P w K mg base x ps k n g:=by
 obtain ⟨f,oc,od,an,kV,doc,pm,Kc,ct,osl,a,l,c,kp⟩:=T
 have F1:=ac3 (st:=st) l c kp
 exact ⟨f,_,F f _ F1,PySem.W.mg_of X G a,kp,F1.binds hb⟩
end
section
variable {X:Cx}{e a b tg src:Expr}{es:List Expr}{Tr:TR (LP)}{S:TRS}{body:List Stmt}{pos:Pos}
theorem anZ (h:PAC X es Tr):PEC X (.List es pos) (bindC Tr fun ds=>ahY (if few ds=true then some (.list ds) else none)):=by
 with_unfolding_all
  exact PE.imp (afe h) fun σ H Q h=>(AtC.bind h).imp fun ds H1 _ ⟨s1,h3⟩ vs rv=>by
   obtain ⟨d,hd,k⟩:=h3.ret
   by_cases hf:few ds=true
   ·rw [if_pos hf] at hd; cases hd
    refine ⟨by rw [rv.length]; exact aau (by simpa [few] using hf),fun p hp=>?_⟩
    exact k _ (jw hp) (.ref p) ⟨p,vs,rfl,jn,Reps.mono (jw hp) _ _ rv⟩
   ·rw [if_neg hf] at hd; cases hd
end
section
variable {X:Cx}{e a b c tg src:Expr}{es:List Expr}{Ta Tb:TR PyData}{Tr:TR (LP)}{S:TRS}{body:List Stmt}{pos:Pos}{x:Str}
noncomputable def aoZ (a:Addr) (d kd:PyData):TRS:=fun ρ μ R=>∃ ds n j,μ a=some (.lst ds)/\kd= .int n/\ixN ds.length n=some j/\R (.nx ρ) (acu μ a (.lst (ds.set j d)))
noncomputable def ao0 (i:Nat) (Tb:TR PyData) (d:PyData):TRS:=fun ρ μ R=>∃ a,lkp i ρ=some (zz a)/\Zh Tb (aoZ a d) ρ μ R
theorem adt (i:Nat) {p1 p2:Pos} (hk:PEC X b Tb) (he:PEC X e Ta) (hN:X.N[i]?=some x:=by rfl) (hv:Vis X.env.scope x:=by first | exact Or.inl rfl | exact Or.inr (Or.inl rfl) | exact Or.inr (Or.inr rfl))
  (hd:(x == ("__debug__":Str))=false:=by decide) (hcd:(x == ("__classdict__":Str))=false:=by decide)
  (ha:∀ v,assign (.Subscript (.Name x p1) b p2) X.env v=(do
   let ov ←holding [v] (eval (.Name x p1) X.env)
   let iv ←holding [v,ov] (eval b X.env)
   standAt p2
   holding [v,ov,iv] (setItem ov iv v)
   release [v,ov,iv] []):=by intro _; rfl)
  (hs:swapsWithSole [.Subscript (.Name x p1) b p2] e pos.line X.env=pure false:=by rfl) (hw:swappedStores [.Subscript (.Name x p1) b p2] e X.env=pure none:=by rfl)
  (h1:(assignEach [.Subscript (.Name x p1) b p2] X.env).map (·.2)=[assign (.Subscript (.Name x p1) b p2) X.env]:=by rfl):PSC X (.Assign [.Subscript (.Name x p1) b p2] e pos) (Zh Ta (ao0 i Tb)):=by
 with_unfolding_all
  refine PS.imp (akX he (akW (Zm hN hv hd hcd) hk agr ha) hs hw h1) fun D σ H h=>(AtS.bind h).imp fun d H1 _ ⟨s1,ρ,μ,R,en,cs,⟨l,hl,t⟩,k⟩ v rv=>?_
  obtain ⟨y,g1,g2⟩:=en.at' i _ (qB hl)
  cases Rep.celOut g2
  refine ⟨.ref l,g1,(AtS.bind (show AtS X σ H1 (Zh Tb (aoZ l d)) D from ⟨ρ,μ,R,en,cs,t,k⟩)).imp fun kd H2 _ ⟨s2,ρ2,μ2,R2,en2,cs2,⟨ds,n,j,hm,hkd,hj,hR⟩,k2⟩ kv rk=>?_⟩
  subst hkd
  cases (show kv=V.int n from rk)
  obtain ⟨xs,e2,e3⟩:=cs2 l _ hm
  have sA:jG H2 (upd H2 l (qu l (xs.set j v))):=jG.upd e2 rfl
  exact ⟨l,xs,n,j,rfl,rfl,e2,by rw [e3.length]; exact hj,(k2 (.nx ρ2) _ hR:JA X H2 D (.nx ρ2) _) σ _ sA (en2.monoA sA) (cs2.upd sA ⟨_,jn,Reps.set (Rep.monoA (s2.trans sA) _ _ rv) j (Reps.monoA sA _ _ e3)⟩)⟩
noncomputable def tCI (X:Cx) (T:TR (LP)):TI:=fun σ H R=>AtC X σ H T fun ds H1=>∀ J,ahF X.K J ds H1->R J H1
@[irreducible] noncomputable def PIC (X:Cx) (tg src:Expr) (T:TR (LP)):Prop:=PI X tg src (tCI X T)
theorem amd {ds d:LP} (h:Jp ds=some d):∃ j:Int,ds=[.int j]/\-(2 ^ 62)<=j/\j<2 ^ 62/\d=qP 0 j.toNat:=by
 unfold Jp at h
 split at h
 ·split at h
  ·rename_i hj
   cases h
   exact ⟨_,rfl,hj.1,hj.2,rfl⟩
  ·cases h
 ·cases h
theorem ah3 {p:Pos} (hg:Gl X "range") (hm:X.mg "range"=none) (ha:PAC X [a] Tr) (hs:starEach [a] X.env=[(false,eval a X.env)]:=by rfl):PIC X tg (.Call (.Name "range" p) [a] [] pos) (bindC Tr fun ds=>ahY (Jp ds)):=by
 with_unfolding_all
  refine PI.imp (ZP hg hm ha hs) fun σ H R h=>(AtC.bind h).imp fun ds H1 _ ⟨s1,h1⟩ vs rv=>?_
  obtain ⟨d,q',k⟩:=h1.ret
  obtain ⟨j,e0,h2,h3,e4⟩:=amd q'
  subst e0; subst e4
  obtain ⟨x,r,e1,e2,e3⟩:=rv
  cases (show x=V.int j from e2)
  cases (show r=[] from e3)
  exact ⟨j,e1,h2,h3,k H1 (jq.refl _) _ (aaR 0 j.toNat)⟩
noncomputable def arB (T:TR (LP)) (ga:PyData->Rho->Option Rho) (S:TRS):TRS:=Zh T fun ds=>aeE ga S ds
theorem ame {ga:PyData->Rho->Option Rho} (hp:PassesOwn (model X.prog X.w) X.A X.env X.xe) (hc:X.calm=true) (hi:PIC X tg src Tr) (hg:PGD X tg ga) (hb:ad6 X body S)
  (hs:∀ x,foldedSetIterable src X.env x=pure x:=by intro _; rfl):PSC X (.For tg src body [] pos) (arB Tr ga S):=by
 with_unfolding_all
  refine PS.imp (acZ hp hc hi hg hb hs) fun D σ H h=>(AtS.bind h).imp fun ds H1 _ ⟨s1,ρ,μ,R,en,cs,q',k⟩ J Y=>?_
  refine ⟨fun i m σ2 H2=>m=ds.length - i/\i<=ds.length/\∃ ρ2 μ2,jG H1 H2/\EnvR X.K H2 ρ2 σ2/\qH X.K H2 μ2/\aeE ga S (ds.drop i) ρ2 μ2 R,⟨ds.length,by simp,Nat.zero_le _,ρ,μ,jG.refl _,en,cs,by simpa using q'⟩,?_⟩
  rintro i m σ2 H2 ⟨rfl,hi,ρ2,μ2,sA,en2,cs2,q2⟩
  obtain ⟨g1,g2,g3⟩:=Y i H2 sA
  by_cases hlt:i<ds.length
  ·right
   rw [List.drop_eq_getElem_cons hlt] at q2
   obtain ⟨ρ4,h4,q3⟩:=q2
   refine ⟨g1 hlt,fun σ3 H3=>∃ ρ3 μ3,jG H1 H3/\EnvR X.K H3 ρ3 σ3/\qH X.K H3 μ3/\aeE ga S (ds.drop (i+1)) ρ3 μ3 R,fun σ3 H3 z=>⟨ds.length - (i+1),by omega,rfl,hlt,z⟩,fun x H3 y=>?_⟩
   obtain ⟨s3,r3⟩:=g3 x H3 y
   have r3':=r3 ds[i] (by simp [hlt])
   refine ⟨ρ2,ds[i],ρ4,en2.mono s3,r3',h4,fun σ5 H5 s5 en5=>?_⟩
   have s15:jG H1 H5:=(sA.trans (jq.a s3)).trans (jq.a s5)
   refine ⟨ρ4,μ2,_,en5,(cs2.mono s3).mono s5,q3,fun o μ' r=>?_⟩
   cases o with
   | nx ρ6=>exact fun σ6 H6 s6 e6 c6=>⟨ρ6,μ',s15.trans s6,e6,c6,r⟩
   | ct ρ6=>exact fun σ6 H6 s6 e6 c6=>⟨ρ6,μ',s15.trans s6,e6,c6,r⟩
   | bk ρ6=>exact fun σ6 H6 s6 e6 c6=>(k (.nx ρ6) μ' r:JA X H1 D (.nx ρ6) μ') σ6 H6 (s15.trans s6) e6 c6
   | rt d=>exact fun v H6 s6 e6 c6=>(k (.rt d) μ' r:JA X H1 D (.rt d) μ') v H6 (s15.trans s6) e6 c6
   | er c=>exact fun ev s' t=>(k (.er c) μ' r:JA X H1 D (.er c) μ') ev s' (t.mono s15)
  ·left
   have hn:ds.drop i=[]:=List.drop_of_length_le (by omega)
   rw [hn] at q2
   exact ⟨g2 (by omega),(k (.nx ρ2) μ2 q2:JA X H1 D (.nx ρ2) μ2) σ2 H2 sA en2 cs2⟩
end
noncomputable def asX (K:Fg) (x f:Str):Prop:=∃ C,PySem.W.nsIn K mainGlobals x=some (some (.ref C))/\PySem.W.findIn K (.ref C) f=some none
theorem amf {K:Fg}{fi:Rho->Option (LP)}{cap:List (Option Nat)}{ga:PyData->Rho->Option Rho}{ft:Rho->Option Bool}{fe:RP}{σ:St}{H:Hp}{Q:VK} (h:∃ ρ ys,EnvR K H ρ σ/\ql fi cap ga ft fe ρ=some (.list ys)/\∀ a us H1,H1 a=none->jq H H1->Reps K H1 ys us->Q (.ref a) (upd H1 a (.lst us))):
  aiM (tDI K fi) cap (tDG K ga) (tDT K ft) (tD K fe) σ H Q:=by
 obtain ⟨ρ,y0,en,q,k⟩:=h
 cases h1:fi ρ with
 | none=>simp [ql,h1] at q
 | some ds=>
  by_cases hf:few ds=true
  ·cases h2:jX ga ft fe ds (Qi cap ρ) with
   | none=>simp [ql,h1,hf,h2] at q
   | some ys=>
    have:ys=y0:=by simpa [ql,h1,hf,h2] using q
    subst this
    refine ⟨ρ,ds,en,h1,fun J H1 s1 Y=>?_⟩
    refine ⟨fun i m τ us H2=>m=ds.length - i/\i<=ds.length/\jq H1 H2/\us.length<=i/\∃ ρ2 zs ws,EnvR K H2 ρ2 τ/\Reps K H2 zs us/\jX ga ft fe (ds.drop i) ρ2=some ws/\ys=zs++ws,
     ⟨ds.length,by simp,Nat.zero_le _,jq.refl _,Nat.le_refl _,Qi cap ρ,[],ys,(en.mono s1).cap cap,rfl,by simpa using h2,rfl⟩,?_⟩
    rintro i m τ us H2 ⟨rfl,hi',s2,hu,ρ2,zs,ws,en2,r2,q2,ey⟩
    have hsm:us.length<sizeLine:=Nat.lt_of_le_of_lt (Nat.le_trans hu hi') (Nat.lt_of_lt_of_le (by simpa [few] using hf) (by rw [sizeLine_eq]; decide:1000000<=sizeLine))
    obtain ⟨g1,g2,g3⟩:=Y i H2 (jq.a s2)
    refine ⟨hsm,?_⟩
    by_cases hlt:i<ds.length
    ·right
     have hd:ds.drop i=ds[i]::ds.drop (i+1):=List.drop_eq_getElem_cons hlt
     rw [hd] at q2
     refine ⟨g1 hlt,fun x H3 y=>?_⟩
     obtain ⟨s3,r3⟩:=g3 x H3 y
     have r3':=r3 ds[i] (by simp [hlt])
     cases h4:ga ds[i] ρ2 with
     | none=>simp [jX,h4] at q2
     | some ρ4=>
      refine ⟨ρ2,ds[i],ρ4,en2.mono s3,r3',h4,fun σ5 H5 s5 en5=>?_⟩
      cases h5:ft ρ4 with
      | none=>simp [jX,h4,h5] at q2
      | some b=>
       refine ⟨ρ4,b,en5,h5,fun H6 s6=>?_⟩
       have s26:=s3.trans (s5.trans s6)
       cases b with
       | false=>
        refine apD ?_
        exact ⟨ds.length - (i+1),by omega,rfl,hlt,s2.trans s26,by omega,ρ4,zs,ws,en5.mono s6,Reps.mono s26 _ _ r2,by simpa [jX,h4,h5] using q2,ey⟩
       | true=>
        refine apE ?_
        cases h6:fe ρ4 with
        | none=>simp [jX,h4,h5,h6] at q2
        | some y=>
         cases h7:jX ga ft fe (ds.drop (i+1)) ρ4 with
         | none=>simp [jX,h4,h5,h6,h7] at q2
         | some ws'=>
          have hw:y::ws'=ws:=by simpa [jX,h4,h5,h6,h7] using q2
          refine ⟨ρ4,y,en5.mono s6,h6,fun v H7 s7 r7=>?_⟩
          refine ⟨ds.length - (i+1),by omega,rfl,hlt,s2.trans (s26.trans s7),by rw [List.length_append]; simp; omega,ρ4,zs++[y],ws',(en5.mono s6).mono s7,(Reps.mono (s26.trans s7) _ _ r2).append ⟨v,[],rfl,r7,rfl⟩,h7,?_⟩
          rw [ey,←hw]; simp
    ·left
     have he:i=ds.length:=by omega
     have hn:ds.drop i=[]:=by rw [he]; simp
     rw [hn] at q2
     have hw:[]=ws:=by simpa [jX] using q2
     subst hw
     have ey':ys=zs:=by simpa using ey
     subst ey'
     exact ⟨g2 (by omega),fun l hl=>k l us _ hl (s1.trans s2) r2⟩
  ·simp [ql,h1,hf] at q
section
variable {X:Cx}{tg src:Expr}{pos pos':Pos}
theorem amg (i:Nat) {x:Str}{el:Expr}{ts:List Expr}{sc:Scope}{ps:Pos}{fi:Rho->Option (LP)}{ga:PyData->Rho->Option Rho}{ft:Rho->Option Bool}{fe:RP} (N':List Str) (cap:List (Option Nat)) (hc:X.calm=true) (hN:X.N.Nodup) (hi:PID X tg src fi) (ok:CompOk X sc N' cap)
  (body:∀ cl C s0 H0 fp pn,PGD (blk X N' sc cl C s0 H0 fp pn) tg ga/\ald (blk X N' sc cl C s0 H0 fp pn) ts ft/\PD (blk X N' sc cl C s0 H0 fp pn) el fe)
  (hi0:X.N[i]?=some x:=by rfl) (hx:Loc X.env.scope x:=by first | exact Or.inl rfl | exact Or.inr rfl) (hsw:swapsWith (.ListComp el [⟨tg,src,ts,0⟩] sc ps) (some (.Name x pos')) pos.line X.env=pure true:=by rfl)
  (hf:X.fn x=true ∨ X.env.scope.names.lookup x=some .local:=by first | exact .inl rfl | exact .inr rfl | assumption)
  (hs:∀ x,foldedSetIterable src X.env x=pure x:=by intro _; rfl):PSC X (.Assign [.Name x pos'] (.ListComp el [⟨tg,src,ts,0⟩] sc ps) pos) (Zh (arz (ql fi cap ga ft fe)) (anV i)):=by
 with_unfolding_all
  intro Kp s σ H D I ⟨ρ,μ,R,en,cs,⟨ys,hy,hR⟩,kk⟩
  have W:=aiX (pos0:=pos') (pos1:=pos) (ps:=ps) (g:=tDG X.K ga) (tt:=tDT X.K ft) (te:=tD X.K fe) hc hi ok (fun cl C s0 H0 fp pn=>body cl C s0 H0 fp pn) hN hi0 hx hsw hf hs
  refine thn (W Kp s σ H ⟨fun σ' H2=>∃ a xs H1,σ'=σ.set i (some (.ref a))/\H1 a=none/\jq H H1/\H2=upd H1 a (.lst xs)/\Reps X.K H1 ys xs,fun _ _=>False,fun _ _=>False,fun _ _=>False⟩ I (amf ⟨ρ,ys,en,hy,fun a us H1 e1 s1 r1=>⟨a,us,H1,rfl,e1,s1,rfl,r1⟩⟩)) fun o s1 q=>?_
  cases o with
  | next=>
   obtain ⟨σ',H2,I2,a,xs,H1,e1,e2,s1',e3,r1⟩:=q
   subst e1
   have e4:H2 a=some (.lst xs):=by rw [e3]; exact jn
   have e5:upd H2 a (qu a xs)=upd H1 a (qu a xs):=by rw [e3,ZN]
   have s2:jq H1 (upd H2 a (qu a xs)):=by rw [e5]; exact jw e2
   have s3:=s1'.trans s2
   have k1:=(kk (.nx (ρ.set i (some (zz a)))) _ (hR a (cs.free (s1'.free e2))):JA X H D (.nx (ρ.set i (some (zz a)))) _)
   exact ⟨_,_,Inv.closed I2 (.l xs) e4 (fun ob u z=>by have:=I.base.frzs _ _ _ z; rw [s1'.free e2] at this; cases this),k1 _ _ (jq.a s3) ((en.mono s3).set (Rep.cel a)) (cs.put (jq.a s3) (fun b _ o q=>s3 b o q) ⟨xs,jn,Reps.mono s2 _ _ r1⟩)⟩
  | brk=>obtain ⟨_,_,_,z⟩:=q; exact z.elim
  | cont=>obtain ⟨_,_,_,z⟩:=q; exact z.elim
  | ret u=>obtain ⟨_,_,_,_,_,z⟩:=q; exact z.elim
end
section
variable {X:Cx}
theorem akd:Jn X (.type "range") (fun xs H Q=>∃ j:Int,xs=[.int j]/\∀ l,H l=none->Q (.ref l) (upd H l (.rng 0 j))):=by
 intro Kp s σ H xs us Q I r h
 obtain ⟨j,rfl,q⟩:=h
 obtain ⟨u,rfl,rx⟩:=Zn r
 obtain ⟨t,rfl⟩:=rx
 refine call_range_1 ⟨.ref s.heap.objs.size,_,I.laid (t':=s.toks+1+1) (fun b o e=>Heap.get?_push_of_some _ e) (Nat.le_refl _) (show qV X.prog X.w _ _ _ (.rng 0 j) from ⟨_,_,_,Heap.get?_push_size _ rfl⟩),rfl,q _ (I.hok.fresh (Nat.le_refl _))⟩
theorem agG:∀ (n:Nat) (lo:Int) (its:List Value),its.length=n->(∀ (j:Nat) (v:Value),its[j]?=some v->∃ t,v=Value.int (lo+(j:Int)) t)->jQ ((List.range n).map fun (k:Nat)=>L2.V.int (lo+(k:Int))) its
 | 0,lo,its,hl,_=>by
  cases its with
  | nil=>exact .nil
  | cons _ _=>simp at hl
 | n+1,lo,its,hl,h=>by
  cases its with
  | nil=>simp at hl
  | cons a r=>
   rw [List.range_succ_eq_map,List.map_cons,List.map_map]
   obtain ⟨t,ht⟩:=h 0 a rfl
   have hr:=agG n (lo+1) r (by simpa using hl) fun j v e=>by
    obtain ⟨t,q⟩:=h (j+1) v (by simpa using e)
    exact ⟨t,by rw [q]; congr 1; omega⟩
   have e1:(fun (k:Nat)=>L2.V.int (lo+1+(k:Int)))=((fun (k:Nat)=>L2.V.int (lo+(k:Int))) ∘ Nat.succ):=by
    funext k
    show L2.V.int _=L2.V.int _
    congr 1
    show lo+1+(k:Int)=lo+((k+1:Nat):Int)
    omega
   rw [e1] at hr
   exact .cons ⟨t,ht⟩ hr
theorem amh (hc:X.calm=true):Jn X (.type "list") (fun xs H Q=>∃ (p:Addr) (j:Int),xs=[.ref p]/\H p=some (.rng 0 j)/\(-1000<j/\j<1000)/\∀ l,H l=none->Q (.ref l) (upd H l (.lst ((List.range j.toNat).map fun (k:Nat)=>L2.V.int (0+(k:Int)))))):=by
 intro Kp s σ H xs us Q I r h
 obtain ⟨p,j,rfl,hp,hj,q⟩:=h
 obtain ⟨u,rfl,rx⟩:=Zn r
 cases rx
 obtain ⟨t,u,v,ho⟩:=(I.hok p _ hp:qV X.prog X.w H s.heap p (.rng 0 j))
 have hr:IsRange s.heap p 0 j 1 t u v:=ho
 refine call_list_range (n:=j.toNat) (I.ok.hd hc) hr ?_ ?_ ?_ fun h' tk acc' c' hk hS hacc=>?_
 ·exact small_one (by omega) (by omega) (by omega) (by omega)
 ·rw [rangeSize_one]; split <;> omega
 ·omega
 ·have hv:=agG j.toNat 0 acc'.toList (by simpa using hacc.1) fun i v e=>by
   obtain ⟨t,q⟩:=hacc.2 i v (by simpa using e)
   exact ⟨t,by rw [q]; congr 1; omega⟩
  refine ⟨.ref s.heap.objs.size,_,I.laid (t':=tk) hk (Nat.le_refl _) (show qV X.prog X.w _ h' _ (.lst _) from ⟨?_,acc'.toList,c',hv,by simpa using hS⟩),rfl,q _ (I.hok.fresh (Nat.le_refl _))⟩
  rw [List.length_map,List.length_range,sizeLine_eq]; omega
end
noncomputable def lrD (fr:Rho->Option (LP)):RP:=fun ρ=>(fr ρ).bind fun ds=>match ds with
 | [.int j]=>if -1000<j/\j<1000 then some (.list (qP 0 j.toNat)) else none
 | _=>none
theorem agH {K:Fg}{H:Hp}:∀ (l:List Nat),Reps K H (l.map fun (k:Nat)=>PyData.int (0+(k:Int))) (l.map fun (k:Nat)=>L2.V.int (0+(k:Int)))
 | []=>rfl
 | a::l=>⟨_,_,rfl,rfl,agH l⟩
theorem ami {X:Cx}{a:Expr}{p p2 pos pos2:Pos}{fr:Rho->Option (LP)} (hc:X.calm=true) (hm:X.mg "list"=none) (hm2:X.mg "range"=none) (ha:PAD X [a] fr) (hg:Gl X "list":=by rfl) (hg2:Gl X "range":=by rfl)
  (he:starEach [a] X.env=(false,eval a X.env)::starEach [] X.env:=by rfl) (hpl:(backTo pos2 (starEach [] X.env)).any (·.1)=false:=by rfl)
  (he2:starEach [.Call (.Name "range" p2) [a] [] pos2] X.env=(false,eval (.Call (.Name "range" p2) [a] [] pos2) X.env)::starEach [] X.env:=by rfl) (hpl2:(backTo pos (starEach [] X.env)).any (·.1)=false:=by rfl):
  PD X (.Call (.Name "list" p) [.Call (.Name "range" p2) [a] [] pos2] [] pos) (lrD fr):=by
 with_unfolding_all
  have W1:=ZQ (X:=X) (pos:=pos2) (p:=p2) akd hg2 hm2 (show bootBuiltins "range"=some (.type "range") from boot_range) ha (by decide) (by decide) he hpl
  have W2:=ZQ (X:=X) (pos:=pos) (p:=p) (amh hc) hg hm (show bootBuiltins "list"=some (.type "list") by decide +kernel) (qt W1 zn he2) (by decide) (by decide) he2 hpl2
  refine PE.imp W2 fun σ H Q ⟨ρ,d,en,hf,k⟩=>?_
  cases h1:fr ρ with
  | none=>simp [lrD,h1] at hf
  | some ds=>
   simp only [lrD,h1,zzD] at hf
   split at hf
   ·rename_i j
    split at hf
    ·cases hf
     rename_i hj
     refine ⟨ρ,_,en,h1,fun vs H1 s1 r1=>?_⟩
     obtain ⟨x,q,z1,z2,z3⟩:=r1
     cases (show q=[] from z3)
     obtain rfl:x=L2.V.int j:=z2
     refine ⟨j,z1,fun l hl=>?_⟩
     refine ⟨l,j,rfl,jn,hj,fun m hm=>?_⟩
     exact k _ _ (s1.trans ((jw hl).trans (jw hm))) ⟨m,_,rfl,jn,agH _⟩
    ·cases hf
   ·cases hf
end BX
end
local macro_rules
  | `(tactic| dsimp? [$xs,*])=>`(tactic| simp only [BX.jM,BX.ifS,BX.ifD,BX.ifX,BX.asn,BX.orB,BX.zo,BX.tst,BX.op2,BX.chn,BX.jy,BX.Qh,BX.zA,BX.jk,BX.jr,BX.lkp,BX.cst,BX.qq,BX.aaQ,BX.qO,BX.jH,BX.qy,BX.nxX,BX.orX,BX.ajW,BX.ajI,BX.asB,zzA,zzB,zzC,zzD,zzH,zzE,zzI,zzF,zzG,zzJ,zzK,zzL,zzM,zzN,$(⟨xs.elemsAndSeps⟩),*])
section
namespace Rods
open PySem L2 BX
open PyProof.Rows hiding St
noncomputable def top (i:Nat):Stmt:=PySem.Challenge.pw_beadrods_k32_taking.main.body.getD i (.Pass ⟨0,0,0,0⟩)
structure Bare (mg:SV):Prop where
 isi:mg "isinstance"=none
 bool:mg "bool"=none
 int:mg "int"=none
 tuple:mg "tuple"=none
 zip:mg "zip"=none
 range:mg "range"=none
 all:mg "all"=none
 len:mg "len"=none
 max:mg "max"=none
 min:mg "min"=none
 sum:mg "sum"=none
 sorted:mg "sorted"=none
 abs:mg "abs"=none
 list:mg "list"=none
 enum:mg "enumerate"=none
 vale:mg "ValueError"=none
 str:mg "str"=none
 set:mg "set"=none
 dict:mg "dict"=none
theorem an0:bootBuiltins "bool"=some (.type "bool"):=by decide +kernel
theorem amj:bootBuiltins "int"=some (.type "int"):=by decide +kernel
theorem JO:bootBuiltins "tuple"=some (.type "tuple"):=by decide +kernel
theorem acC:bootBuiltins "list"=some (.type "list"):=by decide +kernel
theorem ah4:bootBuiltins "all"=some (.builtin "all"):=by decide +kernel
theorem zN:bootBuiltins "len"=some (.builtin "len"):=by decide +kernel
theorem alr:bootBuiltins "max"=some (.builtin "max"):=by decide +kernel
theorem afr:bootBuiltins "min"=some (.builtin "min"):=by decide +kernel
theorem ap6:bootBuiltins "sum"=some (.builtin "sum"):=by decide +kernel
theorem ake:bootBuiltins "sorted"=some (.builtin "sorted"):=by decide +kernel
noncomputable abbrev aa8:Stmt:=top 9
noncomputable abbrev ZW:Stmt:=top 18
noncomputable abbrev aa9:Stmt:=top 17
noncomputable abbrev afB:Stmt:=top 20
noncomputable abbrev zd (C:Program->World->Fg->(SV)->Heap->Prop) (qual:Str) (st:Stmt) (N:List Str) (k:Nat) (B:RO):Prop:=
 ∀ (P:Program) (w:World) (K:Fg) (mg:SV) (base:Heap) (f:Addr) (Kc:Value) (A:Around) (Ko:List Env) (s:Shared) (H:Hp) (E:XK),C P w K mg base->Room k (A.deeper (envOfC qual (jf st) s.heap.objs.size f Kc))->
  aao (zT CX0 P w K mg base N qual (jf st) f Kc A Ko s H E).nox (jJ st) B
theorem ah5:FnScope ["thing","least","most"] ["thing","least","most"] (jf aa8):=⟨rfl,rfl,rfl,by decide +kernel,rfl,by decide +kernel,by decide +kernel⟩
noncomputable def aba:{ B:RO // zd (fun _ _ _ mg _=>Bare mg) "is_whole" aa8 ["thing","least","most"] 0 B }:=
 ⟨_,fun P w K mg base f Kc A Ko s H E T hr=>
  je (qg (Qs (abI (qh (ac9 (.inl rfl) T.isi T.bool an0 (jb 0))) (ZS (qm (qh (ac9 (.inr (.inl rfl)) T.isi T.int amj (jb 0))))))) (je (jA J9) jl) jl)
  (je (jA (ale ac7 ac7 (jb 1) (jb 0) (jb 2))) jl)⟩
noncomputable def jU:LP->OP:=jv ["thing","least","most"] 3 aba.1
theorem agI:FnScope ["manner","rod"] ["manner","rod"] (jf ZW):=⟨rfl,rfl,rfl,by decide +kernel,rfl,by decide +kernel,by decide +kernel⟩
noncomputable def abM:{ B:RO // zd (fun _ _ _ _ _=>True) "rod_worth" ZW ["manner","rod"] 0 B }:=
 ⟨_,fun P w K mg base f Kc A Ko s H E T hr=>
  je (jA (jo jB (jo qo (jI (jb 1) jg) (jI (jb 0) jg)) (jI (jb 1) jg))) jl⟩
noncomputable def qw:LP->OP:=jv ["manner","rod"] 2 abM.1
theorem amk:FnScope ["rod"] ["rod"] (jf afB):=⟨rfl,rfl,rfl,by decide +kernel,rfl,by decide +kernel,by decide +kernel⟩
noncomputable def ah6:{ B:RO // zd (fun _ _ _ _ _=>True) "beads" afB ["rod"] 0 B }:=
 ⟨_,fun P w K mg base f Kc A Ko s H E T hr=>je (jA (jo jB (jI (jb 0) jg) (jI (jb 0) jg))) jl⟩
noncomputable def qY:LP->OP:=jv ["rod"] 1 ah6.1
noncomputable def zi (i:Nat) (m:Nat):LP:=(List.range m).map fun (j:Nat)=>PyData.tuple [.int (i:Int),.int (j:Int)]
noncomputable def zH (n m:Nat):LP:=(List.range n).flatMap fun (i:Nat)=>zi i m
theorem agJ (i m:Nat):zi i (m+1)=zi i m++[PyData.tuple [.int (i:Int),.int (m:Int)]]:=by simp [zi,List.range_succ]
theorem Q4 (n m:Nat):zH (n+1) m=zH n m++zi n m:=by simp [zH,List.range_succ]
theorem agK (i m:Nat):noLs (zi i m)=true:=Zu fun d hd=>by
 obtain ⟨j,_,rfl⟩:=List.mem_map.mp hd
 simp [noL,noLs]
theorem akf (n m:Nat):noLs (zH n m)=true:=by
 induction n with
 | zero=>simp [zH,noLs]
 | succ n ih=>rw [Q4,Zt,ih,agK]; rfl
theorem afC (i m:Nat):(zi i m).length=m:=by simp [zi]
theorem abb (n m:Nat):(zH n m).length=n*m:=by
 induction n with
 | zero=>simp [zH]
 | succ n ih=>rw [Q4,List.length_append,ih,afC,Nat.succ_mul]
noncomputable def JP (ds:LP):OP:=match ds with
 | [.tuple [.int u,.int _,.int l,.int _]]=>if 0<=u/\u<1000/\0<=l/\l<1000 then some (.list (zH (u+1).toNat (l+1).toNat)) else none
 | _=>none
theorem Q5:FnScope ["manner","rods","upper","lower"] ["manner"] (jf aa9):=⟨rfl,rfl,rfl,by decide +kernel,rfl,by decide +kernel,by decide +kernel⟩
section
variable {P:Program}{w:World}{K:Fg}{mg:SV}{base:Heap}
theorem ah7 {f:Addr}{fd:FuncData} (F:Fun K "all_rods" "all_rods" aa9 f fd) (T:Bare mg):FnOk P w K mg base CX0 1 f fd ["manner"] (Pur K 1 JP):=by
 with_unfolding_all
  refine F.ok Q5 (fun vs H Q E h=>?_) (fun Kc A Ko s H vs Q E hr h=>?_)
  ·obtain ⟨ds,d,h1,h2,_⟩:=h
   rw [h2.length]; exact h1
  ·obtain ⟨ds,d,h1,h2,h3,k⟩:=h
   unfold JP at h3
   split at h3
   ·rename_i u e l b
    split at h3
    ·rename_i hb
     obtain ⟨hu0,hu1,hl0,hl1⟩:=hb
     cases h3
     refine ⟨_,Qp (acY (i:=1) Q5.nd rfl (Or.inl rfl) (afe zn))
      (Qp (acZ PassesOwn.never rfl (ZP rfl T.range (ja (jo jB (jI (jb 0) jg) jg) jd)) (aaN (i:=2) Q5.nd rfl (Or.inl rfl))
       (afa (acZ PassesOwn.never rfl (ZP rfl T.range (ja (jo jB (jI (jb 0) jg) jg) jd)) (aaN (i:=3) Q5.nd rfl (Or.inl rfl))
        (afa (afb (aei PySem.F.plainAttrs_list PySem.F.slot_list_append PySem.F.type_list_append aek (pv 1) (qt (ahB (qt (pv 2) (qt (pv 3) zn))) zn)))))))
      (afa (afc (pv 1)))),?_⟩
     obtain ⟨mv,rr,e1,em,e2⟩:=h2
     cases (show rr=[] from e2)
     subst e1
     have nm:noL (PyData.tuple [.int u,.int e,.int l,.int b])=true:=by simp [noL,noLs]
     refine ⟨Nat.zero_le _,fun p hp=>?_⟩
     have envr:∀ {H2:Hp} {x2 x3:Option V} {y:Option V},jq H H2->EnvR K H2 [some (PyData.tuple [.int u,.int e,.int l,.int b]),none,none,none] [some mv,y,x2,x3]:=fun {H2 x2 x3 y} s2=>
      ⟨rfl,fun i d q=>by
       cases i with
       | zero=>cases q; exact ⟨mv,rfl,Rep.mono s2 _ _ em⟩
       | succ i=>
        match i,q with
        | 0,q=>cases q
        | 1,q=>cases q
        | 2,q=>cases q
        | j+3,q=>simp at q⟩
     refine ⟨_,[.int (u+1)],envr (jw hp),by simp [jk,jr,op2,lkp,dIx,atI,ixN,cst,zh],fun vs1 H1 s1 r1=>?_⟩
     obtain ⟨y1,q1,f1,f2,f3⟩:=r1
     cases (show y1=V.int (u+1) from f2)
     cases (show q1=[] from f3)
     subst f1
     refine ⟨u+1,rfl,by omega,by omega,aed (n:=(u+1).toNat) (fun i σ H2=>∃ x2 x3 xs,σ=[some mv,some (.ref p),x2,x3]/\jq H H2/\H2 p=some (.lst xs)/\Reps K H2 (zH i (l+1).toNat) xs)
      ⟨none,none,[],rfl,(jw hp).trans s1,s1 _ _ jn,rfl⟩ ?_ ?_⟩
     ·rintro i σ H2 hi ⟨x2,x3,xs,rfl,s2,hp2,r2⟩
      refine ⟨_,[.int (l+1)],envr s2,by simp [jk,jr,op2,lkp,dIx,atI,ixN,cst,zh],fun vs2 H3 s3 r3=>?_⟩
      obtain ⟨y2,q2,g1,g2,g3⟩:=r3
      cases (show y2=V.int (l+1) from g2)
      cases (show q2=[] from g3)
      subst g1
      refine ⟨l+1,rfl,by omega,by omega,aed (n:=(l+1).toNat) (fun j σ H4=>∃ x3 ys,σ=[some mv,some (.ref p),some (.int (0+i)),x3]/\jq H H4/\H4 p=some (.lst ys)/\Reps K H4 (zH i (l+1).toNat++zi i j) ys)
       ⟨x3,xs,rfl,s2.trans s3,s3 _ _ hp2,by simpa [zi] using Reps.mono s3 _ _ r2⟩ ?_ ?_⟩
      ·rintro j σ H4 hj ⟨x3',ys,rfl,s4,hp4,r4⟩
       have hlen:ys.length<sizeLine:=by
        rw [r4.length,List.length_append,abb,afC,sizeLine_eq]
        have h1:i*(l+1).toNat<=1000*1001:=Nat.mul_le_mul (by omega) (by omega)
        omega
       refine ⟨_,rfl,.inl ⟨rfl,ys,SqL.of hp4⟩,_,rfl,_,rfl,by show 2<=sizeLine; rw [sizeLine_eq]; decide,fun q hq=>?_⟩
       have npq:p ≠ q:=qS hp4 hq
       refine ⟨p,ys,.ref q,rfl,rfl,by rw [jp npq]; exact hp4,hlen,?_⟩
       have t1:Jq H4 (upd (upd H4 q (.tup [.int (0+(i:Int)),.int (0+(j:Int))])) p (.lst (ys++[.ref q]))):=
        (jq.n (jw hq)).trans (Jq.upd (xs:=ys) (by rw [jp npq]; exact hp4))
       refine ⟨_,ys++[.ref q],rfl,fun c o hc=>?_,jn,?_⟩
       ·have hc4:=s4 c o hc
        rw [jp (qS hc hp),jp (qS hc4 hq)]
        exact hc4
       ·rw [agJ,←List.append_assoc]
        refine (Reps.monoN t1 _ _ (by rw [Zt,akf,agK]; rfl) r4).append ⟨.ref q,[],rfl,⟨q,_,rfl,SqT.of (by rw [jp (Ne.symm npq)]; exact jn),?_⟩,rfl⟩
        exact ⟨_,_,rfl,by show _=V.int _; rw [Int.zero_add],_,_,rfl,by show _=V.int _; rw [Int.zero_add],rfl⟩
      ·rintro σ H4 ⟨x3',ys,rfl,s4,hp4,r4⟩
       exact ⟨_,x3',ys,rfl,s4,hp4,by rw [Q4]; exact r4⟩
     ·rintro σ H2 ⟨x2,x3,xs,rfl,s2,hp2,r2⟩
      exact ⟨_,rfl,k _ _ s2 ⟨p,xs,rfl,hp2,r2⟩⟩
    ·cases h3
   ·cases h3
end
noncomputable abbrev ZX:Stmt:=top 14
noncomputable abbrev ZY:Stmt:=top 13
noncomputable abbrev CC:=Program->World->Fg->(SV)->Heap->Prop
structure CHasAll (P:Program) (w:World) (K:Fg) (mg:SV) (base:Heap):Prop where
 t:Bare mg
 allRods:jm P w K mg base "all_rods" ["manner"] 1 1 JP
 rodWorth:jm P w K mg base "rod_worth" ["manner","rod"] 1 2 qw
theorem aeG:FnScope ["manner","worths"] ["manner"] (jf ZX):=⟨rfl,rfl,rfl,by decide +kernel,rfl,by decide +kernel,by decide +kernel⟩
theorem nd2:(["rod","manner"]:List Str).Nodup:=by decide +kernel
theorem nd3:(["digit","worths"]:List Str).Nodup:=by decide +kernel
noncomputable def afD:{ B:RO // zd CHasAll "has_all_digits" ZX ["manner","worths"] 1 B }:=
 ⟨_,fun P w K mg base f Kc A Ko s H E C hr=>
  je (jx 1 aeG.nd (zv ["rod","manner"] [none,some 0] rfl (Qu (ji C.allRods hr (Nat.le_refl _) (ja (jb 0) jd) (jc jh))) (za (jf ZX) ["manner","worths"] (by decide +kernel))
   fun cl C' s0 H0 fp pn=>⟨jS 0 nd2,zg,ji C.rodWorth hr (Nat.le_refl _) (ja (jb 1) (ja (jb 0) jd)) (jc (jc jh))⟩))
  (je (jA (j2 (ahG rfl) C.t.all ah4 (ja (zv ["digit","worths"] [none,some 1] rfl (qD rfl C.t.range (ja (jI (jb 0) jg) jd)) (za (jf ZX) ["manner","worths"] (by decide +kernel))
   fun cl C' s0 H0 fp pn=>⟨jS 0 nd3,zg,ac5 (apI hr.units) (jb 0) (jb 1)⟩) jd))) jl)⟩
noncomputable abbrev adu:Stmt:=top 15
noncomputable abbrev QE:Stmt:=top 19
noncomputable abbrev acD:Stmt:=top 21
noncomputable def GC (K:Fg) (mg:SV) (x:Str) (d:PyData):Prop:=∃ v u,mg x=some u/\qe v u/\∀ H,Rep K H d v
theorem zb {X:Cx}{pos:Pos}{x:Str}{d:PyData} (c:GC X.K X.mg x d) (hg:Gl X x:=by rfl) (hd:(x == ("__debug__":Str))=false:=by decide):PD X (.Name x pos) (cst d):=by
 with_unfolding_all
  obtain ⟨v,u,h1,h2,h3⟩:=c
  exact ano hg h1 h2 h3 hd
noncomputable def abc:LP->OP:=jv ["manner","worths"] 1 afD.1
structure CIsManner (P:Program) (w:World) (K:Fg) (mg:SV) (base:Heap):Prop where
 t:Bare mg
 least:GC K mg "LEAST_PARTS" (.tuple [.int 0,.int 1,.int 0,.int 2])
 most:GC K mg "MOST_PARTS" (.tuple [.int 3,.int 16,.int 12,.int 16])
 isWhole:jm P w K mg base "is_whole" ["thing","least","most"] 1 3 jU
 hasAll:jm P w K mg base "has_all_digits" ["manner"] 2 1 abc
theorem Qc:FnScope ["thing","part","least","most"] ["thing"] (jf ZY):=⟨rfl,rfl,rfl,by decide +kernel,rfl,by decide +kernel,by decide +kernel⟩
noncomputable def abN:{ B:RO // zd CIsManner "is_manner" ZY ["thing","part","least","most"] 2 B }:=
 ⟨_,fun P w K mg base f Kc A Ko s H E C hr=>
  je (qg (Qs (abI (qm (qh (ac9 (.inr (.inr rfl)) C.t.isi C.t.tuple JO (jb 0)))) (ZS (jV (QU hr.units) (j2 zM C.t.len zN (ja (jb 0) jd)) (j2 zM C.t.len zN (ja (zb C.most) jd)))))) (je (jA J9) jl) jl)
  (je (QT PassesOwn.never rfl (alk C.t.zip (ja (jb 0) (ja (zb C.least) (ja (zb C.most) jd)))) (aiN (n:=3) rfl (Qt (jS 1 Qc.nd) (Qt (jS 2 Qc.nd) (Qt (jS 3 Qc.nd) agj))))
   (je (qg (qm (qh (ji C.isWhole hr (by decide) (ja (jb 1) (ja (jb 2) (ja (jb 3) jd))) (jc (jc (jc jh)))))) (je (jA J9) jl) jl) jl))
  (je (jA (ji C.hasAll hr (Nat.le_refl _) (ja (jb 0) jd) (jc jh))) jl))⟩
noncomputable def j6:LP->OP:=jv ["thing","part","least","most"] 1 abN.1
structure CCheck (P:Program) (w:World) (K:Fg) (mg:SV) (base:Heap):Prop where
 isManner:jm P w K mg base "is_manner" ["thing"] 3 1 j6
theorem agL:FnScope ["thing"] ["thing"] (jf adu):=⟨rfl,rfl,rfl,by decide +kernel,rfl,by decide +kernel,by decide +kernel⟩
noncomputable def afE:{ B:RO // zd CCheck "check_manner" adu ["thing"] 3 B }:=
 ⟨_,fun P w K mg base f Kc A Ko s H E C hr=>
  je (qg (qm (qh (ji C.isManner hr (Nat.le_refl _) (ja (jb 0) jd) (jc jh)))) zf jl) jl⟩
noncomputable def Jc:LP->OP:=jv ["thing"] 1 afE.1
structure CRodsWith (P:Program) (w:World) (K:Fg) (mg:SV) (base:Heap):Prop where
 allRods:jm P w K mg base "all_rods" ["manner"] 1 1 JP
 rodWorth:jm P w K mg base "rod_worth" ["manner","rod"] 1 2 qw
theorem agM:FnScope ["manner","worth"] ["manner","worth"] (jf QE):=⟨rfl,rfl,rfl,by decide +kernel,rfl,by decide +kernel,by decide +kernel⟩
theorem nd4:(["rod","manner","worth"]:List Str).Nodup:=by decide +kernel
noncomputable def abO:{ B:RO // zd CRodsWith "rods_with" QE ["manner","worth"] 1 B }:=
 ⟨_,fun P w K mg base f Kc A Ko s H E C hr=>
  je (jA (zv ["rod","manner","worth"] [none,some 0,some 1] rfl (Qu (ji C.allRods hr (Nat.le_refl _) (ja (jb 0) jd) (jc jh))) (za (jf QE) ["manner","worth"] (by decide +kernel))
   fun cl C' s0 H0 fp pn=>⟨jS 0 nd4,ac6 (jV (aaw hr.units) (ji C.rodWorth hr (Nat.le_refl _) (ja (jb 1) (ja (jb 0) jd)) (jc (jc jh))) (jb 2)),jb 0⟩)) jl⟩
noncomputable def ZZ:LP->OP:=jv ["manner","worth"] 2 abO.1
structure CFewest (P:Program) (w:World) (K:Fg) (mg:SV) (base:Heap):Prop where
 t:Bare mg
 rodsWith:jm P w K mg base "rods_with" ["manner","worth"] 2 2 ZZ
 beads:jm P w K mg base "beads" ["rod"] 1 1 qY
theorem akg:FnScope ["manner","worth"] ["manner","worth"] (jf acD):=⟨rfl,rfl,rfl,by decide +kernel,rfl,by decide +kernel,by decide +kernel⟩
noncomputable def acE:{ B:RO // zd CFewest "fewest_beads" acD ["manner","worth"] 2 B }:=
 ⟨_,fun P w K mg base f Kc A Ko s H E C hr=>
  je (jA (als rfl C.beads hr (Nat.le_refl _) C.t.min (ji C.rodsWith hr (by decide) (ja (jb 0) (ja (jb 1) jd)) (jc (jc jh))))) jl⟩
noncomputable def zO:LP->OP:=jv ["manner","worth"] 2 acE.1
noncomputable abbrev JQ:Stmt:=top 27
noncomputable abbrev zP:Stmt:=top 28
noncomputable abbrev Jt:Stmt:=top 29
noncomputable abbrev JI:Stmt:=top 30
noncomputable abbrev aeH (C:CC) (qual:Str) (st:Stmt) (N:List Str) (k:Nat) (sts:List Stmt) (B:RO):Prop:=
 ∀ (P:Program) (w:World) (K:Fg) (mg:SV) (base:Heap) (f:Addr) (Kc:Value) (A:Around) (Ko:List Env) (s:Shared) (H:Hp) (E:XK),C P w K mg base->Room k (A.deeper (envOfC qual (jf st) s.heap.objs.size f Kc))->
  aao (zT CX0 P w K mg base N qual (jf st) f Kc A Ko s H E).nox sts B
noncomputable abbrev adv (own:Nat) (C:CC) (qual:Str) (st:Stmt) (N:List Str) (k:Nat) (sts:List Stmt) (B:RO):Prop:=
 ∀ (P:Program) (w:World) (K:Fg) (mg:SV) (base:Heap) (f:Addr) (Kc:Value) (A:Around) (Ko:List Env) (s:Shared) (H:Hp) (E:XK),C P w K mg base->Room k (A.deeper (envOfC qual (jf st) s.heap.objs.size f Kc))->
  adf (zT CX0 P w K mg base N qual (jf st) f Kc A Ko s H E).nox (some own) sts B
noncomputable def zc:Stmt->List Stmt
 | .For _ _ b _ _=>b
 | _=>[]
noncomputable def ZA (l:List Stmt) (i:Nat):Stmt:=l.getD i (.Pass ⟨0,0,0,0⟩)
structure CNum (P:Program) (w:World) (K:Fg) (mg:SV) (base:Heap):Prop where
 rodWorth:jm P w K mg base "rod_worth" ["manner","rod"] 1 2 qw
noncomputable abbrev an1:List Str:=["manner","setting","number","rod"]
theorem afF:FnScope an1 ["manner","setting"] (jf JI):=⟨rfl,rfl,rfl,by decide +kernel,rfl,by decide +kernel,by decide +kernel⟩
noncomputable def afG:{ B:RO // aeH CNum "number_on" JI an1 1 (zc (ZA (jJ JI) 1)) B }:=
 ⟨_,fun P w K mg base f Kc A Ko s H E C hr=>
  je (jx 2 afF.nd (jo jB (jo qo (jb 2) (jI (jb 0) jg)) (ji C.rodWorth hr (Nat.le_refl _) (ja (jb 0) (ja (jb 3) jd)) (jc (jc jh))))) jl⟩
noncomputable def an2:{ B:RO // zd CNum "number_on" JI an1 1 B }:=
 ⟨_,fun P w K mg base f Kc A Ko s H E C hr=>
  je (jx 2 afF.nd jg) (je (QT PassesOwn.never rfl (acx (jb 1)) (jS 3 afF.nd) (afG.2 P w K mg base f Kc A Ko s H E C hr)) (je (jA (jb 2)) jl))⟩
noncomputable def agN:LP->OP:=jv an1 2 an2.1
structure CChkRods (P:Program) (w:World) (K:Fg) (mg:SV) (base:Heap):Prop where
 isWhole:jm P w K mg base "is_whole" ["thing","least","most"] 1 3 jU
 most:GC K mg "MOST_RODS" (.int 4)
theorem adw:FnScope ["rods"] ["rods"] (jf JQ):=⟨rfl,rfl,rfl,by decide +kernel,rfl,by decide +kernel,by decide +kernel⟩
noncomputable def abd:{ B:RO // zd CChkRods "check_rods" JQ ["rods"] 1 B }:=
 ⟨_,fun P w K mg base f Kc A Ko s H E C hr=>
  je (qg (qm (qh (ji C.isWhole hr (Nat.le_refl _) (ja (jb 0) (ja jg (ja (zb C.most) jd))) (jc (jc (jc jh)))))) zf jl) jl⟩
noncomputable def zr:LP->OP:=jv ["rods"] 1 abd.1
structure CChkNum (P:Program) (w:World) (K:Fg) (mg:SV) (base:Heap):Prop where
 isWhole:jm P w K mg base "is_whole" ["thing","least","most"] 1 3 jU
 most:GC K mg "MOST_NUMBER" (.int 99999)
theorem aeI:FnScope ["number"] ["number"] (jf zP):=⟨rfl,rfl,rfl,by decide +kernel,rfl,by decide +kernel,by decide +kernel⟩
noncomputable def abe:{ B:RO // zd CChkNum "check_number" zP ["number"] 1 B }:=
 ⟨_,fun P w K mg base f Kc A Ko s H E C hr=>
  je (qg (qm (qh (ji C.isWhole hr (Nat.le_refl _) (ja (jb 0) (ja jg (ja (zb C.most) jd))) (jc (jc (jc jh)))))) zf jl) jl⟩
noncomputable def qU:LP->OP:=jv ["number"] 1 abe.1
structure CAsked (P:Program) (w:World) (K:Fg) (mg:SV) (base:Heap):Prop where
 check:jm P w K mg base "check_manner" ["thing"] 4 1 Jc
 rods:jm P w K mg base "check_rods" ["rods"] 2 1 zr
 num:jm P w K mg base "check_number" ["number"] 2 1 qU
theorem agO:FnScope ["manner","rods","number"] ["manner","rods","number"] (jf Jt):=⟨rfl,rfl,rfl,by decide +kernel,rfl,by decide +kernel,by decide +kernel⟩
noncomputable def adx:{ B:RO // zd CAsked "check_asked" Jt ["manner","rods","number"] 4 B }:=
 ⟨_,fun P w K mg base f Kc A Ko s H E C hr=>
  je (qW (ji C.check hr (Nat.le_refl _) (ja (jb 0) jd) (jc jh)))
  (je (qW (ji C.rods hr (by decide) (ja (jb 1) jd) (jc jh)))
  (je (qW (ji C.num hr (by decide) (ja (jb 2) jd) (jc jh))) jl))⟩
noncomputable def Jd:LP->OP:=jv ["manner","rods","number"] 3 adx.1
noncomputable abbrev afH:Stmt:=top 16
noncomputable abbrev Je:Stmt:=top 25
noncomputable abbrev zt:Stmt:=top 26
noncomputable abbrev Z0:Stmt:=top 31
noncomputable abbrev Z1:Stmt:=top 32
noncomputable abbrev an3:List Str:=["base","rods","number","digits","left"]
noncomputable def abP:Stmt->List Stmt
 | .While _ b _ _=>b
 | _=>[]
theorem afI:FnScope an3 ["base","rods","number"] (jf Z1):=⟨rfl,rfl,rfl,by decide +kernel,rfl,by decide +kernel,by decide +kernel⟩
noncomputable def aaE:{ B:RO // adv 3 (fun _ _ _ mg _=>Bare mg) "digits_by_rods" Z1 an3 0 (abP (ZA (jJ Z1) 2)) B }:=
 ⟨_,fun P w K mg base f Kc A Ko s H E C hr=>
  jz (aaY (adi 3 jg (jo zl (jb 4) (jb 0))))
  (jz (Jj 4 afI.nd (jo zL (jb 4) (jb 0))) qE)⟩
noncomputable def an4:{ B:RO // zd (fun _ _ _ mg _=>Bare mg) "digits_by_rods" Z1 an3 0 B }:=
 ⟨_,fun P w K mg base f Kc A Ko s H E C hr=>
  Qz (QA 3 afI.nd (adh jd)
  (jz (Jj 4 afI.nd (jb 2))
  (jz (aes 10 PassesOwn.never (jV Zp (j2 zM C.len zN (ja (jb 3) jd)) (jo Qa (jb 1) jg)) (aaE.2 P w K mg base f Kc A Ko s H E C hr))
  (jz (QX (jo jB (qC (ja (jb 4) jd)) (jb 3))) qE))))⟩
noncomputable def agP:LP->OP:=jv an3 3 an4.1
structure CPlainR (P:Program) (w:World) (K:Fg) (mg:SV) (base:Heap):Prop where
 t:Bare mg
 dig:jm P w K mg base "digits_by_rods" ["base","rods","number"] 1 3 agP
 fewest:jm P w K mg base "fewest_beads" ["manner","worth"] 3 2 zO
noncomputable abbrev Z2:List Str:=["manner","rods","number","digits"]
theorem Z3:FnScope Z2 ["manner","rods","number"] (jf Z0):=⟨rfl,rfl,rfl,by decide +kernel,rfl,by decide +kernel,by decide +kernel⟩
theorem ndd:(["digit","manner"]:List Str).Nodup:=by decide +kernel
noncomputable def Z4:{ B:RO // zd CPlainR "plain_rods" Z0 Z2 3 B }:=
 ⟨_,fun P w K mg base f Kc A Ko s H E C hr=>
  je (jx 3 Z3.nd (ji C.dig hr (by decide) (ja (jI (jb 0) jg) (ja (jb 1) (ja (jb 2) jd))) (jc (jc (jc jh)))))
  (je (qg (jV afn (jI (jb 3) jg) (jI (jb 0) jg)) zf jl)
  (je (jA (zZ aaZ C.t.tuple JO (ja (zv ["digit","manner"] [none,some 0] rfl (Qu (jb 3)) (za (jf Z0) Z2 (by decide +kernel))
   fun cl C' s0 H0 fp pn=>⟨jS 0 ndd,zg,ji C.fewest hr (Nat.le_refl _) (ja (jb 1) (ja (jb 0) jd)) (jc (jc jh))⟩) jd))) jl))⟩
noncomputable def Z5:LP->OP:=jv Z2 3 Z4.1
structure CIsRod (P:Program) (w:World) (K:Fg) (mg:SV) (base:Heap):Prop where
 t:Bare mg
 isWhole:jm P w K mg base "is_whole" ["thing","least","most"] 1 3 jU
theorem aml:FnScope ["manner","thing"] ["manner","thing"] (jf afH):=⟨rfl,rfl,rfl,by decide +kernel,rfl,by decide +kernel,by decide +kernel⟩
noncomputable def abQ:{ B:RO // zd CIsRod "is_rod" afH ["manner","thing"] 1 B }:=
 ⟨_,fun P w K mg base f Kc A Ko s H E C hr=>
  je (qg (Qs (abI (qm (qh (ac9 (.inr (.inr rfl)) C.t.isi C.t.tuple JO (jb 1)))) (ZS (jV (QU hr.units) (j2 zM C.t.len zN (ja (jb 1) jd)) jg)))) (je (jA J9) jl) jl)
  (je (jA (apS (ji C.isWhole hr (Nat.le_refl _) (ja (jI (jb 1) jg) (ja jg (ja (jI (jb 0) jg) jd))) (jc (jc (jc jh)))) (apR (ji C.isWhole hr (Nat.le_refl _) (ja (jI (jb 1) jg) (ja jg (ja (jI (jb 0) jg) jd))) (jc (jc (jc jh))))))) jl)⟩
noncomputable def Q6:LP->OP:=jv ["manner","thing"] 2 abQ.1
structure CIsSet (P:Program) (w:World) (K:Fg) (mg:SV) (base:Heap):Prop where
 t:Bare mg
 check:jm P w K mg base "check_manner" ["thing"] 4 1 Jc
 isRod:jm P w K mg base "is_rod" ["manner","thing"] 2 2 Q6
 most:GC K mg "MOST_RODS" (.int 4)
theorem agQ:FnScope ["manner","thing"] ["manner","thing"] (jf Je):=⟨rfl,rfl,rfl,by decide +kernel,rfl,by decide +kernel,by decide +kernel⟩
theorem ndp:(["part","manner"]:List Str).Nodup:=by decide +kernel
noncomputable def aaF:{ B:RO // zd CIsSet "is_setting" Je ["manner","thing"] 4 B }:=
 ⟨_,fun P w K mg base f Kc A Ko s H E C hr=>
  je (qW (ji C.check hr (Nat.le_refl _) (ja (jb 0) jd) (jc jh)))
  (je (qg (Qs (abI (qm (qh (ac9 (.inr (.inr rfl)) C.t.isi C.t.tuple JO (jb 1)))) (ZS (qm (ajJ ac7 ac7 jg (j2 zM C.t.len zN (ja (jb 1) jd)) (zb C.most)))))) (je (jA J9) jl) jl)
  (je (jA (j2 (ahG rfl) C.t.all ah4 (ja (zv ["part","manner"] [none,some 0] rfl (acx (jb 1)) (za (jf Je) ["manner","thing"] (by decide +kernel))
   fun cl C' s0 H0 fp pn=>⟨jS 0 ndp,zg,ji C.isRod hr (by decide) (ja (jb 1) (ja (jb 0) jd)) (jc (jc jh))⟩) jd))) jl))⟩
noncomputable def aaG:LP->OP:=jv ["manner","thing"] 2 aaF.1
structure CChkSet (P:Program) (w:World) (K:Fg) (mg:SV) (base:Heap):Prop where
 isSet:jm P w K mg base "is_setting" ["manner","thing"] 5 2 aaG
theorem aeJ:FnScope ["manner","thing"] ["manner","thing"] (jf zt):=⟨rfl,rfl,rfl,by decide +kernel,rfl,by decide +kernel,by decide +kernel⟩
noncomputable def abf:{ B:RO // zd CChkSet "check_setting" zt ["manner","thing"] 5 B }:=
 ⟨_,fun P w K mg base f Kc A Ko s H E C hr=>
  je (qg (qm (qh (ji C.isSet hr (Nat.le_refl _) (ja (jb 0) (ja (jb 1) jd)) (jc (jc jh))))) zf jl) jl⟩
noncomputable def zw:LP->OP:=jv ["manner","thing"] 2 abf.1
noncomputable abbrev ai6:Stmt:=top 44
noncomputable abbrev afJ:Stmt:=top 45
noncomputable abbrev acF:Stmt:=top 46
noncomputable abbrev QF:Stmt:=top 47
noncomputable abbrev nMS:List Str:=["manner","setting"]
theorem an5:FnScope ["_law_script","_law_k"] ["_law_script","_law_k"] (jf ai6):=⟨rfl,rfl,rfl,by decide +kernel,rfl,by decide +kernel,by decide +kernel⟩
noncomputable def ai7:{ B:RO // zd (fun _ _ _ mg _=>Bare mg) "_law_cell" ai6 ["_law_script","_law_k"] 0 B }:=
 ⟨_,fun P w K mg base f Kc A Ko s H E C hr=>
  je (qg (jV (aaw hr.units) (jb 0) (qC jd)) (je (jA (jo qo jg (jb 1))) jl) jl)
  (je (jA (jo jB (jI (jb 0) (jo zl (jb 1) (j2 zM C.len zN (ja (jb 0) jd)))) (jo qo jg (jo zL (jb 1) (j2 zM C.len zN (ja (jb 0) jd)))))) jl)⟩
noncomputable def agR:LP->OP:=jv ["_law_script","_law_k"] 2 ai7.1
structure CDrawn (P:Program) (w:World) (K:Fg) (mg:SV) (base:Heap):Prop where
 cell:jm P w K mg base "_law_cell" ["_law_script","_law_k"] 1 2 agR
theorem ady:FnScope ["_law_script","_law_k","_law_many","_law_cell_here"] ["_law_script","_law_k","_law_many"] (jf afJ):=⟨rfl,rfl,rfl,by decide +kernel,rfl,by decide +kernel,by decide +kernel⟩
noncomputable def ah8:{ B:RO // zd CDrawn "_law_drawn" afJ ["_law_script","_law_k","_law_many","_law_cell_here"] 1 B }:=
 ⟨_,fun P w K mg base f Kc A Ko s H E C hr=>
  je (jx 3 ady.nd (jo zl (jo jB (jo qo (jo zl (ji C.cell hr (Nat.le_refl _) (ja (jb 0) (ja (jb 1) jd)) (jc (jc jh))) jg) jg) (jo qo jg (jo jB (jb 1) jg))) jg))
  (je (jx 3 ady.nd (jo zl (jo jB (jo qo (jb 3) (jb 3)) (jo zL (jb 3) jg)) jg))
  (je (jA (jo zl (jo zL (jo zl (jo jB (jo qo (jb 3) (jb 3)) (jo zL (jb 3) jg)) jg) jg) (jb 2))) jl))⟩
noncomputable def qI:LP->OP:=jv ["_law_script","_law_k","_law_many","_law_cell_here"] 3 ah8.1
noncomputable abbrev afK:List Str:=["_law_script","_law_at","_law_known","_law_way","_law_each","_law_upper","_law_lower"]
structure CManner (P:Program) (w:World) (K:Fg) (mg:SV) (base:Heap):Prop where
 t:Bare mg
 drawn:jm P w K mg base "_law_drawn" ["_law_script","_law_k","_law_many"] 2 3 qI
theorem Jf:FnScope afK ["_law_script","_law_at"] (jf acF):=⟨rfl,rfl,rfl,by decide +kernel,rfl,by decide +kernel,by decide +kernel⟩
noncomputable def jj (a b c d:Int):PyData:= .tuple [.int a,.int b,.int c,.int d]
noncomputable def abR:LP:=[jj 1 5 4 10,jj 2 5 5 10,jj 0 1 9 10,jj 1 5 5 10,jj 0 1 10 10,jj 1 2 1 4,jj 0 1 1 2]
noncomputable def abS:LP:=[jj 1 4 3 8,jj 1 3 2 5,jj 3 4 3 16,jj 2 3 2 7,jj 1 1 1 3]
noncomputable def acG:{ B:RO // zd CManner "_law_manner" acF afK 2 B }:=
 ⟨_,fun P w K mg base f Kc A Ko s H E C hr=>
  je (jx 2 Jf.nd (JM 3 (.list abR) (by kernel_rfl)))
  (je (jx 2 Jf.nd (jo jB (jb 2) (JM 3 (.list abS) (by kernel_rfl))))
  (je (jx 3 Jf.nd (ji C.drawn hr (Nat.le_refl _) (ja (jb 0) (ja (jb 1) (ja (jo qo jg (j2 zM C.t.len zN (ja (jb 2) jd))) jd))) (jc (jc (jc jh)))))
  (je (qg (jV Zp (jb 3) (j2 zM C.t.len zN (ja (jb 2) jd))) (je (jA (jI (jb 2) (jb 3))) jl) jl)
  (je (jx 4 Jf.nd (jo jB jg (ji C.drawn hr (Nat.le_refl _) (ja (jb 0) (ja (jo jB (jb 1) jg) (ja jg jd))) (jc (jc (jc jh))))))
  (je (jx 5 Jf.nd (ji C.drawn hr (Nat.le_refl _) (ja (jb 0) (ja (jo jB (jb 1) jg) (ja jg jd))) (jc (jc (jc jh)))))
  (je (jx 6 Jf.nd (jo jB (j2 (anu rfl) C.t.max alr (ja (jo Qa (jb 4) jg) (ja jg jd))) (ji C.drawn hr (Nat.le_refl _) (ja (jb 0) (ja (jo jB (jb 1) jg) (ja jg jd))) (jc (jc (jc jh))))))
  (je (jA (ze (ja (jb 5) (ja (jb 4) (ja (jb 6) (ja (jo jB jg (ji C.drawn hr (Nat.le_refl _) (ja (jb 0) (ja (jo jB (jb 1) jg) (ja (j2 (aiP rfl) C.t.min afr (ja jg (ja (jo jB (jo qo (jb 5) (jb 4)) (jb 6)) jd))) jd))) (jc (jc (jc jh))))) jd)))))) jl)))))))⟩
noncomputable def Z6:LP->OP:=jv afK 2 acG.1
structure CSetting (P:Program) (w:World) (K:Fg) (mg:SV) (base:Heap):Prop where
 t:Bare mg
 drawn:jm P w K mg base "_law_drawn" ["_law_script","_law_k","_law_many"] 2 3 qI
noncomputable abbrev an6:List Str:=["_law_script","_law_at","_law_manner_here","_law_most","_law_rods_here","_law_found","_law_k","_law_rod"]
theorem abT:FnScope an6 ["_law_script","_law_at","_law_manner_here","_law_most"] (jf QF):=⟨rfl,rfl,rfl,by decide +kernel,rfl,by decide +kernel,by decide +kernel⟩
noncomputable def afL:{ B:RO // aeH CSetting "_law_setting" QF an6 2 (zc (ZA (jJ QF) 2)) B }:=
 ⟨_,fun P w K mg base f Kc A Ko s H E C hr=>
  (je (jx 7 abT.nd (ze (ja (ji C.drawn hr (by decide) (ja (jb 0) (ja (jo jB (jo jB (jb 1) jg) (jo qo jg (jb 6))) (ja (jo jB (jI (jb 2) jg) jg) jd))) (jc (jc (jc jh)))) (ja (ji C.drawn hr (by decide) (ja (jb 0) (ja (jo jB (jo jB (jb 1) jg) (jo qo jg (jb 6))) (ja (jo jB (jI (jb 2) jg) jg) jd))) (jc (jc (jc jh)))) jd))))
  (je (jx 5 abT.nd (jo jB (jb 5) (ze (ja (jb 7) jd))))
  jl))⟩
noncomputable def an7:{ B:RO // zd CSetting "_law_setting" QF an6 2 B }:=
 ⟨_,fun P w K mg base f Kc A Ko s H E C hr=>
  (je (jx 4 abT.nd (jo jB jg (ji C.drawn hr (by decide) (ja (jb 0) (ja (jb 1) (ja (jb 3) jd))) (jc (jc (jc jh))))))
  (je (jx 5 abT.nd (ze jd))
  (je (QT PassesOwn.never rfl (qD rfl C.t.range (ja (jb 4) jd)) (jS 6 abT.nd) (afL.2 P w K mg base f Kc A Ko s H E C hr))
  (je (jA (jb 5))
  jl))))⟩
noncomputable def an8:LP->OP:=jv an6 4 an7.1
noncomputable def wt (e:Int) (p:Int × Int):Int:=p.1*e+p.2
noncomputable def small (b e:Int) (ps:List (Int × Int)):Bool:=ps.all fun p=>decide (wt e p<b)
noncomputable abbrev QG:Stmt:=top 38
structure CSmall (P:Program) (w:World) (K:Fg) (mg:SV) (base:Heap):Prop where
 t:Bare mg
 check:jm P w K mg base "check_setting" ["manner","thing"] 6 2 zw
 rodWorth:jm P w K mg base "rod_worth" ["manner","rod"] 1 2 qw
theorem agS:FnScope nMS nMS (jf QG):=⟨rfl,rfl,rfl,by decide +kernel,rfl,by decide +kernel,by decide +kernel⟩
theorem asw:(["rod","manner"]:List Str).Nodup:=by decide +kernel
noncomputable def adz:{ B:RO // zd CSmall "is_small" QG nMS 6 B }:=
 ⟨_,fun P w K mg base f Kc A Ko s H E C hr=>
  je (qW (ji C.check hr (by decide) (ja (jb 0) (ja (jb 1) jd)) (jc (jc jh))))
  (je (jA (j2 (ahG rfl) C.t.all ah4 (ja (zv ["rod","manner"] [none,some 0] rfl (acx (jb 1)) (za (jf QG) nMS (by decide +kernel))
   fun cl C' s0 H0 fp pn=>⟨jS 0 asw,zg,ac5 Zp (ji C.rodWorth hr (by decide) (ja (jb 1) (ja (jb 0) jd)) (jc (jc jh))) (jI (jb 1) jg)⟩) jd))) jl)⟩
noncomputable def zQ:LP->OP:=jv nMS 2 adz.1
noncomputable abbrev Zj (C:CC) (qual:Str) (st:Stmt) (N:List Str) (k:Nat) (Fx:Rho->Option Str):Prop:=
 ∀ (P:Program) (w:World) (K:Fg) (mg:SV) (base:Heap) (f:Addr) (Kc:Value) (A:Around) (Ko:List Env) (s:Shared) (H:Hp) (E:XK),C P w K mg base->Room k (A.deeper (envOfC qual (jf st) s.heap.objs.size f Kc))->
  acs (zT (CXt P w) P w K mg base N qual (jf st) f Kc A Ko s H E) (jJ st) Fx
noncomputable abbrev abg:Stmt:=top 36
noncomputable abbrev Z7:Stmt:=top 35
noncomputable abbrev sDT:Stmt:=top 40
noncomputable abbrev akh:Stmt:=top 34
noncomputable abbrev abh:Stmt:=top 39
noncomputable abbrev adA:Stmt:=top 41
noncomputable abbrev Z8:Stmt:=top 37
noncomputable abbrev adB:Stmt:=top 42
structure CEnough (P:Program) (w:World) (K:Fg) (mg:SV) (base:Heap):Prop where
 num:jm P w K mg base "number_on" ["manner","setting"] 2 2 agN
theorem aeK:FnScope ["manner","setting","number"] ["manner","setting","number"] (jf abg):=⟨rfl,rfl,rfl,by decide +kernel,rfl,by decide +kernel,by decide +kernel⟩
noncomputable def Z9:{ B:RO // zd CEnough "check_enough" abg ["manner","setting","number"] 2 B }:=
 ⟨_,fun P w K mg base f Kc A Ko s H E C hr=>
  (je (qg (jV afm (jb 2) (ji C.num hr (by decide) (ja (jb 0) (ja (jb 1) jd)) (jc (jc jh)))) zf jl)
  jl)⟩
noncomputable def aaa:LP->OP:=jv ["manner","setting","number"] 3 Z9.1
noncomputable abbrev an9:List Str:=["setting","changes","now","rod","fresh"]
theorem afM:FnScope an9 ["setting","changes"] (jf Z7):=⟨rfl,rfl,rfl,by decide +kernel,rfl,by decide +kernel,by decide +kernel⟩
noncomputable def adC:{ B:RO // adv 2 (fun _ _ _ mg _=>Bare mg) "behind_changes" Z7 an9 0 (zc (ZA (jJ Z7) 1)) B }:=
 ⟨_,fun P w K mg base f Kc A Ko s H E C hr=>
  (jz (alJ 2 (jb 3) (jb 4)) qE)⟩
noncomputable def aoa:{ B:RO // zd (fun _ _ _ mg _=>Bare mg) "behind_changes" Z7 an9 0 B }:=
 ⟨_,fun P w K mg base f Kc A Ko s H E C hr=>
  Qz (QA 2 afM.nd (aeu C.list acC (ja (jb 0) jd))
  (jz (aaX PassesOwn.never rfl (Qu (jb 1)) (aiW (n:=2) rfl (ZT 3 afM.nd (ZT 4 afM.nd agp))) (adC.2 P w K mg base f Kc A Ko s H E C hr))
  (jz (QX (zZ aaZ C.tuple JO (ja (jb 2) jd))) qE)))⟩
noncomputable def ah9:LP->OP:=jv an9 2 aoa.1
structure CDT (g:LP->OP) (d:Nat) (P:Program) (w:World) (K:Fg) (mg:SV) (base:Heap):Prop where
 rodWorth:jm P w K mg base "rod_worth" ["manner","rod"] 1 2 qw
 fewest:jm P w K mg base "fewest_beads" ["manner","worth"] 3 2 zO
 self:jm P w K mg base "digit_taken" ["manner","setting","rod","digit"] (d+3) 4 g
noncomputable abbrev nDT:List Str:=["manner","setting","rod","digit","left","ahead"]
theorem amm:FnScope nDT ["manner","setting","rod","digit"] (jf sDT):=⟨rfl,rfl,rfl,by decide +kernel,rfl,by decide +kernel,by decide +kernel⟩
noncomputable def bDT (g:LP->OP) (d:Nat):{ B:RO // zd (CDT g d) "digit_taken" sDT nDT (d+3) B }:=
 ⟨_,fun P w K mg base f Kc A Ko s H E C hr=>
  (je (qg (jV (aaw hr.units) (jb 3) jg) (je (jA (qC jd)) jl) jl)
  (je (jx 4 amm.nd (jo Qa (ji C.rodWorth hr (by omega) (ja (jb 0) (ja (jI (jb 1) (jb 2)) jd)) (jc (jc jh))) (jb 3)))
  (je (qg (jV afn (jb 4) jg) (je (jA (qC (ja (ze (ja (jb 2) (ja (ji C.fewest hr (by omega) (ja (jb 0) (ja (jb 4) jd)) (jc (jc jh))) jd))) jd))) jl) jl)
  (je (jx 5 amm.nd (ji C.self hr (by omega) (ja (jb 0) (ja (jb 1) (ja (jo Qa (jb 2) jg) (ja jg jd)))) (jc (jc (jc (jc jh))))))
  (je (jA (jo jB (jb 5) (qC (ja (ze (ja (jb 2) (ja (ji C.fewest hr (by omega) (ja (jb 0) (ja (jo jB (jb 4) (jI (jb 0) jg)) jd)) (jc (jc jh))) jd))) jd))))
  jl)))))⟩
noncomputable def gDT:Nat->LP->OP
 | 0=>fun _=>none
 | d+1=>jv nDT 4 (bDT (gDT d) d).1
structure CCbd (x:Str) (g:LP->OP) (P:Program) (w:World) (K:Fg) (mg:SV) (base:Heap):Prop where
 t:Bare mg
 dig:jm P w K mg base "digits_by_rods" ["base","rods","number"] 1 3 agP
 beh:jm P w K mg base "behind_changes" ["setting","changes"] 1 2 ah9
 fn:jm P w K mg base x ["manner","setting","rod","digit"] 9 4 g
noncomputable abbrev aob:List Str:=["manner","setting","number","digit_changes","changes","now","rod","digit","several"]
theorem aaH:FnScope aob ["manner","setting","number","digit_changes"] (jf akh):=⟨rfl,rfl,rfl,by decide +kernel,rfl,by decide +kernel,by decide +kernel⟩
noncomputable def abU (x:Str) (g:LP->OP):{ B:RO // adv 4 (CCbd x g) "changes_by_digits" akh aob 9 (zc (ZA (jJ akh) 2)) B }:=
 ⟨_,fun P w K mg base f Kc A Ko s H E C hr=>
  (jz (Jj 8 aaH.nd (alR 3 C.fn hr (by decide) (ja (jb 0) (ja (jb 5) (ja (jb 6) (ja (jb 7) jd)))) (jc (jc (jc (jc jh))))))
  (jz (Jj 5 aaH.nd (ji C.beh hr (by decide) (ja (jb 5) (ja (jb 8) jd)) (jc (jc jh))))
  (jz (aaY (ajV 4 (jb 8)))
  qE)))⟩
noncomputable def aoc (x:Str) (g:LP->OP):{ B:RO // zd (CCbd x g) "changes_by_digits" akh aob 9 B }:=
 ⟨_,fun P w K mg base f Kc A Ko s H E C hr=>
  Qz (QA 4 aaH.nd (adh jd)
  (jz (Jj 5 aaH.nd (jb 1))
  (jz (aaX PassesOwn.never rfl (alP C.t.enum (ja (ji C.dig hr (by decide) (ja (jI (jb 0) jg) (ja (j2 zM C.t.len zN (ja (jb 1) jd)) (ja (jb 2) jd))) (jc (jc (jc jh)))) jd)) (aiW (n:=2) rfl (ZT 6 aaH.nd (ZT 7 aaH.nd agp))) ((abU x g).2 P w K mg base f Kc A Ko s H E C hr))
  (jz (QX (jb 4)) qE))))⟩
noncomputable def arC (x:Str) (g:LP->OP):LP->OP:=jv aob 4 (aoc x g).1
noncomputable abbrev gCT:LP->OP:=arC "digit_taken" (gDT 6)
structure CTaking (P:Program) (w:World) (K:Fg) (mg:SV) (base:Heap):Prop where
 small:jm P w K mg base "is_small" nMS 7 2 zQ
 chkNum:jm P w K mg base "check_number" ["number"] 2 1 qU
 enough:jm P w K mg base "check_enough" ["manner","setting","number"] 3 3 aaa
 cbd:jm P w K mg base "changes_by_digits" ["manner","setting","number","digit_changes"] 10 4 gCT
 fn:GC K mg "digit_taken" (fnD "digit_taken")
theorem aeL:FnScope ["manner","setting","number"] ["manner","setting","number"] (jf abh):=⟨rfl,rfl,rfl,by decide +kernel,rfl,by decide +kernel,by decide +kernel⟩
noncomputable def zx:{ B:RO // zd CTaking "taking" abh ["manner","setting","number"] 10 B }:=
 ⟨_,fun P w K mg base f Kc A Ko s H E C hr=>
  (je (qg (qm (qh (ji C.small hr (by decide) (ja (jb 0) (ja (jb 1) jd)) (jc (jc jh))))) zf jl)
  (je (qW (ji C.chkNum hr (by decide) (ja (jb 2) jd) (jc jh)))
  (je (qW (ji C.enough hr (by decide) (ja (jb 0) (ja (jb 1) (ja (jb 2) jd))) (jc (jc (jc jh)))))
  (je (jA (ji C.cbd hr (by decide) (ja (jb 0) (ja (jb 1) (ja (jb 2) (ja (zb C.fn) jd)))) (jc (jc (jc (jc jh))))))
  jl))))⟩
noncomputable def zy:LP->OP:=jv ["manner","setting","number"] 3 zx.1
structure CTaken (P:Program) (w:World) (K:Fg) (mg:SV) (base:Heap):Prop where
 taking:jm P w K mg base "taking" ["manner","setting","number"] 11 3 zy
 beh:jm P w K mg base "behind_changes" ["setting","changes"] 1 2 ah9
theorem agT:FnScope ["manner","setting","number"] ["manner","setting","number"] (jf adA):=⟨rfl,rfl,rfl,by decide +kernel,rfl,by decide +kernel,by decide +kernel⟩
noncomputable def afN:{ B:RO // zd CTaken "taken" adA ["manner","setting","number"] 11 B }:=
 ⟨_,fun P w K mg base f Kc A Ko s H E C hr=>
  (je (jA (ji C.beh hr (by decide) (ja (jb 1) (ja (ji C.taking hr (by decide) (ja (jb 0) (ja (jb 1) (ja (jb 2) jd))) (jc (jc (jc jh)))) jd)) (jc (jc jh))))
  jl)⟩
noncomputable def ZB:LP->OP:=jv ["manner","setting","number"] 3 afN.1
noncomputable abbrev aod:List Str:=["base","rods","told"]
theorem amn:FnScope aod ["base","rods"] (jf Z8):=⟨rfl,rfl,rfl,by decide +kernel,rfl,by decide +kernel,by decide +kernel⟩
noncomputable def afO:{ B:RO // adv 2 (fun _ _ _ mg _=>Bare mg) "places" Z8 aod 0 (abP (ZA (jJ Z8) 1)) B }:=
 ⟨_,fun P w K mg base f Kc A Ko s H E C hr=>
  (jz (aaY (adi 2 jg (jo qo (jI (jb 2) jg) (jb 0)))) qE)⟩
noncomputable def aoe:{ B:RO // zd (fun _ _ _ mg _=>Bare mg) "places" Z8 aod 0 B }:=
 ⟨_,fun P w K mg base f Kc A Ko s H E C hr=>
  Qz (QA 2 amn.nd (adh (ja jg jd))
  (jz (aes 10 PassesOwn.never (jV Zp (j2 zM C.len zN (ja (jb 2) jd)) (jb 1)) (afO.2 P w K mg base f Kc A Ko s H E C hr))
  (jz (QX (jb 2)) qE)))⟩
noncomputable def aof:LP->OP:=jv aod 2 aoe.1
structure CQuot (P:Program) (w:World) (K:Fg) (mg:SV) (base:Heap):Prop where
 asked:jm P w K mg base "check_asked" ["manner","rods","number"] 5 3 Jd
 isWhole:jm P w K mg base "is_whole" ["thing","least","most"] 1 3 jU
 plainR:jm P w K mg base "plain_rods" ["manner","rods","number"] 4 3 Z5
 num:jm P w K mg base "number_on" ["manner","setting"] 2 2 agN
 places:jm P w K mg base "places" ["base","rods"] 1 2 aof
 most:GC K mg "MOST_NUMBER" (.int 99999)
noncomputable abbrev aki:List Str:=["manner","rods","number","by","now","told","place","left"]
theorem aaI:FnScope aki ["manner","rods","number","by"] (jf adB):=⟨rfl,rfl,rfl,by decide +kernel,rfl,by decide +kernel,by decide +kernel⟩
noncomputable def abV:{ B:RO // adv 5 CQuot "quotient" adB aki 5 (zc (ZA (jJ adB) 4)) B }:=
 ⟨_,fun P w K mg base f Kc A Ko s H E C hr=>
  (jz (Jj 7 aaI.nd (ji C.num hr (by decide) (ja (jb 0) (ja (jb 4) jd)) (jc (jc jh))))
  (jz (Jj 4 aaI.nd (ji C.plainR hr (by decide) (ja (jb 0) (ja (jb 1) (ja (jo zl (jb 7) (jo qo (jb 3) (jb 6))) jd))) (jc (jc (jc jh)))))
  (jz (aaY (aet 5 (ze (ja (jo zL (jb 7) (jo qo (jb 3) (jb 6))) (ja (jb 4) jd)))))
  qE)))⟩
noncomputable def ad7:{ B:RO // zd CQuot "quotient" adB aki 5 B }:=
 ⟨_,fun P w K mg base f Kc A Ko s H E C hr=>
  Qz (jz (abK (qW (ji C.asked hr (by decide) (ja (jb 0) (ja (jb 1) (ja (jb 2) jd))) (jc (jc (jc jh))))))
  (jz (abK (qg (qm (qh (ji C.isWhole hr (by decide) (ja (jb 3) (ja jg (ja (zb C.most) jd))) (jc (jc (jc jh)))))) zf jl))
  (jz (abK (jx 4 aaI.nd (ji C.plainR hr (by decide) (ja (jb 0) (ja (jb 1) (ja (jb 2) jd))) (jc (jc (jc jh))))))
  (QA 5 aaI.nd (adh jd)
  (jz (aaX PassesOwn.never rfl (Qu (ji C.places hr (by decide) (ja (jI (jb 0) jg) (ja (jb 1) jd)) (jc (jc jh)))) (adg 6 aaI.nd) (abV.2 P w K mg base f Kc A Ko s H E C hr))
  (jz (QX (jb 5)) qE))))))⟩
noncomputable def agU:LP->OP:=jv aki 4 ad7.1
section
variable {u e l b:Int}
noncomputable def dig (b:Int) (r:Nat) (n:Int) (i:Nat):Int:=if 0<i then n / b ^ (r - 1 - i) % b else n / b ^ (r - 1 - i)
end
noncomputable abbrev qQ:List Str:=["NoManner","NoSetting","NoNumber","NoMove","TooGreat","Nothing"]
structure XCheck (P:Program) (w:World) (K:Fg) (mg:SV) (base:Heap):Prop where
 c_isManner:jm P w K mg base "is_manner" ["thing"] 3 1 j6
 e_NoManner:ad5 K mg "NoManner"
noncomputable def abW:{ F:Rho->Option Str // Zj XCheck "check_manner" adu ["thing"] 3 F }:=
 ⟨_,fun P w K mg base f Kc A Ko s H E C hr=>
  (jF (QY (qm (qh (ji C.c_isManner hr (by decide) (ja (jb 0) jd) (jc jh)))) (jF (zG rfl C.e_NoManner rfl)) qT))⟩
noncomputable def ZC:LP->Option Str:=Js ["thing"] 1 abW.1
structure XIsSet (P:Program) (w:World) (K:Fg) (mg:SV) (base:Heap):Prop where
 x_check:zB P w K mg base "check_manner" ["thing"] 4 1 ZC
noncomputable def abX:{ F:Rho->Option Str // Zj XIsSet "is_setting" Je ["manner","thing"] 4 F }:=
 ⟨_,fun P w K mg base f Kc A Ko s H E C hr=>
  (jF (Jr (qN rfl C.x_check hr (by decide) (ja (jb 0) jd) (jc jh))))⟩
noncomputable def afP:LP->Option Str:=Js ["manner","thing"] 2 abX.1
structure XChkSet (P:Program) (w:World) (K:Fg) (mg:SV) (base:Heap):Prop where
 c_isSet:jm P w K mg base "is_setting" ["manner","thing"] 5 2 aaG
 x_isSet:zB P w K mg base "is_setting" ["manner","thing"] 5 2 afP
 e_NoSetting:ad5 K mg "NoSetting"
noncomputable def Qd:{ F:Rho->Option Str // Zj XChkSet "check_setting" zt ["manner","thing"] 5 F }:=
 ⟨_,fun P w K mg base f Kc A Ko s H E C hr=>
  (jF (al3 (ai3 (ai2 (ai1 (qN rfl C.x_isSet hr (by decide) (ja (jb 0) (ja (jb 1) jd)) (jc (jc jh)))))) (QY (qm (qh (ji C.c_isSet hr (by decide) (ja (jb 0) (ja (jb 1) jd)) (jc (jc jh))))) (jF (zG rfl C.e_NoSetting rfl)) qT)))⟩
noncomputable def Jl:LP->Option Str:=Js ["manner","thing"] 2 Qd.1
structure XChkRods (P:Program) (w:World) (K:Fg) (mg:SV) (base:Heap):Prop where
 c_isWhole:jm P w K mg base "is_whole" ["thing","least","most"] 1 3 jU
 k_MOST_RODS:GC K mg "MOST_RODS" (.int 4)
 e_NoNumber:ad5 K mg "NoNumber"
noncomputable def abi:{ F:Rho->Option Str // Zj XChkRods "check_rods" JQ ["rods"] 1 F }:=
 ⟨_,fun P w K mg base f Kc A Ko s H E C hr=>
  (jF (QY (qm (qh (ji C.c_isWhole hr (by decide) (ja (jb 0) (ja jg (ja (zb C.k_MOST_RODS) jd))) (jc (jc (jc jh)))))) (jF (zG rfl C.e_NoNumber rfl)) qT))⟩
noncomputable def ZD:LP->Option Str:=Js ["rods"] 1 abi.1
structure XChkNum (P:Program) (w:World) (K:Fg) (mg:SV) (base:Heap):Prop where
 c_isWhole:jm P w K mg base "is_whole" ["thing","least","most"] 1 3 jU
 k_MOST_NUMBER:GC K mg "MOST_NUMBER" (.int 99999)
 e_NoNumber:ad5 K mg "NoNumber"
noncomputable def aab:{ F:Rho->Option Str // Zj XChkNum "check_number" zP ["number"] 1 F }:=
 ⟨_,fun P w K mg base f Kc A Ko s H E C hr=>
  (jF (QY (qm (qh (ji C.c_isWhole hr (by decide) (ja (jb 0) (ja jg (ja (zb C.k_MOST_NUMBER) jd))) (jc (jc (jc jh)))))) (jF (zG rfl C.e_NoNumber rfl)) qT))⟩
noncomputable def JC:LP->Option Str:=Js ["number"] 1 aab.1
structure XAsked (P:Program) (w:World) (K:Fg) (mg:SV) (base:Heap):Prop where
 c_chkRods:jm P w K mg base "check_rods" ["rods"] 2 1 zr
 c_check:jm P w K mg base "check_manner" ["thing"] 4 1 Jc
 x_check:zB P w K mg base "check_manner" ["thing"] 4 1 ZC
 x_chkRods:zB P w K mg base "check_rods" ["rods"] 2 1 ZD
 x_chkNum:zB P w K mg base "check_number" ["number"] 2 1 JC
noncomputable def ZE:{ F:Rho->Option Str // Zj XAsked "check_asked" Jt ["manner","rods","number"] 4 F }:=
 ⟨_,fun P w K mg base f Kc A Ko s H E C hr=>
  (QZ (jF (Jr (qN rfl C.x_check hr (by decide) (ja (jb 0) jd) (jc jh)))) (zF (qW (ji C.c_check hr (by decide) (ja (jb 0) jd) (jc jh)))
  (QZ (jF (Jr (qN rfl C.x_chkRods hr (by decide) (ja (jb 1) jd) (jc jh)))) (zF (qW (ji C.c_chkRods hr (by decide) (ja (jb 1) jd) (jc jh)))
  (jF (Jr (qN rfl C.x_chkNum hr (by decide) (ja (jb 2) jd) (jc jh))))))))⟩
noncomputable def Q7:LP->Option Str:=Js ["manner","rods","number"] 3 ZE.1
structure XPlainR (P:Program) (w:World) (K:Fg) (mg:SV) (base:Heap):Prop where
 c_digits:jm P w K mg base "digits_by_rods" ["base","rods","number"] 1 3 agP
 e_TooGreat:ad5 K mg "TooGreat"
noncomputable def acH:{ F:Rho->Option Str // Zj XPlainR "plain_rods" Z0 Z2 3 F }:=
 ⟨_,fun P w K mg base f Kc A Ko s H E C hr=>
  (zF (jx 3 Z3.nd (ji C.c_digits hr (by decide) (ja (jI (jb 0) jg) (ja (jb 1) (ja (jb 2) jd))) (jc (jc (jc jh)))))
  (jF (QY (jV afn (jI (jb 3) jg) (jI (jb 0) jg)) (jF (zG rfl C.e_TooGreat rfl)) qT)))⟩
noncomputable def acI:LP->Option Str:=Js Z2 3 acH.1
structure XSmall (P:Program) (w:World) (K:Fg) (mg:SV) (base:Heap):Prop where
 x_chkSet:zB P w K mg base "check_setting" ["manner","thing"] 6 2 Jl
noncomputable def abY:{ F:Rho->Option Str // Zj XSmall "is_small" QG nMS 6 F }:=
 ⟨_,fun P w K mg base f Kc A Ko s H E C hr=>
  (jF (Jr (qN rfl C.x_chkSet hr (by decide) (ja (jb 0) (ja (jb 1) jd)) (jc (jc jh)))))⟩
noncomputable def Qk:LP->Option Str:=Js nMS 2 abY.1
structure XEnough (P:Program) (w:World) (K:Fg) (mg:SV) (base:Heap):Prop where
 c_num:jm P w K mg base "number_on" ["manner","setting"] 2 2 agN
 e_TooGreat:ad5 K mg "TooGreat"
noncomputable def aac:{ F:Rho->Option Str // Zj XEnough "check_enough" abg ["manner","setting","number"] 2 F }:=
 ⟨_,fun P w K mg base f Kc A Ko s H E C hr=>
  (jF (QY (jV afm (jb 2) (ji C.c_num hr (by decide) (ja (jb 0) (ja (jb 1) jd)) (jc (jc jh)))) (jF (zG rfl C.e_TooGreat rfl)) qT))⟩
noncomputable def abj:LP->Option Str:=Js ["manner","setting","number"] 3 aac.1
structure XTaking (P:Program) (w:World) (K:Fg) (mg:SV) (base:Heap):Prop where
 c_small:jm P w K mg base "is_small" ["manner","setting"] 7 2 zQ
 c_chkNum:jm P w K mg base "check_number" ["number"] 2 1 qU
 x_small:zB P w K mg base "is_small" ["manner","setting"] 7 2 Qk
 x_chkNum:zB P w K mg base "check_number" ["number"] 2 1 JC
 x_enough:zB P w K mg base "check_enough" ["manner","setting","number"] 3 3 abj
 e_NoSetting:ad5 K mg "NoSetting"
noncomputable def Jm:{ F:Rho->Option Str // Zj XTaking "taking" abh ["manner","setting","number"] 10 F }:=
 ⟨_,fun P w K mg base f Kc A Ko s H E C hr=>
  (QZ (jF (al3 (ai3 (ai2 (ai1 (qN rfl C.x_small hr (by decide) (ja (jb 0) (ja (jb 1) jd)) (jc (jc jh)))))) (QY (qm (qh (ji C.c_small hr (by decide) (ja (jb 0) (ja (jb 1) jd)) (jc (jc jh))))) (jF (zG rfl C.e_NoSetting rfl)) qT))) (zF (qg (qm (qh (ji C.c_small hr (by decide) (ja (jb 0) (ja (jb 1) jd)) (jc (jc jh))))) (je aeo
  jl) jl)
  (QZ (jF (Jr (qN rfl C.x_chkNum hr (by decide) (ja (jb 2) jd) (jc jh)))) (zF (qW (ji C.c_chkNum hr (by decide) (ja (jb 2) jd) (jc jh)))
  (jF (Jr (qN rfl C.x_enough hr (by decide) (ja (jb 0) (ja (jb 1) (ja (jb 2) jd))) (jc (jc (jc jh))))))))))⟩
noncomputable def JD:LP->Option Str:=Js ["manner","setting","number"] 3 Jm.1
structure XTaken (P:Program) (w:World) (K:Fg) (mg:SV) (base:Heap):Prop where
 c_beh:jm P w K mg base "behind_changes" ["setting","changes"] 1 2 ah9
 x_taking:zB P w K mg base "taking" ["manner","setting","number"] 11 3 JD
noncomputable def afQ:{ F:Rho->Option Str // Zj XTaken "taken" adA ["manner","setting","number"] 11 F }:=
 ⟨_,fun P w K mg base f Kc A Ko s H E C hr=>
  (jF (acA (alU C.c_beh (alT (jb 1) (alS (qN rfl C.x_taking hr (by decide) (ja (jb 0) (ja (jb 1) (ja (jb 2) jd))) (jc (jc (jc jh)))))))))⟩
noncomputable def afR:LP->Option Str:=Js ["manner","setting","number"] 3 afQ.1
structure XQuo (P:Program) (w:World) (K:Fg) (mg:SV) (base:Heap):Prop where
 c_isWhole:jm P w K mg base "is_whole" ["thing","least","most"] 1 3 jU
 c_asked:jm P w K mg base "check_asked" ["manner","rods","number"] 5 3 Jd
 k_MOST_NUMBER:GC K mg "MOST_NUMBER" (.int 99999)
 x_asked:zB P w K mg base "check_asked" ["manner","rods","number"] 5 3 Q7
 x_plainR:zB P w K mg base "plain_rods" ["manner","rods","number"] 4 3 acI
 e_NoNumber:ad5 K mg "NoNumber"
noncomputable def agV:{ F:Rho->Option Str // Zj XQuo "quotient" adB aki 5 F }:=
 ⟨_,fun P w K mg base f Kc A Ko s H E C hr=>
  (QZ (jF (Jr (qN rfl C.x_asked hr (by decide) (ja (jb 0) (ja (jb 1) (ja (jb 2) jd))) (jc (jc (jc jh)))))) (zF (qW (ji C.c_asked hr (by decide) (ja (jb 0) (ja (jb 1) (ja (jb 2) jd))) (jc (jc (jc jh)))))
  (QZ (jF (QY (qm (qh (ji C.c_isWhole hr (by decide) (ja (jb 3) (ja jg (ja (zb C.k_MOST_NUMBER) jd))) (jc (jc (jc jh)))))) (jF (zG rfl C.e_NoNumber rfl)) qT)) (zF (qg (qm (qh (ji C.c_isWhole hr (by decide) (ja (jb 3) (ja jg (ja (zb C.k_MOST_NUMBER) jd))) (jc (jc (jc jh)))))) (je aeo
  jl) jl)
  (jF (anJ (qN rfl C.x_plainR hr (by decide) (ja (jb 0) (ja (jb 1) (ja (jb 2) jd))) (jc (jc (jc jh))))))))))⟩
noncomputable def akj:LP->Option Str:=Js aki 4 agV.1
noncomputable abbrev aad:Stmt:=top 48
structure CLValue (P:Program) (w:World) (K:Fg) (mg:SV) (base:Heap):Prop where
 tr:True
noncomputable abbrev acJ:List Str:=["_law_manner_here","_law_setting_here","_law_found","_law_upper","_law_lower"]
theorem QH:FnScope acJ ["_law_manner_here","_law_setting_here"] (jf aad):=⟨rfl,rfl,rfl,by decide +kernel,rfl,by decide +kernel,by decide +kernel⟩
noncomputable def abk:{ B:RO // aeH CLValue "_law_value" aad acJ 0 (zc (ZA (jJ aad) 1)) B }:=
 ⟨_,fun P w K mg base f Kc A Ko s H E C hr=>
  (je (jx 2 QH.nd (jo jB (jo jB (jo qo (jI (jb 0) jg) (jb 2)) (jo qo (jb 3) (jI (jb 0) jg))) (jb 4)))
  jl)⟩
noncomputable def acK:{ B:RO // zd CLValue "_law_value" aad acJ 0 B }:=
 ⟨_,fun P w K mg base f Kc A Ko s H E C hr=>
  (je (jx 2 QH.nd jg)
  (je (QT PassesOwn.never rfl (aa4 (jb 1)) (aiN (n:=2) rfl (Qt (jS 3 QH.nd) (Qt (jS 4 QH.nd) agj))) (abk.2 P w K mg base f Kc A Ko s H E C hr))
  (je (jA (jb 2))
  jl)))⟩
noncomputable def acL:LP->OP:=jv acJ 2 acK.1
noncomputable abbrev aaJ:Stmt:=top 49
structure CLRods (P:Program) (w:World) (K:Fg) (mg:SV) (base:Heap):Prop where
 t:Bare mg
noncomputable abbrev adD:List Str:=["_law_manner_here","_law_found","_law_upper"]
theorem abl:FnScope adD ["_law_manner_here"] (jf aaJ):=⟨rfl,rfl,rfl,by decide +kernel,rfl,by decide +kernel,by decide +kernel⟩
theorem amo:(["_law_lower","_law_upper"]:List Str).Nodup:=by decide +kernel
noncomputable def afS:{ B:RO // aeH CLRods "_law_rods" aaJ adD 0 (zc (ZA (jJ aaJ) 1)) B }:=
 ⟨_,fun P w K mg base f Kc A Ko s H E C hr=>
  (je (jx 1 abl.nd (jo jB (jb 1) (zv ["_law_lower","_law_upper"] [none,some 2] rfl (qD rfl C.t.range (ja (jo jB (jI (jb 0) jg) jg) jd)) (za (jf aaJ) adD (by decide +kernel))
   fun cl C' s0 H0 fp pn=>⟨(jS 0 amo),zg,(ze (ja (jb 1) (ja (jb 0) jd)))⟩)))
  jl)⟩
noncomputable def afT:{ B:RO // zd CLRods "_law_rods" aaJ adD 0 B }:=
 ⟨_,fun P w K mg base f Kc A Ko s H E C hr=>
  (je (jx 1 abl.nd (qC jd))
  (je (QT PassesOwn.never rfl (qD rfl C.t.range (ja (jo jB (jI (jb 0) jg) jg) jd)) (jS 2 abl.nd) (afS.2 P w K mg base f Kc A Ko s H E C hr))
  (je (jA (jb 1))
  jl)))⟩
noncomputable def afU:LP->OP:=jv adD 1 afT.1
noncomputable abbrev ZF:Stmt:=top 55
structure CLFewest (P:Program) (w:World) (K:Fg) (mg:SV) (base:Heap):Prop where
 t:Bare mg
 c_LRods:jm P w K mg base "_law_rods" ["_law_manner_here"] 1 1 afU
noncomputable abbrev abm:List Str:=["_law_manner_here","_law_digit_here","_law_some"]
theorem adE:FnScope abm ["_law_manner_here","_law_digit_here"] (jf ZF):=⟨rfl,rfl,rfl,by decide +kernel,rfl,by decide +kernel,by decide +kernel⟩
theorem amp:(["_law_rod","_law_digit_here","_law_manner_here"]:List Str).Nodup:=by decide +kernel
noncomputable def abn:{ B:RO // zd CLFewest "_law_fewest" ZF abm 1 B }:=
 ⟨_,fun P w K mg base f Kc A Ko s H E C hr=>
  (je (alM 2 ["_law_rod","_law_digit_here","_law_manner_here"] [none,some 1,some 0] rfl adE.nd (aa4 (ji C.c_LRods hr (by decide) (ja (jb 0) jd) (jc jh))) (za (jf ZF) abm (by decide +kernel))
   fun cl C' s0 H0 fp pn=>⟨(jS 0 amp),(ac6 (jV (aaw hr.units) (jo jB (jo qo (jI (jb 0) jg) (jI (jb 2) jg)) (jI (jb 0) jg)) (jb 1))),(ze (ja (j2 (apJ rfl) C.t.sum ap6 (ja (jb 0) jd)) (ja (jb 0) jd)))⟩)
  (je (jA (jI (jI (j2 (al2 hr.sort) C.t.sorted ake (ja (jb 2) jd)) jg) jg))
  jl))⟩
noncomputable def zj:LP->OP:=jv abm 2 abn.1
noncomputable abbrev aae:Stmt:=top 56
structure CLPlain (P:Program) (w:World) (K:Fg) (mg:SV) (base:Heap):Prop where
 t:Bare mg
 c_LFewest:jm P w K mg base "_law_fewest" ["_law_manner_here","_law_digit_here"] 2 2 zj
noncomputable abbrev acM:List Str:=["_law_manner_here","_law_rods_here","_law_number","_law_found","_law_k"]
theorem QI:FnScope acM ["_law_manner_here","_law_rods_here","_law_number"] (jf aae):=⟨rfl,rfl,rfl,by decide +kernel,rfl,by decide +kernel,by decide +kernel⟩
noncomputable def ZG:{ B:RO // aeH CLPlain "_law_plain" aae acM 2 (zc (ZA (jJ aae) 1)) B }:=
 ⟨_,fun P w K mg base f Kc A Ko s H E C hr=>
  (je (jx 3 QI.nd (jo jB (ze (ja (ji C.c_LFewest hr (by decide) (ja (jb 0) (ja (jo zl (jb 2) (jI (jb 0) jg)) jd)) (jc (jc jh))) jd)) (jb 3)))
  (je (jx 2 QI.nd (jo zL (jb 2) (jI (jb 0) jg)))
  jl))⟩
noncomputable def abo:{ B:RO // zd CLPlain "_law_plain" aae acM 2 B }:=
 ⟨_,fun P w K mg base f Kc A Ko s H E C hr=>
  (je (jx 3 QI.nd (ze jd))
  (je (QT PassesOwn.never rfl (qD rfl C.t.range (ja (jb 1) jd)) (jS 4 QI.nd) (ZG.2 P w K mg base f Kc A Ko s H E C hr))
  (je (jA (ard (jV (aaw hr.units) (jb 2) jg) (jb 3) ac4))
  jl)))⟩
noncomputable def aaf:LP->OP:=jv acM 3 abo.1
noncomputable abbrev aag:Stmt:=top 58
structure CLDigit (P:Program) (w:World) (K:Fg) (mg:SV) (base:Heap):Prop where
 t:Bare mg
noncomputable abbrev acN:List Str:=["_law_base","_law_number","_law_far_here","_law_k"]
theorem abZ:FnScope acN ["_law_base","_law_number","_law_far_here"] (jf aag):=⟨rfl,rfl,rfl,by decide +kernel,rfl,by decide +kernel,by decide +kernel⟩
noncomputable def agW:{ B:RO // aeH CLDigit "_law_digit" aag acN 0 (zc (ZA (jJ aag) 0)) B }:=
 ⟨_,fun P w K mg base f Kc A Ko s H E C hr=>
  (je (jx 1 abZ.nd (jo zL (jb 1) (jb 0)))
  jl)⟩
noncomputable def acO:{ B:RO // zd CLDigit "_law_digit" aag acN 0 B }:=
 ⟨_,fun P w K mg base f Kc A Ko s H E C hr=>
  (je (QT PassesOwn.never rfl (qD rfl C.t.range (ja (jb 2) jd)) (jS 3 abZ.nd) (agW.2 P w K mg base f Kc A Ko s H E C hr))
  (je (jA (jo zl (jb 1) (jb 0)))
  jl))⟩
noncomputable def acP:LP->OP:=jv acN 3 acO.1
noncomputable abbrev Ju:Stmt:=top 59
structure CLParted (P:Program) (w:World) (K:Fg) (mg:SV) (base:Heap):Prop where
 t:Bare mg
 c_LPlain:jm P w K mg base "_law_plain" ["_law_manner_here","_law_rods_here","_law_number"] 3 3 aaf
noncomputable abbrev ZH:List Str:=["_law_manner_here","_law_rods_here","_law_number","_law_by","_law_rows","_law_place","_law_far_here","_law_k"]
theorem zD:FnScope ZH ["_law_manner_here","_law_rods_here","_law_number","_law_by"] (jf Ju):=⟨rfl,rfl,rfl,by decide +kernel,rfl,by decide +kernel,by decide +kernel⟩
noncomputable def JJ:{ B:RO // adv 4 CLParted "_law_parted" Ju ZH 3 (zc (ZA (zc (ZA (jJ Ju) 2)) 1)) B }:=
 ⟨_,fun P w K mg base f Kc A Ko s H E C hr=>
  (jz (Jj 6 zD.nd (jo qo (jb 6) (jI (jb 0) jg)))
  qE)⟩
noncomputable def JK:{ B:RO // adv 4 CLParted "_law_parted" Ju ZH 3 (zc (ZA (jJ Ju) 2)) B }:=
 ⟨_,fun P w K mg base f Kc A Ko s H E C hr=>
  (jz (Jj 6 zD.nd (jb 3))
  (jz (aaX PassesOwn.never rfl (qD rfl C.t.range (ja (jb 5) jd)) (adg 7 zD.nd) (JJ.2 P w K mg base f Kc A Ko s H E C hr))
  (jz (aaY (aet 4 (ze (ja (jo zL (jb 2) (jb 6)) (ja (ji C.c_LPlain hr (by decide) (ja (jb 0) (ja (jb 1) (ja (jo zl (jb 2) (jb 6)) jd))) (jc (jc (jc jh)))) jd)))))
  (jz (Jj 2 zD.nd (jo zl (jb 2) (jb 6)))
  qE))))⟩
noncomputable def QJ:{ B:RO // zd CLParted "_law_parted" Ju ZH 3 B }:=
 ⟨_,fun P w K mg base f Kc A Ko s H E C hr=>
  (Qz (QA 4 zD.nd (adh jd)
  (jz (apP (jV anE (ji C.c_LPlain hr (by decide) (ja (jb 0) (ja (jb 1) (ja (jb 2) jd))) (jc (jc (jc jh)))) ac4) (jz (QX (JM 2 (.tuple [.str "refused",.int 4]) (by kernel_rfl)))
  qE) qE)
  (jz (aaX PassesOwn.never rfl (aa4 (ap0 (ami rfl C.t.list C.t.range (ja (jb 1) jd)))) (adg 5 zD.nd) (JK.2 P w K mg base f Kc A Ko s H E C hr))
  (jz (QX (jb 4))
  qE)))))⟩
noncomputable def JR:LP->OP:=jv ZH 4 QJ.1
noncomputable abbrev JL:Stmt:=top 52
structure CLRefused (P:Program) (w:World) (K:Fg) (mg:SV) (base:Heap):Prop where
 t:Bare mg
 errT:ErrT K mg "BeadError" qQ
noncomputable abbrev ab0:List Str:=["_law_e","_law_flags"]
theorem ZI:FnScope ab0 ["_law_e"] (jf JL):=⟨rfl,rfl,rfl,by decide +kernel,rfl,by decide +kernel,by decide +kernel⟩
noncomputable def aeM:{ B:RO // ∀ (P:Program) (w:World) (K:Fg) (mg:SV) (base:Heap) (f:Addr) (Kc:Value) (A:Around) (Ko:List Env) (s:Shared) (H:Hp) (E:XK),CLRefused P w K mg base->RoomH 0 (A.deeper (envOfC "_law_refused" (jf JL) s.heap.objs.size f Kc))->
  aao (cxH P w K mg base ab0 "_law_refused" (jf JL) f Kc A Ko s H E) (jJ JL) B }:=
 ⟨_,fun P w K mg base f Kc A Ko s H E C hr=>
  (je (jx 1 ZI.nd (qC (ja (ZU C.errT C.t.isi (jb 0)) (ja (ZU C.errT C.t.isi (jb 0)) (ja (ZU C.errT C.t.isi (jb 0)) jd)))))
  (je (jx 1 ZI.nd (jo jB (jb 1) (qC (ja (ZU C.errT C.t.isi (jb 0)) (ja (ZU C.errT C.t.isi (jb 0)) (ja (ZU C.errT C.t.isi (jb 0)) jd))))))
  (je (qg (Qs (abI (jV (QU hr.units) (aj5 (jb 1) J9) jg) (ZS (qm (qh (anQ C.errT C.t.isi C.t.vale (jb 0))))))) (je (jA (ze (ja afj (ja (alw jg) jd))))
  jl) jl)
  (je (jA (ze (ja afj (ja (aj4 (jb 1) J9) jd))))
  jl))))⟩
noncomputable def qK:LP->OP:=jv ab0 1 aeM.1
noncomputable abbrev ab1:Stmt:=top 53
structure CLTold (P:Program) (w:World) (K:Fg) (mg:SV) (base:Heap):Prop where
 c_taking:jm P w K mg base "taking" ["manner","setting","number"] 11 3 zy
 c_taken:jm P w K mg base "taken" ["manner","setting","number"] 12 3 ZB
 c_small:jm P w K mg base "is_small" ["manner","setting"] 7 2 zQ
 k_taking:GC K mg "taking" (fnD "taking")
 k_taken:GC K mg "taken" (fnD "taken")
 x_taking:zB P w K mg base "taking" ["manner","setting","number"] 11 3 JD
 x_taken:zB P w K mg base "taken" ["manner","setting","number"] 12 3 afR
 x_small:zB P w K mg base "is_small" ["manner","setting"] 7 2 Qk
 h_LRefused:aa2 P w K mg base "_law_refused" ["_law_e"] 1 1 qK
 errT:ErrT K mg "BeadError" qQ
noncomputable abbrev aia:List Str:=["_law_way","_law_manner_here","_law_setting_here","_law_number","_law_e"]
theorem agX:FnScope aia ["_law_way","_law_manner_here","_law_setting_here","_law_number"] (jf ab1):=⟨rfl,rfl,rfl,by decide +kernel,rfl,by decide +kernel,by decide +kernel⟩
noncomputable def zR:{ B:RO // ∀ (P:Program) (w:World) (K:Fg) (mg:SV) (base:Heap) (f:Addr) (Kc:Value) (A:Around) (Ko:List Env) (s:Shared) (H:Hp) (E:XK),CLTold P w K mg base->Room 12 (A.deeper (envOfC "_law_told" (jf ab1) s.heap.objs.size f Kc))->
  ajY (zT CX0 P w K mg base aia "_law_told" (jf ab1) f Kc A Ko s H E) (jJ ab1) B }:=
 ⟨_,fun P w K mg base f Kc A Ko s H E C hr=>
  (aev (agB (n:=5) 4 ahQ rfl agX.nd C.errT
   (fun E'=>(je (qg (jV Zp (jb 0) jg) (je (jA (al4 (aa6 C.c_taking hr (by decide) (jI (qC (ja (zb C.k_taking) (ja (zb C.k_taken) jd))) (jb 0)) (ja (jb 1) (ja (jb 2) (ja (jb 3) jd))) (jc (jc (jc jh)))) (aa6 C.c_taken hr (by decide) (jI (qC (ja (zb C.k_taking) (ja (zb C.k_taken) jd))) (jb 0)) (ja (jb 1) (ja (jb 2) (ja (jb 3) jd))) (jc (jc (jc jh))))))
  jl) jl)
  (je (jA (ji C.c_small hr (by decide) (ja (jb 1) (ja (jb 2) jd)) (jc (jc jh))))
  jl)))
   (fun E'=>(QZ (jF (QY (jV Zp (jb 0) jg) (jF (acA (apZ (aeD rfl C.x_taking hr (by decide) (jI (qC (ja (zb C.k_taking) (ja (zb C.k_taken) jd))) (jb 0)) (ja (jb 1) (ja (jb 2) (ja (jb 3) jd))) (jc (jc (jc jh)))) (aeD rfl C.x_taken hr (by decide) (jI (qC (ja (zb C.k_taking) (ja (zb C.k_taken) jd))) (jb 0)) (ja (jb 1) (ja (jb 2) (ja (jb 3) jd))) (jc (jc (jc jh))))))) qT)) (zF (qg (jV Zp (jb 0) jg) (je (jA (al4 (aa6 C.c_taking hr (by decide) (jI (qC (ja (zb C.k_taking) (ja (zb C.k_taken) jd))) (jb 0)) (ja (jb 1) (ja (jb 2) (ja (jb 3) jd))) (jc (jc (jc jh)))) (aa6 C.c_taken hr (by decide) (jI (qC (ja (zb C.k_taking) (ja (zb C.k_taken) jd))) (jb 0)) (ja (jb 1) (ja (jb 2) (ja (jb 3) jd))) (jc (jc (jc jh))))))
  jl) jl)
  (jF (acA (qN rfl C.x_small hr (by decide) (ja (jb 1) (ja (jb 2) jd)) (jc (jc jh))))))))
   (fun e=>(je (jA (agx C.h_LRefused (RoomH.mark (BX.Room.h (hr.mono (j:=1) (by decide)))) (ja (jb 4) jd) (jc jh))) jl))) (aiY jl))⟩
noncomputable def jY:LP->OP:=jv aia 4 zR.1
noncomputable abbrev Jg:Stmt:=top 54
structure CLQuotient (P:Program) (w:World) (K:Fg) (mg:SV) (base:Heap):Prop where
 c_quot:jm P w K mg base "quotient" ["manner","rods","number","by"] 6 4 agU
 x_quot:zB P w K mg base "quotient" ["manner","rods","number","by"] 6 4 akj
 h_LRefused:aa2 P w K mg base "_law_refused" ["_law_e"] 1 1 qK
 errT:ErrT K mg "BeadError" qQ
noncomputable abbrev aaK:List Str:=["_law_manner_here","_law_rods_here","_law_number","_law_by","_law_e"]
theorem abp:FnScope aaK ["_law_manner_here","_law_rods_here","_law_number","_law_by"] (jf Jg):=⟨rfl,rfl,rfl,by decide +kernel,rfl,by decide +kernel,by decide +kernel⟩
noncomputable def Jh:{ B:RO // ∀ (P:Program) (w:World) (K:Fg) (mg:SV) (base:Heap) (f:Addr) (Kc:Value) (A:Around) (Ko:List Env) (s:Shared) (H:Hp) (E:XK),CLQuotient P w K mg base->Room 6 (A.deeper (envOfC "_law_quotient" (jf Jg) s.heap.objs.size f Kc))->
  ajY (zT CX0 P w K mg base aaK "_law_quotient" (jf Jg) f Kc A Ko s H E) (jJ Jg) B }:=
 ⟨_,fun P w K mg base f Kc A Ko s H E C hr=>
  (aev (agB (n:=5) 4 ahQ rfl abp.nd C.errT
   (fun E'=>(je (jA (ji C.c_quot hr (by decide) (ja (jb 0) (ja (jb 1) (ja (jb 2) (ja (jb 3) jd)))) (jc (jc (jc (jc jh))))))
  jl))
   (fun E'=>(jF (acA (qN rfl C.x_quot hr (by decide) (ja (jb 0) (ja (jb 1) (ja (jb 2) (ja (jb 3) jd)))) (jc (jc (jc (jc jh))))))))
   (fun e=>(je (jA (agx C.h_LRefused (RoomH.mark (BX.Room.h (hr.mono (j:=1) (by decide)))) (ja (jb 4) jd) (jc jh))) jl))) (aiY jl))⟩
noncomputable def j4:LP->OP:=jv aaK 4 Jh.1
noncomputable abbrev asN (C:CC) (qual:Str) (st:Stmt) (N:List Str) (k:Nat) (T:TRS):Prop:=
 ∀ (P:Program) (w:World) (K:Fg) (mg:SV) (base:Heap) (f:Addr) (Kc:Value) (A:Around) (Ko:List Env) (s:Shared) (H:Hp) (E:XK),C P w K mg base->Room k (A.deeper (envOfC qual (jf st) s.heap.objs.size f Kc))->
  ad6 (zT (CXt P w) P w K mg base N qual (jf st) f Kc A Ko s H E) (jJ st) T
noncomputable abbrev ai8 (C:CC) (qual:Str) (st:Stmt) (N:List Str) (k:Nat) (sts:List Stmt) (T:TRS):Prop:=
 ∀ (P:Program) (w:World) (K:Fg) (mg:SV) (base:Heap) (f:Addr) (Kc:Value) (A:Around) (Ko:List Env) (s:Shared) (H:Hp) (E:XK),C P w K mg base->Room k (A.deeper (envOfC qual (jf st) s.heap.objs.size f Kc))->
  ad6 (zT CX0 P w K mg base N qual (jf st) f Kc A Ko s H E).nox sts T
noncomputable abbrev asO (C:CC) (qual:Str) (st:Stmt) (N:List Str) (k:Nat) (T:TRS):Prop:=
 ∀ (P:Program) (w:World) (K:Fg) (mg:SV) (base:Heap) (f:Addr) (Kc:Value) (A:Around) (Ko:List Env) (s:Shared) (H:Hp) (E:XK),C P w K mg base->Room k (A.deeper (envOfC qual (jf st) s.heap.objs.size f Kc))->
  arA (zT CX0 P w K mg base N qual (jf st) f Kc A Ko s H E) (jJ st) T
noncomputable abbrev zu:Stmt:=top 57
structure CLTaking (P:Program) (w:World) (K:Fg) (mg:SV) (base:Heap):Prop where
 t:Bare mg
 c_LDigit:jm P w K mg base "_law_digit" ["_law_base","_law_number","_law_far_here"] 1 3 acP
 c_LFewest:jm P w K mg base "_law_fewest" ["_law_manner_here","_law_digit_here"] 2 2 zj
noncomputable abbrev QK:List Str:=["_law_manner_here","_law_setting_here","_law_number","_law_worths","_law_here","_law_found","_law_rod","_law_far_here","_law_digit_here","_law_row","_law_at"]
theorem qj:FnScope QK ["_law_manner_here","_law_setting_here","_law_number"] (jf zu):=⟨rfl,rfl,rfl,by decide +kernel,rfl,by decide +kernel,by decide +kernel⟩
theorem agY:(["_law_rod","_law_manner_here"]:List Str).Nodup:=by decide +kernel
noncomputable def aah:{ B:TRS // ai8 CLTaking "_law_taking" zu QK 2 (abP (ZA (zc (ZA (jJ zu) 3)) 4)) B }:=
 ⟨_,fun P w K mg base f Kc A Ko s H E C hr=>
  (ju (adt 3 (Q1 (jb 10)) (Qb 3 (jo Qa (jI (jb 3) (jb 10)) (jb 8))))
  (ju (aa7 8 qj.nd (Qb 3 (zZ al5 C.t.int amj (ja (ac5 Zp (jI (jb 3) (jb 10)) jg) jd))))
  (ju (adt 3 (Q1 (jb 10)) (Qb 3 (jo zl (jI (jb 3) (jb 10)) (jI (jb 0) jg))))
  (ju (adt 4 (Q1 (jb 10)) (Qb 3 (ji C.c_LFewest hr (by decide) (ja (jb 0) (ja (jI (jb 3) (jb 10)) jd)) (jc (jc jh)))))
  (ju (aa7 9 qj.nd (anU jB (anZ (JN (Qb 4 (ze (ja (jb 10) (ja (jI (jb 4) (jb 10)) jd)))) acB)) (Q1 (jb 9))))
  (ju (qi (jx 10 qj.nd (jo Qa (jb 10) jg)))
  QC))))))⟩
noncomputable def aai:{ B:TRS // ai8 CLTaking "_law_taking" zu QK 2 (zc (ZA (jJ zu) 3)) B }:=
 ⟨_,fun P w K mg base f Kc A Ko s H E C hr=>
  (ju (aa7 7 qj.nd (Qb 4 (jo Qa (jo Qa (j2 zM C.t.len zN (ja (jb 4) jd)) jg) (jb 6))))
  (ju (qi (jx 8 qj.nd (ji C.c_LDigit hr (by decide) (ja (jI (jb 0) jg) (ja (jb 2) (ja (jb 7) jd))) (jc (jc (jc jh))))))
  (ju (qi (jx 9 qj.nd (qC jd)))
  (ju (qi (jx 10 qj.nd (jb 6)))
  (ju (akc 10 PassesOwn.never (ahZ (jV afm (jb 8) jg)) (aah.2 P w K mg base f Kc A Ko s H E C hr))
  (ju (qi (jx 5 qj.nd (jo jB (jb 5) (jb 9))))
  QC))))))⟩
noncomputable def abq:{ B:TRS // ai8 CLTaking "_law_taking" zu QK 2 (jJ zu) B }:=
 ⟨_,fun P w K mg base f Kc A Ko s H E C hr=>
  (ju (amg 3 ["_law_rod","_law_manner_here"] [none,some 0] rfl qj.nd (aa4 (jb 1)) (za (jf zu) QK (by decide +kernel))
   fun cl C' s0 H0 fp pn=>⟨(jS 0 agY),zg,(jo jB (jo qo (jI (jb 0) jg) (jI (jb 1) jg)) (jI (jb 0) jg))⟩)
  (ju (aa7 4 qj.nd (anX (aeu C.t.list acC (ja (jb 1) jd))))
  (ju (qi (jx 5 qj.nd (qC jd)))
  (ju (ame PassesOwn.never rfl (ah3 rfl C.t.range (JN (Qb 4 (j2 zM C.t.len zN (ja (jb 4) jd))) acB)) (jS 6 qj.nd) (aai.2 P w K mg base f Kc A Ko s H E C hr))
  (ju (anW (anY (JN (Q1 (jb 5)) (JN (Qb 4 (zZ aaZ C.t.tuple JO (ja (jb 4) jd))) acB))))
  QC)))))⟩
noncomputable def JS:GC3:=amc QK abq.1
noncomputable abbrev ad8:Stmt:=top 60
structure CLaw (P:Program) (w:World) (K:Fg) (mg:SV) (base:Heap):Prop where
 k_LTaking:ai5 P w K mg base "_law_taking" ["_law_manner_here","_law_setting_here","_law_number"] 3 3 JS
 t:Bare mg
 c_manner:jm P w K mg base "_law_manner" ["_law_script","_law_at"] 3 2 Z6
 c_setting:jm P w K mg base "_law_setting" ["_law_script","_law_at","_law_manner_here","_law_most"] 3 4 an8
 c_drawn:jm P w K mg base "_law_drawn" ["_law_script","_law_k","_law_many"] 2 3 qI
 c_LFewest:jm P w K mg base "_law_fewest" ["_law_manner_here","_law_digit_here"] 2 2 zj
 c_LValue:jm P w K mg base "_law_value" ["_law_manner_here","_law_setting_here"] 1 2 acL
 c_LTold:jm P w K mg base "_law_told" ["_law_way","_law_manner_here","_law_setting_here","_law_number"] 13 4 jY
 c_LQuotient:jm P w K mg base "_law_quotient" ["_law_manner_here","_law_rods_here","_law_number","_law_by"] 7 4 j4
 c_LParted:jm P w K mg base "_law_parted" ["_law_manner_here","_law_rods_here","_law_number","_law_by"] 4 4 JR
noncomputable abbrev agZ:List Str:=["_law_script","_law_manner_here","_law_setting_here","_law_rods_here","_law_whole","_law_plain_here","_law_number","_law_due","_law_one","_law_by","_law_odd","_law_told_here","_law_bad"]
theorem zk:FnScope agZ ["_law_script"] (jf ad8):=⟨rfl,rfl,rfl,by decide +kernel,rfl,by decide +kernel,by decide +kernel⟩
theorem amq:(["_law_k","_law_manner_here","_law_script"]:List Str).Nodup:=by decide +kernel
theorem amr:(["_law_way","_law_manner_here","_law_setting_here","_law_number"]:List Str).Nodup:=by decide +kernel
theorem ams:(["_law_way","_law_manner_here","_law_bad","_law_odd"]:List Str).Nodup:=by decide +kernel
theorem amt:(["_law_way","_law_bad","_law_odd","_law_manner_here"]:List Str).Nodup:=by decide +kernel
noncomputable def aog:{ B:TRS // ai8 CLaw "law" ad8 agZ 13 (jJ ad8) B }:=
 ⟨_,fun P w K mg base f Kc A Ko s H E C hr=>
  (ju (qi (jx 1 zk.nd (ji C.c_manner hr (by decide) (ja (jb 0) (ja jg jd)) (jc (jc jh)))))
  (ju (qi (jx 2 zk.nd (ji C.c_setting hr (by decide) (ja (jb 0) (ja jg (ja (jb 1) (ja jg jd)))) (jc (jc (jc (jc jh)))))))
  (ju (qi (jx 3 zk.nd (j2 zM C.t.len zN (ja (jb 2) jd))))
  (ju (qi (qg (jV afm (ji C.c_drawn hr (by decide) (ja (jb 0) (ja jg (ja jg jd))) (jc (jc (jc jh)))) jg) (je (jx 2 zk.nd (zZ aaZ C.t.tuple JO (ja (zv ["_law_k","_law_manner_here","_law_script"] [none,some 1,some 0] rfl (qD rfl C.t.range (ja (jb 3) jd)) (za (jf ad8) agZ (by decide +kernel))
   fun cl C' s0 H0 fp pn=>⟨(jS 0 amq),zg,(ji C.c_LFewest hr (by decide) (ja (jb 1) (ja (ji C.c_drawn hr (by decide) (ja (jb 2) (ja (jo jB jg (jb 0)) (ja (jI (jb 1) jg) jd))) (jc (jc (jc jh)))) jd)) (jc (jc jh)))⟩) jd)))
  jl) jl))
  (ju (qi (jx 4 zk.nd (ji C.c_LValue hr (by decide) (ja (jb 1) (ja (jb 2) jd)) (jc (jc jh)))))
  (ju (qi (jx 5 zk.nd (ac5 (aaw hr.units) (zv ["_law_rod","_law_manner_here"] [none,some 1] rfl (aa4 (jb 2)) (za (jf ad8) agZ (by decide +kernel))
   fun cl C' s0 H0 fp pn=>⟨(jS 0 agY),(ac6 (jV afn (jo jB (jo qo (jI (jb 0) jg) (jI (jb 1) jg)) (jI (jb 0) jg)) (jI (jb 1) jg))),(jb 0)⟩) (qC jd))))
  (ju (qi (jx 6 zk.nd (ji C.c_drawn hr (by decide) (ja (jb 0) (ja jg (ja (j2 (aiP rfl) C.t.min afr (ja jg (ja (jo jB (jb 4) jg) jd))) jd))) (jc (jc (jc jh))))))
  (ju (qi (jx 7 zk.nd (jo Zw (JM 3 (.list [.tuple [.str "refused",.int 1]]) (by kernel_rfl)) jg)))
  (ju (ap3 (ahZ (qh (jb 5))) (ju (aa7 7 zk.nd (ap1 (ahZ (jV ac7 (jb 6) (jb 4))) (ah2 C.k_LTaking hr (by decide) (JN (Q1 (jb 1)) (JN (Q1 (jb 2)) (JN (Q1 (jb 6)) acB)))) (Q1 (jo Zw (JM 3 (.list [.tuple [.str "refused",.int 4]]) (by kernel_rfl)) jg))))
  QC) QC)
  (ju (qi (qg (jV (QU hr.units) (zv ["_law_way","_law_manner_here","_law_setting_here","_law_number"] [none,some 1,some 2,some 6] rfl (qD rfl C.t.range (ja jg jd)) (za (jf ad8) agZ (by decide +kernel))
   fun cl C' s0 H0 fp pn=>⟨(jS 0 amr),zg,(ji C.c_LTold hr (by decide) (ja (jb 0) (ja (jb 1) (ja (jb 2) (ja (jb 3) jd)))) (jc (jc (jc (jc jh)))))⟩) (zZ aeC C.t.list acC (ja (jb 7) jd))) (je (jA J9)
  jl) jl))
  (ju (qi (qg (jV (QU hr.units) (ji C.c_LTold hr (by decide) (ja jg (ja (jb 1) (ja (jb 2) (ja jg jd)))) (jc (jc (jc (jc jh))))) (jb 5)) (je (jA J9)
  jl) jl))
  (ju (qi (jx 8 zk.nd (ji C.c_drawn hr (by decide) (ja (jb 0) (ja jg (ja (jI (JM 2 (.list [.int 20,.int 200,.int 2000]) (by kernel_rfl)) (ji C.c_drawn hr (by decide) (ja (jb 0) (ja jg (ja jg jd))) (jc (jc (jc jh))))) jd))) (jc (jc (jc jh))))))
  (ju (qi (jx 9 zk.nd (jo jB jg (ji C.c_drawn hr (by decide) (ja (jb 0) (ja jg (ja (jI (JM 2 (.list [.int 5,.int 50]) (by kernel_rfl)) (ji C.c_drawn hr (by decide) (ja (jb 0) (ja jg (ja jg jd))) (jc (jc (jc jh))))) jd))) (jc (jc (jc jh)))))))
  (ju (qi (qg (jV (QU hr.units) (ji C.c_LQuotient hr (by decide) (ja (jb 1) (ja (jb 3) (ja (jb 8) (ja (jb 9) jd)))) (jc (jc (jc (jc jh))))) (ji C.c_LParted hr (by decide) (ja (jb 1) (ja (jb 3) (ja (jb 8) (ja (jb 9) jd)))) (jc (jc (jc (jc jh)))))) (je (jA J9)
  jl) jl))
  (ju (qi (jx 10 zk.nd (jI (qC (ja (alw jg) (ja jg (ja ac4 (ja J9 (ja afj jd)))))) (ji C.c_drawn hr (by decide) (ja (jb 0) (ja jg (ja jg jd))) (jc (jc (jc jh)))))))
  (ju (qi (jx 11 zk.nd (qC (ja (ji C.c_LTold hr (by decide) (ja jg (ja (jb 1) (ja (JM 3 (.tuple [.tuple [.int 0,.int 0]]) (by kernel_rfl)) (ja (jb 10) jd)))) (jc (jc (jc (jc jh))))) (ja (ji C.c_LQuotient hr (by decide) (ja (jb 1) (ja jg (ja (jb 10) (ja jg jd)))) (jc (jc (jc (jc jh))))) (ja (ji C.c_LQuotient hr (by decide) (ja (jb 1) (ja jg (ja jg (ja (jb 10) jd)))) (jc (jc (jc (jc jh))))) jd))))))
  (ju (qi (jx 11 zk.nd (jo jB (jb 11) (qC (ja (ji C.c_LQuotient hr (by decide) (ja (jb 1) (ja jg (ja jg (ja jg jd)))) (jc (jc (jc (jc jh))))) (ja (ji C.c_LQuotient hr (by decide) (ja (jb 1) (ja jg (ja jg (ja jg jd)))) (jc (jc (jc (jc jh))))) jd))))))
  (ju (qi (qg (Qs (abI (jV (QU hr.units) (jb 11) (jo Zw (JM 3 (.list [.tuple [.str "refused",.int 2]]) (by kernel_rfl)) jg)) (ZS (jV (QU hr.units) (ji C.c_LQuotient hr (by decide) (ja (jb 1) (ja jg (ja jg (ja jg jd)))) (jc (jc (jc (jc jh))))) (ji C.c_LParted hr (by decide) (ja (jb 1) (ja jg (ja jg (ja jg jd)))) (jc (jc (jc (jc jh))))))))) (je (jA J9)
  jl) jl))
  (ju (qi (jx 12 zk.nd (jI (qC (ja ac4 (ja (ze jd) (ja (zZ aeC C.t.list acC (ja (jb 2) jd)) jd)))) (ji C.c_drawn hr (by decide) (ja (jb 0) (ja jg (ja jg jd))) (jc (jc (jc jh)))))))
  (ju (qi (qg (jV (QU hr.units) (zv ["_law_way","_law_manner_here","_law_bad","_law_odd"] [none,some 1,some 12,some 10] rfl (qD rfl C.t.range (ja jg jd)) (za (jf ad8) agZ (by decide +kernel))
   fun cl C' s0 H0 fp pn=>⟨(jS 0 ams),zg,(ji C.c_LTold hr (by decide) (ja (jb 0) (ja (jb 1) (ja (jb 2) (ja (jb 3) jd)))) (jc (jc (jc (jc jh)))))⟩) (jo Zw (JM 3 (.list [.tuple [.str "refused",.int 1]]) (by kernel_rfl)) jg)) (je (jA J9)
  jl) jl))
  (ju (qi (jx 11 zk.nd (jo jB (zv ["_law_way","_law_bad","_law_odd","_law_manner_here"] [none,some 12,some 10,some 1] rfl (qD rfl C.t.range (ja jg jd)) (za (jf ad8) agZ (by decide +kernel))
   fun cl C' s0 H0 fp pn=>⟨(jS 0 amt),zg,(ji C.c_LTold hr (by decide) (ja (jb 0) (ja (agu (jb 3) jg) (ja (jb 1) (ja (jb 2) jd)))) (jc (jc (jc (jc jh)))))⟩) (qC (ja (ji C.c_LQuotient hr (by decide) (ja (agu (jb 1) jg) (ja (jb 10) (ja (jb 10) (ja (jb 10) jd)))) (jc (jc (jc (jc jh))))) jd)))))
  (ju (qi (jA (ac5 (aaw hr.units) (jb 11) (jo Zw (JM 3 (.list [.tuple [.str "refused",.int 0]]) (by kernel_rfl)) jg))))
  QC))))))))))))))))))))))⟩
noncomputable def amu:GC3:=amc agZ aog.1
theorem j1 (i a b:Int):jU [.int i,.int a,.int b]=some (.bool (decide (a<=i) && decide (i<=b))):=by
 by_cases h:a<=i <;> simp [jU,jv,aba,jE,jM,ifS,orB,tst,lkp,Qj,tyn,asB,zo,chn,qJ,qq,qy,h]
theorem JE (u e l b x y:Int) (h:-18446744073709551616<x/\x<18446744073709551616):qw [.tuple [.int u,.int e,.int l,.int b],.tuple [.int x,.int y]]=some (.int (x*e+y)):=by
 simp [qw,jv,abM,jE,jM,op2,lkp,dIx,atI,ixN,qq,qy,cst,zp,zh,h]
theorem ab2 (x y:Int):qY [.tuple [.int x,.int y]]=some (.int (x+y)):=by
 simp [qY,jv,ah6,jE,jM,op2,lkp,dIx,atI,ixN,qq,qy,cst,zh]
theorem ZJ {n:Nat}{i:Int} (h0:0<=i) (h:i.toNat<n):ixN n i=some i.toNat:=by
 unfold ixN
 rw [if_pos h0,if_pos (by omega)]
noncomputable def okN (u e l b:Int):Bool:=decide (0<=u) && decide (u<=3) && decide (1<=e) && decide (e<=5) && decide (e - 1<=l) && decide (1<=l) && decide (l<=11) && decide (2<=b) && decide (b<=16) && decide (b<=u*e+l+1)
noncomputable def qR (u l:Int):LP:=zH (u+1).toNat (l+1).toNat
noncomputable def j5 (e:Int):PyData->Int
 | .tuple [.int x,.int y]=>x*e+y
 | _=>-1
noncomputable def fpr (m:PyData) (d:Int):Int × Int:=match zO [m,.int d] with
 | some (.tuple [.int x,.int y])=>(x,y)
 | _=>(0,0)
noncomputable def pr (p:Int × Int):PyData:= .tuple [.int p.1,.int p.2]
noncomputable def jC (ps:List (Int × Int)):PyData:= .tuple (ps.map pr)
noncomputable def unP:PyData->Option (Int × Int)
 | .tuple [.int x,.int y]=>some (x,y)
 | _=>none
noncomputable def okP (u l:Int) (p:Int × Int):Bool:=decide (0<=p.1) && decide (p.1<=u) && decide (0<=p.2) && decide (p.2<=l)
noncomputable def okS (u l:Int) (ps:List (Int × Int)):Bool:=decide (1<=ps.length) && decide (ps.length<=4) && ps.all (okP u l)
noncomputable def val (b e:Int) (ps:List (Int × Int)):Int:=ps.foldl (fun n p=>n*b+wt e p) 0
noncomputable def dgl (b:Int):Nat->Int->List Int
 | 0,_=>[]
 | 1,n=>[n]
 | k+2,n=>dgl b (k+1) (n / b)++[n % b]
noncomputable def pln (m:PyData) (b:Int) (r:Nat) (n:Int):List (Int × Int):=(dgl b r n).map (fpr m)
noncomputable def arD (e:Int):List Int->LP->List Int
 | c,[]=>c
 | c,r::rs=>arD e (c.set (j5 e r).toNat (c.getD (j5 e r).toNat 0+1)) rs
noncomputable def arE (u e l:Int):List Int:=arD e (List.replicate (u*e+l+1).toNat 0) (qR u l)
noncomputable def cnt (u e l n:Int):Int:=((qR u l).filter fun r=>j5 e r == n).length
noncomputable def okM (u e l b:Int):Bool:=decide (0<=u) && decide (u<=3) && decide (1<=e) && decide (e<=5) && decide (e - 1<=l) && decide (1<=l) && decide (l<=10) && decide (2<=b) && decide (b<=16) && decide (b<=u*e+l+1)
theorem aeN {n m:Nat}{d:PyData} (h:d ∈ zH n m):∃ i j:Nat,i<n/\j<m/\d= .tuple [.int i,.int j]:=by
 obtain ⟨i,hi,hd⟩:=List.mem_flatMap.mp h
 obtain ⟨j,hj,rfl⟩:=List.mem_map.mp hd
 exact ⟨i,j,List.mem_range.mp hi,List.mem_range.mp hj,rfl⟩
theorem Qe (i:Int):okD (.int i)=true:=by simp [okD,PyData.canLay0,PyData.depth]
theorem ack {u e l b:Int} (hu:0<=u) (hu':u<100) (hl:0<=l) (hl':l<100):JP [jj u e l b]=some (.list (qR u l)):=by
 simp [JP,jj,qR,hu,hl,show u<1000 by omega,show l<1000 by omega]
theorem adF {u l:Int} (hu':u<100) (hl':l<100):few (qR u l)=true:=by
 simp only [few,qR,abb,decide_eq_true_eq]
 have:(u+1).toNat*(l+1).toNat<=100*100:=Nat.mul_le_mul (by omega) (by omega)
 omega
theorem aeO {u e l b:Int} (hu':u<100) {d:PyData} (h:d ∈ qR u l):qw [jj u e l b,d]=some (.int (j5 e d)):=by
 obtain ⟨i,j,hi,hj,rfl⟩:=aeN h
 exact JE u e l b i j (by omega)
theorem amv (ns:List Int):okD (.list (ns.map PyData.int))=true:=by
 have h1:∀ ns:List Int,PyData.canLayAll0 (ns.map PyData.int)=true:=fun ns=>by
  induction ns with
  | nil=>rfl
  | cons n ns ih=>simp [PyData.canLayAll0,PyData.canLay0,ih]
 have h2:∀ ns:List Int,PyData.depthAll (ns.map PyData.int)=0:=fun ns=>by
  induction ns with
  | nil=>rfl
  | cons n ns ih=>simp [PyData.depthAll,PyData.depth,ih]
 simp [okD,PyData.canLay0,h1,PyData.depth,h2]
theorem amw (ns:List Int) (d:Int):(ns.map PyData.int).any (fun z=>PyData.eqv z (.int d))=ns.any (fun z=>z == d):=by
 induction ns with
 | nil=>rfl
 | cons n ns ih=>simp only [List.map_cons,List.any_cons,ih]; rfl
theorem abr {α:Type} (f:α->Bool):∀ xs:List α,bls (xs.map fun d=>PyData.bool (f d))=some (xs.map f)
 | []=>rfl
 | x::xs=>by simp [bls,asB,abr f xs]
theorem ix0 (u e l b:Int):dIx (jj u e l b) (.int 0)=some (.int u):=rfl
theorem ix1 (u e l b:Int):dIx (jj u e l b) (.int 1)=some (.int e):=rfl
theorem ix2 (u e l b:Int):dIx (jj u e l b) (.int 2)=some (.int l):=rfl
theorem ix3 (u e l b:Int):dIx (jj u e l b) (.int 3)=some (.int b):=rfl
theorem abt {j:Int} (h:0<=j) (h':j<1000000):Jp [.int j]=some (qP 0 j.toNat):=by
 unfold Jp
 exact if_pos (by omega)
theorem aaj (a b:Int):PyData.eqv (.int a) (.int b)=(a == b):=by unfold PyData.eqv; rfl
theorem adG {u e l b:Int} (hu:0<=u) (hu':u<100) (hl:0<=l) (hl':l<100) (hb:0<=b) (hb':b<100):abc [jj u e l b]=some (.bool ((List.range b.toNat).all fun d=>((qR u l).map (j5 e)).any fun z=>z == (d:Int))):=by
 have h1:=ack (e:=e) (b:=b) hu hu' hl hl'
 have h2:=adF hu' hl'
 have h4:few (qP 0 b.toNat)=true:=by simp [few,qP]; omega
 simp only [abc,jv,afD,jE,jM,qq,ql,itL,jy,jk,jr,lkp,QS,List.length_cons,List.length_nil,zzM,List.map_cons,List.map_nil,List.cons_append,List.nil_append,zzA,zzC,zzD,zzE,h1,h2,Qi,qO]
 rw [Jb (fun d=> .int (j5 e d))]
 ·simp only [jH,qy,op2,cst,lkp,zzD,zzE,zzF,zzG,List.replicate,List.length_cons,List.length_nil,zzA,zzB,zzC,ix3,abt hb (show b<1000000 by omega),h4,zzM]
  rw [Jb (fun d=> .bool (((qR u l).map (j5 e)).any fun z=>z == (Zq d).getD 0))]
  ·have:(qP 0 b.toNat).map (fun d=>PyData.bool (((qR u l).map (j5 e)).any fun z=>z == (Zq d).getD 0))=(List.range b.toNat).map fun (d:Nat)=>PyData.bool (((qR u l).map (j5 e)).any fun z=>z == (d:Int)):=by
    simp [qP,Zq,Function.comp_def]
   simp only [zzE,zzD,this,ajN,abr (fun (d:Nat)=>((qR u l).map (j5 e)).any fun z=>z == (d:Int)),List.all_map,Function.comp_def,id]
  ·intro d hd
   obtain ⟨k,_,rfl⟩:=List.mem_map.mp hd
   have h5:(qR u l).map (fun d=>PyData.int (j5 e d))=((qR u l).map (j5 e)).map PyData.int:=by simp
   have h6:=amv ((qR u l).map (j5 e))
   simp only [op2,lkp,zzG,zzA,zzB,zzC,zzD,dIn,Qe,h5,h6,amw]
   simp [Zq]
 ·intro d hd
  simp [jy,jk,jr,lkp,aeO (b:=b) (e:=e) hu' hd]
theorem afV {u e l b:Int} (hu:0<=u) (hu':u<=3) (he:1<=e) (he':e<=16) (hl:0<=l) (hl':l<=12) (hb:2<=b) (hb':b<=16):j6 [jj u e l b]=abc [jj u e l b]:=by
 have g:=adG (e:=e) hu (by omega) hl (by omega) (show 0<=b by omega) (by omega)
 have w1:jU [.int u,.int 0,.int 3]=some (.bool true):=by rw [j1]; simp [hu,hu']
 have w2:jU [.int e,.int 1,.int 16]=some (.bool true):=by rw [j1]; simp [he,he']
 have w3:jU [.int l,.int 0,.int 12]=some (.bool true):=by rw [j1]; simp [hl,hl']
 have w4:jU [.int b,.int 2,.int 16]=some (.bool true):=by rw [j1]; simp [hb,hb']
 have z:aiR [jj u e l b,.tuple [.int 0,.int 1,.int 0,.int 2],.tuple [.int 3,.int 16,.int 12,.int 16]]=some [.tuple [.int u,.int 0,.int 3],.tuple [.int e,.int 1,.int 16],.tuple [.int l,.int 0,.int 12],.tuple [.int b,.int 2,.int 16]]:=rfl
 rw [g]
 rw [show jj u e l b= .tuple [.int u,.int e,.int l,.int b] from rfl] at g z ⊢
 simp [j6,jv,abN,jE,jM,ifS,orB,zo,tst,Qj,tyn,asB,lkp,op2,jy,jk,jr,Ja,cst,dNe,Qe,aaj,qy,Zk,z,j0,QQ,j8,zY,jH,w1,w2,w3,w4,qq,g]
theorem Ji {m:PyData} (h:j6 [m]=some (.bool true)):Jc [m]=some .none:=by
 simp [Jc,jv,afE,jE,jM,ifS,zo,tst,asB,jy,jk,jr,lkp,h,qy]
theorem Q8:few []=true:=by simp [few]
theorem add_int (i j:Int):zh (.int i) (.int j)=some (.int (i+j)):=rfl
theorem qx {i j:Int} (h:-1000000000000<i/\i<1000000000000):zp (.int i) (.int j)=some (.int (i*j)):=by
 unfold zp; exact if_pos (.inl ⟨by omega,by omega⟩)
theorem Q9 {i j:Int} (h:0<j):ad1 (.int i) (.int j)=some (.int (i % j)):=by unfold ad1; exact if_pos h
theorem QL {i j:Int} (h:0<j) (h':j<1000000000):aaT (.int i) (.int j)=some (.int (i / j)):=by unfold aaT; exact if_pos ⟨h,by omega⟩
theorem amx (ns:List Int) (hn:ns.length<1000000) (k:Int) (hk:0<=k):∃ c,agR [scr ns,.int k]=some (.int c):=by
 cases ns with
 | nil=>
  refine ⟨7*k,?_⟩
  simp [agR,jv,ai7,jE,jM,ifS,tst,op2,lkp,zA,jr,few,dEq,scr,Jo,asB,qq,cst,qx,qy]
 | cons n ns=>
  have hl:0<(((n::ns).map fun n=>(PyData.int n,PyData.none)).length:Int):=by simp
  have hl':(((n::ns).map fun n=>(PyData.int n,PyData.none)).length:Int)<1000000:=by simp at hn ⊢; omega
  have hsc:=aen (n::ns)
  have e1:dEq (scr (n::ns)) (.list [])=some (.bool false):=by
   show (if Jo ((n::ns).map fun n=>(PyData.int n,PyData.none))=true then some (PyData.bool ((n::ns).map fun n=>(PyData.int n,PyData.none)).isEmpty) else none)=_
   rw [if_pos hsc]; rfl
  have e2:Ja [scr (n::ns)]=some (.int (((n::ns).map fun n=>(PyData.int n,PyData.none)).length)):=by
   show (if Jo ((n::ns).map fun n=>(PyData.int n,PyData.none))=true then some (PyData.int ((n::ns).map fun n=>(PyData.int n,PyData.none)).length) else none)=_
   rw [if_pos hsc]
  generalize hL:(((n::ns).map fun n=>(PyData.int n,PyData.none)).length:Int)=L at*
  have h0:0<=k % L:=Int.emod_nonneg _ (by omega)
  have h1:k % L<L:=Int.emod_lt_of_pos _ hl
  have e3:∃ c,dIx (scr (n::ns)) (.int (k % L))=some (.int c):=by
   have hlen:((n::ns).map fun n=>(PyData.int n,PyData.none)).length<1000000:=by omega
   have hlt:(k % L).toNat<((n::ns).map fun n=>(PyData.int n,PyData.none)).length:=by omega
   have hx:ixN ((n::ns).map fun n=>(PyData.int n,PyData.none)).length (k % L)=some (k % L).toNat:=ZJ h0 hlt
   refine ⟨((n::ns)[(k % L).toNat]'(by simpa using hlt)),?_⟩
   show (if ((n::ns).map fun n=>(PyData.int n,PyData.none)).length<1000000/\Jo ((n::ns).map fun n=>(PyData.int n,PyData.none))=true then (atI ((n::ns).map fun n=>(PyData.int n,PyData.none)) (k % L)).map (·.1) else none)=_
   rw [if_pos ⟨hlen,hsc⟩]
   unfold atI
   rw [hx,zzD,List.getElem?_eq_getElem hlt,zzE,List.getElem_map]
  obtain ⟨c,e3⟩:=e3
  refine ⟨c+6553*(k / L),?_⟩
  simp [agR,jv,ai7,jE,jM,ifS,tst,op2,lkp,zA,jr,few,asB,qq,cst,qy,jy,jk,e1,e2,e3,Q9 hl,QL hl (show L<1000000000 by omega),qx,add_int]
theorem qk (ns:List Int) (hn:ns.length<1000000) (k m:Int) (hk:0<=k) (hm:0<m):∃ r,qI [scr ns,.int k,.int m]=some (.int r)/\0<=r/\r<m:=by
 obtain ⟨c,hc⟩:=amx ns hn k hk
 generalize h1:(c % 2147483563*69069+104723*(k+1)) % 2147483563=a
 generalize h2:(a*a+a / 3) % 2147483399=d
 have ha:0<=a/\a<2147483563:=by rw [←h1]; exact ⟨Int.emod_nonneg _ (by omega),Int.emod_lt_of_pos _ (by omega)⟩
 have hd:0<=d/\d<2147483399:=by rw [←h2]; exact ⟨Int.emod_nonneg _ (by omega),Int.emod_lt_of_pos _ (by omega)⟩
 have hc':0<=c % 2147483563/\c % 2147483563<2147483563:=⟨Int.emod_nonneg _ (by omega),Int.emod_lt_of_pos _ (by omega)⟩
 refine ⟨(d*d+d / 7) % 2147483647 / 11 % m,?_,Int.emod_nonneg _ (by omega),Int.emod_lt_of_pos _ hm⟩
 have m1:zp (.int (c % 2147483563)) (.int 69069)=some (.int (c % 2147483563*69069)):=qx (by omega)
 have m2:zp (.int 104723) (.int (k+1))=some (.int (104723*(k+1))):=qx (by omega)
 have m3:zp (.int a) (.int a)=some (.int (a*a)):=qx (by omega)
 have m4:zp (.int d) (.int d)=some (.int (d*d)):=qx (by omega)
 simp [qI,jv,ah8,jE,jM,qO,jH,op2,lkp,jr,qq,cst,qy,jy,jk,hc,m1,m2,m3,m4,Q9,QL,add_int,h1,h2,hm]
theorem amy (w:Int) (h0:0<=w) (h:w<12):∃ u e l b,dIx (.list (abR++abS)) (.int w)=some (jj u e l b)/\okM u e l b=true:=by
 obtain ⟨n,rfl⟩:=Int.eq_ofNat_of_zero_le h0
 have hn:n<12:=by omega
 have:∀ n<12,∃ u e l b,dIx (.list (abR++abS)) (.int (n:Nat))=some (jj u e l b)/\okM u e l b=true:=by
  intro n hn
  match n,hn with
  | 0,_=>exact ⟨_,_,_,_,rfl,by decide⟩
  | 1,_=>exact ⟨_,_,_,_,rfl,by decide⟩
  | 2,_=>exact ⟨_,_,_,_,rfl,by decide⟩
  | 3,_=>exact ⟨_,_,_,_,rfl,by decide⟩
  | 4,_=>exact ⟨_,_,_,_,rfl,by decide⟩
  | 5,_=>exact ⟨_,_,_,_,rfl,by decide⟩
  | 6,_=>exact ⟨_,_,_,_,rfl,by decide⟩
  | 7,_=>exact ⟨_,_,_,_,rfl,by decide⟩
  | 8,_=>exact ⟨_,_,_,_,rfl,by decide⟩
  | 9,_=>exact ⟨_,_,_,_,rfl,by decide⟩
  | 10,_=>exact ⟨_,_,_,_,rfl,by decide⟩
  | 11,_=>exact ⟨_,_,_,_,rfl,by decide⟩
  | k+12,h=>omega
 exact this n hn
theorem aib (ns:List Int) (hn:ns.length<1000000) (k:Int) (hk:0<=k):∃ u e l b,Z6 [scr ns,.int k]=some (jj u e l b)/\okM u e l b=true:=by
 obtain ⟨w,hw,hw0,hw1⟩:=qk ns hn k 24 hk (by omega)
 have a1:zh (.list abR) (.list abS)=some (.list (abR++abS)):=rfl
 have a2:Ja [.list (abR++abS)]=some (.int 12):=rfl
 have a3:zp (.int 2) (.int 12)=some (.int 24):=rfl
 by_cases hlt:w<12
 ·obtain ⟨u,e,l,b,h1,h2⟩:=amy w hw0 hlt
  refine ⟨u,e,l,b,?_,h2⟩
  simp [Z6,jv,acG,jE,jM,qO,jH,op2,lkp,jr,qq,cst,qy,jy,jk,ifS,tst,asB,a1,a2,a3,hw,qJ,hlt,h1]
 ·obtain ⟨r1,e1,p1,q1⟩:=qk ns hn (k+1) 5 (by omega) (by omega)
  obtain ⟨r2,e2,p2,q2⟩:=qk ns hn (k+2) 4 (by omega) (by omega)
  obtain ⟨r3,e3,p3,q3⟩:=qk ns hn (k+3) 4 (by omega) (by omega)
  generalize hlo:(if (1:Int) > 1+r1 - 1 then 1 else 1+r1 - 1)+r3=lo
  have hlo1:1<=lo/\r1<=lo/\lo<=10:=by
   rw [←hlo]; split <;> omega
  have hue:0<=r2*(1+r1)/\r2*(1+r1)<=3*5:=⟨Int.mul_nonneg p2 (by omega),Int.mul_le_mul (by omega) (by omega) (by omega) (by omega)⟩
  generalize hmn:(if r2*(1+r1)+lo<15 then r2*(1+r1)+lo else 15)=mn
  have hmn1:0<mn/\mn<=15/\mn<=r2*(1+r1)+lo:=by
   rw [←hmn]; split <;> omega
  obtain ⟨r4,e4,p4,q4⟩:=qk ns hn (k+4) mn (by omega) (by omega)
  refine ⟨r2,1+r1,lo,2+r4,?_,?_⟩
  ·have m1:zp (.int r2) (.int (1+r1))=some (.int (r2*(1+r1))):=qx (by omega)
   have x1:alf [.int (1+r1 - 1),.int 1]=some (.int (if (1:Int) > 1+r1 - 1 then 1 else 1+r1 - 1)):=rfl
   have x2:agl [.int 15,.int (r2*(1+r1)+lo)]=some (.int (if r2*(1+r1)+lo<15 then r2*(1+r1)+lo else 15)):=rfl
   have x3:acr (.int (1+r1)) (.int 1)=some (.int (1+r1 - 1)):=rfl
   simp only [Z6,jv,acG,jE,jM,qO,jH,op2,lkp,jr,qq,cst,qy,jy,jk,ifS,tst,asB,a1,a2,a3,hw,qJ,hlt,zzD,zzE,zzF,zzG,List.replicate,List.length_cons,List.length_nil,zzM,List.map_cons,List.map_nil,List.cons_append,List.nil_append,zzA,zzB,zzC,add_int,e1,e2,e3,m1,x1,x2,x3,decide_false,hlo,hmn,e4]
   simp [e1,e2,e3,m1,x1,x2,x3,hlo,hmn,e4,add_int,lkp,Qh,jk,jr,few,jj]
   simp only [Qh,jk,jr,lkp,op2,jy,cst,zzD,zzE,zzA,zzB,zzC,add_int,m1,x2,hmn,e4]
   simp
  ·have:=hue.1
   simp [okM]
   omega
noncomputable def isInt (t:Int):PyData->Bool
 | .int x=>x == t
 | _=>false
noncomputable def ap7 (u e l:Int):Bool:=
 isInt (u*e+l) (apM none ((qR u l).map (j5 e))) &&
 ((List.range (u*e+l+1).toNat).all fun n=>(qR u l).any fun r=>j5 e r == (n:Int)) &&
 ((qR u l).all fun r=>decide (0<=j5 e r) && decide (j5 e r<=u*e+l)) &&
 decide (arE u e l=(List.range (u*e+l+1).toNat).map fun (n:Nat)=>cnt u e l n)
noncomputable def qp:Bool:=(List.range 4).all fun (i:Nat)=>(List.range 5).all fun (j:Nat)=>(List.range 11).all fun (k:Nat)=>decide (k+1<j) || ap7 i (j+1) (k+1)
structure Chk (u e l:Int):Prop where
 most:apM none ((qR u l).map (j5 e))= .int (u*e+l)
 dig:∀ n:Nat,n<(u*e+l+1).toNat->((qR u l).any fun r=>j5 e r == (n:Int))=true
 rng:∀ r ∈ qR u l,0<=j5 e r/\j5 e r<=u*e+l
 lst:arE u e l=(List.range (u*e+l+1).toNat).map fun (n:Nat)=>cnt u e l n
theorem ap8 {u e l:Int} (h:ap7 u e l=true):Chk u e l:=by
 simp only [ap7,Bool.and_eq_true,List.all_eq_true,decide_eq_true_eq] at h
 obtain ⟨⟨⟨h1,h2⟩,h3⟩,h4⟩:=h
 refine ⟨?_,fun n hn=>h2 n (List.mem_range.mpr hn),fun r hr=>h3 r hr,h4⟩
 generalize apM none ((qR u l).map (j5 e))=x at h1
 cases x <;> simp [isInt] at h1
 rw [h1]
theorem jN {u e l b:Int} (h:okN u e l b=true):0<=u/\u<=3/\1<=e/\e<=5/\e - 1<=l/\1<=l/\l<=11/\2<=b/\b<=16/\b<=u*e+l+1:=by
 simp only [okN,Bool.and_eq_true,decide_eq_true_eq] at h
 omega
theorem ap9 {u e l b:Int} (H:qp=true) (h:okN u e l b=true):Chk u e l:=by
 obtain ⟨a1,a2,a3,a4,a5,a6,a7,_⟩:=jN h
 simp only [qp,List.all_eq_true,Bool.or_eq_true,decide_eq_true_eq] at H
 have:=H u.toNat (List.mem_range.mpr (by omega)) (e - 1).toNat (List.mem_range.mpr (by omega)) (l - 1).toNat (List.mem_range.mpr (by omega))
 rcases this with z | z
 ·exfalso; omega
 ·rw [show ((u.toNat:Nat):Int)=u by omega,show (((e - 1).toNat:Nat):Int)+1=e by omega,show (((l - 1).toNat:Nat):Int)+1=l by omega] at z
  exact ap8 z
theorem aoh {u e l b:Int} (h:okM u e l b=true):okN u e l b=true:=by
 simp only [okM,okN,Bool.and_eq_true,decide_eq_true_eq] at h ⊢
 omega
theorem aic {u e l b:Int} (H:qp=true) (h:okN u e l b=true) {n:Int} (h0:0<=n) (hn:n<b):((qR u l).any fun r=>j5 e r == n)=true:=by
 obtain ⟨a1,a2,a3,a4,a5,a6,a7,a8,a9,a10⟩:=jN h
 have:=(ap9 H h).dig n.toNat (by omega)
 rw [show ((n.toNat:Nat):Int)=n by omega] at this
 exact this
noncomputable def zW (u e l w:Int):LP:=(qR u l).filter fun r=>j5 e r == w
theorem abu {u e l b w:Int} (hu:0<=u) (hu':u<100) (hl:0<=l) (hl':l<100):ZZ [jj u e l b,.int w]=some (.list (zW u e l w)):=by
 have h1:=ack (e:=e) (b:=b) hu hu' hl hl'
 have h2:=adF hu' hl'
 simp only [ZZ,jv,abO,jE,jM,qq,ql,itL,jy,jk,jr,lkp,QS,List.length_cons,List.length_nil,zzM,List.map_cons,List.map_nil,List.cons_append,List.nil_append,zzA,zzC,zzD,zzE,h1,h2,Qi]
 rw [ada (fun d=>j5 e d == w) id]
 ·simp [zW]
 ·intro d hd
  simp [tst,op2,jy,jk,jr,lkp,aeO (b:=b) (e:=e) hu' hd,dEq,Qe,PyData.eqv,asB]
 ·intro d hd _
  simp [lkp]
theorem ab3 (kf:PyData->Int):∀ (r:LP) (d:PyData),Qw kf d r=d ∨ Qw kf d r ∈ r
 | [],d=> .inl rfl
 | x::r,d=>by
  unfold Qw
  split
  ·rcases ab3 kf r x with z | z
   ·exact .inr (by rw [z]; exact List.mem_cons_self)
   ·exact .inr (List.mem_cons_of_mem _ z)
  ·rcases ab3 kf r d with z | z
   ·exact .inl z
   ·exact .inr (List.mem_cons_of_mem _ z)
noncomputable def ZK (m:PyData) (d:Int):PyData:=pr (fpr m d)
theorem qL {u e l b:Int} (H:qp=true) (h:okN u e l b=true) {d:Int} (h0:0<=d) (hd:d<b):
  zO [jj u e l b,.int d]=some (ZK (jj u e l b) d)/\wt e (fpr (jj u e l b) d)=d/\okP u l (fpr (jj u e l b) d)=true:=by
 obtain ⟨a1,a2,a3,a4,a5,a6,a7,a8,a9,a10⟩:=jN h
 have hw:=abu (e:=e) (b:=b) (w:=d) a1 (show u<100 by omega) (show 0<=l by omega) (show l<100 by omega)
 have any:=aic H h h0 hd
 have rods:∀ r ∈ zW u e l d,∃ i j:Nat,r= .tuple [.int i,.int j]/\(i:Int)*e+j=d/\(i:Int)<=u/\(j:Int)<=l:=fun r hr=>by
  obtain ⟨h1,h2⟩:=List.mem_filter.mp hr
  obtain ⟨i,j,q1,q2,rfl⟩:=aeN h1
  exact ⟨i,j,rfl,by simpa [j5] using h2,by omega,by omega⟩
 have kb:∀ i j:Nat,qY [.tuple [.int i,.int j]]=some (.int (i+j)):=fun i j=>ab2 i j
 have hk:aay qY (zW u e l d)=true:=List.all_eq_true.mpr fun r hr=>by
  obtain ⟨i,j,rfl,_,_⟩:=rods r hr
  rw [kb]; rfl
 have mem:adb (Qx qY) none (zW u e l d) ∈ zW u e l d:=by
  cases hr:zW u e l d with
  | nil=>
   exfalso
   obtain ⟨r,h1,h2⟩:=List.any_eq_true.mp any
   have:r ∈ zW u e l d:=List.mem_filter.mpr ⟨h1,h2⟩
   rw [hr] at this; cases this
  | cons r rs=>
   show Qw (Qx qY) r rs ∈ r::rs
   rcases ab3 (Qx qY) rs r with z | z
   ·rw [z]; exact List.mem_cons_self
   ·exact List.mem_cons_of_mem _ z
 obtain ⟨i,j,e1,e2,e3,e4⟩:=rods _ mem
 have g:zO [jj u e l b,.int d]=some (.tuple [.int i,.int j]):=by
  have hm:aaz qY (.list (zW u e l d))=some (.tuple [.int i,.int j]):=by
   show (if aay qY (zW u e l d)=true then some (adb (Qx qY) none (zW u e l d)) else none)=_
   rw [if_pos hk,e1]
  simp [zO,jv,acE,jE,jM,jy,jk,jr,lkp,qq,hw,hm]
 have f:fpr (jj u e l b) d=((i:Int),(j:Int)):=by unfold fpr; rw [g]
 unfold ZK
 rw [f]
 refine ⟨g,e2,?_⟩
 simp only [okP,Bool.and_eq_true,decide_eq_true_eq]
 exact ⟨⟨⟨by omega,e3⟩,by omega⟩,e4⟩
end Rods
theorem Rods.allN_true:Rods.qp=true:=by decide +kernel
namespace Rods
open PySem L2 BX
open PyProof.Rows hiding St
theorem Za {tc:Rho->Option Bool}{F:RO}{n:Nat}{ρ ρ':Rho} (h:tc ρ=some true) (h':F ρ=some (.nx ρ')):zE tc F (n+1) ρ=zE tc F n ρ':=by
 show (tc ρ).bind _=_
 rw [h,h']
 rfl
theorem abv {tc:Rho->Option Bool}{F:RO}{n:Nat}{ρ:Rho} (h:tc ρ=some false):zE tc F (n+1) ρ=some (.nx ρ):=by
 show (tc ρ).bind _=_
 rw [h]
 rfl
theorem jK {F G:RO}{ρ ρ1:Rho} (h:F ρ=some (.nx ρ1)):jM F G ρ=G ρ1:=by
 unfold jM
 rw [h]
 rfl
theorem jW {N:List Str}{n:Nat}{B:RO}{ds:LP}{d:PyData} (hl:ds.length=n) (h:B (jE N ds)=some (.rt d)):jv N n B ds=some d:=by
 unfold jv
 rw [if_pos hl,h]
noncomputable def tcD:Rho->Option Bool:=tst (op2 (qJ fun i j=>decide (i<j)) (jy Ja (jk (lkp 3) jr)) (op2 acr (lkp 1) (cst (.int 1))))
theorem aeP {b k:Int}{r n:OP}{ds:LP} (hb:0<b) (hb':b<=16) (hl:ds.length<1000):
  aaE.1 [some (.int b),r,n,some (.list ds),some (.int k)]=some (.nx [some (.int b),r,n,some (.list (.int (k % b)::ds)),some (.int (k / b))]):=by
 have m1:∀ i:Int,ad1 (.int i) (.int b)=some (.int (i % b)):=fun i=>Q9 hb
 have m2:∀ i:Int,aaT (.int i) (.int b)=some (.int (i / b)):=fun i=>QL hb (by omega)
 have hl':ds.length<1000000:=by omega
 simp [aaE,jM,agq,apT,alF,op2,lkp,cst,m1,m2,noL,hl',qO,jH,brw,hid,qy]
theorem Ql {b:OP}{r:Int}{n k:OP}{ds:LP}:tcD [b,some (.int r),n,some (.list ds),k]=some (decide ((ds.length:Int)<r - 1)):=by
 simp [tcD,tst,op2,jy,jk,jr,lkp,cst,Ja,acr,qJ,asB]
theorem afW {b r n:Int}{ds:LP}{k:Int} (hl:zE tcD aaE.1 10 [some (.int b),some (.int r),some (.int n),some (.list []),some (.int n)]=some (.nx [some (.int b),some (.int r),some (.int n),some (.list ds),some (.int k)]))
  (hd:ds.length<100) (hn:noLs ds=true):agP [.int b,.int r,.int n]=some (.list (.int k::ds)):=by
 have f0:few []=true:=Q8
 have f1:few [PyData.int k]=true:=by rw [few]; exact decide_eq_true (by show 1<1000000; decide)
 have f2:few ([PyData.int k]++ds)=true:=by
  rw [few]
  refine decide_eq_true ?_
  rw [List.length_append,List.length_singleton]
  omega
 have e:an4.1 [some (.int b),some (.int r),some (.int n),none,none]=some (.rt (.list (.int k::ds))):=by
  simp only [an4]
  show aaC 3 (zA jr) (jM (qO (brw (some 3) (lkp 2)) (jH 4)) (jM (zE tcD aaE.1 10) (jM (qq (op2 zh (zA (jk (lkp 4) jr)) (lkp 3))) qy))) _=_
  have h2:jM (zE tcD aaE.1 10) (jM (qq (op2 zh (zA (jk (lkp 4) jr)) (lkp 3))) qy) [some (.int b),some (.int r),some (.int n),some (.list []),some (.int n)]=some (.rt (.list (.int k::ds))):=by
   unfold jM
   rw [hl]
   simp only [zzD,qq,op2,zA,jk,jr,lkp,zzA,zzB,zzC,zzE,f1,zzM,zh,f2]
   rfl
  have h1:qO (brw (some 3) (lkp 2)) (jH 4) [some (.int b),some (.int r),some (.int n),some (.list []),none]=some (.nx [some (.int b),some (.int r),some (.int n),some (.list []),some (.int n)]):=rfl
  have h3:jM (qO (brw (some 3) (lkp 2)) (jH 4)) (jM (zE tcD aaE.1 10) (jM (qq (op2 zh (zA (jk (lkp 4) jr)) (lkp 3))) qy)) [some (.int b),some (.int r),some (.int n),some (.list []),none]=some (.rt (.list (.int k::ds))):=by
   rw [←h2]
   conv=>lhs; unfold jM
   rw [h1]
   rfl
  unfold aaC
  simp only [zA,jr,zzD,f0,zzM,List.length_cons,List.length_nil]
  rw [if_pos (by decide)]
  simp only [zzF,zzG,h3,zzD]
 exact jW rfl e
theorem acQ {b n:Int} (hb:0<b) (hb':b<=16) {r:Nat} (h1:1<=r) (h4:r<=4):agP [.int b,.int (r:Int),.int n]=some (.list ((dgl b r n).map .int)):=by
 have:r=1 ∨ r=2 ∨ r=3 ∨ r=4:=by omega
 rcases this with e | e | e | e <;> subst e
 ·refine afW (ds:=[]) (k:=n) ?_ (by simp) (by simp [noLs,noL])
  rw [abv (Ql.trans (by rfl))]
 ·refine afW (ds:=[.int (n % b)]) (k:=n / b) ?_ (by simp) (by simp [noLs,noL])
  rw [Za (Ql.trans (by rfl)) (aeP hb hb' (by simp)),abv (Ql.trans (by rfl))]
 ·refine afW (ds:=[.int (n / b % b),.int (n % b)]) (k:=n / b / b) ?_ (by simp) (by simp [noLs,noL])
  rw [Za (Ql.trans (by rfl)) (aeP hb hb' (by simp)),Za (Ql.trans (by rfl)) (aeP hb hb' (by simp)),abv (Ql.trans (by rfl))]
 ·refine afW (ds:=[.int (n / b / b % b),.int (n / b % b),.int (n % b)]) (k:=n / b / b / b) ?_ (by simp) (by simp [noLs,noL])
  rw [Za (Ql.trans (by rfl)) (aeP hb hb' (by simp)),Za (Ql.trans (by rfl)) (aeP hb hb' (by simp)),Za (Ql.trans (by rfl)) (aeP hb hb' (by simp)),abv (Ql.trans (by rfl))]
theorem pw1 (b:Int):b ^ 1=b:=by rw [Int.pow_succ,Int.pow_zero,Int.one_mul]
theorem JT {b:Int} (hb:0<b):∀ r:Nat,0<b ^ r
 | 0=>by simp
 | r+1=>by rw [Int.pow_succ]; exact Int.mul_pos (JT hb r) hb
theorem amz {b:Int} (h0:0<b) (h:b<=16):∀ r:Nat,b ^ r<=16 ^ r
 | 0=>by simp
 | r+1=>by
  rw [Int.pow_succ,Int.pow_succ]
  exact Int.mul_le_mul (amz h0 h r) h (by omega) (Int.le_of_lt (JT (by decide) r))
theorem amA {b:Int} (h0:0<b) (h:b<=16) {r:Nat} (hr:r<=4):b ^ r<=65536:=by
 have:r=0 ∨ r=1 ∨ r=2 ∨ r=3 ∨ r=4:=by omega
 have:=amz h0 h r
 rcases ‹r=0 ∨ _› with e | e | e | e | e <;> subst e <;> first | (exact Int.le_trans this (by decide))
theorem abw (b:Int) (k:Nat) (n:Int):dgl b (k+2) n=dgl b (k+1) (n / b)++[n % b]:=rfl
theorem Qf (b:Int):∀ (r:Nat) (n:Int),(dgl b r n).length=r
 | 0,_=>rfl
 | 1,_=>rfl
 | k+2,n=>by rw [abw,List.length_append,Qf b (k+1)]; rfl
theorem aak {b n:Int} (hb:0<b) {k:Nat} (h:n<b ^ (k+1)):n / b<b ^ k:=
 Int.ediv_lt_of_lt_mul hb (by rw [←Int.pow_succ]; exact h)
theorem abx {b:Int} (hb:0<b):∀ (r:Nat) (n:Int),0<=n->n<b ^ r->∀ d ∈ dgl b r n,0<=d/\d<b
 | 0,n,_,_,d,hd=>by cases hd
 | 1,n,h0,h1,d,hd=>by
  rw [show dgl b 1 n=[n] from rfl,List.mem_singleton] at hd
  subst hd
  exact ⟨h0,by rw [pw1] at h1; exact h1⟩
 | k+2,n,h0,h1,d,hd=>by
  rw [abw] at hd
  rcases List.mem_append.mp hd with q | q
  ·exact abx hb (k+1) (n / b) (Int.ediv_nonneg h0 (by omega)) (aak hb h1) d q
  ·rw [List.mem_singleton] at q
   subst q
   exact ⟨Int.emod_nonneg _ (by omega),Int.emod_lt_of_pos _ hb⟩
theorem aby {b:Int} (hb:0<b):∀ (k:Nat) (n:Int),0<=n->∃ x r,dgl b (k+1) n=x::r/\(n<b ^ (k+1)->x<b)/\(b ^ (k+1)<=n->b<=x)
 | 0,n,h0=>⟨n,[],rfl,fun h=>by rw [Nat.zero_add,pw1] at h; exact h,fun h=>by rw [Nat.zero_add,pw1] at h; exact h⟩
 | k+1,n,h0=>by
  obtain ⟨x,r,e,h1,h2⟩:=aby hb k (n / b) (Int.ediv_nonneg h0 (by omega))
  refine ⟨x,r++[n % b],?_,fun h=>h1 (aak hb h),fun h=>h2 ?_⟩
  ·rw [abw,e]; rfl
  ·refine Int.le_ediv_of_mul_le hb ?_
   rw [←Int.pow_succ]; exact h
theorem amB (b e:Int) (ps:List (Int × Int)) (p:Int × Int):val b e (ps++[p])=val b e ps*b+wt e p:=by simp [val]
section
variable {u e l b:Int}
theorem afX (H:qp=true) (h:okN u e l b=true):∀ (r:Nat) (n:Int),1<=r->0<=n->n<b ^ r->val b e (pln (jj u e l b) b r n)=n
 | 0,n,h1,_,_=>by omega
 | 1,n,_,h0,hn=>by
  have:=(qL H h h0 (show n<b by rw [pw1] at hn; exact hn)).2.1
  show 0*b+wt e (fpr (jj u e l b) n)=n
  rw [this]; omega
 | k+2,n,_,h0,hn=>by
  obtain ⟨a1,a2,a3,a4,a5,a6,a7,a8,a9,a10⟩:=jN h
  have hb:0<b:=by omega
  have ih:=afX H h (k+1) (n / b) (by omega) (Int.ediv_nonneg h0 (by omega)) (aak hb hn)
  have hd:=(qL H h (d:=n % b) (Int.emod_nonneg _ (by omega)) (Int.emod_lt_of_pos _ hb)).2.1
  unfold pln at ih ⊢
  rw [abw,List.map_append,List.map_singleton,amB,ih,hd,Int.mul_comm]
  exact Int.mul_ediv_add_emod n b
theorem aoi (m:PyData) (b:Int) (r:Nat) (n:Int):(pln m b r n).length=r:=by rw [pln,List.length_map,Qf]
theorem aqa (H:qp=true) (h:okN u e l b=true) {r:Nat}{n:Int} (h1:1<=r) (h4:r<=4) (h0:0<=n) (hn:n<b ^ r):okS u l (pln (jj u e l b) b r n)=true:=by
 obtain ⟨a1,a2,a3,a4,a5,a6,a7,a8,a9,a10⟩:=jN h
 simp only [okS,Bool.and_eq_true,decide_eq_true_eq,aoi]
 refine ⟨⟨h1,h4⟩,List.all_eq_true.mpr fun p hp=>?_⟩
 obtain ⟨d,hd,rfl⟩:=List.mem_map.mp hp
 obtain ⟨d0,d1⟩:=abx (show 0<b by omega) r n h0 hn d hd
 exact (qL H h d0 d1).2.2
theorem zI {u l:Int}{p:Int × Int} (h:okP u l p=true):0<=p.1/\p.1<=u/\0<=p.2/\p.2<=l:=by
 simp only [okP,Bool.and_eq_true,decide_eq_true_eq] at h
 exact ⟨h.1.1.1,h.1.1.2,h.1.2,h.2⟩
theorem amC {e u l:Int} (he:1<=e) {p:Int × Int} (h:okP u l p=true):0<=wt e p:=by
 obtain ⟨h1,h2,h3,h4⟩:=zI h
 have:=Int.mul_nonneg h1 (show 0<=e by omega)
 unfold wt; omega
theorem ao1 {e u l:Int} (he:1<=e) (he5:e<=5) (hu:u<=3) (hl:l<=11) {p:Int × Int} (h:okP u l p=true):wt e p<=26:=by
 obtain ⟨h1,h2,h3,h4⟩:=zI h
 have:p.1*e<=3*5:=Int.mul_le_mul (by omega) he5 (by omega) (by omega)
 unfold wt; omega
theorem ai9 {b e u l:Int} (h2:2<=b) (hb:b<=16) (he:1<=e) (he5:e<=5) (hu:u<=3) (hl:l<=11):∀ (ps:List (Int × Int)) (acc:Int),ps.all (okP u l)=true->0<=acc->0<=ps.foldl (fun n p=>n*b+wt e p) acc/\ps.foldl (fun n p=>n*b+wt e p) acc+30<=(acc+30)*16 ^ ps.length
 | [],acc,_,h=>⟨h,by simp⟩
 | p::ps,acc,hp,h=>by
  rw [List.all_cons,Bool.and_eq_true] at hp
  have w0:=amC he hp.1
  have w1:=ao1 he he5 hu hl hp.1
  have ha:0<=acc*b:=Int.mul_nonneg h (by omega)
  have hb2:acc*b<=acc*16:=Int.mul_le_mul_of_nonneg_left hb h
  obtain ⟨h1,h3⟩:=ai9 h2 hb he he5 hu hl ps (acc*b+wt e p) hp.2 (by omega)
  refine ⟨h1,Int.le_trans h3 ?_⟩
  rw [List.length_cons,Int.pow_succ,Int.mul_comm (16 ^ ps.length) 16,←Int.mul_assoc]
  refine Int.mul_le_mul_of_nonneg_right ?_ (Int.le_of_lt (JT (by decide) _))
  omega
theorem aqb (h:okN u e l b=true) {ps:List (Int × Int)} (hp:ps.all (okP u l)=true):0<=val b e ps:=by
 obtain ⟨a1,a2,a3,a4,a5,a6,a7,a8,a9,a10⟩:=jN h
 exact (ai9 a8 a9 a3 a4 a2 a7 ps 0 hp (by omega)).1
end
theorem jZ {ds:LP} (h:ds.length<10000):few ds=true:=by
 rw [few]
 refine decide_eq_true ?_
 omega
theorem ag0 {u e l b:Int} (H:qp=true) (h:okN u e l b=true):j6 [jj u e l b]=some (.bool true):=by
 obtain ⟨a1,a2,a3,a4,a5,a6,a7,a8,a9,a10⟩:=jN h
 rw [afV a1 a2 a3 (by omega) (by omega) (by omega) a8 a9,adG a1 (by omega) (by omega) (by omega) (by omega) (by omega)]
 congr 2
 refine List.all_eq_true.mpr fun d hd=>?_
 have:=aic H h (n:=(d:Int)) (by omega) (by have:=List.mem_range.mp hd; omega)
 simpa [List.any_map,Function.comp_def] using this
theorem aeQ {u l:Int}{ps:List (Int × Int)} (h:okS u l ps=true):1<=ps.length/\ps.length<=4/\ps.all (okP u l)=true:=by
 simp only [okS,Bool.and_eq_true,decide_eq_true_eq] at h
 exact ⟨h.1.1,h.1.2,h.2⟩
theorem aid {u l:Int}{ps:List (Int × Int)} (h1:1<=ps.length) (h2:ps.length<=4) (h3:ps.all (okP u l)=true):okS u l ps=true:=by
 simp only [okS,Bool.and_eq_true,decide_eq_true_eq]
 exact ⟨⟨h1,h2⟩,h3⟩
section
variable {u e l b:Int}{ps qs:List (Int × Int)}
theorem ag1 (h:okN u e l b=true) {S:PyData}:∀ (qs:List (Int × Int)) (acc:Int) (x:OP),qs.all (okP u l)=true->0<=acc->(acc+30)*16 ^ qs.length<=1000000000->
  ∃ y,j0 (jH 3) afG.1 (qs.map pr) [some (jj u e l b),some S,some (.int acc),x]=some (.nx [some (jj u e l b),some S,some (.int (qs.foldl (fun n p=>n*b+wt e p) acc)),y])
 | [],acc,x,_,_,_=>⟨x,rfl⟩
 | q::qs,acc,x,hq,h0,hB=>by
  obtain ⟨a1,a2,a3,a4,a5,a6,a7,a8,a9,a10⟩:=jN h
  rw [List.all_cons,Bool.and_eq_true] at hq
  obtain ⟨q1,q2,q3,q4⟩:=zI hq.1
  have w0:=amC a3 hq.1
  have w1:=ao1 a3 a4 a2 a7 hq.1
  have hp:=JT (b:=16) (by decide) qs.length
  rw [List.length_cons,Int.pow_succ,Int.mul_comm (16 ^ qs.length) 16,←Int.mul_assoc] at hB
  have ha:0<=acc*b:=Int.mul_nonneg h0 (by omega)
  have hb2:acc*b<=acc*16:=Int.mul_le_mul_of_nonneg_left a9 h0
  have hB':(acc*b+wt e q+30)*16 ^ qs.length<=1000000000:=Int.le_trans (Int.mul_le_mul_of_nonneg_right (by omega) (Int.le_of_lt hp)) hB
  have hacc:acc<=1000000000:=by
   have h1:(acc+30)*16*1<=(acc+30)*16*16 ^ qs.length:=Int.mul_le_mul_of_nonneg_left (by omega) (by omega)
   omega
  have m1:zp (.int acc) (.int b)=some (.int (acc*b)):=qx ⟨by omega,by omega⟩
  have w':qw [jj u e l b,pr q]=some (.int (wt e q)):=JE u e l b q.1 q.2 (by omega)
  have step:afG.1 [some (jj u e l b),some S,some (.int acc),some (pr q)]=some (.nx [some (jj u e l b),some S,some (.int (acc*b+wt e q)),some (pr q)]):=by
   simp only [afG,jM,qO,op2,jy,jk,jr,lkp,cst,jH,zzA,zzB,zzC,zzD,zzE,ix3,m1,w',add_int,zzF,zzG,qy]
  obtain ⟨y,hy⟩:=ag1 h (S:=S) qs (acc*b+wt e q) (some (pr q)) hq.2 (by omega) hB'
  refine ⟨y,?_⟩
  rw [List.map_cons]
  simp only [j0,jH,zzD,zzF,zzG,step]
  exact hy
theorem afY (h:okN u e l b=true) (h4:ps.length<=4) (hp:ps.all (okP u l)=true):agN [jj u e l b,jC ps]=some (.int (val b e ps)):=by
 have hB:(0+30:Int)*16 ^ ps.length<=1000000000:=by
  have:=amA (b:=16) (by decide) (by decide) h4
  omega
 obtain ⟨y,hy⟩:=ag1 h (S:=jC ps) ps 0 none hp (by omega) hB
 refine jW rfl ?_
 show an2.1 [some (jj u e l b),some (jC ps),none,none]=_
 simp only [an2]
 refine (jK (ρ1:=[some (jj u e l b),some (jC ps),some (.int 0),none]) ?_).trans ?_
 ·simp only [qO,cst,jH,zzD,zzE,zzF,zzG]
 refine (jK (ρ1:=[some (jj u e l b),some (jC ps),some (.int (val b e ps)),y]) ?_).trans ?_
 ·show (itT (lkp 1) _).bind _=_
  rw [show itT (lkp 1) [some (jj u e l b),some (jC ps),some (.int 0),none]=some (ps.map pr) from rfl]
  exact hy
 rfl
theorem akk {p:Int × Int} (hp:okP u l p=true):Q6 [jj u e l b,pr p]=some (.bool true):=by
 obtain ⟨q1,q2,q3,q4⟩:=zI hp
 have w1:jU [.int p.1,.int 0,.int u]=some (.bool true):=by rw [j1]; simp [q1,q2]
 have w2:jU [.int p.2,.int 0,.int l]=some (.bool true):=by rw [j1]; simp [q3,q4]
 simp [Q6,jv,abQ,jE,jM,ifS,orB,zo,tst,Qj,tyn,asB,lkp,op2,jy,jk,jr,Ja,cst,dNe,Qe,aaj,qy,qq,ahO,pr,jj,dIx,atI,ixN,w1,w2]
theorem akl (H:qp=true) (h:okN u e l b=true) (hs:okS u l ps=true):aaG [jj u e l b,jC ps]=some (.bool true):=by
 obtain ⟨h1,h4,hp⟩:=aeQ hs
 have g0:=Ji (ag0 H h)
 have hf:few (ps.map pr)=true:=jZ (by rw [List.length_map]; omega)
 have c1:qJ (fun i j=>decide (i<=j)) (.int 1) (.int ((ps.map pr).length:Int))=some (.bool true):=by
  show some (PyData.bool (decide ((1:Int)<=((ps.map pr).length:Int))))=_
  rw [decide_eq_true (by rw [List.length_map]; omega)]
 have c2:qJ (fun i j=>decide (i<=j)) (.int ((ps.map pr).length:Int)) (.int 4)=some (.bool true):=by
  show some (PyData.bool (decide (((ps.map pr).length:Int)<=4)))=_
  rw [decide_eq_true (by rw [List.length_map]; omega)]
 refine jW rfl ?_
 show aaF.1 [some (jj u e l b),some (jC ps)]=_
 simp only [aaF]
 refine (jK (ρ1:=[some (jj u e l b),some (jC ps)]) ?_).trans ?_
 ·simp only [aaQ,jy,jk,jr,lkp,zzA,zzB,zzC,zzD,zzE,g0]
 refine (jK (ρ1:=[some (jj u e l b),some (jC ps)]) ?_).trans ?_
 ·simp [ifS,orB,zo,tst,Qj,tyn,asB,lkp,jC,chn,jy,jk,jr,Ja,cst,qy]
  simp [List.length_map] at c1 c2
  simp [c1,c2]
  rfl
 simp only [jM,qq,jy,jk,jr,ql,itT,lkp,jC,aav,zzA,zzB,zzC,zzD,zzE,hf,zzM,Qi,List.map_cons,List.map_nil,zzH]
 rw [Jb (fun _=> .bool true)]
 ·have:bls ((ps.map pr).map fun _=>PyData.bool true)=some ((ps.map pr).map fun _=>true):=abr (fun _=>true) _
  simp only [zzE,zzD,ajN,this]
  simp
 ·intro d hd
  obtain ⟨p,hp',rfl⟩:=List.mem_map.mp hd
  simp [jy,jk,jr,lkp,akk (e:=e) (b:=b) (List.all_eq_true.mp hp p hp')]
theorem ag2 (H:qp=true) (h:okN u e l b=true) (hs:okS u l ps=true):zw [jj u e l b,jC ps]=some .none:=by
 have g:=akl H h hs
 simp [zw,jv,abf,jE,jM,ifS,zo,tst,asB,jy,jk,jr,lkp,g,qy]
end
theorem amD {n:Int} (h0:0<=n) (h1:n<=99999):qU [.int n]=some .none:=by
 have w:jU [.int n,.int 0,.int 99999]=some (.bool true):=by rw [j1]; simp [h0,h1]
 simp [qU,jv,abe,jE,jM,ifS,zo,tst,asB,jy,jk,jr,lkp,cst,w,qy]
theorem amE {n:Int} (h0:1<=n) (h1:n<=4):zr [.int n]=some .none:=by
 have w:jU [.int n,.int 1,.int 4]=some (.bool true):=by rw [j1]; simp [h0,h1]
 simp [zr,jv,abd,jE,jM,ifS,zo,tst,asB,jy,jk,jr,lkp,cst,w,qy]
section
variable {u e l b:Int}{ps qs:List (Int × Int)}
theorem abz (i j:Int):dEq (.int i) (.int j)=some (.bool (decide (i=j))):=by
 have:(i == j)=decide (i=j):=rfl
 simp only [dEq,Qe,aaj,and_self,zzM,this]
theorem amF {b:Int}{r:Nat}{n x:Int}{xs:List Int} (h4:r<=4) (hx:dgl b r n=x::xs):dIx (.list ((dgl b r n).map .int)) (.int 0)=some (.int x):=by
 have hl:=Qf b r n
 have hlt:((dgl b r n).map PyData.int).length<1000000:=by rw [List.length_map,hl]; omega
 show (if ((dgl b r n).map PyData.int).length<1000000 then atI ((dgl b r n).map PyData.int) 0 else none)=_
 rw [if_pos hlt,hx]
 simp [atI,ixN]
theorem adH (H:qp=true) (h:okN u e l b=true) {r:Nat}{n:Int} (h1:1<=r) (h4:r<=4) (h0:0<=n) (hn:n<b ^ r):Z5 [jj u e l b,.int (r:Int),.int n]=some (jC (pln (jj u e l b) b r n)):=by
 obtain ⟨a1,a2,a3,a4,a5,a6,a7,a8,a9,a10⟩:=jN h
 have hb:0<b:=by omega
 have hd:=acQ (n:=n) hb a9 h1 h4
 have hg:=abx hb r n h0 hn
 have hl:=Qf b r n
 obtain ⟨k,rfl⟩:∃ k,r=k+1:=⟨r - 1,by omega⟩
 obtain ⟨x,xs,hx,hx1,_⟩:=aby hb k n h0
 have hi:=amF h4 hx
 have hc:qJ (fun i j=>decide (j<=i)) (.int x) (.int b)=some (.bool false):=by
  show some (PyData.bool (decide (b<=x)))=_
  rw [decide_eq_false (by have:=hx1 hn; omega)]
 have hf:few ((dgl b (k+1) n).map .int)=true:=jZ (by rw [List.length_map,hl]; omega)
 generalize hr:((k+1:Nat):Int)=rr at hd ⊢
 refine jW rfl ?_
 show Z4.1 [some (jj u e l b),some (.int rr),some (.int n),none]=_
 simp only [Z4]
 refine (jK (ρ1:=[some (jj u e l b),some (.int rr),some (.int n),some (.list ((dgl b (k+1) n).map .int))]) ?_).trans ?_
 ·simp only [qO,jy,jk,jr,op2,lkp,cst,jH,zzA,zzB,zzC,zzD,zzE,ix3,hd,zzF,zzG]
 refine (jK (ρ1:=[some (jj u e l b),some (.int rr),some (.int n),some (.list ((dgl b (k+1) n).map .int))]) ?_).trans ?_
 ·simp only [ifS,tst,op2,lkp,cst,zzA,zzB,zzC,zzD,hi,ix3,hc,asB,zzL,zzN,qy]
 simp only [jM,qq,jy,jk,jr,ql,itL,lkp,QS,zzA,zzB,zzC,zzD,zzE,hf,zzM,Qi,List.map_cons,List.map_nil,zzH]
 rw [Jb (fun d=>ZK (jj u e l b) ((Zq d).getD 0))]
 ·simp [Zv,jC,pln,ZK,Zq,Function.comp_def]
 ·intro d hd
  obtain ⟨i,hi,rfl⟩:=List.mem_map.mp hd
  simp [jy,jk,jr,lkp,Zq,(qL H h (hg i hi).1 (hg i hi).2).1]
theorem ag3 (ps:List (Int × Int)):Ja [jC ps]=some (.int (ps.length:Int)):=by
 show some (PyData.int ((ps.map pr).length:Int))=_
 rw [List.length_map]
end
end Rods
namespace BX
open PySem PySem.Spec L2
open PyProof.Rows hiding St
theorem ZL {ga:PyData->Rho->Option Rho}{F:RO} (Iv:Nat->Rho->Prop):∀ (ds:LP) (i:Nat) (ρ:Rho),Iv i ρ->
  (∀ j d ρ,ds[j]?=some d->Iv (i+j) ρ->∃ ρ1 ρ2,ga d ρ=some ρ1/\F ρ1=some (.nx ρ2)/\Iv (i+j+1) ρ2)->∃ ρ',j0 ga F ds ρ=some (.nx ρ')/\Iv (i+ds.length) ρ'
 | [],i,ρ,h,_=>⟨ρ,rfl,h⟩
 | d::ds,i,ρ,h,hs=>by
  obtain ⟨ρ1,ρ2,h1,h2,h3⟩:=hs 0 d ρ rfl h
  obtain ⟨ρ',h4,h5⟩:=ZL Iv ds (i+1) ρ2 h3 fun j d ρ hd hi=>by
   have:=hs (j+1) d ρ (by simpa using hd) (by rw [show i+(j+1)=i+1+j by omega]; exact hi)
   rw [show i+1+j+1=i+(j+1)+1 by omega]; exact this
  refine ⟨ρ',?_,by rw [List.length_cons,show i+(ds.length+1)=i+1+ds.length by omega]; exact h5⟩
  simp [j0,h1,h2,h4]
theorem abA {n j:Nat}{d:PyData} (h:(qP 0 n)[j]?=some d):j<n/\d= .int j:=by
 simp only [qP,List.getElem?_map] at h
 cases hj:(List.range n)[j]? with
 | none=>rw [hj] at h; cases h
 | some k=>
  rw [hj] at h
  obtain ⟨h1,h2⟩:=List.getElem?_eq_some_iff.mp hj
  simp at h1 h2
  subst h2
  simp at h
  exact ⟨h1,h.symm⟩
theorem JU (n:Nat):(qP 0 n).length=n:=by simp [qP]
end BX
namespace Rods
open PySem L2 BX
open PyProof.Rows hiding St
section
variable {u e l b:Int}
theorem aeR (H:qp=true) (h:okN u e l b=true) {r n:Int} (h1:1<=r) (h4:r<=4) (h0:0<=n) (hn:n<=99999):Jd [jj u e l b,.int r,.int n]=some .none:=by
 have g1:=Ji (ag0 H h)
 have g2:zr [.int r]=some .none:=amE h1 h4
 have g3:qU [.int n]=some .none:=amD h0 hn
 simp [Jd,jv,adx,jE,jM,aaQ,jy,jk,jr,lkp,g1,g2,g3,qy]
theorem adI {n:Nat} (hn:n<=1000):Jp [.int (n:Int)]=some (qP 0 n):=by
 have:=abt (j:=(n:Int)) (by omega) (by omega)
 rw [show ((n:Int)).toNat=n by omega] at this
 exact this
end
section
variable {u e l b:Int}{ps qs:List (Int × Int)}
theorem aja {xs ys:LP} (hx:xs ≠ [] ∨ True) (hl:xs.length+ys.length<10000):zh (.tuple xs) (.tuple ys)=some (.tuple (xs++ys)):=by
 cases xs with
 | nil=>rfl
 | cons x xs=>
  have hf:few ((x::xs)++ys)=true:=jZ (by rw [List.length_append]; exact hl)
  show (if few ((x::xs)++ys)=true then some (PyData.tuple ((x::xs)++ys)) else none)=_
  rw [if_pos hf]
theorem aqc {ns:List Int} (hn:ns.length<1000000) (h:okN u e l b=true) {at_:Int} (ha:0<=at_) {j:Nat} (hj:j<4) {x3 x4 x7:OP} (hq:qs.length<=4):
  ∃ p,okP u l p=true/\afL.1 [some (scr ns),some (.int at_),some (jj u e l b),x3,x4,some (jC qs),some (.int (j:Int)),x7]=some (.nx [some (scr ns),some (.int at_),some (jj u e l b),x3,x4,some (jC (qs++[p])),some (.int (j:Int)),some (pr p)]):=by
 obtain ⟨a1,a2,a3,a4,a5,a6,a7,a8,a9,a10⟩:=jN h
 obtain ⟨x,d1,x0,x1⟩:=qk ns hn (at_+1+2*(j:Int)) (u+1) (by omega) (by omega)
 obtain ⟨y,d2,y0,y1⟩:=qk ns hn (at_+2+2*(j:Int)) (l+1) (by omega) (by omega)
 have m1:zp (.int 2) (.int (j:Int))=some (.int (2*(j:Int))):=qx ⟨by omega,by omega⟩
 have f2:few [PyData.int x,.int y]=true:=jZ (by simp)
 have f1:few [PyData.tuple [.int x,.int y]]=true:=jZ (by simp)
 have ad:zh (jC qs) (.tuple [.tuple [.int x,.int y]])=some (jC (qs++[(x,y)])):=by
  have:=aja (xs:=qs.map pr) (ys:=[pr (x,y)]) (.inr trivial) (by simp; omega)
  rw [show jC (qs++[(x,y)])= .tuple (qs.map pr++[pr (x,y)]) by simp [jC]]
  exact this
 generalize scr ns=S at*
 refine ⟨(x,y),?_,?_⟩
 ·simp only [okP,Bool.and_eq_true,decide_eq_true_eq]
  exact ⟨⟨⟨x0,by omega⟩,y0⟩,by omega⟩
 ·simp only [afL]
  refine (jK (ρ1:=[some S,some (.int at_),some (jj u e l b),x3,x4,some (jC qs),some (.int (j:Int)),some (.tuple [.int x,.int y])]) ?_).trans ?_
  ·simp only [qO,Qh,jy,jk,jr,op2,lkp,cst,jH,zzA,zzB,zzC,zzD,zzE,ix0,ix2,m1,add_int,d1,d2,f2,zzM,zzF,zzG]
  simp only [jM,qO,Qh,jk,jr,op2,lkp,jH,zzA,zzB,zzC,zzD,zzE,f1,zzM,ad,zzF,zzG,qy]
  rfl
theorem QM (H:qp=true) (h:okN u e l b=true) (hs:okS u l ps=true):zQ [jj u e l b,jC ps]=some (.bool (small b e ps)):=by
 obtain ⟨a1,a2,a3,a4,a5,a6,a7,a8,a9,a10⟩:=jN h
 obtain ⟨h1,h4,hp⟩:=aeQ hs
 have g:=ag2 H h hs
 have hf:few (ps.map pr)=true:=jZ (by rw [List.length_map]; omega)
 refine jW rfl ?_
 show adz.1 [some (jj u e l b),some (jC ps)]=_
 simp only [adz]
 refine (jK (ρ1:=[some (jj u e l b),some (jC ps)]) ?_).trans ?_
 ·simp only [aaQ,jy,jk,jr,lkp,zzA,zzB,zzC,zzD,zzE,g]
 simp only [jM,qq,jy,jk,jr,ql,itT,lkp,jC,aav,zzA,zzB,zzC,zzD,zzE,hf,zzM,Qi,List.map_cons,List.map_nil,zzH]
 rw [Jb (fun d=> .bool (decide (((unP d).map (wt e)).getD 0<b)))]
 ·have:(ps.map pr).map (fun d=>PyData.bool (decide (((unP d).map (wt e)).getD 0<b)))=ps.map fun p=>PyData.bool (decide (wt e p<b)):=by
   rw [List.map_map]
   refine List.map_congr_left fun p _=>?_
   rfl
  simp only [zzE,zzD,this,ajN,abr (fun p=>decide (wt e p<b))]
  simp [small,List.all_map,Function.comp_def]
 ·intro d hd
  obtain ⟨p,hp',rfl⟩:=List.mem_map.mp hd
  obtain ⟨q1,q2,q3,q4⟩:=zI (List.all_eq_true.mp hp p hp')
  have w':qw [jj u e l b,pr p]=some (.int (wt e p)):=JE u e l b p.1 p.2 (by omega)
  have u':unP (pr p)=some p:=rfl
  simp [jy,jk,jr,lkp,cst,op2,w',ix3,qJ,u']
theorem zS {N:List Str}{n:Nat}{F:Rho->Option Str}{ds:LP} (hl:ds.length=n):Js N n F ds=F (jE N ds):=by
 unfold Js
 rw [if_pos hl]
end
noncomputable def dv (b:Int) (ds:List Int):Int:=ds.foldl (fun n d=>n*b+d) 0
noncomputable def okG (b:Int) (ds:List Int):Prop:=∀ d ∈ ds,0<=d/\d<b
noncomputable def JV (cs:List (Nat × Int)) (ds:List Int):List Int:=cs.foldl (fun ds c=>ds.set c.1 c.2) ds
theorem ag4 (a c:List (Nat × Int)) (ds:List Int):JV (a++c) ds=JV c (JV a ds):=by unfold JV; rw [List.foldl_append]
theorem abB:∀ (cs:List (Nat × Int)) (ds:List Int),(JV cs ds).length=ds.length
 | [],_=>rfl
 | c::cs,ds=>by
  show (JV cs (ds.set c.1 c.2)).length=_
  rw [abB cs,List.length_set]
theorem acR (b:Int):∀ (ds:List Int) (acc:Int),ds.foldl (fun n d=>n*b+d) acc=acc*b ^ ds.length+ds.foldl (fun n d=>n*b+d) 0
 | [],acc=>by simp
 | d::ds,acc=>by
  rw [List.foldl_cons,List.foldl_cons,acR b ds (acc*b+d),acR b ds (0*b+d),List.length_cons,Int.pow_succ,Int.zero_mul,Int.zero_add,Int.add_mul,Int.mul_assoc,Int.mul_comm b,Int.add_assoc]
theorem ajb (b d:Int) (ds:List Int):dv b (d::ds)=d*b ^ ds.length+dv b ds:=by
 unfold dv
 rw [List.foldl_cons,acR b ds (0*b+d),Int.zero_mul,Int.zero_add]
theorem Zb (b d:Int) (ds:List Int):dv b (ds++[d])=dv b ds*b+d:=by
 unfold dv
 rw [List.foldl_append,List.foldl_cons,List.foldl_nil]
theorem amG (b:Int) (xs ys:List Int):dv b (xs++ys)=dv b xs*b ^ ys.length+dv b ys:=by
 unfold dv
 rw [List.foldl_append,acR b ys]
theorem aaL {b:Int} (hb:0<b):∀ (ds:List Int),okG b ds->0<=dv b ds/\dv b ds<b ^ ds.length
 | [],_=>by simp [dv]
 | d::ds,h=>by
  obtain ⟨h1,h2⟩:=aaL hb ds fun x hx=>h x (List.mem_cons_of_mem _ hx)
  obtain ⟨d0,d1⟩:=h d List.mem_cons_self
  have p:=JT hb ds.length
  rw [ajb,List.length_cons,Int.pow_succ]
  have m0:0<=d*b ^ ds.length:=Int.mul_nonneg d0 (Int.le_of_lt p)
  have m1:d*b ^ ds.length<=(b - 1)*b ^ ds.length:=Int.mul_le_mul_of_nonneg_right (by omega) (Int.le_of_lt p)
  rw [Int.sub_mul,Int.one_mul,Int.mul_comm b] at m1
  exact ⟨by omega,by omega⟩
theorem okG.take {b:Int}{ds:List Int} (h:okG b ds) (k:Nat):okG b (ds.take k):=fun d hd=>h d (List.mem_of_mem_take hd)
theorem okG.drop {b:Int}{ds:List Int} (h:okG b ds) (k:Nat):okG b (ds.drop k):=fun d hd=>h d (List.mem_of_mem_drop hd)
theorem okG.app {b:Int}{xs ys:List Int} (h:okG b xs) (h':okG b ys):okG b (xs++ys):=fun d hd=>(List.mem_append.mp hd).elim (h d) (h' d)
theorem okG.one {b d:Int} (h0:0<=d) (h1:d<b):okG b [d]:=fun x hx=>by rw [List.mem_singleton.mp hx]; exact ⟨h0,h1⟩
theorem aoj {b:Int} (ds:List Int) (k:Nat):dv b ds=dv b (ds.take k)*b ^ (ds.length - k)+dv b (ds.drop k):=by
 have h:=amG b (ds.take k) (ds.drop k)
 rw [List.take_append_drop,List.length_drop] at h
 exact h
section
variable {u e l b:Int}
theorem ag5 (H:qp=true) (h:okN u e l b=true):∀ (ds:List Int) (acc:Int),okG b ds->(ds.map (fpr (jj u e l b))).foldl (fun n p=>n*b+wt e p) acc=ds.foldl (fun n d=>n*b+d) acc
 | [],_,_=>rfl
 | d::ds,acc,hk=>by
  obtain ⟨d0,d1⟩:=hk d List.mem_cons_self
  rw [List.map_cons,List.foldl_cons,List.foldl_cons,(qL H h d0 d1).2.1]
  exact ag5 H h ds _ fun x hx=>hk x (List.mem_cons_of_mem _ hx)
theorem aok (H:qp=true) (h:okN u e l b=true) {ds:List Int} (hk:okG b ds):val b e (ds.map (fpr (jj u e l b)))=dv b ds:=ag5 H h ds 0 hk
theorem aqd (H:qp=true) (h:okN u e l b=true) {r:Nat}{n:Int} (h1:1<=r) (h0:0<=n) (hn:n<b ^ r):dv b (dgl b r n)=n:=by
 obtain ⟨a1,a2,a3,a4,a5,a6,a7,a8,a9,a10⟩:=jN h
 rw [←aok H h (abx (by omega) r n h0 hn)]
 exact afX H h r n h1 h0 hn
noncomputable def zU (m:PyData) (c:Nat × Int):PyData:= .tuple [.int (c.1:Int),ZK m c.2]
theorem ajc {g:LP->OP}{k:Nat}{m S:PyData}{r:Int}:(jv nDT 4 (bDT g k).1) [m,S,.int r,.int 0]=some (.list []):=by
 have e0:=abz 0 0
 rw [decide_eq_true rfl] at e0
 refine jW rfl ?_
 show (bDT g k).1 [some m,some S,some (.int r),some (.int 0),none,none]=_
 simp only [bDT,jM,ifS,tst,op2,qq,zA,jr,lkp,cst,zzA,zzB,zzC,zzD,zzE,e0,asB,zzM,Q8]
theorem arF {g:LP->OP}{k:Nat}{m S R F:PyData}{r w dg:Int} (hd:dg ≠ 0) (hx:dIx S (.int r)=some R) (hw:qw [m,R]=some (.int w)) (hl:0<=w - dg) (hf:zO [m,.int (w - dg)]=some F):
  (jv nDT 4 (bDT g k).1) [m,S,.int r,.int dg]=some (.list [.tuple [.int r,F]]):=by
 have e0:=abz dg 0
 rw [decide_eq_false hd] at e0
 have s0:acr (.int w) (.int dg)=some (.int (w - dg)):=rfl
 have c0:qJ (fun i j=>decide (j<=i)) (.int (w - dg)) (.int 0)=some (.bool true):=by
  show some (PyData.bool (decide (0<=w - dg)))=_
  rw [decide_eq_true hl]
 have f1:few [PyData.int r,F]=true:=jZ (by simp)
 have f2:few [PyData.tuple [PyData.int r,F]]=true:=jZ (by simp)
 refine jW rfl ?_
 show (bDT g k).1 [some m,some S,some (.int r),some (.int dg),none,none]=_
 simp only [bDT]
 refine (jK (ρ1:=[some m,some S,some (.int r),some (.int dg),none,none]) ?_).trans ?_
 ·simp only [ifS,tst,op2,lkp,cst,zzA,zzB,zzC,zzD,zzE,e0,asB,zzL,zzN,qy]
 refine (jK (ρ1:=[some m,some S,some (.int r),some (.int dg),some (.int (w - dg)),none]) ?_).trans ?_
 ·simp only [qO,op2,jy,jk,jr,lkp,jH,zzA,zzB,zzC,zzD,zzE,hx,hw,s0,zzF,zzG]
 simp only [jM,ifS,tst,op2,qq,zA,Qh,jy,jk,jr,lkp,cst,zzA,zzB,zzC,zzD,zzE,c0,asB,zzM,hf,f1,f2]
theorem arG {g:LP->OP}{k:Nat}{m S R F:PyData}{A:LP}{r w dg b:Int} (hd:dg ≠ 0) (hx:dIx S (.int r)=some R) (hw:qw [m,R]=some (.int w)) (hl:w - dg<0) (hs:g [m,S,.int (r - 1),.int 1]=some (.list A)) (hb:dIx m (.int 3)=some (.int b))
  (hf:zO [m,.int (w - dg+b)]=some F) (hA:A.length<1000):(jv nDT 4 (bDT g k).1) [m,S,.int r,.int dg]=some (.list (A++[.tuple [.int r,F]])):=by
 have e0:=abz dg 0
 rw [decide_eq_false hd] at e0
 have s0:acr (.int w) (.int dg)=some (.int (w - dg)):=rfl
 have s1:acr (.int r) (.int 1)=some (.int (r - 1)):=rfl
 have a0:zh (.int (w - dg)) (.int b)=some (.int (w - dg+b)):=rfl
 have c0:qJ (fun i j=>decide (j<=i)) (.int (w - dg)) (.int 0)=some (.bool false):=by
  show some (PyData.bool (decide (0<=w - dg)))=_
  rw [decide_eq_false (by omega)]
 have f1:few [PyData.int r,F]=true:=jZ (by simp)
 have f2:few [PyData.tuple [PyData.int r,F]]=true:=jZ (by simp)
 have a1:zh (.list A) (.list [.tuple [.int r,F]])=some (.list (A++[.tuple [.int r,F]])):=by
  show (if few (A++[.tuple [.int r,F]])=true then some (PyData.list (A++[.tuple [.int r,F]])) else none)=_
  rw [if_pos (jZ (by rw [List.length_append,List.length_singleton]; omega))]
 refine jW rfl ?_
 show (bDT g k).1 [some m,some S,some (.int r),some (.int dg),none,none]=_
 simp only [bDT]
 refine (jK (ρ1:=[some m,some S,some (.int r),some (.int dg),none,none]) ?_).trans ?_
 ·simp only [ifS,tst,op2,lkp,cst,zzA,zzB,zzC,zzD,zzE,e0,asB,zzL,zzN,qy]
 refine (jK (ρ1:=[some m,some S,some (.int r),some (.int dg),some (.int (w - dg)),none]) ?_).trans ?_
 ·simp only [qO,op2,jy,jk,jr,lkp,jH,zzA,zzB,zzC,zzD,zzE,hx,hw,s0,zzF,zzG]
 refine (jK (ρ1:=[some m,some S,some (.int r),some (.int dg),some (.int (w - dg)),none]) ?_).trans ?_
 ·simp only [ifS,tst,op2,lkp,cst,zzA,zzB,zzC,zzD,zzE,c0,asB,zzL,zzN,qy]
 refine (jK (ρ1:=[some m,some S,some (.int r),some (.int dg),some (.int (w - dg)),some (.list A)]) ?_).trans ?_
 ·simp only [qO,op2,jy,jk,jr,lkp,cst,jH,zzA,zzB,zzC,zzD,zzE,s1,hs,zzF,zzG]
 simp only [jM,qq,op2,zA,Qh,jy,jk,jr,lkp,cst,zzA,zzB,zzC,zzD,zzE,hb,a0,hf,f1,f2,zzM,a1]
theorem QN {ds:List Int}{i:Nat}{d:Int} (hd:ds[i]?=some d):ds.take (i+1)=ds.take i++[d]:=by
 rw [List.take_succ,hd]; rfl
theorem aeS {ds:List Int}{i:Nat}{d:Int} (hd:ds[i]?=some d):ds.drop i=d::ds.drop (i+1):=by
 obtain ⟨hi,rfl⟩:=List.getElem?_eq_some_iff.mp hd
 exact List.drop_eq_getElem_cons hi
theorem ajd {pre ds:List Int}{i:Nat}{d x:Int} (hl:pre.length=i) (hd:ds[i]?=some d):(pre++ds.drop i).set i x=(pre++[x])++ds.drop (i+1):=by
 rw [aeS hd,List.append_assoc]
 have:(pre++d::ds.drop (i+1)).set i x=pre++(d::ds.drop (i+1)).set 0 x:=by
  rw [List.set_append_right _ _ (by omega),hl,Nat.sub_self]
 rw [this]; rfl
end
theorem aol (m:PyData) (c:Nat × Int):noL (zU m c)=true:=by simp [zU,ZK,pr,noL,noLs]
theorem amH (m:PyData) (cs:List (Nat × Int)):noLs (cs.map (zU m))=true:=Zu fun d hd=>by
 obtain ⟨c,_,rfl⟩:=List.mem_map.mp hd
 exact aol m c
section
variable {u e l b:Int}
theorem aqe {x:Str}{g:LP->OP}{m S N now now':PyData}{ch es:LP}{i dg:Int}{x8:OP} (hg:g [m,now,.int i,.int dg]=some (.list es)) (hb:ah9 [now,.list es]=some now') (hn:noLs es=true) (hl:ch.length+es.length<1000000):
  (abU x g).1 [some m,some S,some N,some (fnD x),some (.list ch),some now,some (.int i),some (.int dg),x8]=some (.nx [some m,some S,some N,some (fnD x),some (.list (ch++es)),some now',some (.int i),some (.int dg),some (.list es)]):=by
 have hF:=zC x
 have hx:anF (some (.list ch)) (some (.list es))=some (.list (ch++es)):=by
  show (if noLs es=true/\ch.length+es.length<1000000 then some (PyData.list (ch++es)) else none)=_
  rw [if_pos ⟨hn,hl⟩]
 simp only [abU]
 refine (jK (ρ1:=[some m,some S,some N,some (fnD x),some (.list ch),some now,some (.int i),some (.int dg),some (.list es)]) ?_).trans ?_
 ·simp only [qO,brw,hid,aj0,jk,jr,lkp,jH,zzA,zzB,zzC,zzD,zzE,hF,zzM,hg,zzF,zzG]
 refine (jK (ρ1:=[some m,some S,some N,some (fnD x),some (.list ch),some now',some (.int i),some (.int dg),some (.list es)]) ?_).trans ?_
 ·simp only [qO,brw,hid,jy,jk,jr,lkp,jH,zzA,zzB,zzC,zzD,zzE,hb,zzF,zzG]
 refine (jK (ρ1:=[some m,some S,some N,some (fnD x),some (.list (ch++es)),some now',some (.int i),some (.int dg),some (.list es)]) ?_).trans rfl
 simp only [agq,arr,lkp,zzA,zzB,zzC,zzD,zzE,hx,zzF,zzG]
theorem JF {N:List Str}{n:Nat}{B:RO}{ds:LP} (h:B (jE N ds)=none):jv N n B ds=none:=by
 unfold jv
 split
 ·rw [h]
 ·rfl
end
noncomputable def plc (b:Int):Nat->List Int
 | 0=>[]
 | k+1=>b ^ k::plc b k
theorem aal (b:Int):∀ k:Nat,(plc b k).length=k
 | 0=>rfl
 | k+1=>by simp [plc,aal b k]
noncomputable abbrev tcP:Rho->Option Bool:=tst (op2 (qJ fun i j=>decide (i<j)) (jy Ja (jk (lkp 2) jr)) (lkp 1))
theorem amI {B:OP}{r:Int}{ts:LP}:tcP [B,some (.int r),some (.list ts)]=some (decide ((ts.length:Int)<r)):=by
 have hl:Ja [.list ts]=some (.int (ts.length:Int)):=rfl
 have hc:qJ (fun i j=>decide (i<j)) (.int (ts.length:Int)) (.int r)=some (.bool (decide ((ts.length:Int)<r))):=rfl
 simp only [tcP,tst,op2,jy,jk,jr,lkp,zzA,zzB,zzC,zzD,zzE,hl,hc,asB]
theorem aqf {b:Int}{k:Nat}{R:OP} (h:-1000000000000<b ^ k/\b ^ k<1000000000000) (hk:k<1000):afO.1 [some (.int b),R,some (.list ((plc b (k+1)).map .int))]=some (.nx [some (.int b),R,some (.list ((plc b (k+2)).map .int))]):=by
 have ix:dIx (.list ((plc b (k+1)).map .int)) (.int 0)=some (.int (b ^ k)):=by
  show (if ((plc b (k+1)).map PyData.int).length<1000000 then atI ((plc b (k+1)).map PyData.int) 0 else none)=_
  rw [if_pos (by rw [List.length_map,aal]; omega)]
  unfold atI
  rw [ZJ (by omega) (by rw [List.length_map,aal]; show (0:Int).toNat<_; exact Nat.succ_pos _)]
  rfl
 have mu:zp (.int (b ^ k)) (.int b)=some (.int (b ^ (k+1))):=by rw [qx h,Int.pow_succ]
 have is:alF (some (.list ((plc b (k+1)).map .int))) (some (.int 0)) (some (.int (b ^ (k+1))))=some (.list ((plc b (k+2)).map .int)):=by
  show (if noL (.int (b ^ (k+1)))=true/\((plc b (k+1)).map PyData.int).length<1000000 then some (PyData.list (.int (b ^ (k+1))::(plc b (k+1)).map PyData.int)) else none)=_
  rw [if_pos ⟨by simp [noL],by rw [List.length_map,aal]; omega⟩]
  rfl
 simp only [afO,jM,agq,apT,op2,lkp,cst,zzA,zzB,zzC,zzD,zzE,ix,mu,is,zzF,zzG,qy]
theorem ag6 {b:Int} (hb:0<b) (hb':b<=16):∀ (j k f:Nat),k+1+j<=4->zE tcP afO.1 (j+1+f) [some (.int b),some (.int ((k+1+j:Nat):Int)),some (.list ((plc b (k+1)).map .int))]=some (.nx [some (.int b),some (.int ((k+1+j:Nat):Int)),some (.list ((plc b (k+1+j)).map .int))])
 | 0,k,f,h=>by
  rw [show 0+1+f=f+1 by omega]
  refine abv ?_
  rw [amI,List.length_map,aal,decide_eq_false (by omega)]
 | j+1,k,f,h=>by
  have pw:=amA hb hb' (r:=k) (by omega)
  have pp:=JT hb k
  rw [show j+1+1+f=(j+1+f)+1 by omega]
  refine (Za ?_ (aqf (R:=some (.int ((k+1+(j+1):Nat):Int))) ⟨by omega,by omega⟩ (by omega))).trans ?_
  ·rw [amI,List.length_map,aal,decide_eq_true (by omega)]
  ·have:=ag6 hb hb' j (k+1) f (by omega)
   rw [show k+1+1+j=k+1+(j+1) by omega] at this
   exact this
theorem aom {b:Int} (hb:0<b) (hb':b<=16) {r:Nat} (h1:1<=r) (h4:r<=4):aof [.int b,.int (r:Int)]=some (.list ((plc b r).map .int)):=by
 obtain ⟨j,rfl⟩:∃ j,r=0+1+j:=⟨r - 1,by omega⟩
 have lp:=ag6 hb hb' j 0 (10 - (j+1)) (by omega)
 rw [show j+1+(10 - (j+1))=10 by omega] at lp
 generalize ((0+1+j:Nat):Int)=rr at lp ⊢
 refine jW rfl ?_
 show aoe.1 [some (.int b),some (.int rr),none]=_
 have f1:few [PyData.int 1]=true:=jZ (by simp)
 have e1:(plc b (0+1)).map PyData.int=[.int 1]:=by show [PyData.int (b ^ 0)]=_; rw [Int.pow_zero]
 rw [e1] at lp
 simp only [aoe,aaC,zA,jk,jr,cst,zzD,zzE,f1,zzM,List.length_cons,List.length_nil,zzF,zzG]
 rw [if_pos (by omega),jK lp]
 simp only [jM,qq,lkp,zzA,zzB,zzC,zzD,zzE]
theorem adJ {x m:Int} (h:0<=x) (hm:0<m):x % m<=x:=by
 have h1:=Int.mul_ediv_add_emod x m
 have h2:=Int.mul_nonneg (Int.le_of_lt hm) (Int.ediv_nonneg h (Int.le_of_lt hm))
 omega
section
variable {u e l b:Int}
theorem aqg {m now now':PyData}{R N Y:OP}{rr y p left:Int}{acc:LP}{x7:OP} (hv:agN [m,now]=some (.int left)) (mu:zp (.int y) (.int p)=some (.int (y*p))) (h0:0<y*p) (h9:y*p<1000000000) (pl:Z5 [m,.int rr,.int (left % (y*p))]=some now')
  (nl:noL (.tuple [.int (left / (y*p)),now'])=true) (al:acc.length<1000000):
  abV.1 [some m,some (.int rr),N,some (.int y),some now,some (.list acc),some (.int p),x7]=some (.nx [some m,some (.int rr),N,some (.int y),some now',some (.list (acc++[.tuple [.int (left / (y*p)),now']])),some (.int p),some (.int left)]):=by
 have q1:ad1 (.int left) (.int (y*p))=some (.int (left % (y*p))):=Q9 h0
 have q2:aaT (.int left) (.int (y*p))=some (.int (left / (y*p))):=QL h0 h9
 have f1:few [PyData.int (left / (y*p)),now']=true:=jZ (by simp)
 have ap:alB (some (.list acc)) (some (.tuple [.int (left / (y*p)),now']))=some (.list (acc++[.tuple [.int (left / (y*p)),now']])):=by
  show (if noL (.tuple [.int (left / (y*p)),now'])=true/\acc.length<1000000 then some (PyData.list (acc++[.tuple [.int (left / (y*p)),now']])) else none)=_
  rw [if_pos ⟨nl,al⟩]
 simp only [abV]
 refine (jK (ρ1:=[some m,some (.int rr),N,some (.int y),some now,some (.list acc),some (.int p),some (.int left)]) ?_).trans ?_
 ·simp only [qO,brw,hid,jy,jk,jr,lkp,jH,zzA,zzB,zzC,zzD,zzE,hv,zzF,zzG]
 refine (jK (ρ1:=[some m,some (.int rr),N,some (.int y),some now',some (.list acc),some (.int p),some (.int left)]) ?_).trans ?_
 ·simp only [qO,brw,hid,jy,op2,jk,jr,lkp,jH,zzA,zzB,zzC,zzD,zzE,mu,q1,pl,zzF,zzG]
 refine (jK (ρ1:=[some m,some (.int rr),N,some (.int y),some now',some (.list (acc++[.tuple [.int (left / (y*p)),now']])),some (.int p),some (.int left)]) ?_).trans rfl
 simp only [agq,apQ,Qh,op2,jk,jr,lkp,zzA,zzB,zzC,zzD,zzE,mu,q2,f1,zzM,ap,zzF,zzG]
end
section
variable {u e l b:Int}{ps qs:List (Int × Int)}
theorem aie (h:okN u e l b=true) {r:Nat}{n:Int} (h1:1<=r) (h4:r<=4) (h0:0<=n) (hn:b ^ r<=n):acI [jj u e l b,.int (r:Int),.int n]=some ("TooGreat":Str):=by
 obtain ⟨a1,a2,a3,a4,a5,a6,a7,a8,a9,a10⟩:=jN h
 have hb:0<b:=by omega
 have hd:=acQ (n:=n) hb a9 h1 h4
 obtain ⟨k,rfl⟩:∃ k,r=k+1:=⟨r - 1,by omega⟩
 obtain ⟨x,xs,hx,_,hx2⟩:=aby hb k n h0
 have hi:=amF h4 hx
 have hc:qJ (fun i j=>decide (j<=i)) (.int x) (.int b)=some (.bool true):=by
  show some (PyData.bool (decide (b<=x)))=_
  rw [decide_eq_true (hx2 hn)]
 generalize hr:((k+1:Nat):Int)=rr at hd ⊢
 refine (zS rfl).trans ?_
 show acH.1 [some (jj u e l b),some (.int rr),some (.int n),none]=_
 simp only [acH,nxX,qO,jy,jk,jr,op2,lkp,cst,jH,zzA,zzB,zzC,zzD,zzE,ix3,hd,zzF,zzG,ifX,tst,hi,hc,asB,zzM]
theorem aon {ns:List Int} (hn:ns.length<1000000) (h:okN u e l b=true) {at_:Int} (ha:0<=at_):∃ ps,an8 [scr ns,.int at_,jj u e l b,.int 4]=some (jC ps)/\okS u l ps=true:=by
 obtain ⟨r,d0,r0,r1⟩:=qk ns hn at_ 4 ha (by omega)
 have hr:Jp [.int (1+r)]=some (qP 0 (1+r).toNat):=abt (by omega) (by omega)
 obtain ⟨ρ',hl,hI⟩:=ZL (ga:=jH 6) (F:=afL.1) (fun i ρ=>∃ qs x6 x7,ρ=[some (scr ns),some (.int at_),some (jj u e l b),some (.int 4),some (.int (1+r)),some (jC qs),x6,x7]/\qs.length=i/\qs.all (okP u l)=true) (qP 0 (1+r).toNat) 0
  [some (scr ns),some (.int at_),some (jj u e l b),some (.int 4),some (.int (1+r)),some (jC []),none,none] ⟨[],none,none,rfl,rfl,rfl⟩ (fun j d ρ hd hi=>by
   obtain ⟨hj,rfl⟩:=abA hd
   obtain ⟨qs,x6,x7,rfl,hlen,hall⟩:=hi
   obtain ⟨p,hp,hb⟩:=aqc hn h ha (j:=j) (by omega) (x3:=some (.int 4)) (x4:=some (.int (1+r))) (x7:=x7) (qs:=qs) (by omega)
   exact ⟨_,_,rfl,hb,qs++[p],_,_,rfl,by rw [List.length_append,hlen]; rfl,by rw [List.all_append,hall,List.all_cons,hp]; rfl⟩)
 obtain ⟨qs,x6,x7,rfl,hlen,hall⟩:=hI
 rw [JU,Nat.zero_add] at hlen
 refine ⟨qs,jW rfl ?_,aid (by omega) (by omega) hall⟩
 generalize scr ns=S at*
 show an7.1 [some S,some (.int at_),some (jj u e l b),some (.int 4),none,none,none,none]=_
 simp only [an7]
 refine (jK (ρ1:=[some S,some (.int at_),some (jj u e l b),some (.int 4),some (.int (1+r)),none,none,none]) ?_).trans ?_
 ·simp only [qO,jy,jk,jr,op2,lkp,cst,jH,zzA,zzB,zzC,zzD,zzE,d0,add_int,zzF,zzG]
 refine (jK (ρ1:=[some S,some (.int at_),some (jj u e l b),some (.int 4),some (.int (1+r)),some (jC []),none,none]) rfl).trans ?_
 refine (jK (ρ1:=[some S,some (.int at_),some (jj u e l b),some (.int 4),some (.int (1+r)),some (jC qs),x6,x7]) ?_).trans ?_
 ·show (Option.bind (Option.bind _ Jp) _)=_
  simp only [jk,jr,lkp,zzA,zzB,zzC,zzD,zzE,hr]
  exact hl
 rfl
end
noncomputable def whB (a b:Int):PyData->Bool
 | .int i=>decide (a<=i) && decide (i<=b)
 | _=>false
theorem Jv (d:PyData) (hd:noD d=true) (a b:Int):jU [d,.int a,.int b]=some (.bool (whB a b d)):=by
 cases d with
 | int i=>exact j1 i a b
 | dict k=>simp [noD] at hd
 | _=>simp [jU,jv,aba,jE,jM,ifS,orB,tst,lkp,Qj,tyn,asB,zo,chn,qJ,qq,qy,whB,cst]
noncomputable def ad9 (u l:Int):PyData->Bool
 | .tuple [x,y]=>whB 0 u x && whB 0 l y
 | _=>false
theorem amJ {ds:LP} (h:noDs ds=true):∀ d ∈ ds,noD d=true:=by
 induction ds with
 | nil=>intro d hd; cases hd
 | cons x xs ih=>
  have h':noD x=true/\noDs xs=true:=by simpa [noDs] using h
  intro d hd
  rcases List.mem_cons.mp hd with rfl | q
  ·exact h'.1
  ·exact ih h'.2 d q
section
variable {u e l b:Int}
theorem akm (d:PyData) (hd:noD d=true) (h:∀ x y,d ≠ .tuple [x,y]):Q6 [jj u e l b,d]=some (.bool false):=by
 cases d with
 | dict k=>simp [noD] at hd
 | tuple ds=>
  have hl:¬ (ds.length:Int)=2:=fun z=>by
   have z':ds.length=2:=by omega
   match ds,z' with
   | [x,y],_=>exact h x y rfl
  simp [Q6,jv,abQ,jE,jM,ifS,orB,zo,tst,Qj,tyn,asB,lkp,op2,jy,jk,jr,Ja,cst,dNe,Qe,aaj,qy,qq,hl]
 | _=>simp [Q6,jv,abQ,jE,jM,ifS,orB,zo,tst,Qj,tyn,asB,lkp,op2,jy,jk,jr,Ja,cst,dNe,Qe,aaj,qy,qq]
theorem akn (d:PyData) (hd:noD d=true):Q6 [jj u e l b,d]=some (.bool (ad9 u l d)):=by
 by_cases h:∃ x y,d= .tuple [x,y]
 ·obtain ⟨x,y,rfl⟩:=h
  have hx:noD x=true/\noD y=true:=by simpa [noD,noDs] using hd
  have w1:=Jv x hx.1 0 u
  have w2:=Jv y hx.2 0 l
  cases c1:whB 0 u x <;> rw [c1] at w1 <;> simp [Q6,jv,abQ,jE,jM,ifS,orB,zo,tst,Qj,tyn,asB,lkp,op2,jy,jk,jr,Ja,cst,dNe,Qe,aaj,qy,qq,ahO,jj,dIx,atI,ixN,w1,w2,ad9,c1]
 ·rw [akm d hd fun x y z=>h ⟨x,y,z⟩]
  congr 2
  unfold ad9
  split
  ·exact absurd ⟨_,_,rfl⟩ h
  ·rfl
noncomputable def ab4 (u l:Int):PyData->Bool
 | .tuple ds=>decide (1<=ds.length) && decide (ds.length<=4) && ds.all (ad9 u l)
 | _=>false
theorem ab5 (hm:Jc [jj u e l b]=some .none) (d:PyData) (hd:noD d=true):aaG [jj u e l b,d]=some (.bool (ab4 u l d)):=by
 refine jW rfl ?_
 show aaF.1 [some (jj u e l b),some d]=_
 simp only [aaF]
 refine (jK (ρ1:=[some (jj u e l b),some d]) ?_).trans ?_
 ·simp only [aaQ,jy,jk,jr,lkp,zzA,zzB,zzC,zzD,zzE,hm]
 cases d with
 | dict k=>simp [noD] at hd
 | tuple ds=>
  by_cases h1:1<=ds.length
  ·by_cases h4:ds.length<=4
   ·have hf:few ds=true:=jZ (by omega)
    have c1:qJ (fun i j=>decide (i<=j)) (.int 1) (.int (ds.length:Int))=some (.bool true):=by
     show some (PyData.bool (decide ((1:Int)<=(ds.length:Int))))=_
     rw [decide_eq_true (by omega)]
    have c2:qJ (fun i j=>decide (i<=j)) (.int (ds.length:Int)) (.int 4)=some (.bool true):=by
     show some (PyData.bool (decide ((ds.length:Int)<=4)))=_
     rw [decide_eq_true (by omega)]
    refine (jK (ρ1:=[some (jj u e l b),some (.tuple ds)]) ?_).trans ?_
    ·simp [ifS,orB,zo,tst,Qj,tyn,asB,lkp,chn,jy,jk,jr,Ja,cst,qy,c1,c2]
    simp only [jM,qq,jy,jk,jr,ql,itT,lkp,aav,zzA,zzB,zzC,zzD,zzE,hf,zzM,Qi,List.map_cons,List.map_nil,zzH]
    rw [Jb (fun d=> .bool (ad9 u l d))]
    ·have:bls (ds.map fun d=>PyData.bool (ad9 u l d))=some (ds.map (ad9 u l)):=abr (ad9 u l) _
     simp only [zzE,zzD,ajN,this,ab4,decide_eq_true h1,decide_eq_true h4,Bool.true_and,List.all_map,Function.comp_def,id]
    ·intro d hd'
     simp [jy,jk,jr,lkp,akn (e:=e) (b:=b) d (amJ (by simpa [noD] using hd) d hd')]
   ·have c1:qJ (fun i j=>decide (i<=j)) (.int 1) (.int (ds.length:Int))=some (.bool true):=by
     show some (PyData.bool (decide ((1:Int)<=(ds.length:Int))))=_
     rw [decide_eq_true (by omega)]
    have c2:qJ (fun i j=>decide (i<=j)) (.int (ds.length:Int)) (.int 4)=some (.bool false):=by
     show some (PyData.bool (decide ((ds.length:Int)<=4)))=_
     rw [decide_eq_false (by omega)]
    simp [jM,ifS,orB,zo,tst,Qj,tyn,asB,lkp,chn,jy,jk,jr,Ja,cst,qy,c1,c2,qq,ab4,h4]
  ·have c1:qJ (fun i j=>decide (i<=j)) (.int 1) (.int (ds.length:Int))=some (.bool false):=by
    show some (PyData.bool (decide ((1:Int)<=(ds.length:Int))))=_
    rw [decide_eq_false (by omega)]
   simp [jM,ifS,orB,zo,tst,Qj,tyn,asB,lkp,chn,jy,jk,jr,Ja,cst,qy,c1,qq,ab4,h1]
 | _=>simp [jM,ifS,orB,zo,tst,Qj,tyn,asB,lkp,chn,jy,jk,jr,cst,qy,qq,ab4]
theorem aif (hm:Jc [jj u e l b]=some .none) (d:PyData) (hd:noD d=true) (hs:ab4 u l d=false):zw [jj u e l b,d]=none:=by
 have g:=ab5 (e:=e) hm d hd
 rw [hs] at g
 simp [zw,jv,abf,jE,jM,ifS,zo,tst,asB,jy,jk,jr,lkp,g,ajI]
end
theorem aeT {d:PyData} (h:j6 [d]=some (.bool false)):Jc [d]=none:=by
 simp [Jc,jv,afE,jE,jM,ifS,zo,tst,asB,jy,jk,jr,lkp,h,ajI]
theorem aeU {d:PyData} (h:j6 [d]=some (.bool false)):ZC [d]=some ("NoManner":Str):=by
 refine (zS rfl).trans ?_
 show abW.1 [some d]=_
 simp [abW,ifX,zo,tst,asB,jy,jk,jr,lkp,h]
theorem ab6 {d:PyData} (h:j6 [d]=some (.bool true)):ZC [d]=none:=by
 refine (zS rfl).trans ?_
 show abW.1 [some d]=_
 simp [abW,ifX,zo,tst,asB,jy,jk,jr,lkp,h,ajW]
theorem aig {m d:PyData} (h:j6 [m]=some (.bool false)):aaG [m,d]=none:=by
 have g:=aeT h
 simp [aaG,jv,aaF,jE,jM,aaQ,jy,jk,jr,lkp,g]
theorem aih {m d:PyData} (h:j6 [m]=some (.bool false)):afP [m,d]=some ("NoManner":Str):=by
 have g:=aeU h
 refine (zS rfl).trans ?_
 show abX.1 [some m,some d]=_
 simp [abX,jy,jk,jr,lkp,g]
theorem aeV {m d:PyData} (h:j6 [m]=some (.bool true)):afP [m,d]=none:=by
 have g:=ab6 h
 refine (zS rfl).trans ?_
 show abX.1 [some m,some d]=_
 simp [abX,jy,jk,jr,lkp,g]
theorem ag7 {m d:PyData} (h:j6 [m]=some (.bool false)):zw [m,d]=none:=by
 have g:=aig (d:=d) h
 simp [zw,jv,abf,jE,jM,ifS,zo,tst,asB,jy,jk,jr,lkp,g]
theorem ag8 {m d:PyData} (h:j6 [m]=some (.bool false)):Jl [m,d]=some ("NoManner":Str):=by
 have g:=aih (d:=d) h
 refine (zS rfl).trans ?_
 show Qd.1 [some m,some d]=_
 simp [Qd,orX,jy,jk,jr,lkp,g]
theorem aii {u e l b:Int} (hM:j6 [jj u e l b]=some (.bool true)) {d:PyData} (hd:noD d=true) (hs:ab4 u l d=false):Jl [jj u e l b,d]=some ("NoSetting":Str):=by
 have g:=ab5 (e:=e) (Ji hM) d hd
 rw [hs] at g
 have g2:=aeV (d:=d) hM
 refine (zS rfl).trans ?_
 show Qd.1 [some (jj u e l b),some d]=_
 simp [Qd,orX,ifX,zo,tst,asB,jy,jk,jr,lkp,g,g2]
theorem aij {u e l b:Int} (hM:j6 [jj u e l b]=some (.bool true)) {d:PyData} (hd:noD d=true) (hs:ab4 u l d=true):Jl [jj u e l b,d]=none:=by
 have g:=ab5 (e:=e) (Ji hM) d hd
 rw [hs] at g
 have g2:=aeV (d:=d) hM
 refine (zS rfl).trans ?_
 show Qd.1 [some (jj u e l b),some d]=_
 simp [Qd,orX,ifX,zo,tst,asB,jy,jk,jr,lkp,g,g2,ajW]
theorem aoo {u l:Int} (p:Int × Int):ad9 u l (pr p)=okP u l p:=by
 simp [ad9,pr,whB,okP,Bool.and_assoc]
theorem ako {u l:Int} (ps:List (Int × Int)):ab4 u l (jC ps)=okS u l ps:=by
 simp only [ab4,jC,okS,List.length_map,List.all_map]
 congr 2
 funext p
 exact aoo p
theorem aje:∀ ps:List (Int × Int),noDs (ps.map pr)=true
 | []=>rfl
 | p::ps=>by simp [noDs,noD,pr,aje ps]
theorem adK (ps:List (Int × Int)):noD (jC ps)=true:=by
 simp [noD,jC,aje]
theorem asx {i j:Int} (h:-1000<=i/\i<=1000):zp (.int i) (.int j)=some (.int (i*j)):=by
 show (if (-(2 ^ 64)<i/\i<2 ^ 64) ∨ (-(2 ^ 64)<j/\j<2 ^ 64) then some (PyData.int (i*j)) else none)=_
 rw [if_pos (.inl ⟨by omega,by omega⟩)]
theorem arH {i j:Int} (h:-1000<=j/\j<=1000):zp (.int i) (.int j)=some (.int (i*j)):=by
 show (if (-(2 ^ 64)<i/\i<2 ^ 64) ∨ (-(2 ^ 64)<j/\j<2 ^ 64) then some (PyData.int (i*j)) else none)=_
 rw [if_pos (.inr ⟨by omega,by omega⟩)]
section
variable {u e l b:Int}
theorem acl (h:okN u e l b=true) {S:PyData}:∀ (qs:List (Int × Int)) (acc:Int) (x y:OP),
  ∃ x' y',j0 (QQ 2 (j8 (jH 3) (j8 (jH 4) zY))) abk.1 (qs.map pr) [some (jj u e l b),some S,some (.int acc),x,y]=some (.nx [some (jj u e l b),some S,some (.int (qs.foldl (fun n p=>n*b+wt e p) acc)),x',y'])
 | [],acc,x,y=>⟨x,y,rfl⟩
 | q::qs,acc,x,y=>by
  obtain ⟨a1,a2,a3,a4,a5,a6,a7,a8,a9,a10⟩:=jN h
  have m1:zp (.int b) (.int acc)=some (.int (b*acc)):=asx (by omega)
  have m2:zp (.int q.1) (.int e)=some (.int (q.1*e)):=arH (by omega)
  have step:abk.1 [some (jj u e l b),some S,some (.int acc),some (.int q.1),some (.int q.2)]=some (.nx [some (jj u e l b),some S,some (.int (acc*b+wt e q)),some (.int q.1),some (.int q.2)]):=by
   have:acc*b+wt e q=b*acc+q.1*e+q.2:=by unfold wt; rw [Int.mul_comm acc b]; omega
   rw [this]
   simp only [abk,jM,qO,op2,lkp,cst,jH,zzA,zzB,zzC,zzD,zzE,ix3,ix1,m1,m2,add_int,zzF,zzG,qy]
  obtain ⟨x',y',hy⟩:=acl h (S:=S) qs (acc*b+wt e q) (some (.int q.1)) (some (.int q.2))
  refine ⟨x',y',?_⟩
  rw [List.map_cons]
  have ga:QQ 2 (j8 (jH 3) (j8 (jH 4) zY)) (pr q) [some (jj u e l b),some S,some (.int acc),x,y]=some [some (jj u e l b),some S,some (.int acc),some (.int q.1),some (.int q.2)]:=rfl
  simp only [j0,ga,zzD,step]
  exact hy
theorem aik (h:okN u e l b=true) (ps:List (Int × Int)):acL [jj u e l b,jC ps]=some (.int (val b e ps)):=by
 obtain ⟨x',y',hy⟩:=acl h (S:=jC ps) ps 0 none none
 refine jW rfl ?_
 show acK.1 [some (jj u e l b),some (jC ps),none,none,none]=_
 simp only [acK]
 refine (jK (ρ1:=[some (jj u e l b),some (jC ps),some (.int 0),none,none]) rfl).trans ?_
 refine (jK (ρ1:=[some (jj u e l b),some (jC ps),some (.int (val b e ps)),x',y']) ?_).trans rfl
 show (itS (lkp 1) _).bind _=_
 rw [show itS (lkp 1) [some (jj u e l b),some (jC ps),some (.int 0),none,none]=some (ps.map pr) from rfl]
 exact hy
theorem aop (i n:Nat):(qP 0 n).map (fun d=>PyData.tuple [.int (i:Int),d])=zi i n:=by
 simp [qP,zi]
theorem akp (hu:0<=u) (hu':u<50) (hl:0<=l) (hl':l<50):afU [jj u e l b]=some (.list (qR u l)):=by
 have r1:Jp [.int (u+1)]=some (qP 0 (u+1).toNat):=abt (by omega) (by omega)
 have r2:Jp [.int (l+1)]=some (qP 0 (l+1).toNat):=abt (by omega) (by omega)
 have f2:few (qP 0 (l+1).toNat)=true:=jZ (by simp [qP]; omega)
 obtain ⟨ρ',hl1,hI⟩:=ZL (ga:=jH 2) (F:=afS.1) (fun i ρ=>i<=(u+1).toNat->∃ x,ρ=[some (jj u e l b),some (.list (zH i (l+1).toNat)),x]) (qP 0 (u+1).toNat) 0 [some (jj u e l b),some (.list []),none] (fun _=>⟨none,rfl⟩) (fun j d ρ hd hi=>by
  obtain ⟨hj,rfl⟩:=abA hd
  rw [Nat.zero_add] at hi ⊢
  obtain ⟨x,rfl⟩:=hi (by omega)
  have cm:jX (jH 0) aaS (Qh (jk (lkp 1) (jk (lkp 0) jr))) (qP 0 (l+1).toNat) [none,some (.int (j:Int))]=some (zi j (l+1).toNat):=by
   rw [Jb (fun d=>PyData.tuple [.int (j:Int),d]),aop]
   intro d hd
   have f1:few [PyData.int (j:Int),d]=true:=jZ (by simp)
   simp only [Qh,jk,jr,lkp,zzG,zzA,zzB,zzC,zzD,zzE,f1,zzM]
  have ad:zh (.list (zH j (l+1).toNat)) (.list (zi j (l+1).toNat))=some (.list (zH (j+1) (l+1).toNat)):=by
   rw [Q4]
   show (if few (zH j (l+1).toNat++zi j (l+1).toNat)=true then some (PyData.list (zH j (l+1).toNat++zi j (l+1).toNat)) else none)=_
   rw [if_pos]
   refine jZ ?_
   rw [List.length_append,abb,afC]
   have:j*(l+1).toNat<=50*50:=Nat.mul_le_mul (by omega) (by omega)
   omega
  refine ⟨_,_,rfl,?_,fun _=>⟨some (.int (j:Int)),rfl⟩⟩
  simp only [afS,jM,qO,op2,ql,lkp,cst,jk,jr,jH,Qi,List.map_cons,List.map_nil,zzA,zzB,zzC,zzD,zzH,zzE,ix2,add_int,r2,f2,zzM,cm,ad,zzF,zzG,qy])
 rw [JU,Nat.zero_add] at hI
 obtain ⟨x,rfl⟩:=hI (Nat.le_refl _)
 refine jW rfl ?_
 show afT.1 [some (jj u e l b),none,none]=_
 simp only [afT]
 refine (jK (ρ1:=[some (jj u e l b),some (.list []),none]) rfl).trans ?_
 refine (jK (ρ1:=[some (jj u e l b),some (.list (zH (u+1).toNat (l+1).toNat)),x]) ?_).trans rfl
 simp only [Zk,jk,jr,op2,lkp,cst,zzA,zzB,zzC,zzD,zzE,ix0,add_int,r1]
 exact hl1
end
theorem aoq (x:PyData) (xs:LP) (h:xs.length<9999):dIx (.list (x::xs)) (.int 0)=some x:=by
 have e1:ixN (xs.length+1) 0=some 0:=ZJ (by omega) (by omega)
 simp only [dIx,atI,List.length_cons,e1]
 rw [if_pos (by omega)]
 rfl
noncomputable def bdP (p:Int × Int):Int:=p.1+p.2
noncomputable abbrev JW (p:Int × Int):aa3:=(bdP p,p)
noncomputable def Zl:Int × Int->List (Int × Int)->Int × Int
 | p,[]=>p
 | p,x::r=>if bdP x<bdP p then Zl x r else Zl p r
theorem adL {kf:PyData->Int} (hk:∀ p,kf (pr p)=bdP p):∀ (r:List (Int × Int)) (p:Int × Int),Qw kf (pr p) (r.map pr)=pr (Zl p r)
 | [],p=>rfl
 | x::r,p=>by
  rw [List.map_cons]
  unfold Qw Zl
  rw [hk,hk]
  split
  ·exact adL hk r x
  ·exact adL hk r p
noncomputable def akq (p q:Int × Int):Prop:=p.1<q.1 ∨ (p.1=q.1/\p.2<q.2)
theorem ab7:∀ (r:List (Int × Int)) (p:Int × Int),(∀ y ∈ p::r,inT (JW y)=true)->(p::r).Pairwise akq->(Zl p r ∈ p::r)/\∀ y ∈ p::r,qF (JW (Zl p r))<=qF (JW y)
 | [],p,_,_=>⟨List.mem_cons_self,fun y hy=>by rw [List.mem_singleton.mp hy]; exact Int.le_refl _⟩
 | x::r,p,hB,hs=>by
  have hp:=hB p List.mem_cons_self
  have hx:=hB x (List.mem_cons_of_mem _ List.mem_cons_self)
  have s1:=List.pairwise_cons.mp hs
  have hpx:=s1.1 x List.mem_cons_self
  simp only [inT,inB,JW,Bool.and_eq_true,decide_eq_true_eq] at hp hx
  unfold Zl
  split
  ·rename_i hlt
   obtain ⟨m1,m2⟩:=ab7 r x (fun y hy=>hB y (List.mem_cons_of_mem _ hy)) s1.2
   refine ⟨List.mem_cons_of_mem _ m1,fun y hy=>?_⟩
   rcases List.mem_cons.mp hy with rfl | hy
   ·refine Int.le_trans (m2 x List.mem_cons_self) ?_
    simp only [qF,JW]
    omega
   ·exact m2 y hy
  ·rename_i hge
   have s2:(p::r).Pairwise akq:=List.pairwise_cons.mpr ⟨fun y hy=>s1.1 y (List.mem_cons_of_mem _ hy),(List.pairwise_cons.mp s1.2).2⟩
   obtain ⟨m1,m2⟩:=ab7 r p (fun y hy=>hB y (by rcases List.mem_cons.mp hy with rfl | q; exact List.mem_cons_self; exact List.mem_cons_of_mem _ (List.mem_cons_of_mem _ q))) s2
   refine ⟨by rcases List.mem_cons.mp m1 with q | q; rw [q]; exact List.mem_cons_self; exact List.mem_cons_of_mem _ (List.mem_cons_of_mem _ q),fun y hy=>?_⟩
   rcases List.mem_cons.mp hy with rfl | hy
   ·exact m2 _ List.mem_cons_self
   ·rcases List.mem_cons.mp hy with rfl | hy
    ·refine Int.le_trans (m2 p List.mem_cons_self) ?_
     simp only [qF,JW]
     rcases hpx with q | ⟨q1,q2⟩ <;> omega
    ·exact m2 y (List.mem_cons_of_mem _ hy)
theorem akr {p:Int × Int}{r:List (Int × Int)} (hB:∀ y ∈ p::r,inT (JW y)=true) (hs:(p::r).Pairwise akq):∃ j9,ach qF ((p::r).map JW)=JW (Zl p r)::j9/\j9.length=r.length:=by
 obtain ⟨m1,m2⟩:=ab7 r p hB hs
 have pm:=aaD qF ((p::r).map JW)
 have so:=Q0 qF ((p::r).map JW)
 cases hq:ach qF ((p::r).map JW) with
 | nil=>rw [hq] at pm; have:=pm.length_eq; simp at this
 | cons t ts=>
  rw [hq] at pm so
  refine ⟨ts,?_⟩
  have ht:t ∈ (p::r).map JW:=pm.mem_iff.mp List.mem_cons_self
  obtain ⟨y,hy,rfl⟩:=List.mem_map.mp ht
  have hm:JW (Zl p r) ∈ JW y::ts:=pm.mem_iff.mpr (List.mem_map.mpr ⟨_,m1,rfl⟩)
  have le1:qF (JW y)<=qF (JW (Zl p r)):=by
   rcases List.mem_cons.mp hm with q | q
   ·rw [q]; exact Int.le_refl _
   ·exact (List.pairwise_cons.mp so).1 _ q
  have:=aeB (hB y hy) (hB _ m1) (Int.le_antisymm le1 (m2 y hy))
  rw [this]
  refine ⟨rfl,?_⟩
  have:=pm.length_eq
  simpa using this
noncomputable def ag9 (i m:Nat):List (Int × Int):=(List.range m).map fun (j:Nat)=>((i:Int),(j:Int))
noncomputable def QO (n m:Nat):List (Int × Int):=(List.range n).flatMap fun (i:Nat)=>ag9 i m
theorem adM (n m:Nat):zH n m=(QO n m).map pr:=by
 unfold zH QO
 rw [List.map_flatMap]
 congr 1
 funext i
 simp [zi,ag9,pr]
theorem aeW {n m:Nat}{p:Int × Int} (h:p ∈ QO n m):0<=p.1/\p.1<n/\0<=p.2/\p.2<m:=by
 obtain ⟨i,hi,hp⟩:=List.mem_flatMap.mp h
 obtain ⟨j,hj,rfl⟩:=List.mem_map.mp hp
 have:=List.mem_range.mp hi
 have:=List.mem_range.mp hj
 simp only
 omega
theorem aha (i:Nat):∀ m,(ag9 i m).Pairwise akq
 | 0=>by simp [ag9]
 | m+1=>by
  have:ag9 i (m+1)=ag9 i m++[((i:Int),(m:Int))]:=by simp [ag9,List.range_succ]
  rw [this]
  refine List.pairwise_append.mpr ⟨aha i m,List.pairwise_singleton _ _,fun a ha c hc=>?_⟩
  rw [List.mem_singleton.mp hc]
  obtain ⟨j,hj,rfl⟩:=List.mem_map.mp ha
  have:=List.mem_range.mp hj
  exact .inr ⟨rfl,by simp only; omega⟩
theorem aeX (m:Nat):∀ n,(QO n m).Pairwise akq
 | 0=>by simp [QO]
 | n+1=>by
  have:QO (n+1) m=QO n m++ag9 n m:=by simp [QO,List.range_succ]
  rw [this]
  refine List.pairwise_append.mpr ⟨aeX m n,aha n m,fun a ha c hc=>?_⟩
  have h1:=aeW ha
  obtain ⟨j,hj,rfl⟩:=List.mem_map.mp hc
  exact .inl (by simp only; omega)
section
variable {u e l b:Int}
noncomputable def qZ (u e l w:Int):List (Int × Int):=(QO (u+1).toNat (l+1).toNat).filter fun p=>wt e p == w
theorem adN (w:Int):zW u e l w=(qZ u e l w).map pr:=by
 unfold zW qZ qR
 rw [adM,List.filter_map]
 rfl
theorem amK (p:Int × Int):Qx qY (pr p)=bdP p:=by
 unfold Qx pr
 rw [ab2]; rfl
theorem afZ (hu:0<=u) (hu':u<100) (hl:0<=l) (hl':l<100) {d:Int}{p:Int × Int}{r:List (Int × Int)} (hw:qZ u e l d=p::r):zO [jj u e l b,.int d]=some (pr (Zl p r)):=by
 have h1:=abu (e:=e) (b:=b) (w:=d) hu hu' hl hl'
 have hk:aay qY (zW u e l d)=true:=by
  rw [adN]
  refine List.all_eq_true.mpr fun x hx=>?_
  obtain ⟨y,_,rfl⟩:=List.mem_map.mp hx
  unfold pr
  rw [ab2]; rfl
 have hm:aaz qY (.list (zW u e l d))=some (pr (Zl p r)):=by
  show (if aay qY (zW u e l d)=true then some (adb (Qx qY) none (zW u e l d)) else none)=_
  rw [if_pos hk,adN,hw,List.map_cons]
  show some (Qw (Qx qY) (pr p) (r.map pr))=_
  rw [adL amK]
 simp [zO,jv,acE,jE,jM,jy,jk,jr,lkp,qq,h1,hm]
theorem aqh (p:Int × Int):alg [pr p]=some (.int (bdP p)):=by
 show some (PyData.int ([p.1,p.2].sum))=_
 simp [bdP]
theorem asy (p:Int × Int):dIx (pr p) (.int 0)=some (.int p.1):=rfl
theorem asz (p:Int × Int):dIx (pr p) (.int 1)=some (.int p.2):=rfl
theorem asC (x y:PyData):few [x,y]=true:=jZ (by simp)
noncomputable def aea (p:Int × Int):PyData:= .tuple [.int (bdP p),pr p]
theorem aor (he:1<=e/\e<=5) {d:Int} (p:Int × Int):tst (op2 dEq (op2 zh (op2 zp (op2 dIx (lkp 0) (cst (.int 0))) (op2 dIx (lkp 2) (cst (.int 1)))) (op2 dIx (lkp 0) (cst (.int 1)))) (lkp 1)) [some (pr p),some (.int d),some (jj u e l b)]=some (wt e p == d):=by
 have m1:zp (.int p.1) (.int e)=some (.int (p.1*e)):=arH (by omega)
 have dq:dEq (.int (p.1*e+p.2)) (.int d)=some (.bool (decide (p.1*e+p.2=d))):=abz _ _
 simp only [tst,op2,lkp,cst,zzA,zzB,zzC,zzD,zzE,asy,asz,ix1,m1,add_int,dq,asB]
 rw [Bool.beq_eq_decide_eq]; rfl
theorem arI {d:Int} (p:Int × Int):Qh (jk (jy alg (jk (lkp 0) jr)) (jk (lkp 0) jr)) [some (pr p),some (.int d),some (jj u e l b)]=some (aea p):=by
 simp only [Qh,jy,jk,jr,lkp,zzA,zzB,zzC,zzD,zzE,aqh,asC,zzM]
 rfl
theorem ahb {ft:Rho->Option Bool}{fe:RP} (t:Int × Int->Bool) (g:Int × Int->PyData) {τ:Rho} (h1:∀ p,ft (some (pr p)::τ)=some (t p)) (h2:∀ p,fe (some (pr p)::τ)=some (g p)):∀ (ps:List (Int × Int)) (x:OP),jX (jH 0) ft fe (ps.map pr) (x::τ)=some ((ps.filter t).map g)
 | [],x=>rfl
 | p::ps,x=>by
  have ih:=ahb t g h1 h2 ps (some (pr p))
  simp only [List.map_cons,jX,jH,zzD,zzG,h1,h2,ih]
  by_cases hp:t p=true
  ·simp [hp,List.filter_cons]
  ·simp [hp,List.filter_cons]
theorem amL:qR u l=(QO (u+1).toNat (l+1).toNat).map pr:=adM _ _
theorem aqi (hu:u<=3) (hl:l<=11) (d:Int):(qZ u e l d).length<=48:=by
 have h1:(qZ u e l d).length<=(QO (u+1).toNat (l+1).toNat).length:=List.length_filter_le _ _
 have h2:(QO (u+1).toNat (l+1).toNat).length=(u+1).toNat*(l+1).toNat:=by
  rw [←List.length_map (f:=pr),←adM,abb]
 have h3:(u+1).toNat*(l+1).toNat<=4*12:=Nat.mul_le_mul (by omega) (by omega)
 omega
theorem aos (hu:u<=3) (hl:l<=11) {d:Int}{p:Int × Int}{r:List (Int × Int)} (hw:qZ u e l d=p::r):∃ j9,ahV [.list ((qZ u e l d).map aea)]=some (.list (aea (Zl p r)::j9))/\j9.length<100:=by
 have mem:∀ y ∈ qZ u e l d,0<=y.1/\y.1<((u+1).toNat:Int)/\0<=y.2/\y.2<((l+1).toNat:Int):=fun y hy=>aeW (List.mem_filter.mp hy).1
 have hB:∀ y ∈ p::r,inT (JW y)=true:=fun y hy=>by
  have:=mem y (by rw [hw]; exact hy)
  simp only [inT,inB,JW,Bool.and_eq_true,decide_eq_true_eq]
  omega
 have hs:(p::r).Pairwise akq:=by
  rw [←hw]
  exact (aeX _ _).filter _
 obtain ⟨j9,hsort,hrl⟩:=akr hB hs
 have hlen:=aqi (e:=e) hu hl d
 have tr:Jy ((qZ u e l d).map aea)=some ((qZ u e l d).map JW):=by
  have:=aeA ((qZ u e l d).map JW)
  rw [List.map_map] at this
  exact this
 refine ⟨j9.map aar,?_,by rw [List.length_map,hrl]; rw [hw,List.length_cons] at hlen; omega⟩
 show (Jy _).bind _=_
 rw [tr,zzD]
 have c1:(decide (((qZ u e l d).map JW).length<64) && ((qZ u e l d).map JW).all inT)=true:=by
  rw [Bool.and_eq_true]
  refine ⟨decide_eq_true (by rw [List.length_map]; omega),List.all_eq_true.mpr fun t ht=>?_⟩
  obtain ⟨y,hy,rfl⟩:=List.mem_map.mp ht
  exact hB y (by rw [←hw]; exact hy)
 rw [if_pos c1,hw,hsort]
 rfl
theorem aot (h:okN u e l b=true) {d:Int}:qO (ql (itS (jy afU (jk (lkp 0) jr))) [none,some 1,some 0] (jH 0) (tst (op2 dEq (op2 zh (op2 zp (op2 dIx (lkp 0) (cst (.int 0))) (op2 dIx (lkp 2) (cst (.int 1)))) (op2 dIx (lkp 0) (cst (.int 1)))) (lkp 1))) (Qh (jk (jy alg (jk (lkp 0) jr)) (jk (lkp 0) jr)))) (jH 2) [some (jj u e l b),some (.int d),none]=some (.nx [some (jj u e l b),some (.int d),some (.list ((qZ u e l d).map aea))]):=by
 obtain ⟨a1,a2,a3,a4,a5,a6,a7,a8,a9,a10⟩:=jN h
 have lr:=akp (e:=e) (b:=b) a1 (show u<50 by omega) (show 0<=l by omega) (show l<50 by omega)
 have fw:=adF (u:=u) (l:=l) (by omega) (by omega)
 have cp:=ahb (τ:=[some (.int d),some (jj u e l b)]) (fun p=>wt e p == d) aea (fun p=>aor (u:=u) (l:=l) (b:=b) ⟨a3,a4⟩ p) (fun p=>arI p) (QO (u+1).toNat (l+1).toNat) none
 rw [←amL] at cp
 simp only [qO,ql,itS,items,jy,jk,jr,lkp,zzA,zzB,zzC,zzD,zzE,lr,fw,zzM,Qi,List.map_cons,List.map_nil,zzH,cp,jH,zzG,zzF]
 rfl
theorem arJ (H:qp=true) (h:okN u e l b=true) {d:Int} (h0:0<=d) (hd:d<b):∃ p r,qZ u e l d=p::r:=by
 have any:=aic H h h0 hd
 cases hq:qZ u e l d with
 | nil=>
  obtain ⟨r,h1,h2⟩:=List.any_eq_true.mp any
  have:r ∈ zW u e l d:=List.mem_filter.mpr ⟨h1,h2⟩
  rw [adN,hq] at this
  cases this
 | cons p r=>exact ⟨p,r,rfl⟩
theorem aou (h:okN u e l b=true) {d:Int}{p:Int × Int}{r:List (Int × Int)} (hw:qZ u e l d=p::r):fpr (jj u e l b) d=Zl p r:=by
 obtain ⟨a1,a2,a3,a4,a5,a6,a7,a8,a9,a10⟩:=jN h
 have gf:=afZ (e:=e) (b:=b) a1 (show u<100 by omega) (show 0<=l by omega) (show l<100 by omega) hw
 unfold fpr
 rw [gf]
 rfl
theorem ZM (H:qp=true) (h:okN u e l b=true) {d:Int} (h0:0<=d) (hd:d<b):zj [jj u e l b,.int d]=some (pr (fpr (jj u e l b) d)):=by
 obtain ⟨a1,a2,a3,a4,a5,a6,a7,a8,a9,a10⟩:=jN h
 obtain ⟨p,r,hw⟩:=arJ H h h0 hd
 obtain ⟨j9,so,hr⟩:=aos (u:=u) (e:=e) (l:=l) a2 a7 hw
 have ls:=aot h (d:=d)
 have hd0:=aoq (aea (Zl p r)) j9 (by omega)
 have hd1:dIx (aea (Zl p r)) (.int 1)=some (pr (Zl p r)):=rfl
 rw [aou h hw]
 refine jW rfl ?_
 show abn.1 [some (jj u e l b),some (.int d),none]=_
 simp only [abn]
 refine (jK ls).trans ?_
 generalize PyData.list ((qZ u e l d).map aea)=L at*
 generalize PyData.list (aea (Zl p r)::j9)=M at*
 simp only [jM,qq,op2,jy,jk,jr,lkp,cst,zzA,zzB,zzC,zzD,zzE,so,hd0,hd1]
end
theorem ail {i j:Int} (h:0<j/\j<1073741824):ad1 (.int i) (.int j)=some (.int (i % j)):=by
 show (if 0<j then some (PyData.int (i % j)) else none)=_
 rw [if_pos h.1]
theorem ahc {i j:Int} (h:0<j/\j<1073741824):aaT (.int i) (.int j)=some (.int (i / j)):=by
 show (if 0<j/\j<1073741824 then some (PyData.int (i / j)) else none)=_
 rw [if_pos h]
section
variable {u e l b:Int}
noncomputable def dgm (b:Int):Nat->Int->List Int
 | 0,_=>[]
 | k+1,n=>dgm b k (n / b)++[n % b]
theorem ajf {b:Int} (hb:0<b):∀ (r:Nat) (n:Int),1<=r->0<=n->n<b ^ r->dgm b r n=dgl b r n
 | 0,n,h1,_,_=>by omega
 | 1,n,_,h0,hn=>by
  rw [pw1] at hn
  show []++[n % b]=[n]
  rw [Int.emod_eq_of_lt h0 hn]; rfl
 | k+2,n,_,h0,hn=>by
  show dgm b (k+1) (n / b)++[n % b]=dgl b (k+1) (n / b)++[n % b]
  rw [ajf hb (k+1) (n / b) (by omega) (Int.ediv_nonneg h0 (by omega)) (aak hb hn)]
theorem acm (H:qp=true) (h:okN u e l b=true) {R:PyData}:∀ (ds:LP) (n:Int) (acc:List (Int × Int)) (x:OP),acc.length+ds.length<1000->
  ∃ x',j0 (jH 4) ZG.1 ds [some (jj u e l b),some R,some (.int n),some (jC acc),x]=some (.nx [some (jj u e l b),some R,some (.int (n / b ^ ds.length)),some (jC ((dgm b ds.length n).map (fpr (jj u e l b))++acc)),x'])
 | [],n,acc,x,_=>⟨x,by
  have:n / b ^ ([]:LP).length=n:=by simp
  rw [this]; rfl⟩
 | d::ds,n,acc,x,hl=>by
  obtain ⟨a1,a2,a3,a4,a5,a6,a7,a8,a9,a10⟩:=jN h
  have hb:0<b:=by omega
  have hm:ad1 (.int n) (.int b)=some (.int (n % b)):=ail ⟨hb,by omega⟩
  have hf:aaT (.int n) (.int b)=some (.int (n / b)):=ahc ⟨hb,by omega⟩
  have gf:=ZM H h (d:=n % b) (Int.emod_nonneg _ (by omega)) (Int.emod_lt_of_pos _ hb)
  rw [List.length_cons] at hl
  have ad:zh (.tuple [pr (fpr (jj u e l b) (n % b))]) (jC acc)=some (jC (fpr (jj u e l b) (n % b)::acc)):=by
   have:=aja (xs:=[pr (fpr (jj u e l b) (n % b))]) (ys:=acc.map pr) (.inr trivial) (by rw [List.length_map]; simp; omega)
   exact this
  have f1:few [pr (fpr (jj u e l b) (n % b))]=true:=jZ (by simp)
  have step:ZG.1 [some (jj u e l b),some R,some (.int n),some (jC acc),some d]=some (.nx [some (jj u e l b),some R,some (.int (n / b)),some (jC (fpr (jj u e l b) (n % b)::acc)),some d]):=by
   simp only [ZG,jM,qO,op2,Qh,jy,jk,jr,lkp,cst,jH,zzA,zzB,zzC,zzD,zzE,ix3,hm,hf,gf,f1,zzM,ad,zzF,zzG,qy]
  obtain ⟨x',hx⟩:=acm H h (R:=R) ds (n / b) (fpr (jj u e l b) (n % b)::acc) (some d) (by rw [List.length_cons]; omega)
  refine ⟨x',?_⟩
  have ga:jH 4 d [some (jj u e l b),some R,some (.int n),some (jC acc),x]=some [some (jj u e l b),some R,some (.int n),some (jC acc),some d]:=rfl
  have e1:n / b ^ (d::ds).length=n / b / b ^ ds.length:=by
   rw [List.length_cons,Int.pow_succ,Int.mul_comm,Int.ediv_ediv_of_nonneg (by omega)]
  have e2:(dgm b (d::ds).length n).map (fpr (jj u e l b))++acc=(dgm b ds.length (n / b)).map (fpr (jj u e l b))++fpr (jj u e l b) (n % b)::acc:=by
   rw [List.length_cons,dgm,List.map_append,List.append_assoc]; rfl
  rw [e1,e2]
  simp only [j0,ga,zzD,step]
  exact hx
theorem aqj {b n:Int} (hb:0<b) (r:Nat) (h0:0<=n):n / b ^ r=0 ↔ n<b ^ r:=by
 have hp:=JT hb r
 constructor
 ·intro hz
  exact Int.lt_of_not_ge fun hge=>by
   have:1<=n / b ^ r:=Int.le_ediv_of_mul_le hp (by omega)
   omega
 ·intro hlt
  exact Int.ediv_eq_zero_of_lt h0 hlt
noncomputable def lpl (m:PyData) (b:Int) (r:Nat) (n:Int):PyData:=if n<b ^ r then jC (pln m b r n) else .none
theorem aim {m R:PyData}{k:Int}{s:List (Int × Int)}{x:OP}{c:Bool} (dq:dEq (.int k) (.int 0)=some (.bool c)):jM (qq (ifD (tst (op2 dEq (lkp 2) (cst (.int 0)))) (lkp 3) (cst .none))) qy [some m,some R,some (.int k),some (jC s),x]=some (.rt (if c=true then jC s else .none)):=by
 cases c with
 | true=>simp only [jM,qq,ifD,tst,op2,lkp,cst,zzA,zzB,zzC,zzD,zzE,dq,asB,zzM]
 | false=>simp only [jM,qq,ifD,tst,op2,lkp,cst,zzA,zzB,zzC,zzD,zzE,dq,asB,zzL,zzN]
theorem af0 {m:PyData}{r n:Int}{RR:LP}{ρ':Rho}{o:Option Out} (rg:Jp [.int r]=some RR) (hx:j0 (jH 4) ZG.1 RR [some m,some (.int r),some (.int n),some (jC []),none]=some (.nx ρ')) (he:jM (qq (ifD (tst (op2 dEq (lkp 2) (cst (.int 0)))) (lkp 3) (cst .none))) qy ρ'=o):abo.1 [some m,some (.int r),some (.int n),none,none]=o:=by
 simp only [abo]
 refine (jK (ρ1:=[some m,some (.int r),some (.int n),some (jC []),none]) rfl).trans ?_
 refine (jK (ρ1:=ρ') ?_).trans he
 simp only [Zk,jk,jr,lkp,zzA,zzB,zzC,zzD,zzE,rg]
 exact hx
theorem adO (H:qp=true) (h:okN u e l b=true) {r:Nat}{n:Int} (h1:1<=r) (h4:r<=4) (h0:0<=n):aaf [jj u e l b,.int (r:Int),.int n]=some (lpl (jj u e l b) b r n):=by
 obtain ⟨a1,a2,a3,a4,a5,a6,a7,a8,a9,a10⟩:=jN h
 have hb:0<b:=by omega
 have hlen:(qP 0 r).length=r:=JU r
 obtain ⟨x',hx⟩:=acm H h (R:= .int (r:Int)) (qP 0 r) n [] none (by rw [hlen,List.length_nil]; omega)
 rw [hlen,List.append_nil] at hx
 have dq:dEq (.int (n / b ^ r)) (.int 0)=some (.bool (decide (n<b ^ r))):=by
  rw [abz,decide_eq_decide.mpr (aqj hb r h0)]
 have key:=af0 (adI (show r<=1000 by omega)) hx (aim dq)
 generalize (r:Int)=rr at key ⊢
 refine (jW (d:=if decide (n<b ^ r)=true then jC ((dgm b r n).map (fpr (jj u e l b))) else .none) rfl ?_).trans ?_
 ·show abo.1 [some (jj u e l b),some (.int rr),some (.int n),none,none]=_
  exact key
 unfold lpl
 by_cases hlt:n<b ^ r
 ·rw [if_pos hlt,decide_eq_true hlt,if_pos rfl,pln,ajf hb r n h1 h0 hlt]
 ·rw [if_neg hlt,decide_eq_false hlt,if_neg Bool.false_ne_true]
end
noncomputable abbrev rfd (i:Int):PyData:= .tuple [.str "refused",.int i]
theorem j7 {N:List Str}{n:Nat}{F:Rho->Option Str}{ds:LP}{c:Option Str} (hl:ds.length=n) (h:F (jE N ds)=c):Js N n F ds=c:=(zS hl).trans h
section
variable {u e l b:Int}{ps qs:List (Int × Int)}
theorem ain (h:okN u e l b=true) {r:Nat}{n:Int} (h1:1<=r) (h4:r<=4) (h0:0<=n) (hn:b ^ r<=n):Z5 [jj u e l b,.int (r:Int),.int n]=none:=by
 obtain ⟨a1,a2,a3,a4,a5,a6,a7,a8,a9,a10⟩:=jN h
 have hb:0<b:=by omega
 have hd:=acQ (n:=n) hb a9 h1 h4
 obtain ⟨k,rfl⟩:∃ k,r=k+1:=⟨r - 1,by omega⟩
 obtain ⟨x,xs,hx,_,hx2⟩:=aby hb k n h0
 have hi:=amF h4 hx
 have hc:qJ (fun i j=>decide (j<=i)) (.int x) (.int b)=some (.bool true):=by
  show some (PyData.bool (decide (b<=x)))=_
  rw [decide_eq_true (hx2 hn)]
 generalize hr:((k+1:Nat):Int)=rr at hd ⊢
 refine JF ?_
 show Z4.1 [some (jj u e l b),some (.int rr),some (.int n),none]=none
 dsimp? [Z4,ix3,hd,hi,hc]
theorem aqk (H:qp=true) (h:okN u e l b=true) {d:PyData} (hd:noD d=true) (hs:ab4 u l d=false):zw [jj u e l b,d]=none/\Jl [jj u e l b,d]=some ("NoSetting":Str):=by
 have hM:=ag0 H h
 exact ⟨aif (Ji hM) _ hd hs,aii hM hd hs⟩
end
noncomputable def dg (b:Int):Nat->Int->List Int
 | 0,_=>[]
 | k+1,n=>if 0<n then dg b k (n / b)++[n % b] else []
theorem amM {d:PyData} (hd:noD d=true) (w:whB 0 99999 d=false):qU [d]=none/\JC [d]=some ("NoNumber":Str):=by
 have gw:=Jv d hd 0 99999
 rw [w] at gw
 constructor
 ·simp [qU,jv,abe,jE,jM,ifS,zo,tst,asB,cst,jy,jk,jr,lkp,gw,ajI]
 ·refine j7 rfl ?_
  show aab.1 [some d]=_
  simp [aab,orX,ifX,zo,tst,asB,cst,jy,jk,jr,lkp,gw]
theorem aio {i:Int} (h:0<=i/\i<=99999):qU [.int i]=some .none/\JC [.int i]=none:=by
 have gw:=j1 i 0 99999
 rw [decide_eq_true h.1,decide_eq_true h.2] at gw
 constructor
 ·simp [qU,jv,abe,jE,jM,ifS,zo,tst,asB,cst,jy,jk,jr,lkp,gw,qy]
 ·refine j7 rfl ?_
  show aab.1 [some (.int i)]=_
  simp [aab,orX,ifX,zo,tst,asB,cst,jy,jk,jr,lkp,gw,ajW]
theorem ajg {i:Int} (h:1<=i/\i<=4):zr [.int i]=some .none/\ZD [.int i]=none:=by
 have gw:=j1 i 1 4
 rw [decide_eq_true h.1,decide_eq_true h.2] at gw
 constructor
 ·simp [zr,jv,abd,jE,jM,ifS,zo,tst,asB,cst,jy,jk,jr,lkp,gw,qy]
 ·refine j7 rfl ?_
  show abi.1 [some (.int i)]=_
  simp [abi,orX,ifX,zo,tst,asB,cst,jy,jk,jr,lkp,gw,ajW]
theorem aql {ds:LP} (h:ds.length<50):few ds=true:=jZ (by omega)
theorem fw1 {a:PyData}:few [a]=true:=aql (by simp)
theorem fw2 {a b:PyData}:few [a,b]=true:=aql (by simp)
theorem fw3 {a b c:PyData}:few [a,b,c]=true:=aql (by simp)
noncomputable def shl (n:Nat) (d:PyData):Prop:=d.canLay0=true/\d.depth<=n
theorem acS {ds:LP}:PyData.canLayAll0 ds=true ↔ ∀ d ∈ ds,d.canLay0=true:=by
 induction ds with
 | nil=>simp [PyData.canLayAll0]
 | cons x xs ih=>simp [PyData.canLayAll0,ih]
theorem acT {ds:LP}{n:Nat}:PyData.depthAll ds<=n ↔ ∀ d ∈ ds,d.depth<=n:=by
 induction ds with
 | nil=>simp [PyData.depthAll]
 | cons x xs ih=>simp only [PyData.depthAll,List.mem_cons,forall_eq_or_imp,←ih]; omega
theorem af1 {n:Nat}{ds:LP}:shl (n+1) (.tuple ds) ↔ ∀ d ∈ ds,shl n d:=by
 constructor
 ·rintro ⟨h1,h2⟩ d hd
  refine ⟨acS.mp (by simpa [PyData.canLay0] using h1) d hd,acT.mp ?_ d hd⟩
  simp only [PyData.depth] at h2; omega
 ·intro h
  refine ⟨by simp only [PyData.canLay0]; exact acS.mpr fun d hd=>(h d hd).1,?_⟩
  have:=acT.mpr fun d hd=>(h d hd).2
  simp only [PyData.depth]; omega
theorem ajh {n:Nat}{ds:LP}:shl (n+1) (.list ds) ↔ ∀ d ∈ ds,shl n d:=by
 constructor
 ·rintro ⟨h1,h2⟩ d hd
  refine ⟨acS.mp (by simpa [PyData.canLay0] using h1) d hd,acT.mp ?_ d hd⟩
  simp only [PyData.depth] at h2; omega
 ·intro h
  refine ⟨by simp only [PyData.canLay0]; exact acS.mpr fun d hd=>(h d hd).1,?_⟩
  have:=acT.mpr fun d hd=>(h d hd).2
  simp only [PyData.depth]; omega
theorem af2 {n:Nat}{d:PyData} (h:shl n d) (hn:n<30):okD d=true:=by
 unfold okD
 rw [h.1,decide_eq_true (show d.depth<30 by have:=h.2; omega)]; rfl
theorem aji (i:Int):shl 1 (.int i):=⟨rfl,by simp [PyData.depth]⟩
theorem aqm (p:Int × Int):shl 2 (pr p):=af1.mpr fun d hd=>by
 simp only [List.mem_cons,List.not_mem_nil,or_false] at hd
 rcases hd with rfl | rfl <;> exact aji _
theorem aov (ps:List (Int × Int)):shl 3 (jC ps):=af1.mpr fun d hd=>by
 obtain ⟨p,_,rfl⟩:=List.mem_map.mp hd
 exact aqm p
theorem aip {ds:LP}{k:Int} (h0:0<=k) (hk:k<ds.length) (hl:ds.length<9999):∃ v,dIx (.list ds) (.int k)=some v/\v ∈ ds:=by
 have hlt:k.toNat<ds.length:=by omega
 refine ⟨ds[k.toNat],?_,List.getElem_mem _⟩
 have e1:ixN ds.length k=some k.toNat:=ZJ h0 hlt
 show (if ds.length<1000000 then atI ds k else none)=_
 rw [if_pos (by omega)]
 unfold atI
 rw [e1]
 show ds[k.toNat]?=_
 rw [List.getElem?_eq_getElem hlt]
theorem ajj {ps:List (Int × Int)}{i:Nat}{p:Int × Int} (h4:ps.length<=4) (hd:ps[i]?=some p):dIx (jC ps) (.int (i:Int))=some (pr p):=by
 have hi:i<ps.length:=(List.getElem?_eq_some_iff.mp hd).1
 show (if (ps.map pr).length<1000000 then atI (ps.map pr) (i:Int) else none)=_
 rw [if_pos (by rw [List.length_map]; omega)]
 unfold atI
 rw [ZJ (by omega) (by rw [List.length_map]; simpa using hi),zzD,List.getElem?_map]
 rw [show ((i:Int)).toNat=i by simp,hd]; rfl
theorem aks {tt:Rho->Option Bool}{A:RO}{ρ:Rho} (h:tt ρ=some false):ifS tt A (fun ρ=>some (.nx ρ)) ρ=some (.nx ρ):=by
 show (tt ρ).bind _=_
 rw [h]; rfl
theorem qG {i:Nat}{f:RP}{ρ:Rho}{d:PyData} (h:f ρ=some d):qO f (jH i) ρ=some (.nx (ρ.set i (some d))):=by
 show (f ρ).bind _=_
 rw [h]; rfl
theorem jL {g:PyData->PyData->OP}{f1 f2:RP}{ρ:Rho}{x y z:PyData} (h1:f1 ρ=some x) (h2:f2 ρ=some y) (h3:g x y=some z):op2 g f1 f2 ρ=some z:=by
 show (f1 ρ).bind _=_
 rw [h1,zzD,h2,zzD,h3]
theorem abC {fi:Rho->Option (LP)}{cap:List (Option Nat)}{ga:PyData->Rho->Option Rho}{ft:Rho->Option Bool}{fe:RP}{ρ:Rho}{ds ys:LP} (h1:fi ρ=some ds) (hf:few ds=true) (h2:jX ga ft fe ds (Qi cap ρ)=some ys):ql fi cap ga ft fe ρ=some (.list ys):=by
 show (fi ρ).bind _=_
 rw [h1,zzD,if_pos hf,h2]; rfl
theorem jR {g:LP->OP}{fs:Rho->Option (LP)}{ρ:Rho}{ds:LP}{d:PyData} (h1:fs ρ=some ds) (h2:g ds=some d):jy g fs ρ=some d:=by
 show (fs ρ).bind _=_
 rw [h1,zzD,h2]
theorem jD {f:RP}{fs:Rho->Option (LP)}{ρ:Rho}{d:PyData}{ds:LP} (h1:f ρ=some d) (h2:fs ρ=some ds):jk f fs ρ=some (d::ds):=by
 unfold jk
 rw [h1,zzD,h2]; rfl
theorem JX {f:RP}{ρ:Rho}{c:Bool} (h:f ρ=some (.bool c)):tst f ρ=some c:=by
 show (f ρ).bind _=_
 rw [h]; rfl
theorem amN {i:Nat}{f:RP}{G:RO}{ρ:Rho}{d c:PyData} (h1:f ρ=some d) (h2:i < ρ.length) (h3:G (ρ.set i (some d))=some (.rt c)):aaC i f G ρ=some (.rt c):=by
 show (f ρ).bind _=_
 rw [h1,zzD,if_pos h2,h3]; rfl
theorem aiq {fi:Rho->Option (LP)}{ga:PyData->Rho->Option Rho}{F:RO}{ρ:Rho}{ds:LP}{o:Option Out} (h1:fi ρ=some ds) (h2:j0 ga F ds ρ=o):Zk fi ga F ρ=o:=by
 show (fi ρ).bind _=_
 rw [h1,zzD]; exact h2
theorem aqn {f:RP}{G:RO}{ρ:Rho}{d:PyData} (h:f ρ=some d):jM (qq f) G ρ=some (.rt d):=by
 unfold jM qq
 rw [h]; rfl
section
variable {u e l b:Int}
theorem ahd (h:okN u e l b=true) {p:Int × Int} (hp:okP u l p=true):qw [jj u e l b,pr p]=some (.int (wt e p)):=by
 obtain ⟨a1,a2,a3,a4,a5,a6,a7,a8,a9,a10⟩:=jN h
 obtain ⟨q1,q2,q3,q4⟩:=zI hp
 exact JE u e l b p.1 p.2 ⟨by omega,by omega⟩
end
noncomputable abbrev PL:=List (Int × Int)
section
variable {u e l b:Int}
noncomputable def qz (m:PyData) (cs:List (Nat × Int)) (ps:List (Int × Int)):List (Int × Int):=cs.foldl (fun ps c=>ps.set c.1 (fpr m c.2)) ps
theorem ab8 (m:PyData) (a c:List (Nat × Int)) (ps:List (Int × Int)):qz m (a++c) ps=qz m c (qz m a ps):=by unfold qz; rw [List.foldl_append]
theorem ab9 (m:PyData):∀ (cs:List (Nat × Int)) (ps:List (Int × Int)),(qz m cs ps).length=ps.length
 | [],_=>rfl
 | c::cs,ps=>by
  show (qz m cs (ps.set c.1 (fpr m c.2))).length=_
  rw [ab9 m cs,List.length_set]
theorem akt {m:PyData}{S C:OP}{ps:List (Int × Int)}{i:Nat}{d:Int} (hi:i<ps.length):
  adC.1 [S,C,some (.list (ps.map pr)),some (.int (i:Int)),some (ZK m d)]=some (.nx [S,C,some (.list ((ps.set i (fpr m d)).map pr)),some (.int (i:Int)),some (ZK m d)]):=by
 have hx:ixN (ps.map pr).length (i:Int)=some i:=by
  rw [ZJ (by omega) (by rw [List.length_map]; simpa using hi)]; simp
 have e1:(ps.map pr).set i (ZK m d)=(ps.set i (fpr m d)).map pr:=by rw [List.map_set]; rfl
 simp only [adC,jM,anG,alH,brw,hid,lkp,zzF,zzG,zzA,zzB,zzC,hx,zzE,zzD,qy,e1]
theorem aeY {m:PyData}{S C:OP}:∀ (cs:List (Nat × Int)) (ps:List (Int × Int)) (x3 x4:OP),(∀ c ∈ cs,c.1<ps.length)->
  ∃ y3 y4,j0 (QQ 2 (j8 (jH 3) (j8 (jH 4) zY))) adC.1 (cs.map (zU m)) [S,C,some (.list (ps.map pr)),x3,x4]=some (.nx [S,C,some (.list ((qz m cs ps).map pr)),y3,y4])
 | [],ps,x3,x4,_=>⟨x3,x4,rfl⟩
 | c::cs,ps,x3,x4,h=>by
  obtain ⟨y3,y4,ih⟩:=aeY (m:=m) (S:=S) (C:=C) cs (ps.set c.1 (fpr m c.2)) (some (.int (c.1:Int))) (some (ZK m c.2)) fun q hq=>by rw [List.length_set]; exact h q (List.mem_cons_of_mem _ hq)
  refine ⟨y3,y4,?_⟩
  have st:=akt (m:=m) (S:=S) (C:=C) (ps:=ps) (i:=c.1) (d:=c.2) (h c List.mem_cons_self)
  rw [List.map_cons,j0]
  show ((QQ 2 (j8 (jH 3) (j8 (jH 4) zY))) (.tuple [.int (c.1:Int),ZK m c.2]) _).bind _=_
  simp only [QQ,j8,zY,jH,List.length_cons,List.length_nil,zzM,zzD,zzF,zzG,st]
  exact ih
theorem ahe {m:PyData}{cs:List (Nat × Int)}{ps:List (Int × Int)} (h:∀ c ∈ cs,c.1<ps.length):ah9 [jC ps,.list (cs.map (zU m))]=some (jC (qz m cs ps)):=by
 obtain ⟨y3,y4,lp⟩:=aeY (m:=m) (S:=some (jC ps)) (C:=some (.list (cs.map (zU m)))) cs ps none none h
 refine jW rfl ?_
 show aoa.1 [some (jC ps),some (.list (cs.map (zU m))),none,none,none]=_
 have dl:Jk [jC ps]=some (.list (ps.map pr)):=rfl
 have dt:Zv [.list ((qz m cs ps).map pr)]=some (jC (qz m cs ps)):=rfl
 simp only [aoa,aaC,jy,jk,jr,lkp,zzA,zzC,zzD,zzE,dl,List.length_cons,List.length_nil,zzF,zzG]
 rw [if_pos (by omega)]
 have fr:Zk (fun ρ=>itL (lkp 1) (hid (some 2) ρ)) (QQ 2 (j8 (jH 3) (j8 (jH 4) zY))) adC.1 [some (jC ps),some (.list (cs.map (zU m))),some (.list (ps.map pr)),none,none]=some (.nx [some (jC ps),some (.list (cs.map (zU m))),some (.list ((qz m cs ps).map pr)),y3,y4]):=by
  simp only [Zk,itL,hid,lkp,zzF,zzG,zzA,zzB,zzC,zzD,QS]
  exact lp
 rw [jK fr]
 simp only [jM,qq,jy,jk,jr,lkp,zzA,zzB,zzC,zzD,zzE,dt]
end
theorem aku {x:Str}{g:LP->OP}{m S N:PyData}{b:Int}{r:Int}{dl ch:LP}{y5 y6 y7 y8:OP} (i3:dIx m (.int 3)=some (.int b)) (hl:Ja [S]=some (.int r)) (hd:agP [.int b,.int r,N]=some (.list dl))
  (lp:j0 (QQ 2 (j8 (jH 6) (j8 (jH 7) zY))) (abU x g).1 (Zf 0 dl) [some m,some S,some N,some (fnD x),some (.list []),some S,none,none,none]=some (.nx [some m,some S,some N,some (fnD x),some (.list ch),y5,y6,y7,y8])):
  arC x g [m,S,N,fnD x]=some (.list ch):=by
 refine jW rfl ?_
 show (aoc x g).1 [some m,some S,some N,some (fnD x),none,none,none,none,none]=_
 have st1:qO (brw (some 4) (lkp 1)) (jH 5) [some m,some S,some N,some (fnD x),some (.list []),none,none,none,none]=some (.nx [some m,some S,some N,some (fnD x),some (.list []),some S,none,none,none]):=by
  simp only [qO,brw,hid,lkp,jH,zzA,zzB,zzC,zzD,zzE,zzF,zzG]
 have st2:Zk (fun ρ=>(jk (jy agP (jk (op2 dIx (lkp 0) (cst (PyData.int 3))) (jk (jy Ja (jk (lkp 1) jr)) (jk (lkp 2) jr)))) jr (hid (some 4) ρ)).bind agv) (QQ 2 (j8 (jH 6) (j8 (jH 7) zY))) (abU x g).1 [some m,some S,some N,some (fnD x),some (.list []),some S,none,none,none]=some (.nx [some m,some S,some N,some (fnD x),some (.list ch),y5,y6,y7,y8]):=by
  simp only [Zk,jy,op2,jk,jr,hid,lkp,cst,zzA,zzB,zzC,zzD,zzE,zzF,zzG,i3,hl,hd,agv]
  exact lp
 simp only [aoc,aaC,zA,jr,zzD,Q8,zzM,List.length_cons,List.length_nil,zzF,zzG]
 rw [if_pos (by omega),jK st1,jK st2]
 simp only [jM,qq,lkp,zzA,zzB,zzC,zzD,zzE]
section
variable {u e l b:Int}
theorem adP (H:qp=true) (h:okN u e l b=true):∀ (cs:List (Nat × Int)) (ps:PL),(∀ c ∈ cs,0<=c.2/\c.2<b)->ps.all (okP u l)=true->(qz (jj u e l b) cs ps).all (okP u l)=true
 | [],ps,_,hk=>hk
 | c::cs,ps,hc,hk=>by
  have fw:=qL H h (hc c List.mem_cons_self).1 (hc c List.mem_cons_self).2
  refine adP H h cs (ps.set c.1 (fpr (jj u e l b) c.2)) (fun d hd=>hc d (List.mem_cons_of_mem _ hd)) ?_
  refine List.all_eq_true.mpr fun p hp=>?_
  rcases List.mem_or_eq_of_mem_set hp with q | q
  ·exact List.all_eq_true.mp hk p q
  ·rw [q]; exact fw.2.2
theorem ajk (hb:0<b):∀ (k:Nat) (n:Int),dgl b (k+1) n=(List.range (k+1)).map (dig b (k+1) n)
 | 0,n=>by
  show [n]=_
  simp [dig]
 | k+1,n=>by
  show dgl b (k+1) (n / b)++[n % b]=_
  rw [ajk hb k (n / b),List.range_succ (n:=k+1),List.map_append]
  congr 1
  ·apply List.map_congr_left
   intro i hi
   have hi:=List.mem_range.mp hi
   have e1:k+1+1 - 1 - i=(k+1 - 1 - i)+1:=by omega
   have e2:n / b ^ (k+1+1 - 1 - i)=n / b / b ^ (k+1 - 1 - i):=by
    rw [e1,Int.pow_succ,Int.mul_comm,Int.ediv_ediv_of_nonneg (by omega)]
   unfold dig
   rw [e2]
  ·simp [dig]
end
section
variable {u e l b:Int}{ps:PL}
theorem zJ (hs:okS u l ps=true):1<=ps.length/\ps.length<=4/\ps.all (okP u l)=true:=by
 unfold okS at hs
 simp only [Bool.and_eq_true,decide_eq_true_eq] at hs
 exact ⟨hs.1.1,hs.1.2,hs.2⟩
theorem aow {N:List Str}{n:Nat}{B:RO}{ds:LP}{ρ:Rho} (hl:ds.length=n) (h:B (jE N ds)=some (.nx ρ)):jv N n B ds=some .none:=by
 unfold jv
 rw [if_pos hl,h]
theorem akv {M S:PyData}{n v:Int} (g:agN [M,S]=some (.int v)) (hv:v<n):aaa [M,S,.int n]=none/\abj [M,S,.int n]=some ("TooGreat":Str):=by
 have c1:qJ (fun i j=>decide (j<i)) (.int n) (.int v)=some (.bool true):=by
  show some (PyData.bool (decide (v<n)))=_
  rw [decide_eq_true hv]
 constructor
 ·refine JF ?_
  show Z9.1 [some M,some S,some (.int n)]=_
  dsimp? [Z9,g,c1]
 ·refine j7 rfl ?_
  show aac.1 [some M,some S,some (.int n)]=_
  dsimp? [aac,g,c1]
theorem akw {M S:PyData}{n v:Int} (g:agN [M,S]=some (.int v)) (hv:n<=v):aaa [M,S,.int n]=some .none/\abj [M,S,.int n]=none:=by
 have c1:qJ (fun i j=>decide (j<i)) (.int n) (.int v)=some (.bool false):=by
  show some (PyData.bool (decide (v<n)))=_
  rw [decide_eq_false (by omega)]
 constructor
 ·refine aow (ρ:=[some M,some S,some (.int n)]) rfl ?_
  show Z9.1 [some M,some S,some (.int n)]=_
  dsimp? [Z9,g,c1]
 ·refine j7 rfl ?_
  show aac.1 [some M,some S,some (.int n)]=_
  dsimp? [aac,g,c1]
end
section
variable {m r n:PyData}{c:Str}
theorem aox (g:Jc [m]=none) (x:ZC [m]=some c):Jd [m,r,n]=none/\Q7 [m,r,n]=some c:=by
 constructor
 ·simp [Jd,jv,adx,jE,jM,aaQ,jy,jk,jr,lkp,g]
 ·refine j7 rfl ?_
  show ZE.1 [some m,some r,some n]=_
  simp [ZE,orX,nxX,aaQ,jy,jk,jr,lkp,g,x]
theorem aoy (g:Jc [m]=some .none) (x:ZC [m]=none) (g2:zr [r]=some .none) (x2:ZD [r]=none) (g3:qU [n]=none) (x3:JC [n]=some c):Jd [m,r,n]=none/\Q7 [m,r,n]=some c:=by
 constructor
 ·simp [Jd,jv,adx,jE,jM,aaQ,jy,jk,jr,lkp,g,g2,g3]
 ·refine j7 rfl ?_
  show ZE.1 [some m,some r,some n]=_
  simp [ZE,orX,nxX,aaQ,jy,jk,jr,lkp,g,x,g2,x2,g3,x3]
end
section
variable {u e l b:Int}{ps:PL}
theorem ck2 (H:qp=true) (h:okN u e l b=true) (hs:okS u l ps=true):zw [jj u e l b,jC ps]=some .none/\Jl [jj u e l b,jC ps]=none:=
 ⟨ag2 H h hs,aij (ag0 H h) (adK ps) (by rw [ako]; exact hs)⟩
end
mutual
theorem adQ:∀ d:PyData,noD d=true->PyData.eqv d d=true
 | .none,_=>by simp [PyData.eqv]
 | .bool _,_=>by simp [PyData.eqv]
 | .int _,_=>by simp [PyData.eqv]
 | .str _,_=>by simp [PyData.eqv]
 | .tuple ds,h=>by rw [PyData.eqv]; exact eqvA_self ds (by simpa [noD] using h)
 | .list ds,h=>by rw [PyData.eqv]; exact eqvA_self ds (by simpa [noD] using h)
 | .dict _,h=>by simp [noD] at h
theorem eqvA_self:∀ ds:LP,noDs ds=true->PyData.eqvAll ds ds=true
 | [],_=>by simp [PyData.eqvAll]
 | d::ds,h=>by
  have h':noD d=true/\noDs ds=true:=by simpa [noDs] using h
  rw [PyData.eqvAll,adQ d h'.1,eqvA_self ds h'.2]; rfl
end
noncomputable def sh (n:Nat) (d:PyData):Prop:=shl n d/\noD d=true
theorem ajl {n:Nat}{d:PyData} (h:sh n d) (hn:n<30):dNe d d=some (.bool false):=by
 have ok:=af2 h.1 hn
 unfold dNe
 rw [if_pos ⟨ok,ok⟩,adQ d h.2]; rfl
theorem ahf {ds:LP} (h:∀ d ∈ ds,noD d=true):noDs ds=true:=by
 induction ds with
 | nil=>rfl
 | cons d ds ih=>
  show (noD d && noDs ds)=true
  rw [h d List.mem_cons_self,ih fun x hx=>h x (List.mem_cons_of_mem _ hx)]; rfl
theorem adR {n:Nat}{ds:LP} (h:∀ d ∈ ds,sh n d):sh (n+1) (.list ds):=⟨ajh.mpr fun d hd=>(h d hd).1,ahf fun d hd=>(h d hd).2⟩
theorem adS {n:Nat}{ds:LP} (h:∀ d ∈ ds,sh n d):sh (n+1) (.tuple ds):=⟨af1.mpr fun d hd=>(h d hd).1,ahf fun d hd=>(h d hd).2⟩
theorem Qg {n m:Nat}{d:PyData} (h:sh n d) (hm:n<=m):sh m d:=⟨⟨h.1.1,Nat.le_trans h.1.2 hm⟩,h.2⟩
theorem aaM (i:Int):sh 1 (.int i):=⟨aji i,rfl⟩
theorem ajm (ps:List (Int × Int)):sh 3 (jC ps):=⟨aov ps,adK ps⟩
theorem aqo (p:Int × Int):sh 2 (pr p):=adS fun d hd=>by
 rcases List.mem_cons.mp hd with rfl | hd
 ·exact aaM _
 ·rw [List.mem_singleton.mp hd]; exact aaM _
theorem aqp (M:PyData) (c:Nat × Int):sh 3 (zU M c):=adS fun d hd=>by
 rcases List.mem_cons.mp hd with rfl | hd
 ·exact Qg (aaM _) (by omega)
 ·rw [List.mem_singleton.mp hd]; exact aqo _
theorem amO (i:Int):sh 2 (rfd i):=adS fun d hd=>by
 rcases List.mem_cons.mp hd with rfl | hd
 ·exact ⟨⟨by simp only [PyData.canLay0]; decide +kernel,by simp [PyData.depth]⟩,rfl⟩
 ·rw [List.mem_singleton.mp hd]; exact aaM _
open PySem L2 BX
open PyProof.Rows hiding St
section
variable {ρ ρ1:Rho}{μ:jP}{R:OutC->jP->Prop}{S S' S0:TRS}{tc:Rho->Option Bool}{F:RO}{f:RP}{d:PyData}{i:Nat}{T:TR PyData}
theorem qX (h:F ρ=some (.nx ρ1)) (k:S' ρ1 μ R):agF (al7 F) S' ρ μ R:=⟨.nx ρ1,h,k⟩
theorem aqq (h:f ρ=some d) (k:R (.rt d) μ):agF (al7 (qq f)) S' ρ μ R:=⟨.rt d,by show (f ρ).map _=_; rw [h]; rfl,k⟩
end
theorem aeZ {ga:PyData->Rho->Option Rho}{S:TRS}{R:OutC->jP->Prop} (I:Nat->Rho->jP->Prop):∀ (ds:LP) (j:Nat) (ρ:Rho) (μ:jP),I j ρ μ->
  (∀ (i:Nat) (d:PyData) (ρ:Rho) (μ:jP) (R':OutC->jP->Prop),ds[i]?=some d->I (j+i) ρ μ->(∀ ρ' μ',I (j+i+1) ρ' μ'->R' (.nx ρ') μ')->∃ ρ1,ga d ρ=some ρ1/\S ρ1 μ R')->(∀ ρ' μ',I (j+ds.length) ρ' μ'->R (.nx ρ') μ')->aeE ga S ds ρ μ R
 | [],j,ρ,μ,h,_,k=>k ρ μ h
 | d::ds,j,ρ,μ,h,st,k=>by
  obtain ⟨ρ1,g1,g2⟩:=st 0 d ρ μ (ama (fun ρ2 μ2=>aeE ga S ds ρ2 μ2 R) R) rfl h fun ρ' μ' h'=>aeZ I ds (j+1) ρ' μ' h' (fun i d' ρ μ R' hd hi kk=>st (i+1) d' ρ μ R' (by simpa using hd) (by rw [show j+(i+1)=j+1+i by omega]; exact hi) (fun ρ' μ' z=>kk ρ' μ' (by rw [show j+1+i+1=j+(i+1)+1 by omega]; exact z))) fun ρ' μ' z=>k ρ' μ' (by rw [List.length_cons,show j+(ds.length+1)=j+1+ds.length by omega]; exact z)
  exact ⟨ρ1,g1,g2⟩
section
variable {ρ ρ1:Rho}{μ:jP}{R:OutC->jP->Prop}{A B S S' S0:TRS}{tc:Rho->Option Bool}{F:RO}{f:RP}{d:PyData}{i j:Nat}{T:TR PyData}{l:Addr}{ds:LP}
theorem arK (h:A ρ μ fun o μ'=>match o with
  | .nx ρ'=>S' ρ' μ' R
  | o=>R o μ'):agF A S' ρ μ R:=h
theorem ajn (h1:lkp i ρ=some (zz l)) (h2:μ l=some (.lst ds)) (h3:f (ρ.set i (some (.list ds)))=some d) (h4:noL d=true) (k:S' (ρ.set j (some d)) μ R):agF (Zh (ap4 i f) (anV j)) S' ρ μ R:=⟨l,ds,d,h1,h2,h3,h4,k⟩
end
noncomputable def tk (b:Int) (ws:List Int):Nat->Int->List (Nat × Int)
 | 0,_=>[]
 | i+1,dg=>if dg=0 then [] else if dg<=ws.getD i 0 then [(i,ws.getD i 0 - dg)] else tk b ws i 1++[(i,ws.getD i 0 - dg+b)]
structure TkOk (b:Int) (ws:List Int) (i:Nat) (dg:Int) (cs:List (Nat × Int)) (pre:List Int):Prop where
 lt:∀ c ∈ cs,c.1<i/\0<=c.2/\c.2<b
 few:cs.length<=i
 len:pre.length=i
 ok:okG b pre
 val:dv b pre=dv b (ws.take i) - dg
 app:JV cs ws=pre++ws.drop i
section
variable {b:Int}{ws:List Int}
theorem ajo {i:Nat} (hi:i<ws.length):ws[i]?=some (ws.getD i 0):=by
 rw [List.getD_eq_getElem?_getD,List.getElem?_eq_getElem hi]; rfl
theorem acU (i:Nat):tk b ws i 0=[]:=by
 cases i with
 | zero=>rfl
 | succ i=>rw [tk,if_pos rfl]
theorem adT (hk:okG b ws):∀ (i:Nat) (dg:Int),i<=ws.length->0<=dg->dg<b->dg<=dv b (ws.take i)->∃ pre,TkOk b ws i dg (tk b ws i dg) pre:=by
 intro i
 induction i with
 | zero=>
  intro dg hi d0 d1 hv
  have z:dv b (ws.take 0)=0:=rfl
  rw [z] at hv
  have:dg=0:=by omega
  subst this
  exact ⟨[],fun c hc=>(nomatch hc),Nat.le_refl _,rfl,fun d hd=>(nomatch hd),rfl,rfl⟩
 | succ i ih=>
  intro dg hi d0 d1 hv
  by_cases hz:dg=0
  ·subst hz
   rw [acU]
   exact ⟨ws.take (i+1),fun c hc=>(nomatch hc),Nat.zero_le _,by rw [List.length_take]; omega,hk.take _,by rw [Int.sub_zero],by show ws=_; rw [List.take_append_drop]⟩
  have hd:=ajo (ws:=ws) (i:=i) (by omega)
  rw [tk,if_neg hz]
  generalize ws.getD i 0=w at hd
  obtain ⟨w0,w1⟩:=hk w (List.mem_of_getElem? hd)
  rw [QN hd,Zb] at hv
  have tl:(ws.take i).length=i:=by rw [List.length_take]; omega
  by_cases hw:dg<=w
  ·rw [if_pos hw]
   refine ⟨ws.take i++[w - dg],fun c hc=>by rw [List.mem_singleton.mp hc]; exact ⟨Nat.lt_succ_self _,by omega,by show w - dg<b; omega⟩,by simp,by rw [List.length_append,tl]; rfl,(hk.take _).app (okG.one (by omega) (by omega)),by rw [QN hd,Zb,Zb]; omega,?_⟩
   have:=ajd (pre:=ws.take i) (ds:=ws) (i:=i) (x:=w - dg) tl hd
   rw [List.take_append_drop] at this
   exact this
  ·rw [if_neg hw]
   have v1:1<=dv b (ws.take i):=by
    apply Classical.byContradiction
    intro hc
    have r0:=(aaL (show 0<b by omega) _ (hk.take i)).1
    have:dv b (ws.take i)=0:=by omega
    rw [this,Int.zero_mul] at hv
    omega
   obtain ⟨pre,st⟩:=ih 1 (by omega) (by omega) (by omega) v1
   refine ⟨pre++[w - dg+b],fun c hc=>?_,by rw [List.length_append]; have:=st.few; simp; omega,by rw [List.length_append,st.len]; rfl,st.ok.app (okG.one (by omega) (by omega)),?_,?_⟩
   ·rcases List.mem_append.mp hc with z | z
    ·have:=st.lt c z
     exact ⟨by omega,this.2⟩
    ·rw [List.mem_singleton.mp z]; exact ⟨Nat.lt_succ_self _,by show 0<=w - dg+b; omega,by show w - dg+b<b; omega⟩
   ·rw [QN hd,Zb,Zb,st.val,Int.sub_mul,Int.one_mul]; omega
   ·rw [ag4,st.app]
    exact ajd (pre:=pre) (ds:=ws) (i:=i) (x:=w - dg+b) st.len hd
noncomputable def Qm (b:Int):List Int->Nat->List Int->List (Nat × Int)
 | [],_,_=>[]
 | d::ds,i,ws=>tk b ws (i+1) d++Qm b ds (i+1) (JV (tk b ws (i+1) d) ws)
noncomputable def Can (b:Int):List Int->Nat->List Int->Prop
 | [],_,_=>True
 | d::ds,i,ws=>(0<=d/\d<b/\d<=dv b (ws.take (i+1)))/\okG b (JV (tk b ws (i+1) d) ws)/\Can b ds (i+1) (JV (tk b ws (i+1) d) ws)
theorem amP (hb:0<b):∀ (ds:List Int) (i:Nat) (ws:List Int),okG b ws->okG b ds->i+ds.length=ws.length->dv b ds<=dv b ws->Can b ds i ws
 | [],_,_,_,_,_,_=>trivial
 | d::ds,i,ws,hk,hd,hl,hv=>by
  rw [List.length_cons] at hl
  obtain ⟨d0,d1⟩:=hd d List.mem_cons_self
  have hds:okG b ds:=fun x hx=>hd x (List.mem_cons_of_mem _ hx)
  have e1:=aoj (b:=b) ws (i+1)
  have dl:(ws.drop (i+1)).length=ds.length:=by rw [List.length_drop]; omega
  rw [show ws.length - (i+1)=ds.length by omega] at e1
  have r1:=aaL hb _ (hk.drop (i+1))
  rw [dl] at r1
  have r2:=aaL hb _ hds
  have e2:=ajb b d ds
  have pp:=JT hb ds.length
  have hle:d<=dv b (ws.take (i+1)):=by
   apply Classical.byContradiction
   intro hc
   have:(dv b (ws.take (i+1))+1)*b ^ ds.length<=d*b ^ ds.length:=Int.mul_le_mul_of_nonneg_right (by omega) (by omega)
   rw [Int.add_mul,Int.one_mul] at this
   omega
  obtain ⟨pre,st⟩:=adT hk (i+1) d (by omega) d0 d1 hle
  have ok':okG b (JV (tk b ws (i+1) d) ws):=by rw [st.app]; exact st.ok.app (hk.drop _)
  refine ⟨⟨d0,d1,hle⟩,ok',amP hb ds (i+1) _ ok' hds (by rw [abB]; omega) ?_⟩
  rw [st.app,amG,dl,st.val,Int.sub_mul]
  omega
end
noncomputable abbrev z00:Int × Int:=(0,0)
section
variable {u e l b:Int}
theorem ajp {M:PyData}{ps:PL}{i:Nat}{d:Int} (h:wt e (fpr M d)=d):(ps.set i (fpr M d)).map (wt e)=(ps.map (wt e)).set i d:=by
 rw [List.map_set,h]
theorem af3 {M:PyData}:∀ (cs:List (Nat × Int)) (ps:PL),(∀ c ∈ cs,wt e (fpr M c.2)=c.2)->(qz M cs ps).map (wt e)=JV cs (ps.map (wt e))
 | [],_,_=>rfl
 | c::cs,ps,h=>by
  show (qz M cs (ps.set c.1 (fpr M c.2))).map (wt e)=JV cs ((ps.map (wt e)).set c.1 c.2)
  rw [af3 cs _ fun x hx=>h x (List.mem_cons_of_mem _ hx),ajp (h c List.mem_cons_self)]
theorem aoz {ps:PL}{i:Nat} (hi:i<ps.length):(ps.map (wt e)).getD i 0=wt e (ps.getD i z00):=by
 rw [List.getD_eq_getElem?_getD,List.getElem?_map,List.getElem?_eq_getElem hi,List.getD_eq_getElem?_getD,List.getElem?_eq_getElem hi]; rfl
theorem aqr (H:qp=true) (h:okN u e l b=true) {ps:PL} (hk:ps.all (okP u l)=true) (h4:ps.length<=4) (hw:okG b (ps.map (wt e))):∀ (i k:Nat) (dg:Int),i<=ps.length->0<=dg->dg<b->dg<=dv b ((ps.map (wt e)).take i)->
  gDT (i+1+k) [jj u e l b,jC ps,.int ((i:Int) - 1),.int dg]=some (.list ((tk b (ps.map (wt e)) i dg).map (zU (jj u e l b)))):=by
 intro i
 induction i with
 | zero=>
  intro k dg hi d0 d1 hv
  have z:dv b ((ps.map (wt e)).take 0)=0:=rfl
  rw [z] at hv
  have:dg=0:=by omega
  subst this
  rw [show 0+1+k=k+1 by omega]
  exact ajc
 | succ i ih=>
  intro k dg hi d0 d1 hv
  rw [show i+1+1+k=(i+1+k)+1 by omega,show (((i+1:Nat):Int) - 1)=(i:Int) by omega]
  by_cases hz:dg=0
  ·subst hz
   rw [acU]
   exact ajc
  rw [tk,if_neg hz,aoz (by omega)]
  have hd:ps[i]?=some (ps.getD i z00):=by
   rw [List.getD_eq_getElem?_getD,List.getElem?_eq_getElem (by omega)]; rfl
  have hpk:okP u l (ps.getD i z00)=true:=List.all_eq_true.mp hk _ (List.mem_of_getElem? hd)
  have hwd:(ps.map (wt e))[i]?=some (wt e (ps.getD i z00)):=by rw [List.getElem?_map,hd]; rfl
  obtain ⟨w0,w1⟩:=hw _ (List.mem_of_getElem? hwd)
  rw [QN hwd,Zb] at hv
  generalize ps.getD i z00=p at hd hpk hwd w0 w1 hv
  by_cases hle:dg<=wt e p
  ·rw [if_pos hle]
   exact arF hz (ajj h4 hd) (ahd h hpk) (by omega) (qL H h (by omega) (by omega)).1
  ·rw [if_neg hle,List.map_append]
   have v1:1<=dv b ((ps.map (wt e)).take i):=by
    apply Classical.byContradiction
    intro hc
    have r0:=(aaL (show 0<b by omega) _ (hw.take i)).1
    have:dv b ((ps.map (wt e)).take i)=0:=by omega
    rw [this,Int.zero_mul] at hv
    omega
   obtain ⟨pre,st⟩:=adT hw i 1 (by rw [List.length_map]; omega) (by omega) (by omega) v1
   exact arG (g:=gDT (i+1+k)) hz (ajj h4 hd) (ahd h hpk) (by omega) (ih k 1 (by omega) (by omega) (by omega) v1) rfl (qL H h (by omega) (by omega)).1 (by rw [List.length_map]; have:=st.few; omega)
theorem ajq (H:qp=true) (h:okN u e l b=true) {r:Nat} (h4:r<=4) {S N:PyData}:∀ (ds:List Int) (i:Nat) (ps:PL) (acc:List (Nat × Int)) (x6 x7 x8:OP),i+ds.length=r->ps.length=r->ps.all (okP u l)=true->okG b (ps.map (wt e))->Can b ds i (ps.map (wt e))->acc.length<=10*i->
  ∃ y6 y7 y8,j0 (QQ 2 (j8 (jH 6) (j8 (jH 7) zY))) (abU "digit_taken" (gDT 6)).1 (Zf i (ds.map .int)) [some (jj u e l b),some S,some N,some (fnD "digit_taken"),some (.list (acc.map (zU (jj u e l b)))),some (jC ps),x6,x7,x8]=some (.nx [some (jj u e l b),some S,some N,some (fnD "digit_taken"),some (.list ((acc++Qm b ds i (ps.map (wt e))).map (zU (jj u e l b)))),some (jC (qz (jj u e l b) (Qm b ds i (ps.map (wt e))) ps)),y6,y7,y8])
 | [],i,ps,acc,x6,x7,x8,_,_,_,_,_,_=>⟨x6,x7,x8,by rw [Qm,List.append_nil]; rfl⟩
 | d::ds,i,ps,acc,x6,x7,x8,hi,hl,hk,hw,hc,ha=>by
  obtain ⟨a1,a2,a3,a4,a5,a6,a7,a8,a9,a10⟩:=jN h
  obtain ⟨⟨d0,d1,dle⟩,ok',hc'⟩:=hc
  rw [List.length_cons] at hi
  have en:Zf i ((d::ds).map PyData.int)= .tuple [.int (i:Int),.int d]::Zf (i+1) (ds.map .int):=rfl
  rw [en,Qm]
  have run:=aqr H h hk (by omega) hw (i+1) (6 - (i+2)) d (by omega) d0 d1 dle
  rw [show i+1+1+(6 - (i+2))=6 by omega,show (((i+1:Nat):Int) - 1)=(i:Int) by omega] at run
  obtain ⟨pre,st⟩:=adT hw (i+1) d (by rw [List.length_map]; omega) d0 d1 dle
  have wa:(qz (jj u e l b) (tk b (ps.map (wt e)) (i+1) d) ps).map (wt e)=JV (tk b (ps.map (wt e)) (i+1) d) (ps.map (wt e)):=af3 _ _ fun c hc=>(qL H h (st.lt c hc).2.1 (st.lt c hc).2.2).2.1
  have lt:=st.lt
  have cl:=st.few
  generalize tk b (ps.map (wt e)) (i+1) d=cs at run wa ok' hc' lt cl
  rw [←wa] at ok' hc'
  rw [←wa]
  have bh:=ahe (m:=jj u e l b) (cs:=cs) (ps:=ps) fun c hc=>by have:=(lt c hc).1; omega
  have ci:=aqe (x:="digit_taken") (g:=gDT 6) (S:=S) (N:=N) (x8:=x8) (ch:=acc.map (zU (jj u e l b))) run bh (amH _ cs) (by rw [List.length_map,List.length_map]; omega)
  obtain ⟨y6,y7,y8,l1⟩:=ajq H h h4 (S:=S) (N:=N) ds (i+1) (qz (jj u e l b) cs ps) (acc++cs) (some (.int (i:Int))) (some (.int d)) (some (.list (cs.map (zU (jj u e l b))))) (by omega) (by rw [ab9]; exact hl) (adP H h cs ps (fun c hc=>(lt c hc).2) hk) ok' hc' (by rw [List.length_append]; omega)
  refine ⟨y6,y7,y8,?_⟩
  rw [j0]
  simp only [QQ,j8,zY,jH,List.length_cons,List.length_nil,zzM,zzD,zzF,zzG,ci]
  rw [List.map_append] at l1
  rw [l1,List.append_assoc,ab8]
theorem arL (H:qp=true) (h:okN u e l b=true) {ps:PL}{n:Int}{r:Nat} (hr:ps.length=r) (h1:1<=r) (h4:r<=4) (hk:ps.all (okP u l)=true) (hw:okG b (ps.map (wt e))) (hc:Can b (dgl b r n) 0 (ps.map (wt e))):
  gCT [jj u e l b,jC ps,.int n,fnD "digit_taken"]=some (.list ((Qm b (dgl b r n) 0 (ps.map (wt e))).map (zU (jj u e l b)))):=by
 obtain ⟨a1,a2,a3,a4,a5,a6,a7,a8,a9,a10⟩:=jN h
 have gd:=acQ (n:=n) (show 0<b by omega) a9 h1 h4
 have sl:Ja [jC ps]=some (.int (r:Int)):=by
  have:=ag3 ps
  rw [hr] at this; exact this
 obtain ⟨y6,y7,y8,l1⟩:=ajq H h h4 (S:=jC ps) (N:= .int n) (dgl b r n) 0 ps [] none none none (by rw [Qf]; omega) hr hk hw hc (Nat.zero_le _)
 exact aku rfl sl gd l1
end
section
variable {ρ ρ1:Rho}{μ:jP}{R:OutC->jP->Prop}{S':TRS}{f fk:RP}{d:PyData}{i j m:Nat}{n:Int}{l l2:Addr}{ds ds2:LP}
theorem adU (h1:lkp i ρ=some (zz l)) (h2:μ l=some (.lst ds)) (h3:f (ρ.set i (some (.list ds)))=some d) (h4:noL d=true) (h5:lkp j ρ=some (zz l2)) (h6:μ l2=some (.lst ds2)) (h7:fk ρ=some (.int n)) (h8:ixN ds2.length n=some m) (k:S' ρ (acu μ l2 (.lst (ds2.set m d))) R):
  agF (Zh (ap4 i f) (ao0 j (Zi fk))) S' ρ μ R:=⟨l,ds,d,h1,h2,h3,h4,l2,h5,.int n,h7,ds2,n,m,h6,rfl,h8,k⟩
theorem qA {a:Addr}{c:Cell}:acu μ a c a=some c:=if_pos rfl
theorem ZV {a a':Addr}{c:Cell} (h:a' ≠ a):acu μ a c a'=μ a':=if_neg h
end
theorem ajr {ds:LP}{i:Nat}{d:PyData} (h4:ds.length<1000) (hd:ds[i]?=some d):dIx (.list ds) (.int (i:Int))=some d:=by
 have hi:i<ds.length:=(List.getElem?_eq_some_iff.mp hd).1
 show (if ds.length<1000000 then atI ds (i:Int) else none)=_
 rw [if_pos (by omega)]
 unfold atI
 rw [ZJ (by omega) (by simpa using hi),zzD]
 rw [show ((i:Int)).toNat=i by simp,hd]
theorem air {n i:Nat} (hi:i<n):ixN n (i:Int)=some i:=by
 rw [ZJ (by omega) (by simpa using hi)]; simp
theorem arM {M FR:PyData}{S N F x6 x7:OP}{a3 a4:Addr} (hne:a3 ≠ a4) {μ:jP}{R:OutC->jP->Prop}{wl hl row:LP}{i:Nat}{w dg b q m:Int}
  (m3:μ a3=some (.lst wl)) (m4:μ a4=some (.lst hl)) (hw:wl[i]?=some (.int w)) (hwl:wl.length<1000) (hi:i<hl.length) (hhl:hl.length<1000) (i3:dIx M (.int 3)=some (.int b)) (hb:0<b) (hq:q=if w - dg<0 then 1 else 0) (hm:m=(w - dg) % b) (gf:zj [M,.int m]=some FR) (nl:noL FR=true) (hrow:row.length<1000)
  (k:R (.nx [some M,S,N,some (zz a3),some (zz a4),F,x6,x7,some (.int q),some (.list (.tuple [.int (i:Int),FR]::row)),some (.int ((i:Int) - 1))]) (acu (acu (acu μ a3 (.lst (wl.set i (.int (w - dg))))) a3 (.lst ((wl.set i (.int (w - dg))).set i (.int m)))) a4 (.lst (hl.set i FR)))):
  aah.1 [some M,S,N,some (zz a3),some (zz a4),F,x6,x7,some (.int dg),some (.list row),some (.int (i:Int))] μ R:=by
 have hiw:i<wl.length:=(List.getElem?_eq_some_iff.mp hw).1
 have x1:=ajr hwl hw
 have x2:=ajr (ds:=wl.set i (.int (w - dg))) (i:=i) (d:= .int (w - dg)) (by rw [List.length_set]; exact hwl) (List.getElem?_set_self hiw)
 have x3:=ajr (ds:=(wl.set i (.int (w - dg))).set i (.int m)) (i:=i) (d:= .int m) (by rw [List.length_set,List.length_set]; exact hwl) (List.getElem?_set_self (by rw [List.length_set]; exact hiw))
 have x4:=ajr (ds:=hl.set i FR) (i:=i) (d:=FR) (by rw [List.length_set]; exact hhl) (List.getElem?_set_self hi)
 have md:ad1 (.int (w - dg)) (.int b)=some (.int m):=by rw [hm]; exact Q9 hb
 have c1:qJ (fun i j=>decide (i<j)) (.int (w - dg)) (.int 0)=some (.bool (decide (w - dg<0))):=rfl
 have t1:ahW [.bool (decide (w - dg<0))]=some (.int q):=by
  subst hq
  by_cases hc:w - dg<0
  ·rw [decide_eq_true hc,if_pos hc]; rfl
  ·rw [decide_eq_false hc,if_neg hc]; rfl
 have fw:few [PyData.int (i:Int),FR]=true:=jZ (by simp)
 have fw':few [PyData.tuple [PyData.int (i:Int),FR]]=true:=jZ (by simp)
 have ad:zh (.list [.tuple [.int (i:Int),FR]]) (.list row)=some (.list (.tuple [.int (i:Int),FR]::row)):=by
  show (if few ([PyData.tuple [.int (i:Int),FR]]++row)=true then some (PyData.list ([.tuple [.int (i:Int),FR]]++row)) else none)=_
  rw [if_pos (jZ (by rw [List.length_append,List.length_singleton]; omega))]; rfl
 have sb:acr (.int (i:Int)) (.int 1)=some (.int ((i:Int) - 1)):=rfl
 have s0:acr (.int w) (.int dg)=some (.int (w - dg)):=rfl
 simp only [aah]
 refine adU (d:= .int (w - dg)) rfl m3 (jL (jL rfl rfl x1) rfl s0) rfl rfl m3 rfl (air hiw) ?_
 refine ajn (d:= .int q) rfl qA (jR (jD (jL (jL rfl rfl x2) rfl c1) rfl) t1) rfl ?_
 refine adU (d:= .int m) rfl qA (jL (jL rfl rfl x2) (jL rfl rfl i3) md) rfl rfl qA rfl (air (by rw [List.length_set]; exact hiw)) ?_
 refine adU (d:=FR) rfl qA (jR (jD rfl (jD (jL rfl rfl x3) rfl)) gf) nl rfl ((ZV (Ne.symm hne)).trans ((ZV (Ne.symm hne)).trans m4)) rfl (air hi) ?_
 have t2:Qh (jk (lkp 10) (jk (op2 dIx (lkp 4) (lkp 10)) jr)) [some M,S,N,some (zz a3),some (.list (hl.set i FR)),F,x6,x7,some (.int q),some (.list row),some (.int (i:Int))]=some (.tuple [.int (i:Int),FR]):=by
  simp only [Qh,jk,jr,op2,lkp,zzA,zzB,zzC,zzD,zzE,x4,fw,zzM]
 have nt:noL (.tuple [.int (i:Int),FR])=true:=by simp [noL,noLs,nl]
 exact ⟨a4,_,_,rfl,qA,t2,nt,_,rfl,_,rfl,_,rfl,_,rfl,_,ad,.nx _,qG (jL rfl rfl sb),k⟩
section
variable {b:Int}{ws:List Int}
theorem amQ {x:Int}{j:Nat}:∀ (i:Nat) (dg:Int),i<=j->tk b (ws.set j x) i dg=tk b ws i dg
 | 0,dg,_=>rfl
 | i+1,dg,h=>by
  have e1:(ws.set j x).getD i 0=ws.getD i 0:=by
   rw [List.getD_eq_getElem?_getD,List.getElem?_set_ne (by omega),←List.getD_eq_getElem?_getD]
  rw [tk,tk,e1,amQ i _ (by omega)]
theorem ahg {x:Int}{j:Nat}:∀ (cs:List (Nat × Int)) (ws:List Int),(∀ c ∈ cs,c.1<j)->JV cs (ws.set j x)=(JV cs ws).set j x
 | [],ws,_=>rfl
 | c::cs,ws,h=>by
  have hc:=h c List.mem_cons_self
  show JV cs ((ws.set j x).set c.1 c.2)=(JV cs (ws.set c.1 c.2)).set j x
  rw [List.set_comm _ _ (by omega),ahg cs _ fun d hd=>h d (List.mem_cons_of_mem _ hd)]
theorem ae0 {M:PyData}{x:Int × Int}{j:Nat}:∀ (cs:List (Nat × Int)) (ps:PL),(∀ c ∈ cs,c.1<j)->qz M cs (ps.set j x)=(qz M cs ps).set j x
 | [],ps,_=>rfl
 | c::cs,ps,h=>by
  have hc:=h c List.mem_cons_self
  show qz M cs ((ps.set j x).set c.1 (fpr M c.2))=(qz M cs (ps.set c.1 (fpr M c.2))).set j x
  rw [List.set_comm _ _ (by omega),ae0 cs _ fun d hd=>h d (List.mem_cons_of_mem _ hd)]
theorem aoA (hk:okG b ws) {x:Int}{j:Nat} (h0:0<=x) (h1:x<b):okG b (ws.set j x):=fun d hd=>by
 rcases List.mem_or_eq_of_mem_set hd with q | q
 ·exact hk d q
 ·rw [q]; exact ⟨h0,h1⟩
theorem set_set {α:Type} (l:List α) (i:Nat) (x y:α):(l.set i x).set i y=l.set i y:=by
 rw [List.set_set]
end
noncomputable abbrev tcW:TR Bool:=Zi (tst (op2 (qJ fun i j=>decide (j<i)) (lkp 8) (cst (PyData.int 0))))
section
variable {u e l b:Int}
theorem aqs (H:qp=true) (h:okN u e l b=true) {a3 a4:Addr} (hne:a3 ≠ a4) {S N F x6 x7:OP}:∀ (i f:Nat) (dg:Int) (ps:PL) (row:LP) (μ:jP) (R:OutC->jP->Prop),i<f->ps.length<=4->i<=ps.length->ps.all (okP u l)=true->okG b (ps.map (wt e))->0<=dg->dg<b->dg<=dv b ((ps.map (wt e)).take i)->
  μ a3=some (.lst ((ps.map (wt e)).map .int))->μ a4=some (.lst (ps.map pr))->row.length+i<1000->
  (∀ dg' at' μ',μ' a3=some (.lst ((JV (tk b (ps.map (wt e)) i dg) (ps.map (wt e))).map .int))->μ' a4=some (.lst ((qz (jj u e l b) (tk b (ps.map (wt e)) i dg) ps).map pr))->R (.nx [some (jj u e l b),S,N,some (zz a3),some (zz a4),F,x6,x7,some dg',some (.list ((tk b (ps.map (wt e)) i dg).map (zU (jj u e l b))++row)),some at']) μ')->
  ads tcW aah.1 f [some (jj u e l b),S,N,some (zz a3),some (zz a4),F,x6,x7,some (.int dg),some (.list row),some (.int ((i:Int) - 1))] μ R:=by
 obtain ⟨a1,a2,a3',a4',a5,a6,a7,a8,a9,a10⟩:=jN h
 have hb:0<b:=by omega
 intro i
 induction i with
 | zero=>
  intro f dg ps row μ R hf h4 hi hk hw d0 d1 hv m3 m4 hr k
  have z:dv b ((ps.map (wt e)).take 0)=0:=rfl
  rw [z] at hv
  have:dg=0:=by omega
  subst this
  obtain ⟨f,rfl⟩:∃ g,f=g+1:=⟨f - 1,by omega⟩
  exact ⟨false,rfl,k _ _ μ m3 m4⟩
 | succ i ih=>
  intro f dg ps row μ R hf h4 hi hk hw d0 d1 hv m3 m4 hr k
  obtain ⟨f,rfl⟩:∃ g,f=g+1:=⟨f - 1,by omega⟩
  by_cases hz:dg=0
  ·subst hz
   rw [acU] at k
   exact ⟨false,rfl,k _ _ μ m3 m4⟩
  rw [show (((i+1:Nat):Int) - 1)=(i:Int) by omega]
  have tt:tst (op2 (qJ fun i j=>decide (j<i)) (lkp 8) (cst (PyData.int 0))) [some (jj u e l b),S,N,some (zz a3),some (zz a4),F,x6,x7,some (.int dg),some (.list row),some (.int (i:Int))]=some true:=by
   refine JX (jL rfl rfl ?_)
   show some (PyData.bool (decide (0<dg)))=_
   rw [decide_eq_true (by omega)]
  refine ⟨true,tt,?_⟩
  have hd:(ps.map (wt e))[i]?=some ((ps.map (wt e)).getD i 0):=ajo (by rw [List.length_map]; omega)
  have tke:∃ q m:Int,(q=if (ps.map (wt e)).getD i 0 - dg<0 then 1 else 0)/\m=((ps.map (wt e)).getD i 0 - dg) % b/\0<=m/\m<b/\0<=q/\q<b/\q<=dv b ((ps.map (wt e)).take i)/\tk b (ps.map (wt e)) (i+1) dg=tk b (ps.map (wt e)) i q++[(i,m)]:=by
   rw [tk,if_neg hz]
   have v0:=(aaL hb _ (hw.take i)).1
   obtain ⟨w0,w1⟩:=hw _ (List.mem_of_getElem? hd)
   rw [QN hd,Zb] at hv
   generalize (ps.map (wt e)).getD i 0=w at hd w0 w1 hv
   by_cases hle:dg<=w
   ·refine ⟨0,w - dg,by rw [if_neg (by omega)],by rw [Int.emod_eq_of_lt (by omega) (by omega)],by omega,by omega,by omega,by omega,v0,by rw [if_pos hle,acU]; rfl⟩
   ·refine ⟨1,w - dg+b,by rw [if_pos (by omega)],?_,by omega,by omega,by omega,by omega,?_,by rw [if_neg hle]⟩
    ·have:(w - dg) % b=(w - dg+b) % b:=by rw [Int.add_emod_right]
     rw [this,Int.emod_eq_of_lt (by omega) (by omega)]
    ·apply Classical.byContradiction
     intro hc
     have:dv b ((ps.map (wt e)).take i)=0:=by omega
     rw [this,Int.zero_mul] at hv
     omega
  obtain ⟨q,m,hq,hm,m0,m1,q0,q1,qv,te⟩:=tke
  obtain ⟨pre,st⟩:=adT hw i q (by rw [List.length_map]; omega) q0 q1 qv
  have lt:∀ c ∈ tk b (ps.map (wt e)) i q,c.1<i:=fun c hc=>(st.lt c hc).1
  rw [te] at k
  have fo:=qL H h m0 m1
  have gf:=ZM H h m0 m1
  have es:(ps.set i (fpr (jj u e l b) m)).map (wt e)=(ps.map (wt e)).set i m:=ajp fo.2.1
  have tks:tk b ((ps.map (wt e)).set i m) i q=tk b (ps.map (wt e)) i q:=amQ i q (Nat.le_refl _)
  generalize hww:ps.map (wt e)=ws at*
  refine arM (wl:=ws.map .int) (hl:=ps.map pr) (w:=ws.getD i 0) (q:=q) (m:=m) (FR:=pr (fpr (jj u e l b) m)) hne m3 m4 (by rw [List.getElem?_map,hd]; rfl) (by rw [List.length_map,←hww,List.length_map]; omega) (by rw [List.length_map]; omega) (by rw [List.length_map]; omega) rfl hb hq hm gf (by simp [pr,noL,noLs]) (by omega) ?_
  refine ih f q (ps.set i (fpr (jj u e l b) m)) _ _ R (by omega) (by rw [List.length_set]; exact h4) (by rw [List.length_set]; omega) ?_ (by rw [es]; exact aoA hw m0 m1) q0 q1 (by rw [es,List.take_set_of_le (Nat.le_refl _)]; exact qv) ?_ ?_ (by rw [List.length_cons]; omega) ?_
  ·refine List.all_eq_true.mpr fun p hp=>?_
   rcases List.mem_or_eq_of_mem_set hp with z | z
   ·exact List.all_eq_true.mp hk p z
   ·rw [z]; exact fo.2.2
  ·rw [ZV hne,qA,set_set,es,List.map_set]
  ·rw [qA,List.map_set]
  ·intro dg' at' μ' k3 k4
   rw [es,tks] at k3
   rw [es,tks] at k4
   rw [es,tks]
   have e3:JV (tk b ws i q++[(i,m)]) ws=JV (tk b ws i q) (ws.set i m):=by rw [ag4,ahg _ _ lt]; rfl
   have e4:qz (jj u e l b) (tk b ws i q++[(i,m)]) ps=qz (jj u e l b) (tk b ws i q) (ps.set i (fpr (jj u e l b) m)):=by rw [ab8,ae0 _ _ lt]; rfl
   have:=k dg' at' μ' (by rw [e3]; exact k3) (by rw [e4]; exact k4)
   rw [List.map_append,List.append_assoc] at this
   exact this
end
section
variable {u e l b:Int}
theorem ais (hb:0<b) (hb':b<=16) {n:Int}{k:Nat} (hk:k<=1000):acP [.int b,.int n,.int (k:Int)]=some (.int (n / b ^ k % b)):=by
 have rg:Jp [.int (k:Int)]=some (qP 0 k):=adI hk
 obtain ⟨ρ',lp,x,e1⟩:=ZL (ga:=jH 3) (F:=agW.1) (fun j ρ=>∃ x,ρ=[some (.int b),some (.int (n / b ^ j)),some (.int (k:Int)),x]) (qP 0 k) 0 [some (.int b),some (.int n),some (.int (k:Int)),none] ⟨none,by simp⟩ (by
  rintro j d ρ hd ⟨x,rfl⟩
  refine ⟨_,_,rfl,(jK (qG (jL rfl rfl (QL hb (by omega))))).trans rfl,some d,?_⟩
  rw [Nat.zero_add]
  show [some (PyData.int b),some (.int (n / b ^ j / b)),some (.int (k:Int)),some d]=_
  rw [Int.pow_succ,Int.ediv_ediv_of_nonneg (Int.le_of_lt (JT hb j))])
 rw [JU,Nat.zero_add] at e1
 subst e1
 refine jW rfl ?_
 show acO.1 [some (.int b),some (.int n),some (.int (k:Int)),none]=_
 simp only [acO]
 refine (jK (aiq ?_ lp)).trans ?_
 ·have e0:jk (lkp 2) jr [some (PyData.int b),some (.int n),some (.int (k:Int)),none]=some [.int (k:Int)]:=rfl
  show (jk (lkp 2) jr _).bind Jp=_
  rw [e0,zzD]; exact rg
 ·exact aqn (jL rfl rfl (Q9 hb))
theorem aqt (hb:0<b) {r:Nat}{n:Int} (n0:0<=n) (hn:n<b ^ r) {i:Nat} (hi:i<r):(dgl b r n)[i]?=some (n / b ^ (r - 1 - i) % b):=by
 obtain ⟨k,rfl⟩:∃ k,r=k+1:=⟨r - 1,by omega⟩
 rw [ajk hb,List.getElem?_map,List.getElem?_range hi]
 show some (dig b (k+1) n i)=_
 unfold dig
 by_cases h0:0<i
 ·rw [if_pos h0]
 ·rw [if_neg h0]
  have:i=0:=by omega
  subst this
  have pp:=JT hb k
  rw [show k+1 - 1 - 0=k by omega]
  have q0:0<=n / b ^ k:=Int.ediv_nonneg n0 (by omega)
  have q1:n / b ^ k<b:=Int.ediv_lt_of_lt_mul pp (by rw [Int.mul_comm,←Int.pow_succ]; exact hn)
  rw [Int.emod_eq_of_lt q0 q1]
theorem aqu (H:qp=true) (h:okN u e l b=true) {a3 a4:Addr} (hne:a3 ≠ a4) {S x7 x8 x9 x10:OP}{n d:Int}{j r:Nat}{ps:PL}{acc:LP}{μ:jP}{R:OutC->jP->Prop} (hr:ps.length=r) (h4:r<=4) (hj:j<r) (hk:ps.all (okP u l)=true) (hw:okG b (ps.map (wt e))) (hd:d=n / b ^ (r - 1 - j) % b) (d0:0<=d) (d1:d<b) (dv1:d<=dv b ((ps.map (wt e)).take (j+1)))
  (m3:μ a3=some (.lst ((ps.map (wt e)).map .int))) (m4:μ a4=some (.lst (ps.map pr))) (ha:acc.length<1000)
  (k:∀ dg' at' row' μ',μ' a3=some (.lst ((JV (tk b (ps.map (wt e)) (j+1) d) (ps.map (wt e))).map .int))->μ' a4=some (.lst ((qz (jj u e l b) (tk b (ps.map (wt e)) (j+1) d) ps).map pr))->R (.nx [some (jj u e l b),S,some (.int n),some (zz a3),some (zz a4),some (.list (acc++(tk b (ps.map (wt e)) (j+1) d).map (zU (jj u e l b)))),some (.int (j:Int)),some (.int ((r - 1 - j:Nat):Int)),dg',row',at']) μ'):
  aai.1 [some (jj u e l b),S,some (.int n),some (zz a3),some (zz a4),some (.list acc),some (.int (j:Int)),x7,x8,x9,x10] μ R:=by
 obtain ⟨a1,a2,a3',a4',a5,a6,a7,a8,a9,a10⟩:=jN h
 have hb:0<b:=by omega
 have ln:Ja [.list (ps.map pr)]=some (.int (r:Int)):=by
  have:Ja [.list (ps.map pr)]=some (.int ((ps.map pr).length:Int)):=rfl
  rw [this,List.length_map,hr]
 have s1:acr (.int (r:Int)) (.int 1)=some (.int ((r:Int) - 1)):=rfl
 have s2:acr (.int ((r:Int) - 1)) (.int (j:Int))=some (.int ((r - 1 - j:Nat):Int)):=by
  show some (PyData.int ((r:Int) - 1 - (j:Int)))=_
  congr 2; omega
 have gd:acP [.int b,.int n,.int ((r - 1 - j:Nat):Int)]=some (.int d):=by rw [hd]; exact ais hb a9 (by omega)
 simp only [aai]
 refine ajn (d:= .int ((r - 1 - j:Nat):Int)) rfl m4 (jL (jL (jR rfl ln) rfl s1) rfl s2) rfl ?_
 refine qX (qG (jR rfl gd)) ?_
 refine qX (qG (d:= .list []) rfl) ?_
 refine qX (qG (d:= .int (j:Int)) rfl) ?_
 have W:=aqs H h hne (S:=S) (N:=some (.int n)) (F:=some (.list acc)) (x6:=some (.int (j:Int))) (x7:=some (.int ((r - 1 - j:Nat):Int))) (j+1) 10 d ps [] μ
 rw [show (((j+1:Nat):Int) - 1)=(j:Int) by omega] at W
 refine arK (W _ (by omega) (by omega) (by omega) hk hw d0 d1 dv1 m3 m4 (by show 0+(j+1)<1000; omega) fun dg' at' μ' k3 k4=>?_)
 obtain ⟨pre,st⟩:=adT hw (j+1) d (by rw [List.length_map]; omega) d0 d1 dv1
 have cl:=st.few
 have kk:=k (some dg') (some at') (some (.list ((tk b (ps.map (wt e)) (j+1) d).map (zU (jj u e l b))++[]))) μ' k3 k4
 generalize tk b (ps.map (wt e)) (j+1) d=cs at kk cl
 have ad:zh (.list acc) (.list (cs.map (zU (jj u e l b))++[]))=some (.list (acc++cs.map (zU (jj u e l b)))):=by
  show (if few (acc++(cs.map (zU (jj u e l b))++[]))=true then some (PyData.list (acc++(cs.map (zU (jj u e l b))++[]))) else none)=_
  rw [List.append_nil,if_pos (jZ (by rw [List.length_append,List.length_map]; omega))]
 exact qX (qG (jL rfl rfl ad)) kk
end
section
variable {u e l b:Int}
theorem ahh (h:okN u e l b=true):∀ (ps:PL) (x:OP),ps.all (okP u l)=true->jX (jH 0) aaS (op2 zh (op2 zp (op2 dIx (lkp 0) (cst (.int 0))) (op2 dIx (lkp 1) (cst (.int 1)))) (op2 dIx (lkp 0) (cst (.int 1)))) (ps.map pr) [x,some (jj u e l b)]=some ((ps.map (wt e)).map .int)
 | [],_,_=>rfl
 | p::ps,x,hk=>by
  obtain ⟨a1,a2,a3,a4,a5,a6,a7,a8,a9,a10⟩:=jN h
  have hp:=List.all_eq_true.mp hk p List.mem_cons_self
  obtain ⟨q1,q2,q3,q4⟩:=zI hp
  have ih:=ahh h ps (some (pr p)) (List.all_eq_true.mpr fun y hy=>List.all_eq_true.mp hk y (List.mem_cons_of_mem _ hy))
  have mu:zp (.int p.1) (.int e)=some (.int (p.1*e)):=qx ⟨by omega,by omega⟩
  have f1:op2 zh (op2 zp (op2 dIx (lkp 0) (cst (.int 0))) (op2 dIx (lkp 1) (cst (.int 1)))) (op2 dIx (lkp 0) (cst (.int 1))) [some (pr p),some (jj u e l b)]=some (.int (wt e p)):=jL (jL (jL rfl rfl rfl) (jL rfl rfl rfl) mu) (jL rfl rfl rfl) rfl
  show jX _ _ _ (pr p::ps.map pr) _=_
  rw [jX]
  simp only [jH,zzG,zzD,aaS,zzM,f1,ih,zzE]
  rfl
structure Iv (u e l b:Int) (a3 a4:Addr) (S:PyData) (n:Int) (r:Nat) (tot:List (Nat × Int)) (fin:PL) (j:Nat) (ρ:Rho) (μ:jP):Prop where
 ex:∃ (ps:PL) (acc:List (Nat × Int)) (x6 x7 x8 x9 x10:OP),ρ=[some (jj u e l b),some S,some (.int n),some (zz a3),some (zz a4),some (.list (acc.map (zU (jj u e l b)))),x6,x7,x8,x9,x10]/\μ a3=some (.lst ((ps.map (wt e)).map .int))/\μ a4=some (.lst (ps.map pr))/\
  ps.length=r/\ps.all (okP u l)=true/\okG b (ps.map (wt e))/\Can b ((dgl b r n).drop j) j (ps.map (wt e))/\acc++Qm b ((dgl b r n).drop j) j (ps.map (wt e))=tot/\qz (jj u e l b) (Qm b ((dgl b r n).drop j) j (ps.map (wt e))) ps=fin/\acc.length<=10*j
theorem aqv (H:qp=true) (h:okN u e l b=true) {a3 a4:Addr} (hne:a3 ≠ a4) {S:PyData}{n:Int}{r:Nat}{tot:List (Nat × Int)}{fin:PL} (h4:r<=4) (n0:0<=n) (hn:n<b ^ r) {j:Nat}{ρ:Rho}{μ:jP}{R:OutC->jP->Prop} (hj:j<r) (I:Iv u e l b a3 a4 S n r tot fin j ρ μ) (k:∀ ρ' μ',Iv u e l b a3 a4 S n r tot fin (j+1) ρ' μ'->R (.nx ρ') μ'):
  ∃ ρ1,jH 6 (.int (j:Int)) ρ=some ρ1/\aai.1 ρ1 μ R:=by
 obtain ⟨ps,acc,x6,x7,x8,x9,x10,rfl,m3,m4,hr,hk,hw,hc,ht,hf,ha⟩:=I.ex
 obtain ⟨a1,a2,a3',a4',a5,a6,a7,a8,a9,a10⟩:=jN h
 have hb:0<b:=by omega
 have hd:=aqt hb n0 hn hj
 rw [aeS hd] at hc ht hf
 generalize hdd:n / b ^ (r - 1 - j) % b=d at hd hc ht hf
 obtain ⟨⟨d0,d1,dle⟩,ok',hc'⟩:=hc
 obtain ⟨pre,st⟩:=adT hw (j+1) d (by rw [List.length_map]; omega) d0 d1 dle
 have wa:(qz (jj u e l b) (tk b (ps.map (wt e)) (j+1) d) ps).map (wt e)=JV (tk b (ps.map (wt e)) (j+1) d) (ps.map (wt e)):=af3 _ _ fun c hc=>(qL H h (st.lt c hc).2.1 (st.lt c hc).2.2).2.1
 refine ⟨_,rfl,aqu H h hne hr h4 hj hk hw hdd.symm d0 d1 dle m3 m4 (by rw [List.length_map]; omega) fun dg' at' row' μ' k3 k4=>?_⟩
 have lt:=st.lt
 have cl:=st.few
 rw [Qm] at ht hf
 generalize tk b (ps.map (wt e)) (j+1) d=cs at*
 rw [←wa] at ok' hc' k3 ht hf
 rw [←List.map_append]
 refine k _ _ ⟨qz (jj u e l b) cs ps,acc++cs,_,_,_,_,_,rfl,k3,k4,by rw [ab9]; exact hr,adP H h cs ps (fun c hc=>(lt c hc).2) hk,ok',hc',by rw [List.append_assoc]; exact ht,by rw [←ab8]; exact hf,by rw [List.length_append]; omega⟩
theorem ahi (H:qp=true) (h:okN u e l b=true) {ps:PL} (hs:okS u l ps=true) {n:Int} (hw:okG b (ps.map (wt e))) (n0:0<=n) (hn:n<b ^ ps.length) (hc:Can b (dgl b ps.length n) 0 (ps.map (wt e))) {μ:jP}{R:Res PyData->jP->Prop}
  (k:∀ μ',R (.ok (.tuple [.list ((Qm b (dgl b ps.length n) 0 (ps.map (wt e))).map (zU (jj u e l b))),jC (qz (jj u e l b) (Qm b (dgl b ps.length n) 0 (ps.map (wt e))) ps)])) μ'):JS [jj u e l b,jC ps,.int n] μ R:=by
 obtain ⟨h1,h4,hk⟩:=zJ hs
 show abq.1 [some (jj u e l b),some (jC ps),some (.int n),none,none,none,none,none,none,none,none] μ (amb R)
 simp only [abq]
 have fw:few (ps.map pr)=true:=jZ (by rw [List.length_map]; omega)
 refine ⟨_,abC (ds:=ps.map pr) rfl fw (ahh h ps none hk),fun a3 f3=>?_⟩
 refine ⟨ps.map pr,rfl,fun a4 f4=>?_⟩
 have hne:a3 ≠ a4:=fun q=>by
  subst q
  rw [qA] at f4; cases f4
 refine qX (qG (d:= .list []) rfl) ?_
 have ln:Ja [.list (ps.map pr)]=some (.int (ps.length:Int)):=by
  have:Ja [.list (ps.map pr)]=some (.int ((ps.map pr).length:Int)):=rfl
  rw [this,List.length_map]
 have rg:Jp [.int (ps.length:Int)]=some (qP 0 ps.length):=adI (by omega)
 refine arK ⟨a4,_,_,rfl,qA,jR rfl ln,rfl,[],rfl,_,rfl,_,rg,?_⟩
 refine aeZ (Iv u e l b a3 a4 (jC ps) n ps.length (Qm b (dgl b ps.length n) 0 (ps.map (wt e))) (qz (jj u e l b) (Qm b (dgl b ps.length n) 0 (ps.map (wt e))) ps)) _ 0 _ _ ⟨ps,[],none,none,none,none,none,rfl,(ZV hne).trans qA,qA,rfl,hk,hw,hc,rfl,rfl,Nat.zero_le _⟩ ?_ ?_
 ·intro i d ρ μ R' hd hi kk
  obtain ⟨hi',rfl⟩:=abA hd
  rw [Nat.zero_add] at hi kk
  exact aqv H h hne h4 n0 hn hi' hi kk
 ·intro ρ' μ' I
  rw [Nat.zero_add,JU] at I
  obtain ⟨ps',acc,x6,x7,x8,x9,x10,rfl,m3,m4,hr,hk',hw',hc',ht,hf,ha⟩:=I.ex
  have dn:(dgl b ps.length n).drop ps.length=[]:=List.drop_of_length_le (by rw [Qf]; exact Nat.le_refl _)
  rw [dn] at ht hf
  rw [show Qm b [] ps.length (ps'.map (wt e))=[] from rfl,List.append_nil] at ht
  rw [show qz (jj u e l b) (Qm b [] ps.length (ps'.map (wt e))) ps'=ps' from rfl] at hf
  subst ht; subst hf
  have tt:∀ q:PL,Zv [.list (q.map pr)]=some (jC q):=fun _=>rfl
  have nl:∀ q:PL,noL (jC q)=true:=fun q=>Zu fun d hd=>by
   obtain ⟨p,_,rfl⟩:=List.mem_map.mp hd
   simp [pr,noL,noLs]
  exact ⟨_,rfl,a4,_,_,rfl,m4,jR rfl (tt _),nl _,_,rfl,_,rfl,_,rfl,_,rfl,k μ'⟩
end
theorem abD:qK [Jw "NoManner"]=some (rfd 0):=by kernel_rfl
theorem abE:("NoManner":Str) ∈ qQ:=by decide
theorem Qn:qK [Jw "NoSetting"]=some (rfd 1):=by kernel_rfl
theorem Qo:("NoSetting":Str) ∈ qQ:=by decide
theorem JG:qK [Jw "NoNumber"]=some (rfd 2):=by kernel_rfl
theorem JH:("NoNumber":Str) ∈ qQ:=by decide
theorem Zc:qK [Jw "TooGreat"]=some (rfd 4):=by kernel_rfl
theorem Zd:("TooGreat":Str) ∈ qQ:=by decide
theorem aam {α:Type} (x:Unit->Option α):(none:Option α).orElse x=x ():=rfl
theorem aan {α:Type} (a:α) (x:Unit->Option α):(some a).orElse x=some a:=rfl
theorem akx:dIx (.list [fnD "taking",fnD "taken"]) (.int 0)=some (fnD "taking"):=rfl
theorem aky:dIx (.list [fnD "taking",fnD "taken"]) (.int 1)=some (fnD "taken"):=rfl
theorem wl0:qJ (fun i j=>decide (i<j)) (.int 0) (.int 2)=some (.bool true):=rfl
theorem wl1:qJ (fun i j=>decide (i<j)) (.int 1) (.int 2)=some (.bool true):=rfl
theorem wl2:qJ (fun i j=>decide (i<j)) (.int 2) (.int 2)=some (.bool false):=rfl
theorem akz:Zg "taking" (fnD "taken")=false:=by decide
theorem akA:Zg "taken" (fnD "taking")=false:=by decide
theorem arN {m s t d:PyData} (g:zy [m,s,t]=some d):jY [.int 0,m,s,t]=some d:=by
 refine jW rfl ?_
 show zR.1 [some (.int 0),some m,some s,some t,none]=_
 dsimp? [zR,Zx,akx,aky,wl0,wl1,wl2,akz,akA,zC,aam,aan,orD,adp,Zy,fw2,g]
theorem af4 {m s t d:PyData}{c:Str} (g:zy [m,s,t]=none) (x:JD [m,s,t]=some c) (hc:c ∈ qQ) (hr:qK [Jw c]=some d):jY [.int 0,m,s,t]=some d:=by
 refine jW rfl ?_
 show zR.1 [some (.int 0),some m,some s,some t,none]=_
 have hb:lkp 4 ((aaq 5).set 4 (some (Jw c)))=some (Jw c):=rfl
 unfold lkp at hb
 dsimp? [zR,Zx,akx,aky,wl0,wl1,wl2,akz,akA,zC,aam,aan,orD,adp,Zy,fw2,g,x,hc,hb,hr]
theorem arO {m s t d:PyData} (g:ZB [m,s,t]=some d):jY [.int 1,m,s,t]=some d:=by
 refine jW rfl ?_
 show zR.1 [some (.int 1),some m,some s,some t,none]=_
 dsimp? [zR,Zx,akx,aky,wl0,wl1,wl2,akz,akA,zC,aam,aan,orD,adp,Zy,fw2,g]
theorem ait {m s t d:PyData}{c:Str} (g:ZB [m,s,t]=none) (x:afR [m,s,t]=some c) (hc:c ∈ qQ) (hr:qK [Jw c]=some d):jY [.int 1,m,s,t]=some d:=by
 refine jW rfl ?_
 show zR.1 [some (.int 1),some m,some s,some t,none]=_
 have hb:lkp 4 ((aaq 5).set 4 (some (Jw c)))=some (Jw c):=rfl
 unfold lkp at hb
 dsimp? [zR,Zx,akx,aky,wl0,wl1,wl2,akz,akA,zC,aam,aan,orD,adp,Zy,fw2,g,x,hc,hb,hr]
theorem arP {m s t d:PyData} (g:zQ [m,s]=some d):jY [.int 2,m,s,t]=some d:=by
 refine jW rfl ?_
 show zR.1 [some (.int 2),some m,some s,some t,none]=_
 dsimp? [zR,Zx,akx,aky,wl0,wl1,wl2,akz,akA,zC,aam,aan,orD,adp,Zy,fw2,g]
theorem aqw {m s t d:PyData}{c:Str} (g:zQ [m,s]=none) (x:Qk [m,s]=some c) (hc:c ∈ qQ) (hr:qK [Jw c]=some d):jY [.int 2,m,s,t]=some d:=by
 refine jW rfl ?_
 show zR.1 [some (.int 2),some m,some s,some t,none]=_
 have hb:lkp 4 ((aaq 5).set 4 (some (Jw c)))=some (Jw c):=rfl
 unfold lkp at hb
 dsimp? [zR,Zx,akx,aky,wl0,wl1,wl2,akz,akA,zC,aam,aan,orD,adp,Zy,fw2,g,x,hc,hb,hr]
section
variable {m s t d C r x y:PyData}{c:Str}
theorem aoB (g:agU [m,r,x,y]=some d):j4 [m,r,x,y]=some d:=by
 refine jW rfl ?_
 show Jh.1 [some m,some r,some x,some y,none]=_
 dsimp? [Jh,Zx,g]
theorem adV (g:agU [m,r,x,y]=none) (t:akj [m,r,x,y]=some c) (hc:c ∈ qQ) (hr:qK [Jw c]=some d):j4 [m,r,x,y]=some d:=by
 refine jW rfl ?_
 show Jh.1 [some m,some r,some x,some y,none]=_
 have hb:lkp 4 ((aaq 5).set 4 (some (Jw c)))=some (Jw c):=rfl
 unfold lkp at hb
 dsimp? [Jh,Zx,g,t,hc,hb,hr]
theorem aoC (g:zw [m,s]=none) (x:Jl [m,s]=some c):zQ [m,s]=none/\Qk [m,s]=some c:=by
 constructor
 ·simp [zQ,jv,adz,jE,jM,aaQ,jy,jk,jr,lkp,g]
 ·refine j7 rfl ?_
  show abY.1 [some m,some s,none]=_
  simp [abY,jy,jk,jr,lkp,x]
theorem af5 (x:Jl [m,s]=none):Qk [m,s]=none:=by
 refine j7 rfl ?_
 show abY.1 [some m,some s,none]=_
 simp [abY,jy,jk,jr,lkp,x]
theorem aqx (g:zQ [m,s]=some (.bool true)) (g2:qU [t]=some .none) (g3:aaa [m,s,t]=some .none) (g4:gCT [m,s,t,fnD "digit_taken"]=some C):zy [m,s,t]=some C:=by
 refine jW rfl ?_
 show zx.1 [some m,some s,some t]=_
 dsimp? [zx,g,g2,g3,g4]
theorem arQ (g:zQ [m,s]=none) (x:Qk [m,s]=some c):zy [m,s,t]=none/\JD [m,s,t]=some c:=by
 constructor
 ·refine JF ?_
  show zx.1 [some m,some s,some t]=_
  dsimp? [zx,g]
 ·refine j7 rfl ?_
  show Jm.1 [some m,some s,some t]=_
  dsimp? [Jm,g,x]
theorem aqy (g:zQ [m,s]=some (.bool false)) (x:Qk [m,s]=none):zy [m,s,t]=none/\JD [m,s,t]=some ("NoSetting":Str):=by
 constructor
 ·refine JF ?_
  show zx.1 [some m,some s,some t]=_
  dsimp? [zx,g]
 ·refine j7 rfl ?_
  show Jm.1 [some m,some s,some t]=_
  dsimp? [Jm,g,x]
theorem arR (g:zQ [m,s]=some (.bool true)) (x:Qk [m,s]=none) (g2:qU [t]=none) (x2:JC [t]=some c):zy [m,s,t]=none/\JD [m,s,t]=some c:=by
 constructor
 ·refine JF ?_
  show zx.1 [some m,some s,some t]=_
  dsimp? [zx,g,g2]
 ·refine j7 rfl ?_
  show Jm.1 [some m,some s,some t]=_
  dsimp? [Jm,g,x,g2,x2]
theorem arS (g:zQ [m,s]=some (.bool true)) (x:Qk [m,s]=none) (g2:qU [t]=some .none) (x2:JC [t]=none) (g3:aaa [m,s,t]=none) (x3:abj [m,s,t]=some c):zy [m,s,t]=none/\JD [m,s,t]=some c:=by
 constructor
 ·refine JF ?_
  show zx.1 [some m,some s,some t]=_
  dsimp? [zx,g,g2,g3]
 ·refine j7 rfl ?_
  show Jm.1 [some m,some s,some t]=_
  dsimp? [Jm,g,x,g2,x2,g3,x3]
theorem amR (g:zy [m,s,t]=some C) (g2:ah9 [s,C]=some d):ZB [m,s,t]=some d:=by
 simp [ZB,jv,afN,jE,jM,qq,jy,jk,jr,lkp,g,g2]
theorem af6 (g:zy [m,s,t]=none) (x:JD [m,s,t]=some c):ZB [m,s,t]=none/\afR [m,s,t]=some c:=by
 constructor
 ·simp [ZB,jv,afN,jE,jM,qq,jy,jk,jr,lkp,g]
 ·refine j7 rfl ?_
  show afQ.1 [some m,some s,some t]=_
  simp [afQ,anM,jy,jk,jr,lkp,x]
theorem ao2 (g:Jd [m,r,x]=none) (t:Q7 [m,r,x]=some c):agU [m,r,x,y]=none/\akj [m,r,x,y]=some c:=by
 constructor
 ·refine JF ?_
  show ad7.1 [some m,some r,some x,some y,none,none,none,none]=_
  dsimp? [ad7,g]
 ·refine j7 rfl ?_
  show agV.1 [some m,some r,some x,some y,none,none,none,none]=_
  dsimp? [agV,t]
theorem ao3 (g:Jd [m,r,x]=some .none) (t:Q7 [m,r,x]=none) (hw:jU [y,.int 1,.int 99999]=some (.bool false)):agU [m,r,x,y]=none/\akj [m,r,x,y]=some ("NoNumber":Str):=by
 constructor
 ·refine JF ?_
  show ad7.1 [some m,some r,some x,some y,none,none,none,none]=_
  dsimp? [ad7,g,hw]
 ·refine j7 rfl ?_
  show agV.1 [some m,some r,some x,some y,none,none,none,none]=_
  dsimp? [agV,g,t,hw]
theorem arT (g:Jd [m,r,x]=some .none) (t:Q7 [m,r,x]=none) (hw:jU [y,.int 1,.int 99999]=some (.bool true)) (p:Z5 [m,r,x]=none) (tp:acI [m,r,x]=some c):agU [m,r,x,y]=none/\akj [m,r,x,y]=some c:=by
 constructor
 ·refine JF ?_
  show ad7.1 [some m,some r,some x,some y,none,none,none,none]=_
  dsimp? [ad7,g,hw,p]
 ·refine j7 rfl ?_
  show agV.1 [some m,some r,some x,some y,none,none,none,none]=_
  dsimp? [agV,g,t,hw,tp]
theorem aoD (g:Jc [m]=some .none) (x:ZC [m]=none) (g2:zr [r]=some .none) (x2:ZD [r]=none) (x3:JC [s]=none):Q7 [m,r,s]=none:=by
 refine j7 rfl ?_
 show ZE.1 [some m,some r,some s]=_
 dsimp? [ZE,g,x,g2,x2,x3]
end
section
variable {u e l b:Int}{ps:PL}
theorem amS:val b e ps=dv b (ps.map (wt e)):=by
 unfold val dv
 rw [List.foldl_map]
theorem ae1 (h:okN u e l b=true) (hk:ps.all (okP u l)=true) (hs:small b e ps=true):okG b (ps.map (wt e)):=fun d hd=>by
 obtain ⟨a1,a2,a3,a4,a5,a6,a7,a8,a9,a10⟩:=jN h
 obtain ⟨p,hp,rfl⟩:=List.mem_map.mp hd
 have:=List.all_eq_true.mp hs p hp
 exact ⟨amC a3 (List.all_eq_true.mp hk p hp),by simpa using this⟩
noncomputable def tkD (M:PyData) (b e:Int) (ps:PL) (n:Int):LP:=[.list ((Qm b (dgl b ps.length n) 0 (ps.map (wt e))).map (zU M)),jC (qz M (Qm b (dgl b ps.length n) 0 (ps.map (wt e))) ps)]
theorem ahj (H:qp=true) (h:okN u e l b=true) (hs:okS u l ps=true) (hw:okG b (ps.map (wt e))) {n:Int} (n0:0<=n) (hn:n<=val b e ps):n<b ^ ps.length/\Can b (dgl b ps.length n) 0 (ps.map (wt e)):=by
 obtain ⟨a1,a2,a3,a4,a5,a6,a7,a8,a9,a10⟩:=jN h
 have hb:0<b:=by omega
 obtain ⟨h1,h4,hk⟩:=zJ hs
 have r1:=aaL hb _ hw
 rw [List.length_map,←amS] at r1
 have hlt:n<b ^ ps.length:=by omega
 refine ⟨hlt,amP hb _ 0 _ hw (fun d hd=>abx hb _ n n0 hlt d hd) (by rw [Qf,List.length_map,Nat.zero_add]) ?_⟩
 rw [aqd H h h1 n0 hlt,←amS]
 exact hn
theorem amT (hw:okG b (ps.map (wt e))):∀ (ds:List Int) (i:Nat) (ws:List Int),okG b ws->i+ds.length=ws.length->Can b ds i ws->∀ c ∈ Qm b ds i ws,c.1<ws.length
 | [],_,_,_,_,_,c,hc=>nomatch hc
 | d::ds,i,ws,hk,hl,hcan,c,hc=>by
  rw [List.length_cons] at hl
  obtain ⟨⟨d0,d1,dle⟩,ok',hc'⟩:=hcan
  obtain ⟨pre,st⟩:=adT hk (i+1) d (by omega) d0 d1 dle
  rw [Qm] at hc
  rcases List.mem_append.mp hc with z | z
  ·have:=(st.lt c z).1; omega
  ·have:=amT hw ds (i+1) _ ok' (by rw [abB]; omega) hc' c z
   rw [abB] at this; exact this
theorem aoE (H:qp=true) (h:okN u e l b=true) (hs:okS u l ps=true) (sm:small b e ps=true) {n:Int} (n0:0<=n) (n1:n<=99999) (hn:n<=val b e ps):
  jY [.int 0,jj u e l b,jC ps,.int n]=some (.list ((Qm b (dgl b ps.length n) 0 (ps.map (wt e))).map (zU (jj u e l b))))/\jY [.int 1,jj u e l b,jC ps,.int n]=some (jC (qz (jj u e l b) (Qm b (dgl b ps.length n) 0 (ps.map (wt e))) ps)):=by
 obtain ⟨h1,h4,hk⟩:=zJ hs
 have hw:=ae1 h hk sm
 obtain ⟨hlt,hc⟩:=ahj H h hs hw n0 hn
 have gs:=QM H h hs
 rw [sm] at gs
 obtain ⟨gn,xn⟩:=aio (i:=n) ⟨n0,n1⟩
 have g:=afY h h4 hk
 have ct:=arL H h (n:=n) rfl h1 h4 hk hw hc
 have tk:=aqx gs gn (akw g hn).1 ct
 refine ⟨arN tk,arO (amR tk (ahe fun c hc'=>?_))⟩
 have:=amT hw _ 0 _ hw (by rw [Qf,List.length_map,Nat.zero_add]) hc c hc'
 rw [List.length_map] at this; exact this
theorem aoF (H:qp=true) (h:okN u e l b=true) (hs:okS u l ps=true) (sm:small b e ps=true) {n:Int} (n0:0<=n) (n1:n<=99999) (hn:val b e ps<n):jY [.int 0,jj u e l b,jC ps,.int n]=some (rfd 4)/\jY [.int 1,jj u e l b,jC ps,.int n]=some (rfd 4):=by
 obtain ⟨h1,h4,hk⟩:=zJ hs
 have gs:=QM H h hs
 rw [sm] at gs
 have ts:=af5 (ck2 H h hs).2
 obtain ⟨gn,xn⟩:=aio (i:=n) ⟨n0,n1⟩
 have g:=afY h h4 hk
 obtain ⟨e1,e2⟩:=akv g hn
 obtain ⟨p1,p2⟩:=arS gs ts gn xn e1 e2
 obtain ⟨q1,q2⟩:=af6 p1 p2
 exact ⟨af4 p1 p2 Zd Zc,ait q1 q2 Zd Zc⟩
theorem aoG (H:qp=true) (h:okN u e l b=true) (hs:okS u l ps=true) (sm:small b e ps=false) (t:PyData):jY [.int 0,jj u e l b,jC ps,t]=some (rfd 1)/\jY [.int 1,jj u e l b,jC ps,t]=some (rfd 1):=by
 have gs:=QM H h hs
 rw [sm] at gs
 have ts:=af5 (ck2 H h hs).2
 obtain ⟨p1,p2⟩:=aqy (t:=t) gs ts
 obtain ⟨q1,q2⟩:=af6 p1 p2
 exact ⟨af4 p1 p2 Qo Qn,ait q1 q2 Qo Qn⟩
theorem aoH (H:qp=true) (h:okN u e l b=true) (hs:okS u l ps=true) (t:PyData):jY [.int 2,jj u e l b,jC ps,t]=some (.bool (small b e ps)):=arP (QM H h hs)
theorem asD (H:qp=true) (h:okN u e l b=true) (hs:okS u l ps=true) (sm:small b e ps=true) {d:PyData} (hd:noD d=true) (w:whB 0 99999 d=false):jY [.int 0,jj u e l b,jC ps,d]=some (rfd 2):=by
 have gs:=QM H h hs
 rw [sm] at gs
 have ts:=af5 (ck2 H h hs).2
 obtain ⟨g2,x2⟩:=amM hd w
 obtain ⟨p1,p2⟩:=arR gs ts g2 x2
 exact af4 p1 p2 JH JG
theorem arU {M s t d:PyData}{c:Str} (g:zw [M,s]=none) (x:Jl [M,s]=some c) (hc:c ∈ qQ) (hr:qK [Jw c]=some d):jY [.int 0,M,s,t]=some d/\jY [.int 1,M,s,t]=some d/\jY [.int 2,M,s,t]=some d:=by
 obtain ⟨s1,s2⟩:=aoC g x
 obtain ⟨a1,a2⟩:=arQ (t:=t) s1 s2
 obtain ⟨b1,b2⟩:=af6 a1 a2
 exact ⟨af4 a1 a2 hc hr,ait b1 b2 hc hr,aqw s1 s2 hc hr⟩
theorem asE (H:qp=true) (h:okN u e l b=true) {d t:PyData} (hd:noD d=true) (hs:ab4 u l d=false):jY [.int 0,jj u e l b,d,t]=some (rfd 1)/\jY [.int 1,jj u e l b,d,t]=some (rfd 1)/\jY [.int 2,jj u e l b,d,t]=some (rfd 1):=by
 obtain ⟨g,x⟩:=aqk H h hd hs
 exact arU g x Qo Qn
theorem asF (u e:Int) (s t r x y:PyData):(jY [.int 0,.tuple [.int u,.int e],s,t]=some (rfd 0)/\jY [.int 1,.tuple [.int u,.int e],s,t]=some (rfd 0)/\jY [.int 2,.tuple [.int u,.int e],s,t]=some (rfd 0))/\j4 [.tuple [.int u,.int e],r,x,y]=some (rfd 0):=by
 have hM:j6 [.tuple [.int u,.int e]]=some (.bool false):=rfl
 refine ⟨arU (ag7 hM) (ag8 hM) abE abD,?_⟩
 obtain ⟨a1,a2⟩:=aox (r:=r) (n:=x) (aeT hM) (aeU hM)
 obtain ⟨p1,p2⟩:=ao2 (y:=y) a1 a2
 exact adV p1 p2 abE abD
theorem aqz (H:qp=true) (h:okN u e l b=true) {r n:Int} (h1:1<=r) (h4:r<=4) (h0:0<=n) (hn:n<=99999):Jd [jj u e l b,.int r,.int n]=some .none/\Q7 [jj u e l b,.int r,.int n]=none:=by
 obtain ⟨r2,t2⟩:=ajg (i:=r) ⟨h1,h4⟩
 obtain ⟨g2,x2⟩:=aio (i:=n) ⟨h0,hn⟩
 exact ⟨aeR H h h1 h4 h0 hn,aoD (Ji (ag0 H h)) (ab6 (ag0 H h)) r2 t2 x2⟩
theorem aqA (H:qp=true) (h:okN u e l b=true) {d:PyData} (hd:noD d=true) (w:whB 0 99999 d=false) (w4:whB 1 99999 d=false):j4 [jj u e l b,.int 2,d,.int 1]=some (rfd 2)/\j4 [jj u e l b,.int 2,.int 1,d]=some (rfd 2):=by
 have g:=Ji (ag0 H h)
 have x:=ab6 (ag0 H h)
 obtain ⟨g2,x2⟩:=amM hd w
 obtain ⟨r2,t2⟩:=ajg (i:=2) ⟨by omega,by omega⟩
 obtain ⟨p1,p2⟩:=aoy g x r2 t2 g2 x2
 obtain ⟨q1,q2⟩:=ao2 (y:= .int 1) p1 p2
 obtain ⟨k1,k2⟩:=aqz H h (r:=2) (n:=1) (by omega) (by omega) (by omega) (by omega)
 have gw:=Jv d hd 1 99999
 rw [w4] at gw
 obtain ⟨m1,m2⟩:=ao3 k1 k2 gw
 exact ⟨adV q1 q2 JH JG,adV m1 m2 JH JG⟩
theorem ao4 (H:qp=true) (h:okN u e l b=true) {y:Int} (w4:whB 1 99999 (.int y)=false):j4 [jj u e l b,.int 2,.int 1,.int y]=some (rfd 2):=by
 obtain ⟨k1,k2⟩:=aqz H h (r:=2) (n:=1) (by omega) (by omega) (by omega) (by omega)
 have gw:=Jv (.int y) rfl 1 99999
 rw [w4] at gw
 obtain ⟨m1,m2⟩:=ao3 k1 k2 gw
 exact adV m1 m2 JH JG
end
noncomputable def qr (b y:Int):Nat->Int->List (Int × Int)
 | 0,_=>[]
 | k+1,x=>(x / (y*b ^ k),x % (y*b ^ k))::qr b y k (x % (y*b ^ k))
noncomputable def Jz (M:PyData) (b:Int) (r:Nat) (p:Int × Int):PyData:= .tuple [.int p.1,jC (pln M b r p.2)]
theorem aqB (q:PL):noL (jC q)=true:=Zu fun d hd=>by
 obtain ⟨p,_,rfl⟩:=List.mem_map.mp hd
 simp [pr,noL,noLs]
theorem amU (M:PyData) (b:Int) (r:Nat) (p:Int × Int):noL (Jz M b r p)=true:=by
 have:=aqB (pln M b r p.2)
 simp only [Jz,noL,noLs,this,Bool.and_true]
section
variable {u e l b:Int}
theorem aqC (h0:0<b) (h:b<=16) {k:Nat} (hk:k<=3):b ^ k<=4096:=by
 have:=amz h0 h k
 have:k=0 ∨ k=1 ∨ k=2 ∨ k=3:=by omega
 rcases this with rfl | rfl | rfl | rfl <;> first | omega | (simp at *; omega)
theorem af7 (h0:0<b) (h:b<=16) {y:Int} (y1:1<=y) (y2:y<=99999) {k:Nat} (hk:k<=3):0<y*b ^ k/\y*b ^ k<1000000000:=by
 have pp:=JT h0 k
 have m9:y*b ^ k<=99999*4096:=Int.mul_le_mul y2 (aqC h0 h hk) (by omega) (by omega)
 exact ⟨Int.mul_pos (by omega) pp,by omega⟩
theorem ahk (H:qp=true) (h:okN u e l b=true) {r:Nat} (h1:1<=r) (h4:r<=4) {y:Int} (y1:1<=y) (y2:y<=99999) {N:OP}:∀ (k:Nat) (x:Int) (acc:LP) (x6 x7:OP),k<=4->0<=x->x<b ^ r->acc.length+k<1000->
  ∃ z y6 y7,j0 (jH 6) abV.1 ((plc b k).map .int) [some (jj u e l b),some (.int (r:Int)),N,some (.int y),some (jC (pln (jj u e l b) b r x)),some (.list acc),x6,x7]=some (.nx [some (jj u e l b),some (.int (r:Int)),N,some (.int y),z,some (.list (acc++(qr b y k x).map (Jz (jj u e l b) b r))),y6,y7])
 | 0,x,acc,x6,x7,_,_,_,_=>⟨_,_,_,by rw [show (qr b y 0 x).map (Jz (jj u e l b) b r)=[] from rfl,List.append_nil]; rfl⟩
 | k+1,x,acc,x6,x7,hk,x0,x1,hl=>by
  obtain ⟨a1,a2,a3,a4,a5,a6,a7,a8,a9,a10⟩:=jN h
  have hb:0<b:=by omega
  obtain ⟨m0,m9⟩:=af7 hb a9 y1 y2 (k:=k) (by omega)
  have e0:0<=x % (y*b ^ k):=Int.emod_nonneg _ (by omega)
  have e1:x % (y*b ^ k)<=x:=adJ x0 (by omega)
  obtain ⟨z,y6,y7,ih⟩:=ahk H h h1 h4 y1 y2 (N:=N) k (x % (y*b ^ k)) (acc++[Jz (jj u e l b) b r (x / (y*b ^ k),x % (y*b ^ k))]) (some (.int (b ^ k))) (some (.int x)) (by omega) e0 (by omega) (by rw [List.length_append,List.length_singleton]; omega)
  refine ⟨z,y6,y7,?_⟩
  have po:=aqa H h h1 h4 x0 x1
  obtain ⟨p1,p4,pk⟩:=zJ po
  have gn:=afY h p4 pk
  rw [afX H h r x h1 x0 x1] at gn
  have st:=aqg (m:=jj u e l b) (now:=jC (pln (jj u e l b) b r x)) (now':=jC (pln (jj u e l b) b r (x % (y*b ^ k)))) (R:=none) (Y:=none) (N:=N) (rr:=(r:Int)) (y:=y) (p:=b ^ k) (left:=x) (acc:=acc) (x7:=x7) gn (qx ⟨by omega,by omega⟩) m0 (by omega) (adH H h h1 h4 e0 (by omega)) (amU (jj u e l b) b r (x / (y*b ^ k),x % (y*b ^ k))) (by omega)
  show j0 (jH 6) abV.1 (.int (b ^ k)::(plc b k).map .int) _=_
  rw [j0]
  simp only [jH,zzF,zzG,zzD,st]
  have e9:(qr b y (k+1) x).map (Jz (jj u e l b) b r)=Jz (jj u e l b) b r (x / (y*b ^ k),x % (y*b ^ k))::(qr b y k (x % (y*b ^ k))).map (Jz (jj u e l b) b r):=rfl
  have e2:acc++Jz (jj u e l b) b r (x / (y*b ^ k),x % (y*b ^ k))::(qr b y k (x % (y*b ^ k))).map (Jz (jj u e l b) b r)=acc++[Jz (jj u e l b) b r (x / (y*b ^ k),x % (y*b ^ k))]++(qr b y k (x % (y*b ^ k))).map (Jz (jj u e l b) b r):=by simp
  rw [e9,e2]
  exact ih
theorem aoI (H:qp=true) (h:okN u e l b=true) {r:Nat} (h1:1<=r) (h4:r<=4) {y x:Int} (y1:1<=y) (y2:y<=99999) (x0:0<=x) (x9:x<=99999) (x1:x<b ^ r):agU [jj u e l b,.int (r:Int),.int x,.int y]=some (.list ((qr b y r x).map (Jz (jj u e l b) b r))):=by
 obtain ⟨a1,a2,a3,a4,a5,a6,a7,a8,a9,a10⟩:=jN h
 obtain ⟨z,y6,y7,lp⟩:=ahk H h h1 h4 y1 y2 (N:=some (.int x)) r x [] none none h4 x0 x1 (by simp; omega)
 have ga:=aeR H h (r:=(r:Int)) (n:=x) (by omega) (by omega) x0 x9
 have gw:jU [.int y,.int 1,.int 99999]=some (.bool true):=by rw [j1]; simp; omega
 have gp:=adH H h h1 h4 x0 x1
 have gl:=aom (show 0<b by omega) a9 h1 h4
 have i3:dIx (jj u e l b) (.int 3)=some (.int b):=rfl
 generalize (r:Int)=rr at*
 rw [List.nil_append] at lp
 generalize (qr b y r x).map (Jz (jj u e l b) b r)=rows at*
 refine jW rfl ?_
 show ad7.1 [some (jj u e l b),some (.int rr),some (.int x),some (.int y),none,none,none,none]=_
 simp only [ad7]
 refine (jK (ρ1:=[some (jj u e l b),some (.int rr),some (.int x),some (.int y),none,none,none,none]) ?_).trans ?_
 ·dsimp? [ga]
 refine (jK (ρ1:=[some (jj u e l b),some (.int rr),some (.int x),some (.int y),none,none,none,none]) ?_).trans ?_
 ·dsimp? [gw]
 refine (jK (ρ1:=[some (jj u e l b),some (.int rr),some (.int x),some (.int y),some (jC (pln (jj u e l b) b r x)),none,none,none]) ?_).trans ?_
 ·dsimp? [gp]
 simp only [aaC,zA,jr,zzD,Q8,zzM,List.length_cons,List.length_nil,zzF,zzG]
 rw [if_pos (by omega)]
 have fr:Zk (fun ρ=>itL (jy aof (jk (op2 dIx (lkp 0) (cst (PyData.int 3))) (jk (lkp 1) jr))) (hid (some 5) ρ)) (jH 6) abV.1 [some (jj u e l b),some (.int rr),some (.int x),some (.int y),some (jC (pln (jj u e l b) b r x)),some (.list []),none,none]=some (.nx [some (jj u e l b),some (.int rr),some (.int x),some (.int y),z,some (.list rows),y6,y7]):=by
  dsimp? [Zk,itL,QS,brw,hid,i3,gl]
  exact lp
 rw [jK fr]
 dsimp? [zzA]
theorem aqD {M:PyData}{n1 n2 y p k:OP}{acc:LP}{f b:Int} (i3:dIx M (.int 3)=some (.int b)) (hf:-1000000000000<f/\f<1000000000000):JJ.1 [some M,n1,n2,y,some (.list acc),p,some (.int f),k]=some (.nx [some M,n1,n2,y,some (.list acc),p,some (.int (f*b)),k]):=by
 have mu:zp (.int f) (.int b)=some (.int (f*b)):=qx hf
 dsimp? [JJ,brw,hid,i3,mu]
theorem aoJ (h0:0<b) (h:b<=16) {y:Int} (y1:1<=y) (y2:y<=99999) {M:PyData} (i3:dIx M (.int 3)=some (.int b)) {n1 n2:OP}{acc:LP}{x7:OP}{k:Nat} (hk:k<=3):
  ∃ x',Zk (fun ρ=>(jk (lkp 5) jr (hid (some 4) ρ)).bind Jp) (jH 7) JJ.1 [some M,n1,n2,some (.int y),some (.list acc),some (.int (k:Int)),some (.int y),x7]=some (.nx [some M,n1,n2,some (.int y),some (.list acc),some (.int (k:Int)),some (.int (y*b ^ k)),x']):=by
 obtain ⟨ρ',lp,x,e1⟩:=ZL (ga:=jH 7) (F:=JJ.1) (fun j ρ=>∃ x,ρ=[some M,n1,n2,some (.int y),some (.list acc),some (.int (k:Int)),some (.int (y*b ^ j)),x]) (qP 0 k) 0 [some M,n1,n2,some (.int y),some (.list acc),some (.int (k:Int)),some (.int y),x7] ⟨x7,by simp⟩ (by
  rintro j d ρ hd ⟨x,rfl⟩
  obtain ⟨hj,_⟩:=abA hd
  obtain ⟨m0,m9⟩:=af7 h0 h y1 y2 (k:=0+j) (by omega)
  refine ⟨_,_,rfl,aqD i3 ⟨by omega,by omega⟩,some d,?_⟩
  rw [Nat.zero_add,Int.pow_succ,←Int.mul_assoc])
 rw [JU,Nat.zero_add] at e1
 subst e1
 refine ⟨x,aiq ?_ lp⟩
 have e0:jk (lkp 5) jr (hid (some 4) [some M,n1,n2,some (.int y),some (.list acc),some (.int (k:Int)),some (.int y),x7])=some [.int (k:Int)]:=rfl
 rw [e0,zzD]
 exact adI (by omega)
theorem amV {M SP:PyData}{rr x y fr k:Int}{acc:LP}{x6 x7 x':OP}
  (ff:Zk (fun ρ=>(jk (lkp 5) jr (hid (some 4) ρ)).bind Jp) (jH 7) JJ.1 [some M,some (.int rr),some (.int x),some (.int y),some (.list acc),some (.int k),some (.int y),x7]=some (.nx [some M,some (.int rr),some (.int x),some (.int y),some (.list acc),some (.int k),some (.int fr),x']))
  (gp:aaf [M,.int rr,.int (x % fr)]=some SP) (nl:noL (.tuple [.int (x / fr),SP])=true) (md:ad1 (.int x) (.int fr)=some (.int (x % fr))) (fd:aaT (.int x) (.int fr)=some (.int (x / fr))) (ha:acc.length<1000000):
  JK.1 [some M,some (.int rr),some (.int x),some (.int y),some (.list acc),some (.int k),x6,x7]=some (.nx [some M,some (.int rr),some (.int (x % fr)),some (.int y),some (.list (acc++[.tuple [.int (x / fr),SP]])),some (.int k),some (.int fr),x']):=by
 have fw:few [PyData.int (x / fr),SP]=true:=jZ (by simp)
 have ap:alB (some (.list acc)) (some (.tuple [.int (x / fr),SP]))=some (.list (acc++[.tuple [.int (x / fr),SP]])):=by
  show (if noL (.tuple [.int (x / fr),SP])=true/\acc.length<1000000 then some (PyData.list (acc++[.tuple [.int (x / fr),SP]])) else none)=_
  rw [if_pos ⟨nl,ha⟩]
 simp only [JK]
 refine (jK (ρ1:=[some M,some (.int rr),some (.int x),some (.int y),some (.list acc),some (.int k),some (.int y),x7]) ?_).trans ?_
 ·dsimp? [brw,hid]
 refine (jK ff).trans ?_
 refine (jK (ρ1:=[some M,some (.int rr),some (.int x),some (.int y),some (.list (acc++[.tuple [.int (x / fr),SP]])),some (.int k),some (.int fr),x']) ?_).trans ?_
 ·dsimp? [agq,apQ,brw,hid,md,fd,gp,fw,ap]
 refine (jK (ρ1:=[some M,some (.int rr),some (.int (x % fr)),some (.int y),some (.list (acc++[.tuple [.int (x / fr),SP]])),some (.int k),some (.int fr),x']) ?_).trans rfl
 dsimp? [brw,hid,md]
theorem amW (H:qp=true) (h:okN u e l b=true) {r:Nat} (h1:1<=r) (h4:r<=4) {y x:Int} (y1:1<=y) (y2:y<=99999) (x0:0<=x) (x1:x<b ^ r) {acc:LP} (ha:acc.length<1000) {k:Nat} (hk:k<=3) {x6 x7:OP}:
  ∃ y6 y7,JK.1 [some (jj u e l b),some (.int (r:Int)),some (.int x),some (.int y),some (.list acc),some (.int (k:Int)),x6,x7]=some (.nx [some (jj u e l b),some (.int (r:Int)),some (.int (x % (y*b ^ k))),some (.int y),some (.list (acc++[Jz (jj u e l b) b r (x / (y*b ^ k),x % (y*b ^ k))])),some (.int (k:Int)),y6,y7]):=by
 obtain ⟨a1,a2,a3,a4,a5,a6,a7,a8,a9,a10⟩:=jN h
 have hb:0<b:=by omega
 have i3:dIx (jj u e l b) (.int 3)=some (.int b):=rfl
 obtain ⟨x',ff⟩:=aoJ hb a9 y1 y2 i3 (n1:=some (.int (r:Int))) (n2:=some (.int x)) (acc:=acc) (x7:=x7) hk
 obtain ⟨m0,m9⟩:=af7 hb a9 y1 y2 hk
 have e0:0<=x % (y*b ^ k):=Int.emod_nonneg _ (by omega)
 have e1:x % (y*b ^ k)<=x:=adJ x0 (by omega)
 have gp:=adO H h (r:=r) (n:=x % (y*b ^ k)) h1 h4 e0
 have lp:lpl (jj u e l b) b r (x % (y*b ^ k))=jC (pln (jj u e l b) b r (x % (y*b ^ k))):=by
  unfold lpl
  rw [if_pos (by omega)]
 rw [lp] at gp
 have nl:=amU (jj u e l b) b r (x / (y*b ^ k),x % (y*b ^ k))
 exact ⟨_,_,amV ff gp nl (Q9 m0) (QL m0 m9) (by omega)⟩
noncomputable def dwn:Nat->LP
 | 0=>[]
 | k+1=> .int (k:Int)::dwn k
theorem ajs:∀ r:Nat,(qP 0 r).reverse=dwn r
 | 0=>rfl
 | r+1=>by
  have:qP 0 (r+1)=qP 0 r++[.int (r:Int)]:=by
   unfold qP
   rw [List.range_succ,List.map_append]
   simp
  rw [this,List.reverse_append,ajs r]; rfl
theorem aoK {F:RO}{M:OP}{rr x y xx L:OP}{L2 L3:OP}{x5 x6 x7 z z6 z7 y5 y6 y7:OP}{k:Nat} (st:F [M,rr,x,y,L,some (.int (k:Int)),x6,x7]=some (.nx [M,rr,xx,y,L2,some (.int (k:Int)),z6,z7]))
  (ih:j0 (jH 5) F (dwn k) [M,rr,xx,y,L2,some (.int (k:Int)),z6,z7]=some (.nx [M,rr,z,y,L3,y5,y6,y7])):j0 (jH 5) F (dwn (k+1)) [M,rr,x,y,L,x5,x6,x7]=some (.nx [M,rr,z,y,L3,y5,y6,y7]):=by
 rw [dwn,j0]
 simp only [jH,zzF,zzG,zzD,st]
 exact ih
theorem amX (H:qp=true) (h:okN u e l b=true) {r:Nat} (h1:1<=r) (h4:r<=4) {y:Int} (y1:1<=y) (y2:y<=99999):∀ (k:Nat) (x:Int) (acc:LP) (x5 x6 x7:OP),k<=4->0<=x->x<b ^ r->acc.length+k<1000->
  ∃ z y5 y6 y7,j0 (jH 5) JK.1 (dwn k) [some (jj u e l b),some (.int (r:Int)),some (.int x),some (.int y),some (.list acc),x5,x6,x7]=some (.nx [some (jj u e l b),some (.int (r:Int)),z,some (.int y),some (.list (acc++(qr b y k x).map (Jz (jj u e l b) b r))),y5,y6,y7]):=by
 intro k
 induction k with
 | zero=>
  intro x acc x5 x6 x7 _ _ _ _
  exact ⟨_,_,_,_,by rw [show (qr b y 0 x).map (Jz (jj u e l b) b r)=[] from rfl,List.append_nil]; rfl⟩
 | succ k ihk=>
  intro x acc x5 x6 x7 hk x0 x1 hl
  obtain ⟨a1,a2,a3,a4,a5,a6,a7,a8,a9,a10⟩:=jN h
  have hb:0<b:=by omega
  obtain ⟨m0,m9⟩:=af7 hb a9 y1 y2 (k:=k) (by omega)
  have e0:0<=x % (y*b ^ k):=Int.emod_nonneg _ (by omega)
  have e1:x % (y*b ^ k)<=x:=adJ x0 (by omega)
  obtain ⟨z6,z7,st⟩:=amW H h h1 h4 y1 y2 x0 x1 (acc:=acc) (by omega) (k:=k) (by omega) (x6:=x6) (x7:=x7)
  obtain ⟨z,y5,y6,y7,ih⟩:=ihk (x % (y*b ^ k)) (acc++[Jz (jj u e l b) b r (x / (y*b ^ k),x % (y*b ^ k))]) (some (.int (k:Int))) z6 z7 (by omega) e0 (by omega) (by rw [List.length_append,List.length_singleton]; omega)
  refine ⟨z,y5,y6,y7,?_⟩
  have e9:(qr b y (k+1) x).map (Jz (jj u e l b) b r)=[Jz (jj u e l b) b r (x / (y*b ^ k),x % (y*b ^ k))]++(qr b y k (x % (y*b ^ k))).map (Jz (jj u e l b) b r):=rfl
  rw [e9,←List.append_assoc]
  generalize Jz (jj u e l b) b r (x / (y*b ^ k),x % (y*b ^ k))=ER at*
  generalize (qr b y k (x % (y*b ^ k))).map (Jz (jj u e l b) b r)=QR at*
  generalize x % (y*b ^ k)=xx at*
  exact aoK st ih
noncomputable def aeb (M:PyData) (b:Int) (r:Nat) (x y:Int):PyData:=if x<b ^ r then .list ((qr b y r x).map (Jz M b r)) else rfd 4
theorem ahl {M SP:PyData}{rr x y:Int}{DL rows:LP}{z y5 y6 y7:OP} (gp:aaf [M,.int rr,.int x]=some SP) (n1:anD SP .none=some (.bool false))
  (it:(fun ρ=>itS (fun ρ=>(lrD (jk (lkp 1) jr) ρ).bind ahX) (hid (some 4) ρ)) [some M,some (.int rr),some (.int x),some (.int y),some (.list []),none,none,none]=some DL)
  (l1:j0 (jH 5) JK.1 DL [some M,some (.int rr),some (.int x),some (.int y),some (.list []),none,none,none]=some (.nx [some M,some (.int rr),z,some (.int y),some (.list rows),y5,y6,y7])):JR [M,.int rr,.int x,.int y]=some (.list rows):=by
 refine jW rfl ?_
 show QJ.1 [some M,some (.int rr),some (.int x),some (.int y),none,none,none,none]=_
 simp only [QJ]
 refine amN (d:= .list []) (by simp only [zA,jr,zzD,Q8,zzM]) (by simp) ?_
 refine (jK (ρ1:=[some M,some (.int rr),some (.int x),some (.int y),some (.list []),none,none,none]) ?_).trans ?_
 ·dsimp? [brw,hid,gp,n1]
 refine (jK (aiq (fi:=fun ρ=>itS (fun ρ=>(lrD (jk (lkp 1) jr) ρ).bind ahX) (hid (some 4) ρ)) it l1)).trans ?_
 dsimp? [zzA]
theorem akB {M:PyData}{rr x y:Int} (gp:aaf [M,.int rr,.int x]=some .none):JR [M,.int rr,.int x,.int y]=some (.tuple [.str "refused",.int 4]):=by
 have n1:anD .none .none=some (.bool true):=rfl
 refine jW rfl ?_
 show QJ.1 [some M,some (.int rr),some (.int x),some (.int y),none,none,none,none]=_
 simp only [QJ]
 refine amN (d:= .list []) (by simp only [zA,jr,zzD,Q8,zzM]) (by simp) ?_
 dsimp? [brw,hid,gp,n1]
theorem aqE {r:Nat} (h4:r<=4) {M x y:OP}:(fun ρ=>itS (fun ρ=>(lrD (jk (lkp 1) jr) ρ).bind ahX) (hid (some 4) ρ)) [M,some (.int (r:Int)),x,y,some (.list []),none,none,none]=some (dwn r):=by
 have lr:lrD (jk (lkp 1) jr) (hid (some 4) [M,some (.int (r:Int)),x,y,some (.list []),none,none,none])=some (.list (qP 0 r)):=by
  have e0:jk (lkp 1) jr (hid (some 4) [M,some (.int (r:Int)),x,y,some (.list []),none,none,none])=some [.int (r:Int)]:=rfl
  unfold lrD
  rw [e0,zzD]
  show (if -1000<(r:Int)/\(r:Int)<1000 then some (PyData.list (qP 0 ((r:Int)).toNat)) else none)=_
  rw [if_pos (by omega),show ((r:Int)).toNat=r by omega]
 show ((lrD (jk (lkp 1) jr) (hid (some 4) _)).bind ahX).bind items=_
 rw [lr,←ajs]; rfl
theorem ajt {M:PyData}{r:Nat}{x y:Int} (hx:x<b ^ r):aeb M b r x y= .list ((qr b y r x).map (Jz M b r)):=by
 unfold aeb
 rw [if_pos hx]
theorem aju {M:PyData}{r:Nat}{x y:Int} (hx:¬ x<b ^ r):aeb M b r x y=rfd 4:=by
 unfold aeb
 rw [if_neg hx]
theorem acn (H:qp=true) (h:okN u e l b=true) {r:Nat} (h1:1<=r) (h4:r<=4) {y x:Int} (y1:1<=y) (y2:y<=99999) (x0:0<=x):JR [jj u e l b,.int (r:Int),.int x,.int y]=some (aeb (jj u e l b) b r x y):=by
 have gp:=adO H h (r:=r) (n:=x) h1 h4 x0
 unfold lpl at gp
 by_cases hx:x<b ^ r
 ·rw [if_pos hx] at gp
  obtain ⟨z,y5,y6,y7,l1⟩:=amX H h h1 h4 y1 y2 r x [] none none none h4 x0 hx (by show 0+r<1000; omega)
  rw [List.nil_append] at l1
  rw [ajt hx]
  exact ahl gp rfl (aqE h4) l1
 ·rw [if_neg hx] at gp
  rw [aju hx]
  exact akB gp
theorem ae2 (H:qp=true) (h:okN u e l b=true) {r:Nat} (h1:1<=r) (h4:r<=4) {y x:Int} (y1:1<=y) (y2:y<=99999) (x0:0<=x) (x9:x<=99999):j4 [jj u e l b,.int (r:Int),.int x,.int y]=some (aeb (jj u e l b) b r x y):=by
 by_cases hx:x<b ^ r
 ·rw [ajt hx]
  exact aoB (aoI H h h1 h4 y1 y2 x0 x9 hx)
 ·rw [aju hx]
  obtain ⟨k1,k2⟩:=aqz H h (r:=(r:Int)) (n:=x) (by omega) (by omega) x0 x9
  have gw:jU [.int y,.int 1,.int 99999]=some (.bool true):=by rw [j1]; simp; omega
  obtain ⟨p1,p2⟩:=arT k1 k2 gw (ain h h1 h4 x0 (by omega)) (aie h h1 h4 x0 (by omega))
  exact adV p1 p2 Zd Zc
theorem amY (M:PyData) (b:Int) (r:Nat) (x y:Int):sh 6 (aeb M b r x y):=by
 unfold aeb
 split
 ·refine Qg (n:=5) (adR (n:=4) fun d hd=>?_) (by omega)
  obtain ⟨p,_,rfl⟩:=List.mem_map.mp hd
  refine adS fun d hd=>?_
  rcases List.mem_cons.mp hd with rfl | hd
  ·exact Qg (aaM _) (by omega)
  ·rw [List.mem_singleton.mp hd]; exact Qg (ajm _) (by omega)
 ·exact Qg (amO _) (by omega)
end
theorem arV {n:Nat}{ds:LP} (h:sh n (.list ds)) (hn:n<30):dEq (.list ds) (.list ds)=some (.bool true):=by
 have ok:=af2 h.1 hn
 show (if okD (.list ds)=true/\okD (.list ds)=true then some (PyData.bool (PyData.eqv (.list ds) (.list ds))) else none)=_
 rw [if_pos ⟨ok,ok⟩,adQ _ h.2]
noncomputable def rows (n:Nat) (i:Int):PyData:= .list (List.replicate n (rfd i))
theorem ahm (n:Nat) (i:Int):sh 3 (rows n i):=adR fun d hd=>by rw [(List.mem_replicate.mp hd).2]; exact amO i
theorem acV (n:Nat) (i:Int):dNe (rows n i) (rows n i)=some (.bool false):=ajl (ahm n i) (by omega)
theorem aoL (n:Nat) (i:Int):dEq (rows n i) (rows n i)=some (.bool true):=arV (ahm n i) (by omega)
theorem arW (i:Int):adj (.list [.tuple [.str "refused",.int i]]) (.int 2)=some (rows 2 i):=rfl
theorem asG (i:Int):adj (.list [.tuple [.str "refused",.int i]]) (.int 3)=some (rows 3 i):=rfl
theorem asH (i:Int):adj (.list [.tuple [.str "refused",.int i]]) (.int 4)=some (rows 4 i):=rfl
theorem asI (i:Int):adj (.list [.tuple [.str "refused",.int i]]) (.int 5)=some (rows 5 i):=rfl
theorem adW {fs:Rho->Option (LP)}{ρ:Rho}{ds:LP} (h:fs ρ=some ds) (hf:few ds=true):zA fs ρ=some (.list ds):=by
 unfold zA; rw [h,zzD,if_pos hf]
theorem arX {A B:Rho->Option Bool}{ρ:Rho} (h1:A ρ=some false) (h2:B ρ=some false):orB A B ρ=some false:=by
 unfold orB
 rw [h1,zzD,if_neg (by decide),h2]
noncomputable def fiN (n:Int):Rho->Option (LP):=fun ρ=>(jk (cst (.int n)) jr ρ).bind Jp
theorem arY {fe:RP}{cap:List (Option Nat)}{ρ τ:Rho}{d0 d1:PyData} (hc:Qi cap ρ=none::τ) (h0:fe (some (.int 0)::τ)=some d0) (h1:fe (some (.int 1)::τ)=some d1):ql (fiN 2) cap (jH 0) aaS fe ρ=some (.list [d0,d1]):=by
 refine abC (ds:=[.int 0,.int 1]) rfl fw2 ?_
 rw [hc]
 simp only [jX,jH,zzG,zzD,aaS,zzM,h0,h1,zzE]
theorem ao5 {fe:RP}{cap:List (Option Nat)}{ρ τ:Rho}{d0 d1 d2:PyData} (hc:Qi cap ρ=none::τ) (h0:fe (some (.int 0)::τ)=some d0) (h1:fe (some (.int 1)::τ)=some d1) (h2:fe (some (.int 2)::τ)=some d2):ql (fiN 3) cap (jH 0) aaS fe ρ=some (.list [d0,d1,d2]):=by
 refine abC (ds:=[.int 0,.int 1,.int 2]) rfl fw3 ?_
 rw [hc]
 simp only [jX,jH,zzG,zzD,aaS,zzM,h0,h1,h2,zzE]
theorem amZ {S M T R DUE:PyData}{v n:Int}{c:Bool}{S':TRS}{R':OutC->jP->Prop}{μ:jP}
  (due:(c=false/\DUE=rows 2 1) ∨ (c=true/\v<n/\DUE=rows 2 4) ∨ (c=true/\n<=v/\∀ (μ:jP) (Q:Res PyData->jP->Prop),(∀ μ',Q (.ok DUE) μ')->JS [M,T,.int n] μ Q))
  (k:∀ μ',S' [some S,some M,some T,some R,some (.int v),some (.bool c),some (.int n),some DUE,none,none,none,none,none] μ' R'):agF (ifC (Zi (tst (lkp 5))) (agF (Zh (BX.bindC (Zi (tst (op2 (qJ fun i j=>decide (i<=j)) (lkp 6) (lkp 4)))) fun x=>if x=true then BX.bindC (ai4 (Zi (lkp 1)) (ai4 (Zi (lkp 2)) (ai4 (Zi (lkp 6)) (Zi jr)))) (aoY JS 3) else Zi (op2 adj (cst (.list [.tuple [.str "refused",.int 4]])) (cst (.int 2)))) (anV 7)) ap2) ap2) S' [some S,some M,some T,some R,some (.int v),some (.bool c),some (.int n),some (rows 2 1),none,none,none,none,none] μ R':=by
 rcases due with ⟨rfl,rfl⟩ | ⟨rfl,hv,rfl⟩ | ⟨rfl,hv,ht⟩
 ·exact ⟨false,rfl,k μ⟩
 ·have c1:tst (op2 (qJ fun i j=>decide (i<=j)) (lkp 6) (lkp 4)) [some S,some M,some T,some R,some (.int v),some (.bool true),some (.int n),some (rows 2 1),none,none,none,none,none]=some false:=by
   refine JX (jL rfl rfl ?_)
   show some (PyData.bool (decide (n<=v)))=_
   rw [decide_eq_false (by omega)]
  exact ⟨true,rfl,false,c1,rows 2 4,arW 4,k μ⟩
 ·have c1:tst (op2 (qJ fun i j=>decide (i<=j)) (lkp 6) (lkp 4)) [some S,some M,some T,some R,some (.int v),some (.bool true),some (.int n),some (rows 2 1),none,none,none,none,none]=some true:=by
   refine JX (jL rfl rfl ?_)
   show some (PyData.bool (decide (n<=v)))=_
   rw [decide_eq_true hv]
  refine ⟨true,rfl,true,c1,M,rfl,T,rfl,.int n,rfl,[],rfl,_,rfl,_,rfl,_,rfl,rfl,ht _ _ fun μ'=>?_⟩
  exact k μ'
theorem aoM {S M T R DUE d0 d1 QD OD Q3 LS BA M2:PyData}{v n k42 m42 one k44 m44 y0 k50 k51:Int}{c:Bool}{T0:PyData}{mm:Int}{R':Res PyData->jP->Prop}{μ:jP} (hR:∀ μ',R' (.ok (.bool true)) μ')
  (mn:Z6 [S,.int 0]=some M) (st:an8 [S,.int 10,M,.int 4]=some T0) (ln:Ja [T0]=some R)
  (f4:(ifS (tst (op2 (qJ fun i j=>decide (j<i)) (jy qI (jk (lkp 0) (jk (cst (.int 30)) (jk (cst (.int 4)) jr)))) (cst (.int 0)))) (jM (qO (jy Zv (jk (ql (fun ρ=>(jk (lkp 3) jr ρ).bind Jp) [none,some 1,some 0] (jH 0) aaS (jy zj (jk (lkp 1) (jk (jy qI (jk (lkp 2) (jk (op2 zh (cst (.int 31)) (lkp 0)) (jk (op2 dIx (lkp 1) (cst (.int 3))) jr)))) jr)))) jr)) (jH 2)) qy) qy) [some S,some M,some T0,some R,none,none,none,none,none,none,none,none,none]=some (.nx [some S,some M,some T,some R,none,none,none,none,none,none,none,none,none]))
  (lv:acL [M,T]=some (.int v)) (f6:(op2 dEq (ql (itS (lkp 2)) [none,some 1] (jH 0) (tst (op2 (qJ fun i j=>decide (j<=i)) (op2 zh (op2 zp (op2 dIx (lkp 0) (cst (.int 0))) (op2 dIx (lkp 1) (cst (.int 1)))) (op2 dIx (lkp 0) (cst (.int 1)))) (op2 dIx (lkp 1) (cst (.int 3))))) (lkp 0)) (zA jr)) [some S,some M,some T,some R,some (.int v),none,none,none,none,none,none,none,none]=some (.bool c)) (mi:agl [.int 99999,.int (v+2)]=some (.int mm)) (d40:qI [S,.int 40,.int mm]=some (.int n))
  (due:(c=false/\DUE=rows 2 1) ∨ (c=true/\v<n/\DUE=rows 2 4) ∨ (c=true/\n<=v/\∀ (μ:jP) (Q:Res PyData->jP->Prop),(∀ μ',Q (.ok DUE) μ')->JS [M,T,.int n] μ Q))
  (t0:jY [.int 0,M,T,.int n]=some d0) (t1:jY [.int 1,M,T,.int n]=some d1) (ls:Jk [DUE]=some (.list [d0,d1])) (ne1:dNe (.list [d0,d1]) (.list [d0,d1])=some (.bool false)) (t2:jY [.int 2,M,T,.int 0]=some (.bool c)) (ne2:dNe (.bool c) (.bool c)=some (.bool false))
  (d42:qI [S,.int 42,.int 3]=some (.int k42)) (i42:dIx (.list [.int 20,.int 200,.int 2000]) (.int k42)=some (.int m42)) (d41:qI [S,.int 41,.int m42]=some (.int one)) (d44:qI [S,.int 44,.int 2]=some (.int k44)) (i44:dIx (.list [.int 5,.int 50]) (.int k44)=some (.int m44)) (d43:qI [S,.int 43,.int m44]=some (.int y0))
  (q1:j4 [M,R,.int one,.int (1+y0)]=some QD) (q2:JR [M,R,.int one,.int (1+y0)]=some QD) (neq:dNe QD QD=some (.bool false))
  (d50:qI [S,.int 50,.int 5]=some (.int k50)) (i50:dIx (.list [.int (-1),.int 100000,.none,.bool true,.str "1"]) (.int k50)=some OD)
  (o0:jY [.int 0,M,.tuple [.tuple [.int 0,.int 0]],OD]=some (rfd 2)) (p0:j4 [M,.int 2,OD,.int 1]=some (rfd 2)) (p1:j4 [M,.int 2,.int 1,OD]=some (rfd 2)) (p2:j4 [M,.int 2,.int 1,.int 0]=some (rfd 2)) (p3:j4 [M,.int 2,.int 1,.int 100000]=some (rfd 2))
  (q3:j4 [M,.int 2,.int 1,.int 99999]=some Q3) (q4:JR [M,.int 2,.int 1,.int 99999]=some Q3) (ne3:dNe Q3 Q3=some (.bool false))
  (ls2:Jk [T]=some LS) (d51:qI [S,.int 51,.int 3]=some (.int k51)) (i51:dIx (.list [.none,.tuple [],LS]) (.int k51)=some BA)
  (b0:jY [.int 0,M,BA,OD]=some (rfd 1)) (b1:jY [.int 1,M,BA,OD]=some (rfd 1)) (b2:jY [.int 2,M,BA,OD]=some (rfd 1))
  (sl:∀ i ρ,lkp i ρ=some M->acg (lkp i) (cst (.int 2)) ρ=some M2)
  (m0:jY [.int 0,M2,BA,OD]=some (rfd 0)) (m1:jY [.int 1,M2,BA,OD]=some (rfd 0)) (m2:jY [.int 2,M2,BA,OD]=some (rfd 0)) (mp:j4 [M2,OD,OD,OD]=some (rfd 0)):amu [S] μ R':=by
 have hR':∀ μ',amb R' (.rt (.bool true)) μ':=hR
 show aog.1 [some S,none,none,none,none,none,none,none,none,none,none,none,none] μ (amb R')
 generalize amb R'=R'' at hR'
 clear hR
 have hR:=hR'
 simp only [aog]
 refine qX (ρ1:=[some S,some M,none,none,none,none,none,none,none,none,none,none,none]) (qG (i:=1) (jR rfl mn)) ?_
 refine qX (ρ1:=[some S,some M,some T0,none,none,none,none,none,none,none,none,none,none]) (qG (i:=2) (jR rfl st)) ?_
 refine qX (ρ1:=[some S,some M,some T0,some R,none,none,none,none,none,none,none,none,none]) (qG (i:=3) (jR rfl ln)) ?_
 refine qX (ρ1:=[some S,some M,some T,some R,none,none,none,none,none,none,none,none,none]) f4 ?_
 refine qX (ρ1:=[some S,some M,some T,some R,some (.int v),none,none,none,none,none,none,none,none]) (qG (i:=4) (jR rfl lv)) ?_
 refine qX (ρ1:=[some S,some M,some T,some R,some (.int v),some (.bool c),none,none,none,none,none,none,none]) (qG (i:=5) f6) ?_
 refine qX (ρ1:=[some S,some M,some T,some R,some (.int v),some (.bool c),some (.int n),none,none,none,none,none,none]) (qG (i:=6) (jR (jD rfl (jD rfl (jD (jR (jD rfl (jD (jL rfl rfl (add_int v 2)) rfl)) mi) rfl))) d40)) ?_
 refine qX (ρ1:=[some S,some M,some T,some R,some (.int v),some (.bool c),some (.int n),some (rows 2 1),none,none,none,none,none]) (qG (i:=7) (arW 1)) ?_
 refine amZ (DUE:=DUE) due ?_
 intro μ'
 refine qX (ρ1:=[some S,some M,some T,some R,some (.int v),some (.bool c),some (.int n),some DUE,none,none,none,none,none]) (aks (JX (jL (x:= .list [d0,d1]) (arY (τ:=[some M,some T,some (.int n)]) rfl (jR rfl t0) (jR rfl t1)) (jR rfl ls) ne1))) ?_
 refine qX (ρ1:=[some S,some M,some T,some R,some (.int v),some (.bool c),some (.int n),some DUE,none,none,none,none,none]) (aks (JX (jL (jR rfl t2) rfl ne2))) ?_
 refine qX (ρ1:=[some S,some M,some T,some R,some (.int v),some (.bool c),some (.int n),some DUE,some (.int one),none,none,none,none]) (qG (i:=8) (jR (jD rfl (jD rfl (jD (jL (x:= .list [.int 20,.int 200,.int 2000]) rfl (jR rfl d42) i42) rfl))) d41)) ?_
 refine qX (ρ1:=[some S,some M,some T,some R,some (.int v),some (.bool c),some (.int n),some DUE,some (.int one),some (.int (1+y0)),none,none,none]) (qG (i:=9) (jL rfl (jR (jD rfl (jD rfl (jD (jL (x:= .list [.int 5,.int 50]) rfl (jR rfl d44) i44) rfl))) d43) (add_int 1 y0))) ?_
 refine qX (ρ1:=[some S,some M,some T,some R,some (.int v),some (.bool c),some (.int n),some DUE,some (.int one),some (.int (1+y0)),none,none,none]) (aks (JX (jL (jR rfl q1) (jR rfl q2) neq))) ?_
 refine qX (ρ1:=[some S,some M,some T,some R,some (.int v),some (.bool c),some (.int n),some DUE,some (.int one),some (.int (1+y0)),some OD,none,none]) (qG (i:=10) (jL (x:= .list [.int (-1),.int 100000,.none,.bool true,.str "1"]) rfl (jR rfl d50) i50)) ?_
 refine qX (ρ1:=[some S,some M,some T,some R,some (.int v),some (.bool c),some (.int n),some DUE,some (.int one),some (.int (1+y0)),some OD,some (rows 3 2),none]) (qG (i:=11) (adW (jD (jR rfl o0) (jD (jR rfl p0) (jD (jR rfl p1) rfl))) fw3)) ?_
 refine qX (ρ1:=[some S,some M,some T,some R,some (.int v),some (.bool c),some (.int n),some DUE,some (.int one),some (.int (1+y0)),some OD,some (rows 5 2),none]) (qG (i:=11) (jL (x:=rows 3 2) (y:= .list [rfd 2,rfd 2]) rfl (adW (jD (jR rfl p2) (jD (jR rfl p3) rfl)) fw2) rfl)) ?_
 refine qX (ρ1:=[some S,some M,some T,some R,some (.int v),some (.bool c),some (.int n),some DUE,some (.int one),some (.int (1+y0)),some OD,some (rows 5 2),none]) (aks (arX (JX (jL (x:=rows 5 2) rfl (asI 2) (acV 5 2))) (JX (jL (jR rfl q3) (jR rfl q4) ne3)))) ?_
 refine qX (ρ1:=[some S,some M,some T,some R,some (.int v),some (.bool c),some (.int n),some DUE,some (.int one),some (.int (1+y0)),some OD,some (rows 5 2),some BA]) (qG (i:=12) (jL (adW (jD rfl (jD rfl (jD (jR rfl ls2) rfl))) fw3) (jR rfl d51) i51)) ?_
 refine qX (ρ1:=[some S,some M,some T,some R,some (.int v),some (.bool c),some (.int n),some DUE,some (.int one),some (.int (1+y0)),some OD,some (rows 5 2),some BA]) (aks (JX (jL (ao5 (τ:=[some M,some BA,some OD]) rfl (jR rfl b0) (jR rfl b1) (jR rfl b2)) (asG 1) (acV 3 1)))) ?_
 refine qX (ρ1:=[some S,some M,some T,some R,some (.int v),some (.bool c),some (.int n),some DUE,some (.int one),some (.int (1+y0)),some OD,some (rows 4 0),some BA]) (qG (i:=11) (jL (z:=rows 4 0) (ao5 (τ:=[some BA,some OD,some M]) rfl (jR (jD rfl (jD (sl 3 _ rfl) rfl)) m0) (jR (jD rfl (jD (sl 3 _ rfl) rfl)) m1) (jR (jD rfl (jD (sl 3 _ rfl) rfl)) m2)) (adW (jD (jR (jD (sl 1 _ rfl) rfl) mp) rfl) fw1) rfl)) ?_
 exact aqq (jL rfl (asH 0) (aoL 4 0)) (hR _)
section
variable {u e l b:Int}
theorem ahn (H:qp=true) (h:okN u e l b=true) {ns:List Int} (hn:ns.length<1000000):∀ (ks:List Nat) (x:OP),∃ ps:PL,jX (jH 0) aaS (jy zj (jk (lkp 1) (jk (jy qI (jk (lkp 2) (jk (op2 zh (cst (.int 31)) (lkp 0)) (jk (op2 dIx (lkp 1) (cst (.int 3))) jr)))) jr))) (ks.map fun (k:Nat)=>PyData.int (0+(k:Int))) [x,some (jj u e l b),some (scr ns)]=some (ps.map pr)/\ps.length=ks.length/\ps.all (okP u l)=true
 | [],x=>⟨[],rfl,rfl,rfl⟩
 | k::ks,x=>by
  obtain ⟨a1,a2,a3,a4,a5,a6,a7,a8,a9,a10⟩:=jN h
  obtain ⟨ps,ih,hl,hk⟩:=ahn H h hn ks (some (.int (0+(k:Int))))
  obtain ⟨d,dr,d0,d1⟩:=qk ns hn (31+(0+(k:Int))) b (by omega) (by omega)
  have gf:=ZM H h d0 d1
  have fe:(jy zj (jk (lkp 1) (jk (jy qI (jk (lkp 2) (jk (op2 zh (cst (.int 31)) (lkp 0)) (jk (op2 dIx (lkp 1) (cst (.int 3))) jr)))) jr))) [some (.int (0+(k:Int))),some (jj u e l b),some (scr ns)]=some (pr (fpr (jj u e l b) d)):=jR (jD rfl (jD (jR (jD rfl (jD (jL rfl rfl (add_int 31 _)) (jD (jL rfl rfl (ix3 u e l b)) rfl))) dr) rfl)) gf
  refine ⟨fpr (jj u e l b) d::ps,?_,by rw [List.length_cons,List.length_cons,hl],?_⟩
  ·rw [List.map_cons,jX]
   simp only [jH,zzG,zzD,aaS,zzM,fe,ih,zzE]
   rfl
  ·rw [List.all_cons,hk,(qL H h d0 d1).2.2]; rfl
theorem st4 (H:qp=true) (h:okN u e l b=true) {ns:List Int} (hn:ns.length<1000000) {ps0:PL} (hs:okS u l ps0=true):∃ ps:PL,okS u l ps=true/\ps.length=ps0.length/\(ifS (tst (op2 (qJ fun i j=>decide (j<i)) (jy qI (jk (lkp 0) (jk (cst (.int 30)) (jk (cst (.int 4)) jr)))) (cst (.int 0)))) (jM (qO (jy Zv (jk (ql (fun ρ=>(jk (lkp 3) jr ρ).bind Jp) [none,some 1,some 0] (jH 0) aaS (jy zj (jk (lkp 1) (jk (jy qI (jk (lkp 2) (jk (op2 zh (cst (.int 31)) (lkp 0)) (jk (op2 dIx (lkp 1) (cst (.int 3))) jr)))) jr)))) jr)) (jH 2)) qy) qy) [some (scr ns),some (jj u e l b),some (jC ps0),some (.int (ps0.length:Int)),none,none,none,none,none,none,none,none,none]=some (.nx [some (scr ns),some (jj u e l b),some (jC ps),some (.int (ps0.length:Int)),none,none,none,none,none,none,none,none,none]):=by
 obtain ⟨h1,h4,hk⟩:=zJ hs
 obtain ⟨k30,d30,p30,q30⟩:=qk ns hn 30 4 (by omega) (by omega)
 have tt:tst (op2 (qJ fun i j=>decide (j<i)) (jy qI (jk (lkp 0) (jk (cst (.int 30)) (jk (cst (.int 4)) jr)))) (cst (.int 0))) [some (scr ns),some (jj u e l b),some (jC ps0),some (.int (ps0.length:Int)),none,none,none,none,none,none,none,none,none]=some (decide (0<k30)):=JX (jL (jR rfl d30) rfl rfl)
 by_cases hc:0<k30
 ·rw [decide_eq_true hc] at tt
  obtain ⟨ps,cp,hl,hk'⟩:=ahn H h hn (List.range ps0.length) none
  rw [List.length_range] at hl
  refine ⟨ps,aid (by omega) (by omega) hk',hl,?_⟩
  have rg:Jp [.int (ps0.length:Int)]=some (qP 0 ps0.length):=adI (by omega)
  have it:(fun ρ=>(jk (lkp 3) jr ρ).bind Jp) [some (scr ns),some (jj u e l b),some (jC ps0),some (.int (ps0.length:Int)),none,none,none,none,none,none,none,none,none]=some (qP 0 ps0.length):=by
   have e0:jk (lkp 3) jr [some (scr ns),some (jj u e l b),some (jC ps0),some (.int (ps0.length:Int)),none,none,none,none,none,none,none,none,none]=some [.int (ps0.length:Int)]:=rfl
   show (jk (lkp 3) jr _).bind Jp=_
   rw [e0,zzD]; exact rg
  have fw:few (qP 0 ps0.length)=true:=jZ (by rw [JU]; omega)
  have c1:ql (fun ρ=>(jk (lkp 3) jr ρ).bind Jp) [none,some 1,some 0] (jH 0) aaS (jy zj (jk (lkp 1) (jk (jy qI (jk (lkp 2) (jk (op2 zh (cst (.int 31)) (lkp 0)) (jk (op2 dIx (lkp 1) (cst (.int 3))) jr)))) jr))) [some (scr ns),some (jj u e l b),some (jC ps0),some (.int (ps0.length:Int)),none,none,none,none,none,none,none,none,none]=some (.list (ps.map pr)):=abC it fw cp
  have tp:Zv [.list (ps.map pr)]=some (jC ps):=rfl
  unfold ifS
  rw [tt,zzD,if_pos rfl]
  exact (jK (qG (jR (jD c1 rfl) tp))).trans rfl
 ·rw [decide_eq_false hc] at tt
  exact ⟨ps0,hs,rfl,aks tt⟩
theorem ajv (h:okN u e l b=true):∀ (ps:PL) (x:OP),ps.all (okP u l)=true->jX (jH 0) (tst (op2 (qJ fun i j=>decide (j<=i)) (op2 zh (op2 zp (op2 dIx (lkp 0) (cst (.int 0))) (op2 dIx (lkp 1) (cst (.int 1)))) (op2 dIx (lkp 0) (cst (.int 1)))) (op2 dIx (lkp 1) (cst (.int 3))))) (lkp 0) (ps.map pr) [x,some (jj u e l b)]=some ((ps.filter fun p=>decide (b<=wt e p)).map pr)
 | [],_,_=>rfl
 | p::ps,x,hk=>by
  obtain ⟨a1,a2,a3,a4,a5,a6,a7,a8,a9,a10⟩:=jN h
  have hp:=List.all_eq_true.mp hk p List.mem_cons_self
  obtain ⟨q1,q2,q3,q4⟩:=zI hp
  have ih:=ajv h ps (some (pr p)) (List.all_eq_true.mpr fun y hy=>List.all_eq_true.mp hk y (List.mem_cons_of_mem _ hy))
  have mu:zp (.int p.1) (.int e)=some (.int (p.1*e)):=qx ⟨by omega,by omega⟩
  have f1:(op2 zh (op2 zp (op2 dIx (lkp 0) (cst (.int 0))) (op2 dIx (lkp 1) (cst (.int 1)))) (op2 dIx (lkp 0) (cst (.int 1)))) [some (pr p),some (jj u e l b)]=some (.int (wt e p)):=jL (jL (jL rfl rfl rfl) (jL rfl rfl rfl) mu) (jL rfl rfl rfl) rfl
  have f2:(tst (op2 (qJ fun i j=>decide (j<=i)) (op2 zh (op2 zp (op2 dIx (lkp 0) (cst (.int 0))) (op2 dIx (lkp 1) (cst (.int 1)))) (op2 dIx (lkp 0) (cst (.int 1)))) (op2 dIx (lkp 1) (cst (.int 3))))) [some (pr p),some (jj u e l b)]=some (decide (b<=wt e p)):=JX (jL f1 (jL rfl rfl (ix3 u e l b)) rfl)
  have f3:lkp 0 [some (pr p),some (jj u e l b)]=some (pr p):=rfl
  show jX _ _ _ (pr p::ps.map pr) _=_
  rw [jX]
  simp only [jH,zzG,zzD,f2]
  by_cases hb:b<=wt e p
  ·rw [decide_eq_true hb,if_pos rfl,f3,zzD,ih,List.filter_cons_of_pos (by simpa using hb)]; rfl
  ·rw [decide_eq_false hb,if_neg (by decide),ih,List.filter_cons_of_neg (by simpa using hb)]
theorem aqF (ds:LP) (hs:sh 5 (.list ds)):dEq (.list ds) (.list [])=some (.bool ds.isEmpty):=by
 have ok:=af2 hs.1 (by omega)
 have ok2:okD (.list [])=true:=af2 (n:=5) (ajh.mpr fun d hd=>nomatch hd) (by omega)
 show (if okD (.list ds)=true/\okD (.list [])=true then some (PyData.bool (PyData.eqv (.list ds) (.list []))) else none)=_
 rw [if_pos ⟨ok,ok2⟩]
 cases ds with
 | nil=>simp [PyData.eqv,PyData.eqvAll]
 | cons d ds=>simp [PyData.eqv,PyData.eqvAll]
theorem akC {ps:PL}:(((ps.filter fun p=>decide (b<=wt e p)).map pr).isEmpty)=small b e ps:=by
 unfold small
 induction ps with
 | nil=>rfl
 | cons p ps ih=>
  by_cases hb:b<=wt e p
  ·rw [List.filter_cons_of_pos (by simpa using hb),List.all_cons,decide_eq_false (by omega)]; rfl
  ·rw [List.filter_cons_of_neg (by simpa using hb),List.all_cons,decide_eq_true (by omega),ih]; rfl
theorem aqG (q:PL):sh 5 (.list (q.map pr)):=Qg (n:=3) (adR (n:=2) fun d hd=>by
 obtain ⟨p,_,rfl⟩:=List.mem_map.mp hd
 refine adS fun d hd=>?_
 rcases List.mem_cons.mp hd with rfl | hd
 ·exact aaM _
 ·rw [List.mem_singleton.mp hd]; exact aaM _) (by omega)
theorem aiu (h:okN u e l b=true) {ps:PL} (hs:okS u l ps=true) {S R:PyData}{v:Int}:(op2 dEq (ql (itS (lkp 2)) [none,some 1] (jH 0) (tst (op2 (qJ fun i j=>decide (j<=i)) (op2 zh (op2 zp (op2 dIx (lkp 0) (cst (.int 0))) (op2 dIx (lkp 1) (cst (.int 1)))) (op2 dIx (lkp 0) (cst (.int 1)))) (op2 dIx (lkp 1) (cst (.int 3))))) (lkp 0)) (zA jr)) [some S,some (jj u e l b),some (jC ps),some R,some (.int v),none,none,none,none,none,none,none,none]=some (.bool (small b e ps)):=by
 obtain ⟨h1,h4,hk⟩:=zJ hs
 have fw:few (ps.map pr)=true:=jZ (by rw [List.length_map]; omega)
 have c1:ql (itS (lkp 2)) [none,some 1] (jH 0) (tst (op2 (qJ fun i j=>decide (j<=i)) (op2 zh (op2 zp (op2 dIx (lkp 0) (cst (.int 0))) (op2 dIx (lkp 1) (cst (.int 1)))) (op2 dIx (lkp 0) (cst (.int 1)))) (op2 dIx (lkp 1) (cst (.int 3))))) (lkp 0) [some S,some (jj u e l b),some (jC ps),some R,some (.int v),none,none,none,none,none,none,none,none]=some (.list ((ps.filter fun p=>decide (b<=wt e p)).map pr)):=abC (ds:=ps.map pr) rfl fw (ajv h ps none hk)
 have c2:zA jr [some S,some (jj u e l b),some (jC ps),some R,some (.int v),none,none,none,none,none,none,none,none]=some (.list []):=adW rfl Q8
 have c3:=aqF _ (aqG (ps.filter fun p=>decide (b<=wt e p)))
 rw [akC] at c3
 exact jL c1 c2 c3
theorem arZ (M:PyData) (cs:List (Nat × Int)) (q:PL):sh 6 (.list [.list (cs.map (zU M)),jC q]):=adR fun d hd=>by
 rcases List.mem_cons.mp hd with rfl | hd
 ·refine Qg (n:=4) (adR fun d hd=>?_) (by omega)
  obtain ⟨c,_,rfl⟩:=List.mem_map.mp hd
  exact aqp M c
 ·rw [List.mem_singleton.mp hd]; exact Qg (ajm _) (by omega)
theorem ajw (h:okN u e l b=true):okS u l [(0,0)]=true/\small b e [(0,0)]=true:=by
 obtain ⟨a1,a2,a3,a4,a5,a6,a7,a8,a9,a10⟩:=jN h
 constructor
 ·refine aid (by simp) (by simp) ?_
  simp only [List.all_cons,List.all_nil,okP,Bool.and_true,Bool.and_eq_true,decide_eq_true_eq]
  omega
 ·have w0:wt e (0,0)=0:=by simp [wt]
  simp only [small,List.all_cons,List.all_nil,Bool.and_true,decide_eq_true_eq,w0]
  omega
theorem dr2 {ns:List Int} (hn:ns.length<1000000) (ki km:Int) (ds:LP) (N B:Int) (p:0<=ki) (q:0<=km) (hN:N=ds.length) (hN0:0<N) (hl:ds.length<9999) (hds:∀ d ∈ ds,∃ i:Int,d= .int i/\0<i/\i<=B):∃ k m x,qI [scr ns,.int ki,.int N]=some (.int k)/\dIx (.list ds) (.int k)=some (.int m)/\qI [scr ns,.int km,.int m]=some (.int x)/\0<=x/\x<B:=by
 obtain ⟨k,d1,k0,k1⟩:=qk ns hn ki N p hN0
 obtain ⟨m',i1,mm⟩:=aip (ds:=ds) k0 (by omega) hl
 obtain ⟨m,rfl,m0,m9⟩:=hds m' mm
 obtain ⟨x,d2,x0,x1⟩:=qk ns hn km m q m0
 exact ⟨k,m,x,d1,i1,d2,x0,by omega⟩
theorem akD (H:qp=true) (ns:List Int) (hn:ns.length<1000000):amu [scr ns] (fun _=>none) (fun o _=>o= .ok (.bool true)):=by
 obtain ⟨u,e,l,b,mn,hm⟩:=aib ns hn 0 (Int.le_refl _)
 have h:=aoh hm
 obtain ⟨ps0,st,hs0⟩:=aon hn h (at_:=10) (by omega)
 obtain ⟨a1,a2,a3,a4,a5,a6,a7,a8,a9,a10⟩:=jN h
 obtain ⟨ps,hs,hl,f4⟩:=st4 H h hn hs0
 obtain ⟨h1,h4,hk⟩:=zJ hs
 have lv:=aik h ps
 have vn:0<=val b e ps:=aqb h hk
 have mi:agl [.int 99999,.int (val b e ps+2)]=some (.int (if val b e ps+2<99999 then val b e ps+2 else 99999)):=rfl
 obtain ⟨n,d40,n0,n1⟩:=qk ns hn 40 (if val b e ps+2<99999 then val b e ps+2 else 99999) (by omega) (by split <;> omega)
 have n9:n<=99999:=by split at n1 <;> omega
 obtain ⟨k42,m42,one,d42,i42,d41,one0,one1⟩:=dr2 hn 42 41 [.int 20,.int 200,.int 2000] 3 2000 (by omega) (by omega) rfl (by omega) (by decide) (fun d hd=>by
  simp only [List.mem_cons,List.not_mem_nil,or_false] at hd
  rcases hd with rfl | rfl | rfl <;> exact ⟨_,rfl,by omega,by omega⟩)
 obtain ⟨k44,m44,y0,d44,i44,d43,y00,y01⟩:=dr2 hn 44 43 [.int 5,.int 50] 2 50 (by omega) (by omega) rfl (by omega) (by decide) (fun d hd=>by
  simp only [List.mem_cons,List.not_mem_nil,or_false] at hd
  rcases hd with rfl | rfl <;> exact ⟨_,rfl,by omega,by omega⟩)
 obtain ⟨k50,d50,k50a,k50b⟩:=qk ns hn 50 5 (by omega) (by omega)
 obtain ⟨k51,d51,k51a,k51b⟩:=qk ns hn 51 3 (by omega) (by omega)
 obtain ⟨OD,i50,mo⟩:=aip (ds:=[.int (-1),.int 100000,.none,.bool true,.str "1"]) k50a k50b (by decide)
 obtain ⟨BA,i51,mb⟩:=aip (ds:=[.none,.tuple [],.list (ps.map pr)]) k51a k51b (by show 3<9999; omega)
 have ho:noD OD=true/\whB 0 99999 OD=false/\whB 1 99999 OD=false:=by
  simp only [List.mem_cons,List.not_mem_nil,or_false] at mo
  rcases mo with rfl | rfl | rfl | rfl | rfl <;> exact ⟨rfl,rfl,rfl⟩
 have hb:noD BA=true/\ab4 u l BA=false:=by
  simp only [List.mem_cons,List.not_mem_nil,or_false] at mb
  rcases mb with rfl | rfl | rfl
  ·exact ⟨rfl,rfl⟩
  ·exact ⟨rfl,rfl⟩
  ·exact ⟨adK ps,rfl⟩
 have q1:=ae2 H h h1 h4 (y:=1+y0) (x:=one) (by omega) (by omega) one0 (by omega)
 have q2:=acn H h h1 h4 (y:=1+y0) (x:=one) (by omega) (by omega) one0
 have q3:=ae2 H h (r:=2) (by omega) (by omega) (y:=99999) (x:=1) (by omega) (by omega) (by omega) (by omega)
 have q4:=acn H h (r:=2) (by omega) (by omega) (y:=99999) (x:=1) (by omega) (by omega) (by omega)
 have o0:=asD H h (ajw h).1 (ajw h).2 ho.1 ho.2.1
 obtain ⟨p0,p1⟩:=aqA H h ho.1 ho.2.1 ho.2.2
 have p2:=ao4 H h (y:=0) rfl
 have p3:=ao4 H h (y:=100000) rfl
 obtain ⟨b0,b1,b2⟩:=asE H h (t:=OD) hb.1 hb.2
 obtain ⟨⟨m0,m1,m2⟩,mp⟩:=asF u e BA OD OD OD OD
 have sl:∀ i ρ,lkp i ρ=some (jj u e l b)->acg (lkp i) (cst (.int 2)) ρ=some (.tuple [.int u,.int e]):=fun i ρ hi=>by
  unfold acg; rw [hi]; rfl
 have ls2:Jk [jC ps]=some (.list (ps.map pr)):=rfl
 have ln:Ja [jC ps0]=some (.int (ps0.length:Int)):=ag3 ps0
 have f6:=aiu h hs (S:=scr ns) (R:= .int (ps0.length:Int)) (v:=val b e ps)
 have t2:=aoH H h hs (.int 0)
 have ne2:dNe (.bool (small b e ps)) (.bool (small b e ps))=some (.bool false):=by
  cases small b e ps <;> rfl
 have nq:=ajl (amY (jj u e l b) b ps.length one (1+y0)) (by omega)
 have n3:=ajl (amY (jj u e l b) b 2 1 99999) (by omega)
 rw [hl] at q1 q2 nq
 have main:∃ d0 d1 DUE,jY [.int 0,jj u e l b,jC ps,.int n]=some d0/\jY [.int 1,jj u e l b,jC ps,.int n]=some d1/\Jk [DUE]=some (.list [d0,d1])/\dNe (.list [d0,d1]) (.list [d0,d1])=some (.bool false)/\((small b e ps=false/\DUE=rows 2 1) ∨ (small b e ps=true/\val b e ps<n/\DUE=rows 2 4) ∨ (small b e ps=true/\n<=val b e ps/\∀ (μ:jP) (Q:Res PyData->jP->Prop),(∀ μ',Q (.ok DUE) μ')->JS [jj u e l b,jC ps,.int n] μ Q)):=by
  cases sm:small b e ps with
  | false=>
   obtain ⟨t0,t1⟩:=aoG H h hs sm (.int n)
   exact ⟨_,_,rows 2 1,t0,t1,rfl,acV 2 1,.inl ⟨rfl,rfl⟩⟩
  | true=>
   by_cases hv:n<=val b e ps
   ·obtain ⟨t0,t1⟩:=aoE H h hs sm n0 n9 hv
    have hw:=ae1 h hk sm
    obtain ⟨hlt,hc⟩:=ahj H h hs hw n0 hv
    exact ⟨_,_,_,t0,t1,rfl,ajl (arZ _ _ _) (by omega),.inr (.inr ⟨rfl,hv,fun μ Q k=>ahi H h hs hw n0 hlt hc k⟩)⟩
   ·obtain ⟨t0,t1⟩:=aoF H h hs sm n0 n9 (by omega)
    exact ⟨_,_,rows 2 4,t0,t1,rfl,acV 2 4,.inr (.inl ⟨rfl,by omega,rfl⟩)⟩
 obtain ⟨d0,d1,DUE,t0,t1,ls,ne1,due⟩:=main
 generalize aeb (jj u e l b) b ps0.length one (1+y0)=QD at*
 generalize aeb (jj u e l b) b 2 1 99999=Q3 at*
 exact aoM (fun _=>rfl) mn st ln f4 lv f6 mi d40 due t0 t1 ls ne1 t2 ne2 d42 i42 d41 d44 i44 d43 q1 q2 nq d50 i50 o0 p0 p1 p2 p3 q3 q4 n3 ls2 d51 i51 b0 b1 b2 sl m0 m1 m2 mp
end
end Rods
end
section
namespace BX
open PySem L2
open PyProof.Rows hiding St
theorem jT.thr {P:Program}{w:World}{K:Fg}{mg:SV}{base h:Heap}{x:Str}{st:Stmt}{ps:List Str}{k n:Nat}{g:LP->Option Str} (T:jT K x st) (X:K.In h) (G:h.Ns mainGlobals mg)
  (pa:jt x st ps) (ok:∀ f fd,Fun K x x st f fd->FnOk P w K mg base (CXt P w) k f fd ps (ajX K mg n g)):zB P w K mg base x ps k n g:=by
 obtain ⟨f,oc,od,an,kV,doc,pm,Kc,ct,osl,a,l,c,kp⟩:=T
 have F1:=ac3 (st:=st) l c kp
 exact ⟨f,_,ok f _ F1,PySem.W.mg_of X G a,kp,F1.binds pa⟩
theorem jT.hdl {P:Program}{w:World}{K:Fg}{mg:SV}{base h:Heap}{x:Str}{st:Stmt}{ps:List Str}{k n:Nat}{g:LP->OP} (T:jT K x st) (X:K.In h) (G:h.Ns mainGlobals mg)
  (pa:jt x st ps) (ok:∀ f fd,Fun K x x st f fd->FnH P w K mg base k f fd ps (Pur K n g)):aa2 P w K mg base x ps k n g:=by
 obtain ⟨f,oc,od,an,kV,doc,pm,Kc,ct,osl,a,l,c,kp⟩:=T
 have F1:=ac3 (st:=st) l c kp
 exact ⟨f,_,ok f _ F1,PySem.W.mg_of X G a,kp,F1.binds pa⟩
end BX
namespace Rods
open PySem L2 BX
open PyProof.Rows hiding St
structure Tops (K:Fg):Prop where
 isWhole:jT K "is_whole" aa8
 rodWorth:jT K "rod_worth" ZW
 beads:jT K "beads" afB
 allRods:jT K "all_rods" aa9
 hasAll:jT K "has_all_digits" ZX
 isManner:jT K "is_manner" ZY
 check:jT K "check_manner" adu
 rodsWith:jT K "rods_with" QE
 fewest:jT K "fewest_beads" acD
 chkRods:jT K "check_rods" JQ
 chkNum:jT K "check_number" zP
 asked:jT K "check_asked" Jt
 num:jT K "number_on" JI
 digits:jT K "digits_by_rods" Z1
 plainR:jT K "plain_rods" Z0
 isRod:jT K "is_rod" afH
 isSet:jT K "is_setting" Je
 chkSet:jT K "check_setting" zt
 cell:jT K "_law_cell" ai6
 drawn:jT K "_law_drawn" afJ
 manner:jT K "_law_manner" acF
 setting:jT K "_law_setting" QF
 small:jT K "is_small" QG
 enough:jT K "check_enough" abg
 beh:jT K "behind_changes" Z7
 DT:jT K "digit_taken" sDT
 cbd:jT K "changes_by_digits" akh
 taking:jT K "taking" abh
 taken:jT K "taken" adA
 places:jT K "places" Z8
 quot:jT K "quotient" adB
 LValue:jT K "_law_value" aad
 LRods:jT K "_law_rods" aaJ
 LFewest:jT K "_law_fewest" ZF
 LPlain:jT K "_law_plain" aae
 LDigit:jT K "_law_digit" aag
 LParted:jT K "_law_parted" Ju
 LRefused:jT K "_law_refused" JL
 LTold:jT K "_law_told" ab1
 LQuotient:jT K "_law_quotient" Jg
 LTaking:jT K "_law_taking" zu
 law:jT K "law" ad8
structure Consts (K:Fg) (mg:SV):Prop where
 b:Bare mg
 least:GC K mg "LEAST_PARTS" (.tuple [.int 0,.int 1,.int 0,.int 2])
 most:GC K mg "MOST_PARTS" (.tuple [.int 3,.int 16,.int 12,.int 16])
 mostRods:GC K mg "MOST_RODS" (.int 4)
 mostNumber:GC K mg "MOST_NUMBER" (.int 99999)
 errT:ErrT K mg "BeadError" qQ
theorem aiv:jt "is_whole" aa8 ["thing","least","most"]:=fun _ _ _ _ _ _ us hl=>by obtain ⟨v0,v1,v2,rfl⟩:=aco us hl; rfl
theorem aho:jt "rod_worth" ZW ["manner","rod"]:=fun _ _ _ _ _ _ us hl=>by obtain ⟨v0,v1,rfl⟩:=aat us hl; rfl
theorem am0:jt "beads" afB ["rod"]:=fun _ _ _ _ _ _ us hl=>by obtain ⟨v0,rfl⟩:=adY us hl; rfl
theorem aiw:jt "all_rods" aa9 ["manner"]:=fun _ _ _ _ _ _ us hl=>by obtain ⟨v0,rfl⟩:=adY us hl; rfl
theorem akE:jt "has_all_digits" ZX ["manner"]:=fun _ _ _ _ _ _ us hl=>by obtain ⟨v0,rfl⟩:=adY us hl; rfl
theorem ahp:jt "is_manner" ZY ["thing"]:=fun _ _ _ _ _ _ us hl=>by obtain ⟨v0,rfl⟩:=adY us hl; rfl
theorem ahq:jt "check_manner" adu ["thing"]:=fun _ _ _ _ _ _ us hl=>by obtain ⟨v0,rfl⟩:=adY us hl; rfl
theorem ahr:jt "rods_with" QE ["manner","worth"]:=fun _ _ _ _ _ _ us hl=>by obtain ⟨v0,v1,rfl⟩:=aat us hl; rfl
theorem akF:jt "fewest_beads" acD ["manner","worth"]:=fun _ _ _ _ _ _ us hl=>by obtain ⟨v0,v1,rfl⟩:=aat us hl; rfl
theorem adX:jt "check_rods" JQ ["rods"]:=fun _ _ _ _ _ _ us hl=>by obtain ⟨v0,rfl⟩:=adY us hl; rfl
theorem ae3:jt "check_number" zP ["number"]:=fun _ _ _ _ _ _ us hl=>by obtain ⟨v0,rfl⟩:=adY us hl; rfl
theorem ahs:jt "check_asked" Jt ["manner","rods","number"]:=fun _ _ _ _ _ _ us hl=>by obtain ⟨v0,v1,v2,rfl⟩:=aco us hl; rfl
theorem aqH:jt "number_on" JI ["manner","setting"]:=fun _ _ _ _ _ _ us hl=>by obtain ⟨v0,v1,rfl⟩:=aat us hl; rfl
theorem akG:jt "digits_by_rods" Z1 ["base","rods","number"]:=fun _ _ _ _ _ _ us hl=>by obtain ⟨v0,v1,v2,rfl⟩:=aco us hl; rfl
theorem ae4:jt "plain_rods" Z0 ["manner","rods","number"]:=fun _ _ _ _ _ _ us hl=>by obtain ⟨v0,v1,v2,rfl⟩:=aco us hl; rfl
theorem am1:jt "is_rod" afH ["manner","thing"]:=fun _ _ _ _ _ _ us hl=>by obtain ⟨v0,v1,rfl⟩:=aat us hl; rfl
theorem aht:jt "is_setting" Je ["manner","thing"]:=fun _ _ _ _ _ _ us hl=>by obtain ⟨v0,v1,rfl⟩:=aat us hl; rfl
theorem ae5:jt "check_setting" zt ["manner","thing"]:=fun _ _ _ _ _ _ us hl=>by obtain ⟨v0,v1,rfl⟩:=aat us hl; rfl
theorem aoN:jt "_law_cell" ai6 ["_law_script","_law_k"]:=fun _ _ _ _ _ _ us hl=>by obtain ⟨v0,v1,rfl⟩:=aat us hl; rfl
theorem am2:jt "_law_drawn" afJ ["_law_script","_law_k","_law_many"]:=fun _ _ _ _ _ _ us hl=>by obtain ⟨v0,v1,v2,rfl⟩:=aco us hl; rfl
theorem akH:jt "_law_manner" acF ["_law_script","_law_at"]:=fun _ _ _ _ _ _ us hl=>by obtain ⟨v0,v1,rfl⟩:=aat us hl; rfl
theorem aix:jt "_law_setting" QF ["_law_script","_law_at","_law_manner_here","_law_most"]:=fun _ _ _ _ _ _ us hl=>by obtain ⟨v0,v1,v2,v3,rfl⟩:=ahA us hl; rfl
theorem ahu:jt "is_small" QG ["manner","setting"]:=fun _ _ _ _ _ _ us hl=>by obtain ⟨v0,v1,rfl⟩:=aat us hl; rfl
theorem ae6:jt "check_enough" abg ["manner","setting","number"]:=fun _ _ _ _ _ _ us hl=>by obtain ⟨v0,v1,v2,rfl⟩:=aco us hl; rfl
theorem aqI:jt "behind_changes" Z7 ["setting","changes"]:=fun _ _ _ _ _ _ us hl=>by obtain ⟨v0,v1,rfl⟩:=aat us hl; rfl
theorem ao6:jt "digit_taken" sDT ["manner","setting","rod","digit"]:=fun _ _ _ _ _ _ us hl=>by obtain ⟨v0,v1,v2,v3,rfl⟩:=ahA us hl; rfl
theorem aqJ:jt "changes_by_digits" akh ["manner","setting","number","digit_changes"]:=fun _ _ _ _ _ _ us hl=>by obtain ⟨v0,v1,v2,v3,rfl⟩:=ahA us hl; rfl
theorem ae7:jt "taking" abh ["manner","setting","number"]:=fun _ _ _ _ _ _ us hl=>by obtain ⟨v0,v1,v2,rfl⟩:=aco us hl; rfl
theorem ahv:jt "taken" adA ["manner","setting","number"]:=fun _ _ _ _ _ _ us hl=>by obtain ⟨v0,v1,v2,rfl⟩:=aco us hl; rfl
theorem akI:jt "places" Z8 ["base","rods"]:=fun _ _ _ _ _ _ us hl=>by obtain ⟨v0,v1,rfl⟩:=aat us hl; rfl
theorem ajx:jt "quotient" adB ["manner","rods","number","by"]:=fun _ _ _ _ _ _ us hl=>by obtain ⟨v0,v1,v2,v3,rfl⟩:=ahA us hl; rfl
theorem akJ:jt "_law_value" aad ["_law_manner_here","_law_setting_here"]:=fun _ _ _ _ _ _ us hl=>by obtain ⟨v0,v1,rfl⟩:=aat us hl; rfl
theorem am3:jt "_law_rods" aaJ ["_law_manner_here"]:=fun _ _ _ _ _ _ us hl=>by obtain ⟨v0,rfl⟩:=adY us hl; rfl
theorem aiy:jt "_law_fewest" ZF ["_law_manner_here","_law_digit_here"]:=fun _ _ _ _ _ _ us hl=>by obtain ⟨v0,v1,rfl⟩:=aat us hl; rfl
theorem akK:jt "_law_plain" aae ["_law_manner_here","_law_rods_here","_law_number"]:=fun _ _ _ _ _ _ us hl=>by obtain ⟨v0,v1,v2,rfl⟩:=aco us hl; rfl
theorem akL:jt "_law_digit" aag ["_law_base","_law_number","_law_far_here"]:=fun _ _ _ _ _ _ us hl=>by obtain ⟨v0,v1,v2,rfl⟩:=aco us hl; rfl
theorem aiz:jt "_law_parted" Ju ["_law_manner_here","_law_rods_here","_law_number","_law_by"]:=fun _ _ _ _ _ _ us hl=>by obtain ⟨v0,v1,v2,v3,rfl⟩:=ahA us hl; rfl
theorem ahw:jt "_law_refused" JL ["_law_e"]:=fun _ _ _ _ _ _ us hl=>by obtain ⟨v0,rfl⟩:=adY us hl; rfl
theorem am4:jt "_law_told" ab1 ["_law_way","_law_manner_here","_law_setting_here","_law_number"]:=fun _ _ _ _ _ _ us hl=>by obtain ⟨v0,v1,v2,v3,rfl⟩:=ahA us hl; rfl
theorem af8:jt "_law_quotient" Jg ["_law_manner_here","_law_rods_here","_law_number","_law_by"]:=fun _ _ _ _ _ _ us hl=>by obtain ⟨v0,v1,v2,v3,rfl⟩:=ahA us hl; rfl
theorem aiA:jt "_law_taking" zu ["_law_manner_here","_law_setting_here","_law_number"]:=fun _ _ _ _ _ _ us hl=>by obtain ⟨v0,v1,v2,rfl⟩:=aco us hl; rfl
theorem asJ (HT:qp=true) {P:Program}{w:World}{K:Fg}{h:Heap}{mg:SV}{base:Heap} (X:K.In h) (G:h.Ns mainGlobals mg) (T:Tops K) (C:Consts K mg):CLaw P w K mg base:=by
 have c_isWhole:jm P w K mg base "is_whole" ["thing","least","most"] 1 3 jU:=T.isWhole.callee X G aiv fun f fd F=>jO F ah5 fun Kc A Ko s H E hr=>aba.2 P w K mg base f Kc A Ko s H E C.b hr
 have c_rodWorth:jm P w K mg base "rod_worth" ["manner","rod"] 1 2 qw:=T.rodWorth.callee X G aho fun f fd F=>jO F agI fun Kc A Ko s H E hr=>abM.2 P w K mg base f Kc A Ko s H E trivial hr
 have c_beads:jm P w K mg base "beads" ["rod"] 1 1 qY:=T.beads.callee X G am0 fun f fd F=>jO F amk fun Kc A Ko s H E hr=>ah6.2 P w K mg base f Kc A Ko s H E trivial hr
 have c_allRods:jm P w K mg base "all_rods" ["manner"] 1 1 JP:=T.allRods.callee X G aiw fun f fd F=>ah7 F C.b
 have c_hasAll:jm P w K mg base "has_all_digits" ["manner"] 2 1 abc:=T.hasAll.callee X G akE fun f fd F=>jO F aeG fun Kc A Ko s H E hr=>afD.2 P w K mg base f Kc A Ko s H E ⟨C.b,c_allRods,c_rodWorth⟩ hr
 have c_isManner:jm P w K mg base "is_manner" ["thing"] 3 1 j6:=T.isManner.callee X G ahp fun f fd F=>jO F Qc fun Kc A Ko s H E hr=>abN.2 P w K mg base f Kc A Ko s H E ⟨C.b,C.least,C.most,c_isWhole,c_hasAll⟩ hr
 have c_check:jm P w K mg base "check_manner" ["thing"] 4 1 Jc:=T.check.callee X G ahq fun f fd F=>jO F agL fun Kc A Ko s H E hr=>afE.2 P w K mg base f Kc A Ko s H E ⟨c_isManner⟩ hr
 have c_rodsWith:jm P w K mg base "rods_with" ["manner","worth"] 2 2 ZZ:=T.rodsWith.callee X G ahr fun f fd F=>jO F agM fun Kc A Ko s H E hr=>abO.2 P w K mg base f Kc A Ko s H E ⟨c_allRods,c_rodWorth⟩ hr
 have c_fewest:jm P w K mg base "fewest_beads" ["manner","worth"] 3 2 zO:=T.fewest.callee X G akF fun f fd F=>jO F akg fun Kc A Ko s H E hr=>acE.2 P w K mg base f Kc A Ko s H E ⟨C.b,c_rodsWith,c_beads⟩ hr
 have c_chkRods:jm P w K mg base "check_rods" ["rods"] 2 1 zr:=T.chkRods.callee X G adX fun f fd F=>jO F adw fun Kc A Ko s H E hr=>abd.2 P w K mg base f Kc A Ko s H E ⟨c_isWhole,C.mostRods⟩ hr
 have c_chkNum:jm P w K mg base "check_number" ["number"] 2 1 qU:=T.chkNum.callee X G ae3 fun f fd F=>jO F aeI fun Kc A Ko s H E hr=>abe.2 P w K mg base f Kc A Ko s H E ⟨c_isWhole,C.mostNumber⟩ hr
 have c_asked:jm P w K mg base "check_asked" ["manner","rods","number"] 5 3 Jd:=T.asked.callee X G ahs fun f fd F=>jO F agO fun Kc A Ko s H E hr=>adx.2 P w K mg base f Kc A Ko s H E ⟨c_check,c_chkRods,c_chkNum⟩ hr
 have c_num:jm P w K mg base "number_on" ["manner","setting"] 2 2 agN:=T.num.callee X G aqH fun f fd F=>jO F afF fun Kc A Ko s H E hr=>an2.2 P w K mg base f Kc A Ko s H E ⟨c_rodWorth⟩ hr
 have c_digits:jm P w K mg base "digits_by_rods" ["base","rods","number"] 1 3 agP:=T.digits.callee X G akG fun f fd F=>jO F afI fun Kc A Ko s H E hr=>an4.2 P w K mg base f Kc A Ko s H E C.b hr
 have c_plainR:jm P w K mg base "plain_rods" ["manner","rods","number"] 4 3 Z5:=T.plainR.callee X G ae4 fun f fd F=>jO F Z3 fun Kc A Ko s H E hr=>Z4.2 P w K mg base f Kc A Ko s H E ⟨C.b,c_digits,c_fewest⟩ hr
 have c_isRod:jm P w K mg base "is_rod" ["manner","thing"] 2 2 Q6:=T.isRod.callee X G am1 fun f fd F=>jO F aml fun Kc A Ko s H E hr=>abQ.2 P w K mg base f Kc A Ko s H E ⟨C.b,c_isWhole⟩ hr
 have c_isSet:jm P w K mg base "is_setting" ["manner","thing"] 5 2 aaG:=T.isSet.callee X G aht fun f fd F=>jO F agQ fun Kc A Ko s H E hr=>aaF.2 P w K mg base f Kc A Ko s H E ⟨C.b,c_check,c_isRod,C.mostRods⟩ hr
 have c_chkSet:jm P w K mg base "check_setting" ["manner","thing"] 6 2 zw:=T.chkSet.callee X G ae5 fun f fd F=>jO F aeJ fun Kc A Ko s H E hr=>abf.2 P w K mg base f Kc A Ko s H E ⟨c_isSet⟩ hr
 have c_cell:jm P w K mg base "_law_cell" ["_law_script","_law_k"] 1 2 agR:=T.cell.callee X G aoN fun f fd F=>jO F an5 fun Kc A Ko s H E hr=>ai7.2 P w K mg base f Kc A Ko s H E C.b hr
 have c_drawn:jm P w K mg base "_law_drawn" ["_law_script","_law_k","_law_many"] 2 3 qI:=T.drawn.callee X G am2 fun f fd F=>jO F ady fun Kc A Ko s H E hr=>ah8.2 P w K mg base f Kc A Ko s H E ⟨c_cell⟩ hr
 have c_manner:jm P w K mg base "_law_manner" ["_law_script","_law_at"] 3 2 Z6:=T.manner.callee X G akH fun f fd F=>jO F Jf fun Kc A Ko s H E hr=>acG.2 P w K mg base f Kc A Ko s H E ⟨C.b,c_drawn⟩ hr
 have c_setting:jm P w K mg base "_law_setting" ["_law_script","_law_at","_law_manner_here","_law_most"] 3 4 an8:=T.setting.callee X G aix fun f fd F=>jO F abT fun Kc A Ko s H E hr=>an7.2 P w K mg base f Kc A Ko s H E ⟨C.b,c_drawn⟩ hr
 have c_small:jm P w K mg base "is_small" ["manner","setting"] 7 2 zQ:=T.small.callee X G ahu fun f fd F=>jO F agS fun Kc A Ko s H E hr=>adz.2 P w K mg base f Kc A Ko s H E ⟨C.b,c_chkSet,c_rodWorth⟩ hr
 have c_enough:jm P w K mg base "check_enough" ["manner","setting","number"] 3 3 aaa:=T.enough.callee X G ae6 fun f fd F=>jO F aeK fun Kc A Ko s H E hr=>Z9.2 P w K mg base f Kc A Ko s H E ⟨c_num⟩ hr
 have c_beh:jm P w K mg base "behind_changes" ["setting","changes"] 1 2 ah9:=T.beh.callee X G aqI fun f fd F=>jO F afM fun Kc A Ko s H E hr=>aoa.2 P w K mg base f Kc A Ko s H E C.b hr
 have c_DT:∀ d:Nat,jm P w K mg base "digit_taken" ["manner","setting","rod","digit"] (d+3) 4 (gDT d):=by
  intro d
  induction d with
  | zero=>exact T.DT.callee X G ao6 fun f fd F=>⟨fun vs H Q E h=>(by obtain ⟨ds,d,_,_,h,_⟩:=h; cases h),fun A Ko s H args us vs Q E _ _ _ _ h=>(by obtain ⟨ds,d,_,_,h,_⟩:=h; cases h)⟩
  | succ d ih=>exact T.DT.callee X G ao6 fun f fd F=>jO F amm fun Kc A Ko s H E hr=>(bDT (gDT d) d).2 P w K mg base f Kc A Ko s H E ⟨c_rodWorth,c_fewest,ih⟩ hr
 have g_DT:GC K mg "digit_taken" (fnD "digit_taken"):=by
  obtain ⟨f,oc,od,an,kV,doc,pm,Kc,ct,osl,a,_⟩:=T.DT
  exact ⟨.ref f,.ref f,PySem.W.mg_of X G a,rfl,fun H=>⟨f,rfl,.inr (.inr (.inl ⟨_,rfl,a⟩))⟩⟩
 have c_cbdT:jm P w K mg base "changes_by_digits" ["manner","setting","number","digit_changes"] 10 4 gCT:=T.cbd.callee X G aqJ fun f fd F=>jO F aaH fun Kc A Ko s H E hr=>(aoc "digit_taken" (gDT 6)).2 P w K mg base f Kc A Ko s H E ⟨C.b,c_digits,c_beh,c_DT 6⟩ hr
 have c_taking:jm P w K mg base "taking" ["manner","setting","number"] 11 3 zy:=T.taking.callee X G ae7 fun f fd F=>jO F aeL fun Kc A Ko s H E hr=>zx.2 P w K mg base f Kc A Ko s H E ⟨c_small,c_chkNum,c_enough,c_cbdT,g_DT⟩ hr
 have g_taking:GC K mg "taking" (fnD "taking"):=by
  obtain ⟨f,oc,od,an,kV,doc,pm,Kc,ct,osl,a,_⟩:=T.taking
  exact ⟨.ref f,.ref f,PySem.W.mg_of X G a,rfl,fun H=>⟨f,rfl,.inr (.inr (.inl ⟨_,rfl,a⟩))⟩⟩
 have c_taken:jm P w K mg base "taken" ["manner","setting","number"] 12 3 ZB:=T.taken.callee X G ahv fun f fd F=>jO F agT fun Kc A Ko s H E hr=>afN.2 P w K mg base f Kc A Ko s H E ⟨c_taking,c_beh⟩ hr
 have g_taken:GC K mg "taken" (fnD "taken"):=by
  obtain ⟨f,oc,od,an,kV,doc,pm,Kc,ct,osl,a,_⟩:=T.taken
  exact ⟨.ref f,.ref f,PySem.W.mg_of X G a,rfl,fun H=>⟨f,rfl,.inr (.inr (.inl ⟨_,rfl,a⟩))⟩⟩
 have c_places:jm P w K mg base "places" ["base","rods"] 1 2 aof:=T.places.callee X G akI fun f fd F=>jO F amn fun Kc A Ko s H E hr=>aoe.2 P w K mg base f Kc A Ko s H E C.b hr
 have c_quot:jm P w K mg base "quotient" ["manner","rods","number","by"] 6 4 agU:=T.quot.callee X G ajx fun f fd F=>jO F aaI fun Kc A Ko s H E hr=>ad7.2 P w K mg base f Kc A Ko s H E ⟨c_asked,c_isWhole,c_plainR,c_num,c_places,C.mostNumber⟩ hr
 have x_check:zB P w K mg base "check_manner" ["thing"] 4 1 ZC:=T.check.thr X G ahq fun f fd F=>Jx F agL fun Kc A Ko s H E hr=>abW.2 P w K mg base f Kc A Ko s H E ⟨c_isManner,(C.errT.err (by decide))⟩ hr
 have x_isSet:zB P w K mg base "is_setting" ["manner","thing"] 5 2 afP:=T.isSet.thr X G aht fun f fd F=>Jx F agQ fun Kc A Ko s H E hr=>abX.2 P w K mg base f Kc A Ko s H E ⟨x_check⟩ hr
 have x_chkSet:zB P w K mg base "check_setting" ["manner","thing"] 6 2 Jl:=T.chkSet.thr X G ae5 fun f fd F=>Jx F aeJ fun Kc A Ko s H E hr=>Qd.2 P w K mg base f Kc A Ko s H E ⟨c_isSet,x_isSet,(C.errT.err (by decide))⟩ hr
 have x_chkRods:zB P w K mg base "check_rods" ["rods"] 2 1 ZD:=T.chkRods.thr X G adX fun f fd F=>Jx F adw fun Kc A Ko s H E hr=>abi.2 P w K mg base f Kc A Ko s H E ⟨c_isWhole,C.mostRods,(C.errT.err (by decide))⟩ hr
 have x_chkNum:zB P w K mg base "check_number" ["number"] 2 1 JC:=T.chkNum.thr X G ae3 fun f fd F=>Jx F aeI fun Kc A Ko s H E hr=>aab.2 P w K mg base f Kc A Ko s H E ⟨c_isWhole,C.mostNumber,(C.errT.err (by decide))⟩ hr
 have x_asked:zB P w K mg base "check_asked" ["manner","rods","number"] 5 3 Q7:=T.asked.thr X G ahs fun f fd F=>Jx F agO fun Kc A Ko s H E hr=>ZE.2 P w K mg base f Kc A Ko s H E ⟨c_chkRods,c_check,x_check,x_chkRods,x_chkNum⟩ hr
 have x_plainR:zB P w K mg base "plain_rods" ["manner","rods","number"] 4 3 acI:=T.plainR.thr X G ae4 fun f fd F=>Jx F Z3 fun Kc A Ko s H E hr=>acH.2 P w K mg base f Kc A Ko s H E ⟨c_digits,(C.errT.err (by decide))⟩ hr
 have x_small:zB P w K mg base "is_small" ["manner","setting"] 7 2 Qk:=T.small.thr X G ahu fun f fd F=>Jx F agS fun Kc A Ko s H E hr=>abY.2 P w K mg base f Kc A Ko s H E ⟨x_chkSet⟩ hr
 have x_enough:zB P w K mg base "check_enough" ["manner","setting","number"] 3 3 abj:=T.enough.thr X G ae6 fun f fd F=>Jx F aeK fun Kc A Ko s H E hr=>aac.2 P w K mg base f Kc A Ko s H E ⟨c_num,(C.errT.err (by decide))⟩ hr
 have x_taking:zB P w K mg base "taking" ["manner","setting","number"] 11 3 JD:=T.taking.thr X G ae7 fun f fd F=>Jx F aeL fun Kc A Ko s H E hr=>Jm.2 P w K mg base f Kc A Ko s H E ⟨c_small,c_chkNum,x_small,x_chkNum,x_enough,(C.errT.err (by decide))⟩ hr
 have x_taken:zB P w K mg base "taken" ["manner","setting","number"] 12 3 afR:=T.taken.thr X G ahv fun f fd F=>Jx F agT fun Kc A Ko s H E hr=>afQ.2 P w K mg base f Kc A Ko s H E ⟨c_beh,x_taking⟩ hr
 have x_quot:zB P w K mg base "quotient" ["manner","rods","number","by"] 6 4 akj:=T.quot.thr X G ajx fun f fd F=>Jx F aaI fun Kc A Ko s H E hr=>agV.2 P w K mg base f Kc A Ko s H E ⟨c_isWhole,c_asked,C.mostNumber,x_asked,x_plainR,(C.errT.err (by decide))⟩ hr
 have c_LValue:jm P w K mg base "_law_value" ["_law_manner_here","_law_setting_here"] 1 2 acL:=T.LValue.callee X G akJ fun f fd F=>jO F QH fun Kc A Ko s H E hr=>acK.2 P w K mg base f Kc A Ko s H E ⟨trivial⟩ hr
 have c_LRods:jm P w K mg base "_law_rods" ["_law_manner_here"] 1 1 afU:=T.LRods.callee X G am3 fun f fd F=>jO F abl fun Kc A Ko s H E hr=>afT.2 P w K mg base f Kc A Ko s H E ⟨C.b⟩ hr
 have c_LFewest:jm P w K mg base "_law_fewest" ["_law_manner_here","_law_digit_here"] 2 2 zj:=T.LFewest.callee X G aiy fun f fd F=>jO F adE fun Kc A Ko s H E hr=>abn.2 P w K mg base f Kc A Ko s H E ⟨C.b,c_LRods⟩ hr
 have c_LPlain:jm P w K mg base "_law_plain" ["_law_manner_here","_law_rods_here","_law_number"] 3 3 aaf:=T.LPlain.callee X G akK fun f fd F=>jO F QI fun Kc A Ko s H E hr=>abo.2 P w K mg base f Kc A Ko s H E ⟨C.b,c_LFewest⟩ hr
 have c_LDigit:jm P w K mg base "_law_digit" ["_law_base","_law_number","_law_far_here"] 1 3 acP:=T.LDigit.callee X G akL fun f fd F=>jO F abZ fun Kc A Ko s H E hr=>acO.2 P w K mg base f Kc A Ko s H E ⟨C.b⟩ hr
 have c_LParted:jm P w K mg base "_law_parted" ["_law_manner_here","_law_rods_here","_law_number","_law_by"] 4 4 JR:=T.LParted.callee X G aiz fun f fd F=>jO F zD fun Kc A Ko s H E hr=>QJ.2 P w K mg base f Kc A Ko s H E ⟨C.b,c_LPlain⟩ hr
 have h_LRefused:aa2 P w K mg base "_law_refused" ["_law_e"] 1 1 qK:=T.LRefused.hdl X G ahw fun f fd F=>ass F ZI fun Kc A Ko s H E hr=>aeM.2 P w K mg base f Kc A Ko s H E ⟨C.b,C.errT⟩ hr
 have c_LTold:jm P w K mg base "_law_told" ["_law_way","_law_manner_here","_law_setting_here","_law_number"] 13 4 jY:=T.LTold.callee X G am4 fun f fd F=>agt F agX fun Kc A Ko s H E hr=>zR.2 P w K mg base f Kc A Ko s H E ⟨c_taking,c_taken,c_small,g_taking,g_taken,x_taking,x_taken,x_small,h_LRefused,C.errT⟩ hr
 have c_LQuotient:jm P w K mg base "_law_quotient" ["_law_manner_here","_law_rods_here","_law_number","_law_by"] 7 4 j4:=T.LQuotient.callee X G af8 fun f fd F=>agt F abp fun Kc A Ko s H E hr=>Jh.2 P w K mg base f Kc A Ko s H E ⟨c_quot,x_quot,h_LRefused,C.errT⟩ hr
 have k_LTaking:ai5 P w K mg base "_law_taking" ["_law_manner_here","_law_setting_here","_law_number"] 3 3 JS:=T.LTaking.cal0 X G aiA fun f fd F=>aoX F qj fun Kc A Ko s H E hr=>abq.2 P w K mg base f Kc A Ko s H E ⟨C.b,c_LDigit,c_LFewest⟩ hr
 exact ⟨k_LTaking,C.b,c_manner,c_setting,c_drawn,c_LFewest,c_LValue,c_LTold,c_LQuotient,c_LParted⟩
theorem aqK (HT:qp=true) {P:Program}{w:World}{K:Fg}{h:Heap}{mg:SV}{fa:Addr} (X:K.In h) (G:h.Ns mainGlobals mg) (hfa:mg "law"=some (.ref fa)) (T:Tops K) (C:Consts K mg):
  ∃ fd:FuncData,(∀ (s:Shared) (v:Value),BindsTo s fd ⟨[v],[]⟩ [("_law_script",v)])/\∀ base:Heap,K.In base->base.Ns mainGlobals mg->FnOk P w K mg base CX0 14 fa fd ["_law_script"] (aeF K 1 amu):=by
 have Q:∀ base:Heap,CLaw P w K mg base:=fun base=>asJ HT X G T C
 obtain ⟨f,oc,od,an,kV,doc,pm,Kc,ct,osl,a,l,c,kp⟩:=T.law
 have e:=hfa.symm.trans (PySem.W.mg_of X G a)
 cases e
 have F1:=ac3 (st:=ad8) l c kp
 exact ⟨_,fun s v=> .of_eq rfl,fun base _ _=>aoX F1 zk fun Kc A Ko s H E hr=>aog.2 P w K mg base fa Kc A Ko s H E (Q base) hr⟩
theorem ar0 (HT:qp=true) (K:Fg) (H:Hp) (a:Addr) (ns:List Int) (hl:ns.length<=63) (hS:SqL K H a (ns.map V.int)):aeF K 1 amu [.ref a] H (fun v _=>v= .bl true) fun _ _ _=>False:=
 ⟨[scr ns],fun _=>none,fun o _=>o= .ok (.bool true),rfl,⟨_,_,rfl,⟨a,rfl,.inl ⟨ns,hS,rfl⟩⟩,rfl⟩,(fun a c z=>nomatch z),akD HT ns (by omega),(fun d μ' r v H' _ rv _=>by cases r; exact rv),fun c μ' r=>nomatch r⟩
theorem asK (HT:qp=true) {l:PySem.W.OpenLaw}{q:Program}{loose:List Str}{XP:(SV)->Heap->Prop}{YP:World->Heap->Prop}{d:DefRec}{K:Params->Fg} (hn:l.most=some 63) (hdf:d.params.defaults=[])
  (hY:∀ (w:World) (h:Heap),YP w h->(K w.params).In h) (hnm:d.name="law")
  (F:∀ (w:World) (mg:SV) (h:Heap),(K w.params).In h->h.Ns mainGlobals mg->Tops (K w.params)/\Consts (K w.params) mg):
  PySem.W.WalkO q loose XP YP l.row.toRowW d [] (fun f vs=>PySem.call f vs):=
 L2.ank (n:=63) (k:=14) (x:="_law_script") (CX:=fun _=>CX0) (sp:=fun w=>aeF (K w.params) 1 amu) hn (by decide) hdf ⟨rfl,by decide,by decide⟩ hY (fun w mg fa h KX G hm=>by
  obtain ⟨T,C⟩:=F w mg h KX G
  rw [hnm] at hm
  exact aqK HT KX G hm T C) (fun w H a ns hl _ hS=>ar0 HT (K w.params) H a ns hl hS) fun _ _ _ _ _ z=>z
theorem aoO {K:Fg}{mg:SV}{h:Heap} (X:K.In h) (G:h.Ns mainGlobals mg) (z1:PySem.W.nsIn K mainGlobals "isinstance"=some none) (z2:PySem.W.nsIn K mainGlobals "bool"=some none) (z3:PySem.W.nsIn K mainGlobals "int"=some none) (z4:PySem.W.nsIn K mainGlobals "tuple"=some none) (z5:PySem.W.nsIn K mainGlobals "zip"=some none) (z6:PySem.W.nsIn K mainGlobals "range"=some none) (z7:PySem.W.nsIn K mainGlobals "all"=some none) (z8:PySem.W.nsIn K mainGlobals "len"=some none) (z9:PySem.W.nsIn K mainGlobals "max"=some none) (z10:PySem.W.nsIn K mainGlobals "min"=some none) (z11:PySem.W.nsIn K mainGlobals "sum"=some none) (z12:PySem.W.nsIn K mainGlobals "sorted"=some none) (z13:PySem.W.nsIn K mainGlobals "abs"=some none) (z14:PySem.W.nsIn K mainGlobals "list"=some none) (z15:PySem.W.nsIn K mainGlobals "enumerate"=some none) (z16:PySem.W.nsIn K mainGlobals "ValueError"=some none) (z17:PySem.W.nsIn K mainGlobals "str"=some none) (z18:PySem.W.nsIn K mainGlobals "set"=some none) (z19:PySem.W.nsIn K mainGlobals "dict"=some none):Bare mg:=
 have f:∀ {x:Str},PySem.W.nsIn K mainGlobals x=some none->mg x=none:=fun z=>PySem.W.mg_none_of X G z
 ⟨f z1,f z2,f z3,f z4,f z5,f z6,f z7,f z8,f z9,f z10,f z11,f z12,f z13,f z14,f z15,f z16,f z17,f z18,f z19⟩
theorem gc4 {K:Fg}{mg:SV}{h:Heap}{x:Str}{a:Addr}{od:Option Addr}{n:Nat}{osl:Array (Option Value)}{i1 i2 i3 i4:Int}{t1 t2 t3 t4:Tok} (X:K.In h) (G:h.Ns mainGlobals mg) (e:PySem.W.nsIn K mainGlobals x=some (some (.ref a)))
  (l:K.lookup a=some ⟨.type "tuple",od,.seq #[.int i1 t1,.int i2 t2,.int i3 t3,.int i4 t4] n,osl⟩):GC K mg x (.tuple [.int i1,.int i2,.int i3,.int i4]):=
 alz X G e l rfl ⟨_,_,[.int i1,.int i2,.int i3,.int i4],rfl,(by show 4<=sizeLine; rw [sizeLine_eq]; decide),.cons ⟨_,rfl⟩ (.cons ⟨_,rfl⟩ (.cons ⟨_,rfl⟩ (.cons ⟨_,rfl⟩ .nil))),fun H=>⟨_,_,rfl,rfl,_,_,rfl,rfl,_,_,rfl,rfl,_,_,rfl,rfl,rfl⟩⟩
theorem gcI {K:Fg}{mg:SV}{h:Heap}{x:Str}{i:Int}{t:Tok} (X:K.In h) (G:h.Ns mainGlobals mg) (e:PySem.W.nsIn K mainGlobals x=some (some (.int i t))):GC K mg x (.int i):=
 ⟨.int i,_,PySem.W.mg_of X G e,⟨t,rfl⟩,fun H=>rfl⟩
theorem aoP {K:Fg}{mg:SV}{h:Heap}{y:Str}{cs:List Str} (X:K.In h) (G:h.Ns mainGlobals mg) (q:afy K y cs=true):ErrT K mg y cs:=
 ⟨q,fun c C e=>PySem.W.mg_of X G (aiZ e)⟩
end Rods
def PySem.W.Fast.tw16665364028892136618:Unit:=()
def PySem.W.Fast.tw6385812086176946794:Unit:=()
def PySem.W.Fast.tw18254523435056872470:Unit:=()
def PySem.W.Fast.tw10986322368097605499:Unit:=()
def PySem.W.Fast.tw18237183673648393967:Unit:=()
def PySem.W.Fast.tw7982194903117628028:Unit:=()
def PySem.W.Fast.tw1566039309593868416:Unit:=()
def PySem.W.Fast.tw12257184061151882912:Unit:=()
def PySem.W.Fast.tw7580429340622396215:Unit:=()
open PySem PySem.W PyProof.Rows
set_option maxRecDepth 100000 in
set_option maxHeartbeats 0 in
theorem PySem.Challenge.cw_beadrods_k32_taking_holds : PySem.Challenge.rw_beadrods_k32_taking.Holds := by
  w_on; o_law; k_head; (case hw => w_witness2)
  k_fill
  refine Rods.asK Rods.allN_true (l := PySem.Challenge.rw_beadrods_k32_taking) rfl rfl (fun w h Y => PySem.W.kIn_of Y) rfl ?F
  case F =>
    intro w mg h KX G
    refine ⟨⟨?f1, ?f2, ?f3, ?f4, ?f5, ?f6, ?f7, ?f8, ?f9, ?f10, ?f11, ?f12, ?f13, ?f14, ?f15, ?f16, ?f17, ?f18, ?f19, ?f20, ?f21, ?f22, ?f23, ?f24, ?f25, ?f26, ?f27, ?f28, ?f29, ?f30, ?f31, ?f32, ?f33, ?f34, ?f35, ?f36, ?f37, ?f38, ?f39, ?f40, ?f41, ?f42⟩, ⟨?b, ?c1, ?c2, ?c3, ?c4, ?et⟩⟩
    case b => refine' Rods.aoO KX G ?_ ?_ ?_ ?_ ?_ ?_ ?_ ?_ ?_ ?_ ?_ ?_ ?_ ?_ ?_ ?_ ?_ ?_ ?_ <;> k_is
    case c1 =>
      refine' Rods.gc4 KX G ?a ?l
      (case a => k_is); (case l => k_is)
    case c2 =>
      refine' Rods.gc4 KX G ?a ?l
      (case a => k_is); (case l => k_is)
    case c3 =>
      refine' Rods.gcI KX G ?a
      (case a => k_is)
    case c4 =>
      refine' Rods.gcI KX G ?a
      (case a => k_is)
    case et => exact Rods.aoP KX G (by kernel_rfl)
    all_goals
      refine' BX.aly ?a ?l ?c ?k
      (case a => k_is); (case l => k_is); (case c => k_is); (case k => k_is)
#print axioms PySem.Challenge.cw_beadrods_k32_taking_holds
end
