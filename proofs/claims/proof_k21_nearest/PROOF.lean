import PyProof.Rows.All
import Wide.All
import OpenK.AllK
import Wide.FinOn
import Lean
import PyProof.EqAt
import PyProof.EqKinds
import PyProof.TupleCall
import PyProof.DictWalks
import PyProof.ListMulRoad
import PyProof.Rows.Range3
import PyProof.StationsW
import OpenK.KOwn
import PyProof.ExcBaseAll.ValueError
import PyProof.MaxThree
import KE.KIsAll
import KE.KIsNot
import PyProof.RulesAs
import PyProof.ExcArgsOwn
import PyProof.ExcAttrAll.ValueError
import KE.KRevSl
import PySem.Challenge.RW_beadrods_k21_nearest
set_option Elab.async false
set_option linter.all false
set_option maxRecDepth 100000
set_option maxHeartbeats 4000000
theorem zzA {α : Type _} {a : α} {l : List α} : (a :: l)[0]? = some a := rfl
theorem zzB {α : Type _} {a : α} {i : Nat} {l : List α} : (a :: l)[i + 1]? = l[i]? := rfl
theorem zzC {α : Type _} {o : Option α} : (some o).join = o := rfl
theorem zzD {α β : Type _} (a : α) (f : α → Option β) : (some a).bind f = f a := rfl
theorem zzE {α β : Type _} (a : α) (f : α → β) : Option.map f (some a) = some (f a) := rfl
theorem zzF {α : Type _} {x : α} {xs : List α} {i : Nat} {a : α} : (x :: xs).set (i + 1) a = x :: xs.set i a := rfl
theorem zzG {α : Type _} {x : α} {xs : List α} {a : α} : (x :: xs).set 0 a = a :: xs := rfl
theorem zzH {α β : Type _} (f : α → Option β) : (none : Option α).bind f = none := rfl
theorem zzI {α β : Type _} (f : α → β) : Option.map f (none : Option α) = none := rfl
theorem zzJ : (!true) = false := rfl
theorem zzK : (!false) = true := rfl
theorem zzL : (false = true) = False := Bool.false_eq_true
theorem zzM {α : Sort _} {x : Decidable True} (a b : α) : ite True a b = a := if_true a b
theorem zzN {α : Sort _} {x : Decidable False} (a b : α) : ite False a b = b := if_false a b
section
namespace L2
open PySem PySem.Spec PyProof.Rows
noncomputable abbrev Key:=Sum Int Str
noncomputable def acr:Key->Value->Bool
 | .inl k,v=>Value.isInt k v
 | .inr x,v=>Value.isStrOf x v
noncomputable def arc (w:World):Key->Int
 | .inl k=>hashInt k
 | .inr x=>hashStr w x
theorem qi:∀ {k:Key}{v:Value},acr k v=true->(∃ i t,k=Sum.inl i/\v=Value.int i t) ∨ (∃ x t,k=Sum.inr x/\v=Value.str x t)
 | .inl i,v,h=>by
  obtain ⟨t,e⟩:=Value.isInt_shape (k:=i) (v:=v) h
  exact .inl ⟨i,t,rfl,e⟩
 | .inr x,v,h=>by
  obtain ⟨t,e⟩:=Value.isStrOf_shape (x:=x) (v:=v) h
  exact .inr ⟨x,t,rfl,e⟩
theorem ai4 (i:Int) (t:Tok):acr (.inl i) (.int i t)=true:=by simp [acr,Value.isInt]
theorem ai5 (x:Str) (t:Tok):acr (.inr x) (.str x t)=true:=by simp [acr,Value.isStrOf]
theorem aoR (a b:Int):decide ((Sum.inl a:Key)=Sum.inl b)=(a == b):=by
 by_cases e:a=b
 ·subst e; simp
 ·have h:¬ (Sum.inl a:Key)=Sum.inl b:=fun q=>e (Sum.inl.inj q)
  rw [decide_eq_false h]
  exact (beq_eq_false_iff_ne.mpr e).symm
theorem aoS (a b:Str):decide ((Sum.inr a:Key)=Sum.inr b)=decide (a=b):=by
 by_cases e:a=b
 ·subst e; simp
 ·have h:¬ (Sum.inr a:Key)=Sum.inr b:=fun q=>e (Sum.inr.inj q)
  rw [decide_eq_false h,decide_eq_false e]
theorem aoT (a:Int) (b:Str):decide ((Sum.inl a:Key)=Sum.inr b)=false:=decide_eq_false (fun q=>nomatch q)
theorem aoU (a:Str) (b:Int):decide ((Sum.inr a:Key)=Sum.inl b)=false:=decide_eq_false (fun q=>nomatch q)
noncomputable def qe (prog:Program) (w:World):PySem.KeyKind prog w Key where
 is:=acr
 hash:=arc w
 inj:=fun v a b ha hb=>by
  rcases qi ha with ⟨i,t,rfl,rfl⟩ | ⟨x,t,rfl,rfl⟩
  ·rcases qi hb with ⟨j,u,rfl,e⟩ | ⟨y,u,rfl,e⟩
   ·injection e with e1 _; rw [e1]
   ·exact nomatch e
  ·rcases qi hb with ⟨j,u,rfl,e⟩ | ⟨y,u,rfl,e⟩
   ·exact nomatch e
   ·injection e with e1 _; rw [e1]
 byValue:=fun k v h=>by
  rcases qi h with ⟨i,t,rfl,rfl⟩ | ⟨x,t,rfl,rfl⟩ <;> rfl
 pyHash:=fun hv h=>by
  rcases qi hv with ⟨i,t,rfl,rfl⟩ | ⟨x,t,rfl,rfl⟩
  ·exact wpAny_pyHash_int h
  ·exact wpAny_pyHash_str h
 eqBool:=fun hu hv h=>by
  rcases qi hu with ⟨i,t,rfl,rfl⟩ | ⟨x,t,rfl,rfl⟩
  ·rcases qi hv with ⟨j,u,rfl,rfl⟩ | ⟨y,u,rfl,rfl⟩
   ·rw [aoR] at h; exact wpAny_eqBool_int h
   ·rw [aoT] at h; exact SeqAt.EqAt.int_str i t y u _ _ _ _ h
  ·rcases qi hv with ⟨j,u,rfl,rfl⟩ | ⟨y,u,rfl,rfl⟩
   ·rw [aoU] at h; exact SeqAt.EqAt.str_int x t j u _ _ _ _ h
   ·rw [aoS] at h; exact wpAny_eqBool_str h
 «strs»:=fun k x t v h=>by
  rcases qi h with ⟨i,u,rfl,e⟩ | ⟨y,u,rfl,e⟩
  ·exact nomatch e
  ·injection e with e1 _
   subst e1
   cases v <;> rfl
theorem aft (prog:Program) (w:World) (i:Int) (t:Tok):(qe prog w).is (.inl i) (.int i t)=true:=ai4 i t
theorem afu (prog:Program) (w:World) (x:Str) (t:Tok):(qe prog w).is (.inr x) (.str x t)=true:=ai5 x t
end L2
namespace L2
open PySem PySem.Spec PyProof.Rows
inductive V where
 | non | bl (b:Bool) | int (i:Int) | str (x:Str) | byt (b:Array UInt8) | flt (b:UInt64) | ref (a:Addr) | ty (n:String)
 deriving DecidableEq
noncomputable def jU:V->Value->Prop
 | .non,u=>u=Value.none
 | .bl b,u=>u=Value.bool b
 | .int i,u=>∃ t,u=Value.int i t
 | .str x,u=>∃ t,u=Value.str x t
 | .byt b,u=>∃ t,u=Value.bytes b t
 | .flt b,u=>∃ t,u=Value.float b t
 | .ref a,u=>u=Value.ref a
 | .ty n,u=>u=Value.type n
noncomputable abbrev jI:List V->List Value->Prop:=Paired jU
theorem jI.length {xs:List V}{us:List Value} (r:jI xs us):xs.length=us.length:=Paired.length r
theorem jI.get:∀ {xs:List V}{us:List Value}{i:Nat}{x:V},jI xs us->xs[i]?=some x->∃ u,us[i]?=some u/\jU x u
 | _,_,_,_,.nil,e=>by simp at e
 | _,_,0,_,.cons r _,e=>by simp at e; subst e; exact ⟨_,rfl,r⟩
 | _,_,i+1,x,.cons _ t,e=>by
  obtain ⟨u,h1,h2⟩:=jI.get (i:=i) (x:=x) t (by simpa using e)
  exact ⟨u,by simpa using h1,h2⟩
theorem jI.set {x:V}{u:Value} (r:jU x u):∀ {xs:List V}{us:List Value} (i:Nat),jI xs us->jI (xs.set i x) (us.set i u)
 | _,_,_,.nil=> .nil
 | _,_,0,.cons _ t=> .cons r t
 | _,_,i+1,.cons q t=> .cons q (jI.set r i t)
theorem jI.append:∀ {xs ys:List V}{us ws:List Value},jI xs us->jI ys ws->jI (xs++ys) (us++ws)
 | _,_,_,_,.nil,s=>s
 | _,_,_,_,.cons r t,s=> .cons r (jI.append t s)
theorem jI.take:∀ {xs:List V}{us:List Value} (n:Nat),jI xs us->jI (xs.take n) (us.take n)
 | _,_,0,_=> .nil
 | _,_,_+1,.nil=> .nil
 | _,_,n+1,.cons r t=> .cons r (jI.take n t)
theorem jI.drop:∀ {xs:List V}{us:List Value} (n:Nat),jI xs us->jI (xs.drop n) (us.drop n)
 | _,_,0,r=>r
 | _,_,_+1,.nil=> .nil
 | _,_,n+1,.cons _ t=>jI.drop n t
noncomputable def abY:Option V->Option Value->Prop
 | some v,some u=>jU v u
 | none,none=>True
 | _,_=>False
noncomputable def KV {κ:Type}:List (κ × V)->List (κ × Value)->Prop:=Paired fun (p:κ × V) (q:κ × Value)=>p.1=q.1/\jU p.2 q.2
noncomputable def kV:Key->V
 | .inl i=> .int i
 | .inr x=> .str x
inductive HO where
 | lst (xs:List V)
 | tup (xs:List V)
 | dK (kvs:List (Key × V)) | dT (kvs:List (List Key × V))
 | set (S:Int->Bool) (n:Nat)
 | ins (C dx:Addr) (fs:List (Str × V))
 | own (x:Addr)
 | xd (fs:List (Str × V))
 | met (f x:Addr)
 | rng (lo hi:Int)
 | frz (o:Obj) (u:HO)
 | tbl (ps:Array Value)
 | ext (φ:Heap->Prop)
noncomputable abbrev Hp:=Addr->Option HO
noncomputable def upd (H:Hp) (a:Addr) (o:HO):Hp:=fun b=>if b=a then some o else H b
theorem jp {H:Hp}{a:Addr}{o:HO}:upd H a o a=some o:=by unfold upd; rw [if_pos rfl]
theorem jo {H:Hp}{a b:Addr}{o:HO} (h:b ≠ a):upd H a o b=H b:=by unfold upd; rw [if_neg h]
theorem Jr {H:Hp}{a:Addr}{o u:HO}:upd (upd H a o) a u=upd H a u:=by
 funext b; unfold upd; split <;> rfl
theorem aqe {H:Hp}{a b:Addr}{o u:HO} (h:H a=some o) (h':H b=some u) (d:o ≠ u):a ≠ b:=by
 intro e; subst e; rw [h] at h'; exact d (Option.some.inj h')
theorem qL {H:Hp}{a b:Addr}{o:HO} (h:H a=some o) (h':H b=none):a ≠ b:=by
 intro e; subst e; rw [h] at h'; cases h'
section
variable (P:Program) (w:World)
noncomputable def qK (H:Hp) (h:Heap) (a:Addr):HO->Prop
 | .lst xs=>xs.length<=sizeLine/\∃ (its:List Value) (n:Nat),jI xs its/\h.get? a=some { cls:= .type "list",data:= .seq its.toArray n }
 | .tup xs=>xs.length<=sizeLine/\∃ its:List Value,jI xs its/\IsTup h a its.toArray
 | .dK kvs=>kvs.length<=sizeLine/\(a == sysModules)=false/\∃ vs,KV kvs vs/\h.DictOf (qe P w) a vs
 | .dT kvs=>kvs.length<=sizeLine/\(a == sysModules)=false/\∃ xs:List (List Key × Addr × Value),
   Paired (fun (p:List Key × V) (q:List Key × Addr × Value)=>p.1=q.1/\H q.2.1=some (.tup (p.1.map kV))/\jU p.2 q.2.2) kvs xs/\
   ∃ o es ep,h.get? a=some o/\o.ExactDict/\o.data= .dict es ep/\es.toList=xs.map (entryOfKey (tupleKind (qe P w)))/\(xs.map (·.1)).Nodup
 | .set S n=>h.SetOf (intKind P w) a S n
 | .ins C dx fs=>H dx=some (.own a)/\fs.length<=1000/\dx ≠ a/\h.get? a=some (PySem.W.instObj C dx)/\
   ∃ mA,h.Ns1 dx mA/\(∀ f,abY (fs.lookup f) (mA f))/\PySem.Within mA (fs.map (·.1))
 | .own _=>∃ o,h.get? a=some o
 | .xd fs=>∃ mA,h.Ns1 a mA/\∀ f,abY (fs.lookup f) (mA f)
 | .rng lo hi=>∃ t u v,h.get? a=some { cls:= .type "range",data:= .fields #[.int lo t,.int hi u,.int 1 v] }
 | .frz o u=>h.get? a=some o/\qK H h a u
 | .tbl ps=>h.get? a=some { cls:= .none,data:= .fields ps }
 | .met f x=>h.get? a=some (PySem.W.methodObj (.ref f) (.ref x))
 | .ext φ=>φ h/\(∃ o,h.get? a=some o)/\∀ h1 h2:Heap,φ h1->(∀ o,h1.get? a=some o->h2.get? a=some o)->φ h2
noncomputable def HOk (H:Hp) (h:Heap):Prop:=∀ a o,H a=some o->qK P w H h a o
end
section
variable {P:Program}{w:World}{H H':Hp}{h h':Heap}{a:Addr}{o:HO}
theorem qK.lt (x:qK P w H h a o):a < h.objs.size:=by
 cases o with
 | lst xs=>obtain ⟨_,_,_,_,e⟩:=x; exact Heap.lt_size e
 | tup xs=>obtain ⟨_,_,_,p⟩:=x; exact p.lt
 | dK kvs=>obtain ⟨_,_,_,_,o,_,_,e,_⟩:=x; exact Heap.lt_size e
 | dT kvs=>obtain ⟨_,_,_,_,o,_,_,e,_⟩:=x; exact Heap.lt_size e
 | set S n=>obtain ⟨o,_,_,_,e,_⟩:=x; exact Heap.lt_size e
 | ins C dx fs=>obtain ⟨_,_,_,e,_⟩:=x; exact Heap.lt_size e
 | own y=>obtain ⟨_,e⟩:=x; exact Heap.lt_size e
 | xd fs=>obtain ⟨_,⟨_,_,_,e,_⟩,_⟩:=x; exact Heap.lt_size e
 | rng lo hi=>obtain ⟨_,_,_,e⟩:=x; exact Heap.lt_size e
 | frz ob u=>obtain ⟨e,_⟩:=x; exact Heap.lt_size e
 | tbl ps=>exact Heap.lt_size (show h.get? a=some _ from x)
 | met f y=>exact Heap.lt_size (show h.get? a=some _ from x)
 | ext φ=>obtain ⟨_,⟨_,e⟩,_⟩:=x; exact Heap.lt_size e
theorem Paired.mapP {α β:Type}{F G:α->β->Prop}:∀ {l₁:List α}{l₂:List β},Paired F l₁ l₂->(∀ a b,F a b->G a b)->Paired G l₁ l₂
 | _,_,.nil,_=> .nil
 | _,_,.cons r t,f=> .cons (f _ _ r) (Paired.mapP t f)
theorem qK.stay (x:qK P w H h a o) (k:∀ b u,(b=a ∨ H b=some (.own a))->h.get? b=some u->h'.get? b=some u)
  (ho:∀ b,H b=some (.own a)->H' b=some (.own a)) (ht:∀ b xs,H b=some (.tup xs)->H' b=some (.tup xs)):qK P w H' h' a o:=by
 induction o with
 | lst xs=>obtain ⟨z,its,n,r,e⟩:=x; exact ⟨z,its,n,r,k _ _ (.inl rfl) e⟩
 | tup xs=>obtain ⟨z,its,r,ob,e,c⟩:=x; exact ⟨z,its,r,ob,k _ _ (.inl rfl) e,c⟩
 | dK kvs=>obtain ⟨z,y,vs,r,ob,es,ep,e,c⟩:=x; exact ⟨z,y,vs,r,ob,es,ep,k _ _ (.inl rfl) e,c⟩
 | dT kvs=>
  obtain ⟨z,y,xs,r,ob,es,ep,e,c⟩:=x
  exact ⟨z,y,xs,Paired.mapP r fun p q z=>⟨z.1,ht _ _ z.2.1,z.2.2⟩,ob,es,ep,k _ _ (.inl rfl) e,c⟩
 | set S n=>obtain ⟨ob,es,ep,t,e,c⟩:=x; exact ⟨ob,es,ep,t,k _ _ (.inl rfl) e,c⟩
 | ins C dx fs=>
  obtain ⟨d,z,ne,e,mA,⟨od,es,ep,e2,c⟩,r⟩:=x
  exact ⟨ho _ d,z,ne,k _ _ (.inl rfl) e,mA,⟨od,es,ep,k _ _ (.inr d) e2,c⟩,r⟩
 | own y=>obtain ⟨ob,e⟩:=x; exact ⟨ob,k _ _ (.inl rfl) e⟩
 | xd fs=>obtain ⟨mA,⟨od,es,ep,e,c⟩,r⟩:=x; exact ⟨mA,⟨od,es,ep,k _ _ (.inl rfl) e,c⟩,r⟩
 | rng lo hi=>obtain ⟨t,u,v,e⟩:=x; exact ⟨t,u,v,k _ _ (.inl rfl) e⟩
 | frz ob u ih=>obtain ⟨e,q⟩:=x; exact ⟨k _ _ (.inl rfl) e,ih q⟩
 | tbl ps=>
  have e:h.get? a=some { cls:= .none,data:= .fields ps }:=x
  show h'.get? a=some { cls:= .none,data:= .fields ps }
  exact k a _ (.inl rfl) e
 | met f y=>
  have e:h.get? a=some (PySem.W.methodObj (.ref f) (.ref y)):=x
  show h'.get? a=some (PySem.W.methodObj (.ref f) (.ref y))
  exact k a _ (.inl rfl) e
 | ext φ=>obtain ⟨p,⟨o,e⟩,st⟩:=x; exact ⟨st _ _ p fun o q=>k _ _ (.inl rfl) q,⟨o,k _ _ (.inl rfl) e⟩,st⟩
theorem HOk.lt (x:HOk P w H h) (e:H a=some o):a < h.objs.size:=(x a o e).lt
theorem HOk.fresh (x:HOk P w H h) (e:h.objs.size<=a):H a=none:=by
 cases q:H a with
 | none=>rfl
 | some u=>exact absurd (Nat.lt_of_lt_of_le (x.lt q) e) (Nat.lt_irrefl _)
theorem HOk.kept (x:HOk P w H h) (k:∀ b u,h.get? b=some u->h'.get? b=some u):HOk P w H h':=fun a o e=>
 (x a o e).stay (fun b u _ q=>k b u q) (fun _ q=>q) fun _ _ q=>q
theorem HOk.laid (x:HOk P w H h) (k:∀ b u,h.get? b=some u->h'.get? b=some u) (hp:h.objs.size<=a) (new:qK P w (upd H a o) h' a o):HOk P w (upd H a o) h':=fun b u e=>by
 have hn:=x.fresh hp
 by_cases hb:b=a
 ·subst hb; rw [jp] at e; cases e; exact new
 ·rw [jo hb] at e
  exact (x b u e).stay (fun c v _ q=>k c v q) (fun c q=>by rw [jo (qL q hn)]; exact q) fun c xs q=>by rw [jo (qL q hn)]; exact q
end
noncomputable def Rd (H:Hp) (a:Addr) (u:HO):Prop:=H a=some u ∨ ∃ o,H a=some (.frz o u)
theorem Rd.of {H:Hp}{a:Addr}{u:HO} (h:H a=some u):Rd H a u:= .inl h
theorem Rd.ok {P:Program}{w:World}{H:Hp}{h:Heap}{a:Addr}{u:HO} (r:Rd H a u) (x:HOk P w H h):qK P w H h a u:=by
 rcases r with r | ⟨o,r⟩
 ·exact x a u r
 ·obtain ⟨_,q⟩:=x a _ r
  exact q
noncomputable def Mut:Option HO->Prop
 | some (.lst _)=>True
 | some (.dK _)=>True
 | some (.dT _)=>True
 | some (.set _ _)=>True
 | some (.ins _ _ _)=>True
 | some (.ext _)=>True
 | _=>False
section
variable {P:Program}{w:World}{H:Hp}{h h':Heap}{x e:Addr}{o':HO}
theorem HOk.write (ok:HOk P w H h) (mu:Mut (H x)) (he:e=x ∨ H e=some (.own x)) (k:∀ b u,b ≠ e->h.get? b=some u->h'.get? b=some u) (heo:∃ u,h'.get? e=some u)
  (new:qK P w (upd H x o') h' x o'):HOk P w (upd H x o') h':=fun b u q=>by
 have nown:∀ c y,H c=some (.own y)->c ≠ x:=fun c y r z=>by subst z; rw [r] at mu; exact mu
 have ntup:∀ c xs,H c=some (.tup xs)->c ≠ x:=fun c xs r z=>by subst z; rw [r] at mu; exact mu
 by_cases hb:b=x
 ·subst hb; rw [jp] at q; cases q; exact new
 ·rw [jo hb] at q
  by_cases hbe:b=e
  ·have q':H b=some (.own x):=by
    rcases he with z | z
    ·exact absurd (hbe.trans z) hb
    ·rw [hbe]; exact z
   rw [q] at q'; cases q'
   obtain ⟨v,hv⟩:=heo
   exact ⟨v,by rw [hbe]; exact hv⟩
  ·refine (ok b u q).stay (fun c v hc r=>k c v ?_ r) (fun c r=>by rw [jo (nown c b r)]; exact r) fun c xs r=>by rw [jo (ntup c xs r)]; exact r
   rcases hc with rfl | hc
   ·exact hbe
   ·rintro rfl
    rcases he with z | z
    ·exact nown c b hc z
    ·rw [hc] at z; cases z; exact hb rfl
end
structure Un (fs ex:List Addr) (H H':Hp) (h h':Heap):Prop where
 keep:∀ b o,h.get? b=some o->H b=none->b ∉ fs->b ∉ ex->h'.get? b=some o
 slot:∀ b o,h.get? b=some o->H b=none->b ∈ fs->b ∉ ex->∃ sl,h'.get? b=some { o with slots:=sl }
 free:∀ b o,h.get? b=some o->H b=none->b ∉ ex->H' b=none
 there:∀ b o,h.get? b=some o->b ∉ ex->∃ o',h'.get? b=some o'
 tups:∀ b xs,H b=some (.tup xs)->H' b=some (.tup xs)
 frzs:∀ b o u,H b=some (.frz o u)->H' b=some (.frz o u)
 tbls:∀ b ps,H b=some (.tbl ps)->∃ more,H' b=some (.tbl (ps++more))
section
variable {fs fs' ex ex':List Addr}{H H1 H2:Hp}{h h1 h2 h':Heap}{a x e:Addr}{o:HO}
theorem Un.any (u:Un fs ex H H1 h h1) {b:Addr}{ob:Obj} (q:h.get? b=some ob) (n:H b=none) (hx:b ∉ ex):∃ sl,h1.get? b=some { ob with slots:=sl }:=by
 by_cases hb:b ∈ fs
 ·exact u.slot b ob q n hb hx
 ·exact ⟨ob.slots,u.keep b ob q n hb hx⟩
theorem Un.trans (a:Un fs ex H H1 h h1) (b:Un fs ex H1 H2 h1 h2):Un fs ex H H2 h h2 where
 keep:=fun c ob q n hc hx=>b.keep c ob (a.keep c ob q n hc hx) (a.free c ob q n hx) hc hx
 slot:=fun c ob q n hc hx=>by
  obtain ⟨sl,e1⟩:=a.slot c ob q n hc hx
  obtain ⟨sl',e2⟩:=b.slot c _ e1 (a.free c ob q n hx) hc hx
  exact ⟨sl',e2⟩
 free:=fun c ob q n hx=>by
  obtain ⟨o',e1⟩:=a.there c ob q hx
  exact b.free c o' e1 (a.free c ob q n hx) hx
 there:=fun c ob q hx=>by
  obtain ⟨o',e1⟩:=a.there c ob q hx
  exact b.there c o' e1 hx
 tups:=fun c xs q=>b.tups c xs (a.tups c xs q)
 frzs:=fun c ob xs q=>b.frzs c ob xs (a.frzs c ob xs q)
 tbls:=fun c ps q=>by
  obtain ⟨m1,e1⟩:=a.tbls c ps q
  obtain ⟨m2,e2⟩:=b.tbls c _ e1
  exact ⟨m1++m2,by rw [e2,Array.append_assoc]⟩
theorem Un.kept (k:∀ b u,h.get? b=some u->h'.get? b=some u):Un fs ex H H h h':=
 ⟨fun b ob q _ _ _=>k b ob q,fun b ob q _ _ _=>⟨ob.slots,k b ob q⟩,fun _ _ _ n _=>n,fun b ob q _=>⟨ob,k b ob q⟩,fun _ _ q=>q,fun _ _ _ q=>q,fun _ ps q=>⟨#[],by rw [q]; simp⟩⟩
theorem Un.refl:Un fs ex H H h h:=Un.kept fun _ _ q=>q
theorem Un.laid (k:∀ b u,h.get? b=some u->h'.get? b=some u) (hp:h.objs.size<=a) (hn:H a=none):Un fs ex H (upd H a o) h h' where
 keep:=fun b u q _ _ _=>k b u q
 slot:=fun b u q _ _ _=>⟨u.slots,k b u q⟩
 free:=fun b u q n _=>by rw [jo (Nat.ne_of_lt (Nat.lt_of_lt_of_le (Heap.lt_size q) hp))]; exact n
 there:=fun b u q _=>⟨u,k b u q⟩
 tups:=fun b xs q=>by rw [jo (qL q hn)]; exact q
 frzs:=fun b u xs q=>by rw [jo (qL q hn)]; exact q
 tbls:=fun b ps q=>⟨#[],by rw [jo (qL q hn),q]; simp⟩
theorem Un.write (mu:Mut (H x)) (he:e=x ∨ H e=some (.own x)) (k:∀ b u,b ≠ e->h.get? b=some u->h'.get? b=some u) (heo:∃ u,h'.get? e=some u):Un fs ex H (upd H x o) h h':=by
 have hx:∀ b,H b=none->b ≠ x:=fun b n z=>by subst z; rw [n] at mu; exact mu
 have hb:∀ b,H b=none->b ≠ e:=fun b n z=>by
  subst z
  rcases he with r | r
  ·exact hx b n r
  ·rw [n] at r; cases r
 have hm:∀ b u,H b=some u->¬ Mut (some u)->b ≠ x:=fun b u q nm z=>by subst z; rw [q] at mu; exact nm mu
 refine ⟨fun b u q n _ _=>k b u (hb b n) q,fun b u q n _ _=>⟨u.slots,k b u (hb b n) q⟩,fun b u q n _=>by rw [jo (hx b n)]; exact n,fun b u q _=>?_,
  fun b xs q=>by rw [jo (hm b _ q fun z=>z)]; exact q,fun b u xs q=>by rw [jo (hm b _ q fun z=>z)]; exact q,fun b ps q=>⟨#[],by rw [jo (hm b _ q fun z=>z),q]; simp⟩⟩
 by_cases hbe:b=e
 ·subst hbe; exact heo
 ·exact ⟨u,k b u hbe q⟩
theorem Un.mono (u:Un fs ex H H1 h h1) (hs:∀ b ∈ fs,b ∈ fs') (hx:∀ b ∈ ex,b ∈ ex'):Un fs' ex' H H1 h h1:=
 ⟨fun b ob q n hb he=>u.keep b ob q n (fun z=>hb (hs b z)) fun z=>he (hx b z),fun _ _ q n _ he=>u.any q n fun z=>he (hx _ z),fun b ob q n he=>u.free b ob q n fun z=>he (hx b z),fun b ob q he=>u.there b ob q fun z=>he (hx b z),u.tups,u.frzs,u.tbls⟩
end
noncomputable def trk (h:Heap) (H:Hp):List Addr:=(List.range h.objs.size).filter fun a=>(H a).isSome
noncomputable def aet (h:Heap) (H:Hp):Heap:=PySem.W.hideAll h (trk h H)
theorem ai6 (h:Heap) (H:Hp):(aet h H).objs.size=h.objs.size:=PySem.W.hideAll_size _ _
theorem akm {h:Heap}{H:Hp}{b:Addr}{o:Obj} (e:h.get? b=some o) (n:H b=none):(aet h H).get? b=some o:=
 PySem.W.hideAll_get _ e fun hm=>by
  have q:(H b).isSome=true:=(List.mem_filter.mp hm).2
  rw [n] at q; simp at q
theorem amR {h:Heap}{H:Hp}{b:Addr}{o:Obj} (e:(aet h H).get? b=some o):h.get? b=some o/\H b=none:=by
 have e':h.get? b=some o:=PySem.W.of_hideAll (trk h H) e
 refine ⟨e',?_⟩
 cases q:H b with
 | none=>rfl
 | some x=>
  have hm:b ∈ trk h H:=List.mem_filter.mpr ⟨List.mem_range.mpr (Heap.lt_size e'),by simp [q]⟩
  have z:(aet h H).get? b=none:=PySem.W.hideAll_none (trk h H) hm
  rw [z] at e; cases e
noncomputable def amS (g h:Heap) (L:Addr):List (Addr × Obj):=(List.range h.objs.size).filterMap fun a=>if a=L ∨ (g.get? a).isSome=true then none else (h.get? a).map fun o=>(a,o)
noncomputable def qg (g h:Heap) (L d:Addr):List (Addr × Obj):=(amS g h L).filter fun p=>decide (p.1 ≠ d)
end L2
namespace L2
open PySem PySem.Spec PyProof.Rows
structure Mod (K:PySem.W.Frag) (mg:Str->Option Value) (base:Heap):Prop where
 kin:K.In base
 glob:base.Ns mainGlobals mg
 blt:∃ mb,base.Ns builtinsNs mb/\∀ x:Str,x ≠ "__name__"->mb x=bootBuiltins x
 nolimit:base.NoLimit
structure Cx where
 prog:Program
 w:World
 K:PySem.W.Frag
 mg:Str->Option Value
 base:Heap
 A:Around
 N:List Str
 s₀:Shared
 H₀:Hp
 env:Env
 outer:List Env
 stack:List Env
 ex:List Addr
 fn:Str->Bool
 calm:Bool
 pn:List (Addr × Obj)
 xe:Value->Shared->Prop
noncomputable def frs (l:List Env):List Addr:=l.filterMap (·.frame)
noncomputable abbrev Cx.fs (X:Cx):List Addr:=frs X.outer
noncomputable def Vis (sc:Scope) (x:Str):Prop:=sc.names.lookup x=some .local ∨ sc.names.lookup x=some .cell ∨ sc.names.lookup x=some .free
noncomputable def Loc (sc:Scope) (x:Str):Prop:=sc.names.lookup x=some .local ∨ sc.names.lookup x=some .cell
noncomputable def ard (env:Env) (h:Heap) (m:Str->Option Value) (x:Str) (u:Value):Prop:=
 (env.kindOf x=some .local/\m x=some u) ∨ ((env.kindOf x=some .cell ∨ env.kindOf x=some .free)/\∃ c,env.cells.lookup x=some c/\h.IsCell c (some u))
structure Cx.Ok (X:Cx):Prop where
 mod:Mod X.K X.mg X.base
 kind:X.env.scope.kind= .function
 glob:X.env.globals=mainGlobals
 blt:X.env.builtins=builtinsNs
 above:X.s₀.heap.objs.size<=X.env.locals
 inj:∀ x y c,X.env.cells.lookup x=some c->X.env.cells.lookup y=some c->x=y
 has:∀ x,(X.env.kindOf x=some .cell ∨ X.env.kindOf x=some .free)->∃ c,X.env.cells.lookup x=some c
 cab:∀ x c,X.fn x=true->X.env.cells.lookup x=some c->X.s₀.heap.objs.size<=c
 hd:X.calm=true->X.A.handled=none
 frames:X.A.frames=some X.stack
 stk:X.stack=X.outer ∨ (X.stack=X.env::X.outer/\X.env.frame=some X.env.locals)
 exf:∀ b ∈ X.ex,b ≠ X.env.locals/\∀ x c,X.env.cells.lookup x=some c->c ≠ b
 bs:∀ b o,X.base.get? b=some o->X.s₀.heap.get? b=some o/\X.H₀ b=none
 bsz:X.base.objs.size<=X.s₀.heap.objs.size
 noex:∀ b o,X.base.get? b=some o->b ∉ X.ex
 exfs:∀ b ∈ X.ex,b ∉ X.fs
 funs:X.s₀.heap.FunFrames X.base X.outer
 frf:∀ b ∈ X.fs,X.H₀ b=none
structure Inv (X:Cx) (pins:List (Addr × Obj)) (σ:List (Option V)) (H:Hp) (s:Shared):Prop where
 ok:X.Ok
 os:s.os=X.s₀.os
 bare:AllBare s.gens
 base:Un X.fs X.ex X.H₀ H X.s₀.heap s.heap
 loc:∃ m,s.heap.Ns X.env.locals m/\∀ (i:Nat) (x:Str) (v:V),X.N[i]?=some x->σ[i]?=some (some v)->Vis X.env.scope x->∃ u,jU v u/\ard X.env s.heap m x u
 cell:∀ x c,X.env.cells.lookup x=some c->∃ v,s.heap.IsCell c v
 free:H X.env.locals=none
 freeC:∀ x c,X.env.cells.lookup x=some c->H c=none
 pin:∀ p ∈ X.pn++pins,s.heap.get? p.1=some p.2/\H p.1=none/\p.1 ≠ X.env.locals/\p.1 ∉ X.fs/\∀ v,p.2.data ≠ .cell v
 hok:HOk X.prog X.w H s.heap
 len:σ.length=X.N.length
section
variable {X:Cx}{pins:List (Addr × Obj)}{σ:List (Option V)}{H H':Hp}{s:Shared}{h':Heap}
theorem Cx.Ok.nofr (ok:X.Ok) {b:Addr}{o:Obj} (e:X.base.get? b=some o):b ∉ X.fs:=fun hb=>by
 have:=(ok.funs.mem hb).1
 rw [e] at this; cases this
theorem Inv.bs (I:Inv X pins σ H s):∀ b o,X.base.get? b=some o->s.heap.get? b=some o/\H b=none:=fun b o e=>
 ⟨I.base.keep b o (I.ok.bs b o e).1 (I.ok.bs b o e).2 (I.ok.nofr e) (I.ok.noex b o e),I.base.free b o (I.ok.bs b o e).1 (I.ok.bs b o e).2 (I.ok.noex b o e)⟩
theorem Inv.bk (I:Inv X pins σ H s):∀ b o,X.base.get? b=some o->s.heap.get? b=some o:=fun b o e=>(I.bs b o e).1
theorem Inv.mod (I:Inv X pins σ H s):Mod X.K X.mg X.base:=I.ok.mod
theorem Inv.kIn (I:Inv X pins σ H s):X.K.In s.heap:=I.ok.mod.kin.keeps I.bk
theorem Inv.nolimit (I:Inv X pins σ H s):s.heap.NoLimit:=I.ok.mod.nolimit.keeps I.bk
theorem Inv.fr (I:Inv X pins σ H s):∃ m,Fr X.base X.env.locals s.heap m:=
 let ⟨m,hn,_⟩:=I.loc
 ⟨m,hn,I.bk,Nat.le_trans I.ok.bsz I.ok.above⟩
theorem Inv.lt (I:Inv X pins σ H s):X.env.locals < s.heap.objs.size:=let ⟨_,hn,_⟩:=I.loc; hn.lt
theorem Inv.sz (I:Inv X pins σ H s):X.s₀.heap.objs.size<=s.heap.objs.size:=Nat.le_trans I.ok.above (Nat.le_of_lt I.lt)
theorem Inv.nofs (I:Inv X pins σ H s) {a:Addr} (h:s.heap.objs.size<=a):a ∉ X.fs:=fun hb=>by
 obtain ⟨_,o,ho,_⟩:=I.ok.funs.mem hb
 exact absurd (Nat.lt_of_lt_of_le (Heap.lt_size ho) (Nat.le_trans I.sz h)) (Nat.lt_irrefl _)
theorem Inv.cne (I:Inv X pins σ H s):∀ x c,X.env.cells.lookup x=some c->c ≠ X.env.locals:=fun x c e z=>by
 obtain ⟨v,o,ho,hd⟩:=I.cell x c e
 obtain ⟨m,⟨o',es,ep,ho',hd',_⟩,_⟩:=I.loc
 rw [z,ho'] at ho; cases ho; rw [hd'] at hd; cases hd
theorem Inv.funs (I:Inv X pins σ H s):s.heap.FunFrames X.base X.outer:=by
 have all:∀ (l:List Env),(∀ b ∈ frs l,b ∈ X.fs)->X.s₀.heap.FunFrames X.base l->s.heap.FunFrames X.base l:=by
  intro l
  induction l with
  | nil=>intro _ _; trivial
  | cons env r ih=>
   intro hs hl
   obtain ⟨hk,⟨L,o,hf,hn,ho,hd⟩,hr⟩:=hl
   have hL:L ∈ X.fs:=hs L (by unfold frs; rw [List.filterMap_cons,hf]; exact List.mem_cons_self)
   obtain ⟨sl,e⟩:=I.base.slot L o ho (I.ok.frf L hL) hL fun z=>I.ok.exfs L z hL
   exact ⟨hk,⟨L,_,hf,hn,e,hd⟩,ih (fun b hb=>hs b (by unfold frs; rw [List.filterMap_cons,hf]; exact List.mem_cons_of_mem _ hb)) hr⟩
 exact all X.outer (fun _ hb=>hb) I.ok.funs
theorem Inv.stack (I:Inv X pins σ H s):s.heap.FunFrames X.base X.stack:=by
 rcases I.ok.stk with e | ⟨e,hf⟩
 ·rw [e]; exact I.funs
 ·rw [e]
  obtain ⟨m,hn,_⟩:=I.loc
  refine .cons (by rw [I.ok.kind]; decide) hf hn ?_ I.funs
  exact Heap.get?_none_of_le (Nat.le_trans I.ok.bsz I.ok.above)
theorem Inv.stkSub (I:Inv X pins σ H s):∀ b ∈ frs X.stack,b ∈ X.env.locals::X.fs:=fun b hb=>by
 rcases I.ok.stk with e | ⟨e,hf⟩
 ·rw [e] at hb; exact List.mem_cons_of_mem _ hb
 ·rw [e] at hb
  unfold frs at hb
  rw [List.filterMap_cons,hf] at hb
  exact hb
theorem Inv.stkFree (I:Inv X pins σ H s):∀ b ∈ frs X.stack,H b=none:=fun b hb=>by
 rcases List.mem_cons.mp (I.stkSub b hb) with e | hb
 ·rw [e]; exact I.free
 ·obtain ⟨_,o,ho,_⟩:=I.ok.funs.mem hb
  exact I.base.free b o ho (I.ok.frf b hb) fun z=>I.ok.exfs b z hb
theorem Inv.step {g':Array GenState}{t':Nat}{d':Drawn}{ch:List Addr} (I:Inv X pins σ H s)
  (hch:∀ b ∈ ch,(b ∈ X.ex ∨ X.s₀.heap.objs.size<=b)/\b ≠ X.env.locals/\(∀ x c,X.env.cells.lookup x=some c->c ≠ b)/\∀ p ∈ X.pn++pins,p.1 ≠ b)
  (keep:∀ b o,b ≠ X.env.locals->b ∉ X.fs->b ∉ ch->s.heap.get? b=some o->H b=none->h'.get? b=some o)
  (slot:∀ b o,b ≠ X.env.locals->b ∈ X.fs->b ∉ ch->s.heap.get? b=some o->H b=none->∃ sl,h'.get? b=some { o with slots:=sl }) (free:∀ b o,b ∉ ch->s.heap.get? b=some o->H b=none->H' b=none)
  (there:∀ b o,b ∉ ch->s.heap.get? b=some o->∃ o',h'.get? b=some o')
  (tups:∀ b xs,H b=some (.tup xs)->H' b=some (.tup xs)) (frzs:∀ b o u,H b=some (.frz o u)->H' b=some (.frz o u)) (tbls:∀ b ps,H b=some (.tbl ps)->∃ more,H' b=some (.tbl (ps++more)))
  (ns:∀ m,s.heap.Ns X.env.locals m->h'.Ns X.env.locals m) (hok:HOk X.prog X.w H' h') (hg:AllBare g'):
  Inv X pins σ H' { s with heap:=h',gens:=g',drawn:=d',toks:=t' }:=by
 have neL:∀ b o,X.s₀.heap.get? b=some o->b ≠ X.env.locals:=fun b o e=>Nat.ne_of_lt (Nat.lt_of_lt_of_le (Heap.lt_size e) I.ok.above)
 have neC:∀ b o,X.s₀.heap.get? b=some o->b ∉ X.ex->b ∉ ch:=fun b o e hx hb=>by
  rcases (hch b hb).1 with z | z
  ·exact hx z
  ·exact absurd (Nat.lt_of_lt_of_le (Heap.lt_size e) z) (Nat.lt_irrefl _)
 have cellK:∀ x c,X.env.cells.lookup x=some c->∀ v,s.heap.IsCell c v->h'.IsCell c v:=fun x c e v ⟨o,ho,hd⟩=>by
  have nch:c ∉ ch:=fun z=>(hch c z).2.2.1 x c e rfl
  by_cases hc:c ∈ X.fs
  ·obtain ⟨sl,q⟩:=slot c o (I.cne x c e) hc nch ho (I.freeC x c e)
   exact ⟨_,q,hd⟩
  ·exact ⟨o,keep c o (I.cne x c e) hc nch ho (I.freeC x c e),hd⟩
 refine ⟨I.ok,I.os,hg,⟨fun b o e n hb hx=>?_,fun b o e n hb hx=>?_,fun b o e n hx=>?_,fun b o e hx=>?_,fun b xs e=>tups b xs (I.base.tups b xs e),fun b o xs e=>frzs b o xs (I.base.frzs b o xs e),fun b ps e=>?_⟩,?_,fun x c e=>?_,?_,fun x c e=>?_,fun p hp=>?_,hok,I.len⟩
 ·exact keep b o (neL b o e) hb (neC b o e hx) (I.base.keep b o e n hb hx) (I.base.free b o e n hx)
 ·obtain ⟨sl,e1⟩:=I.base.slot b o e n hb hx
  obtain ⟨sl',e2⟩:=slot b _ (neL b o e) hb (neC b o e hx) e1 (I.base.free b o e n hx)
  exact ⟨sl',e2⟩
 ·obtain ⟨o',e1⟩:=I.base.there b o e hx
  exact free b o' (neC b o e hx) e1 (I.base.free b o e n hx)
 ·obtain ⟨o',e1⟩:=I.base.there b o e hx
  exact there b o' (neC b o e hx) e1
 ·obtain ⟨m1,e1⟩:=I.base.tbls b ps e
  obtain ⟨m2,e2⟩:=tbls b _ e1
  exact ⟨m1++m2,by rw [e2,Array.append_assoc]⟩
 ·obtain ⟨m,hn,hl⟩:=I.loc
  refine ⟨m,ns m hn,fun i x v e1 e2 e3=>?_⟩
  obtain ⟨u,r,l⟩:=hl i x v e1 e2 e3
  refine ⟨u,r,?_⟩
  rcases l with l | ⟨k,c,e,z⟩
  ·exact .inl l
  ·exact .inr ⟨k,c,e,cellK x c e _ z⟩
 ·obtain ⟨v,z⟩:=I.cell x c e
  exact ⟨v,cellK x c e v z⟩
 ·obtain ⟨m,⟨o,_,_,ho,_⟩,_⟩:=I.loc
  exact free _ o (fun z=>(hch _ z).2.1 rfl) ho I.free
 ·obtain ⟨v,o,ho,hd⟩:=I.cell x c e
  exact free c o (fun z=>(hch c z).2.2.1 x c e rfl) ho (I.freeC x c e)
 ·obtain ⟨e,n,ne,nf,d⟩:=I.pin p hp
  have nch:p.1 ∉ ch:=fun z=>(hch p.1 z).2.2.2 p hp rfl
  exact ⟨keep p.1 p.2 ne nf nch e n,free p.1 p.2 nch e n,ne,nf,d⟩
theorem Inv.un {t':Nat} (I:Inv X pins σ H s) (u:Un X.fs [] H H' s.heap h') (hok:HOk X.prog X.w H' h'):Inv X pins σ H' { s with heap:=h',toks:=t' }:=by
 obtain ⟨m,⟨o,es,ep,ho,r⟩,_⟩:=id I.loc
 obtain ⟨sl,hL⟩:=u.any ho I.free (by simp)
 exact I.step (g':=s.gens) (d':=s.drawn) (ch:=[]) (fun _ z=>nomatch z) (fun b o _ hb _ e n=>u.keep b o e n hb (by simp)) (fun b o _ hb _ e n=>u.slot b o e n hb (by simp)) (fun b o _ e n=>u.free b o e n (by simp)) (fun b o _ e=>u.there b o e (by simp)) u.tups u.frzs u.tbls (fun m' hm=>by
  obtain ⟨o',es',ep',ho',r'⟩:=hm
  rw [ho] at ho'; cases ho'
  exact ⟨_,es',ep',hL,r'⟩) hok I.bare
theorem Inv.call {g':Array GenState}{t':Nat}{d':Drawn}{ch:List Addr} (I:Inv X pins σ H s) (u:Un (frs X.stack) ch H H' s.heap h') (hok:HOk X.prog X.w H' h') (hg:AllBare g')
  (hch:∀ b ∈ ch,(b ∈ X.ex ∨ X.s₀.heap.objs.size<=b)/\b ≠ X.env.locals/\(∀ x c,X.env.cells.lookup x=some c->c ≠ b)/\∀ p ∈ X.pn++pins,p.1 ≠ b):
  Inv X pins σ H' { s with heap:=h',gens:=g',drawn:=d',toks:=t' }:=by
 obtain ⟨m,⟨o,es,ep,ho,r⟩,_⟩:=id I.loc
 obtain ⟨sl,hL⟩:=u.any ho I.free fun z=>(hch _ z).2.1 rfl
 exact I.step (ch:=ch) hch (fun b o hL hb hc e n=>u.keep b o e n (fun z=>(List.mem_cons.mp (I.stkSub b z)).elim hL hb) hc) (fun b o _ _ hc e n=>u.any e n hc) (fun b o hc e n=>u.free b o e n hc) (fun b o hc e=>u.there b o e hc) u.tups u.frzs u.tbls (fun m' hm=>by
  obtain ⟨o',es',ep',ho',r'⟩:=hm
  rw [ho] at ho'; cases ho'
  exact ⟨_,es',ep',hL,r'⟩) hok hg
theorem Inv.turned {t':Nat}{it:Addr} (I:Inv X pins σ H s) (k:∀ b o,b ≠ it->s.heap.get? b=some o->h'.get? b=some o) (hn:H it=none) (hL:it ≠ X.env.locals)
  (h1:it ∈ X.ex ∨ X.s₀.heap.objs.size<=it) (h2:∀ x c,X.env.cells.lookup x=some c->c ≠ it) (h3:∀ p ∈ X.pn++pins,p.1 ≠ it):Inv X pins σ H { s with heap:=h',toks:=t' }:=by
 have nit:∀ b u,H b=some u->b ≠ it:=fun b u e z=>by rw [z,hn] at e; cases e
 refine I.step (g':=s.gens) (d':=s.drawn) (ch:=[it]) (fun b hb=>?_) (fun b o _ _ hc e _=>k b o (fun z=>hc (by simp [z])) e) (fun b o _ _ hc e _=>⟨o.slots,k b o (fun z=>hc (by simp [z])) e⟩) (fun _ _ _ _ n=>n)
  (fun b o hc e=>⟨o,k b o (fun z=>hc (by simp [z])) e⟩) (fun _ _ e=>e) (fun _ _ _ e=>e) (fun b ps e=>⟨#[],by rw [e]; simp⟩) (fun m hm=>?_) (fun b u e=>?_) I.bare
 ·have e:b=it:=by simpa using hb
  subst e
  exact ⟨h1,hL,h2,h3⟩
 ·obtain ⟨o,es,ep,ho,r⟩:=hm
  exact ⟨o,es,ep,k _ o (Ne.symm hL) ho,r⟩
 ·refine (I.hok b u e).stay (fun c v hc q=>k c v ?_ q) (fun _ q=>q) fun _ _ q=>q
  rcases hc with z | z
  ·rw [z]; exact nit b u e
  ·exact nit c _ z
theorem Inv.tok (I:Inv X pins σ H s) (t:Nat):Inv X pins σ H { s with toks:=t }:=I.un (h':=s.heap) (t':=t) Un.refl I.hok
theorem Inv.kept {t':Nat} (I:Inv X pins σ H s) (k:∀ b u,s.heap.get? b=some u->h'.get? b=some u):Inv X pins σ H { s with heap:=h',toks:=t' }:=I.un (Un.kept k) (I.hok.kept k)
theorem Inv.laid {a:Addr}{o:HO}{t':Nat} (I:Inv X pins σ H s) (k:∀ b u,s.heap.get? b=some u->h'.get? b=some u) (hp:s.heap.objs.size<=a) (new:qK X.prog X.w (upd H a o) h' a o):
  Inv X pins σ (upd H a o) { s with heap:=h',toks:=t' }:=I.un (Un.laid k hp (I.hok.fresh hp)) (I.hok.laid k hp new)
theorem Inv.write {x e:Addr}{o:HO}{t':Nat} (I:Inv X pins σ H s) (mu:Mut (H x)) (he:e=x ∨ H e=some (.own x)) (k:∀ b u,b ≠ e->s.heap.get? b=some u->h'.get? b=some u) (heo:∃ u,h'.get? e=some u)
  (new:qK X.prog X.w (upd H x o) h' x o):Inv X pins σ (upd H x o) { s with heap:=h',toks:=t' }:=I.un (Un.write mu he k heo) (I.hok.write mu he k heo new)
theorem Inv.pins_of {pins':List (Addr × Obj)} (I:Inv X pins σ H s) (h:∀ p ∈ pins',s.heap.get? p.1=some p.2/\H p.1=none/\p.1 ≠ X.env.locals/\p.1 ∉ X.fs/\∀ v,p.2.data ≠ .cell v):Inv X pins' σ H s:=
 ⟨I.ok,I.os,I.bare,I.base,I.loc,I.cell,I.free,I.freeC,fun p hp=>(List.mem_append.mp hp).elim (fun z=>I.pin p (List.mem_append_left _ z)) (h p),I.hok,I.len⟩
theorem afv {N:List Str} (hN:N.Nodup) {i j:Nat}{x:Str} (a:N[i]?=some x) (b:N[j]?=some x):i=j:=by
 obtain ⟨h1,e1⟩:=List.getElem?_eq_some_iff.mp a
 obtain ⟨h2,e2⟩:=List.getElem?_eq_some_iff.mp b
 exact (List.getElem_inj hN).mp (e1.trans e2.symm)
theorem ady {M:Model}{A:Around}{E:Value->Shared->Prop}{i:Nat}{x:Str}{v:V}{u:Value}{Q:Unit->Shared->Prop} (I:Inv X pins σ H s) (hN:X.N.Nodup) (hi:X.N[i]?=some x) (hx:Loc X.env.scope x) (r:jU v u)
  (h:∀ s',Inv X pins (σ.set i (some v)) H s'->(∃ a,Heap.SameBut a s.heap s'.heap/\(a=X.env.locals ∨ X.env.cells.lookup x=some a))->Q () s') (hf:X.fn x=true ∨ X.env.scope.names.lookup x=some .local:=by first | exact .inl rfl | exact .inr rfl | assumption):wpAny M A (storeName X.env x u) Q E s:=by
 obtain ⟨m,hn,hl⟩:=id I.loc
 have hcls:(X.env.scope.kind == .class || (X.env.scope.kind == .module && X.env.locals != X.env.globals))=false:=by rw [I.ok.kind]; rfl
 have hiσ:i < σ.length:=by rw [I.len]; exact (List.getElem?_eq_some_iff.mp hi).1
 have cne:=I.cne
 have tracked:∀ {a:Addr} {h':Heap},(∃ o,s.heap.get? a=some o/\H a=none)->Heap.SameBut a s.heap h'->HOk X.prog X.w H h':=fun {a h'} ha hs b ob e=>by
  obtain ⟨_,_,hfree⟩:=ha
  refine (I.hok b ob e).stay (fun c w' hc q=>(hs.2 c ?_).trans q) (fun _ q=>q) fun _ _ q=>q
  rintro rfl
  rcases hc with rfl | hc
  ·rw [hfree] at e; cases e
  ·rw [hfree] at hc; cases hc
 rcases hx with hk | hk
 ·refine wpAny_storeName_local hk hn (fun h' hn' hs=>?_) hcls
  obtain ⟨oL,_,_,hoL,_⟩:=id hn
  refine h _ ⟨I.ok,I.os,I.bare,⟨fun b o e n hb hx=>?_,fun b o e n hb hx=>?_,I.base.free,fun b o e hx=>?_,I.base.tups,I.base.frzs,I.base.tbls⟩,⟨_,hn',fun j y v' e1 e2 e3=>?_⟩,fun y c e=>?_,I.free,I.freeC,fun p hp=>?_,tracked ⟨oL,hoL,I.free⟩ hs,by simpa using I.len⟩ ⟨_,hs,.inl rfl⟩
  ·exact (hs.2 b (Nat.ne_of_lt (Nat.lt_of_lt_of_le (Heap.lt_size e) I.ok.above))).trans (I.base.keep b o e n hb hx)
  ·obtain ⟨sl,e1⟩:=I.base.slot b o e n hb hx
   exact ⟨sl,(hs.2 b (Nat.ne_of_lt (Nat.lt_of_lt_of_le (Heap.lt_size e) I.ok.above))).trans e1⟩
  ·obtain ⟨o',e1⟩:=I.base.there b o e hx
   exact ⟨o',(hs.2 b (Nat.ne_of_lt (Nat.lt_of_lt_of_le (Heap.lt_size e) I.ok.above))).trans e1⟩
  ·by_cases hj:j=i
   ·subst hj
    rw [hi] at e1; cases e1
    rw [List.getElem?_set_self hiσ] at e2
    cases e2
    exact ⟨u,r,.inl ⟨hk,by simp⟩⟩
   ·rw [List.getElem?_set_ne (Ne.symm hj)] at e2
    obtain ⟨u',r',q⟩:=hl j y v' e1 e2 e3
    refine ⟨u',r',?_⟩
    rcases q with ⟨k,e⟩ | ⟨k,c,e,z⟩
    ·refine .inl ⟨k,?_⟩
     have:y ≠ x:=fun e=>hj (afv hN e1 (e ▸ hi))
     simp [this,e]
    ·exact .inr ⟨k,c,e,z.sameBut hs (cne y c e)⟩
  ·obtain ⟨w',z⟩:=I.cell y c e
   exact ⟨w',z.sameBut hs (cne y c e)⟩
  ·obtain ⟨e,n,ne,nf,d⟩:=I.pin p hp
   exact ⟨(hs.2 p.1 ne).trans e,n,ne,nf,d⟩
 ·have hfn:X.fn x=true:=by
   rcases hf with z | z
   ·exact z
   ·rw [z] at hk; cases hk
  obtain ⟨c,hc⟩:=I.ok.has x (.inl hk)
  obtain ⟨w',z⟩:=I.cell x c hc
  refine wpAny_storeName_cell I.ok.kind hk hc z (fun h' hc' hs=>?_)
  obtain ⟨oc,hoc,hocd⟩:=id z
  refine h { s with heap:=h' } ⟨I.ok,I.os,I.bare,⟨fun b o e n hb hx=>?_,fun b o e n hb hx=>?_,I.base.free,fun b o e hx=>?_,I.base.tups,I.base.frzs,I.base.tbls⟩,⟨m,hn.sameBut hs (Ne.symm (cne x c hc)),fun j y v' e1 e2 e3=>?_⟩,fun y c' e=>?_,I.free,I.freeC,fun p hp=>?_,tracked ⟨oc,hoc,I.freeC x c hc⟩ hs,by simpa using I.len⟩ ⟨c,hs,.inr hc⟩
  ·exact (hs.2 b (Nat.ne_of_lt (Nat.lt_of_lt_of_le (Heap.lt_size e) (I.ok.cab x c hfn hc)))).trans (I.base.keep b o e n hb hx)
  ·obtain ⟨sl,e1⟩:=I.base.slot b o e n hb hx
   exact ⟨sl,(hs.2 b (Nat.ne_of_lt (Nat.lt_of_lt_of_le (Heap.lt_size e) (I.ok.cab x c hfn hc)))).trans e1⟩
  ·obtain ⟨o',e1⟩:=I.base.there b o e hx
   exact ⟨o',(hs.2 b (Nat.ne_of_lt (Nat.lt_of_lt_of_le (Heap.lt_size e) (I.ok.cab x c hfn hc)))).trans e1⟩
  ·by_cases hj:j=i
   ·subst hj
    rw [hi] at e1; cases e1
    rw [List.getElem?_set_self hiσ] at e2
    cases e2
    exact ⟨u,r,.inr ⟨.inl hk,c,hc,hc'⟩⟩
   ·rw [List.getElem?_set_ne (Ne.symm hj)] at e2
    obtain ⟨u',r',q⟩:=hl j y v' e1 e2 e3
    refine ⟨u',r',?_⟩
    rcases q with q | ⟨k,c',e,z'⟩
    ·exact .inl q
    ·refine .inr ⟨k,c',e,z'.sameBut hs ?_⟩
     rintro rfl
     exact hj (afv hN e1 (I.ok.inj _ _ _ e hc ▸ hi))
  ·by_cases hcc:c'=c
   ·subst hcc; exact ⟨_,hc'⟩
   ·obtain ⟨w2,z2⟩:=I.cell y c' e
    exact ⟨w2,z2.sameBut hs hcc⟩
  ·obtain ⟨e,n,ne,nf,d⟩:=I.pin p hp
   refine ⟨(hs.2 p.1 ?_).trans e,n,ne,nf,d⟩
   intro q
   rw [q,hoc] at e
   have q':oc=p.2:=Option.some.inj e
   exact d w' (by rw [←q']; exact hocd)
theorem acs {M:Model}{A:Around}{E:Value->Shared->Prop}{i:Nat}{x:Str}{v:V}{u:Value}{Q:Unit->Shared->Prop} (I:Inv X pins σ H s) (hN:X.N.Nodup) (hi:X.N[i]?=some x) (hx:Loc X.env.scope x) (r:jU v u)
  (h:∀ s',Inv X pins (σ.set i (some v)) H s'->Q () s') (hf:X.fn x=true ∨ X.env.scope.names.lookup x=some .local:=by first | exact .inl rfl | exact .inr rfl | assumption):wpAny M A (storeName X.env x u) Q E s:=
 ady I hN hi hx r (fun s' I' _=>h s' I') hf
theorem Inv.call' {s':Shared}{ch:List Addr} (I:Inv X pins σ H s) (ho:s'.os=s.os) (u:Un (frs X.stack) ch H H' s.heap s'.heap) (hok:HOk X.prog X.w H' s'.heap) (hg:AllBare s'.gens)
  (hch:∀ b ∈ ch,(b ∈ X.ex ∨ X.s₀.heap.objs.size<=b)/\b ≠ X.env.locals/\(∀ x c,X.env.cells.lookup x=some c->c ≠ b)/\∀ p ∈ X.pn++pins,p.1 ≠ b):Inv X pins σ H' s':=by
 obtain ⟨h',g',d',t',o'⟩:=s'
 have e:o'=s.os:=ho
 subst e
 exact I.call (g':=g') (t':=t') (d':=d') u hok hg hch
end
noncomputable abbrev XK:=Value->Option Addr->Hp->Prop
noncomputable abbrev St:=List (Option V)
noncomputable abbrev VK:=V->Hp->Prop
noncomputable abbrev TE:=St->Hp->VK->Prop
noncomputable abbrev TT:=St->Hp->(Bool->Hp->Prop)->Prop
noncomputable abbrev TA:=St->Hp->(List V->Hp->Prop)->Prop
structure Ends where
 nx:St->Hp->Prop
 rt:VK
 bk:St->Hp->Prop:=fun _ _=>False
 ct:St->Hp->Prop:=fun _ _=>False
noncomputable abbrev TS:=Ends->St->Hp->Prop
noncomputable def EP (X:Cx) (pins:List (Addr × Obj)) (σ:St) (Q:VK) (u:Value) (s':Shared):Prop:=∃ v H',Inv X pins σ H' s'/\jU v u/\Q v H'
noncomputable def TP (X:Cx) (pins:List (Addr × Obj)) (σ:St) (Q:Bool->Hp->Prop) (b:Bool) (s':Shared):Prop:=∃ H',Inv X pins σ H' s'/\Q b H'
noncomputable def AP (X:Cx) (pins:List (Addr × Obj)) (σ:St) (Q:List V->Hp->Prop) (us:List Value) (s':Shared):Prop:=∃ vs H',Inv X pins σ H' s'/\jI vs us/\Q vs H'
noncomputable def SP (X:Cx) (pins:List (Addr × Obj)) (D:Ends) (f:Flow) (s':Shared):Prop:=
 match f with
 | .next=>∃ σ' H',Inv X pins σ' H' s'/\D.nx σ' H'
 | .brk=>∃ σ' H',Inv X pins σ' H' s'/\D.bk σ' H'
 | .cont=>∃ σ' H',Inv X pins σ' H' s'/\D.ct σ' H'
 | .ret u=>∃ v σ' H',Inv X pins σ' H' s'/\jU v u/\D.rt v H'
noncomputable def PE (X:Cx) (e:Expr) (t:TE):Prop:=
 ∀ (pins:List (Addr × Obj)) (s:Shared) (σ:St) (H:Hp) (Q:VK),Inv X pins σ H s->t σ H Q->wpAny (model X.prog X.w) X.A (eval e X.env) (EP X pins σ Q) X.xe s
noncomputable def PT (X:Cx) (e:Expr) (t:TT):Prop:=
 ∀ (pins:List (Addr × Obj)) (s:Shared) (σ:St) (H:Hp) (Q:Bool->Hp->Prop),Inv X pins σ H s->t σ H Q->wpAny (model X.prog X.w) X.A (isTrue e X.env (eval e X.env)) (TP X pins σ Q) X.xe s
noncomputable def PW (X:Cx) (e:Expr) (t:TT):Prop:=
 ∀ (whole:Sem Value) (pins:List (Addr × Obj)) (s:Shared) (σ:St) (H:Hp) (Q:Bool->Hp->Prop),Inv X pins σ H s->t σ H Q->wpAny (model X.prog X.w) X.A (isTrue e X.env whole) (TP X pins σ Q) X.xe s
theorem PW.pt {X:Cx}{e:Expr}{t:TT} (h:PW X e t):PT X e t:=h _
noncomputable def PA (X:Cx) (es:List Expr) (t:TA):Prop:=
 ∀ (pos:Pos) (pins:List (Addr × Obj)) (s:Shared) (σ:St) (H:Hp) (Q:List V->Hp->Prop),Inv X pins σ H s->t σ H Q->wpAny (model X.prog X.w) X.A (spliced (backTo pos (starEach es X.env))) (AP X pins σ Q) X.xe s
noncomputable def PS (X:Cx) (st:Stmt) (t:TS):Prop:=
 ∀ (pins:List (Addr × Obj)) (s:Shared) (σ:St) (H:Hp) (D:Ends),Inv X pins σ H s->t D σ H->wpAny (model X.prog X.w) X.A (exec st X.env) (SP X pins D) X.xe s
noncomputable def PSs (X:Cx) (st:List Stmt) (t:TS):Prop:=
 ∀ (pins:List (Addr × Obj)) (s:Shared) (σ:St) (H:Hp) (D:Ends),Inv X pins σ H s->t D σ H->wpAny (model X.prog X.w) X.A (execs st X.env) (SP X pins D) X.xe s
theorem thn {α:Type}{t:Sem α}{Q Q':α->Shared->Prop}{M:Model}{A:Around}{E:Value->Shared->Prop}{s:Shared} (h:wpAny M A t Q E s) (hQ:∀ a s,Q a s->Q' a s):wpAny M A t Q' E s:=wpAny_mono h hQ fun _ _ x=>x
end L2
namespace L2
open PySem PySem.Spec PyProof.Rows
section
variable {X:Cx}
noncomputable def aqf (i:Nat):TE:=fun σ H Q=>∃ v,σ[i]?=some (some v)/\Q v H
noncomputable def tC (v:V):TE:=fun _ H Q=>Q v H
theorem abc {i:Nat}{x:Str}{pos:Pos} (hN:X.N[i]?=some x) (hv:Vis X.env.scope x) (hd:(x == ("__debug__":Str))=false:=by decide) (hcd:(x == ("__classdict__":Str))=false:=by decide):PE X (.Name x pos) (aqf i):=by
 intro pins s σ H Q I h
 obtain ⟨v,e,h⟩:=h
 obtain ⟨m,hn,hl⟩:=I.loc
 obtain ⟨u,r,l⟩:=hl i x v hN e hv
 have fin:EP X pins σ Q u s:=⟨v,H,I,r,h⟩
 rcases l with ⟨hk,hm⟩ | ⟨hk,c,hc,hcell⟩
 ·exact wpAny_Name (wpAny_loadName_local I.ok.kind hk hn hm fin) hd
 ·rcases hk with hk | hk
  ·exact wpAny_Name (wpAny_loadName_cell I.ok.kind hk hc hcell fin) hd
  ·exact wpAny_Name (wpAny_loadName_free I.ok.kind hk hc hcell fin hcd) hd
theorem akn {i j pos}:PE X (.Constant (.int i) j pos) (tC (.int i)):=fun _ _ _ H _ I h=>wpAny_Constant_int ⟨.int i,H,I.tok _,⟨_,rfl⟩,h⟩
theorem aqg {b j pos}:PE X (.Constant (.bool b) j pos) (tC (.bl b)):=fun _ _ _ H _ I h=>Constant_bool ⟨.bl b,H,I,rfl,h⟩
theorem aoV {j pos}:PE X (.Constant .none j pos) (tC .non):=fun _ _ _ H _ I h=>Constant_none ⟨.non,H,I,rfl,h⟩
theorem ako {x j pos}:PE X (.Constant (.str x) j pos) (tC (.str x)):=fun _ _ _ H _ I h=>Calls.Constant_str ⟨.str x,H,I.tok _,⟨_,rfl⟩,h⟩
noncomputable def Gl (X:Cx) (x:Str):Prop:=X.env.kindOf x=some .globalImplicit
theorem aau {E:Value->Shared->Prop}{pins:List (Addr × Obj)}{s:Shared}{σ:St}{H:Hp}{x:Str}{u:Value}{pos:Pos}{Q:Value->Shared->Prop} (I:Inv X pins σ H s) (hg:Gl X x) (hm:X.mg x=some u) (h:Q u s)
  (hd:(x == ("__debug__":Str))=false:=by decide):wpAny (model X.prog X.w) X.A (eval (.Name x pos) X.env) Q E s:=
 Calls.Name_function_global I.ok.kind hg (Calls.loadGlobal_global (by rw [I.ok.glob]; exact I.mod.glob.keeps I.bk) hm h) hd
theorem Q9 {E:Value->Shared->Prop}{pins:List (Addr × Obj)}{s:Shared}{σ:St}{H:Hp}{x:Str}{u:Value}{pos:Pos}{Q:Value->Shared->Prop} (I:Inv X pins σ H s) (hg:Gl X x) (hm:X.mg x=none) (hv:bootBuiltins x=some u) (h:Q u s)
  (hn:x ≠ "__name__":=by decide) (hd:(x == ("__debug__":Str))=false:=by decide):wpAny (model X.prog X.w) X.A (eval (.Name x pos) X.env) Q E s:=by
 obtain ⟨mb,h1,h2⟩:=I.mod.blt
 exact Calls.Name_function_global I.ok.kind hg (Calls.loadGlobal_builtin (by rw [I.ok.glob]; exact I.mod.glob.keeps I.bk) hm (by rw [I.ok.blt]; exact h1.keeps I.bk) ((h2 x hn).trans hv) h) hd
theorem aeu {x:Str}{v:V}{u:Value}{pos:Pos} (hg:Gl X x) (hm:X.mg x=some u) (r:jU v u) (hd:(x == ("__debug__":Str))=false:=by decide):PE X (.Name x pos) (tC v):=
 fun _ _ _ H _ I h=>aau I hg hm ⟨v,H,I,r,h⟩ hd
theorem aib {x:Str}{v:V}{u:Value}{pos:Pos} (hg:Gl X x) (hm:X.mg x=none) (hv:bootBuiltins x=some u) (r:jU v u) (hn:x ≠ "__name__":=by decide) (hd:(x == ("__debug__":Str))=false:=by decide):PE X (.Name x pos) (tC v):=
 fun _ _ _ H _ I h=>Q9 I hg hm hv ⟨v,H,I,r,h⟩ hn hd
variable {a b:Expr}{ta tb:TE}{pos:Pos}
noncomputable def PC (X:Cx) (op:CmpOp) (a b:Expr) (t:TE):Prop:=
 ∀ (pins:List (Addr × Obj)) (s:Shared) (σ:St) (H:Hp) (Q:VK),Inv X pins σ H s->t σ H Q->
  wpAny (model X.prog X.w) X.A (eval a X.env) (fun v s₁=>wpAny (model X.prog X.w) X.A (eval b X.env) (fun u s₂=>wpAny (model X.prog X.w) X.A (compareOp op v u) (EP X pins σ Q) X.xe s₂) X.xe s₁) X.xe s
theorem akp (b:Expr) {op:CmpOp} (h:op ≠ .In) (h2:op ≠ .NotIn):behindInMarks op b=false:=by
 have e1:(op == CmpOp.In)=false:=by cases op <;> first | rfl | exact absurd rfl h
 have e2:(op == CmpOp.NotIn)=false:=by cases op <;> first | rfl | exact absurd rfl h2
 cases b <;> simp [behindInMarks,e1,e2]
noncomputable def tB (t:TE):TT:=fun σ H Q=>t σ H fun x H1=>∃ c,x= .bl c/\Q c H1
theorem aoW {op:CmpOp}{t:TE} (h:PC X op a b t) (h1:behindInMarks op b=false:=by first | exact akp _ (by decide) (by decide) | rfl):PT X (.Compare a [op] [b] pos) (tB t):=by
 intro pins s σ H Q I hw
 refine wpAny_isTrue_Compare1 (thn (h pins s σ H _ I hw) fun v s1 h1=>thn h1 fun u s2 h2=>thn h2 fun c s3 ⟨x,H1,I1,r1,q1⟩=>?_) h1
 obtain ⟨d,rfl,q⟩:=q1
 cases r1
 exact wpAny_truthy_bool ⟨H1,I1,q⟩
theorem aoX {e:Expr}{t:TE} (h:PE X e t) (he:∀ whole,isTrue e X.env whole=(do let v ←whole; standAt e.pos; holding [v] (truthy v)):=by intro _; rfl):PT X e (tB t):=by
 intro pins s σ H Q I hw
 refine isTrue_plain (thn (h pins s σ H _ I hw) fun v s1 ⟨x,H1,I1,r1,q1⟩=>?_) (he _)
 obtain ⟨d,rfl,q⟩:=q1
 cases r1
 exact wpAny_truthy_bool ⟨H1,I1,q⟩
variable {tA tB':TT}{qg:List Expr}
noncomputable def are (t u:TT):TT:=fun σ H Q=>t σ H fun c H1=>if c=true then u σ H1 Q else Q false H1
noncomputable def tOr (t u:TT):TT:=fun σ H Q=>t σ H fun c H1=>if c=true then Q true H1 else u σ H1 Q
noncomputable def arf (t:TT):TT:=fun σ H Q=>t σ H fun c H1=>Q (!c) H1
theorem amT (ha:PT X a tA):PW X (.BoolOp .And [a] pos) tA:=by
 intro wh pins s σ H Q I h
 refine isTrue_and (thn (ha pins s σ H Q I h) fun c s1 e=>?_)
 cases c with
 | true=>exact isTrue_and_nil e
 | false=>exact e
theorem aoY (ha:PT X a tA):PW X (.BoolOp .Or [a] pos) tA:=by
 intro wh pins s σ H Q I h
 refine isTrue_or (thn (ha pins s σ H Q I h) fun c s1 e=>?_)
 cases c with
 | false=>exact isTrue_or_nil e
 | true=>exact e
theorem aoZ (ha:PT X a tA) (hb:PW X (.BoolOp .And (b::qg) pos) tB'):PW X (.BoolOp .And (a::b::qg) pos) (are tA tB'):=by
 intro wh pins s σ H Q I h
 refine isTrue_and (thn (ha pins s σ H _ I h) fun c s1 ⟨H1,I1,q1⟩=>?_)
 cases c with
 | true=>exact hb wh pins s1 σ H1 Q I1 q1
 | false=>exact ⟨H1,I1,q1⟩
theorem aqh (ha:PT X a tA) (hb:PW X (.BoolOp .Or (b::qg) pos) tB'):PW X (.BoolOp .Or (a::b::qg) pos) (tOr tA tB'):=by
 intro wh pins s σ H Q I h
 refine isTrue_or (thn (ha pins s σ H _ I h) fun c s1 ⟨H1,I1,q1⟩=>?_)
 cases c with
 | true=>exact ⟨H1,I1,q1⟩
 | false=>exact hb wh pins s1 σ H1 Q I1 q1
theorem ao0 (ha:PT X a tA):PT X (.UnaryOp .Not a pos) (arf tA):=by
 intro pins s σ H Q I h
 exact isTrue_not (ha pins s σ H (fun c H1=>Q (!c) H1) I h)
noncomputable def aqi (ta tb:TE):TE:=fun σ H Q=>ta σ H fun x H1=>∃ c,x= .bl c/\if c=true then tb σ H1 Q else Q (.bl false) H1
theorem ao1 {op}{t:TE} (h:PE X a t):PE X (.BoolOp op [a] pos) t:=fun pins s σ H Q I hw=>BoolOp_one (h pins s σ H Q I hw)
theorem ao2 (ha:PE X a ta) (hb:PE X (.BoolOp .And (b::qg) pos) tb):PE X (.BoolOp .And (a::b::qg) pos) (aqi ta tb):=by
 intro pins s σ H Q I h
 refine BoolOp_and (thn (ha pins s σ H _ I h) fun v s1 ⟨x,H1,I1,r1,q1⟩=>?_)
 obtain ⟨c,rfl,q1⟩:=q1
 cases r1
 refine wpAny_truthy_bool ?_
 cases c with
 | true=>exact hb pins s1 σ H1 Q I1 q1
 | false=>exact ⟨.bl false,H1,I1,rfl,q1⟩
noncomputable def tIf (t:TT) (ta tb:TE):TE:=fun σ H Q=>t σ H fun c H1=>if c=true then ta σ H1 Q else tb σ H1 Q
theorem akq {c:Expr} (hc:PT X c tA) (ha:PE X a ta) (hb:PE X b tb):PE X (.IfExp c a b pos) (tIf tA ta tb):=by
 intro pins s σ H Q I h
 refine wpAny_IfExp (thn (hc pins s σ H _ I h) fun d s1 ⟨H1,I1,q1⟩=>?_)
 cases d with
 | true=>exact ha pins s1 σ H1 Q I1 q1
 | false=>exact hb pins s1 σ H1 Q I1 q1
end
end L2
namespace L2
open PySem PySem.Spec PyProof.Rows
noncomputable def SqL (K:PySem.W.Frag) (H:Hp) (a:Addr) (xs:List V):Prop:=
 Rd H a (.lst xs) ∨
  ∃ (o:Obj) (its:Array Value) (n:Nat),K.lookup a=some o/\o.cls= .type "list"/\o.dict=none/\o.data= .seq its n/\its.size<=sizeLine/\jI xs its.toList
noncomputable def SqT (K:PySem.W.Frag) (H:Hp) (a:Addr) (xs:List V):Prop:=
 Rd H a (.tup xs) ∨
  ∃ (o:Obj) (its:Array Value) (n:Nat),K.lookup a=some o/\o.cls= .type "tuple"/\o.data= .seq its n/\its.size<=sizeLine/\jI xs its.toList
noncomputable def arh:Value->Option V
 | .none=>some .non
 | .bool b=>some (.bl b)
 | .int i _=>some (.int i)
 | .str x _=>some (.str x)
 | .bytes b _=>some (.byt b)
 | .float b _=>some (.flt b)
 | .ref a=>some (.ref a)
 | .type n=>some (.ty n)
 | _=>none
theorem jU.abs {x:V}{u:Value} (r:jU x u):arh u=some x:=by
 cases x with
 | non=>cases r; rfl
 | bl _=>cases r; rfl
 | int _=>obtain ⟨t,rfl⟩:=r; rfl
 | str _=>obtain ⟨t,rfl⟩:=r; rfl
 | byt _=>obtain ⟨t,rfl⟩:=r; rfl
 | flt _=>obtain ⟨t,rfl⟩:=r; rfl
 | ref _=>cases r; rfl
 | ty _=>cases r; rfl
theorem jU.inj {x y:V}{u:Value} (r:jU x u) (q:jU y u):x=y:=Option.some.inj (r.abs.symm.trans q.abs)
theorem jI.inj:∀ {xs ys:List V}{us:List Value},jI xs us->jI ys us->xs=ys
 | _,_,_,.nil,.nil=>rfl
 | _,_,_,.cons r t,.cons r' t'=>by rw [r.inj r',jI.inj t t']
section
variable {X:Cx}{pins:List (Addr × Obj)}{σ:St}{H:Hp}{s:Shared}{a:Addr}{xs ys:List V}
theorem SqL.of {K:PySem.W.Frag} (h:H a=some (.lst xs)):SqL K H a xs:= .inl (.inl h)
theorem SqT.of {K:PySem.W.Frag} (h:H a=some (.tup xs)):SqT K H a xs:= .inl (.inl h)
theorem Inv.list (I:Inv X pins σ H s) (h:SqL X.K H a xs):∃ its:List Value,jI xs its/\PlainL s.heap a its.toArray/\xs.length<=sizeLine:=by
 rcases h with h | ⟨o,its,n,hk,hc,hd,hs,hz,r⟩
 ·obtain ⟨z,its,n,r,e⟩:=h.ok I.hok
  exact ⟨its,r,⟨_,n,e,rfl,rfl,rfl⟩,z⟩
 ·refine ⟨its.toList,r,⟨o,n,I.kIn a o hk,hc,hd,by simpa using hs⟩,?_⟩
  have e:=r.length
  simp only [Array.length_toList] at e
  omega
theorem Inv.tuple (I:Inv X pins σ H s) (h:SqT X.K H a xs):∃ its:List Value,jI xs its/\IsTup s.heap a its.toArray/\xs.length<=sizeLine:=by
 rcases h with h | ⟨o,its,n,hk,hc,hs,hz,r⟩
 ·obtain ⟨z,its,r,p⟩:=h.ok I.hok
  exact ⟨its,r,p,z⟩
 ·refine ⟨its.toList,r,⟨o,I.kIn a o hk,hc,n,by simpa using hs⟩,?_⟩
  have e:=r.length
  simp only [Array.length_toList] at e
  omega
theorem Inv.list_inj (I:Inv X pins σ H s) (h:SqL X.K H a xs) (h':SqL X.K H a ys):xs=ys:=by
 obtain ⟨its,r,⟨o,n,e,_,_,d⟩,_⟩:=I.list h
 obtain ⟨its',r',⟨o',n',e',_,_,d'⟩,_⟩:=I.list h'
 rw [e] at e'; cases e'
 rw [d] at d'
 injection d' with d1 _
 have:its=its':=by simpa using congrArg Array.toList d1
 subst this
 exact r.inj r'
theorem Inv.tuple_inj (I:Inv X pins σ H s) (h:SqT X.K H a xs) (h':SqT X.K H a ys):xs=ys:=by
 obtain ⟨its,r,⟨o,e,_,n,d⟩,_⟩:=I.tuple h
 obtain ⟨its',r',⟨o',e',_,n',d'⟩,_⟩:=I.tuple h'
 rw [e] at e'; cases e'
 rw [d] at d'
 injection d' with d1 _
 have:its=its':=by simpa using congrArg Array.toList d1
 subst this
 exact r.inj r'
end
noncomputable abbrev Cx.wish (X:Cx) (E:Value->Shared->Prop):Cx:={ X with xe:=E }
noncomputable abbrev Cx.nox (X:Cx):Cx:=X.wish fun _ _=>False
theorem Cx.Ok.wish {X:Cx} (ok:X.Ok) (E:Value->Shared->Prop):(X.wish E).Ok:=
 ⟨ok.mod,ok.kind,ok.glob,ok.blt,ok.above,ok.inj,ok.has,ok.cab,ok.hd,ok.frames,ok.stk,ok.exf,ok.bs,ok.bsz,ok.noex,ok.exfs,ok.funs,ok.frf⟩
theorem Cx.Ok.unwish {X:Cx}{E:Value->Shared->Prop} (ok:(X.wish E).Ok):X.Ok:=
 ⟨ok.mod,ok.kind,ok.glob,ok.blt,ok.above,ok.inj,ok.has,ok.cab,ok.hd,ok.frames,ok.stk,ok.exf,ok.bs,ok.bsz,ok.noex,ok.exfs,ok.funs,ok.frf⟩
section
variable {X:Cx}{pins:List (Addr × Obj)}{σ:St}{H:Hp}{s:Shared}{E:Value->Shared->Prop}
theorem Inv.wish (I:Inv X pins σ H s) (E:Value->Shared->Prop):Inv (X.wish E) pins σ H s:=⟨I.ok.wish E,I.os,I.bare,I.base,I.loc,I.cell,I.free,I.freeC,I.pin,I.hok,I.len⟩
theorem Inv.unwish (I:Inv (X.wish E) pins σ H s):Inv X pins σ H s:=⟨I.ok.unwish,I.os,I.bare,I.base,I.loc,I.cell,I.free,I.freeC,I.pin,I.hok,I.len⟩
theorem SP.unwish {D:Ends}{f:Flow}{s':Shared} (h:SP (X.wish E) pins D f s'):SP X pins D f s':=by
 cases f with
 | next=>obtain ⟨σ',H',I,q⟩:=h; exact ⟨σ',H',I.unwish,q⟩
 | brk=>obtain ⟨σ',H',I,q⟩:=h; exact ⟨σ',H',I.unwish,q⟩
 | cont=>obtain ⟨σ',H',I,q⟩:=h; exact ⟨σ',H',I.unwish,q⟩
 | ret u=>obtain ⟨v,σ',H',I,r,q⟩:=h; exact ⟨v,σ',H',I.unwish,r,q⟩
theorem PE.nox {e:Expr}{t:TE} (h:PE X.nox e t):PE X e t:=fun pins s σ H Q I hw=>
 wpAny_mono (h pins s σ H Q (I.wish _) hw) (fun _ _ ⟨v,H',I',r,q⟩=>⟨v,H',I'.unwish,r,q⟩) fun _ _ z=>False.elim z
theorem PT.nox {e:Expr}{t:TT} (h:PT X.nox e t):PT X e t:=fun pins s σ H Q I hw=>
 wpAny_mono (h pins s σ H Q (I.wish _) hw) (fun _ _ ⟨H',I',q⟩=>⟨H',I'.unwish,q⟩) fun _ _ z=>False.elim z
theorem PSs.nox {st:List Stmt}{t:TS} (h:PSs X.nox st t):PSs X st t:=fun pins s σ H D I hw=>
 wpAny_mono (h pins s σ H D (I.wish _) hw) (fun _ _ q=>q.unwish) fun _ _ z=>False.elim z
end
section
variable {X:Cx}{st:Stmt}{qg:List Stmt}{t u:TS}{e:Expr}{te:TE}{pos:Pos}
noncomputable def aqj:TS:=fun D σ H=>D.nx σ H
noncomputable def ari (t u:TS):TS:=fun D σ H=>t { D with nx:=u D } σ H
theorem aic:PSs X [] aqj:=fun _ _ σ H _ I h=>wpAny_execs_nil ⟨σ,H,I,h⟩
theorem JE (h1:PS X st t) (h2:PSs X qg u):PSs X (st::qg) (ari t u):=by
 intro pins s σ H D I h
 refine wpAny_execs_cons (thn (h1 pins s σ H { D with nx:=u D } I h) fun f s1 q=>?_)
 cases f with
 | next=>
  obtain ⟨σ',H',I',q⟩:=q
  exact h2 pins s1 σ' H' D I' q
 | ret v=>exact q
 | brk=>exact q
 | cont=>exact q
theorem aev (h1:PS X st t):PSs X [st] t:=by
 intro pins s σ H D I h
 refine wpAny_execs_cons (thn (h1 pins s σ H D I h) fun f s1 q=>?_)
 cases f with
 | next=>exact wpAny_execs_nil q
 | ret v=>exact q
 | brk=>exact q
 | cont=>exact q
theorem Inv.quiet {pins:List (Addr × Obj)}{σ:St}{H:Hp}{s:Shared} (I:Inv X pins σ H s):interactive X.env=false:=by simp [interactive,I.ok.kind]
noncomputable def aqk (te:TE):TS:=fun D σ H=>te σ H fun _ H1=>D.nx σ H1
theorem aew (he:PE X e te) (hs:swapsWith e none pos.line X.env=pure false:=by rfl):PS X (.Expr e pos) (aqk te):=by
 intro pins s σ H D I h
 exact wpAny_Expr_any (thn (he pins s σ H _ I h) fun v s1 ⟨x,H1,I1,r1,q1⟩=>⟨σ,H1,I1,q1⟩) I.quiet hs
noncomputable def arj (te:TE):TS:=fun D σ H=>te σ H D.rt
theorem ag9 (he:PE X e te):PS X (.Return (some e) pos) (arj te):=by
 intro pins s σ H D I h
 exact wpAny_Return_some (thn (he pins s σ H _ I h) fun v s1 ⟨x,H1,I1,r1,q1⟩=>⟨x,σ,H1,I1,r1,q1⟩)
noncomputable def ark (c:TT) (t u:TS):TS:=fun D σ H=>c σ H fun b H1=>if b=true then t D σ H1 else u D σ H1
theorem aoy {c:Expr}{a b:List Stmt}{tc:TT} (hc:PT X c tc) (ha:PSs X a t) (hb:PSs X b u):PS X (.If c a b pos) (ark tc t u):=by
 intro pins s σ H D I h
 refine wpAny_If (thn (hc pins s σ H _ I h) fun d s1 ⟨H1,I1,q1⟩=>?_)
 cases d with
 | true=>exact ha pins s1 σ H1 D I1 q1
 | false=>exact hb pins s1 σ H1 D I1 q1
noncomputable def akr:TS:=fun _ _ _=>False
theorem aks:PS X st akr:=fun _ _ _ _ _ _ h=>h.elim
theorem ai7 {sts:List Stmt}:PSs X sts akr:=fun _ _ _ _ _ _ h=>h.elim
end
noncomputable abbrev TG:=V->St->Hp->(St->Hp->Prop)->Prop
noncomputable abbrev TGs:=List V->St->Hp->(St->Hp->Prop)->Prop
noncomputable def PG (X:Cx) (target:Expr) (t:TG):Prop:=
 ∀ (pins:List (Addr × Obj)) (s:Shared) (σ:St) (H:Hp) (v:V) (u:Value) (Q:St->Hp->Prop),Inv X pins σ H s->jU v u->t v σ H Q->
  wpAny (model X.prog X.w) X.A (assign target X.env u) (fun _ s'=>∃ σ' H',Inv X pins σ' H' s'/\Q σ' H') X.xe s
noncomputable def PGs (X:Cx) (ts:List Expr) (t:TGs):Prop:=
 ∀ (pins:List (Addr × Obj)) (s:Shared) (σ:St) (H:Hp) (vs:List V) (us:List Value) (Q:St->Hp->Prop),Inv X pins σ H s->jI vs us->t vs σ H Q->
  wpAny (model X.prog X.w) X.A (assignInOrder ((assignEach ts X.env).map (·.2)) us) (fun _ s'=>∃ σ' H',Inv X pins σ' H' s'/\Q σ' H') X.xe s
noncomputable abbrev ao3:=V->V->V->Hp->(Hp->Prop)->Prop
noncomputable def amU (X:Cx) (t:ao3):Prop:=
 ∀ (pins:List (Addr × Obj)) (s:Shared) (σ:St) (H:Hp) (o i v:V) (ov iv u:Value) (Q:Hp->Prop),Inv X pins σ H s->jU o ov->jU i iv->jU v u->t o i v H Q->
  wpAny (model X.prog X.w) X.A (setItem ov iv u) (fun _ s'=>∃ H',Inv X pins σ H' s'/\Q H') X.xe s
section
variable {X:Cx}{pos:Pos}
noncomputable def akt (i:Nat):TG:=fun v σ H Q=>Q (σ.set i (some v)) H
theorem aav {i:Nat}{x:Str} (hN:X.N.Nodup) (hi:X.N[i]?=some x) (hx:Loc X.env.scope x) (hf:X.fn x=true ∨ X.env.scope.names.lookup x=some .local:=by first | exact .inl rfl | exact .inr rfl | assumption):PG X (.Name x pos) (akt i):=by
 intro pins s σ H v u Q I r h
 exact wpAny_assign_Name (acs I hN hi hx r (fun s' I'=>⟨_,H,I',h⟩) hf)
noncomputable def arl:TGs:=fun vs σ H Q=>vs=[]/\Q σ H
noncomputable def aql (t:TG) (u:TGs):TGs:=fun vs σ H Q=>∃ v r,vs=v::r/\t v σ H fun σ' H'=>u r σ' H' Q
theorem aid:PGs X [] arl:=by
 intro pins s σ H vs us Q I r h
 obtain ⟨e,h⟩:=h
 subst e
 cases r
 exact assignInOrder_nil ⟨σ,H,I,h⟩
theorem afw {e:Expr}{es:List Expr}{t:TG}{u:TGs} (h1:PG X e t) (h2:PGs X es u)
  (hs:(assignEach (e::es) X.env).map (·.2)=assign e X.env::(assignEach es X.env).map (·.2):=by rfl):PGs X (e::es) (aql t u):=by
 intro pins s σ H vs us Q I r h
 obtain ⟨v,vr,e1,h⟩:=h
 subst e1
 cases r with
 | cons r rr=>
  rw [hs]
  refine assignInOrder_cons (thn (h1 pins s σ H _ _ _ I r h) fun _ s1 ⟨σ1,H1,I1,q1⟩=>?_)
  exact h2 pins s1 σ1 H1 _ _ Q I1 rr q1
noncomputable def arm (K:PySem.W.Frag) (n:Nat) (t:TGs):TG:=fun v σ H Q=>∃ a xs,v= .ref a/\SqT K H a xs/\xs.length=n/\t xs σ H Q
theorem aku {es:List Expr}{k:Nat}{t:TGs}{n:Nat} (hc:X.calm=true) (h:PGs X es t)
  (hn:(assignEach es X.env).length=n:=by rfl) (hst:(assignEach es X.env).findIdx? (·.1)=none:=by rfl):PG X (.Tuple es k pos) (arm X.K n t):=by
 intro pins s σ H v u Q I r hw
 obtain ⟨a,xs,e1,hq,hl,hw⟩:=hw
 subst e1
 cases r
 obtain ⟨its,rv,ht,hz⟩:=I.tuple hq
 refine assign_Tuple_tuple (I.ok.hd hc) ht (by simp [hn,←hl,rv.length]) hst fun h' hx=>?_
 have I1:Inv X pins σ H { s with heap:=h' }:=I.kept (t':=s.toks) fun b o e=>hx b o (Nat.ne_of_lt (Heap.lt_size e)) e
 exact h pins _ σ H xs _ Q I1 (by simpa using rv) hw
noncomputable def arn (to ti:TE) (t:ao3):TG:=fun v σ H Q=>to σ H fun o H1=>ti σ H1 fun i H2=>t o i v H2 fun H3=>Q σ H3
theorem akv {o i:Expr}{to ti:TE}{t:ao3} (ho:PE X o to) (hi:PE X i ti) (hs:amU X t)
  (ha:∀ v,assign (.Subscript o i pos) X.env v=(do
   let ov ←holding [v] (eval o X.env)
   let iv ←holding [v,ov] (eval i X.env)
   standAt pos
   holding [v,ov,iv] (setItem ov iv v)
   release [v,ov,iv] []):=by intro _; rfl):PG X (.Subscript o i pos) (arn to ti t):=by
 intro pins s σ H v u Q I r h
 rw [ha]
 refine wpAny_bind (wpAny_holding (thn (ho pins s σ H _ I h) fun ov s1 ⟨x,H1,I1,r1,q1⟩=>?_))
 refine wpAny_bind (wpAny_holding (thn (hi pins s1 σ H1 _ I1 q1) fun iv s2 ⟨y,H2,I2,r2,q2⟩=>?_))
 refine wpAny_bind (wpAny_standAt (wpAny_bind (wpAny_holding (thn (hs pins s2 σ H2 x y v ov iv u _ I2 r1 r2 r q2) fun _ s3 ⟨H3,I3,q3⟩=>?_))))
 exact wpAny_release ⟨σ,H3,I3,q3⟩
noncomputable def ao4 (te:TE) (g:TG):TS:=fun D σ H=>te σ H fun x H1=>g x σ H1 D.nx
theorem akw {tg e:Expr}{te:TE}{g:TG} (he:PE X e te) (hg:PG X tg g) (hs:swapsWithSole [tg] e pos.line X.env=pure false:=by rfl) (hw:swappedStores [tg] e X.env=pure none:=by rfl)
  (h1:(assignEach [tg] X.env).map (·.2)=[assign tg X.env]:=by rfl):PS X (.Assign [tg] e pos) (ao4 te g):=by
 intro pins s σ H D I h
 refine wpAny_Assign_stores (thn (he pins s σ H _ I h) fun v s1 ⟨x,H1,I1,r1,q1⟩=>?_) hs hw
 rw [h1]
 exact thn (hg pins s1 σ H1 x v _ I1 r1 q1) fun _ s2 q=>q
theorem act {i:Nat}{x:Str}{e:Expr}{te:TE}{pos':Pos} (hN:X.N.Nodup) (hi:X.N[i]?=some x) (hx:Loc X.env.scope x) (he:PE X e te) (hs:swapsWith e (some (.Name x pos')) pos.line X.env=pure false:=by rfl) (hf:X.fn x=true ∨ X.env.scope.names.lookup x=some .local:=by first | exact .inl rfl | exact .inr rfl | assumption):
  PS X (.Assign [.Name x pos'] e pos) (ao4 te (akt i)):=by
 intro pins s σ H D I h
 refine wpAny_Assign_Name (thn (he pins s σ H _ I h) fun v s1 ⟨y,H1,I1,r1,q1⟩=>?_) hs
 exact acs I1 hN hi hx r1 (fun s2 I2=>⟨_,H1,I2,q1⟩) hf
end
section
variable {X:Cx}{pos:Pos}
end
structure It where
 go:Nat->Hp->Prop
 yld:Nat->Hp->V->Hp->Prop
 stop:Nat->Hp->Prop
noncomputable def afx (X:Cx) (pins:List (Addr × Obj)) (H:Hp) (b:Addr):Prop:=
 H b=none/\b ≠ X.env.locals/\b ∉ X.fs/\(b ∈ X.ex ∨ X.s₀.heap.objs.size<=b)/\(∀ x c,X.env.cells.lookup x=some c->c ≠ b)/\∀ p ∈ X.pn++pins,p.1 ≠ b
theorem Inv.fpOk {X:Cx}{pins:List (Addr × Obj)}{σ:St}{H H':Hp}{s:Shared}{b:Addr} (I:Inv X pins σ H s) (hb:s.heap.objs.size<=b) (hn:H' b=none):afx X pins H' b:=by
 refine ⟨hn,Nat.ne_of_gt (Nat.lt_of_lt_of_le I.lt hb),I.nofs hb,.inr (Nat.le_trans I.sz hb),fun x c e z=>?_,fun p hp z=>?_⟩
 ·obtain ⟨v,q⟩:=I.cell x c e
  exact absurd (Nat.lt_of_lt_of_le q.lt (by rw [z]; exact hb)) (Nat.lt_irrefl _)
 ·exact absurd (Nat.lt_of_lt_of_le (Heap.lt_size (I.pin p hp).1) (by rw [z]; exact hb)) (Nat.lt_irrefl _)
structure Turn (P:Program) (w:World) (K:PySem.W.Frag) (tg:Expr) (J:It) (fp:List Addr) (it:Addr) (tn:Nat->Heap->Prop):Prop where
 mem:it ∈ fp
 obj:∀ i h,tn i h->∀ b ∈ fp,∃ o,h.get? b=some o/\∀ v,o.data ≠ .cell v
 keep:∀ i h h',tn i h->(∀ b ∈ fp,∀ o,h.get? b=some o->h'.get? b=some o)->tn i h'
 item:∀ (X:Cx),X.prog=P->X.w=w->X.K=K->X.calm=true->∀ (i:Nat) (pins:List (Addr × Obj)) (s:Shared) (σ:St) (H:Hp) (E:Value->Shared->Prop),Inv X pins σ H s->(∀ b ∈ fp,afx X pins H b)->tn i s.heap->J.go i H->
  wpAny (model P w) X.A (pyNext (.ref it)) (fun r s1=>∃ u,r=some u/\
   wpAny (model P w) X.A (letOwnedTupleGo tg (.ref it) u) (fun _ s2=>∃ x H',Inv X pins σ H' s2/\jU x u/\J.yld i H x H'/\tn (i+1) s2.heap/\∀ b ∈ fp,H' b=none) E s1) E s
 done:∀ (X:Cx),X.prog=P->X.w=w->X.K=K->X.calm=true->∀ (i:Nat) (pins:List (Addr × Obj)) (s:Shared) (σ:St) (H:Hp) (E:Value->Shared->Prop),Inv X pins σ H s->(∀ b ∈ fp,afx X pins H b)->tn i s.heap->J.stop i H->
  wpAny (model P w) X.A (pyNext (.ref it)) (fun r s1=>r=none/\Inv X pins σ H s1) E s
 self:∀ (A:Around) (i:Nat) (s:Shared) (Q:Value->Shared->Prop) (E:Value->Shared->Prop),tn i s.heap->Q (.ref it) s->wpAny (model P w) A (pyIter (.ref it)) Q E s
noncomputable abbrev TI:=St->Hp->(It->Hp->Prop)->Prop
noncomputable def PIE (X:Cx) (pins:List (Addr × Obj)) (σ:St) (tg:Expr) (R:It->Hp->Prop) (itv:Value) (s2:Shared):Prop:=
 ∃ (it:Addr) (fp:List Addr) (tn:Nat->Heap->Prop) (J:It) (H':Hp),itv= .ref it/\Inv X pins σ H' s2/\Turn X.prog X.w X.K tg J fp it tn/\tn 0 s2.heap/\(∀ b ∈ fp,afx X pins H' b)/\R J H'
noncomputable def PI (X:Cx) (tg iter:Expr) (wi:TI):Prop:=
 ∀ (pins:List (Addr × Obj)) (s:Shared) (σ:St) (H:Hp) (R:It->Hp->Prop),Inv X pins σ H s->wi σ H R->
  wpAny (model X.prog X.w) X.A (eval iter X.env) (fun v s1=>wpAny (model X.prog X.w) X.A (pyIter v) (PIE X pins σ tg R) X.xe s1) X.xe s
theorem afy {M : Model} {A : Around} {E : Value -> Shared -> Prop} {s : Shared} {tg : Expr} {it : Addr} {u : Value} {o : Obj} {n : String} {vs : Array Value} {Q : Unit -> Shared -> Prop} (ho : s.heap.get? it = some o) (hc : o.cls = .type n) (hd : o.data = .fields vs)
    (hn : ["enumerate", "zip", "dict_itemiterator", "dict_reverseitemiterator", "odict_iterator", "itertools.zip_longest", "itertools.pairwise"].contains n = false) (hQ : Q () s) : wpAny M A (letOwnedTupleGo tg (.ref it) u) Q E s := by
  unfold letOwnedTupleGo
  cases tg <;> first
    | exact wpAny_pure hQ
    | (cases u <;> first
        | exact wpAny_pure hQ
        | (refine wpAny_bind (wpAny_load ho ?_)
           rw [hc, hd]
           show wpAny M A (if (["enumerate", "zip", "dict_itemiterator", "dict_reverseitemiterator", "odict_iterator", "itertools.zip_longest", "itertools.pairwise"].contains n && vs[0]? == some (rawInt _)) = true then _ else _) Q E s
           rw [if_neg (by intro h; rw [hn, Bool.false_and] at h; cases h)]
           exact wpAny_pure hQ))
noncomputable def Itl (K:PySem.W.Frag) (a:Addr):It:=
 ⟨fun i H=>∃ xs x,SqL K H a xs/\xs[i]?=some x,fun i H x H'=>H'=H/\∀ xs,SqL K H a xs->xs[i]?=some x,fun i H=>∃ xs,SqL K H a xs/\xs.length<=i⟩
noncomputable def Itt (K:PySem.W.Frag) (a:Addr):It:=
 ⟨fun i H=>∃ xs x,SqT K H a xs/\xs[i]?=some x,fun i H x H'=>H'=H/\∀ xs,SqT K H a xs->xs[i]?=some x,fun i H=>∃ xs,SqT K H a xs/\xs.length<=i⟩
noncomputable def Itr (lo:Int) (n:Nat):It:=⟨fun i _=>i < n,fun i H x H'=>H'=H/\x= .int (lo+i),fun i _=>n<=i⟩
theorem ai8 {P:Program}{w:World}{K:PySem.W.Frag}{tg:Expr} (a it:Addr):Turn P w K tg (Itl K a) [it] it (fun i h=>h.IsListIter it a i) where
 mem:=by simp
 obj:=fun i h st b hb=>by
  have e:b=it:=by simpa using hb
  subst e
  obtain ⟨o,e,c,d⟩:=st
  exact ⟨o,e,fun v z=>by rw [d] at z; cases z⟩
 keep:=fun i h h' st k=>st.at fun o e=>k it (by simp) o e
 item:=by
  intro X hP hw hK hc i pins s σ H E I hf st hg
  subst hP hw hK
  obtain ⟨xs,x,hq,hx⟩:=hg
  obtain ⟨its,rv,p,hz⟩:=I.list hq
  obtain ⟨u,hu,ru⟩:=rv.get hx
  obtain ⟨f0,f1,f2,f3,f4,f5⟩:=hf it (by simp)
  refine wpAny_pyNext_list_item st p.isList (x:=u) (by simpa using hu) fun h' st' sb=>?_
  have I1:Inv X pins σ H { s with heap:=h' }:=I.turned (t':=s.toks) (fun b o hb e=>(sb.2 b hb).trans e) f0 f1 f3 f4 f5
  obtain ⟨o,e,c,d⟩:=id st'
  exact ⟨u,rfl,afy (s:={ s with heap:=h' }) e c d (by decide) ⟨x,H,I1,ru,⟨rfl,fun ys hy=>by rw [I.list_inj hy hq]; exact hx⟩,st',fun b hb=>(hf b hb).1⟩⟩
 done:=by
  intro X hP hw hK hc i pins s σ H E I hf st hg
  subst hP hw hK
  obtain ⟨xs,hq,hx⟩:=hg
  obtain ⟨its,rv,p,hz⟩:=I.list hq
  obtain ⟨f0,f1,f2,f3,f4,f5⟩:=hf it (by simp)
  have hl:=rv.length
  exact wpAny_pyNext_list_end (I.ok.hd hc) st p.isList (by simp; omega) fun h' eb=>⟨rfl,I.turned (t':=s.toks) (fun b o hb e=>eb b o hb e) f0 f1 f3 f4 f5⟩
 self:=fun _ _ _ _ _ st h=>wpAny_pyIter_listiter st h
theorem aha {P:Program}{w:World}{K:PySem.W.Frag}{tg:Expr} (a it:Addr):Turn P w K tg (Itt K a) [it] it (fun i h=>h.IsTupleIter it a i) where
 mem:=by simp
 obj:=fun i h st b hb=>by
  have e:b=it:=by simpa using hb
  subst e
  obtain ⟨o,e,c,d⟩:=st
  exact ⟨o,e,fun v z=>by rw [d] at z; cases z⟩
 keep:=fun i h h' st k=>st.at fun o e=>k it (by simp) o e
 item:=by
  intro X hP hw hK hc i pins s σ H E I hf st hg
  subst hP hw hK
  obtain ⟨xs,x,hq,hx⟩:=hg
  obtain ⟨its,rv,p,hz⟩:=I.tuple hq
  obtain ⟨u,hu,ru⟩:=rv.get hx
  obtain ⟨f0,f1,f2,f3,f4,f5⟩:=hf it (by simp)
  refine wpAny_pyNext_tuple_item st (show s.heap.IsTuple a its.toArray from p) (x:=u) (by simpa using hu) fun h' st' sb=>?_
  have I1:Inv X pins σ H { s with heap:=h' }:=I.turned (t':=s.toks) (fun b o hb e=>(sb.2 b hb).trans e) f0 f1 f3 f4 f5
  obtain ⟨o,e,c,d⟩:=id st'
  exact ⟨u,rfl,afy (s:={ s with heap:=h' }) e c d (by decide) ⟨x,H,I1,ru,⟨rfl,fun ys hy=>by rw [I.tuple_inj hy hq]; exact hx⟩,st',fun b hb=>(hf b hb).1⟩⟩
 done:=by
  intro X hP hw hK hc i pins s σ H E I hf st hg
  subst hP hw hK
  obtain ⟨xs,hq,hx⟩:=hg
  obtain ⟨its,rv,p,hz⟩:=I.tuple hq
  obtain ⟨f0,f1,f2,f3,f4,f5⟩:=hf it (by simp)
  have hl:=rv.length
  exact wpAny_pyNext_tuple_end (I.ok.hd hc) st (show s.heap.IsTuple a its.toArray from p) (by simp; omega) fun h' eb=>⟨rfl,I.turned (t':=s.toks) (fun b o hb e=>eb b o hb e) f0 f1 f3 f4 f5⟩
 self:=fun _ _ _ _ _ st h=>wpAny_pyIter_tupleiter st h
theorem ahb {P:Program}{w:World}{K:PySem.W.Frag}{tg:Expr} (it:Addr) (lo:Int) (n:Nat):Turn P w K tg (Itr lo n) [it] it (fun i h=>IsRangeIter h it (lo+(i:Nat)*1) ((n:Int) - (i:Nat)) 1) where
 mem:=by simp
 obj:=fun i h st b hb=>by
  have e:b=it:=by simpa using hb
  subst e
  exact ⟨_,st,fun v z=>by
   have z':Data.fields _=Data.cell v:=z
   cases z'⟩
 keep:=fun i h h' st k=>k it (by simp) _ st
 item:=by
  intro X hP hw hK hc i pins s σ H E I hf st hg
  subst hP hw hK
  obtain ⟨f0,f1,f2,f3,f4,f5⟩:=hf it (by simp)
  have W:=Walks.range (prog:=X.prog) (w:=X.w) (I.ok.hd hc) it lo 1 n
  refine W.item i s _ _ hg st fun v h' tk hv st' kk=>?_
  obtain ⟨t,rfl⟩:=hv
  have I1:Inv X pins σ H { s with heap:=h',toks:=tk }:=I.turned (fun b o hb e=>kk b o (by simpa using hb) e) f0 f1 f3 f4 f5
  refine ⟨_,rfl,afy (s:={ s with heap:=h',toks:=tk }) (n:="range_iterator") st' rfl rfl (by decide) ⟨.int (lo+i),H,I1,⟨t,?_⟩,⟨rfl,rfl⟩,st',fun b hb=>(hf b hb).1⟩⟩
  rw [Int.mul_one]
 done:=by
  intro X hP hw hK hc i pins s σ H E I hf st hg
  subst hP hw hK
  obtain ⟨f0,f1,f2,f3,f4,f5⟩:=hf it (by simp)
  exact wpAny_pyNext_range_end (I.ok.hd hc) st (by have:n<=i:=hg; omega) fun h' eb=>⟨rfl,I.turned (t':=s.toks) (fun b o hb e=>eb b o hb e) f0 f1 f3 f4 f5⟩
 self:=fun _ _ _ _ _ st h=>wpAny_pyIter_rangeiter st h
end L2
namespace L2
open PySem PySem.Spec PyProof.Rows
section
variable {X:Cx}{tg:Expr}
noncomputable def aqm (K:PySem.W.Frag) (tl:TE):TI:=fun σ H R=>tl σ H fun x H1=>∃ a,x= .ref a/\(∃ xs,SqL K H1 a xs)/\R (Itl K a) H1
noncomputable def aro (K:PySem.W.Frag) (tl:TE):TI:=fun σ H R=>tl σ H fun x H1=>∃ a,x= .ref a/\(∃ xs,SqT K H1 a xs)/\R (Itt K a) H1
theorem amV {l:Expr}{tl:TE} (hl:PE X l tl):PI X tg l (aqm X.K tl):=by
 intro pins s σ H R I h
 refine thn (hl pins s σ H _ I h) fun v s1 ⟨x,H1,I1,r1,q1⟩=>?_
 obtain ⟨a,e,⟨xs,hq⟩,q⟩:=q1
 subst e
 cases r1
 obtain ⟨its,rv,p,hz⟩:=I1.list hq
 refine wpAny_pyIter_list p.isList ?_
 refine ⟨s1.heap.objs.size,[s1.heap.objs.size],_,_,H1,rfl,I1.kept (t':=s1.toks) fun b o e=>Heap.get?_push_of_some _ e,ai8 a _,⟨_,Heap.get?_push_size _ rfl,rfl,rfl⟩,fun b hb=>?_,q⟩
 have e:b=s1.heap.objs.size:=by simpa using hb
 subst e
 exact I1.fpOk (Nat.le_refl _) (I1.hok.fresh (Nat.le_refl _))
theorem ao5 {l:Expr}{tl:TE} (hl:PE X l tl):PI X tg l (aro X.K tl):=by
 intro pins s σ H R I h
 refine thn (hl pins s σ H _ I h) fun v s1 ⟨x,H1,I1,r1,q1⟩=>?_
 obtain ⟨a,e,⟨xs,hq⟩,q⟩:=q1
 subst e
 cases r1
 obtain ⟨its,rv,p,hz⟩:=I1.tuple hq
 refine wpAny_pyIter_tuple (show s1.heap.IsTuple a its.toArray from p) ?_
 refine ⟨s1.heap.objs.size,[s1.heap.objs.size],_,_,H1,rfl,I1.kept (t':=s1.toks) fun b o e=>Heap.get?_push_of_some _ e,aha a _,⟨_,Heap.get?_push_size _ rfl,rfl,rfl⟩,fun b hb=>?_,q⟩
 have e:b=s1.heap.objs.size:=by simpa using hb
 subst e
 exact I1.fpOk (Nat.le_refl _) (I1.hok.fresh (Nat.le_refl _))
theorem akx {pins:List (Addr × Obj)}{σ:St}{H:Hp}{s:Shared}{R:It->Hp->Prop}{E:Value->Shared->Prop}{lo hi:Int}{t u v:Tok}{tk:Nat} (I:Inv X pins σ H s) (h1:-(2 ^ 62)<=lo) (h2:lo < 2 ^ 62) (h3:-(2 ^ 62)<=hi) (h4:hi < 2 ^ 62)
  (q:R (Itr lo (hi - lo).toNat) H):wpAny (model X.prog X.w) X.A (pyIter (.ref s.heap.objs.size)) (PIE X pins σ tg R) E { s with heap:=s.heap.push { cls:= .type "range",data:= .fields #[.int lo t,.int hi u,.int 1 v] },toks:=tk }:=by
 refine wpAny_pyIter_range (IsRange.new ..) (small_one h1 h2 h3 h4) ?_
 have I1:Inv X pins σ H { s with heap:=s.heap.push { cls:= .type "range",data:= .fields #[.int lo t,.int hi u,.int 1 v] },toks:=tk }:=I.kept fun b o e=>Heap.get?_push_of_some _ e
 refine ⟨(s.heap.push { cls:= .type "range",data:= .fields #[.int lo t,.int hi u,.int 1 v] }).objs.size,[(s.heap.push { cls:= .type "range",data:= .fields #[.int lo t,.int hi u,.int 1 v] }).objs.size],_,_,H,rfl,
  I1.kept (t':=tk) fun b o e=>Heap.get?_push_of_some _ e,ahb _ lo (hi - lo).toNat,?_,fun b hb=>?_,q⟩
 ·have e1:lo+((0:Nat):Int)*1=lo:=by simp
  have e2:(((hi - lo).toNat:Nat):Int) - ((0:Nat):Int)=Builtin.Range.rangeSize lo hi 1:=by rw [rangeSize_one]; split <;> omega
  show IsRangeIter _ _ (lo+((0:Nat):Int)*1) ((((hi - lo).toNat:Nat):Int) - ((0:Nat):Int)) 1
  rw [e1,e2]
  exact Heap.get?_push_size _ rfl
 ·have e:b=(s.heap.push { cls:= .type "range",data:= .fields #[.int lo t,.int hi u,.int 1 v] }).objs.size:=by simpa using hb
  subst e
  exact I1.fpOk (Nat.le_refl _) (I1.hok.fresh (Nat.le_refl _))
noncomputable def aqn (ta:TA):TI:=fun σ H R=>ta σ H fun vs H1=>∃ j:Int,vs=[.int j]/\-(2 ^ 62)<=j/\j < 2 ^ 62/\R (Itr 0 j.toNat) H1
theorem abd {a:Expr}{ta:TA}{p pos:Pos} (hg:Gl X "range") (hm:X.mg "range"=none) (ha:PA X [a] ta) (hs:starEach [a] X.env=[(false,eval a X.env)]:=by rfl):PI X tg (.Call (.Name "range" p) [a] [] pos) (aqn ta):=by
 intro pins s σ H R I h
 refine Call_ (Q9 I hg hm boot_range (PyProof.Rows.callWith_type1 (thn (ha pos pins s σ H _ I h) fun us s1 ⟨vs,H1,I1,r1,q1⟩=>?_) hs rfl))
 obtain ⟨j,e,q1,q2,q⟩:=q1
 subst e
 cases r1 with
 | cons r rr=>
  cases rr
  obtain ⟨t,rfl⟩:=r
  exact call_range_1 (akx I1 (by omega) (by omega) q1 q2 (by simpa using q))
noncomputable def arp (wi:TI) (g:TG) (tb:TS):TS:=fun D σ H=>wi σ H fun J H1=>∃ W:Nat->Nat->St->Hp->Prop,(∃ m,W 0 m σ H1)/\∀ i m σ H,W i m σ H->
 (J.stop i H/\D.nx σ H) ∨ (J.go i H/\∃ N:St->Hp->Prop,(∀ σ' H',N σ' H'->∃ m',m' < m/\W (i+1) m' σ' H')/\∀ x H',J.yld i H x H'->g x σ H' fun σ2 H2=>tb { D with nx:=N,ct:=N,bk:=D.nx } σ2 H2)
noncomputable def abe (fp:List Addr) (h:Heap):List (Addr × Obj):=fp.filterMap fun b=>(h.get? b).map fun o=>(b,o)
theorem zT {fp:List Addr}{h:Heap}{b:Addr}{o:Obj} (hb:b ∈ fp) (e:h.get? b=some o):(b,o) ∈ abe fp h:=List.mem_filterMap.mpr ⟨b,hb,by rw [e]; rfl⟩
theorem ai9 {fp:List Addr}{h:Heap}{p:Addr × Obj} (hp:p ∈ abe fp h):p.1 ∈ fp/\h.get? p.1=some p.2:=by
 obtain ⟨b,hb,e⟩:=List.mem_filterMap.mp hp
 cases q:h.get? b with
 | none=>rw [q] at e; cases e
 | some o=>
  rw [q] at e
  have e':(b,o)=p:=Option.some.inj e
  subst e'
  exact ⟨hb,q⟩
theorem Inv.pinned {pins:List (Addr × Obj)}{σ:St}{H:Hp}{s:Shared}{fp:List Addr} (I:Inv X pins σ H s) (hf:∀ b ∈ fp,afx X pins H b) (ho:∀ b ∈ fp,∃ o,s.heap.get? b=some o/\∀ v,o.data ≠ .cell v):Inv X (pins++abe fp s.heap) σ H s:=
 I.pins_of fun p hp=>(List.mem_append.mp hp).elim (fun z=>I.pin p (List.mem_append_right _ z)) fun z=>by
  obtain ⟨hb,e⟩:=ai9 z
  obtain ⟨f0,f1,f2,_⟩:=hf p.1 hb
  obtain ⟨o,e',d⟩:=ho p.1 hb
  rw [e] at e'; cases e'
  exact ⟨e,f0,f1,f2,d⟩
theorem Inv.unpinned {pins pl:List (Addr × Obj)}{σ:St}{H:Hp}{s:Shared} (I:Inv X (pins++pl) σ H s):Inv X pins σ H s:=I.pins_of fun p hp=>I.pin p (List.mem_append_right _ (List.mem_append_left _ hp))
theorem aex {iter:Expr}{body:List Stmt}{wi:TI}{g:TG}{tb:TS}{pos:Pos} (hp:PassesOwn (model X.prog X.w) X.A X.env X.xe) (hc:X.calm=true) (hi:PI X tg iter wi) (hg:PG X tg g) (hb:PSs X body tb)
  (hs:∀ x,foldedSetIterable iter X.env x=pure x:=by intro _; rfl):PS X (.For tg iter body [] pos) (arp wi g tb):=by
 intro pins s σ H D I h
 refine wpAny_For (thn (hi pins s σ H _ I h) fun v s1 h1=>thn h1 fun itv s2 h2=>?_) hs
 obtain ⟨it,fp,tn,J,H2,e,I2,T,st2,f2,W,⟨m0,w0⟩,turn⟩:=h2
 subst e
 have stat:∀ {H':Hp},(∀ b ∈ fp,H' b=none)->∀ b ∈ fp,afx X pins H' b:=fun hn b hb=>⟨hn b hb,(f2 b hb).2⟩
 refine codeAny_forLoop_any (fun n s'=>∃ i σ' H',Inv X pins σ' H' s'/\tn i s'.heap/\(∀ b ∈ fp,H' b=none)/\W i n σ' H') ?_ m0 ⟨0,σ,H2,I2,st2,fun b hb=>(f2 b hb).1,w0⟩
 rintro n s3 ⟨i,σ3,H3,I3,st3,fr3,w3⟩
 rcases turn i n σ3 H3 w3 with ⟨stop,qn⟩ | ⟨go,N,hN,step⟩
 ·refine wpAny_passesOwn hp (thn (T.done X rfl rfl rfl hc i pins s3 σ3 H3 X.xe I3 (stat fr3) st3 stop) fun r s4 ⟨hr,I4⟩=>?_)
  subst hr
  exact wpAny_execs_nil ⟨σ3,H3,I4,qn⟩
 ·refine wpAny_passesOwn hp (thn (T.item X rfl rfl rfl hc i pins s3 σ3 H3 X.xe I3 (stat fr3) st3 go) fun r s4 ⟨u,hr,h4⟩=>?_)
  subst hr
  refine wpAny_passesOwn hp (thn h4 fun _ s5 ⟨x,H5,I5,r5,y5,st5,fr5⟩=>?_)
  have I5':=I5.pinned (stat fr5) (T.obj _ _ st5)
  refine wpAny_passesOwn hp (thn (hg _ s5 σ3 H5 x u _ I5' r5 (step x H5 y5)) fun _ s6 ⟨σ6,H6,I6,q6⟩=>?_)
  refine wpAny_passesOwn hp (thn (hb _ s6 σ6 H6 _ I6 q6) fun f s7 q7=>?_)
  have again:∀ {σ7:St} {H7:Hp},Inv X (pins++abe fp s5.heap) σ7 H7 s7->N σ7 H7->∃ m,m < n/\∃ i σ' H',Inv X pins σ' H' s7/\tn i s7.heap/\(∀ b ∈ fp,H' b=none)/\W i m σ' H':=fun {σ7 H7} I7 n7=>by
   obtain ⟨m',hm,w7⟩:=hN σ7 H7 n7
   refine ⟨m',hm,i+1,σ7,H7,I7.unpinned,T.keep _ _ _ st5 fun b hb o e=>(I7.pin (b,o) (List.mem_append_right _ (List.mem_append_right _ (zT hb e)))).1,fun b hb=>?_,w7⟩
   obtain ⟨o,e,d⟩:=T.obj _ _ st5 b hb
   exact (I7.pin (b,o) (List.mem_append_right _ (List.mem_append_right _ (zT hb e)))).2.1
  cases f with
  | next=>obtain ⟨σ7,H7,I7,n7⟩:=q7; exact again I7 n7
  | cont=>obtain ⟨σ7,H7,I7,n7⟩:=q7; exact again I7 n7
  | brk=>obtain ⟨σ7,H7,I7,q7⟩:=q7; exact ⟨σ7,H7,I7.unpinned,q7⟩
  | ret v=>obtain ⟨x7,σ7,H7,I7,r7,q7⟩:=q7; exact ⟨x7,σ7,H7,I7.unpinned,r7,q7⟩
end
theorem adz {lo:Int}{n:Nat}{g:TG}{tb:TS}{D:Ends}{σ:St}{H:Hp} (Pv:Nat->St->Hp->Prop) (h0:Pv 0 σ H)
  (hs:∀ i σ H,i < n->Pv i σ H->g (.int (lo+i)) σ H fun σ2 H2=>tb { D with nx:=Pv (i+1),ct:=Pv (i+1),bk:=D.nx } σ2 H2) (hd:∀ σ H,Pv n σ H->D.nx σ H):
  ∃ W:Nat->Nat->St->Hp->Prop,(∃ m,W 0 m σ H)/\∀ i m σ H,W i m σ H->
   ((Itr lo n).stop i H/\D.nx σ H) ∨ ((Itr lo n).go i H/\∃ N:St->Hp->Prop,(∀ σ' H',N σ' H'->∃ m',m' < m/\W (i+1) m' σ' H')/\∀ x H',(Itr lo n).yld i H x H'->g x σ H' fun σ2 H2=>tb { D with nx:=N,ct:=N,bk:=D.nx } σ2 H2):=by
 refine ⟨fun i m σ H=>m=n - i/\i<=n/\Pv i σ H,⟨n,by simp,Nat.zero_le _,h0⟩,?_⟩
 rintro i m σ H ⟨rfl,hi,p⟩
 by_cases hlt:i < n
 ·refine .inr ⟨hlt,Pv (i+1),fun σ' H' p'=>⟨n - (i+1),by omega,rfl,hlt,p'⟩,fun x H' y=>?_⟩
  obtain ⟨e,y⟩:=y
  subst e y
  exact hs i σ _ hlt p
 ·have e:i=n:=by omega
  subst e
  exact .inl ⟨Nat.le_refl _,hd σ H p⟩
end L2
namespace L2
open PySem PySem.Spec PyProof.Rows
noncomputable abbrev R2:=V->V->Hp->VK->Prop
noncomputable def OpR (X:Cx) (f:Value->Value->Sem Value) (r:R2):Prop:=
 ∀ (pins:List (Addr × Obj)) (s:Shared) (σ:St) (H:Hp) (x y:V) (v u:Value) (Q:VK),Inv X pins σ H s->jU x v->jU y u->r x y H Q->
  wpAny (model X.prog X.w) X.A (f v u) (EP X pins σ Q) X.xe s
noncomputable def UnR (X:Cx) (f:Value->Sem Value) (r:V->Hp->VK->Prop):Prop:=
 ∀ (pins:List (Addr × Obj)) (s:Shared) (σ:St) (H:Hp) (x:V) (v:Value) (Q:VK),Inv X pins σ H s->jU x v->r x H Q->
  wpAny (model X.prog X.w) X.A (f v) (EP X pins σ Q) X.xe s
noncomputable def zC (X:Cx) (f:Value) (r:List V->Hp->VK->Prop):Prop:=
 ∀ (pins:List (Addr × Obj)) (s:Shared) (σ:St) (H:Hp) (xs:List V) (us:List Value) (Q:VK),Inv X pins σ H s->jI xs us->r xs H Q->
  wpAny (model X.prog X.w) X.A (call f us) (EP X pins σ Q) X.xe s
noncomputable def tOp (r:R2) (ta tb:TE):TE:=fun σ H Q=>ta σ H fun x H1=>tb σ H1 fun y H2=>r x y H2 Q
noncomputable def tUn (r:V->Hp->VK->Prop) (ta:TE):TE:=fun σ H Q=>ta σ H fun x H1=>r x H1 Q
noncomputable def rI (C:Int->Int->Prop) (g:Int->Int->V):R2:=fun x y H Q=>∃ i j,x= .int i/\y= .int j/\C i j/\Q (g i j) H
noncomputable def rI0 (g:Int->Int->V):R2:=fun x y H Q=>∃ i j,x= .int i/\y= .int j/\Q (g i j) H
noncomputable def rU (g:Int->V):V->Hp->VK->Prop:=fun x H Q=>∃ i,x= .int i/\Q (g i) H
section
variable {X:Cx}{a b c:Expr}{ta tb tc:TE}{pos:Pos}
theorem ao6 (ha:PE X a ta) (hb:PE X b tb) {pins:List (Addr × Obj)}{s:Shared}{σ:St}{H:Hp}{R:V->V->Hp->Prop} (I:Inv X pins σ H s)
  (h:ta σ H fun x H1=>tb σ H1 fun y H2=>R x y H2) {Q:Value->Shared->Prop} {f:Value->Value->Sem Value}
  (hf:∀ v u s2 x y H2,Inv X pins σ H2 s2->jU x v->jU y u->R x y H2->wpAny (model X.prog X.w) X.A (f v u) Q X.xe s2):
  wpAny (model X.prog X.w) X.A (eval a X.env) (fun v s₁=>wpAny (model X.prog X.w) X.A (eval b X.env) (fun u s₂=>wpAny (model X.prog X.w) X.A (f v u) Q X.xe s₂) X.xe s₁) X.xe s:=by
 refine thn (ha pins s σ H _ I h) fun v s1 ⟨x,H1,I1,r1,q1⟩=>?_
 refine thn (hb pins s1 σ H1 _ I1 q1) fun u s2 ⟨y,H2,I2,r2,q2⟩=>?_
 exact hf v u s2 x y H2 I2 r1 r2 q2
theorem aqo {op:Operator}{r:R2} (ho:OpR X (binaryOp op) r) (ha:PE X a ta) (hb:PE X b tb):PE X (.BinOp a op b pos) (tOp r ta tb):=by
 intro pins s σ H Q I h
 exact wpAny_BinOp (ao6 ha hb I h fun v u s2 x y H2 I2 rx ry q=>ho pins s2 σ H2 x y v u Q I2 rx ry q)
theorem aoz {op:UnaryOp}{r:V->Hp->VK->Prop} (ho:UnR X (unaryOp op) r) (ha:PE X a ta):PE X (.UnaryOp op a pos) (tUn r ta):=by
 intro pins s σ H Q I h
 exact UnaryOp_ (thn (ha pins s σ H _ I h) fun v s1 ⟨x,H1,I1,r1,q1⟩=>ho pins s1 σ H1 x v Q I1 r1 q1)
theorem opI {f:Value->Value->Sem Value}{C:Int->Int->Prop}{g:Int->Int->Int}
  (rule:∀ (i j:Int) (t u:Tok) (s:Shared) (Q:Value->Shared->Prop) (E:Value->Shared->Prop),C i j->Q (.int (g i j) s.toks) { s with toks:=s.toks+1 }->wpAny (model X.prog X.w) X.A (f (.int i t) (.int j u)) Q E s):
  OpR X f (rI C fun i j=> .int (g i j)):=by
 intro pins s σ H x y v u Q I rx ry h
 obtain ⟨i,j,rfl,rfl,hc,q⟩:=h
 obtain ⟨t,rfl⟩:=rx
 obtain ⟨t',rfl⟩:=ry
 exact rule i j t t' s _ _ hc ⟨.int (g i j),H,I.tok _,⟨_,rfl⟩,q⟩
theorem aqp {f:Value->Value->Sem Value}{g:Int->Int->Int}
  (rule:∀ (i j:Int) (t u:Tok) (s:Shared) (Q:Value->Shared->Prop) (E:Value->Shared->Prop),Q (.int (g i j) s.toks) { s with toks:=s.toks+1 }->wpAny (model X.prog X.w) X.A (f (.int i t) (.int j u)) Q E s):
  OpR X f (rI0 fun i j=> .int (g i j)):=by
 intro pins s σ H x y v u Q I rx ry h
 obtain ⟨i,j,rfl,rfl,q⟩:=h
 obtain ⟨t,rfl⟩:=rx
 obtain ⟨t',rfl⟩:=ry
 exact rule i j t t' s _ _ ⟨.int (g i j),H,I.tok _,⟨_,rfl⟩,q⟩
theorem ao7 {f:Value->Value->Sem Value}{g:Int->Int->Bool}
  (rule:∀ (i j:Int) (t u:Tok) (s:Shared) (Q:Value->Shared->Prop) (E:Value->Shared->Prop),Q (.bool (g i j)) s->wpAny (model X.prog X.w) X.A (f (.int i t) (.int j u)) Q E s):
  OpR X f (rI0 fun i j=> .bl (g i j)):=by
 intro pins s σ H x y v u Q I rx ry h
 obtain ⟨i,j,rfl,rfl,q⟩:=h
 obtain ⟨t,rfl⟩:=rx
 obtain ⟨t',rfl⟩:=ry
 exact rule i j t t' s _ _ ⟨.bl (g i j),H,I,rfl,q⟩
noncomputable def arq (i j:Int):Prop:=0 < j/\j < 1073741824
noncomputable def ao8 (i j:Int):Prop:=(-(2 ^ 64) < i/\i < 2 ^ 64) ∨ (-(2 ^ 64) < j/\j < 2 ^ 64)
theorem ao8.ok {i j:Int} (h:ao8 i j):IntMulOk i j:=by
 rcases h with ⟨h1,h2⟩ | ⟨h1,h2⟩
 ·exact .of_left (intBits_le_64 h1 h2)
 ·exact .of_right (intBits_le_64 h1 h2)
theorem ao9:OpR X (binaryOp .Add) (rI0 fun i j=> .int (i+j)):=aqp fun _ _ _ _ _ _ _ q=>add_int q
theorem apa:OpR X (binaryOp .Sub) (rI0 fun i j=> .int (i - j)):=aqp fun _ _ _ _ _ _ _ q=>sub_int q
theorem apb:OpR X (binaryOp .Mult) (rI ao8 fun i j=> .int (i*j)):=opI fun _ _ _ _ _ _ _ hc q=>mul_int q hc.ok
theorem amW:OpR X (binaryOp .FloorDiv) (rI arq fun i j=> .int (i / j)):=opI fun i j _ _ _ _ _ hc q=>by
 have h1:(0:Int) < j:=hc.1
 have h2:j < 1073741824:=hc.2
 exact floordiv_int (by omega) (by rw [Int.fdiv_eq_ediv_of_nonneg i (by omega)]; exact q) (.inl (PyProof.noPylong_small (by omega)))
theorem apc:OpR X (binaryOp .Mod) (rI (fun _ j=>0 < j) fun i j=> .int (i % j)):=opI fun i j _ _ _ _ _ hc q=>by
 have h1:(0:Int) < j:=hc
 exact mod_int' (by omega) (by rw [Int.fmod_eq_emod_of_nonneg i (by omega)]; exact q)
theorem unI {f:Value->Sem Value}{g:Int->Int}
  (rule:∀ (i:Int) (t:Tok) (s:Shared) (Q:Value->Shared->Prop) (E:Value->Shared->Prop),Q (.int (g i) s.toks) { s with toks:=s.toks+1 }->wpAny (model X.prog X.w) X.A (f (.int i t)) Q E s):
  UnR X f (rU fun i=> .int (g i)):=by
 intro pins s σ H x v Q I rx h
 obtain ⟨i,rfl,q⟩:=h
 obtain ⟨t,rfl⟩:=rx
 exact rule i t s _ _ ⟨.int (g i),H,I.tok _,⟨_,rfl⟩,q⟩
theorem aky:UnR X (unaryOp .USub) (rU fun i=> .int (-i)):=unI fun _ _ _ _ _ q=>neg_int q
end
section
variable {X:Cx}{a b c:Expr}{ta tb tc:TE}{pos:Pos}
theorem akz {pins:List (Addr × Obj)}{σ:St}{H:Hp}{s:Shared}{Q:VK}{k k':Bool} (I:Inv X pins σ H s) (q:Q (.bl k) H) (e:k=k'):EP X pins σ Q (.bool k') s:=by
 subst e
 exact ⟨.bl k,H,I,rfl,q⟩
theorem aqq:OpR X (compareOp .Lt) (rI0 fun i j=> .bl (decide (i < j))):=ao7 fun _ _ _ _ _ _ _ q=>lt_int q
theorem aqr:OpR X (compareOp .LtE) (rI0 fun i j=> .bl (decide (i<=j))):=ao7 fun _ _ _ _ _ _ _ q=>le_int q
theorem aqs:OpR X (compareOp .Gt) (rI0 fun i j=> .bl (decide (j < i))):=ao7 fun _ _ _ _ _ _ _ q=>gt_int q
theorem apd:OpR X (compareOp .Is) (fun x y H Q=>y= .non/\Q (.bl (decide (x= .non))) H):=by
 intro pins s σ H x y v u Q I rx ry h
 obtain ⟨rfl,q⟩:=h
 cases ry
 refine is_none_gen (akz I q ?_)
 cases x <;> first
  | (cases rx; rfl)
  | (obtain ⟨t,rfl⟩:=rx; rfl)
theorem amX:OpR X (compareOp .IsNot) (fun x y H Q=>y= .non/\Q (.bl (!decide (x= .non))) H):=by
 intro pins s σ H x y v u Q I rx ry h
 obtain ⟨rfl,q⟩:=h
 cases ry
 refine isnot_none_gen (akz I q ?_)
 cases x <;> first
  | (cases rx; rfl)
  | (obtain ⟨t,rfl⟩:=rx; rfl)
theorem OpR.or {f:Value->Value->Sem Value}{r r':R2} (h:OpR X f r) (h':OpR X f r'):OpR X f (fun x y H Q=>r x y H Q ∨ r' x y H Q):=by
 intro pins s σ H x y v u Q I rx ry q
 rcases q with q | q
 ·exact h pins s σ H x y v u Q I rx ry q
 ·exact h' pins s σ H x y v u Q I rx ry q
theorem ahc (b:Expr) {op:CmpOp} (h:op ≠ .In:=by decide) (h2:op ≠ .NotIn:=by decide):behindInMarks op b=false:=by
 have e1:(op == CmpOp.In)=false:=by cases op <;> first | rfl | exact absurd rfl h
 have e2:(op == CmpOp.NotIn)=false:=by cases op <;> first | rfl | exact absurd rfl h2
 cases b <;> simp [behindInMarks,e1,e2]
theorem amY {op:CmpOp}{r:R2} (ho:OpR X (compareOp op) r) (ha:PE X a ta) (hb:PE X b tb) (hm:behindInMarks op b=false):PE X (.Compare a [op] [b] pos) (tOp r ta tb):=by
 intro pins s σ H Q I h
 exact wpAny_Compare1 (ao6 ha hb I h fun v u s2 x y H2 I2 rx ry q=>ho pins s2 σ H2 x y v u Q I2 rx ry q) hm
noncomputable def aoA (t:TE):TT:=fun σ H Q=>t σ H fun x H'=>∃ k,x= .bl k/\Q k H'
theorem amZ {op:CmpOp}{r:R2} (ho:OpR X (compareOp op) r) (ha:PE X a ta) (hb:PE X b tb) (hm:behindInMarks op b=false):PT X (.Compare a [op] [b] pos) (aoA (tOp r ta tb)):=by
 intro pins s σ H Q I h
 refine wpAny_isTrue_Compare1 (thn (ha pins s σ H _ I h) fun v s1 ⟨x,H1,I1,r1,q1⟩=>thn (hb pins s1 σ H1 _ I1 q1) fun u s2 ⟨y,H2,I2,r2,q2⟩=>
  thn (ho pins s2 σ H2 x y v u _ I2 r1 r2 q2) fun c s3 ⟨z,H3,I3,r3,k,e,q3⟩=>?_) hm
 subst e
 cases r3
 exact wpAny_truthy_bool ⟨H3,I3,q3⟩
noncomputable def ahd (r r':R2) (ta tb tc:TE):TE:=fun σ H Q=>ta σ H fun x H1=>tb σ H1 fun y H2=>r x y H2 fun z H3=>∃ k,z= .bl k/\
 (if k=true then tc σ H3 fun w' H4=>r' y w' H4 Q else Q (.bl false) H3)
theorem akA {op op':CmpOp}{r r':R2} (ho:OpR X (compareOp op) r) (ho':OpR X (compareOp op') r') (ha:PE X a ta) (hb:PE X b tb) (hc:PE X c tc)
  (hm:lastMarks [op,op'] [b,c]=false:=by with_unfolding_all rfl):PE X (.Compare a [op,op'] [b,c] pos) (ahd r r' ta tb tc):=by
 intro pins s σ H Q I h
 refine Compare_chain (thn (ha pins s σ H _ I h) fun v s1 ⟨x,H1,I1,r1,q1⟩=>chain_link (thn (hb pins s1 σ H1 _ I1 q1) fun u s2 ⟨y,H2,I2,r2,q2⟩=>
  thn (ho pins s2 σ H2 x y v u _ I2 r1 r2 q2) fun d s3 ⟨z,H3,I3,r3,k,e,q3⟩=>?_)) hm
 subst e
 cases r3
 refine wpAny_truthy_bool ?_
 cases k with
 | false=>exact ite_ff ⟨.bl false,H3,I3,rfl,q3⟩
 | true=>exact ite_tt (chain_last (thn (hc pins s3 σ H3 _ I3 q3) fun w' s4 ⟨z',H4,I4,r4,q4⟩=>ho' pins s4 σ H4 y z' u w' Q I4 r2 r4 q4))
theorem akB {op op':CmpOp}{r r':R2} (ho:OpR X (compareOp op) r) (ho':OpR X (compareOp op') r') (ha:PE X a ta) (hb:PE X b tb) (hc:PE X c tc)
  (hm:lastMarks [op,op'] [b,c]=false:=by with_unfolding_all rfl):PT X (.Compare a [op,op'] [b,c] pos) (aoA (ahd r r' ta tb tc)):=by
 intro pins s σ H Q I h
 refine isTrue_chain (thn (ha pins s σ H _ I h) fun v s1 ⟨x,H1,I1,r1,q1⟩=>test_link (thn (hb pins s1 σ H1 _ I1 q1) fun u s2 ⟨y,H2,I2,r2,q2⟩=>
  thn (ho pins s2 σ H2 x y v u _ I2 r1 r2 q2) fun d s3 ⟨z,H3,I3,r3,k,e,q3⟩=>?_)) hm
 subst e
 cases r3
 refine wpAny_truthy_bool ?_
 cases k with
 | false=>
  obtain ⟨k',e',q'⟩:=q3
  cases e'
  exact ite_ff ⟨H3,I3,q'⟩
 | true=>
  refine ite_tt (test_last (thn (hc pins s3 σ H3 _ I3 q3) fun w' s4 ⟨z',H4,I4,r4,q4⟩=>thn (ho' pins s4 σ H4 y z' u w' _ I4 r2 r4 q4) fun d' s5 ⟨z2,H5,I5,r5,k2,e2,q5⟩=>?_))
  subst e2
  cases r5
  exact wpAny_truthy_bool ⟨H5,I5,q5⟩
theorem acu:(sizeLine:Nat) < 2 ^ 63:=by rw [sizeLine_eq]; decide
theorem aaw {x:V}{us:List Value} (r:jI [x] us):∃ u,us=[u]/\jU x u:=by
 cases r with
 | cons r1 r2=>cases r2; exact ⟨_,rfl,r1⟩
theorem aie {x y:V}{us:List Value} (r:jI [x,y] us):∃ u w',us=[u,w']/\jU x u/\jU y w':=by
 cases r with
 | cons r1 r2=>
  cases r2 with
  | cons r3 r4=>cases r4; exact ⟨_,_,rfl,r1,r3⟩
theorem akC:zC X (.builtin "abs") (fun xs H Q=>∃ i,xs=[.int i]/\Q (.int (if i < 0 then -i else i)) H):=by
 intro pins s σ H xs us Q I r h
 obtain ⟨i,rfl,q⟩:=h
 obtain ⟨u,rfl,t,rfl⟩:=aaw r
 exact call_abs_int fun u tk=>⟨.int (if i < 0 then -i else i),H,I.tok _,⟨_,rfl⟩,q⟩
theorem aja (hc:X.calm=true):zC X (.builtin "max") (fun xs H Q=>∃ i j,xs=[.int i,.int j]/\Q (.int (if j > i then j else i)) H):=by
 intro pins s σ H xs us Q I r h
 obtain ⟨i,j,rfl,q⟩:=h
 obtain ⟨u,w',rfl,⟨t,rfl⟩,⟨t',rfl⟩⟩:=aie r
 refine max_two_ints (I.ok.hd hc) fun h' tk k=>⟨_,H,I.kept k,?_,q⟩
 by_cases hj:j > i
 ·rw [if_pos hj,if_pos hj]; exact ⟨_,rfl⟩
 ·rw [if_neg hj,if_neg hj]; exact ⟨_,rfl⟩
theorem ajb (hc:X.calm=true):zC X (.builtin "min") (fun xs H Q=>∃ i j,xs=[.int i,.int j]/\Q (.int (if j < i then j else i)) H):=by
 intro pins s σ H xs us Q I r h
 obtain ⟨i,j,rfl,q⟩:=h
 obtain ⟨u,w',rfl,⟨t,rfl⟩,⟨t',rfl⟩⟩:=aie r
 refine min_two_ints (I.ok.hd hc) fun h' tk k=>⟨_,H,I.kept k,?_,q⟩
 by_cases hj:j < i
 ·rw [if_pos hj,if_pos hj]; exact ⟨_,rfl⟩
 ·rw [if_neg hj,if_neg hj]; exact ⟨_,rfl⟩
theorem ajc:zC X (.type "int") (fun xs H Q=>(∃ i,xs=[.int i]/\Q (.int i) H) ∨ ∃ k,xs=[.bl k]/\Q (.int (if k then 1 else 0)) H):=by
 intro pins s σ H xs us Q I r h
 rcases h with ⟨i,rfl,q⟩ | ⟨k,rfl,q⟩
 ·obtain ⟨u,rfl,t,rfl⟩:=aaw r
  exact call_int_int ⟨.int i,H,I,⟨_,rfl⟩,q⟩
 ·obtain ⟨u,rfl,r1⟩:=aaw r
  cases r1
  exact call_int_bool ⟨.int (if k then 1 else 0),H,I.tok _,⟨_,rfl⟩,q⟩
end
end L2
namespace L2
open PySem PySem.Spec PyProof.Rows
structure ObjM (h:Heap) (x dx C:Addr) (mA:Str->Option Value):Prop where
 obj:h.get? x=some (PySem.W.instObj C dx)
 ns:h.Ns1 dx mA
 ne:dx ≠ x
section
variable {prog:Program}{w:World}{A:Around}{E:Value->Shared->Prop}{s:Shared}{K:PySem.W.Frag}{x dx C f:Addr}{mA:Str->Option Value}{name:Str}{v:Value}
end
theorem abY.some_of {v:V}{o:Option Value} (r:abY (some v) o):∃ u,o=some u/\jU v u:=by
 cases o with
 | none=>exact (show False from r).elim
 | some u=>exact ⟨u,rfl,r⟩
section
variable {P:Program}{w:World}{H H':Hp}{h h':Heap}{a C dx:Addr}{fs fs':List (Str × V)}
end
structure Cls (K:PySem.W.Frag) (C:Addr):Prop where
 pg:PySem.W.plainGet K C Str.empty=true
 hd:PySem.W.hasDictIn K C=true
 po:PySem.W.plainOver K C=true
 sa:PySem.W.findIn K (.ref C) "__setattr__"=some (some (.builtin "object.__setattr__"))
theorem Cls.get {K:PySem.W.Frag}{C:Addr} (c:Cls K C) (f:Str):PySem.W.plainGet K C f=true:=c.pg
structure Con (K:PySem.W.Frag) (C:Addr) (f:Str) (v:V) (u:Value):Prop where
 at_:PySem.W.findIn K (.ref C) f=some (some u)
 rel:jU v u
 get:PySem.W.specialIn K u "__get__"=some none
 cp:PySem.W.copiedNames.contains f=false
structure Meth (K:PySem.W.Frag) (C:Addr) (m:Str) (f:Addr):Prop where
 at_:PySem.W.findIn K (.ref C) m=some (some (.ref f))
 fn:PySem.W.isFn K (.ref f)=true
 kp:PySem.W.keepIn K (.ref f)=true
section
variable {X:Cx}{pins:List (Addr × Obj)}{σ:St}{H:Hp}{s:Shared}{a C dx:Addr}{fs:List (Str × V)}{f:Str}{v:V}{A:Around}{E:Value->Shared->Prop}
theorem Inv.made (I:Inv X pins σ H s):Inv X pins σ (upd (upd H s.heap.objs.size (.own (s.heap.objs.size+1))) (s.heap.objs.size+1) (.ins C s.heap.objs.size []))
  { s with heap:=(s.heap.push PySem.W.emptyDict).push (PySem.W.instObj C s.heap.objs.size) }:=by
 have e1:(s.heap.push PySem.W.emptyDict).get? s.heap.objs.size=some PySem.W.emptyDict:=Heap.get?_push_size s.heap rfl
 have e2:((s.heap.push PySem.W.emptyDict).push (PySem.W.instObj C s.heap.objs.size)).get? (s.heap.objs.size+1)=some (PySem.W.instObj C s.heap.objs.size):=by
  have:=Heap.get?_push_size (s.heap.push PySem.W.emptyDict) (o:=PySem.W.instObj C s.heap.objs.size) rfl
  rwa [Heap.size_push] at this
 have e3:(s.heap.push PySem.W.emptyDict).Ns s.heap.objs.size (fun _=>none):=⟨PySem.W.emptyDict,#[],_,e1,rfl,(fun e he=>absurd he (by simp)),fun _=>rfl⟩
 have I1:=I.laid (a:=s.heap.objs.size) (o:= .own (s.heap.objs.size+1)) (h':=s.heap.push PySem.W.emptyDict) (t':=s.toks) (fun b u q=>Heap.get?_push_of_some _ q) (Nat.le_refl _) ⟨_,e1⟩
 refine I1.laid (a:=s.heap.objs.size+1) (o:= .ins C s.heap.objs.size []) (t':=s.toks) (fun b u q=>Heap.get?_push_of_some _ q) (Nat.le_of_eq (Heap.size_push _ _)) ?_
 have ne:s.heap.objs.size ≠ s.heap.objs.size+1:=Nat.ne_of_lt (Nat.lt_succ_self _)
 refine ⟨by rw [jo ne,jp],Nat.zero_le _,ne,e2,fun _=>none,(Heap.Ns1.of_empty e3).at fun o q=>Heap.get?_push_of_some _ q,fun _=>True.intro,fun y hy=>absurd rfl hy⟩
end
section
variable {X:Cx}{o e value:Expr}{f:Str}{pos pos' tpos:Pos}{ta tv:TE}
end
section
variable {X:Cx}{pins:List (Addr × Obj)}{σ:St}{H:Hp}{s:Shared}{A:Around}{E:Value->Shared->Prop}{Q:Value->Shared->Prop}{c:Value}{b:Bool}
inductive TyOf (K:PySem.W.Frag) (H:Hp):V->Value->Prop where
 | non:TyOf K H .non (.type "NoneType")
 | bl (x:Bool):TyOf K H (.bl x) (.type "bool")
 | int (i:Int):TyOf K H (.int i) (.type "int")
 | str (x:Str):TyOf K H (.str x) (.type "str")
 | flt (x:UInt64):TyOf K H (.flt x) (.type "float")
 | lst {a:Addr} {xs:List V} (e:H a=some (.lst xs)):TyOf K H (.ref a) (.type "list")
 | frz {a:Addr} {o:Obj} {xs:List V} (e:H a=some (.frz o (.lst xs))):TyOf K H (.ref a) (.type "list")
 | tup {a:Addr} {xs:List V} (e:H a=some (.tup xs)):TyOf K H (.ref a) (.type "tuple")
 | dK {a:Addr} {kvs:List (Key × V)} (e:H a=some (.dK kvs)):TyOf K H (.ref a) (.type "dict")
 | dT {a:Addr} {kvs:List (List Key × V)} (e:H a=some (.dT kvs)):TyOf K H (.ref a) (.type "dict")
 | ins {a C dx:Addr} {fs:List (Str × V)} (e:H a=some (.ins C dx fs)) (cl:Cls K C) (ha:PySem.W.findIn K (.ref C) "__class__"=some (some (.builtin "object.__class__")))
   (hn:PySem.W.specialIn K (.builtin "object.__class__") "__get__"=some (some (.builtin "getset_descriptor.__get__"))) (htk:PySem.W.takesIn K (.builtin "object.__class__")=some true)
   (hm:PySem.W.mroIn K C (.type "object")=some true):TyOf K H (.ref a) (.ref C)
end
end L2
namespace L2
open PySem PySem.Spec PyProof.Rows
structure Room (k:Nat) (A:Around):Prop where
 hd:A.handled=none
 dp:A.depth+3*k+5 < recursionLimit
 un:A.units+16*k+200 < cLine
theorem Room.mono {j k:Nat}{A:Around} (r:Room k A) (h:j<=k):Room j A:=⟨r.hd,by have:=r.dp; omega,by have:=r.un; omega⟩
theorem Room.deeper {k:Nat}{A:Around} (r:Room (k+1) A) (env:Env):Room k (A.deeper env):=
 ⟨r.hd,by have:=r.dp; show A.depth+1+3*k+5 < _; omega,by have:=r.un; show A.units+3+16*k+200 < _; omega⟩
theorem Room.in1 {k:Nat}{A:Around} (r:Room (k+1) A):Room k A.in1:=
 ⟨r.hd,by have:=r.dp; show A.depth+3*k+5 < _; omega,by have:=r.un; show A.units+1+16*k+200 < _; omega⟩
theorem Room.depth {k:Nat}{A:Around} (r:Room k A):A.depth < recursionLimit:=by have:=r.dp; omega
theorem Room.units {k:Nat}{A:Around} (r:Room k A):A.units+64 < cLine:=by have:=r.un; omega
noncomputable def arr:TA:=fun _ H Q=>Q [] H
noncomputable def aqt (ta:TE) (tr:TA):TA:=fun σ H Q=>ta σ H fun x H1=>tr σ H1 fun xs H2=>Q (x::xs) H2
section
variable {X:Cx}{e:Expr}{es:List Expr}{te:TE}{t:TA}{pos:Pos}
theorem afz {α:Type}:∀ (us:List α),us.length=1->∃ a,us=[a]
 | [a],_=>⟨a,rfl⟩
theorem Q4 {α:Type} (us:List α) (h:us.length=2):∃ a b,us=[a,b]:=by
 cases us with
 | nil=>cases h
 | cons a r=>obtain ⟨b,rfl⟩:=afz r (Nat.succ.inj h); exact ⟨a,b,rfl⟩
theorem abZ {α:Type} (us:List α) (h:us.length=3):∃ a b c,us=[a,b,c]:=by
 cases us with
 | nil=>cases h
 | cons a r=>obtain ⟨b,c,rfl⟩:=Q4 r (Nat.succ.inj h); exact ⟨a,b,c,rfl⟩
theorem ape {α:Type} (us:List α) (h:us.length=4):∃ a b c d,us=[a,b,c,d]:=by
 cases us with
 | nil=>cases h
 | cons a r=>obtain ⟨b,c,d,rfl⟩:=abZ r (Nat.succ.inj h); exact ⟨a,b,c,d,rfl⟩
theorem Jl:PA X [] arr:=fun _ _ _ _ H Q I h=>Calls.spliced_nil ⟨[],H,I,.nil,h⟩
theorem qM (ha:PE X e te) (hr:PA X es t) (hs:starEach (e::es) X.env=(false,eval e X.env)::starEach es X.env:=by rfl):PA X (e::es) (aqt te t):=by
 intro pos pins s σ H Q I h
 rw [hs]
 show wpAny _ _ (spliced ((false,eval e X.env)::backTo pos (starEach es X.env))) _ _ s
 refine Calls.spliced_cons (thn (ha pins s σ H _ I h) fun u s1 ⟨x,H1,I1,r1,q1⟩=>?_)
 exact thn (hr pos pins s1 σ H1 _ I1 q1) fun us s2 ⟨xs,H2,I2,r2,q2⟩=>⟨x::xs,H2,I2,.cons r1 r2,q2⟩
noncomputable def ars (t:TA):TE:=fun σ H Q=>t σ H fun xs H1=>xs.length<=sizeLine/\∀ p,H1 p=none->Q (.ref p) (upd H1 p (.tup xs))
noncomputable def art (t:TA):TE:=fun σ H Q=>t σ H fun xs H1=>xs.length<=sizeLine/\∀ p,H1 p=none->Q (.ref p) (upd H1 p (.lst xs))
theorem akD {x1} (h:PA X es t):PE X (.Tuple es x1 pos) (ars t):=by
 intro pins s σ H Q I hq
 refine wpAny_Tuple_spliced (thn (h pos pins s σ H _ I hq) fun us s1 ⟨xs,H1,I1,r,z,q⟩=>⟨by rw [←r.length]; exact z,?_⟩)
 have hf:H1 s1.heap.objs.size=none:=I1.hok.fresh (Nat.le_refl _)
 refine ⟨.ref s1.heap.objs.size,upd H1 s1.heap.objs.size (.tup xs),I1.laid (t':=s1.toks) (fun b u e=>Heap.get?_push_of_some _ e) (Nat.le_refl _) ?_,rfl,q _ hf⟩
 exact ⟨z,us,r,⟨_,Heap.get?_push_size _ rfl,rfl,_,rfl⟩⟩
theorem ahe (h:PA X es t):PE X (.List es pos) (art t):=by
 intro pins s σ H Q I hq
 refine wpAny_List_spliced (thn (h pos pins s σ H _ I hq) fun us s1 ⟨xs,H1,I1,r,z,q⟩=>⟨by rw [←r.length]; exact z,?_⟩)
 have hf:H1 s1.heap.objs.size=none:=I1.hok.fresh (Nat.le_refl _)
 refine ⟨.ref s1.heap.objs.size,upd H1 s1.heap.objs.size (.lst xs),I1.laid (t':=s1.toks) (fun b u e=>Heap.get?_push_of_some _ e) (Nat.le_refl _) ?_,rfl,q _ hf⟩
 exact ⟨z,us,0,r,Heap.get?_push_size _ rfl⟩
end
noncomputable abbrev Sp:=List V->Hp->VK->XK->Prop
noncomputable abbrev CXT:=List Env->Hp->Shared->XK->Value->Shared->Prop
structure Env0 (P:Program) (w:World) (K:PySem.W.Frag) (mg:Str->Option Value) (base:Heap) (A:Around) (outer:List Env) (s:Shared) (H:Hp):Prop where
 frames:A.frames=some outer
 mod:Mod K mg base
 bs:∀ b o,base.get? b=some o->s.heap.get? b=some o/\H b=none
 bsz:base.objs.size<=s.heap.objs.size
 funs:s.heap.FunFrames base outer
 frf:∀ b ∈ frs outer,H b=none
 hok:HOk P w H s.heap
 bare:AllBare s.gens
noncomputable def CE (outer:List Env) (P:Program) (w:World) (H:Hp) (s:Shared) (Q:VK) (u:Value) (s':Shared):Prop:=
 ∃ v H',s'.os=s.os/\AllBare s'.gens/\Un (frs outer) [] H H' s.heap s'.heap/\HOk P w H' s'.heap/\jU v u/\Q v H'
noncomputable def CR (CX:CXT) (outer:List Env) (P:Program) (w:World) (H:Hp) (s:Shared) (Q:VK) (E:XK) (r:Result) (s':Shared):Prop:=
 match r with
 | .ok (.ret u)=>CE outer P w H s Q u s'
 | .ok _=>False
 | .error e=>CX outer H s E e s'
structure FnOk (P:Program) (w:World) (K:PySem.W.Frag) (mg:Str->Option Value) (base:Heap) (CX:CXT) (k:Nat) (f:Addr) (fd:FuncData) (ps:List Str) (sp:Sp):Prop where
 len:∀ vs H Q E,sp vs H Q E->vs.length=ps.length
 run:∀ (A:Around) (outer:List Env) (s:Shared) (H:Hp) (args:Args) (us:List Value) (vs:List V) (Q:VK) (E:XK),Room k A->Env0 P w K mg base A outer s H->BindsTo s fd args (ps.zip us)->jI vs us->sp vs H Q E->
  codeAny (model P w) A (.call (.ref f) args) (CR CX outer P w H s Q E) s
theorem FnOk.mono {P:Program}{w:World}{K:PySem.W.Frag}{mg:Str->Option Value}{base:Heap}{CX:CXT}{j k:Nat}{f:Addr}{fd:FuncData}{ps:List Str}{sp:Sp} (F:FnOk P w K mg base CX j f fd ps sp) (h:j<=k):
  FnOk P w K mg base CX k f fd ps sp:=⟨F.len,fun A outer s H args us vs Q E hr=>F.run A outer s H args us vs Q E (hr.mono h)⟩
theorem FnOk.imp {P:Program}{w:World}{K:PySem.W.Frag}{mg:Str->Option Value}{base:Heap}{CX:CXT}{k:Nat}{f:Addr}{fd:FuncData}{ps:List Str}{sp sp':Sp} (F:FnOk P w K mg base CX k f fd ps sp)
  (h:∀ vs H Q E,sp' vs H Q E->sp vs H Q E):FnOk P w K mg base CX k f fd ps sp':=
 ⟨fun vs H Q E q=>F.len vs H Q E (h _ _ _ _ q),fun A outer s H args us vs Q E hr he hb hv hs=>F.run A outer s H args us vs Q E hr he hb hv (h _ _ _ _ hs)⟩
theorem Env0.in1 {P:Program}{w:World}{K:PySem.W.Frag}{mg:Str->Option Value}{base:Heap}{A:Around}{outer:List Env}{s:Shared}{H:Hp} (e:Env0 P w K mg base A outer s H):
  Env0 P w K mg base A.in1 outer s H:=⟨e.frames,e.mod,e.bs,e.bsz,e.funs,e.frf,e.hok,e.bare⟩
section
variable {X:Cx}{pins:List (Addr × Obj)}{σ:St}{H:Hp}{s s':Shared}
theorem Inv.env0 (I:Inv X pins σ H s):Env0 X.prog X.w X.K X.mg X.base X.A X.stack s H:=
 ⟨I.ok.frames,I.ok.mod,I.bs,Nat.le_trans I.ok.bsz I.sz,I.stack,I.stkFree,I.hok,I.bare⟩
theorem Inv.after {Q:VK}{u:Value} (I:Inv X pins σ H s) (h:CE X.stack X.prog X.w H s Q u s'):EP X pins σ Q u s':=by
 obtain ⟨v,H',os,bare,un,hok,r,q⟩:=h
 obtain ⟨hh,g,d,t,os'⟩:=s'
 obtain rfl:os'=s.os:=os
 exact ⟨v,H',I.call (h':=hh) (g':=g) (d':=d) (t':=t) (ch:=[]) un hok bare (fun b z=>absurd z (by simp)),r,q⟩
end
noncomputable def aoB (sp:Sp) (dvs:List V) (E:XK) (t:TA):TE:=fun σ H Q=>t σ H fun vs H1=>sp (vs++dvs) H1 Q E
noncomputable def aax (K:PySem.W.Frag) (fd:FuncData) (ps:List Str) (ds:List Value):Prop:=
 ∀ (s:Shared) (us:List Value),K.In s.heap->(us++ds).length=ps.length->BindsTo s fd ⟨us,[]⟩ (ps.zip (us++ds))
theorem aax.all {K:PySem.W.Frag}{fd:FuncData}{ps:List Str} (h:∀ us:List Value,us.length=ps.length->bindArgs fd ⟨us,[]⟩=pure (ps.zip us)):aax K fd ps []:=fun s us _ hl=>by
 rw [List.append_nil] at hl ⊢
 exact .of_eq (h us hl)
noncomputable def ahf (CX:CXT) (X:Cx) (E:XK):Prop:=∀ (pins:List (Addr × Obj)) (σ:St) (H:Hp) (s:Shared) (e:Value) (s':Shared),Inv X pins σ H s->CX X.stack H s E e s'->X.xe e s'
section
variable {X:Cx}{CX:CXT}{k:Nat}{f C:Addr}{fd:FuncData}{ps:List Str}{sp:Sp}{dvs:List V}{ds:List Value}{E:XK}{x m:Str}{p pos apos:Pos}{e o:Expr}{es:List Expr}{ta:TE}{t:TA}
theorem akE {pins:List (Addr × Obj)}{σ:St}{H:Hp}{s:Shared}{Q:VK}{us:List Value}{vs:List V} (F:FnOk X.prog X.w X.K X.mg X.base CX k f fd ps sp) (hr:Room k X.A) (hb:aax X.K fd ps ds) (hd:jI dvs ds) (hx:ahf CX X E)
  (I:Inv X pins σ H s) (r:jI vs us) (h:sp (vs++dvs) H Q E):wpAny (model X.prog X.w) X.A (call (.ref f) us) (EP X pins σ Q) X.xe s:=by
 have r2:jI (vs++dvs) (us++ds):=r.append hd
 have hl:(us++ds).length=ps.length:=by rw [←r2.length]; exact F.len _ _ _ _ h
 refine wpAny_call (codeAny_mono (F.run X.A X.stack s H ⟨us,[]⟩ (us++ds) (vs++dvs) Q E hr I.env0 (hb s us I.kIn hl) r2 h) fun r s' hq=>?_)
 cases r with
 | error e=>exact hx pins σ H s e s' I hq
 | ok fl=>
  cases fl with
  | ret u=>exact I.after hq
  | next=>exact False.elim hq
  | brk=>exact False.elim hq
  | cont=>exact False.elim hq
theorem am0 (F:FnOk X.prog X.w X.K X.mg X.base CX k f fd ps sp) (hr:Room k X.A) (hg:Gl X x) (hm:X.mg x=some (.ref f)) (hk:PySem.W.keepIn X.K (.ref f)=true) (hb:aax X.K fd ps ds) (hd:jI dvs ds) (hx:ahf CX X E)
  (ha:PA X (e::es) t) (hdb:(x == ("__debug__":Str))=false:=by decide) (he:starEach (e::es) X.env=(false,eval e X.env)::starEach es X.env:=by rfl) (hpl:(backTo pos (starEach es X.env)).any (·.1)=false:=by rfl):
  PE X (.Call (.Name x p) (e::es) [] pos) (aoB sp dvs E t):=by
 intro pins s σ H Q I h
 refine wpAny_Call_Name_kw (aau I hg hm ?_ hdb)
 refine PySem.W.callWith_K (h₀:=X.base) I.ok.mod.kin hk (thn (ha pos pins s σ H _ I h) fun us s1 ⟨vs,H1,I1,r,q⟩=>⟨I1.kIn,?_⟩) he hpl
 exact akE F hr hb hd hx I1 r q
structure Mk (K:PySem.W.Frag) (C f:Addr):Prop where
 makes:PySem.W.makesIn K C=true
 init:PySem.W.findIn K (.ref C) "__init__"=some (some (.ref f))
 fn:PySem.W.isFn K (.ref f)=true
 kp:PySem.W.keepIn K (.ref C)=true
end
section
variable {X:Cx}{CX:CXT}{k:Nat}{f C:Addr}{fd:FuncData}{ps ks:List Str}{sp:Sp}{E:XK}{x m:Str}{p pos apos kpos:Pos}{e o:Expr}{es:List Expr}{kws:List Keyword}{te ta:TE}{t tk:TA}{nm:Option Str}
structure KBinds (K:PySem.W.Frag) (fd:FuncData) (ps ks:List Str) (g:List Value->List Value->List Value) (gV:List V->List V->List V):Prop where
 to:∀ (s:Shared) (us ws:List Value),K.In s.heap->(g us ws).length=ps.length->BindsTo s fd ⟨us,ks.zip ws⟩ (ps.zip (g us ws))
 rel:∀ {vs:List V} {us:List Value} {zs:List V} {ws:List Value},jI vs us->jI zs ws->jI (gV vs zs) (g us ws)
variable {g:List Value->List Value->List Value}{gV:List V->List V->List V}
end
structure FnScope (N P:List Str) (sc:Scope):Prop where
 kind:sc.kind= .function
 co:sc.isCoroutine=false
 gen:sc.isGenerator=false
 nd:N.Nodup
 pre:N.take P.length=P
 par:∀ x ∈ P,sc.names.lookup x=some .local ∨ sc.names.lookup x=some .cell
 nofree:∀ y ∈ sc.names,y.2 ≠ .free
theorem adA {kindOf:Str->Option NameKind}{x:Str}:∀ {binds:List (Str × Value)}{m:Str->Option Value},(∀ v,(x,v) ∉ binds)->bindL kindOf binds m x=m x
 | [],_,_=>rfl
 | (n,v)::r,m,h=>by
  unfold bindL
  rw [adA fun w hw=>h w (List.mem_cons_of_mem _ hw)]
  split
  ·have:x ≠ n:=by rintro rfl; exact h v List.mem_cons_self
   simp [this]
  ·rfl
theorem adB {kindOf:Str->Option NameKind}{x:Str}:∀ {binds:List (Str × Value)}{m:Str->Option Value},(∀ v,(x,v) ∉ binds)->bindC kindOf binds m x=m x
 | [],_,_=>rfl
 | (n,v)::r,m,h=>by
  unfold bindC
  rw [adB fun w hw=>h w (List.mem_cons_of_mem _ hw)]
  split
  ·rfl
  ·have:x ≠ n:=by rintro rfl; exact h v List.mem_cons_self
   simp [this]
theorem adC {kindOf:Str->Option NameKind}{x:Str}{v:Value}:∀ {P:List Str}{vs:List Value}{i:Nat}{m:Str->Option Value},P.Nodup->P[i]?=some x->vs[i]?=some v->kindOf x=some .local->
  bindL kindOf (P.zip vs) m x=some v
 | [],_,_,_,_,h,_,_=>by simp at h
 | _::_,[],_,_,_,_,h,_=>by simp at h
 | p::P,w::vs,0,m,nd,h1,h2,hk=>by
  simp at h1 h2; subst h1; subst h2
  show bindL kindOf ((p,w)::P.zip vs) m p=_
  unfold bindL
  rw [adA fun v hv=>(List.nodup_cons.mp nd).1 (List.of_mem_zip hv).1,if_pos hk]
  simp
 | p::P,w::vs,i+1,m,nd,h1,h2,hk=>by
  show bindL kindOf ((p,w)::P.zip vs) m x=_
  unfold bindL
  exact adC (i:=i) (List.nodup_cons.mp nd).2 (by simpa using h1) (by simpa using h2) hk
theorem adD {kindOf:Str->Option NameKind}{x:Str}{v:Value}:∀ {P:List Str}{vs:List Value}{i:Nat}{m:Str->Option Value},P.Nodup->P[i]?=some x->vs[i]?=some v->kindOf x ≠ some .local->
  bindC kindOf (P.zip vs) m x=some v
 | [],_,_,_,_,h,_,_=>by simp at h
 | _::_,[],_,_,_,_,h,_=>by simp at h
 | p::P,w::vs,0,m,nd,h1,h2,hk=>by
  simp at h1 h2; subst h1; subst h2
  show bindC kindOf ((p,w)::P.zip vs) m p=_
  unfold bindC
  rw [adB fun v hv=>(List.nodup_cons.mp nd).1 (List.of_mem_zip hv).1,if_neg hk]
  simp
 | p::P,w::vs,i+1,m,nd,h1,h2,hk=>by
  show bindC kindOf ((p,w)::P.zip vs) m x=_
  unfold bindC
  exact adD (i:=i) (List.nodup_cons.mp nd).2 (by simpa using h1) (by simpa using h2) hk
noncomputable def zQ (N:List Str) (vs:List V):St:=vs.map some++List.replicate (N.length - vs.length) none
noncomputable def JF (CX:CXT) (P:Program) (w:World) (K:PySem.W.Frag) (mg:Str->Option Value) (base:Heap) (N:List Str) (qual:Str) (scope:Scope) (f:Addr) (cd:Value) (A:Around) (outer:List Env) (s:Shared) (H:Hp) (E:XK):Cx where
 prog:=P
 w:=w
 K:=K
 mg:=mg
 base:=base
 A:=A.deeper (envOfC qual scope s.heap.objs.size f cd)
 N:=N
 s₀:=s
 H₀:=H
 env:=envOfC qual scope s.heap.objs.size f cd
 outer:=outer
 stack:=envOfC qual scope s.heap.objs.size f cd::outer
 ex:=[]
 calm:=true
 fn:=fun _=>true
 pn:=[]
 xe:=fun e s'=>wpAny (model P w) (A.deeper (envOfC qual scope s.heap.objs.size f cd)) (leaving (envOfC qual scope s.heap.objs.size f cd) e) (fun _ s''=>CX outer H s E e s'') (fun e' s''=>CX outer H s E e' s'') s'
theorem afA {sc:Scope}{n:Nat}{x:Str} (h:sc.names.lookup x=some .cell):∃ c,(cellsFrom n sc.names []).lookup x=some c:=by
 have q:=PySem.W.cellsFrom_some sc.names n [] (.inl h)
 exact Option.isSome_iff_exists.mp q
theorem abf {CX:CXT}{P:Program}{w:World}{K:PySem.W.Frag}{mg:Str->Option Value}{base:Heap}{N ps:List Str}{qual:Str}{scope:Scope}{f:Addr}{cd:Value}{A:Around}{outer:List Env}{s s1:Shared}{H:Hp}{E:XK}{us:List Value}{vs:List V}
  (S:FnScope N ps scope) (hd:A.handled=none) (e0:Env0 P w K mg base A outer s H) (hl:vs.length=ps.length) (r:jI vs us)
  (x:InCallC s s.heap.objs.size (bindL (envOfC qual scope s.heap.objs.size f cd).kindOf (ps.zip us) fun _=>none) (cellsFrom (s.heap.objs.size+1) scope.names []) (bindC (envOfC qual scope s.heap.objs.size f cd).kindOf (ps.zip us) fun _=>none) s1):
  Inv (JF CX P w K mg base N qual scope f cd A outer s H E) [] (zQ N vs) H s1:=by
 have hpl:ps.length<=N.length:=by have:=congrArg List.length S.pre; rw [List.length_take] at this; omega
 obtain ⟨h1,tk,rfl,hk⟩:=x.done
 have noA:∀ b:Addr,b ∉ (JF CX P w K mg base N qual scope f cd A outer s H E).ex:=fun b z=>absurd (show b ∈ ([]:List Addr) from z) (by simp)
 refine ⟨⟨e0.mod,S.kind,rfl,rfl,Nat.le_refl _,fun y z c h1 h2=>?_,fun y hy=>?_,fun y c _ h=>?_,fun _=>hd,Around.frames_deeper e0.frames,.inr ⟨rfl,rfl⟩,fun b z=>absurd z (noA b),e0.bs,e0.bsz,fun b _ _=>noA b,fun b z=>absurd z (noA b),e0.funs,e0.frf⟩,
  rfl,e0.bare,Un.kept hk,⟨_,x.toInCall.ns,fun i y v h1 h2 h3=>?_⟩,fun y c h=>⟨_,x.cell y c h⟩,e0.hok.fresh (Nat.le_refl _),fun y c h=>?_,fun p hp=>absurd (show p ∈ ([]:List (Addr × Obj)) from hp) (by simp),e0.hok.kept hk,?_⟩
 ·exact name_of_addr x.apart (PySem.mem_of_lookup h1) (PySem.mem_of_lookup h2)
 ·have hy:scope.names.lookup y=some .cell ∨ scope.names.lookup y=some .free:=hy
  rcases hy with hy | hy
  ·exact afA hy
  ·exact absurd rfl (S.nofree _ (PySem.mem_of_lookup hy))
 ·exact Nat.le_of_lt (x.above y c (PySem.mem_of_lookup h))
 ·have hi:i < vs.length:=by
   unfold zQ at h2
   by_cases hi:i < vs.length
   ·exact hi
   ·rw [List.getElem?_append_right (by simpa using hi)] at h2
    rw [List.getElem?_replicate] at h2
    split at h2 <;> cases h2
  have ha:vs[i]?=some v:=by
   unfold zQ at h2
   rw [List.getElem?_append_left (by simpa using hi),List.getElem?_map] at h2
   cases e:vs[i]? with
   | none=>rw [e] at h2; cases h2
   | some a=>rw [e] at h2; cases h2; rfl
  obtain ⟨u,hu,rv⟩:=r.get ha
  have hp:ps[i]?=some y:=by
   rw [←S.pre,List.getElem?_take_of_lt (by omega)]; exact h1
  have ndP:ps.Nodup:=by rw [←S.pre]; exact S.nd.sublist (List.take_sublist _ _)
  refine ⟨u,rv,?_⟩
  rcases S.par y (List.mem_of_getElem? hp) with k | k
  ·exact .inl ⟨k,adC ndP hp hu k⟩
  ·obtain ⟨c,e⟩:=afA (n:=s.heap.objs.size+1) k
   refine .inr ⟨.inl k,c,e,?_⟩
   have q:=x.cell y c e
   rw [adD ndP hp hu (by show scope.names.lookup y ≠ _; rw [k]; decide)] at q
   exact q
 ·exact e0.hok.fresh (Nat.le_of_lt (x.above y c (PySem.mem_of_lookup h)))
 ·unfold zQ
  show _=N.length
  rw [List.length_append,List.length_map,List.length_replicate]
  omega
theorem aqu {CX:CXT}{P:Program}{w:World}{K:PySem.W.Frag}{mg:Str->Option Value}{base:Heap}{k:Nat}{f:Addr}{name qual:Str}{params:Arguments}{body:List Stmt}{scope:Scope}{dV kV doc pm cdv ct oc:Value}{an od:Option Addr}
  {osl:Array (Option Value)} {N ps:List Str} {sp:Sp} (lk:K.lookup f=some ⟨oc,od,.func (PySem.W.fnOf name qual params body scope dV kV doc pm an cdv ct),osl⟩) (hcd:PySem.W.codeIn K cdv qual=true) (S:FnScope N ps scope)
  (len:∀ vs H Q E,sp vs H Q E->vs.length=ps.length)
  (hbody:∀ (A:Around) (outer:List Env) (s:Shared) (H:Hp) (vs:List V) (Q:VK) (E:XK),Room k (A.deeper (envOfC qual scope s.heap.objs.size f cdv))->sp vs H Q E->
   ∃ t,PSs (JF CX P w K mg base N qual scope f cdv A outer s H E) body t/\t { nx:=fun _ H'=>Q .non H',rt:=Q } (zQ N vs) H):
  FnOk P w K mg base CX (k+1) f (PySem.W.fnOf name qual params body scope dV kV doc pm an cdv ct) ps sp:=by
 refine ⟨len,fun A outer s H args us vs Q E hr e0 hb r hsp=>?_⟩
 have hl:=len _ _ _ _ hsp
 have KX:K.In s.heap:=e0.mod.kin.keeps fun b o e=>(e0.bs b o e).1
 have lim:s.heap.NoLimit:=e0.mod.nolimit.keeps fun b o e=>(e0.bs b o e).1
 have hkind:∀ y ∈ ps.zip us,scope.names.lookup y.1=some .local ∨ (scope.names.lookup y.1=some .cell/\((cellsFrom (s.heap.objs.size+1) scope.names []).lookup y.1).isSome=true):=fun ⟨n,v⟩ hy=>by
  rcases S.par n (List.of_mem_zip hy).1 with q | q
  ·exact .inl q
  ·exact .inr ⟨q,PySem.W.cellsFrom_some _ _ _ (.inl q)⟩
 refine codeAny_call_function hr.depth (KX _ _ lk) rfl S.co S.gen rfl (PySem.W.codeRec_of KX hcd) (hb _ _ _ _ ?_)
 refine wpAny_newFunctionEnv_cells S.kind hkind fun env he s1 x=>?_
 subst he
 refine ⟨lim.keeps x.toInCall.keep,codeAny_func ?_⟩
 obtain ⟨t,ht,hq⟩:=hbody A outer s H vs Q E (hr.deeper _) hsp
 have I:Inv (JF CX P w K mg base N qual scope f cdv A outer s H E) [] (zQ N vs) H s1:=abf S hr.hd e0 hl r x
 refine wpAny_mono (ht [] s1 (zQ N vs) H _ I hq) (fun fl s' hs=>?_) fun e s' hs=>hs
 have fin:∀ {σ':St} {H':Hp} {v:V} {u:Value},Inv (JF CX P w K mg base N qual scope f cdv A outer s H E) [] σ' H' s'->jU v u->Q v H'->CE outer P w H s Q u s':=
  fun {σ' H' v u} J rv q=>⟨v,H',J.os,J.bare,J.base,J.hok,rv,q⟩
 cases fl with
 | ret u=>
  obtain ⟨v,σ',H',J,rv,q⟩:=hs
  exact fin J rv q
 | next=>
  obtain ⟨σ',H',J,q⟩:=hs
  exact fin (v:=V.non) (u:=Value.none) J rfl q
 | brk=>
  obtain ⟨_,_,_,q⟩:=hs
  exact False.elim q
 | cont=>
  obtain ⟨_,_,_,q⟩:=hs
  exact False.elim q
end L2
namespace L2
open PySem PySem.Spec PyProof.Rows
section
variable {X:Cx}{x:Str}{p pos:Pos}{e:Expr}{es:List Expr}{t:TA}{id T:String}{r:List V->Hp->VK->Prop}
noncomputable def tCB (r:List V->Hp->VK->Prop) (t:TA):TE:=fun σ H Q=>t σ H fun vs H1=>r vs H1 Q
theorem aay (hc:zC X (.builtin id) r) (hg:Gl X x) (hm:X.mg x=none) (hv:bootBuiltins x=some (.builtin id)) (ha:PA X (e::es) t) (hn:x ≠ "__name__":=by decide) (hdb:(x == ("__debug__":Str))=false:=by decide)
  (he:starEach (e::es) X.env=(false,eval e X.env)::starEach es X.env:=by rfl) (hpl:(backTo pos (starEach es X.env)).any (·.1)=false:=by rfl):PE X (.Call (.Name x p) (e::es) [] pos) (tCB r t):=by
 intro pins s σ H Q I h
 refine wpAny_Call_Name_kw (Q9 I hg hm hv ?_ hn hdb)
 exact PyProof.Rows.callWith_builtin1 (thn (ha pos pins s σ H _ I h) fun us s1 ⟨vs,H1,I1,r1,q1⟩=>hc pins s1 σ H1 vs us Q I1 r1 q1) he hpl
theorem adE (hc:zC X (.type T) r) (hg:Gl X x) (hm:X.mg x=none) (hv:bootBuiltins x=some (.type T)) (ha:PA X (e::es) t) (hn:x ≠ "__name__":=by decide) (hdb:(x == ("__debug__":Str))=false:=by decide)
  (he:starEach (e::es) X.env=(false,eval e X.env)::starEach es X.env:=by rfl) (hpl:(backTo pos (starEach es X.env)).any (·.1)=false:=by rfl):PE X (.Call (.Name x p) (e::es) [] pos) (tCB r t):=by
 intro pins s σ H Q I h
 refine wpAny_Call_Name_kw (Q9 I hg hm hv ?_ hn hdb)
 exact PyProof.Rows.callWith_type1 (thn (ha pos pins s σ H _ I h) fun us s1 ⟨vs,H1,I1,r1,q1⟩=>hc pins s1 σ H1 vs us Q I1 r1 q1) he hpl
end
end L2
namespace HT
open PySem PyProof.Rows
section
open PySem.SeqAt
open PySem.AutoSeq1 (wpAny_loadPart')
open PySem.MeetsSeq PySem.MeetsSeq2 PySem.MeetsSeq3
end
section
variable {prog:Program}{w:World}{A:Around}{E:Value->Shared->Prop}{s:Shared}
theorem cat_tup {t b:Addr}{vs ws:List Value}{Q:Value->Shared->Prop} (ht:IsTup s.heap t vs.toArray) (hb:IsTup s.heap b ws.toArray) (hv:vs ≠ [])
  (h1:ws=[]->Q (.ref t) s) (h2:ws ≠ []->Q (.ref s.heap.objs.size) { s with heap:=s.heap.push { cls:= .type "tuple",data:= .seq (vs++ws).toArray } })
  (hsz:vs.length+ws.length<=sizeLine):wpAny (model prog w) A (binaryOp .Add (.ref t) (.ref b)) Q E s:=by
 obtain ⟨⟨cls,dd,data,sl⟩,ho,hc,n,hd⟩:=id ht
 obtain ⟨⟨cls2,dd2,data2,sl2⟩,ho2,hc2,n2,hd2⟩:=id hb
 simp only at hc hd hc2 hd2
 subst hc hd hc2 hd2
 have e:vs.toArray++ws.toArray=(vs++ws).toArray:=by simp
 by_cases hw:ws=[]
 ·exact concat_meets ⟨_,ho,rfl⟩ ⟨_,ho2,rfl⟩ noFill_tuple_add seq_tuple_add PySem.F.slot_tuple_add PySem.F.entry_tuple_add (PySem.F.args_tuple_add_2 _ _)
   (tuple_addW1 t b vs.toArray ws.toArray n n2 dd dd2 sl sl2 (by simpa using hv) (by simp [hw])) ⟨ho,ho2,h1 hw⟩
 ·refine concat_meets ⟨_,ho,rfl⟩ ⟨_,ho2,rfl⟩ noFill_tuple_add seq_tuple_add PySem.F.slot_tuple_add PySem.F.entry_tuple_add (PySem.F.args_tuple_add_2 _ _)
   (tuple_addW2 t b vs.toArray ws.toArray n n2 dd dd2 sl sl2 (by simpa using hv) (by simpa using hw) (by rw [List.size_toArray,List.size_toArray]; exact hsz)) ⟨ho,ho2,?_⟩
  rw [e]
  exact h2 hw
noncomputable def sIx (n d:Nat):Option Int->Nat
 | none=>d
 | some v=>if v < 0 then (v+(n:Int)).toNat else min v.toNat n
theorem sIx_none (n d:Nat):sIx n d none=d:=rfl
theorem sIx_nat (n d k:Nat):sIx n d (some (k:Int))=min k n:=by
 show (if (k:Int) < 0 then ((k:Int)+(n:Int)).toNat else min (k:Int).toNat n)=min k n
 rw [if_neg (by omega),Int.toNat_natCast]
theorem apf (n d:Nat) (hd:d<=n) (o:Option Int):sIx n d o<=n:=by
 cases o with
 | none=>exact hd
 | some v=>
  show (if v < 0 then (v+(n:Int)).toNat else min v.toNat n)<=n
  by_cases hv:v < 0
  ·rw [if_pos hv]; omega
  ·rw [if_neg hv]; exact Nat.min_le_right _ _
theorem aif (v:Int) (n d:Nat):(if v < 0 then max (v+(n:Int)) 0 else min v (n:Int))=((sIx n d (some v):Nat):Int):=by
 show (if v < 0 then max (v+(n:Int)) 0 else min v (n:Int))=(((if v < 0 then (v+(n:Int)).toNat else min v.toNat n):Nat):Int)
 by_cases hv:v < 0
 ·simp only [if_pos hv]; omega
 ·simp only [if_neg hv]; omega
theorem ahg (lo hi:Option Int) (n:Nat):Builtin.Slice.sliceAdjust lo hi 1 (n:Int)=(((sIx n 0 lo:Nat):Int),((sIx n n hi:Nat):Int)):=by
 have h1:¬ ((1:Int) < 0):=by omega
 unfold Builtin.Slice.sliceAdjust
 simp only [h1,zzN]
 refine Prod.ext ?_ ?_
 ·cases lo with
  | none=>rfl
  | some v=>exact aif v n 0
 ·cases hi with
  | none=>rfl
  | some v=>exact aif v n n
theorem ahh (i j:Nat):Builtin.Slice.slicePlaces (i:Int) (j:Int) 1=j - i:=by
 unfold Builtin.Slice.slicePlaces
 have h1:(1:Int) > 0:=by omega
 simp only [h1,zzM,Int.ediv_one]
 split <;> omega
theorem slicePart_ {v:Value}{o:Option Int}{Q:Option Int->Shared->Prop} (p:IsPart v o) (h:Q o s):wpAny (model prog w) A (Builtin.Slice.slicePartIndex v) Q E s:=by
 cases p with
 | none=>exact slicePart_none h
 | int i t=>exact slicePart_int h
theorem sliceApplied_gen {sl:Addr}{vl vu:Value}{lo hi:Option Int}{n:Nat}{Q:Int × Int × Nat->Shared->Prop} (hs:s.heap.IsSliceOf sl vl vu .none) (pl:IsPart vl lo) (pu:IsPart vu hi)
  (h:Q (((sIx n 0 lo:Nat):Int),1,sIx n n hi - sIx n 0 lo) s):wpAny (model prog w) A (Builtin.Slice.sliceApplied (.ref sl) (pure (n:Int))) Q E s:=by
 obtain ⟨os,hos,hcs,hds⟩:=id hs
 unfold Builtin.Slice.sliceApplied Builtin.Slice.sliceFields
 refine wpAny_bind (wpAny_bind (wpAny_field hos hds (x:=vl) rfl (wpAny_bind (wpAny_field hos hds (x:=vu) rfl (wpAny_bind (wpAny_field hos hds (x:= .none) rfl (wpAny_pure ?_)))))))
 refine wpAny_bind (slicePart_none ?_)
 show wpAny _ _ (if ((1:Int) == 0)=true then _ else _) _ _ s
 rw [if_neg (by decide)]
 refine wpAny_bind (slicePart_ pl (wpAny_bind (slicePart_ pu (wpAny_bind (wpAny_pure ?_)))))
 show wpAny _ _ (match Builtin.Slice.sliceAdjust lo hi 1 (n:Int) with | (lo,hi)=>pure (lo,(1:Int),Builtin.Slice.slicePlaces lo hi 1)) _ _ s
 rw [ahg lo hi n]
 show wpAny _ _ (pure (((sIx n 0 lo:Nat):Int),(1:Int),Builtin.Slice.slicePlaces ((sIx n 0 lo:Nat):Int) ((sIx n n hi:Nat):Int) 1)) _ _ s
 rw [ahh]
 exact wpAny_pure h
theorem akF (xs:Array Value) (i k:Nat):((List.range k).filterMap fun (m:Nat)=>xs[((i:Int)+(m:Int)*1).toNat]?).toArray=((xs.toList.drop i).take k).toArray:=by
 have e:(fun (m:Nat)=>xs[((i:Int)+(m:Int)*1).toNat]?)=fun m=>xs[i+m]?:=by
  funext m
  have:((i:Int)+(m:Int)*1).toNat=i+m:=by omega
  rw [this]
 rw [e]
 have:=pick_run xs i k
 rw [List.filterMap_map] at this
 have e2:((fun x=>xs[x]?) ∘ fun x=>i+x)=fun m=>xs[i+m]?:=rfl
 rw [e2] at this
 rw [this]
theorem getItem_tuple_cut {t sl:Addr}{items:Array Value}{vl vu:Value}{lo hi:Option Int}{Q:Value->Shared->Prop} (ht:IsTup s.heap t items) (hs:s.heap.IsSliceOf sl vl vu .none) (pl:IsPart vl lo) (pu:IsPart vu hi)
  (hw:¬ (sIx items.size 0 lo=0/\sIx items.size items.size hi=items.size))
  (h:Q (.ref s.heap.objs.size) { s with heap:=s.heap.push { cls:= .type "tuple",data:= .seq ((items.toList.drop (sIx items.size 0 lo)).take (sIx items.size items.size hi - sIx items.size 0 lo)).toArray } })
  (hsz:items.size<=sizeLine):wpAny (model prog w) A (getItem (.ref t) (.ref sl)) Q E s:=by
 have htake:sizeOk (.seq ((items.toList.drop (sIx items.size 0 lo)).take (sIx items.size items.size hi - sIx items.size 0 lo)).toArray):=by
  show ((items.toList.drop (sIx items.size 0 lo)).take (sIx items.size items.size hi - sIx items.size 0 lo)).toArray.size<=sizeLine
  rw [List.size_toArray,List.length_take,List.length_drop,Array.length_toList]
  omega
 have hj:sIx items.size items.size hi<=items.size:=apf _ _ (Nat.le_refl _) hi
 obtain ⟨os,hos,hcs,hds⟩:=id hs
 have hTs:s.TypeIs (.ref sl) "slice":=⟨os,hos,hcs⟩
 unfold getItem
 try with_reducible refine wpAny_holding ?_
 first | refine wpAny_bind (wpAny_pure ?_) | skip
 refine wpAny_bind (wpAny_sequenceKey ht.typeIs (by decide) ?_)
 refine wpAny_bind (wpAny_callSpecial?_slot (name:=Str.ofString "__getitem__") ht.typeIs PyProof.Rows.slot_tuple_getitem
  (wpAny_call_entry PyProof.Rows.slot_tuple_getitem ht.typeIs entry_tuple_getitem ?_ (args_tuple_getitem _ _)))
 show wpAny _ _ (Builtin.Tuple.tupleItemsOf (.ref t) >>= _) _ _ s
 refine wpAny_bind (tupleItemsOf_ ht ?_)
 refine wpAny_bind (wpAny_typeOf hTs ?_)
 rw [if_pos (by decide)]
 refine wpAny_bind (sliceApplied_gen hs pl pu ?_)
 have hno:¬ ((((sIx items.size 0 lo:Nat):Int) == 0 && (1:Int) == 1 && (sIx items.size items.size hi - sIx items.size 0 lo) == items.size)=true):=by
  intro q
  rw [Bool.and_eq_true,Bool.and_eq_true] at q
  have q1:((sIx items.size 0 lo:Nat):Int)=0:=eq_of_beq q.1.1
  have q2:sIx items.size items.size hi - sIx items.size 0 lo=items.size:=eq_of_beq q.2
  exact hw ⟨by omega,by omega⟩
 show wpAny _ _ (if (((sIx items.size 0 lo:Nat):Int) == 0 && (1:Int) == 1 && (sIx items.size items.size hi - sIx items.size 0 lo) == items.size)=true then _ else _) _ _ s
 rw [if_neg hno,akF]
 first
  | exact wpAny_bind (m:=Builtin.Tuple.tupleExact _) (wpAny_newObj_type (wpAny_pure ⟨_,rfl,wpAny_pure h⟩) htake)
  | exact wpAny_bind (m:=Builtin.Tuple.tupleExact _) (wpAny_newObj_type (wpAny_bind (wpAny_pure (wpAny_pure ⟨_,rfl,wpAny_pure h⟩))) htake)
  | exact wpAny_bind (wpAny_bind (m:=Builtin.Tuple.tupleExact _) (wpAny_newObj_type (wpAny_pure (wpAny_pure ⟨_,rfl,wpAny_pure h⟩)) htake))
  | exact wpAny_bind (wpAny_bind (m:=Builtin.Tuple.tupleExact _) (wpAny_newObj_type (wpAny_pure ⟨_,rfl,wpAny_pure h⟩) htake))
end
end HT
namespace L2
open PySem PySem.Spec PyProof.Rows
noncomputable abbrev TO:=St->Hp->(Option Int->Hp->Prop)->Prop
noncomputable def PO (X:Cx) (e:Option Expr) (t:TO):Prop:=
 ∀ (pins:List (Addr × Obj)) (s:Shared) (σ:St) (H:Hp) (Q:Option Int->Hp->Prop),Inv X pins σ H s->t σ H Q->
  wpAny (model X.prog X.w) X.A (evalPart e X.env) (fun u s'=>∃ o H',Inv X pins σ H' s'/\IsPart u o/\Q o H') X.xe s
noncomputable def am1:TO:=fun _ H Q=>Q none H
noncomputable def aqv (t:TE):TO:=fun σ H Q=>t σ H fun x H1=>∃ i,x= .int i/\Q (some i) H1
section
variable {X:Cx}{e:Expr}{te:TE}{lo hi:Option Expr}{tl th:TO}{pos p2:Pos}
theorem aig:PO X none am1:=by
 intro pins s σ H Q I h
 rw [evalPart_none]
 exact wpAny_pure ⟨none,H,I,.none,h⟩
theorem aey (h:PE X e te):PO X (some e) (aqv te):=by
 intro pins s σ H Q I hw
 rw [evalPart_some]
 refine thn (h pins s σ H _ I hw) fun u s1 ⟨x,H1,I1,r1,q1⟩=>?_
 obtain ⟨i,rfl,q⟩:=q1
 obtain ⟨t,rfl⟩:=r1
 exact ⟨some i,H1,I1,.int i t,q⟩
noncomputable def SlR (X:Cx) (r:V->Option Int->Option Int->Hp->VK->Prop):Prop:=
 ∀ (pins:List (Addr × Obj)) (s:Shared) (σ:St) (H:Hp) (x:V) (v vl vu:Value) (lo hi:Option Int) (sl:Addr) (Q:VK),Inv X pins σ H s->jU x v->s.heap.IsSliceOf sl vl vu .none->IsPart vl lo->IsPart vu hi->r x lo hi H Q->
  ∃ T id,typeLookup (.type T) "__getitem__"=pure (some (.builtin id))/\s.TypeIs v T/\wpAny (model X.prog X.w) X.A (getItem v (.ref sl)) (EP X pins σ Q) X.xe s
theorem SlR.or {r r':V->Option Int->Option Int->Hp->VK->Prop} (h:SlR X r) (h':SlR X r'):SlR X (fun x lo hi H Q=>r x lo hi H Q ∨ r' x lo hi H Q):=by
 intro pins s σ H x v vl vu lo hi sl Q I rx hs pl pu q
 rcases q with q | q
 ·exact h pins s σ H x v vl vu lo hi sl Q I rx hs pl pu q
 ·exact h' pins s σ H x v vl vu lo hi sl Q I rx hs pl pu q
noncomputable def tSl (r:V->Option Int->Option Int->Hp->VK->Prop) (te:TE) (tl th:TO):TE:=fun σ H Q=>te σ H fun x H1=>tl σ H1 fun l H2=>th σ H2 fun u H3=>r x l u H3 Q
theorem afB {r:V->Option Int->Option Int->Hp->VK->Prop} (hr:SlR X r) (he:PE X e te) (hl:PO X lo tl) (hu:PO X hi th):PE X (.Subscript e (.Slice lo hi none p2) pos) (tSl r te tl th):=by
 intro pins s σ H Q I h
 refine Subscript_ (thn (he pins s σ H _ I h) fun v s1 ⟨x,H1,I1,r1,q1⟩=>?_)
 refine wpAny_Slice (thn (hl pins s1 σ H1 _ I1 q1) fun vl s2 ⟨l,H2,I2,pl,q2⟩=>thn (hu pins s2 σ H2 _ I2 q2) fun vu s3 ⟨u,H3,I3,pu,q3⟩=>?_)
 rw [evalPart_none]
 refine wpAny_pure ?_
 have I4:Inv X pins σ H3 { s3 with heap:=s3.heap.push { cls:= .type "slice",data:= .fields #[vl,vu,.none] } }:=I3.kept (t':=s3.toks) fun b ob q=>Heap.get?_push_of_some _ q
 obtain ⟨T,id,hT,ht,hg⟩:=hr pins { s3 with heap:=s3.heap.push { cls:= .type "slice",data:= .fields #[vl,vu,.none] } } σ H3 x v vl vu l u s3.heap.objs.size Q I4 r1 (Heap.IsSliceOf.new ..) pl pu q3
 show wpAny (model X.prog X.w) X.A (subscriptTail e (.Slice lo hi none p2) v (.ref s3.heap.objs.size)) (EP X pins σ Q) X.xe { s3 with heap:=s3.heap.push { cls:= .type "slice",data:= .fields #[vl,vu,.none] } }
 exact tail_any (ops:=[.ref s3.heap.objs.size,v]) ht hT hg (by with_unfolding_all rfl)
noncomputable def aez (xs:List V) (lo hi:Option Int):List V:=(xs.drop (HT.sIx xs.length 0 lo)).take (HT.sIx xs.length xs.length hi - HT.sIx xs.length 0 lo)
theorem afC (xs:List V) (lo hi:Option Int):(aez xs lo hi).length<=xs.length:=by
 unfold aez
 rw [List.length_take,List.length_drop]
 omega
noncomputable def aqw (K:PySem.W.Frag):V->Option Int->Option Int->Hp->VK->Prop:=fun x lo hi H Q=>∃ a xs,x= .ref a/\SqT K H a xs/\
 ¬ (HT.sIx xs.length 0 lo=0/\HT.sIx xs.length xs.length hi=xs.length)/\∀ p,H p=none->Q (.ref p) (upd H p (.tup (aez xs lo hi)))
theorem akG:SlR X (aqw X.K):=by
 intro pins s σ H x v vl vu lo hi sl Q I rx hs pl pu h
 obtain ⟨a,xs,rfl,hx,hw,q⟩:=h
 cases rx
 obtain ⟨its,r,ht,hz⟩:=I.tuple hx
 have hlen:its.toArray.size=xs.length:=by rw [List.size_toArray]; exact r.length.symm
 refine ⟨"tuple",_,PyProof.Rows.slot_tuple_getitem.lookup,ht.typeIs,?_⟩
 refine HT.getItem_tuple_cut ht hs pl pu (by rw [hlen]; exact hw) ?_ (by rw [hlen]; exact hz)
 rw [hlen]
 refine ⟨.ref s.heap.objs.size,_,I.laid (t':=s.toks) (o:= .tup (aez xs lo hi)) (fun b ob q=>Heap.get?_push_of_some _ q) (Nat.le_refl _) ?_,rfl,q _ (I.hok.fresh (Nat.le_refl _))⟩
 exact ⟨Nat.le_trans (afC xs lo hi) hz,_,(r.drop (HT.sIx xs.length 0 lo)).take (HT.sIx xs.length xs.length hi - HT.sIx xs.length 0 lo),IsTup.new _ _⟩
noncomputable def aqx (K:PySem.W.Frag):R2:=fun x y H Q=>∃ a b xs ys,x= .ref a/\y= .ref b/\SqT K H a xs/\SqT K H b ys/\xs ≠ []/\xs.length+ys.length<=sizeLine/\
 (ys=[]->Q (.ref a) H)/\(ys ≠ []->∀ p,H p=none->Q (.ref p) (upd H p (.tup (xs++ys))))
theorem jI.nil_iff {xs:List V}{us:List Value} (r:jI xs us):us=[] ↔ xs=[]:=by
 cases r with
 | nil=>simp
 | cons _ _=>simp
theorem am2:OpR X (binaryOp .Add) (aqx X.K):=by
 intro pins s σ H x y v u Q I rx ry h
 obtain ⟨a,b,xs,ys,rfl,rfl,ha,hb,hx,hz,q1,q2⟩:=h
 cases rx
 cases ry
 obtain ⟨its,r1,p1,_⟩:=I.tuple ha
 obtain ⟨its2,r2,p2,_⟩:=I.tuple hb
 refine HT.cat_tup p1 p2 (fun z=>hx (r1.nil_iff.mp z)) (fun z=>⟨.ref a,H,I,rfl,q1 (r2.nil_iff.mp z)⟩) (fun z=>?_) (by rw [←r1.length,←r2.length]; exact hz)
 refine ⟨.ref s.heap.objs.size,_,I.laid (t':=s.toks) (o:= .tup (xs++ys)) (fun b ob q=>Heap.get?_push_of_some _ q) (Nat.le_refl _) ?_,rfl,q2 (fun w=>z (r2.nil_iff.mpr w)) _ (I.hok.fresh (Nat.le_refl _))⟩
 exact ⟨by rw [List.length_append]; exact hz,_,r1.append r2,IsTup.new _ _⟩
end
end L2
namespace L2
open PySem PySem.Spec PyProof.Rows
noncomputable def ixN (n:Nat) (i:Int):Option Nat:=if 0<=i then (if i < n then some i.toNat else none) else if -(n:Int)<=i then some (i+n).toNat else none
noncomputable def atI {α:Type} (xs:List α) (i:Int):Option α:=(ixN xs.length i).bind fun j=>xs[j]?
theorem aih {n:Nat}{i:Int}{j:Nat} (h:ixN n i=some j):seqIndex? i n=some j/\j < n/\-(n:Int)<=i/\i < n:=by
 unfold ixN at h
 by_cases h0:0<=i
 ·rw [if_pos h0] at h
  by_cases h1:i < n
  ·rw [if_pos h1] at h
   have e:i.toNat=j:=Option.some.inj h
   exact ⟨by rw [seqIndex_of h0 h1,e],by omega,by omega,h1⟩
  ·rw [if_neg h1] at h; cases h
 ·rw [if_neg h0] at h
  by_cases h1:-(n:Int)<=i
  ·rw [if_pos h1] at h
   have e:(i+n).toNat=j:=Option.some.inj h
   exact ⟨by rw [seqIndex_neg (by omega) h1,e],by omega,h1,by omega⟩
  ·rw [if_neg h1] at h; cases h
theorem aii {α:Type}{xs:List α}{i:Int}{v:α} (h:atI xs i=some v):∃ j,seqIndex? i xs.length=some j/\xs[j]?=some v/\j < xs.length/\-(xs.length:Int)<=i/\i < xs.length:=by
 unfold atI at h
 cases e:ixN xs.length i with
 | none=>rw [e] at h; cases h
 | some j=>
  rw [e] at h
  obtain ⟨h1,h2,h3,h4⟩:=aih e
  exact ⟨j,h1,h,h2,h3,h4⟩
noncomputable def aij (b:Expr):Prop:=∀ o i,subscripted b false o i=operate [o,i] (getItem o i)
noncomputable def IxR (X:Cx) (r:R2):Prop:=
 ∀ (value slice:Expr) (pins:List (Addr × Obj)) (s:Shared) (σ:St) (H:Hp) (x y:V) (v u:Value) (Q:VK),Inv X pins σ H s->jU x v->jU y u->r x y H Q->
  subscripted slice false v u=operate [v,u] (getItem v u)->wpAny (model X.prog X.w) X.A (subscriptTail value slice v u) (EP X pins σ Q) X.xe s
noncomputable def MtR (X:Cx) (id:String) (r:V->List V->Hp->VK->Prop):Prop:=
 ∀ (pins:List (Addr × Obj)) (s:Shared) (σ:St) (H:Hp) (x:V) (xs:List V) (v:Value) (us:List Value) (Q:VK),Inv X pins σ H s->jU x v->jI xs us->r x xs H Q->
  wpAny (model X.prog X.w) X.A (call (.builtin id) (v::us)) (EP X pins σ Q) X.xe s
section
variable {X:Cx}{a b:Expr}{ta tb:TE}{pos:Pos}
theorem IxR.or {r r':R2} (h:IxR X r) (h':IxR X r'):IxR X (fun x y H Q=>r x y H Q ∨ r' x y H Q):=by
 intro value slice pins s σ H x y v u Q I rx ry q hs
 rcases q with q | q
 ·exact h value slice pins s σ H x y v u Q I rx ry q hs
 ·exact h' value slice pins s σ H x y v u Q I rx ry q hs
theorem MtR.or {id:String}{r r':V->List V->Hp->VK->Prop} (h:MtR X id r) (h':MtR X id r'):MtR X id (fun x xs H Q=>r x xs H Q ∨ r' x xs H Q):=by
 intro pins s σ H x xs v us Q I rx rs q
 rcases q with q | q
 ·exact h pins s σ H x xs v us Q I rx rs q
 ·exact h' pins s σ H x xs v us Q I rx rs q
theorem aqy {r:R2} (hr:IxR X r) (ha:PE X a ta) (hb:PE X b tb) (hs:aij b):PE X (.Subscript a b pos) (tOp r ta tb):=by
 intro pins s σ H Q I h
 exact Subscript_ (ao6 ha hb I h fun v u s2 x y H2 I2 rx ry q=>hr a b pins s2 σ H2 x y v u Q I2 rx ry q (hs _ _))
noncomputable def aru (K:PySem.W.Frag):R2:=fun x y H Q=>∃ p xs i v,x= .ref p/\y= .int i/\SqL K H p xs/\atI xs i=some v/\Q v H
noncomputable def arv (K:PySem.W.Frag):R2:=fun x y H Q=>∃ p xs i v,x= .ref p/\y= .int i/\SqT K H p xs/\atI xs i=some v/\Q v H
theorem am3:IxR X (aru X.K):=by
 intro value slice pins s σ H x y v u Q I rx ry h hs
 obtain ⟨p,xs,i,z,rfl,rfl,hq,he,q⟩:=h
 cases rx
 obtain ⟨t,rfl⟩:=ry
 obtain ⟨its,r,pl,hz⟩:=I.list hq
 obtain ⟨j,h1,h2,h3,h4,h5⟩:=aii he
 obtain ⟨w,ew,rw'⟩:=r.get h2
 have hl:=r.length
 have hn:=acu
 have fin:EP X pins σ Q w s:=⟨z,H,I,rw',q⟩
 by_cases h0:0<=i
 ·have hj:i.toNat=j:=by
   rw [seqIndex_of h0 h5] at h1
   exact Option.some.inj h1
  exact item_listR pl.isList h0 (by omega) (by rw [hj]; simpa using ew) fin hs
 ·have hj:(i+(its.toArray.size:Int)).toNat=j:=by
   rw [seqIndex_neg (by omega) h4] at h1
   rw [List.size_toArray,←hl]
   exact Option.some.inj h1
  exact subscriptTail_builtinR (x:=w) pl.isList.typeIs slot_list_getitem.lookup
   (wpAny_getItem_list_neg (Q:=fun r s'=>r=w/\EP X pins σ Q r s') pl.isList (by omega) (by rw [List.size_toArray] <;> omega) (by omega) (by rw [hj]; simpa using ew) ⟨rfl,fin⟩) hs
theorem apg:IxR X (arv X.K):=by
 intro value slice pins s σ H x y v u Q I rx ry h hs
 obtain ⟨p,xs,i,z,rfl,rfl,hq,he,q⟩:=h
 cases rx
 obtain ⟨t,rfl⟩:=ry
 obtain ⟨its,r,pl,hz⟩:=I.tuple hq
 obtain ⟨j,h1,h2,h3,h4,h5⟩:=aii he
 obtain ⟨w,ew,rw'⟩:=r.get h2
 have hl:=r.length
 have hn:=acu
 have fin:EP X pins σ Q w s:=⟨z,H,I,rw',q⟩
 exact subscriptTail_builtinR (x:=w) pl.typeIs slot_tuple_getitem.lookup
  (getItem_tuple (j:=j) (Q:=fun r s'=>r=w/\EP X pins σ Q r s') pl (by omega) (by omega) (by rw [List.size_toArray,←hl]; exact h1) (by simpa using ew) ⟨rfl,fin⟩) hs
theorem ahi (its:List Value) (n j:Nat) (u:Value):Obj.mapSeq (·.setIfInBounds j u) { cls:= .type "list",data:= .seq its.toArray n }={ cls:= .type "list",data:= .seq (its.set j u).toArray n }:=by
 simp [Obj.mapSeq]
theorem Inv.lst {pins:List (Addr × Obj)}{σ:St}{H:Hp}{s:Shared}{p:Addr}{xs:List V} (I:Inv X pins σ H s) (h:H p=some (.lst xs)):
  ∃ (its:List Value) (n:Nat),jI xs its/\s.heap.get? p=some { cls:= .type "list",data:= .seq its.toArray n }/\xs.length<=sizeLine:=by
 obtain ⟨z,its,n,r,e⟩:=I.hok p _ h
 exact ⟨its,n,r,e,z⟩
theorem Inv.lstUpd {pins:List (Addr × Obj)}{σ:St}{H:Hp}{s:Shared}{p:Addr}{xs ys:List V}{its its':List Value}{n n':Nat}{f:Obj->Obj} (I:Inv X pins σ H s) (h:H p=some (.lst xs))
  (ho:s.heap.get? p=some { cls:= .type "list",data:= .seq its.toArray n }) (hf:f { cls:= .type "list",data:= .seq its.toArray n }={ cls:= .type "list",data:= .seq its'.toArray n' }) (r:jI ys its') (hz:ys.length<=sizeLine) (t:Nat):
  Inv X pins σ (upd H p (.lst ys)) { s with heap:=s.heap.update p f,toks:=t }:=by
 have e:(s.heap.update p f).get? p=some { cls:= .type "list",data:= .seq its'.toArray n' }:=by
  rw [Heap.get?_update_self f ho (by rw [hf] <;> rfl),hf]
 refine I.write (x:=p) (e:=p) (by rw [h]; trivial) (.inl rfl) (fun b u hb q=>(Heap.get?_update_other _ _ (Ne.symm hb)).trans q) ⟨_,e⟩ ?_
 exact ⟨hz,its',n',r,e⟩
noncomputable def aqz:V->V->V->Hp->(Hp->Prop)->Prop:=fun o i v H Q=>∃ p xs k j,o= .ref p/\i= .int k/\H p=some (.lst xs)/\ixN xs.length k=some j/\Q (upd H p (.lst (xs.set j v)))
theorem akH:amU X aqz:=by
 intro pins s σ H o i v ov iv u Q I ro ri rv h
 obtain ⟨p,xs,k,j,rfl,rfl,hp,hj,q⟩:=h
 cases ro
 obtain ⟨t,rfl⟩:=ri
 obtain ⟨its,n,r,ho,hz⟩:=I.lst hp
 obtain ⟨h1,h2,h3,h4⟩:=aih hj
 have hl:=r.length
 have hn:=acu
 have I':Inv X pins σ (upd H p (.lst (xs.set j v))) { s with heap:=s.heap.update p (Obj.mapSeq (·.setIfInBounds j u)) }:=
  I.lstUpd hp ho (ahi its n j u) (r.set rv j) (by rw [List.length_set]; exact hz) s.toks
 by_cases h0:0<=k
 ·have hk:k.toNat=j:=by
   rw [seqIndex_of h0 h4] at h1
   exact Option.some.inj h1
  exact PySem.W.ki_setAt ho h0 (by omega) (by rw [List.size_toArray,←hl]; exact h4) (by rw [hk]; exact ⟨_,I',q⟩)
 ·have hk:(k+(its.toArray.size:Int)).toNat=j:=by
   rw [seqIndex_neg (by omega) h3] at h1
   rw [List.size_toArray,←hl]
   exact Option.some.inj h1
  exact PySem.W.ki_setBack ho (by omega) (by rw [List.size_toArray,←hl]; exact h3) (by omega) (by rw [hk]; exact ⟨_,I',q⟩)
theorem aeA:zC X (.builtin "len") (fun xs H Q=>∃ p ys,xs=[.ref p]/\(SqL X.K H p ys ∨ SqT X.K H p ys)/\Q (.int ys.length) H):=by
 intro pins s σ H xs us Q I r h
 obtain ⟨p,ys,rfl,hq,q⟩:=h
 obtain ⟨u,rfl,rx⟩:=aaw r
 cases rx
 have hn:=acu
 rcases hq with hq | hq
 ·obtain ⟨its,r',pl,hz⟩:=I.list hq
  have hlen:=r'.length
  exact Calls.call_len_list pl.isList (by simp only [List.size_toArray] <;> omega) ⟨.int ys.length,H,I.tok _,⟨s.toks+1,by rw [List.size_toArray,hlen]⟩,q⟩
 ·obtain ⟨its,r',pl,hz⟩:=I.tuple hq
  have hlen:=r'.length
  exact len_tuple pl (by simp only [List.size_toArray] <;> omega) ⟨.int ys.length,H,I.tok _,⟨s.toks+1,by rw [List.size_toArray,hlen]⟩,q⟩
theorem zC.or {f:Value}{r r':List V->Hp->VK->Prop} (h:zC X f r) (h':zC X f r'):zC X f (fun xs H Q=>r xs H Q ∨ r' xs H Q):=by
 intro pins s σ H xs us Q I rs q
 rcases q with q | q
 ·exact h pins s σ H xs us Q I rs q
 ·exact h' pins s σ H xs us Q I rs q
theorem aaz:zC X (.type "list") (fun xs H Q=>∃ p ys,xs=[.ref p]/\(SqL X.K H p ys ∨ SqT X.K H p ys)/\∀ l,H l=none->Q (.ref l) (upd H l (.lst ys))):=by
 intro pins s σ H xs us Q I r h
 obtain ⟨p,ys,rfl,hq,q⟩:=h
 obtain ⟨u,rfl,rx⟩:=aaw r
 cases rx
 have fin:∀ (its:List Value),jI ys its->ys.length<=sizeLine->∀ (h':Heap) (c':Nat),(∀ b o',s.heap.get? b=some o'->h'.get? b=some o')->
   h'.get? s.heap.objs.size=some { cls:= .type "list",dict:=none,data:= .seq its.toArray c',slots:=#[] }->EP X pins σ Q (.ref s.heap.objs.size) { s with heap:=h' }:=fun its r' hz h' c' kp e=>
  ⟨.ref s.heap.objs.size,_,I.laid (t':=s.toks) kp (Nat.le_refl _) (show qK X.prog X.w _ h' _ (.lst ys) from ⟨hz,its,c',r',e⟩),rfl,q _ (I.hok.fresh (Nat.le_refl _))⟩
 rcases hq with hq | hq
 ·obtain ⟨its,r',pl,hz⟩:=I.list hq
  have hlen:=r'.length
  obtain ⟨o,ho,hc,n,hd⟩:=pl.isList
  exact call_list_seq p (.inl rfl) ho hc hd (fun h' c' kp e=>fin its r' hz h' c' kp e) (by simp only [List.size_toArray] <;> omega)
 ·obtain ⟨its,r',pl,hz⟩:=I.tuple hq
  have hlen:=r'.length
  obtain ⟨o,ho,hc,n,hd⟩:=pl
  exact call_list_seq p (.inr rfl) ho hc hd (fun h' c' kp e=>fin its r' hz h' c' kp e) (by simp only [List.size_toArray] <;> omega)
theorem adk:zC X (.type "tuple") (fun xs H Q=>∃ p ys,xs=[.ref p]/\((SqL X.K H p ys/\∀ l,H l=none->Q (.ref l) (upd H l (.tup ys))) ∨ (SqT X.K H p ys/\Q (.ref p) H))):=by
 intro pins s σ H xs us Q I r h
 obtain ⟨p,ys,rfl,h⟩:=h
 obtain ⟨u,rfl,rx⟩:=aaw r
 cases rx
 rcases h with ⟨hq,q⟩ | ⟨hq,q⟩
 ·obtain ⟨its,r',pl,hz⟩:=I.list hq
  have hlen:=r'.length
  refine call_tuple_list pl.isList (fun h' kp=>?_) (by simp only [List.size_toArray] <;> omega)
  have I1:Inv X pins σ H { s with heap:=h' }:=I.kept (t':=s.toks) kp
  have I2:Inv X pins σ (upd H h'.objs.size (.tup ys)) { s with heap:=h'.push { cls:= .type "tuple",data:= .seq its.toArray } }:=
   I1.laid (t':=s.toks) (fun b o e=>Heap.get?_push_of_some _ e) (Nat.le_refl _) (show qK X.prog X.w _ _ _ (.tup ys) from ⟨hz,its,r',IsTup.new _ _⟩)
  exact ⟨.ref h'.objs.size,_,I2,rfl,q _ (I1.hok.fresh (Nat.le_refl _))⟩
 ·obtain ⟨its,r',pl,hz⟩:=I.tuple hq
  exact call_tuple_same pl ⟨.ref p,H,I,rfl,q⟩
noncomputable def tyV (K:PySem.W.Frag) (T:String) (x:V) (H:Hp):Prop:=match x with
 | .str _=>T="str"
 | .int _=>T="int"
 | .ref p=>(T="list"/\∃ xs,SqL K H p xs) ∨ (T="tuple"/\∃ o,K.lookup p=some o/\o.cls= .type "tuple"/\o.dict=none) ∨
   (T="dict"/\((∃ kvs,H p=some (.dK kvs)) ∨ ∃ kvs,H p=some (.dT kvs))) ∨ (T="set"/\∃ S n,H p=some (.set S n))
 | _=>False
theorem aph {pins:List (Addr × Obj)}{σ:St}{H:Hp}{s:Shared}{T:String}{x:V}{v:Value} (I:Inv X pins σ H s) (r:jU x v) (ty:tyV X.K T x H):
  s.TypeIs v T/\∀ a,v= .ref a->∃ ob,s.heap.get? a=some ob/\ob.dict=none:=by
 cases x with
 | str z=>
  obtain ⟨t,rfl⟩:=r
  cases (show T="str" from ty)
  exact ⟨typeIs_str s z t,fun _ e=>nomatch e⟩
 | int i=>
  obtain ⟨t,rfl⟩:=r
  cases (show T="int" from ty)
  exact ⟨typeIs_int s i t,fun _ e=>nomatch e⟩
 | ref p=>
  cases r
  rcases ty with ⟨rfl,xs,hq⟩ | ⟨rfl,o,hk,hc,hd⟩ | ⟨rfl,hk⟩ | ⟨rfl,S,n,hk⟩
  ·obtain ⟨its,_,pl,_⟩:=I.list hq
   refine ⟨pl.isList.typeIs,fun a e=>?_⟩
   cases e
   obtain ⟨o,n,e,c,hd,_⟩:=pl
   exact ⟨o,e,hd⟩
  ·refine ⟨⟨o,I.kIn p o hk,hc⟩,fun a e=>?_⟩
   cases e
   exact ⟨o,I.kIn _ o hk,hd⟩
  ·have z:∃ o,s.heap.get? p=some o/\o.ExactDict:=by
    rcases hk with ⟨kvs,hk⟩ | ⟨kvs,hk⟩
    ·obtain ⟨_,_,_,_,o,_,_,e,ex,_⟩:=I.hok p _ hk
     exact ⟨o,e,ex⟩
    ·obtain ⟨_,_,_,_,o,_,_,e,ex,_⟩:=I.hok p _ hk
     exact ⟨o,e,ex⟩
   obtain ⟨o,e,ex⟩:=z
   refine ⟨⟨o,e,ex.1⟩,fun a e2=>?_⟩
   cases e2
   exact ⟨o,e,ex.2.1⟩
  ·obtain ⟨o,_,_,_,e,ex,_⟩:=I.hok p _ hk
   refine ⟨⟨o,e,ex.1⟩,fun a e2=>?_⟩
   cases e2
   exact ⟨o,e,ex.2.1⟩
 | _=>exact False.elim ty
noncomputable def tBM (K:PySem.W.Frag) (T:String) (r:V->List V->Hp->VK->Prop) (to:TE) (t:TA):TE:=fun σ H Q=>to σ H fun x H1=>tyV K T x H1/\t σ H1 fun xs H2=>r x xs H2 Q
variable {o e:Expr}{es:List Expr}{to:TE}{t:TA}{name:Str}{apos cpos:Pos}{T id:String}{r:V->List V->Hp->VK->Prop}
theorem afD (pa:PlainAttrs T) (slot:Slot T name id) (hty:typeOf (.builtin id)=pure (.type "method_descriptor")) (hm:MtR X id r) (ho:PE X o to) (ha:PA X (e::es) t)
  (hbase:attributeBase o name X.env (eval o X.env)=eval o X.env:=by rfl)
  (hfew:((backTo cpos (starEach (e::es) X.env)).all (fun x=>!x.1) && (backToKw cpos (keywordEach [] X.env)).all (fun x=>x.1.isSome)
   && decide ((e::es).length+([]:List Keyword).length+(if ([]:List Keyword).isEmpty then 0 else 1) < 30))=true:=by rfl)
  (hline:(apos.endLine == cpos.line)=true:=by rfl) (hs:starEach (e::es) X.env=(false,eval e X.env)::starEach es X.env:=by rfl) (hplain:(backTo cpos (starEach es X.env)).any (·.1)=false:=by rfl):
  PE X (.Call (.Attribute o name apos) (e::es) [] cpos) (tBM X.K T r to t):=by
 intro pins s σ H Q I h
 refine wpAny_Call_method_late hbase hfew hline rfl (thn (ho pins s σ H _ I h) fun v s1 ⟨x,H1,I1,r1,ty,q1⟩=>?_)
 obtain ⟨h1,h2⟩:=aph I1 r1 ty
 refine ⟨T,id,pa,slot,hty,h1,h2,?_⟩
 have hA:=ha cpos pins s1 σ H1 _ I1 q1
 rw [hs] at hA ⊢
 refine Calls.callWith_builtin (by show (false || (backTo cpos (starEach es X.env)).any (·.1))=false; rw [hplain] <;> rfl) (Calls.evalArgs_plain ?_)
 exact thn hA fun us s2 ⟨vs,H2,I2,r2,q2⟩=>hm pins s2 σ H2 x vs v us Q I2 r1 r2 q2
end
end L2
namespace L2
open PySem PySem.Spec PyProof.Rows
noncomputable def MtM (X:Cx) (id:String) (r:V->List V->Hp->VK->Prop):Prop:=
 ∀ (pins:List (Addr × Obj)) (s:Shared) (σ:St) (H:Hp) (x:V) (xs:List V) (v:Value) (us:List Value) (Q:VK),Inv X pins σ H s->jU x v->jI xs us->r x xs H Q->
  wpAny (model X.prog X.w) X.A (call (.builtin id) (v::us)) (EP X pins σ Q) X.xe s
theorem jI.one:∀ {x:V}{us:List Value},jI [x] us->∃ u,us=[u]/\jU x u
 | _,_,.cons r .nil=>⟨_,rfl,r⟩
theorem jI.two:∀ {x y:V}{us:List Value},jI [x,y] us->∃ u v,us=[u,v]/\jU x u/\jU y v
 | _,_,_,.cons r (.cons q .nil)=>⟨_,_,rfl,r,q⟩
theorem jI.zero:∀ {us:List Value},jI [] us->us=[]
 | _,.nil=>rfl
theorem jI.dropLast {xs:List V}{us:List Value} (h:jI xs us):jI xs.dropLast us.dropLast:=by
 induction h with
 | nil=>exact .nil
 | cons r t ih=>
  cases t with
  | nil=>exact .nil
  | cons q t'=>exact .cons r ih
theorem jI.reverse {xs:List V}{us:List Value} (h:jI xs us):jI xs.reverse us.reverse:=by
 induction h with
 | nil=>exact .nil
 | cons r t ih=>rw [List.reverse_cons,List.reverse_cons]; exact jI.append ih (.cons r .nil)
theorem jI.rep {xs:List V}{us:List Value} (h:jI xs us):∀ k:Nat,jI (List.replicate k xs).flatten (List.replicate k us).flatten
 | 0=> .nil
 | k+1=>by
  rw [List.replicate_succ,List.replicate_succ,List.flatten_cons,List.flatten_cons]
  exact jI.append h (jI.rep h k)
theorem abg (its:List Value):∀ (k:Nat) (acc:List Value),
  List.foldl (fun x1 x2=>x1++x2) acc.toArray (List.replicate k its.toArray)=(acc++(List.replicate k its).flatten).toArray
 | 0,acc=>by simp
 | k+1,acc=>by
  have e:acc.toArray++its.toArray=(acc++its).toArray:=by simp
  have e2:(acc++its)++(List.replicate k its).flatten=acc++(List.replicate (k+1) its).flatten:=by
   rw [List.replicate_succ,List.flatten_cons,List.append_assoc]
  rw [←e2,←abg its k (acc++its),←e,List.replicate_succ,List.foldl_cons]
section
variable {X:Cx}{pins:List (Addr × Obj)}{σ:St}{H:Hp}{s:Shared}{l b:Addr}{xs ys zs:List V}
theorem Inv.lset {its its':List Value}{n:Nat}{f:Array Value->Array Value}{t':Nat} (I:Inv X pins σ H s) (hH:H l=some (.lst xs))
  (e:s.heap.get? l=some { cls:= .type "list",data:= .seq its.toArray n }) (hf:f its.toArray=its'.toArray) (hv:jI ys its') (hz:ys.length<=sizeLine):
  Inv X pins σ (upd H l (.lst ys)) { s with heap:=s.heap.update l (Obj.mapSeq f),toks:=t' }:=by
 have q:=PySem.IsL.update e f
 rw [hf] at q
 refine I.write (x:=l) (e:=l) (by rw [hH]; exact trivial) (.inl rfl) (fun b' u hb hu=>(Heap.get?_update_other s.heap (Obj.mapSeq f) (Ne.symm hb)).trans hu) ⟨_,q⟩ ?_
 exact ⟨hz,its',_,hv,q⟩
theorem Inv.lnew {its:List Value}{t':Nat} (I:Inv X pins σ H s) (hv:jI ys its) (hz:ys.length<=sizeLine):
  Inv X pins σ (upd H s.heap.objs.size (.lst ys)) { s with heap:=s.heap.push { cls:= .type "list",data:= .seq its.toArray },toks:=t' }:=
 I.laid (fun _ _ q=>Heap.get?_push_of_some _ q) (Nat.le_refl _) ⟨hz,its,0,hv,Heap.get?_push_size _ rfl⟩
theorem Inv.fresh (I:Inv X pins σ H s):H s.heap.objs.size=none:=I.hok.fresh (Nat.le_refl _)
theorem Inv.lstM (I:Inv X pins σ H s) (hH:H l=some (.lst xs)):xs.length<=sizeLine/\∃ (its:List Value) (n:Nat),jI xs its/\xs.length=its.length/\s.heap.get? l=some { cls:= .type "list",data:= .seq its.toArray n }:=by
 obtain ⟨z,its,n,r,e⟩:=I.hok l _ hH
 exact ⟨z,its,n,r,r.length,e⟩
theorem afE {n:Nat} (h:n<=sizeLine):Builtin.List.listTooLong n=false:=by
 unfold Builtin.List.listTooLong
 exact decide_eq_false (by omega)
end
section
variable {X:Cx}
noncomputable def am4:V->List V->Hp->VK->Prop:=fun x vs H Q=>∃ l xs y,x= .ref l/\vs=[y]/\H l=some (.lst xs)/\xs.length < sizeLine/\Q .non (upd H l (.lst (xs++[y])))
theorem adF:MtM X "list.append" am4:=by
 intro pins s σ H x vs v us Q I rx rv h
 obtain ⟨l,xs,y,rfl,rfl,hH,hz,q⟩:=h
 cases rx
 obtain ⟨u,rfl,ru⟩:=rv.one
 obtain ⟨z,its,n,r,hl,e⟩:=I.lstM hH
 refine call_meets F.slot_list_append ⟨_,e,rfl⟩ F.entry_list_append (F.args_list_append_2 _ _) (PySem.list_append l its.toArray n u (by rw [List.size_toArray]; omega)) ⟨e,?_⟩
 refine ⟨.non,_,I.lset (its':=its++[u]) hH e (by simp) (r.append (.cons ru .nil)) ?_,rfl,q⟩
 rw [List.length_append,List.length_singleton]
 omega
noncomputable def am5:V->List V->Hp->VK->Prop:=fun x vs H Q=>∃ l b xs zs,x= .ref l/\vs=[.ref b]/\H l=some (.lst xs)/\H b=some (.lst zs)/\xs.length+zs.length<=sizeLine/\Q .non (upd H l (.lst (xs++zs)))
theorem ajd:MtM X "list.extend" am5:=by
 intro pins s σ H x vs v us Q I rx rv h
 obtain ⟨l,b,xs,zs,rfl,rfl,hH,hB,hz,q⟩:=h
 cases rx
 obtain ⟨u,rfl,ru⟩:=rv.one
 cases ru
 obtain ⟨z,its,n,r,hl,e⟩:=I.lstM hH
 obtain ⟨z2,its2,n2,r2,hl2,e2⟩:=I.lstM hB
 have hsz:its.toArray.size+its2.toArray.size<=sizeLine:=by rw [List.size_toArray,List.size_toArray]; omega
 have hlong:¬ (!its.toArray.isEmpty && Builtin.List.listTooLong (its.toArray.size+its2.toArray.size))=true:=by
  rw [afE hsz,Bool.and_false]
  exact Bool.false_ne_true
 refine call_meets F.slot_list_extend ⟨_,e,rfl⟩ F.entry_list_extend (F.args_list_extend_2 _ _)
  (AutoSeq1.list_extend_list_list_0 l its.toArray n b its2.toArray n2 hlong (by rw [List.size_toArray]; omega) (by omega)) ⟨e,e2,?_⟩
 refine ⟨.non,_,I.lset (its':=its++its2) hH e (by simp) (r.append r2) ?_,rfl,q⟩
 rw [List.length_append]
 omega
noncomputable def arw:R2:=fun x y H Q=>∃ l b xs zs,x= .ref l/\y= .ref b/\H l=some (.lst xs)/\H b=some (.lst zs)/\xs.length+zs.length<=sizeLine/\∀ p,H p=none->Q (.ref p) (upd H p (.lst (xs++zs)))
theorem api:OpR X (binaryOp .Add) arw:=by
 intro pins s σ H x y v u Q I rx ry h
 obtain ⟨l,b,xs,zs,rfl,rfl,hH,hB,hz,q⟩:=h
 cases rx
 cases ry
 obtain ⟨z,its,n,r,hl,e⟩:=I.lstM hH
 obtain ⟨z2,its2,n2,r2,hl2,e2⟩:=I.lstM hB
 refine PySem.P.add_list e e2 ?_ (by rw [List.size_toArray,List.size_toArray]; omega)
 have ea:its.toArray++its2.toArray=(its++its2).toArray:=by simp
 rw [ea]
 exact ⟨.ref _,_,I.lnew (t':=s.toks) (r.append r2) (by rw [List.length_append]; omega),rfl,q _ I.fresh⟩
noncomputable def arx:R2:=fun x y H Q=>∃ l k xs,x= .ref l/\y= .int k/\H l=some (.lst xs)/\-(2 ^ 63)<=k/\k < 2 ^ 63/\xs.length*k.toNat<=sizeLine/\
 ∀ p,H p=none->Q (.ref p) (upd H p (.lst (List.replicate k.toNat xs).flatten))
theorem aik {α:Type} (xs:List α) (k:Nat):(List.replicate k xs).flatten.length=k*xs.length:=by
 induction k with
 | zero=>simp
 | succ k ih=>rw [List.replicate_succ,List.flatten_cons,List.length_append,ih,Nat.succ_mul,Nat.add_comm]
theorem akI:OpR X (binaryOp .Mult) arx:=by
 intro pins s σ H x y v u Q I rx ry h
 obtain ⟨l,k,xs,rfl,rfl,hH,h1,h2,hz,q⟩:=h
 cases rx
 obtain ⟨t,rfl⟩:=ry
 obtain ⟨z,its,n,r,hl,e⟩:=I.lstM hH
 have hlen:its.toArray.size*k.toNat<=sizeLine:=by rw [List.size_toArray,←hl]; exact hz
 have hcap:¬ its.toArray.size*k.toNat > (2 ^ 63 - 1) / 8:=by
  have:(sizeLine:Nat)<=(2 ^ 63 - 1) / 8:=by decide
  omega
 have hfit:¬ (!Builtin.List.listFitsIndex k)=true:=by
  rw [fitsIndex_both h1 h2]
  exact Bool.false_ne_true
 have hlong:¬ Builtin.List.listTooLong (its.toArray.size*k.toNat)=true:=by
  rw [afE hlen]
  exact Bool.false_ne_true
 have hnew:List.foldl (fun x1 x2=>x1++x2) #[] (List.replicate (if its.toArray.isEmpty=true then 0 else k.toNat) its.toArray)=(List.replicate k.toNat its).flatten.toArray:=by
  have f0:∀ m:Nat,List.foldl (fun x1 x2=>x1++x2) #[] (List.replicate m its.toArray)=(List.replicate m its).flatten.toArray:=fun m=>by
   have:=abg its m []
   rw [List.nil_append] at this
   exact this
  rw [f0]
  cases its with
  | nil=>simp
  | cons a r'=>rw [if_neg (by simp)]
 refine wpAny_binaryOp_repeat_ref (T:="list") (U:="int") (by decide) ⟨_,e,rfl⟩ (fun s'=>typeIs_int s' k t) noFill_list_mul F.fills_int_mul F.slot_int_rmul repeat_list F.slot_int_index.lookup
  (call_meets F.slot_int_rmul (typeIs_int s k t) F.entry_int_rmul (F.args_int_rmul_2 _ _) (int___rmul___int_list k t l its.toArray n)
   ⟨e,rfl,⟨_,e,rfl⟩,call_meets F.slot_list_mul ⟨_,e,rfl⟩ F.entry_list_mul (F.args_list_mul_2 _ _) (AutoListH.list___mul___list_int_3 l its.toArray n k t hfit hcap hlong) ⟨e,?_⟩⟩)
 rw [hnew]
 exact ⟨.ref _,_,I.lnew (t':=s.toks) (r.rep k.toNat) (by rw [aik,Nat.mul_comm]; exact hz),rfl,q _ I.fresh⟩
end
section
variable {prog:Program}{w:World}{A:Around}{E:Value->Shared->Prop}{s:Shared}
set_option maxRecDepth 100000 in
end
section
variable {X:Cx}
end
end L2
namespace Att
open PySem PySem.W PySem.Calls PyProof.Rows
theorem ab0 {P:Params}{h:Heap}:∀ (ns:List Int) (vs:List Value),WellAll P h vs (ns.map WData.int)->IntsAre vs ns:=by
 intro ns
 induction ns with
 | nil=>
  intro vs w
  rw [List.map_nil] at w
  cases w
  exact .nil
 | cons n ns ih=>
  intro vs w
  rw [List.map_cons] at w
  cases w with
  | cons a b=>
   cases a
   exact .cons _ _ (ih _ b)
theorem aje {l:OpenLaw}{n:Nat} (hn:l.most=some n) {P:Params}{h:Heap}{args:List WData}{vals:List Value}
  (hpre:l.row.toRowW.claim.pre args=true) (hwl:WellAll P h vals args):
  ∃ a vs ns,vals=[Value.ref a]/\args=[WData.list (ns.map WData.int)]/\h.get? a=some { cls:= .type "list",data:= .seq vs.toArray }/\IntsAre vs ns/\ns.length<=n:=by
 have hsh:WShape.hasAll [] args [.list .int]=true:=(pre_splitW hpre).1
 have hc:l.pre.holds [] { args:=args }=true:=(pre_splitW hpre).2
 obtain ⟨d,r,rfl,h1,h2⟩:=hasAllW_cons hsh
 obtain rfl:=hasAllW_nil h2
 obtain ⟨xs,rfl,h3⟩:=hasW_list h1
 obtain ⟨ns,rfl⟩:=items_int h3
 have hlen:ns.length<=n:=by
  unfold OpenLaw.pre at hc
  have h4:(WTm.not (.lt (.lit (.int (n:Int))) (.len (.arg 0)))).holds [] { args:=[.list (ns.map .int)] }=true:=by
   have h4:=(holds_andW hc).1
   rw [hn] at h4
   exact h4
  have h5:=condW_of h4 (w_not (w_lt w_lit (w_len_list (w_arg rfl))))
  rw [List.length_map] at h5
  refine Nat.le_of_not_lt fun q=>?_
  have q':(n:Int) < ((ns.length:Nat):Int):=by omega
  first
   | (rw [decide_eq_true q'] at h5; exact absurd h5 (by decide))
   | (simp at h5; omega)
 cases hwl with
 | cons w1 w2=>
  cases w2
  cases w1 with
  | list ho hall=>exact ⟨_,_,ns,rfl,rfl,ho,ab0 ns _ hall,hlen⟩
theorem ajf (l:OpenLaw) (args:List WData):l.row.toRowW.claim.post args (.bool true) args=true:=
 postW_of (r:=l.row.toRowW) (X:=(true == true))
  (show WShape.has [] (.bool true) .bool=true by first | rfl | decide | simp [WShape.has,WShape.arms,WShape.armsAll])
  (show (WTm.eq .res (.lit (.bool true))).value [] { args:=args,res:=some (.bool true),after:=args }=some (.bool (true == true)) from w_eq_bool (w_res rfl) w_lit) rfl
theorem attach_call {l:OpenLaw}{n:Nat}{q:Program}{loose:List Str}{XP:(Str->Option Value)->Heap->Prop}{YP:World->Heap->Prop}{d:DefRec}
  (hn:l.most=some n) (hdf:d.params.defaults=[])
  (call:∀ (w:World) (s₀ s₁:Shared) (mg mb:Str->Option Value) (fa:Addr) (o:Obj) (pm cd doc:Value) (a:Addr) (vs:List Value) (ns:List Int),
   Ground q loose [] XP w s₀ mg mb s₁.heap->YP w s₁.heap->
   s₁.heap.get? fa=some o->o.data= .func (docDef d.name d.params d.body d.scope pm cd doc)->s₁.heap.CodeRec cd d.name->mg d.name=some (.ref fa)->
   s₁.heap.get? a=some { cls:= .type "list",data:= .seq vs.toArray }->IntsAre vs ns->ns.length<=n->s₁.gens=#[]->
   codeAny (model l.prog w) callerA (.call (.ref fa) ⟨[.ref a],[]⟩) (fun r s'=>r= .ok (.ret (.bool true))/\OldK s₁.heap s'.heap/\s'.os=s₁.os/\AllBare s'.gens) s₁):
  WalkO q loose XP YP l.row.toRowW d [] (fun f vs=>PySem.call f vs):=by
 intro w s₀ s₁ mg mb G Y fa o pm cd doc dV kV ho hd hcd hD hmg hg args vals as hpre hlay hrd hwl hlo
 obtain rfl:dV= .none:=Dflts.none hD hdf
 obtain rfl:kV= .none:=Dflts.noKw hD
 obtain ⟨a,vs,ns,rfl,rfl,hobj,hints,hlen⟩:=aje hn hpre hwl
 refine enter_call (codeAny_mono (call w s₀ s₁ mg mb fa o pm cd doc a vs ns G Y ho (fd_plain hd) hcd hmg hobj hints hlen hg) fun r s' hq=>?_)
 obtain ⟨rfl,h2,h3,h4⟩:=hq
 exact ⟨.inl ⟨.bool true,.bool true,[],rfl,fun _=>rfl,.bool true,ajf l _,fun _=>⟨List.Pairwise.nil,fun _ hm=>(nomatch hm)⟩⟩,h2,h3,h4⟩
section
variable {prog:Program}{w:World}{A:Around}{E:Value->Shared->Prop}{s:Shared}{K:Frag}
noncomputable def ary (h:Heap) (L d:Addr):List (Addr × Obj):=(List.range h.objs.size).filterMap fun a=>if a=L ∨ a=d then none else (h.get? a).map fun o=>(a,o)
end
end Att
namespace L2
open PySem PySem.Spec PyProof.Rows
theorem ZG:∀ {vs:List Value}{ns:List Int},IntsAre vs ns->jI (ns.map V.int) vs
 | _,_,.nil=> .nil
 | _,_,.cons n t h=> .cons ⟨t,rfl⟩ (ZG h)
noncomputable def apj (H:Hp):Prop:=∀ b,H b=none ∨ ∃ o xs,H b=some (.frz o (.lst xs))
theorem akJ {P:Program}{w:World}{K:PySem.W.Frag}{mg mb:Str->Option Value}{CX:CXT}{k:Nat}{fa a:Addr}{fd:FuncData}{x:Str}{sp:Sp}{s₁:Shared}{vs:List Value}{ns:List Int}
  (KX:K.In s₁.heap) (hns:s₁.heap.Ns mainGlobals mg) (hb:s₁.heap.Ns builtinsNs mb) (hbb:∀ x:Str,x ≠ "__name__"->mb x=bootBuiltins x) (hlim:s₁.heap.NoLimit) (hg:s₁.gens=#[])
  (ha:s₁.heap.get? a=some { cls:= .type "list",data:= .seq vs.toArray }) (hi:IntsAre vs ns) (hl:ns.length<=sizeLine) (hr:Room k callerA)
  (F:∀ base:Heap,K.In base->base.Ns mainGlobals mg->FnOk P w K mg base CX k fa fd [x] sp) (hbind:∀ (s:Shared) (u:Value),BindsTo s fd ⟨[u],[]⟩ [(x,u)])
  (hsp:∀ H:Hp,apj H->SqL K H a (ns.map V.int)->sp [.ref a] H (fun v _=>v= .bl true) fun _ _ _=>False)
  (hCX:∀ H e s',CX [] H s₁ (fun _ _ _=>False) e s'->False):
  codeAny (model P w) callerA (.call (.ref fa) ⟨[.ref a],[]⟩) (fun r s'=>r= .ok (.ret (.bool true))/\OldK s₁.heap s'.heap/\s'.os=s₁.os/\AllBare s'.gens) s₁:=by
 have rv:=ZG hi
 have lenV:=hi.length
 have core:∀ H:Hp,apj H->SqL K H a (ns.map V.int)->HOk P w H s₁.heap->(∀ b,H b ≠ none->b=a)->(H a ≠ none->K.lookup a=none)->
   codeAny (model P w) callerA (.call (.ref fa) ⟨[.ref a],[]⟩) (fun r s'=>r= .ok (.ret (.bool true))/\OldK s₁.heap s'.heap/\s'.os=s₁.os/\AllBare s'.gens) s₁:=by
  intro H hO hS hok hA hK
  have base_of:∀ {b:Addr} {o:Obj},s₁.heap.get? b=some o->H b=none->(aet s₁.heap H).get? b=some o:=fun e n=>akm e n
  have noA:∀ {b:Addr} {o:Obj} {es:Array DictEntry} {ep:Nat},s₁.heap.get? b=some o->o.data= .dict es ep->H b=none:=fun {b o es ep} e d=>by
   cases q:H b with
   | none=>rfl
   | some u=>
    have e':b=a:=hA b (by rw [q]; simp)
    subst e'
    rw [ha] at e; cases e
    have d':Data.seq vs.toArray _=Data.dict es ep:=d
    cases d'
  have nsK:∀ {b:Addr} {m:Str->Option Value},s₁.heap.Ns b m->(aet s₁.heap H).Ns b m:=fun {b m} ⟨o,es,ep,e,d,r⟩=>⟨o,es,ep,base_of e (noA e d),d,r⟩
  have hKb:K.In (aet s₁.heap H):=fun b o e=>base_of (KX b o e) (by
   cases q:H b with
   | none=>rfl
   | some u=>
    have e':b=a:=hA b (by rw [q]; simp)
    subst e'
    rw [hK (by rw [q]; simp)] at e; cases e)
  have hM:Mod K mg (aet s₁.heap H):=⟨hKb,nsK hns,⟨mb,nsK hb,hbb⟩,let ⟨mc,h1,h2⟩:=hlim; ⟨mc,nsK h1,h2⟩⟩
  have e0:Env0 P w K mg (aet s₁.heap H) callerA [] s₁ H:=⟨rfl,hM,fun b o e=>amR e,Nat.le_of_eq (ai6 _ _),trivial,fun b hb=>absurd (show b ∈ ([]:List Addr) from hb) (by simp),hok,.of_eq hg⟩
  refine codeAny_mono ((F _ hKb (nsK hns)).run callerA [] s₁ H ⟨[.ref a],[]⟩ [.ref a] [.ref a] _ _ hr e0 (hbind s₁ (.ref a)) (.cons rfl .nil) (hsp H hO hS)) fun r s' h=>?_
  cases r with
  | error e=>exact (hCX H e s' h).elim
  | ok fl=>
   cases fl with
   | next=>exact False.elim h
   | brk=>exact False.elim h
   | cont=>exact False.elim h
   | ret u=>
    obtain ⟨v,H',os,bare,un,hok',r',q⟩:=h
    have q':v= .bl true:=q
    subst q'
    obtain rfl:u=Value.bool true:=r'
    refine ⟨rfl,OldK.of_keep fun b o e=>?_,os,bare⟩
    cases q:H b with
    | none=>exact un.keep b o e q (by intro z; exact absurd (show b ∈ ([]:List Addr) from z) (by simp)) (by simp)
    | some u=>
     rcases hO b with z | ⟨ob,xs,z⟩
     ·rw [q] at z; cases z
     ·have z2:=un.frzs b ob _ z
      obtain ⟨e1,_⟩:=hok b _ z
      obtain ⟨e2,_⟩:=hok' b _ z2
      rw [e] at e1; cases e1
      exact e2
 cases hk:K.lookup a with
 | some o=>
  have e:=KX a o hk
  rw [ha] at e
  cases e
  refine core (fun _=>none) (fun _=> .inl rfl) (.inr ⟨_,vs.toArray,_,hk,rfl,rfl,rfl,by rw [List.size_toArray,lenV]; exact hl,by simpa using rv⟩) (fun b u z=>by have z':(none:Option HO)=some u:=z; cases z') (fun b z=>absurd rfl z) fun z=>absurd rfl z
 | none=>
  refine core (fun b=>if b=a then some (.frz { cls:= .type "list",data:= .seq vs.toArray } (.lst (ns.map V.int))) else none) (fun b=>?_) (.inl (.inr ⟨{ cls:= .type "list",data:= .seq vs.toArray },if_pos rfl⟩)) (fun b u z=>?_) (fun b z=>?_) fun _=>hk
  ·by_cases hb:b=a
   ·exact .inr ⟨_,_,if_pos hb⟩
   ·exact .inl (if_neg hb)
  ·by_cases hb:b=a
   ·have z':=(if_pos hb).symm.trans z
    cases z'
    subst hb
    exact ⟨ha,by rw [List.length_map]; exact hl,vs,_,rv,ha⟩
   ·have z':=(if_neg hb).symm.trans z
    cases z'
  ·by_cases hb:b=a
   ·exact hb
   ·exact absurd (if_neg hb) z
end L2
namespace L2
open PySem PySem.Spec PyProof.Rows
theorem am6 {l:PySem.W.OpenLaw}{n k:Nat}{q:Program}{loose:List Str}{XP:(Str->Option Value)->Heap->Prop}{YP:World->Heap->Prop}{d:DefRec}{K:Params->PySem.W.Frag}{CX:World->CXT}{sp:World->Sp}{x:Str}
  (hn:l.most=some n) (hn2:n<=sizeLine) (hdf:d.params.defaults=[]) (hr:Room k callerA)
  (hY:∀ (w:World) (h:Heap),YP w h->(K w.params).In h)
  (F:∀ (w:World) (mg:Str->Option Value) (fa:Addr) (h:Heap),(K w.params).In h->h.Ns mainGlobals mg->mg d.name=some (.ref fa)->
   ∃ fd:FuncData,(∀ (s:Shared) (u:Value),BindsTo s fd ⟨[u],[]⟩ [(x,u)])/\
    ∀ base:Heap,(K w.params).In base->base.Ns mainGlobals mg->FnOk l.prog w (K w.params) mg base (CX w) k fa fd [x] (sp w))
  (hsp:∀ (w:World) (H:Hp) (a:Addr) (ns:List Int),ns.length<=n->apj H->SqL (K w.params) H a (ns.map V.int)->sp w [.ref a] H (fun v _=>v= .bl true) fun _ _ _=>False)
  (hCX:∀ (w:World) (H:Hp) (s:Shared) (e:Value) (s':Shared),CX w [] H s (fun _ _ _=>False) e s'->False):
  PySem.W.WalkO q loose XP YP l.row.toRowW d [] (fun f vs=>PySem.call f vs):=by
 refine Att.attach_call hn hdf fun w s₀ s₁ mg mb fa o pm cd doc a vs ns G Y ho hd hcd hmg hobj hints hlen hg=>?_
 have KX:=hY w _ Y
 obtain ⟨fd,hb,hF⟩:=F w mg fa _ KX G.T.g hmg
 exact akJ KX G.T.g G.T.b G.T.builtins G.T.nolimit hg hobj hints (Nat.le_trans hlen hn2) hr hF hb (fun H hO hS=>hsp w H a ns hlen hO hS) fun H e s'=>hCX w H s₁ e s'
end L2
namespace L2
open PySem PySem.Spec PyProof.Rows
noncomputable def QD (s:Stmt):Arguments:=match s with
 | .FunctionDef _ a _ _ _ _ _ _ _ _=>a
 | _=>{ posonlyargs:=[],args:=[],vararg:=none,kwonlyargs:=[],kw_defaults:=[],kwarg:=none,defaults:=[] }
noncomputable def jK (s:Stmt):List Stmt:=match s with
 | .FunctionDef _ _ b _ _ _ _ _ _ _=>b
 | _=>[]
noncomputable def jg (s:Stmt):Scope:=match s with
 | .FunctionDef _ _ _ _ _ _ sc _ _ _=>sc
 | _=>{ kind:= .function,names:=[],isGenerator:=false,isCoroutine:=false }
noncomputable abbrev CX0:CXT:=fun _ _ _ _ _ _=>False
noncomputable abbrev E0:XK:=fun _ _ _=>False
theorem akK {X:Cx}:ahf CX0 X E0:=fun _ _ _ _ _ _ _ h=>h.elim
structure Fun (K:PySem.W.Frag) (x qual:Str) (st:Stmt) (f:Addr) (fd:FuncData):Prop where
 ex:∃ (oc:Value) (od:Option Addr) (kV doc pm:Value) (an:Option Addr) (cdv ct:Value) (osl:Array (Option Value)),
  fd=PySem.W.fnOf x qual (QD st) (jK st) (jg st) .none kV doc pm an cdv ct/\K.lookup f=some ⟨oc,od,.func fd,osl⟩/\PySem.W.codeIn K cdv qual=true
 kp:PySem.W.keepIn K (.ref f)=true
section
variable {P:Program}{w:World}{K:PySem.W.Frag}{mg:Str->Option Value}{base:Heap}
theorem Fun.ok {x qual:Str}{st:Stmt}{f:Addr}{fd:FuncData}{N ps:List Str}{k:Nat}{sp:Sp} (F:Fun K x qual st f fd) (S:FnScope N ps (jg st)) (len:∀ vs H Q E,sp vs H Q E->vs.length=ps.length)
  (hbody:∀ (cdv:Value) (A:Around) (outer:List Env) (s:Shared) (H:Hp) (vs:List V) (Q:VK) (E:XK),Room k (A.deeper (envOfC qual (jg st) s.heap.objs.size f cdv))->sp vs H Q E->
   ∃ t,PSs (JF CX0 P w K mg base N qual (jg st) f cdv A outer s H E).nox (jK st) t/\t { nx:=fun _ H'=>Q .non H',rt:=Q } (zQ N vs) H):FnOk P w K mg base CX0 (k+1) f fd ps sp:=by
 obtain ⟨oc,od,kV,doc,pm,an,cdv,ct,osl,rfl,lk,hcd⟩:=F.ex
 refine aqu lk hcd S len fun A outer s H vs Q E hr hsp=>?_
 obtain ⟨t,h,q⟩:=hbody cdv A outer s H vs Q E hr hsp
 exact ⟨t,h.nox,q⟩
theorem Fun.binds {x qual:Str}{st:Stmt}{f:Addr}{fd:FuncData}{ps:List Str} (F:Fun K x qual st f fd)
  (h:∀ (kV doc pm:Value) (an:Option Addr) (cdv ct:Value) (us:List Value),us.length=ps.length->bindArgs (PySem.W.fnOf x qual (QD st) (jK st) (jg st) .none kV doc pm an cdv ct) ⟨us,[]⟩=pure (ps.zip us)):aax K fd ps []:=by
 obtain ⟨oc,od,kV,doc,pm,an,cdv,ct,osl,rfl,lk,hcd⟩:=F.ex
 exact .all (h kV doc pm an cdv ct)
theorem aeB {x qual:Str}{st:Stmt}{f:Addr}{oc:Value}{od an:Option Addr}{osl:Array (Option Value)}{kV doc pm cdv ct:Value} (l:K.lookup f=some ⟨oc,od,.func (PySem.W.fnOf x qual (QD st) (jK st) (jg st) .none kV doc pm an cdv ct),osl⟩)
  (c:PySem.W.codeIn K cdv qual=true) (k:PySem.W.keepIn K (.ref f)=true):Fun K x qual st f (PySem.W.fnOf x qual (QD st) (jK st) (jg st) .none kV doc pm an cdv ct):=⟨⟨oc,od,kV,doc,pm,an,cdv,ct,osl,rfl,l,c⟩,k⟩
end
section
variable {X:Cx}
theorem pv (i:Nat) {x:Str}{pos:Pos} (hN:X.N[i]?=some x:=by rfl) (hv:Vis X.env.scope x:=by first | exact Or.inl rfl | exact Or.inr (Or.inl rfl) | exact Or.inr (Or.inr rfl)) (hd:(x == ("__debug__":Str))=false:=by decide)
  (hcd:(x == ("__classdict__":Str))=false:=by decide):PE X (.Name x pos) (aqf i):=abc hN hv hd hcd
end
theorem aqA {A B:Prop} (h:B):if false=true then A else B:=by
 rw [if_neg Bool.false_ne_true]
 exact h
theorem aqB {A B:Prop} (h:A):if true=true then A else B:=by
 rw [if_pos rfl]
 exact h
noncomputable def jt (H H':Hp):Prop:=∀ b o,H b=some o->H' b=some o
theorem jt.refl (H:Hp):jt H H:=fun _ _ h=>h
theorem jt.trans {H H1 H2:Hp} (a:jt H H1) (b:jt H1 H2):jt H H2:=fun c o h=>b c o (a c o h)
theorem jt.free {H H':Hp} (e:jt H H') {l:Addr} (h:H' l=Option.none):H l=Option.none:=by
 cases q:H l with
 | none=>rfl
 | some o=>
  rw [e l o q] at h
  cases h
theorem jt.seq {K:PySem.W.Frag}{H H':Hp}{a:Addr}{xs:List V} (e:jt H H') (h:SqL K H a xs):SqL K H' a xs:=by
 rcases h with (h | ⟨o,h⟩) | h
 ·exact .inl (.inl (e _ _ h))
 ·exact .inl (.inr ⟨o,e _ _ h⟩)
 ·exact .inr h
section
variable {κ:Type} [DecidableEq κ]
noncomputable def QE (kvs:List (κ × V)) (k:κ):Option V:=(kvs.find? fun kv=>decide (kv.1=k)).map (·.2)
noncomputable def Ql (kvs:List (κ × V)) (k:κ) (v:V):List (κ × V):=
 if (kvs.any fun kv=>decide (kv.1=k))=true then kvs.map (fun kv=>if kv.1=k then (kv.1,v) else kv) else kvs++[(k,v)]
noncomputable def aoC (kvs:List (κ × V)) (k:κ):List (κ × V):=kvs.filter fun kv=>decide (kv.1 ≠ k)
theorem acv {p:κ × V}{r:List (κ × V)}{k:κ} (e:p.1=k):QE (p::r) k=some p.2:=by simp [QE,List.find?_cons,e]
theorem acw {p:κ × V}{r:List (κ × V)}{k:κ} (e:¬ p.1=k):QE (p::r) k=QE r k:=by simp [QE,List.find?_cons,e]
theorem afF (k:κ):∀ kvs:List (κ × V),(kvs.any fun kv=>decide (kv.1=k))=(QE kvs k).isSome
 | []=>rfl
 | p::r=>by
  rw [List.any_cons]
  by_cases e:p.1=k
  ·simp only [acv e,decide_eq_true e,Bool.true_or,Option.isSome_some]
  ·rw [acw e,decide_eq_false e,Bool.false_or]; exact afF k r
theorem Za (kvs:List (κ × V)) (k:κ) (v:V):(Ql kvs k v).length<=kvs.length+1:=by
 unfold Ql
 split
 ·rw [List.length_map]; omega
 ·rw [List.length_append,List.length_cons,List.length_nil]; omega
theorem abY.isSome_eq {o:Option V}{u:Option Value} (r:abY o u):o.isSome=u.isSome:=by
 cases o with
 | none=>cases u with
  | none=>rfl
  | some _=>exact (show False from r).elim
 | some _=>cases u with
  | none=>exact (show False from r).elim
  | some _=>rfl
theorem abY.getD {o:Option V}{u:Option Value}{d:V}{d':Value} (r:abY o u) (rd:jU d d'):jU (o.getD d) (u.getD d'):=by
 cases o with
 | none=>cases u with
  | none=>exact rd
  | some _=>exact (show False from r).elim
 | some _=>cases u with
  | none=>exact (show False from r).elim
  | some _=>exact r
theorem KV.val {kvs:List (κ × V)}{vs:List (κ × Value)} (r:KV kvs vs) (k:κ):abY (QE kvs k) (valueAt vs k):=by
 unfold KV at r
 induction r with
 | nil=>exact True.intro
 | @cons p q ps qs h t ih=>
  obtain ⟨h1,h2⟩:=h
  by_cases e:p.1=k
  ·have e':q.1=k:=h1.symm.trans e
   have b:valueAt (q::qs) k=some q.2:=by simp [valueAt,List.find?_cons,e']
   rw [acv e,b]; exact h2
  ·have e':¬ q.1=k:=fun z=>e (h1.trans z)
   have b:valueAt (q::qs) k=valueAt qs k:=by simp [valueAt,List.find?_cons,e']
   rw [acw e,b]; exact ih
theorem KV.any {kvs:List (κ × V)}{vs:List (κ × Value)} (r:KV kvs vs) (k:κ):(kvs.any fun kv=>decide (kv.1=k))=vs.any fun kv=>decide (kv.1=k):=by
 unfold KV at r
 induction r with
 | nil=>rfl
 | cons h t ih=>rw [List.any_cons,List.any_cons,ih,h.1]
theorem KV.repl {kvs:List (κ × V)}{vs:List (κ × Value)} (r:KV kvs vs) (k:κ) {y:V}{u:Value} (ry:jU y u):
  KV (kvs.map fun kv=>if kv.1=k then (kv.1,y) else kv) (vs.map fun kv=>if kv.1=k then (kv.1,u) else kv):=by
 unfold KV at r ⊢
 induction r with
 | nil=>exact .nil
 | @cons p q ps qs h t ih=>
  rw [List.map_cons,List.map_cons]
  refine .cons ?_ ih
  obtain ⟨h1,h2⟩:=h
  by_cases e:p.1=k
  ·rw [if_pos e,if_pos (h1.symm.trans e)]; exact ⟨h1,ry⟩
  ·rw [if_neg e,if_neg (fun z=>e (h1.trans z))]; exact ⟨h1,h2⟩
theorem KV.put {kvs:List (κ × V)}{vs:List (κ × Value)} (r:KV kvs vs) (k:κ) {y:V}{u:Value} (ry:jU y u):KV (Ql kvs k y) (stored vs k u):=by
 unfold Ql stored
 rw [r.any k]
 by_cases e:(vs.any fun kv=>decide (kv.1=k))=true
 ·rw [if_pos e,if_pos e]; exact r.repl k ry
 ·rw [if_neg e,if_neg e]; exact Paired.snoc r ⟨rfl,ry⟩
theorem KV.drop {kvs:List (κ × V)}{vs:List (κ × Value)} (r:KV kvs vs) (k:κ):KV (aoC kvs k) (without vs k):=by
 unfold KV at r ⊢
 unfold aoC without
 induction r with
 | nil=>exact .nil
 | @cons p q ps qs h t ih=>
  obtain ⟨h1,h2⟩:=h
  rw [List.filter_cons,List.filter_cons]
  by_cases e:p.1=k
  ·have a:¬ decide (p.1 ≠ k)=true:=by simp [e]
   have b:¬ decide (q.1 ≠ k)=true:=by simp [h1.symm.trans e]
   rw [if_neg a,if_neg b]; exact ih
  ·have e':¬ q.1=k:=fun z=>e (h1.trans z)
   have a:decide (p.1 ≠ k)=true:=by simp [e]
   have b:decide (q.1 ≠ k)=true:=by simp [e']
   rw [if_pos a,if_pos b]; exact .cons ⟨h1,h2⟩ ih
theorem KV.keys {kvs:List (κ × V)}{vs:List (κ × Value)} (r:KV kvs vs):kvs.map (·.1)=vs.map (·.1):=by
 unfold KV at r
 induction r with
 | nil=>rfl
 | cons h t ih=>rw [List.map_cons,List.map_cons,ih,h.1]
theorem KV.length {kvs:List (κ × V)}{vs:List (κ × Value)} (r:KV kvs vs):kvs.length=vs.length:=Paired.length r
end
theorem adG {P:Program}{w:World}{k:Key}{u:Value} (r:jU (kV k) u):(qe P w).is k u=true:=by
 cases k with
 | inl i=>obtain ⟨t,e⟩:=(show ∃ t,u=Value.int i t from r); subst e; exact aft P w i t
 | inr x=>obtain ⟨t,e⟩:=(show ∃ t,u=Value.str x t from r); subst e; exact afu P w x t
theorem adH {P:Program}{w:World}:∀ {ks:List Key}{us:List Value},jI (ks.map kV) us->ItemsAre (qe P w) ks us
 | [],_,r=>by rw [List.map_nil] at r; cases r; exact .nil
 | k::ks,_,r=>by
  rw [List.map_cons] at r
  cases r with
  | cons h t=>exact .cons (adG h) (adH t)
noncomputable abbrev KT (H:Hp):List (List Key × V)->List (List Key × Addr × Value)->Prop:=Paired fun p q=>p.1=q.1/\H q.2.1=some (.tup (p.1.map kV))/\jU p.2 q.2.2
theorem KT.val {H:Hp}{kvs:List (List Key × V)}{xs:List (List Key × Addr × Value)} (r:KT H kvs xs) (k:List Key):abY (QE kvs k) ((atKey xs k).map (·.2)):=by
 induction r with
 | nil=>exact True.intro
 | @cons p q ps qs h t ih=>
  obtain ⟨h1,_,h2⟩:=h
  by_cases e:p.1=k
  ·have e':q.1=k:=h1.symm.trans e
   have b:atKey (q::qs) k=some q.2:=by simp [atKey,List.find?_cons,e']
   rw [acv e,b]; exact h2
  ·have e':¬ q.1=k:=fun z=>e (h1.trans z)
   have b:atKey (q::qs) k=atKey qs k:=by simp [atKey,List.find?_cons,e']
   rw [acw e,b]; exact ih
theorem KT.repl {H:Hp}{kvs:List (List Key × V)}{xs:List (List Key × Addr × Value)} (r:KT H kvs xs) (k:List Key) {y:V}{u:Value} (ry:jU y u):
  KT H (kvs.map fun kv=>if kv.1=k then (kv.1,y) else kv) (xs.map (putAt k u)):=by
 induction r with
 | nil=>exact .nil
 | @cons p q ps qs h t ih=>
  rw [List.map_cons,List.map_cons]
  refine .cons ?_ ih
  obtain ⟨h1,h2,h3⟩:=h
  unfold putAt
  by_cases e:p.1=k
  ·rw [if_pos e,if_pos (h1.symm.trans e)]; exact ⟨h1,h2,ry⟩
  ·rw [if_neg e,if_neg (fun z=>e (h1.trans z))]; exact ⟨h1,h2,h3⟩
theorem KT.put {H:Hp}{kvs:List (List Key × V)}{xs:List (List Key × Addr × Value)} (r:KT H kvs xs) (k:List Key) {b:Addr}{y:V}{u:Value} (hb:H b=some (.tup (k.map kV))) (ry:jU y u):
  KT H (Ql kvs k y) (storedH xs k b u):=by
 have e:(kvs.any fun kv=>decide (kv.1=k))=(atKey xs k).isSome:=by
  rw [afF,(r.val k).isSome_eq,Option.isSome_map]
 unfold Ql storedH
 rw [e]
 by_cases q:(atKey xs k).isSome=true
 ·rw [if_pos q,if_pos q]; exact r.repl k ry
 ·rw [if_neg q,if_neg q]; exact Paired.snoc r ⟨rfl,hb,ry⟩
theorem KT.keeps {H H':Hp}{kvs:List (List Key × V)}{xs:List (List Key × Addr × Value)} (r:KT H kvs xs) (ht:∀ b ys,H b=some (.tup ys)->H' b=some (.tup ys)):KT H' kvs xs:=
 Paired.mapP r fun _ _ z=>⟨z.1,ht _ _ z.2.1,z.2.2⟩
section
variable {P:Program}{w:World}{H:Hp}{h:Heap}{a:Addr}
theorem aoD {u:HO} (ok:HOk P w H h) (e:Rd H a u):qK P w H h a u:=e.ok ok
theorem acx {kvs:List (Key × V)} (ok:HOk P w H h) (e:Rd H a (.dK kvs)):kvs.length<=sizeLine/\(a == sysModules)=false/\∃ vs,KV kvs vs/\h.DictOf (qe P w) a vs:=
 show qK P w H h a (.dK kvs) from aoD ok e
theorem aoE {kvs:List (Key × V)} (ok:HOk P w H h) (e:H a=some (.dK kvs)):kvs.length<=sizeLine/\(a == sysModules)=false/\∃ vs,KV kvs vs/\h.DictOf (qe P w) a vs:=acx ok (.inl e)
theorem acy {ks:List Key} (ok:HOk P w H h) (e:H a=some (.tup (ks.map kV))):(tupleKind (qe P w)).is h ks a:=by
 obtain ⟨_,its,r,o,h1,h2,n,h3⟩:=(show qK P w H h a (.tup (ks.map kV)) from ok a _ e)
 exact ⟨o,its.toArray,n,h1,h2,h3,by simpa using adH r⟩
theorem adI {kvs:List (List Key × V)} (ok:HOk P w H h) (e:Rd H a (.dT kvs)):kvs.length<=sizeLine/\(a == sysModules)=false/\
  ∃ xs,KT H kvs xs/\h.DictOfH (tupleKind (qe P w)) a xs:=by
 obtain ⟨z,y,xs,r,o,es,ep,h1,h2,h3,h4,h5⟩:=(show qK P w H h a (.dT kvs) from aoD ok e)
 refine ⟨z,y,xs,r,o,es,ep,h1,h2,h3,h4,fun x hx=>?_,h5⟩
 have all:∀ {l:List (List Key × V)} {m:List (List Key × Addr × Value)},KT H l m->∀ x ∈ m,(tupleKind (qe P w)).is h x.1 x.2.1:=by
  intro l m q
  induction q with
  | nil=>intro x hx; exact nomatch hx
  | @cons p q ps qs hq t ih=>
   intro x hx
   rcases List.mem_cons.mp hx with e | hx
   ·subst e
    exact acy ok (by rw [←hq.1]; exact hq.2.1)
   ·exact ih x hx
 exact all r x hx
theorem aqC {kvs:List (List Key × V)} (ok:HOk P w H h) (e:H a=some (.dT kvs)):kvs.length<=sizeLine/\(a == sysModules)=false/\
  ∃ xs,KT H kvs xs/\h.DictOfH (tupleKind (qe P w)) a xs:=adI ok (.inl e)
end
noncomputable def ab1 (H:Hp) (a:Addr) (y:V) (r:Option V):Prop:=
 (∃ kvs k,Rd H a (.dK kvs)/\y=kV k/\r=QE kvs k) ∨ ∃ kvs k b,Rd H a (.dT kvs)/\y= .ref b/\H b=some (.tup (k.map kV))/\r=QE kvs k
noncomputable def ajg (H:Hp) (a:Addr) (y v:V) (H':Hp):Prop:=
 (∃ kvs k,H a=some (.dK kvs)/\y=kV k/\kvs.length < sizeLine/\H'=upd H a (.dK (Ql kvs k v))) ∨
 ∃ kvs k b,H a=some (.dT kvs)/\y= .ref b/\H b=some (.tup (k.map kV))/\kvs.length < sizeLine/\H'=upd H a (.dT (Ql kvs k v))
theorem ab1.k {H:Hp}{a:Addr}{kvs:List (Key × V)}{k:Key} (e:H a=some (.dK kvs)):ab1 H a (kV k) (QE kvs k):= .inl ⟨kvs,k,.inl e,rfl,rfl⟩
theorem ab1.t {H:Hp}{a b:Addr}{kvs:List (List Key × V)}{k:List Key} (e:H a=some (.dT kvs)) (eb:H b=some (.tup (k.map kV))):ab1 H a (.ref b) (QE kvs k):= .inr ⟨kvs,k,b,.inl e,rfl,eb,rfl⟩
theorem ajg.k {H:Hp}{a:Addr}{kvs:List (Key × V)}{k:Key}{v:V} (e:H a=some (.dK kvs)) (hl:kvs.length < sizeLine):ajg H a (kV k) v (upd H a (.dK (Ql kvs k v))):= .inl ⟨kvs,k,e,rfl,hl,rfl⟩
theorem ajg.t {H:Hp}{a b:Addr}{kvs:List (List Key × V)}{k:List Key}{v:V} (e:H a=some (.dT kvs)) (eb:H b=some (.tup (k.map kV))) (hl:kvs.length < sizeLine):
  ajg H a (.ref b) v (upd H a (.dT (Ql kvs k v))):= .inr ⟨kvs,k,b,e,rfl,eb,hl,rfl⟩
section
variable {X:Cx}{pins:List (Addr × Obj)}{σ:St}{H:Hp}{s:Shared}{a:Addr}{y v:V}{u r:Value}{o:Option V}{A:Around}{E:Value->Shared->Prop}
theorem Inv.big (I:Inv X pins σ H s):sysModules < s.heap.objs.size:=by
 have h:mainGlobals < s.heap.objs.size:=(I.mod.glob.keeps I.bk).lt
 exact Nat.lt_trans (by decide) h
theorem ajh {Q:Value->Shared->Prop} (hu:A.units+1 < cLine) (I:Inv X pins σ H s) (g:ab1 H a y (some v)) (ry:jU y u) (h:∀ w' s',Inv X pins σ H s'->jU v w'->Q w' s'):
  wpAny (model X.prog X.w) A (getItem (.ref a) u) Q E s:=by
 rcases g with ⟨kvs,k,e,ey,l⟩ | ⟨kvs,k,b,e,ey,eb,l⟩
 ·subst ey
  obtain ⟨z,hd,vs,rel,dd⟩:=acx I.hok e
  obtain ⟨w',hw,rw'⟩:=abY.some_of (v:=v) (o:=valueAt vs k) (by rw [l]; exact rel.val k)
  exact wpAny_getItem_of (adG ry) dd.mapOf hw (h w' _ (I.tok _) rw')
 ·subst ey
  cases (show u=Value.ref b from ry)
  obtain ⟨z,hd,xs,rel,dd⟩:=adI I.hok e
  obtain ⟨w',hw,rw'⟩:=abY.some_of (v:=v) (o:=(atKey xs k).map (·.2)) (by rw [l]; exact rel.val k)
  obtain ⟨p,hp,hp2⟩:=Option.map_eq_some_iff.mp hw
  refine wpAny_getItem_heap (tupleKind_room_in1 hu) (acy I.hok eb) dd hp ?_
  rw [hp2]
  exact h w' _ (I.tok _) rw'
theorem am7 {Q:Value->Shared->Prop} (hu:A.units+1 < cLine) (I:Inv X pins σ H s) (g:ab1 H a y o) (ry:jU y u) (h:∀ s',Inv X pins σ H s'->Q (.bool (!o.isSome)) s'):
  wpAny (model X.prog X.w) A (compareOp .NotIn u (.ref a)) Q E s:=by
 rcases g with ⟨kvs,k,e,ey,l⟩ | ⟨kvs,k,b,e,ey,eb,l⟩
 ·subst ey
  obtain ⟨z,hd,vs,rel,dd⟩:=acx I.hok e
  refine wpAny_notIn_of (adG ry) hd dd.mapOf ?_
  rw [←(rel.val k).isSome_eq,←l]
  exact h _ (I.tok _)
 ·subst ey
  cases (show u=Value.ref b from ry)
  obtain ⟨z,hd,xs,rel,dd⟩:=adI I.hok e
  refine wpAny_notIn_heap (tupleKind_room_in1 hu) (acy I.hok eb) hd dd ?_
  have q:=(rel.val k).isSome_eq
  rw [Option.isSome_map] at q
  rw [←q,←l]
  exact h _ (I.tok _)
theorem aeC {h':Heap}{t':Nat}{ob:HO} (I:Inv X pins σ H s) (mu:Mut (H a)) (hs:Heap.SameBut a s.heap h') (he:∃ q,h'.get? a=some q) (new:qK X.prog X.w (upd H a ob) h' a ob):
  Inv X pins σ (upd H a ob) { s with heap:=h',toks:=t' }:=
 I.write (x:=a) (e:=a) mu (.inl rfl) (fun b q hb z=>(hs.2 b hb).trans z) he new
theorem akL {P:Program}{w:World}{H':Hp}{h':Heap}{kvs:List (Key × V)}{vs:List (Key × Value)} (z:kvs.length<=sizeLine) (hd:(a == sysModules)=false) (rel:KV kvs vs) (dd:h'.DictOf (qe P w) a vs):
  qK P w H' h' a (.dK kvs):=⟨z,hd,vs,rel,dd⟩
theorem aji {H':Hp}{Q:Unit->Shared->Prop} (hu:A.units+1 < cLine) (I:Inv X pins σ H s) (g:ajg H a y v H') (ry:jU y u) (rv:jU v r) (h:∀ s',Inv X pins σ H' s'->Q () s'):
  wpAny (model X.prog X.w) A (setItem (.ref a) u r) Q E s:=by
 rcases g with ⟨kvs,k,e,ey,l,eH⟩ | ⟨kvs,k,b,e,ey,eb,l,eH⟩
 ·subst ey eH
  obtain ⟨z,hd,vs,rel,dd⟩:=aoE I.hok e
  have hz:vs.length<=sizeLine:=by rw [←rel.length]; exact z
  have hl:(Ql kvs k v).length<=sizeLine:=by have:=Za kvs k v; omega
  refine wpAny_setItem_pairs (hsz:=hz) (adG ry) dd fun h' dd' hs=>h _ ?_
  have he:∃ q,h'.get? a=some q:=let ⟨q,_,_,hq,_⟩:=dd'; ⟨q,hq⟩
  exact aeC I (by rw [e]; exact True.intro) hs he (akL hl hd (rel.put k rv) dd')
 ·subst ey eH
  cases (show u=Value.ref b from ry)
  obtain ⟨z,hd,xs,rel,dd⟩:=aqC I.hok e
  have hz:xs.length<=sizeLine:=by rw [←Paired.length rel]; exact z
  have hl:(Ql kvs k v).length<=sizeLine:=by have:=Za kvs k v; omega
  refine wpAny_setItem_heap (hsz:=hz) (tupleKind_room_in1 hu) (acy I.hok eb) dd fun h' dd' hs=>h _ ?_
  obtain ⟨q,es,ep,hq,h2,h3,h4,_,h5⟩:=dd'
  refine aeC I (by rw [e]; exact True.intro) hs ⟨q,hq⟩ ⟨hl,hd,_,(rel.put k eb rv).keeps fun c ys ec=>?_,q,es,ep,hq,h2,h3,h4,h5⟩
  rw [jo (aqe ec e (fun z=>nomatch z))]
  exact ec
end
section
variable {X:Cx}{pins:List (Addr × Obj)}{σ:St}{H:Hp}{s:Shared}{a:Addr}{kvs:List (Key × V)}{k:Key}{u:Value}{A:Around}{E:Value->Shared->Prop}
end
noncomputable def apk (i:Expr):Prop:=∀ ov iv,subscripted i false ov iv=operate [ov,iv] (getItem ov iv)
theorem am8 {prog:Program}{w:World}{A:Around}{E:Value->Shared->Prop}{s:Shared}{env:Env}{value slice:Expr}{pos:Pos}{T id:String}{Q:Value->Shared->Prop}
  (hl:typeLookup (.type T) "__getitem__"=pure (some (.builtin id))) (hs:apk slice)
  (h:wpAny (model prog w) A (eval value env) (fun o s₁=>wpAny (model prog w) A (eval slice env) (fun i s₂=>s₂.TypeIs o T/\wpAny (model prog w) A (getItem o i) Q E s₂) E s₁) E s):
  wpAny (model prog w) A (eval (.Subscript value slice pos) env) Q E s:=by
 refine Subscript_ (wpAny_mono h (fun o s₁ h₁=>wpAny_mono h₁ (fun i s₂ h₂=>?_) fun _ _ x=>x) fun _ _ x=>x)
 obtain ⟨hT,h₂⟩:=h₂
 unfold subscriptTail
 refine wpAny_bind ?_
 rw [getitemInPython_of_ne hT.not_modules]
 refine wpAny_bind (wpAny_specialOf hT hl ?_)
 have fin:wpAny (model prog w) A (subscripted slice false o i) (fun r s₃=>wpAny (model prog w) A (letTemporaryGo value o r >>= fun _=>pure r) Q E s₃) E s₂:=by
  rw [hs o i]
  exact wpAny_operating (wpAny_mono h₂ (fun r s₃ h₃=>wpAny_bind (wpAny_letTemporaryGo (wpAny_pure h₃))) fun _ _ x=>x)
 first
  | exact wpAny_pure (wpAny_bind fin)
  | exact wpAny_bind (wpAny_pure (wpAny_bind fin))
  | exact wpAny_bind fin
theorem afG {X:Cx}{pins:List (Addr × Obj)}{σ:St}{H:Hp}{s:Shared}{a:Addr}{y:V}{o:Option V} (I:Inv X pins σ H s) (g:ab1 H a y o):s.TypeIs (.ref a) "dict":=by
 rcases g with ⟨kvs,k,e,_,_⟩ | ⟨kvs,k,b,e,_,_,_⟩
 ·obtain ⟨_,_,vs,_,dd⟩:=acx I.hok e
  exact dd.typeIs
 ·obtain ⟨_,_,xs,_,dd⟩:=adI I.hok e
  exact dd.typeIs
noncomputable def aqD (td ty:TE):TE:=fun σ H Q=>td σ H fun x H1=>ty σ H1 fun y H2=>∃ a v,x= .ref a/\ab1 H2 a y (some v)/\Q v H2
noncomputable def am9 (ty td:TE):TE:=fun σ H Q=>ty σ H fun y H1=>td σ H1 fun x H2=>∃ a o,x= .ref a/\ab1 H2 a y o/\Q (.bl (!o.isSome)) H2
section
variable {X:Cx}{o i e value:Expr}{pos pos' tpos:Pos}{td ty tv:TE}
theorem ana (hu:X.A.units+1 < cLine) (ho:PE X o td) (hi:PE X i ty) (hs:apk i):PE X (.Subscript o i pos) (aqD td ty):=by
 intro pins s σ H Q I h
 refine am8 PySem.F.slot_dict_getitem.lookup hs (thn (ho pins s σ H _ I h) fun u s1 ⟨x,H1,I1,rx,q1⟩=>thn (hi pins s1 σ H1 _ I1 q1) fun iv s2 ⟨y,H2,I2,ry,a,v,ex,g,q2⟩=>?_)
 subst ex
 obtain rfl:u=Value.ref a:=rx
 exact ⟨afG I2 g,ajh hu I2 g ry fun w' s3 I3 rw'=>⟨v,H2,I3,rw',q2⟩⟩
theorem ajj (hu:X.A.units+1 < cLine) (hi:PE X i ty) (ho:PE X o td):PC X .NotIn i o (am9 ty td):=by
 intro pins s σ H Q I h
 refine thn (hi pins s σ H _ I h) fun iv s1 ⟨y,H1,I1,ry,q1⟩=>thn (ho pins s1 σ H1 _ I1 q1) fun u s2 ⟨x,H2,I2,rx,a,ov,ex,g,q2⟩=>?_
 subst ex
 obtain rfl:u=Value.ref a:=rx
 exact am7 hu I2 g ry fun s3 I3=>⟨.bl (!ov.isSome),H2,I3,rfl,q2⟩
end
theorem afH {P:Program}{w:World}{H:Hp} (h:Heap) (hb:sysModules < h.objs.size):qK P w H (h.push { cls:= .type "dict",data:= .dict #[] }) h.objs.size (.dK []):=
 ⟨Nat.zero_le _,beq_eq_false_iff_ne.mpr (Ne.symm (Nat.ne_of_lt hb)),[],.nil,Heap.DictOf.new h⟩
noncomputable def apl:TE:=fun _ H Q=>∀ p,H p=none->Q (.ref p) (upd H p (.dK []))
section
variable {X:Cx}{pos:Pos}
theorem akM:PE X (.Dict [] [] pos) apl:=fun pins s σ H Q I h=>
 wpAny_Dict_empty ⟨.ref s.heap.objs.size,_,I.laid (a:=s.heap.objs.size) (o:= .dK []) (t':=s.toks) (fun _ _ q=>Heap.get?_push_of_some _ q) (Nat.le_refl _) (afH s.heap I.big),rfl,h _ (I.hok.fresh (Nat.le_refl _))⟩
end
noncomputable def ahj:List (TE × TE)->St->Hp->(List (V × V)->Hp->Prop)->Prop
 | [],_,H,Q=>Q [] H
 | (tk,tv)::r,σ,H,Q=>tk σ H fun x H1=>tv σ H1 fun y H2=>ahj r σ H2 fun ps H3=>Q ((x,y)::ps) H3
noncomputable abbrev VV:List (V × V)->List (Value × Value)->Prop:=Paired fun p q=>jU p.1 q.1/\jU p.2 q.2
noncomputable def PPs (X:Cx) (pos:Pos) (keys:List (Option Expr)) (values:List Expr) (trs:List (TE × TE)):Prop:=
 ∀ (pins:List (Addr × Obj)) (s:Shared) (σ:St) (H:Hp) (Q:List (V × V)->Hp->Prop),Inv X pins σ H s->ahj trs σ H Q->
  wpAny (model X.prog X.w) X.A (evalPairs (pairTrees keys values X.env pos)) (fun vs s'=>∃ ps H',Inv X pins σ H' s'/\VV ps vs/\Q ps H') X.xe s
theorem anb {X:Cx}{pos:Pos}:PPs X pos [] [] []:=fun pins s σ H Q I h=>pairTrees_nil_walk ⟨[],H,I,.nil,h⟩
theorem akN {X:Cx}{pos:Pos}{k v:Expr}{ks:List (Option Expr)}{vs:List Expr}{tk tv:TE}{trs:List (TE × TE)} (hk:PE X k tk) (hv:PE X v tv) (hr:PPs X pos ks vs trs):
  PPs X pos (some k::ks) (v::vs) ((tk,tv)::trs):=fun pins s σ H Q I h=>
 pairTrees_cons_walk (thn (hk pins s σ H _ I h) fun u s1 ⟨x,H1,I1,rx,q1⟩=>thn (hv pins s1 σ H1 _ I1 q1) fun w2 s2 ⟨y,H2,I2,ry,q2⟩=>
  thn (hr pins s2 σ H2 _ I2 q2) fun ws s3 ⟨ps,H3,I3,rel,q3⟩=>⟨(x,y)::ps,H3,I3,.cons ⟨rx,ry⟩ rel,q3⟩)
noncomputable def acz (kvs more:List (Key × V)):List (Key × V):=more.foldl (fun acc kv=>Ql acc kv.1 kv.2) kvs
theorem KV.merge:∀ {more:List (Key × V)}{rs:List (Key × Value)}{kvs:List (Key × V)}{vs:List (Key × Value)},KV more rs->KV kvs vs->KV (acz kvs more) (merged vs rs):=by
 intro more rs kvs vs r
 unfold KV at r
 induction r generalizing kvs vs with
 | nil=>intro q; exact q
 | @cons p q ps qs h t ih=>
  intro r0
  have e:KV (Ql kvs p.1 p.2) (stored vs q.1 q.2):=by
   have:=r0.put p.1 h.2
   rw [←h.1]; exact this
  exact ih e
theorem aad:∀ (more kvs:List (Key × V)),(acz kvs more).length<=kvs.length+more.length
 | [],kvs=>by show kvs.length<=kvs.length+0; omega
 | p::r,kvs=>by
  have h1:=aad r (Ql kvs p.1 p.2)
  have h2:=Za kvs p.1 p.2
  show (acz (Ql kvs p.1 p.2) r).length<=_
  rw [List.length_cons]; omega
theorem acA {P:Program}{w:World}:∀ {kvs:List (Key × V)}{ws:List (Value × Value)},VV (kvs.map fun kv=>(kV kv.1,kv.2)) ws->∃ rs,Carries (qe P w) ws rs/\KV kvs rs
 | [],_,r=>by rw [List.map_nil] at r; cases r; exact ⟨[],True.intro,.nil⟩
 | p::kvs,_,r=>by
  rw [List.map_cons] at r
  cases r with
  | @cons a b as bs h t=>
   obtain ⟨rs,c,q⟩:=acA (P:=P) (w:=w) t
   obtain ⟨b1,b2⟩:=b
   exact ⟨(p.1,b2)::rs,⟨adG h.1,rfl,c⟩,.cons ⟨rfl,h.2⟩ q⟩
noncomputable def aqE (trs:List (TE × TE)):TE:=fun σ H Q=>∀ p,H p=none->ahj trs σ (upd H p (.dK [])) fun ps H2=>H2 p=some (.dK [])/\∃ kvs:List (Key × V),ps=kvs.map (fun kv=>(kV kv.1,kv.2))/\kvs.length<=15/\Q (.ref p) (upd H2 p (.dK (acz [] kvs)))
theorem anc {X:Cx}{pos:Pos}{keys:List (Option Expr)}{values:List Expr}{trs:List (TE × TE)} (h:PPs X pos keys values trs) (hall:keys.all (·.isSome)=true) (hl:keys.length=values.length) (h0:keys ≠ [])
  (h15:keys.length<=15):PE X (.Dict keys values pos) (aqE trs):=by
 intro pins s σ H Q I q
 have hn:=I.hok.fresh (Nat.le_refl s.heap.objs.size)
 have I1:=I.laid (a:=s.heap.objs.size) (o:= .dK []) (h':=s.heap.push { cls:= .type "dict",data:= .dict #[] }) (t':=s.toks) (fun _ _ q=>Heap.get?_push_of_some _ q) (Nat.le_refl _) (afH s.heap I.big)
 refine wpAny_Dict_walk (knd:=qe X.prog X.w) hall hl h0 h15 (thn (h pins _ σ _ _ I1 (q _ hn)) fun ws s2 ⟨ps,H2,I2,rel,e,kvs,ep,lk,q2⟩=>?_)
 subst ep
 obtain ⟨rs,c,rk⟩:=acA (P:=X.prog) (w:=X.w) rel
 obtain ⟨z,hd,vs0,r0,dd⟩:=aoE I2.hok e
 cases r0
 refine ⟨rs,c,dd,fun h' dd' hs=>⟨.ref s.heap.objs.size,_,?_,rfl,q2⟩⟩
 have hz:(acz [] kvs).length<=sizeLine:=by
  have h1:=aad kvs []
  rw [List.length_nil] at h1
  rw [sizeLine_eq]; omega
 have he:∃ q,h'.get? s.heap.objs.size=some q:=let ⟨q,_,_,hq,_⟩:=dd'; ⟨q,hq⟩
 exact aeC I2 (by rw [e]; exact True.intro) hs he (akL hz hd (rk.merge .nil) dd')
structure M1 (X:Cx) (o:Expr) (m:Str) (apos:Pos) (e:Expr) (cpos:Pos):Prop where
 base:attributeBase o m X.env (eval o X.env)=eval o X.env
 few:((backTo cpos (starEach [e] X.env)).all (fun x=>!x.1) && (backToKw cpos (keywordEach [] X.env)).all (fun x=>x.1.isSome)
  && decide (([e]:List Expr).length+([]:List Keyword).length+(if ([]:List Keyword).isEmpty then 0 else 1) < 30))=true
 line:(apos.endLine == cpos.line)=true
 trees:backTo cpos (starEach [e] X.env)=[(false,eval e X.env)]
structure M2 (X:Cx) (o:Expr) (m:Str) (apos:Pos) (e f:Expr) (cpos:Pos):Prop where
 base:attributeBase o m X.env (eval o X.env)=eval o X.env
 few:((backTo cpos (starEach [e,f] X.env)).all (fun x=>!x.1) && (backToKw cpos (keywordEach [] X.env)).all (fun x=>x.1.isSome)
  && decide (([e,f]:List Expr).length+([]:List Keyword).length+(if ([]:List Keyword).isEmpty then 0 else 1) < 30))=true
 line:(apos.endLine == cpos.line)=true
 trees:backTo cpos (starEach [e,f] X.env)=[(false,eval e X.env),(false,eval f X.env)]
noncomputable def IsD (H:Hp) (a:Addr):Prop:=(∃ kvs,Rd H a (.dK kvs)) ∨ ∃ kvs,Rd H a (.dT kvs)
theorem apm {X:Cx}{pins:List (Addr × Obj)}{σ:St}{H:Hp}{s:Shared}{a:Addr} (I:Inv X pins σ H s) (d:IsD H a):
  s.TypeIs (.ref a) "dict"/\(∀ b,Value.ref a= .ref b->∃ ob,s.heap.get? b=some ob/\ob.dict=none)/\(a == sysModules)=false:=by
 rcases d with ⟨kvs,e⟩ | ⟨kvs,e⟩
 ·obtain ⟨_,hd,vs,_,dd⟩:=acx I.hok e
  refine ⟨dd.typeIs,fun b q=>?_,hd⟩
  cases q
  obtain ⟨ob,_,_,h1,h2,_⟩:=dd
  exact ⟨ob,h1,h2.2.1⟩
 ·obtain ⟨_,hd,xs,_,dd⟩:=adI I.hok e
  refine ⟨dd.typeIs,fun b q=>?_,hd⟩
  cases q
  obtain ⟨ob,_,_,h1,h2,_⟩:=dd
  exact ⟨ob,h1,h2.2.1⟩
section
variable {X:Cx}{pins:List (Addr × Obj)}{σ:St}{H:Hp}{s:Shared}{a:Addr}{y d:V}{u r:Value}{o:Option V}{A:Around}{E:Value->Shared->Prop}
theorem apn {Q:Value->Shared->Prop} (hu:A.units+1 < cLine) (I:Inv X pins σ H s) (g:ab1 H a y o) (ry:jU y u) (h:∀ w' s',Inv X pins σ H s'->jU (o.getD .non) w'->Q w' s'):
  wpAny (model X.prog X.w) A (call (.builtin "dict.get") [.ref a,u]) Q E s:=by
 rcases g with ⟨kvs,k,e,ey,l⟩ | ⟨kvs,k,b,e,ey,eb,l⟩
 ·subst ey
  obtain ⟨z,hd,vs,rel,dd⟩:=acx I.hok e
  refine call_meetsIn PySem.F.slot_dict_get dd.typeIs PySem.F.entry_dict_get (PySem.F.args_dict_get_2 _ _) (meets_dict_get (qe X.prog X.w) a (adG ry) hd) ⟨_,dd.mapOf,h _ _ (I.tok _) ?_⟩
  rw [l]
  exact (rel.val k).getD rfl
 ·subst ey
  cases (show u=Value.ref b from ry)
  obtain ⟨z,hd,xs,rel,dd⟩:=adI I.hok e
  refine call_meetsIn PySem.F.slot_dict_get dd.typeIs PySem.F.entry_dict_get (PySem.F.args_dict_get_2 _ _) (meetsH_dict_get (tupleKind (qe X.prog X.w)) a b hd) ⟨tupleKind_room_in1 hu,k,xs,acy I.hok eb,dd,h _ _ (I.tok _) ?_⟩
  rw [l]
  exact (rel.val k).getD rfl
end
noncomputable def apo (td ty:TE):TE:=fun σ H Q=>td σ H fun x H1=>∃ a,x= .ref a/\IsD H1 a/\ty σ H1 fun y H2=>∃ o,ab1 H2 a y o/\Q (o.getD .non) H2
section
variable {X:Cx}{o e f:Expr}{apos cpos:Pos}{td ty tx:TE}
theorem akO (hu:X.A.units+1 < cLine) (ho:PE X o td) (he:PE X e ty) (m:M1 X o "get" apos e cpos):PE X (.Call (.Attribute o "get" apos) [e] [] cpos) (apo td ty):=by
 intro pins s σ H Q I h
 refine wpAny_Call_method m.base m.few m.line PySem.F.plainAttrs_dict PySem.F.slot_dict_get PySem.F.type_dict_get (thn (ho pins s σ H _ I h) fun u s1 ⟨x,H1,I1,rx,a,ex,d,q1⟩=>?_)
 subst ex
 obtain rfl:u=Value.ref a:=rx
 obtain ⟨t1,t2,_⟩:=apm I1 d
 refine ⟨t1,t2,?_⟩
 rw [m.trees]
 refine Calls.callWith_builtin rfl (Calls.evalArgs_plain (Calls.spliced_cons (thn (he pins s1 σ H1 _ I1 q1) fun iv s2 ⟨y,H2,I2,ry,ov,g,q2⟩=>Calls.spliced_nil ?_)))
 exact apn hu I2 g ry fun w' s3 I3 rw'=>⟨_,H2,I3,rw',q2⟩
end
section
variable {X:Cx}{pins:List (Addr × Obj)}{σ:St}{H:Hp}{s:Shared}{a:Addr}{kvs:List (Key × V)}{A:Around}{E:Value->Shared->Prop}
end
section
variable {X:Cx}{pins:List (Addr × Obj)}{σ:St}{H:Hp}{s:Shared}{a:Addr}{y:V}{u:Value}{A:Around}{E:Value->Shared->Prop}
end
end L2
namespace L2
open PySem PySem.Spec PyProof.Rows
section
variable {X:Cx}
end
section
variable {κ:Type} [DecidableEq κ]
end
end L2
end
section
namespace BX
open PySem PySem.Spec L2
open PyProof.Rows hiding St
noncomputable abbrev NoX:Value->Shared->Prop:=fun _ _=>False
noncomputable def ail (ts:List Expr) (en:Env):Sem Bool:=
 forIn ts true fun c r=>if r=true then do let ok ←isTrue c en (eval c en); pure (ForInStep.yield ok) else pure (ForInStep.yield r)
section
variable {prog:Program}{w:World}{A:Around}{s:Shared}{R:Result->Shared->Prop}
theorem adJ {el tg src:Expr}{ts:List Expr}{sc:Scope}{ps:Pos}{it acc:Value}{en:Env} (J:Nat->Shared->Prop)
  (turn:∀ n s,J n s->wpAny (model prog w) A (pyNext it) (fun r s1=>match r with
   | none=>R (.ok .next) s1
   | some v=>wpAny (model prog w) A (letOwnedTupleGo tg it v) (fun _ sg=>wpAny (model prog w) A (assign tg en v) (fun _ s2=>
     wpAny (model prog w) A (ail ts en) (fun ok s3=>
      if ok=true then wpAny (model prog w) A (eval el en) (fun y s4=>
       wpAny (model prog w) A (call (.builtin "list.append") [acc,y]) (fun _ s5=>∃ m,m < n/\J m s5) NoX s4) NoX s3
      else ∃ m,m < n/\J m s3) NoX s2) NoX sg) NoX s1) NoX s)
  (n:Nat) (h:J n s):
  codeAny (model prog w) A (.compLoop (.ListComp el [⟨tg,src,ts,0⟩] sc ps) 0 it acc en) R s:=by
 refine codeAny_loop rfl J (fun n s hJ=>?_) n h
 show wpAny _ A
  ((compTurn (.ListComp el [⟨tg,src,ts,0⟩] sc ps) 0 it acc en).onRaise
   (fun x=>do noteFrame x en; theTreesLotGoes x)) _ _ s
 refine wpAny_noted ?_
 rw [compTurn_list]
 have no:∀ {E:Value->Shared->Prop} (e:Value) (s':Shared),NoX e s'->E e s':=fun _ _ z=>z.elim
 refine wpAny_bind (wpAny_standAt (wpAny_bind (wpAny_mono (turn n s hJ) (fun r s1 h1=>?_) no)))
 cases r with
 | none=>exact wpAny_pure h1
 | some v=>
  refine wpAny_bind (wpAny_mono h1 (fun _ sg hg=>?_) no)
  refine wpAny_bind (wpAny_mono hg (fun _ s2 h2=>?_) no)
  refine wpAny_bind (wpAny_mono h2 (fun ok s3 h3=>?_) no)
  cases ok with
  | false=>exact wpAny_pure ⟨rfl,h3⟩
  | true=>
   refine wpAny_bind (wpAny_bind (wpAny_mono h3 (fun y s4 h4=>?_) no))
   exact wpAny_bind (wpAny_mono h4 (fun _ s5 h5=>wpAny_pure (wpAny_pure ⟨rfl,h5⟩)) no)
end
noncomputable def QZ (en:Env):List (Str × NameKind)->List (Str × Addr)->List (Str × Addr)
 | [],cs=>cs
 | (n,k)::r,cs=>QZ en r (if k == .free then (n,(en.cells.lookup n).getD 0)::cs else cs)
theorem aim (sc:Scope) (en:Env) (h:∀ x ∈ sc.names,x.2= .free->∃ c,en.cells.lookup x.1=some c):closureFor sc en=pure (QZ en sc.names []):=by
 have go:∀ (l:List (Str × NameKind)) (cs:List (Str × Addr)),(∀ x ∈ l,x.2= .free->∃ c,en.cells.lookup x.1=some c)->
   (forIn l cs (fun (x:Str × NameKind) (r:List (Str × Addr))=>(do
    if x.2 == .free then do
     let c ←cellOf en x.1
     pure (ForInStep.yield ((x.1,c)::r))
    else pure (ForInStep.yield r):Sem (ForInStep (List (Str × Addr))))):Sem _)=pure (QZ en l cs):=by
  intro l
  induction l with
  | nil=>intro cs _; rfl
  | cons x l ih=>
   intro cs hl
   obtain ⟨n,k⟩:=x
   rw [List.forIn_cons]
   by_cases hk:(k == NameKind.free)=true
   ·obtain ⟨c,e⟩:=hl (n,k) List.mem_cons_self (by simpa using hk)
    have e':en.cells.lookup n=some c:=e
    simp only [hk,zzM,cellOf,e',pure_bind,QZ,Option.getD_some]
    exact ih _ fun y hy=>hl y (List.mem_cons_of_mem _ hy)
   ·simp only [hk,pure_bind,QZ,zzL,zzN]
    exact ih _ fun y hy=>hl y (List.mem_cons_of_mem _ hy)
 have:=go sc.names [] h
 unfold closureFor
 rw [←this]
 first
  | (simp only [bind_pure_comp,id_map',map_pure]; done)
  | (simp only [bind_pure_comp,id_map',map_pure]; exact bind_pure _)
theorem abh (en:Env):∀ (l:List (Str × NameKind)) (cs:List (Str × Addr)),(∀ x ∈ l,x.2= .free->∃ c,en.cells.lookup x.1=some c)->(∀ p ∈ cs,en.cells.lookup p.1=some p.2)->
  ∀ p ∈ QZ en l cs,en.cells.lookup p.1=some p.2
 | [],_,_,h,p,hp=>h p hp
 | (n,k)::r,cs,hl,h,p,hp=>by
  refine abh en r _ (fun y hy=>hl y (List.mem_cons_of_mem _ hy)) (fun q hq=>?_) p hp
  by_cases hk:(k == NameKind.free)=true
  ·rw [if_pos hk] at hq
   rcases List.mem_cons.mp hq with rfl | hq
   ·obtain ⟨c,e⟩:=hl (n,k) List.mem_cons_self (by simpa using hk)
    have e':en.cells.lookup n=some c:=e
    show en.cells.lookup n=some ((en.cells.lookup n).getD 0)
    rw [e']; rfl
   ·exact h q hq
  ·rw [if_neg hk] at hq
   exact h q hq
theorem abO (en:Env):∀ (l:List (Str × NameKind)) (cs:List (Str × Addr)) (x:Str),(∃ c,(x,c) ∈ cs)->∃ c,(x,c) ∈ QZ en l cs
 | [],_,_,h=>h
 | (n,k)::r,cs,x,⟨c,h⟩=>by
  refine abO en r _ x ?_
  by_cases hk:(k == NameKind.free)=true
  ·rw [if_pos hk]; exact ⟨c,List.mem_cons_of_mem _ h⟩
  ·rw [if_neg hk]; exact ⟨c,h⟩
theorem Qm (en:Env):∀ (l:List (Str × NameKind)) (cs:List (Str × Addr)) (x:Str),(x,NameKind.free) ∈ l->∃ c,(x,c) ∈ QZ en l cs
 | (n,k)::r,cs,x,h=>by
  rcases List.mem_cons.mp h with e | h
  ·obtain ⟨e1,e2⟩:=Prod.mk.inj e
   subst e1; subst e2
   exact abO en r _ _ ⟨_,by rw [if_pos (by rfl)]; exact List.mem_cons_self⟩
  ·exact Qm en r _ x h
theorem zk {β:Type}:∀ {l:List (Str × β)}{x:Str}{c:β},(x,c) ∈ l->∃ d,l.lookup x=some d
 | (n,k)::r,x,c,h=>by
  by_cases e:x=n
  ·subst e; exact ⟨k,by simp [List.lookup_cons]⟩
  ·have eb:(x == n)=false:=by simpa using e
   rcases List.mem_cons.mp h with z | h
   ·cases z; exact absurd rfl e
   ·obtain ⟨d,hd⟩:=zk h
    exact ⟨d,by simp only [List.lookup_cons,eb]; exact hd⟩
theorem JT {sc:Scope}{en:Env}{x:Str}{k:NameKind} (h:(x,k) ∈ (relabel sc en).names) (hc:∀ y ∈ sc.names,y.2 ≠ .cell) (hk:k= .cell ∨ k= .free):(x,NameKind.free) ∈ sc.names:=by
 obtain ⟨⟨n,j⟩,hm,e⟩:=List.mem_map.mp h
 by_cases q:(j == NameKind.free && en.scope.kind == .function && en.kindOf n == some .cell)=true
 ·have e1:(n,NameKind.cell)=(x,k):=by simpa only [q,zzM] using e
  cases e1
  have hj:j= .free:=by
   simp only [Bool.and_eq_true] at q
   simpa using q.1.1
  rw [←hj]; exact hm
 ·have e1:(n,j)=(x,k):=by simpa only [q,zzL,zzN] using e
  cases e1
  rcases hk with rfl | rfl
  ·exact absurd rfl (hc _ hm)
  ·exact hm
theorem QF {en:Env}:∀ {l:List (Str × NameKind)}{x:Str},l.lookup x=some .free->
  (l.map fun (n,k)=>if (k == NameKind.free && en.scope.kind == .function && en.kindOf n == some .cell) then (n,NameKind.cell) else (n,k)).lookup x=some .cell ∨
  (l.map fun (n,k)=>if (k == NameKind.free && en.scope.kind == .function && en.kindOf n == some .cell) then (n,NameKind.cell) else (n,k)).lookup x=some .free
 | (n,k)::r,x,h=>by
  rw [List.map_cons]
  cases hx:x == n with
  | true=>
   simp only [List.lookup_cons,hx] at h
   cases h
   by_cases q:(NameKind.free == NameKind.free && en.scope.kind == .function && en.kindOf n == some .cell)=true
   ·left; simp only [q,zzM,List.lookup_cons,hx]
   ·right; simp only [q,zzL,zzN,List.lookup_cons,hx]
  | false=>
   simp only [List.lookup_cons,hx] at h
   rcases QF (en:=en) h with g | g
   ·left
    by_cases q:(k == NameKind.free && en.scope.kind == .function && en.kindOf n == some .cell)=true
    ·simp only [q,zzM,List.lookup_cons,hx]; exact g
    ·simp only [q,zzL,zzN,List.lookup_cons,hx]; exact g
   ·right
    by_cases q:(k == NameKind.free && en.scope.kind == .function && en.kindOf n == some .cell)=true
    ·simp only [q,zzM,List.lookup_cons,hx]; exact g
    ·simp only [q,zzL,zzN,List.lookup_cons,hx]; exact g
noncomputable def blk (X:Cx) (N':List Str) (sc:Scope) (cl:List (Str × Addr)) (C:Addr) (s0:Shared) (H0:Hp) (fp:List Addr) (pn:List (Addr × Obj)):Cx:=
 { X with N:=N',s₀:=s0,H₀:=H0,env:=compEnvC sc cl C X.env,outer:=X.stack,ex:=fp,fn:=fun _=>false,pn:=pn,xe:=NoX }
noncomputable def ab2 (cap:List (Option Nat)) (σ:St):St:=cap.map fun o=>o.bind fun i=>(σ[i]?).join
noncomputable def PTs (X:Cx) (ts:List Expr) (t:TT):Prop:=
 ∀ (pins:List (Addr × Obj)) (s:Shared) (σ:St) (H:Hp) (Q:Bool->Hp->Prop),Inv X pins σ H s->t σ H Q->wpAny (model X.prog X.w) X.A (ail ts X.env) (TP X pins σ Q) X.xe s
noncomputable def aqF:TT:=fun _ H Q=>Q true H
theorem ane {X:Cx}:PTs X [] aqF:=fun _ _ _ H _ I h=>wpAny_pure ⟨H,I,h⟩
theorem anf {X:Cx}{c:Expr}{t:TT} (h:PT X c t):PTs X [c] t:=fun pins s σ H Q I hq=>wpAny_tests_one (h pins s σ H Q I hq)
structure CompOk (X:Cx) (sc:Scope) (N':List Str) (cap:List (Option Nat)):Prop where
 fr:∀ x ∈ sc.names,x.2= .free->X.env.kindOf x.1=some .cell ∨ X.env.kindOf x.1=some .free
 nc:∀ x ∈ sc.names,x.2 ≠ .cell
 kind:sc.kind= .function
 nm:∀ x ∈ sc.names,x.2= .local->sc.names.lookup x.1=some .local
 len:cap.length=N'.length
 cp:∀ (j i:Nat) (x:Str),N'[j]?=some x->cap[j]?=some (some i)->X.N[i]?=some x/\sc.names.lookup x=some .free
noncomputable def akP (wi:TI) (cap:List (Option Nat)) (g:TG) (tt:TT) (te:TE):TE:=fun σ H Q=>wi σ H fun J H1=>
 ∃ W:Nat->Nat->St->List V->Hp->Prop,(∃ m,W 0 m (ab2 cap σ) [] H1)/\∀ i m τ ys H,W i m τ ys H->ys.length < sizeLine/\
  ((J.stop i H/\∀ l,H l=none->Q (.ref l) (upd H l (.lst ys))) ∨
   (J.go i H/\∀ x H',J.yld i H x H'->g x τ H' fun τ2 H2=>tt τ2 H2 fun b H3=>if b=true then te τ2 H3 fun y H4=>∃ m',m' < m/\W (i+1) m' τ2 (ys++[y]) H4 else ∃ m',m' < m/\W (i+1) m' τ2 ys H3))
theorem Inv.track {X:Cx}{pins:List (Addr × Obj)}{σ:St}{H:Hp}{s:Shared}{D:Addr}{o:HO} (I:Inv X pins σ H s) (hn:H D=none) (h1:X.s₀.heap.objs.size<=D) (h2:D ≠ X.env.locals) (h3:∀ x c,X.env.cells.lookup x=some c->c ≠ D)
  (h4:∀ p ∈ X.pn++pins,p.1 ≠ D) (new:qK X.prog X.w (upd H D o) s.heap D o):Inv X pins σ (upd H D o) s:=by
 have nd:∀ b u,H b=some u->b ≠ D:=fun b u e z=>by rw [z,hn] at e; cases e
 have hok:HOk X.prog X.w (upd H D o) s.heap:=fun b u e=>by
  by_cases hb:b=D
  ·subst hb; rw [jp] at e; cases e; exact new
  ·rw [jo hb] at e
   exact (I.hok b u e).stay (fun _ _ _ q=>q) (fun c q=>by rw [jo (nd c _ q)]; exact q) fun c xs q=>by rw [jo (nd c _ q)]; exact q
 refine I.step (h':=s.heap) (g':=s.gens) (d':=s.drawn) (t':=s.toks) (ch:=[D]) (fun b hb=>?_) (fun b o _ _ _ e _=>e) (fun b o _ _ _ e _=>⟨o.slots,e⟩) (fun b o hc _ n=>?_) (fun b o _ e=>⟨o,e⟩) (fun b xs e=>by rw [jo (nd b _ e)]; exact e)
  (fun b ob u e=>by rw [jo (nd b _ e)]; exact e) (fun b ps e=>⟨#[],by rw [jo (nd b _ e),e]; simp⟩) (fun m hm=>hm) hok I.bare
 ·have e:b=D:=by simpa using hb
  subst e
  exact ⟨.inr h1,h2,h3,h4⟩
 ·have e:b ≠ D:=by simpa using hc
  rw [jo e]; exact n
theorem ang {X : Cx} {el tg src : Expr} {ts : List Expr} {sc : Scope} {ps : Pos} {wi : TI} {g : TG} {tt : TT} {te : TE} {N' : List Str} {cap : List (Option Nat)} (hc : X.calm = true) (hi : PI X tg src wi) (ok : CompOk X sc N' cap)
    (body : ∀ cl C s0 H0 fp pn, PG (blk X N' sc cl C s0 H0 fp pn) tg g /\ PTs (blk X N' sc cl C s0 H0 fp pn) ts tt /\ PE (blk X N' sc cl C s0 H0 fp pn) el te)
    (hs : ∀ x, foldedSetIterable src X.env x = pure x := by intro _; rfl) : PE X (.ListComp el [⟨tg, src, ts, 0⟩] sc ps) (akP wi cap g tt te) := by
  intro pins s σ H Q I h
  have hfr : ∀ x ∈ sc.names, x.2 = .free -> ∃ c, X.env.cells.lookup x.1 = some c := fun x hx e => I.ok.has x.1 (ok.fr x hx e)
  have hcl := aim sc X.env hfr
  have clm : ∀ x c, (QZ X.env sc.names []).lookup x = some c -> X.env.cells.lookup x = some c := fun x c e =>
    abh X.env sc.names [] hfr (fun _ z => nomatch z) (x, c) (PySem.mem_of_lookup e)
  generalize hgl : QZ X.env sc.names [] = cl at hcl clm
  rw [eval_ListComp]
  refine wpAny_comprehension_free (use := none) rfl hs hcl ok.kind ok.nm ?_
  refine thn (hi pins s σ H _ I h) fun v s1 h1 => thn h1 fun itv s2 h2 => ?_
  obtain ⟨it, fp, tn, J, H2, e, I2, T, st2, f2, W, ⟨m0, w0⟩, turn⟩ := h2
  subst e
  refine wpAny_newObj_type (wpAny_newFunctionEnv ok.nc (by intro y hy; simp at hy) (fun h4 hns hsb => ?_) ok.kind)
  dsimp only at hns hsb ⊢
  generalize hH3 : s2.heap.push { cls := .type "list", dict := none, data := .seq ([] : List Value).toArray } = h3 at hns hsb ⊢
  have hC : h3.objs.size = s2.heap.objs.size + 1 := by rw [← hH3, Heap.size_push]
  generalize hCC : h3.objs.size = C at hns hsb hC ⊢
  generalize hDD : s2.heap.objs.size = D at hC ⊢
  have hDC : D ≠ C := by rw [hC]; exact Nat.ne_of_lt (Nat.lt_succ_self _)
  have old : ∀ b o, s2.heap.get? b = some o -> h4.get? b = some o := fun b o e => hsb.extBut b o (by have := Heap.lt_size e; rw [hDD] at this; rw [hC]; exact Nat.ne_of_lt (Nat.lt_succ_of_lt this)) (Heap.get?_push_of_some _ (hH3 ▸ Heap.get?_push_of_some _ e))
  have accO : h4.get? D = some { cls := .type "list", data := .seq ([] : List Value).toArray 0 } := hsb.extBut _ _ hDC (Heap.get?_push_of_some _ (by rw [← hH3, ← hDD]; exact Heap.get?_push_size _ rfl))
  have H2D : H2 D = none := I2.hok.fresh (by rw [hDD]; exact Nat.le_refl _)
  have H2C : H2 C = none := I2.hok.fresh (by rw [hDD, hC]; exact Nat.le_succ _)
  have cellsLt : ∀ x c, X.env.cells.lookup x = some c -> c < D := fun x c e => by
    obtain ⟨v, q⟩ := I2.cell x c e
    rw [← hDD]; exact q.lt
  have pinLt : ∀ p ∈ X.pn ++ pins, p.1 < D := fun p hp => by rw [← hDD]; exact Heap.lt_size (I2.pin p hp).1
  have stkLt : ∀ b ∈ frs X.stack, b < D := fun b hb => by
    obtain ⟨_, o, ho, _⟩ := I2.stack.mem hb
    rw [← hDD]; exact Heap.lt_size ho
  have fpLt : ∀ b ∈ fp, b < D := fun b hb => by
    obtain ⟨o, ho, _⟩ := T.obj _ _ st2 b hb
    rw [← hDD]; exact Heap.lt_size ho
  have ltC : ∀ {b : Addr}, b < D -> b ≠ C := fun hb => by rw [hC]; exact Nat.ne_of_lt (Nat.lt_succ_of_lt hb)
  have locLt : X.env.locals < D := by rw [← hDD]; exact I2.lt
  have hDge : s2.heap.objs.size <= D := by rw [hDD]; exact Nat.le_refl _
  have hCge : s2.heap.objs.size <= C := by rw [hDD, hC]; exact Nat.le_succ _
  have bok : (blk X N' sc cl C s2 H2 fp (X.pn ++ pins)).Ok := by
    refine ⟨I2.ok.mod, ok.kind, I2.ok.glob, I2.ok.blt, hCge, fun x y c e1 e2 => I2.ok.inj x y c (clm x c e1) (clm y c e2), fun x hx => ?_, fun x c z _ => ?_, I2.ok.hd, I2.ok.frames, .inl rfl, fun b hb => ?_, I2.bs, Nat.le_trans I2.ok.bsz I2.sz, fun b o e hb => ?_, fun b hb z => ?_, I2.stack, I2.stkFree⟩
    · have hx' : (relabel sc X.env).names.lookup x = some .cell ∨ (relabel sc X.env).names.lookup x = some .free := hx
      have hm : (x, NameKind.free) ∈ sc.names := by
        rcases hx' with z | z
        · exact JT (PySem.mem_of_lookup z) ok.nc (.inl rfl)
        · exact JT (PySem.mem_of_lookup z) ok.nc (.inr rfl)
      obtain ⟨c, hc⟩ := Qm X.env sc.names [] x hm
      rw [hgl] at hc
      exact zk hc
    · exact absurd (show false = true from z) Bool.false_ne_true
    · exact ⟨ltC (fpLt b hb), fun x c e => (f2 b hb).2.2.2.2.1 x c (clm x c e)⟩
    · rcases (f2 b hb).2.2.2.1 with z | z
      · exact I2.ok.noex b o e z
      · have := Heap.lt_size e
        exact absurd (Nat.lt_of_lt_of_le this (Nat.le_trans I2.ok.bsz z)) (Nat.lt_irrefl _)
    · rcases List.mem_cons.mp (I2.stkSub b z) with q | q
      · exact (f2 b hb).2.1 q
      · exact (f2 b hb).2.2.1 q
  have pinB : ∀ p ∈ X.pn ++ pins, p.1 ≠ C /\ p.1 ∉ frs X.stack := fun p hp => ⟨ltC (pinLt p hp), fun z => by
    rcases List.mem_cons.mp (I2.stkSub p.1 z) with q | q
    · exact (I2.pin p hp).2.2.1 q
    · exact (I2.pin p hp).2.2.2.1 q⟩
  have I4 : Inv (blk X N' sc cl C s2 H2 fp (X.pn ++ pins)) [] (ab2 cap σ) H2 { s2 with heap := h4, toks := s2.toks + ([] : List (Str × Value)).length } := by
    refine ⟨bok, rfl, I2.bare, Un.kept old, ⟨_, hns, fun j x v e1 e2 e3 => ?_⟩, fun x c e => ?_, H2C, fun x c e => I2.freeC x c (clm x c e), fun p hp => ?_, I2.hok.kept old, ?_⟩
    · unfold ab2 at e2
      rw [List.getElem?_map] at e2
      cases e4 : cap[j]? with
      | none => rw [e4] at e2; cases e2
      | some o =>
        rw [e4] at e2
        cases o with
        | none => cases e2
        | some i =>
          obtain ⟨hNi, hf⟩ := ok.cp j i x e1 e4
          have e5 : (σ[i]?).join = some v := by
            have := Option.some.inj e2
            simpa using this
          have e6 : σ[i]? = some (some v) := by
            cases e7 : σ[i]? with
            | none => rw [e7] at e5; cases e5
            | some z => rw [e7] at e5; cases z with
              | none => cases e5
              | some z => cases e5; rfl
          have hk := ok.fr (x, .free) (PySem.mem_of_lookup hf) rfl
          obtain ⟨m, hn, hl⟩ := I2.loc
          have hv : Vis X.env.scope x := by
            rcases hk with z | z
            · exact .inr (.inl z)
            · exact .inr (.inr z)
          obtain ⟨u, r, lk⟩ := hl i x v hNi e6 hv
          have cellX : ∃ c, X.env.cells.lookup x = some c /\ s2.heap.IsCell c (some u) := by
            rcases lk with ⟨k1, _⟩ | ⟨_, c, e, z⟩
            · rcases hk with z | z
              · have z' : X.env.kindOf x = some .cell := z
                rw [k1] at z'; cases z'
              · have z' : X.env.kindOf x = some .free := z
                rw [k1] at z'; cases z'
            · exact ⟨c, e, z⟩
          obtain ⟨c, hc1, ob, hc2, hc3⟩ := cellX
          obtain ⟨c', hc'⟩ := Qm X.env sc.names [] x (PySem.mem_of_lookup hf)
          rw [hgl] at hc'
          obtain ⟨d, hd⟩ := zk hc'
          have ed : d = c := by
            have := clm x d hd
            rw [hc1] at this; cases this; rfl
          subst ed
          refine ⟨u, r, .inr ⟨?_, d, hd, ob, old _ _ hc2, hc3⟩⟩
          exact QF hf
    · obtain ⟨v, ob, ho, hd⟩ := I2.cell x c (clm x c e)
      exact ⟨v, ob, old _ _ ho, hd⟩
    · have hp' : p ∈ X.pn ++ pins := by simpa [blk] using hp
      obtain ⟨e1, e2, e3, e4, e5⟩ := I2.pin p hp'
      exact ⟨old _ _ e1, e2, (pinB p hp').1, (pinB p hp').2, e5⟩
    · show (ab2 cap σ).length = N'.length
      unfold ab2
      rw [List.length_map]; exact ok.len
  have fpB : ∀ {H' : Hp} {pl : List (Addr × Obj)}, (∀ b ∈ fp, H' b = none) -> (∀ p ∈ pl, p.1 ∉ fp) -> ∀ b ∈ fp, afx (blk X N' sc cl C s2 H2 fp (X.pn ++ pins)) pl H' b := fun {H' pl} hn hpl b hb =>
    ⟨hn b hb, ltC (fpLt b hb), bok.exfs b hb, .inl hb, fun x c e => (f2 b hb).2.2.2.2.1 x c (clm x c e), fun p hp z => by
      rcases List.mem_append.mp (show p ∈ (X.pn ++ pins) ++ pl from hp) with q | q
      · exact (f2 b hb).2.2.2.2.2 p q z
      · exact hpl p q (by rw [z]; exact hb)⟩
  have Dfp : ∀ (o : Obj), ∀ p ∈ [(D, o)], p.1 ∉ fp := fun o p hp z => by
    have e : p = (D, o) := by simpa using hp
    subst e
    exact Nat.lt_irrefl _ (fpLt D z)
  have Dfs : D ∉ frs X.stack := fun z => Nat.lt_irrefl _ (stkLt D z)
  obtain ⟨bG, bT, bE⟩ := body cl C s2 H2 fp (X.pn ++ pins)
  have loop : codeAny (model X.prog X.w) X.A (.compLoop (.ListComp el [⟨tg, src, ts, 0⟩] sc ps) 0 (.ref it) (.ref D) (compEnvC sc cl C X.env)) (compPost (model X.prog X.w) X.A X.xe none (EP X pins σ Q) (.ref D) C)
      { s2 with heap := h4, toks := s2.toks + ([] : List (Str × Value)).length } := by
    refine adJ (fun n s' => ∃ i τ ys us k H', Inv (blk X N' sc cl C s2 H2 fp (X.pn ++ pins)) [] τ H' s' /\ tn i s'.heap /\ (∀ b ∈ fp, H' b = none) /\ jI ys us /\ s'.heap.get? D = some { cls := .type "list", data := .seq us.toArray k } /\ H' D = none /\ W i n τ ys H') ?_ m0
      ⟨0, _, [], [], 0, H2, I4, T.keep _ _ _ st2 (fun b _ o e => old b o e), fun b hb => (f2 b hb).1, .nil, accO, H2D, w0⟩
    rintro n s5 ⟨i, τ, ys, us, k, H5, I5, st5, fr5, rv5, ho5, hD5, w5⟩
    obtain ⟨hsz, alt⟩ := turn i n τ ys H5 w5
    have I5p : Inv (blk X N' sc cl C s2 H2 fp (X.pn ++ pins)) [(D, { cls := .type "list", data := .seq us.toArray k })] τ H5 s5 := I5.pins_of fun p hp => by
      have e : p = (D, { cls := .type "list", data := .seq us.toArray k }) := by simpa using hp
      subst e
      exact ⟨ho5, hD5, hDC, Dfs, fun v z => by cases z⟩
    rcases alt with ⟨stop, fin⟩ | ⟨go, step⟩
    · refine thn (T.done (blk X N' sc cl C s2 H2 fp (X.pn ++ pins)) rfl rfl rfl hc i _ s5 τ H5 NoX I5p (fpB fr5 (Dfp _)) st5 stop) fun r s6 ⟨hr, I6⟩ => ?_
      subst hr
      have ho6 := (I6.pin (D, _) (List.mem_append_right _ (List.mem_singleton.mpr rfl))).1
      obtain ⟨m6, hn6, _⟩ := I6.loc
      refine ⟨m6, hn6, fun h7 hs7 => ?_⟩
      have J6 : Inv X pins σ H5 s6 := I2.call' (ch := fp) I6.os I6.base I6.hok I6.bare fun b hb => ⟨(f2 b hb).2.2.2.1, (f2 b hb).2.1, (f2 b hb).2.2.2.2.1, (f2 b hb).2.2.2.2.2⟩
      have H5C : H5 C = none := I6.free
      have cne : ∀ {b : Addr}, b < D -> b ≠ C := ltC
      have J7 : Inv X pins σ H5 { s6 with heap := h7, toks := s6.toks } := J6.turned (it := C) (fun b o hb e => hs7.extBut b o hb e) H5C (Ne.symm (ltC locLt)) (.inr (Nat.le_trans I2.sz hCge)) (fun x c e => ltC (cellsLt x c e)) (fun p hp => ltC (pinLt p hp))
      have ho7 : h7.get? D = some { cls := .type "list", data := .seq us.toArray k } := hs7.extBut D _ hDC ho6
      refine ⟨.ref D, upd H5 D (.lst ys), ?_, rfl, fin D hD5⟩
      exact Inv.track J7 hD5 (Nat.le_trans I2.sz hDge) (Ne.symm (Nat.ne_of_lt locLt)) (fun x c e => Nat.ne_of_lt (cellsLt x c e)) (fun p hp => Nat.ne_of_lt (pinLt p hp)) ⟨Nat.le_of_lt hsz, us, k, rv5, ho7⟩
    · refine thn (T.item (blk X N' sc cl C s2 H2 fp (X.pn ++ pins)) rfl rfl rfl hc i _ s5 τ H5 NoX I5p (fpB fr5 (Dfp _)) st5 go) fun r s6 ⟨u, hr, h6⟩ => ?_
      subst hr
      refine thn h6 fun _ s7 ⟨x, H7, I7, r7, y7, st7, fr7⟩ => ?_
      have I7p := I7.pinned (fpB fr7 (Dfp _)) (T.obj _ _ st7)
      refine thn (bG _ s7 τ H7 x u _ I7p r7 (step x H7 y7)) fun _ s8 ⟨τ8, H8, I8, q8⟩ => ?_
      have back : ∀ {τ9 : St} {H9 : Hp} {s9 : Shared}, Inv (blk X N' sc cl C s2 H2 fp (X.pn ++ pins)) ([(D, { cls := .type "list", data := .seq us.toArray k })] ++ abe fp s7.heap) τ9 H9 s9 ->
          tn (i + 1) s9.heap /\ (∀ b ∈ fp, H9 b = none) /\ s9.heap.get? D = some { cls := .type "list", data := .seq us.toArray k } /\ H9 D = none := fun {τ9 H9 s9} I9 => by
        have pD := I9.pin (D, { cls := .type "list", data := .seq us.toArray k }) (List.mem_append_right _ (List.mem_append_left _ (List.mem_singleton.mpr rfl)))
        refine ⟨T.keep _ _ _ st7 fun b hb o e => (I9.pin (b, o) (List.mem_append_right _ (List.mem_append_right _ (zT hb e)))).1, fun b hb => ?_, pD.1, pD.2.1⟩
        obtain ⟨o, e, _⟩ := T.obj _ _ st7 b hb
        exact (I9.pin (b, o) (List.mem_append_right _ (List.mem_append_right _ (zT hb e)))).2.1
      have drop : ∀ {τ9 : St} {H9 : Hp} {s9 : Shared} {pl : List (Addr × Obj)}, Inv (blk X N' sc cl C s2 H2 fp (X.pn ++ pins)) pl τ9 H9 s9 -> Inv (blk X N' sc cl C s2 H2 fp (X.pn ++ pins)) [] τ9 H9 s9 := fun I9 => I9.pins_of fun p hp => nomatch hp
      refine thn (bT _ s8 τ8 H8 _ I8 q8) fun b s9 ⟨H9, I9, q9⟩ => ?_
      cases b with
      | false =>
        rw [if_neg Bool.false_ne_true] at q9 ⊢
        obtain ⟨m', hm, w9⟩ := q9
        obtain ⟨t9, f9, o9, d9⟩ := back I9
        exact ⟨m', hm, i + 1, τ8, ys, us, k, H9, drop I9, t9, f9, rv5, o9, d9, w9⟩
      | true =>
        rw [if_pos rfl] at q9 ⊢
        refine thn (bE _ s9 τ8 H9 _ I9 q9) fun y s10 ⟨z, H10, I10, r10, q10⟩ => ?_
        obtain ⟨m', hm, w10⟩ := q10
        obtain ⟨t10, f10, o10, d10⟩ := back I10
        have hl := rv5.length
        refine append_at (hsz := by show us.toArray.size <= sizeLine; rw [List.size_toArray, ← hl]; exact Nat.le_of_lt hsz) o10 fun h11 hs11 hD11 => ?_
        have I11 : Inv (blk X N' sc cl C s2 H2 fp (X.pn ++ pins)) [] τ8 H10 { s10 with heap := h11, toks := s10.toks } := (drop I10).turned (it := D) (fun b o hb e => hs11.extBut b o hb e) d10 hDC (.inr hDge) (fun x c e => Nat.ne_of_lt (cellsLt x c (clm x c e)))
          (fun p hp => by have hp' : p ∈ X.pn ++ pins := by simpa [blk] using hp
                          exact Nat.ne_of_lt (pinLt p hp'))
        refine ⟨m', hm, i + 1, τ8, ys ++ [z], us ++ [y], k + 1, H10, I11, T.keep _ _ _ t10 (fun b hb o e => hs11.extBut b o (Nat.ne_of_lt (fpLt b hb)) e), f10, rv5.append (.cons r10 .nil), ?_, d10, w10⟩
        rw [hD11]
        simp
  refine codeAny_compStart_list loop ?_
  exact T.self _ 0 _ _ _ (T.keep _ _ _ st2 (fun b _ o e => old b o e)) loop
theorem jt.tup {K:PySem.W.Frag}{H H':Hp}{a:Addr}{xs:List V} (e:jt H H') (h:SqT K H a xs):SqT K H' a xs:=by
 rcases h with (h | ⟨o,h⟩) | h
 ·exact .inl (.inl (e _ _ h))
 ·exact .inl (.inr ⟨o,e _ _ h⟩)
 ·exact .inr h
noncomputable def scr (ns:List Int):PyData:= .dict (ns.map fun n=>(.int n,.none))
mutual
noncomputable def Rep (K:PySem.W.Frag) (H:Hp):PyData->V->Prop
 | .none,v=>v= .non
 | .bool b,v=>v= .bl b
 | .int i,v=>v= .int i
 | .str x,v=>v= .str x
 | .tuple ds,v=>∃ a xs,v= .ref a/\SqT K H a xs/\Reps K H ds xs
 | .list ds,v=>∃ a xs,v= .ref a/\H a=some (.lst xs)/\Reps K H ds xs
 | .dict kvs,v=>∃ a,v= .ref a/\((∃ ns:List Int,SqL K H a (List.map V.int ns)/\kvs=ns.map (fun n=>(PyData.int n,PyData.none))) ∨ (∃ ks ob,H a=some (.frz ob (.dK ks))/\RepD K H kvs ks) ∨ (∃ x:Str,kvs=[(.str x,.none)]/\PySem.W.nsIn K mainGlobals x=some (some (.ref a))) ∨ ∃ (x:Str) (C:Addr) (oe:Obj),kvs=[(.str x,.bool true)]/\H a=some (.frz oe (.own a))/\PySem.W.nsIn K mainGlobals x=some (some (.ref C))/\oe.cls= .ref C/\oe.dict=none/\∃ vs,oe.data= .fields vs)
noncomputable def Reps (K:PySem.W.Frag) (H:Hp):List PyData->List V->Prop
 | [],xs=>xs=[]
 | d::ds,xs=>∃ x r,xs=x::r/\Rep K H d x/\Reps K H ds r
noncomputable def RepD (K:PySem.W.Frag) (H:Hp):List (PyData × PyData)->List (Key × V)->Prop
 | [],_=>False
 | (.none,_)::r,ks=>RepM K H r ks
 | _::_,_=>False
noncomputable def RepM (K:PySem.W.Frag) (H:Hp):List (PyData × PyData)->List (Key × V)->Prop
 | [],ks=>ks=[]
 | (k,d)::r,ks=>∃ i x s,k= .int i/\ks=(Sum.inl i,x)::s/\Rep K H d x/\RepM K H r s
end
noncomputable def Jp (kvs:List (PyData × PyData)):Bool:=kvs.all fun p=>match p with
 | (.int _,.none)=>true
 | _=>false
theorem adK (ns:List Int):Jp (ns.map fun n=>(PyData.int n,PyData.none))=true:=by
 simp [Jp]
theorem RepD.out {K:PySem.W.Frag}{H:Hp}:∀ {kvs:List (PyData × PyData)}{ks:List (Key × V)},RepD K H kvs ks->∃ c r,kvs=(.none,c)::r/\RepM K H r ks
 | [],_,h=>h.elim
 | (.none,c)::r,ks,h=>⟨c,r,rfl,h⟩
 | (.bool _,_)::_,_,h=>h.elim
 | (.int _,_)::_,_,h=>h.elim
 | (.str _,_)::_,_,h=>h.elim
 | (.list _,_)::_,_,h=>h.elim
 | (.tuple _,_)::_,_,h=>h.elim
 | (.dict _,_)::_,_,h=>h.elim
theorem Rep.scrOut {K:PySem.W.Frag}{H:Hp}{kvs:List (PyData × PyData)}{v:V} (h:Rep K H (.dict kvs) v) (hs:Jp kvs=true):∃ a ns,v= .ref a/\SqL K H a (List.map V.int ns)/\kvs=ns.map (fun n=>(PyData.int n,PyData.none)):=by
 obtain ⟨a,h1,h2 | ⟨ks,ob,h2,h3⟩ | ⟨x,h2,_⟩ | ⟨x,_,_,h2,_⟩⟩:=h
 ·obtain ⟨ns,q1,q2⟩:=h2; exact ⟨a,ns,h1,q1,q2⟩
 ·obtain ⟨c,r,rfl,_⟩:=h3.out
  simp [Jp] at hs
 ·subst h2; simp [Jp] at hs
 ·subst h2; simp [Jp] at hs
noncomputable def Jm (x:Str):PyData:= .dict [(.str x,.bool true)]
noncomputable def fnD (x:Str):PyData:= .dict [(.str x,.none)]
noncomputable def jQ (H H':Hp):Prop:=∀ b o,H b=some o->(∀ φ,o ≠ .ext φ)->H' b=some o
theorem jt.e {H H':Hp} (s:jt H H'):jQ H H':=fun b o h _=>s b o h
theorem jQ.refl (H:Hp):jQ H H:=fun _ _ h _=>h
theorem jQ.trans {H H1 H2:Hp} (a:jQ H H1) (b:jQ H1 H2):jQ H H2:=fun c o h n=>b c o (a c o h n) n
theorem jQ.tup {K:PySem.W.Frag}{H H':Hp}{a:Addr}{xs:List V} (e:jQ H H') (h:SqT K H a xs):SqT K H' a xs:=by
 rcases h with (h | ⟨o,h⟩) | h
 ·exact .inl (.inl (e _ _ h fun _ z=>nomatch z))
 ·exact .inl (.inr ⟨o,e _ _ h fun _ z=>nomatch z⟩)
 ·exact .inr h
theorem jQ.sql {K:PySem.W.Frag}{H H':Hp}{a:Addr}{xs:List V} (e:jQ H H') (h:SqL K H a xs):SqL K H' a xs:=by
 rcases h with (h | ⟨o,h⟩) | h
 ·exact .inl (.inl (e _ _ h fun _ z=>nomatch z))
 ·exact .inl (.inr ⟨o,e _ _ h fun _ z=>nomatch z⟩)
 ·exact .inr h
section
variable {K:PySem.W.Frag}{H H':Hp}
mutual
theorem Rep.mono (e:jt H H'):∀ (d:PyData) (v:V),Rep K H d v->Rep K H' d v
 | .none,v,h=>h
 | .bool _,v,h=>h
 | .int _,v,h=>h
 | .str _,v,h=>h
 | .tuple ds,v,⟨a,xs,h1,h2,h3⟩=>⟨a,xs,h1,jt.tup e h2,Reps.mono e ds xs h3⟩
 | .list ds,v,⟨a,xs,h1,h2,h3⟩=>⟨a,xs,h1,e _ _ h2,Reps.mono e ds xs h3⟩
 | .dict kvs,v,⟨a,h1,h2⟩=>⟨a,h1,h2.imp (fun ⟨ns,q1,q2⟩=>⟨ns,e.seq q1,q2⟩) fun z=>z.imp (fun ⟨ks,ob,q1,q2⟩=>⟨ks,ob,e _ _ q1,RepD.mono e kvs ks q2⟩) fun y=>y.imp id fun ⟨x,C,oe,q1,q2,q3⟩=>⟨x,C,oe,q1,e _ _ q2,q3⟩⟩
theorem Reps.mono (e:jt H H'):∀ (ds:List PyData) (xs:List V),Reps K H ds xs->Reps K H' ds xs
 | [],xs,h=>h
 | d::ds,xs,⟨x,r,h1,h2,h3⟩=>⟨x,r,h1,Rep.mono e d x h2,Reps.mono e ds r h3⟩
theorem RepD.mono (e:jt H H'):∀ (kvs:List (PyData × PyData)) (ks:List (Key × V)),RepD K H kvs ks->RepD K H' kvs ks
 | [],_,h=>h
 | (.none,c)::r,ks,h=>RepM.mono e r ks h
 | (.bool _,_)::_,_,h=>h
 | (.int _,_)::_,_,h=>h
 | (.str _,_)::_,_,h=>h
 | (.list _,_)::_,_,h=>h
 | (.tuple _,_)::_,_,h=>h
 | (.dict _,_)::_,_,h=>h
theorem RepM.mono (e:jt H H'):∀ (kvs:List (PyData × PyData)) (ks:List (Key × V)),RepM K H kvs ks->RepM K H' kvs ks
 | [],_,h=>h
 | (k,d)::r,ks,⟨i,x,s,h1,h2,h3,h4⟩=>⟨i,x,s,h1,h2,Rep.mono e d x h3,RepM.mono e r s h4⟩
end
mutual
theorem Rep.monoE (e:jQ H H'):∀ (d:PyData) (v:V),Rep K H d v->Rep K H' d v
 | .none,v,h=>h
 | .bool _,v,h=>h
 | .int _,v,h=>h
 | .str _,v,h=>h
 | .tuple ds,v,⟨a,xs,h1,h2,h3⟩=>⟨a,xs,h1,jQ.tup e h2,Reps.monoE e ds xs h3⟩
 | .list ds,v,⟨a,xs,h1,h2,h3⟩=>⟨a,xs,h1,e _ _ h2 (fun _ z=>nomatch z),Reps.monoE e ds xs h3⟩
 | .dict kvs,v,⟨a,h1,h2⟩=>⟨a,h1,h2.imp (fun ⟨ns,q1,q2⟩=>⟨ns,jQ.sql e q1,q2⟩) fun z=>z.imp (fun ⟨ks,ob,q1,q2⟩=>⟨ks,ob,e _ _ q1 (fun _ z=>nomatch z),RepD.monoE e kvs ks q2⟩) fun y=>y.imp id fun ⟨x,C,oe,q1,q2,q3⟩=>⟨x,C,oe,q1,e _ _ q2 (fun _ z=>nomatch z),q3⟩⟩
theorem Reps.monoE (e:jQ H H'):∀ (ds:List PyData) (xs:List V),Reps K H ds xs->Reps K H' ds xs
 | [],xs,h=>h
 | d::ds,xs,⟨x,r,h1,h2,h3⟩=>⟨x,r,h1,Rep.monoE e d x h2,Reps.monoE e ds r h3⟩
theorem RepD.monoE (e:jQ H H'):∀ (kvs:List (PyData × PyData)) (ks:List (Key × V)),RepD K H kvs ks->RepD K H' kvs ks
 | [],_,h=>h
 | (.none,c)::r,ks,h=>RepM.monoE e r ks h
 | (.bool _,_)::_,_,h=>h
 | (.int _,_)::_,_,h=>h
 | (.str _,_)::_,_,h=>h
 | (.list _,_)::_,_,h=>h
 | (.tuple _,_)::_,_,h=>h
 | (.dict _,_)::_,_,h=>h
theorem RepM.monoE (e:jQ H H'):∀ (kvs:List (PyData × PyData)) (ks:List (Key × V)),RepM K H kvs ks->RepM K H' kvs ks
 | [],_,h=>h
 | (k,d)::r,ks,⟨i,x,s,h1,h2,h3,h4⟩=>⟨i,x,s,h1,h2,Rep.monoE e d x h3,RepM.monoE e r s h4⟩
end
theorem Reps.length:∀ {ds:List PyData}{xs:List V},Reps K H ds xs->xs.length=ds.length
 | [],xs,h=>by cases h; rfl
 | d::ds,xs,⟨x,r,h1,h2,h3⟩=>by subst h1; simp [Reps.length h3]
theorem Reps.get:∀ {ds:List PyData}{xs:List V}{i:Nat}{d:PyData},Reps K H ds xs->ds[i]?=some d->∃ x,xs[i]?=some x/\Rep K H d x
 | [],xs,i,d,h,e=>by simp at e
 | c::ds,xs,0,d,⟨x,r,h1,h2,h3⟩,e=>by subst h1; simp at e; subst e; exact ⟨x,rfl,h2⟩
 | c::ds,xs,i+1,d,⟨x,r,h1,h2,h3⟩,e=>by
  subst h1
  obtain ⟨y,e1,e2⟩:=Reps.get (i:=i) h3 (by simpa using e)
  exact ⟨y,by simpa using e1,e2⟩
theorem Reps.append:∀ {ds es:List PyData}{xs ys:List V},Reps K H ds xs->Reps K H es ys->Reps K H (ds++es) (xs++ys)
 | [],es,xs,ys,h,g=>by cases h; exact g
 | d::ds,es,xs,ys,⟨x,r,h1,h2,h3⟩,g=>by subst h1; exact ⟨x,r++ys,rfl,h2,Reps.append h3 g⟩
theorem Reps.take:∀ {ds:List PyData}{xs:List V} (n:Nat),Reps K H ds xs->Reps K H (ds.take n) (xs.take n)
 | ds,xs,0,h=>by simp; rfl
 | [],xs,n+1,h=>by cases h; rfl
 | d::ds,xs,n+1,⟨x,r,h1,h2,h3⟩=>by subst h1; exact ⟨x,_,rfl,h2,Reps.take n h3⟩
theorem Reps.drop:∀ {ds:List PyData}{xs:List V} (n:Nat),Reps K H ds xs->Reps K H (ds.drop n) (xs.drop n)
 | ds,xs,0,h=>by simpa using h
 | [],xs,n+1,h=>by cases h; rfl
 | d::ds,xs,n+1,⟨x,r,h1,h2,h3⟩=>by subst h1; simpa using Reps.drop n h3
theorem Reps.ints:∀ {ns:List Int}{xs:List V},Reps K H (ns.map PyData.int) xs->xs=ns.map V.int
 | [],xs,h=>h
 | n::ns,xs,⟨x,r,h1,h2,h3⟩=>by subst h1; cases (show x=V.int n from h2); rw [Reps.ints h3]; rfl
end
section
variable {X:Cx}{pins:List (Addr × Obj)}{σ:St}{H:Hp}{s:Shared}
mutual
theorem qS (I:Inv X pins σ H s):∀ (d:PyData) (v:V) (u:Value),Rep X.K H d v->jU v u->d.canLay0=true->∃ as,Reads s.heap u d as
 | .none,v,u,h,r,_=>by cases h; cases r; exact ⟨_,.none⟩
 | .bool b,v,u,h,r,_=>by cases h; cases r; exact ⟨_,.bool b⟩
 | .int i,v,u,h,r,_=>by cases h; obtain ⟨t,rfl⟩:=r; exact ⟨_,.int i t⟩
 | .str x,v,u,h,r,_=>by cases h; obtain ⟨t,rfl⟩:=r; exact ⟨_,.str x t⟩
 | .tuple ds,v,u,⟨a,xs,h1,h2,h3⟩,r,hc=>by
  subst h1; cases r
  obtain ⟨its,rv,⟨o,e1,e2,n,e3⟩,_⟩:=I.tuple h2
  obtain ⟨as,ra⟩:=readsAll_of I ds xs its h3 rv (by simpa [PyData.canLay0] using hc)
  exact ⟨as,.tuple e1 e2 e3 (by simpa using ra)⟩
 | .list ds,v,u,⟨a,xs,h1,h2,h3⟩,r,hc=>by
  subst h1; cases r
  obtain ⟨its,rv,⟨o,n,e1,e2,e3,e4⟩,_⟩:=I.list (SqL.of h2)
  obtain ⟨as,ra⟩:=readsAll_of I ds xs its h3 rv (by simpa [PyData.canLay0] using hc)
  exact ⟨a::as,.list e1 e2 e4 (by simpa using ra)⟩
 | .dict kvs,v,u,h,r,hc=>by simp [PyData.canLay0] at hc
theorem readsAll_of (I:Inv X pins σ H s):∀ (ds:List PyData) (xs:List V) (us:List Value),Reps X.K H ds xs->jI xs us->PyData.canLayAll0 ds=true->∃ as,ReadsAll s.heap us ds as
 | [],xs,us,h,r,_=>by cases h; cases r; exact ⟨_,.nil⟩
 | d::ds,xs,us,⟨x,q,h1,h2,h3⟩,r,hc=>by
  subst h1
  cases r with
  | cons r1 r2=>
   have hc':d.canLay0=true/\PyData.canLayAll0 ds=true:=by simpa [PyData.canLayAll0] using hc
   obtain ⟨as,ra⟩:=qS I d x _ h2 r1 hc'.1
   obtain ⟨bs,rb⟩:=readsAll_of I ds q _ h3 r2 hc'.2
   exact ⟨_,.cons ra rb⟩
end
end
noncomputable abbrev Rho:=List (Option PyData)
structure EnvR (K:PySem.W.Frag) (H:Hp) (ρ:Rho) (σ:St):Prop where
 len:ρ.length=σ.length
 at':∀ (i:Nat) (d:PyData),ρ[i]?=some (some d)->∃ v,σ[i]?=some (some v)/\Rep K H d v
theorem EnvR.mono {K:PySem.W.Frag}{H H':Hp}{ρ:Rho}{σ:St} (e:EnvR K H ρ σ) (h:jt H H'):EnvR K H' ρ σ:=
 ⟨e.len,fun i d q=>let ⟨v,e1,e2⟩:=e.at' i d q; ⟨v,e1,Rep.mono h d v e2⟩⟩
theorem EnvR.set {K:PySem.W.Frag}{H:Hp}{ρ:Rho}{σ:St} (e:EnvR K H ρ σ) {i:Nat}{d:PyData}{v:V} (r:Rep K H d v):EnvR K H (ρ.set i (some d)) (σ.set i (some v)):=by
 refine ⟨by simp [e.len],fun j c q=>?_⟩
 by_cases hj:i=j
 ·subst hj
  rw [List.getElem?_set] at q ⊢
  simp only [zzM] at q ⊢
  by_cases hl:i < ρ.length
  ·rw [if_pos hl] at q
   rw [if_pos (by rw [←e.len]; exact hl)]
   cases q
   exact ⟨v,rfl,r⟩
  ·rw [if_neg hl] at q; cases q
 ·rw [List.getElem?_set_ne hj] at q ⊢
  exact e.at' j c q
noncomputable def lkp (i:Nat) (ρ:Rho):Option PyData:=(ρ[i]?).join
theorem qE {i:Nat}{ρ:Rho}{d:PyData} (h:lkp i ρ=some d):ρ[i]?=some (some d):=by
 unfold lkp at h
 cases e:ρ[i]? with
 | none=>rw [e] at h; cases h
 | some o=>rw [e] at h; cases o with
  | none=>cases h
  | some c=>cases h; rfl
noncomputable def tD (K:PySem.W.Frag) (f:Rho->Option PyData):TE:=fun σ H Q=>∃ ρ d,EnvR K H ρ σ/\f ρ=some d/\∀ v H',jt H H'->Rep K H' d v->Q v H'
@[irreducible] noncomputable def PD (X:Cx) (e:Expr) (f:Rho->Option PyData):Prop:=PE X e (tD X.K f)
noncomputable def tDT (K:PySem.W.Frag) (f:Rho->Option Bool):TT:=fun σ H Q=>∃ ρ b,EnvR K H ρ σ/\f ρ=some b/\∀ H',jt H H'->Q b H'
@[irreducible] noncomputable def PTD (X:Cx) (e:Expr) (f:Rho->Option Bool):Prop:=PT X e (tDT X.K f)
noncomputable def tDA (K:PySem.W.Frag) (f:Rho->Option (List PyData)):TA:=fun σ H Q=>∃ ρ ds,EnvR K H ρ σ/\f ρ=some ds/\∀ vs H',jt H H'->Reps K H' ds vs->Q vs H'
@[irreducible] noncomputable def PAD (X:Cx) (es:List Expr) (f:Rho->Option (List PyData)):Prop:=PA X es (tDA X.K f)
inductive Out where
 | nx (ρ:Rho) | rt (d:PyData) | bk (ρ:Rho) | ct (ρ:Rho)
noncomputable def ain (K:PySem.W.Frag) (D:Ends) (H:Hp):Out->Prop
 | .nx ρ=>∀ σ H',jt H H'->EnvR K H' ρ σ->D.nx σ H'
 | .rt d=>∀ v H',jt H H'->Rep K H' d v->D.rt v H'
 | .bk ρ=>∀ σ H',jt H H'->EnvR K H' ρ σ->D.bk σ H'
 | .ct ρ=>∀ σ H',jt H H'->EnvR K H' ρ σ->D.ct σ H'
theorem ain.mono {K:PySem.W.Frag}{D:Ends}{H H':Hp}{o:Out} (h:ain K D H o) (e:jt H H'):ain K D H' o:=by
 cases o with
 | nx ρ=>exact fun σ H2 e2 r=>h σ H2 (e.trans e2) r
 | rt d=>exact fun v H2 e2 r=>h v H2 (e.trans e2) r
 | bk ρ=>exact fun σ H2 e2 r=>h σ H2 (e.trans e2) r
 | ct ρ=>exact fun σ H2 e2 r=>h σ H2 (e.trans e2) r
noncomputable def tDS (K:PySem.W.Frag) (F:Rho->Option Out):TS:=fun D σ H=>∃ ρ o,EnvR K H ρ σ/\F ρ=some o/\ain K D H o
@[irreducible] noncomputable def PSD (X:Cx) (st:Stmt) (F:Rho->Option Out):Prop:=PS X st (tDS X.K F)
@[irreducible] noncomputable def Z9 (X:Cx) (st:List Stmt) (F:Rho->Option Out):Prop:=PSs X st (tDS X.K F)
noncomputable def tDG (K:PySem.W.Frag) (ga:PyData->Rho->Option Rho):TG:=fun v σ H Q=>∃ ρ d ρ',EnvR K H ρ σ/\Rep K H d v/\ga d ρ=some ρ'/\∀ σ' H',jt H H'->EnvR K H' ρ' σ'->Q σ' H'
@[irreducible] noncomputable def PGD (X:Cx) (tg:Expr) (ga:PyData->Rho->Option Rho):Prop:=PG X tg (tDG X.K ga)
section
variable {X:Cx}{e a b c:Expr}{es:List Expr}{fa fb fc:Rho->Option PyData}{pos:Pos}
theorem PE.imp {t t':TE} (h:PE X e t) (hi:∀ σ H Q,t' σ H Q->t σ H Q):PE X e t':=fun pins s σ H Q I q=>h pins s σ H Q I (hi σ H Q q)
theorem PT.imp {t t':TT} (h:PT X e t) (hi:∀ σ H Q,t' σ H Q->t σ H Q):PT X e t':=fun pins s σ H Q I q=>h pins s σ H Q I (hi σ H Q q)
theorem PA.imp {t t':TA} (h:PA X es t) (hi:∀ σ H Q,t' σ H Q->t σ H Q):PA X es t':=fun pos pins s σ H Q I q=>h pos pins s σ H Q I (hi σ H Q q)
theorem PS.imp {st:Stmt}{t t':TS} (h:PS X st t) (hi:∀ D σ H,t' D σ H->t D σ H):PS X st t':=fun pins s σ H D I q=>h pins s σ H D I (hi D σ H q)
theorem PSs.imp {st:List Stmt}{t t':TS} (h:PSs X st t) (hi:∀ D σ H,t' D σ H->t D σ H):PSs X st t':=fun pins s σ H D I q=>h pins s σ H D I (hi D σ H q)
theorem PG.imp {t t':TG} (h:PG X e t) (hi:∀ v σ H Q,t' v σ H Q->t v σ H Q):PG X e t':=fun pins s σ H v u Q I r q=>h pins s σ H v u Q I r (hi v σ H Q q)
theorem jb (i:Nat) {x:Str}{pos:Pos} (hN:X.N[i]?=some x:=by rfl) (hv:Vis X.env.scope x:=by first | exact Or.inl rfl | exact Or.inr (Or.inl rfl) | exact Or.inr (Or.inr rfl)) (hd:(x == ("__debug__":Str))=false:=by decide)
  (hcd:(x == ("__classdict__":Str))=false:=by decide):PD X (.Name x pos) (lkp i):=by
 with_unfolding_all exact (PE.imp (abc hN hv hd hcd) fun σ H Q ⟨ρ,d,e,h,k⟩=>let ⟨v,e1,e2⟩:=e.at' i d (qE h); ⟨v,e1,k v H (jt.refl H) e2⟩)
noncomputable def cst (d:PyData) (_:Rho):Option PyData:=some d
theorem jf {i j pos}:PD X (.Constant (.int i) j pos) (cst (.int i)):=by
 with_unfolding_all exact (PE.imp akn fun σ H Q ⟨ρ,d,e,h,k⟩=>by cases h; exact k _ H (jt.refl H) rfl)
theorem zl {i j pos}:PD X (.Constant (.bool i) j pos) (cst (.bool i)):=by
 with_unfolding_all exact (PE.imp aqg fun σ H Q ⟨ρ,d,e,h,k⟩=>by cases h; exact k _ H (jt.refl H) rfl)
theorem Zb {j pos}:PD X (.Constant .none j pos) (cst .none):=by
 with_unfolding_all exact (PE.imp aoV fun σ H Q ⟨ρ,d,e,h,k⟩=>by cases h; exact k _ H (jt.refl H) rfl)
theorem aeD {i j pos}:PD X (.Constant (.str i) j pos) (cst (.str i)):=by
 with_unfolding_all exact (PE.imp ako fun σ H Q ⟨ρ,d,e,h,k⟩=>by cases h; exact k _ H (jt.refl H) rfl)
theorem anh {x:Str}{v:V}{u:Value}{d:PyData} (hg:Gl X x) (hm:X.mg x=some u) (r:jU v u) (hr:∀ H,Rep X.K H d v) (hd:(x == ("__debug__":Str))=false:=by decide):PD X (.Name x pos) (cst d):=by
 with_unfolding_all exact (PE.imp (aeu hg hm r hd) fun σ H Q ⟨ρ,d',e,h,k⟩=>by cases h; exact k _ H (jt.refl H) (hr H))
noncomputable def op2 (g:PyData->PyData->Option PyData) (fa fb:Rho->Option PyData):Rho->Option PyData:=fun ρ=>(fa ρ).bind fun x=>(fb ρ).bind fun y=>g x y
noncomputable def OpD (X:Cx) (f:Value->Value->Sem Value) (g:PyData->PyData->Option PyData):Prop:=
 ∃ r,OpR X f r/\∀ p q d x y H Q,g p q=some d->Rep X.K H p x->Rep X.K H q y->(∀ v H',jt H H'->Rep X.K H' d v->Q v H')->r x y H Q
theorem ani {g:PyData->PyData->Option PyData}{K:PySem.W.Frag}{r:R2} (hr:∀ p q d x y H Q,g p q=some d->Rep K H p x->Rep K H q y->(∀ v H',jt H H'->Rep K H' d v->Q v H')->r x y H Q)
  {σ:St} {H:Hp} {Q:VK} (h:tD K (op2 g fa fb) σ H Q):tOp r (tD K fa) (tD K fb) σ H Q:=by
 obtain ⟨ρ,d,e,h,k⟩:=h
 unfold op2 at h
 cases ha:fa ρ with
 | none=>rw [ha] at h; cases h
 | some p=>
  rw [ha] at h
  cases hb:fb ρ with
  | none=>rw [hb] at h; cases h
  | some q=>
   rw [hb] at h
   refine ⟨ρ,p,e,ha,fun x H1 s1 r1=>⟨ρ,q,e.mono s1,hb,fun y H2 s2 r2=>?_⟩⟩
   exact hr p q d x y H2 Q h (Rep.mono s2 p x r1) r2 fun v H' s3 r3=>k v H' (s1.trans (s2.trans s3)) r3
theorem jq {op:Operator}{g:PyData->PyData->Option PyData} (ho:OpD X (binaryOp op) g) (ha:PD X a fa) (hb:PD X b fb):PD X (.BinOp a op b pos) (op2 g fa fb):=by
 with_unfolding_all
  obtain ⟨r,h1,h2⟩:=ho
  exact PE.imp (aqo h1 ha hb) fun σ H Q h=>ani h2 h
theorem abi {op:CmpOp}{g:PyData->PyData->Option PyData} (ho:OpD X (compareOp op) g) (ha:PD X a fa) (hb:PD X b fb) (hm:behindInMarks op b=false:=by first | exact ahc _ | with_unfolding_all rfl):PD X (.Compare a [op] [b] pos) (op2 g fa fb):=by
 with_unfolding_all
  obtain ⟨r,h1,h2⟩:=ho
  exact PE.imp (amY h1 ha hb hm) fun σ H Q h=>ani h2 h
noncomputable def asB:PyData->Option Bool
 | .bool b=>some b
 | _=>none
noncomputable def tst (f:Rho->Option PyData):Rho->Option Bool:=fun ρ=>(f ρ).bind asB
theorem JG {d:PyData}{b:Bool} (h:asB d=some b):d= .bool b:=by
 cases d <;> simp [asB] at h
 rw [h]
theorem jT {op:CmpOp}{g:PyData->PyData->Option PyData} (ho:OpD X (compareOp op) g) (ha:PD X a fa) (hb:PD X b fb) (hm:behindInMarks op b=false:=by first | exact ahc _ | with_unfolding_all rfl):PTD X (.Compare a [op] [b] pos) (tst (op2 g fa fb)):=by
 with_unfolding_all
  obtain ⟨r,h1,h2⟩:=ho
  refine PT.imp (amZ h1 ha hb hm) fun σ H Q ⟨ρ,t,e,h,k⟩=>?_
  cases hd:op2 g fa fb ρ with
  | none=>simp [tst,hd] at h
  | some d=>
   have ht:d= .bool t:=JG (by simpa [tst,hd] using h)
   subst ht
   exact ani h2 ⟨ρ,_,e,hd,fun v H' s r=>⟨t,r,k H' s⟩⟩
theorem qu (h:PD X e fa) (he:∀ whole,isTrue e X.env whole=(do let v ←whole; standAt e.pos; holding [v] (truthy v)):=by intro _; rfl):PTD X e (tst fa):=by
 with_unfolding_all
  refine PT.imp (aoX h he) fun σ H Q ⟨ρ,t,e,h,k⟩=>?_
  cases hd:fa ρ with
  | none=>simp [tst,hd] at h
  | some d=>
   have ht:d= .bool t:=JG (by simpa [tst,hd] using h)
   subst ht
   exact ⟨ρ,_,e,hd,fun v H' s r=>⟨t,r,k H' s⟩⟩
variable {ta tb:Rho->Option Bool}{qg:List Expr}
@[irreducible] noncomputable def PWD (X:Cx) (e:Expr) (f:Rho->Option Bool):Prop:=PW X e (tDT X.K f)
theorem PW.imp {t t':TT} (h:PW X e t) (hi:∀ σ H Q,t' σ H Q->t σ H Q):PW X e t':=fun wh pins s σ H Q I q=>h wh pins s σ H Q I (hi σ H Q q)
noncomputable def adl (ta tb:Rho->Option Bool):Rho->Option Bool:=fun ρ=>(ta ρ).bind fun x=>if x=true then tb ρ else some false
noncomputable def orB (ta tb:Rho->Option Bool):Rho->Option Bool:=fun ρ=>(ta ρ).bind fun x=>if x=true then some true else tb ρ
noncomputable def zO (ta:Rho->Option Bool):Rho->Option Bool:=fun ρ=>(ta ρ).map (!·)
theorem acB (ha:PTD X a ta):PWD X (.BoolOp .And [a] pos) ta:=by
 with_unfolding_all exact (amT ha)
theorem zY (ha:PTD X a ta):PWD X (.BoolOp .Or [a] pos) ta:=by
 with_unfolding_all exact (aoY ha)
theorem aeE (ha:PTD X a ta) (hb:PWD X (.BoolOp .And (b::qg) pos) tb):PWD X (.BoolOp .And (a::b::qg) pos) (adl ta tb):=by
 with_unfolding_all
  refine PW.imp (aoZ ha hb) fun σ H Q ⟨ρ,t,e,h,k⟩=>?_
  cases h1:ta ρ with
  | none=>simp [adl,h1] at h
  | some x=>
   refine ⟨ρ,x,e,h1,fun H' s=>?_⟩
   cases x with
   | true=>rw [if_pos rfl]; exact ⟨ρ,t,e.mono s,by simpa [adl,h1] using h,fun H2 s2=>k H2 (s.trans s2)⟩
   | false=>
    rw [if_neg Bool.false_ne_true]
    have:t=false:=by simpa [adl,h1] using h.symm
    subst this
    exact k H' s
theorem Qg (ha:PTD X a ta) (hb:PWD X (.BoolOp .Or (b::qg) pos) tb):PWD X (.BoolOp .Or (a::b::qg) pos) (orB ta tb):=by
 with_unfolding_all
  refine PW.imp (aqh ha hb) fun σ H Q ⟨ρ,t,e,h,k⟩=>?_
  cases h1:ta ρ with
  | none=>simp [orB,h1] at h
  | some x=>
   refine ⟨ρ,x,e,h1,fun H' s=>?_⟩
   cases x with
   | false=>rw [if_neg Bool.false_ne_true]; exact ⟨ρ,t,e.mono s,by simpa [orB,h1] using h,fun H2 s2=>k H2 (s.trans s2)⟩
   | true=>
    rw [if_pos rfl]
    have:t=true:=by simpa [orB,h1] using h.symm
    subst this
    exact k H' s
theorem qF {op:BoolOp}{l:List Expr} (h:PWD X (.BoolOp op l pos) ta):PTD X (.BoolOp op l pos) ta:=by
 with_unfolding_all exact (h.pt)
theorem qD (ha:PTD X a ta):PTD X (.UnaryOp .Not a pos) (zO ta):=by
 with_unfolding_all
  refine PT.imp (ao0 ha) fun σ H Q ⟨ρ,t,e,h,k⟩=>?_
  cases h1:ta ρ with
  | none=>simp [zO,h1] at h
  | some x=>
   have:(!x)=t:=by simpa [zO,h1] using h
   subst this
   exact ⟨ρ,x,e,h1,fun H' s=>k H' s⟩
noncomputable def ifD (tc:Rho->Option Bool) (fa fb:Rho->Option PyData):Rho->Option PyData:=fun ρ=>(tc ρ).bind fun x=>if x=true then fa ρ else fb ρ
theorem akQ {tc:Rho->Option Bool} (hc:PTD X c tc) (ha:PD X a fa) (hb:PD X b fb):PD X (.IfExp c a b pos) (ifD tc fa fb):=by
 with_unfolding_all
  refine PE.imp (akq hc ha hb) fun σ H Q ⟨ρ,d,e,h,k⟩=>?_
  cases h1:tc ρ with
  | none=>simp [ifD,h1] at h
  | some x=>
   refine ⟨ρ,x,e,h1,fun H' s=>?_⟩
   cases x with
   | true=>rw [if_pos rfl]; exact ⟨ρ,d,e.mono s,by simpa [ifD,h1] using h,fun v H2 s2=>k v H2 (s.trans s2)⟩
   | false=>rw [if_neg Bool.false_ne_true]; exact ⟨ρ,d,e.mono s,by simpa [ifD,h1] using h,fun v H2 s2=>k v H2 (s.trans s2)⟩
noncomputable def jF (_:Rho):Option (List PyData):=some []
noncomputable def jr (fa:Rho->Option PyData) (fr:Rho->Option (List PyData)):Rho->Option (List PyData):=fun ρ=>(fa ρ).bind fun x=>(fr ρ).map fun r=>x::r
theorem jd:PAD X [] jF:=by
 with_unfolding_all exact (PA.imp Jl fun σ H Q ⟨ρ,d,e,h,k⟩=>by cases h; exact k [] H (jt.refl H) rfl)
theorem ja {fr:Rho->Option (List PyData)} (ha:PD X e fa) (hr:PAD X es fr) (hs:starEach (e::es) X.env=(false,eval e X.env)::starEach es X.env:=by rfl):PAD X (e::es) (jr fa fr):=by
 with_unfolding_all
  refine PA.imp (qM ha hr hs) fun σ H Q ⟨ρ,ds,en,h,k⟩=>?_
  cases h1:fa ρ with
  | none=>simp [jr,h1] at h
  | some x=>
   cases h2:fr ρ with
   | none=>simp [jr,h1,h2] at h
   | some r=>
    have:x::r=ds:=by simpa [jr,h1,h2] using h
    subst this
    exact ⟨ρ,x,en,h1,fun v H1 s1 r1=>⟨ρ,r,en.mono s1,h2,fun vs H2 s2 r2=>k _ H2 (s1.trans s2) ⟨v,vs,rfl,Rep.mono s2 x v r1,r2⟩⟩⟩
noncomputable def few (ds:List PyData):Bool:=decide (ds.length < 1000000)
theorem acC {n:Nat} (h:n < 1000000):n<=sizeLine:=Nat.le_of_lt (Nat.lt_of_lt_of_le h (by rw [sizeLine_eq]; decide))
theorem jA {H:Hp}{p:Addr}{o:HO} (hp:H p=none):jt H (upd H p o):=fun b u h=>by rw [jo (qL h hp)]; exact h
noncomputable def Qn (fr:Rho->Option (List PyData)):Rho->Option PyData:=fun ρ=>(fr ρ).bind fun ds=>if few ds=true then some (.tuple ds) else none
noncomputable def Q5 (fr:Rho->Option (List PyData)):Rho->Option PyData:=fun ρ=>(fr ρ).bind fun ds=>if few ds=true then some (.list ds) else none
theorem j8 {x1}{fr:Rho->Option (List PyData)} (h:PAD X es fr):PD X (.Tuple es x1 pos) (Qn fr):=by
 with_unfolding_all
  refine PE.imp (akD h) fun σ H Q ⟨ρ,d,e,h,k⟩=>?_
  cases h1:fr ρ with
  | none=>simp [Qn,h1] at h
  | some ds=>
   by_cases hf:few ds=true
   ·have:PyData.tuple ds=d:=by simpa [Qn,h1,hf] using h
    subst this
    refine ⟨ρ,ds,e,h1,fun vs H1 s1 r1=>⟨acC (by rw [r1.length]; simpa [few] using hf),fun p hp=>k _ _ (s1.trans (jA hp)) ⟨p,vs,rfl,SqT.of jp,Reps.mono (jA hp) _ _ r1⟩⟩⟩
   ·simp [Qn,h1,hf] at h
theorem qr {fr:Rho->Option (List PyData)} (h:PAD X es fr):PD X (.List es pos) (Q5 fr):=by
 with_unfolding_all
  refine PE.imp (ahe h) fun σ H Q ⟨ρ,d,e,h,k⟩=>?_
  cases h1:fr ρ with
  | none=>simp [Q5,h1] at h
  | some ds=>
   by_cases hf:few ds=true
   ·have:PyData.list ds=d:=by simpa [Q5,h1,hf] using h
    subst this
    refine ⟨ρ,ds,e,h1,fun vs H1 s1 r1=>⟨acC (by rw [r1.length]; simpa [few] using hf),fun p hp=>k _ _ (s1.trans (jA hp)) ⟨p,vs,rfl,jp,Reps.mono (jA hp) _ _ r1⟩⟩⟩
   ·simp [Q5,h1,hf] at h
end
end BX
end
section
namespace BX
open PySem PySem.Spec L2
open PyProof.Rows hiding St
section
variable {X:Cx}{e a b c tg src:Expr}{es:List Expr}{st:Stmt}{sts qg:List Stmt}{fa fb fc:Rho->Option PyData}{F G:Rho->Option Out}{pos:Pos}
noncomputable def zD (fa:Rho->Option PyData):Rho->Option Out:=fun ρ=>(fa ρ).map Out.rt
theorem jw (h:PD X e fa):PSD X (.Return (some e) pos) (zD fa):=by
 with_unfolding_all
  refine PS.imp (ag9 h) fun D σ H ⟨ρ,o,en,q,k⟩=>?_
  cases h1:fa ρ with
  | none=>simp [zD,h1] at q
  | some d=>
   have:Out.rt d=o:=by simpa [zD,h1] using q
   subst this
   exact ⟨ρ,d,en,h1,k⟩
noncomputable def ifS (tc:Rho->Option Bool) (F G:Rho->Option Out):Rho->Option Out:=fun ρ=>(tc ρ).bind fun x=>if x=true then F ρ else G ρ
theorem j9 {l r:List Stmt}{tc:Rho->Option Bool} (hc:PTD X c tc) (hl:Z9 X l F) (hr:Z9 X r G):PSD X (.If c l r pos) (ifS tc F G):=by
 with_unfolding_all
  refine PS.imp (aoy hc hl hr) fun D σ H ⟨ρ,o,en,q,k⟩=>?_
  cases h1:tc ρ with
  | none=>simp [ifS,h1] at q
  | some x=>
   refine ⟨ρ,x,en,h1,fun H1 s1=>?_⟩
   cases x with
   | true=>rw [if_pos rfl]; exact ⟨ρ,o,en.mono s1,by simpa [ifS,h1] using q,k.mono s1⟩
   | false=>rw [if_neg Bool.false_ne_true]; exact ⟨ρ,o,en.mono s1,by simpa [ifS,h1] using q,k.mono s1⟩
noncomputable def zh:Rho->Option Out:=fun ρ=>some (.nx ρ)
noncomputable def jV (F G:Rho->Option Out):Rho->Option Out:=fun ρ=>(F ρ).bind fun o=>match o with
 | .nx ρ'=>G ρ'
 | o=>some o
theorem ji:Z9 X [] zh:=by
 with_unfolding_all
  refine PSs.imp aic fun D σ H ⟨ρ,o,en,q,k⟩=>?_
  cases q
  exact k σ H (jt.refl H) en
theorem je (h1 : PSD X st F) (h2 : Z9 X qg G) : Z9 X (st :: qg) (jV F G) := by
  with_unfolding_all
   refine PSs.imp (JE h1 h2) fun D σ H ⟨ρ, o, en, q, k⟩ => ?_
   cases hf : F ρ with
   | none => simp [jV, hf] at q
   | some p =>
     refine ⟨ρ, p, en, hf, ?_⟩
     cases p with
     | nx ρ' => exact fun σ' H' s' r' => ⟨ρ', o, r', by simpa [jV, hf] using q, k.mono s'⟩
     | rt d => have : Out.rt d = o := by simpa [jV, hf] using q
               subst this; exact k
     | bk d => have : Out.bk d = o := by simpa [jV, hf] using q
               subst this; exact k
     | ct d => have : Out.ct d = o := by simpa [jV, hf] using q
               subst this; exact k
noncomputable def aeF:Rho->Option Out:=fun _=>none
theorem ajk:PSD X st aeF:=by
 with_unfolding_all exact (PS.imp aks fun D σ H ⟨ρ,o,en,q,k⟩=>by cases q)
theorem aal:Z9 X sts aeF:=by
 with_unfolding_all exact (PSs.imp ai7 fun D σ H ⟨ρ,o,en,q,k⟩=>by cases q)
noncomputable def QG (fa:Rho->Option PyData):Rho->Option Out:=fun ρ=>(fa ρ).map fun _=> .nx ρ
theorem qG (h:PD X e fa) (hs:swapsWith e none pos.line X.env=pure false:=by rfl):PSD X (.Expr e pos) (QG fa):=by
 with_unfolding_all
  refine PS.imp (aew h hs) fun D σ H ⟨ρ,o,en,q,k⟩=>?_
  cases h1:fa ρ with
  | none=>simp [QG,h1] at q
  | some d=>
   have:Out.nx ρ=o:=by simpa [QG,h1] using q
   subst this
   exact ⟨ρ,d,en,h1,fun v H' s r=>k σ H' s (en.mono s)⟩
noncomputable def jJ (i:Nat) (d:PyData) (ρ:Rho):Option Rho:=some (ρ.set i (some d))
theorem jG (i:Nat) {x:Str} (hN:X.N.Nodup) (hi:X.N[i]?=some x:=by rfl) (hx:Loc X.env.scope x:=by first | exact Or.inl rfl | exact Or.inr rfl)
  (hf:X.fn x=true ∨ X.env.scope.names.lookup x=some .local:=by first | exact .inl rfl | exact .inr rfl | assumption):PGD X (.Name x pos) (jJ i):=by
 with_unfolding_all
  refine PG.imp (aav hN hi hx hf) fun v σ H Q ⟨ρ,d,ρ',en,r,q,k⟩=>?_
  cases q
  exact k _ H (jt.refl H) (en.set r)
@[irreducible] noncomputable def anj (X:Cx) (ts:List Expr) (ga:List PyData->Rho->Option Rho):Prop:=PGs X ts fun vs σ H Q=>∃ ρ ds ρ',EnvR X.K H ρ σ/\Reps X.K H ds vs/\ga ds ρ=some ρ'/\∀ σ' H',jt H H'->EnvR X.K H' ρ' σ'->Q σ' H'
noncomputable def zi (ds:List PyData) (ρ:Rho):Option Rho:=match ds with
 | []=>some ρ
 | _=>none
noncomputable def jR (ga:PyData->Rho->Option Rho) (gr:List PyData->Rho->Option Rho) (ds:List PyData) (ρ:Rho):Option Rho:=match ds with
 | d::r=>(ga d ρ).bind fun ρ1=>gr r ρ1
 | []=>none
theorem PGs.imp {ts:List Expr}{t t':TGs} (h:PGs X ts t) (hi:∀ v σ H Q,t' v σ H Q->t v σ H Q):PGs X ts t':=fun pins s σ H v u Q I r q=>h pins s σ H v u Q I r (hi v σ H Q q)
theorem aaA:anj X [] zi:=by
 with_unfolding_all
  refine PGs.imp aid fun vs σ H Q ⟨ρ,ds,ρ',en,r,q,k⟩=>?_
  cases ds with
  | nil=>cases r; cases q; exact ⟨rfl,k σ H (jt.refl H) en⟩
  | cons d ds=>cases q
theorem zd {ga:PyData->Rho->Option Rho}{gr:List PyData->Rho->Option Rho} (h1:PGD X e ga) (h2:anj X es gr)
  (hs:(assignEach (e::es) X.env).map (·.2)=assign e X.env::(assignEach es X.env).map (·.2):=by rfl):anj X (e::es) (jR ga gr):=by
 with_unfolding_all
  refine PGs.imp (afw h1 h2 hs) fun vs σ H Q ⟨ρ,ds,ρ',en,r,q,k⟩=>?_
  cases ds with
  | nil=>cases q
  | cons d ds=>
   obtain ⟨x,rr,e1,r1,r2⟩:=r
   subst e1
   cases h3:ga d ρ with
   | none=>simp [jR,h3] at q
   | some ρ1=>
    refine ⟨x,rr,rfl,ρ,d,ρ1,en,r1,h3,fun σ1 H1 s1 e1=>⟨ρ1,ds,ρ',e1,Reps.mono s1 ds rr r2,by simpa [jR,h3] using q,fun σ2 H2 s2 e2=>k σ2 H2 (s1.trans s2) e2⟩⟩
noncomputable def JR (n:Nat) (gr:List PyData->Rho->Option Rho) (d:PyData) (ρ:Rho):Option Rho:=match d with
 | .tuple ds=>if ds.length=n then gr ds ρ else none
 | _=>none
theorem ab7 {k n:Nat}{gr:List PyData->Rho->Option Rho} (hc:X.calm=true) (h:anj X es gr) (hn:(assignEach es X.env).length=n:=by rfl) (hst:(assignEach es X.env).findIdx? (·.1)=none:=by rfl):
  PGD X (.Tuple es k pos) (JR n gr):=by
 with_unfolding_all
  refine PG.imp (aku hc h hn hst) fun v σ H Q ⟨ρ,d,ρ',en,r,q,k⟩=>?_
  cases d with
  | tuple ds=>
   obtain ⟨a,xs,e1,e2,e3⟩:=r
   by_cases hl:ds.length=n
   ·exact ⟨a,xs,e1,e2,by rw [e3.length]; exact hl,ρ,ds,ρ',en,e3,by simpa [JR,hl] using q,k⟩
   ·simp [JR,hl] at q
  | _=>simp [JR] at q
noncomputable def zA (fa:Rho->Option PyData) (ga:PyData->Rho->Option Rho):Rho->Option Out:=fun ρ=>(fa ρ).bind fun d=>(ga d ρ).map Out.nx
theorem jz (i:Nat) {x:Str}{pos':Pos} (hN:X.N.Nodup) (he:PD X e fa) (hi:X.N[i]?=some x:=by rfl) (hx:Loc X.env.scope x:=by first | exact Or.inl rfl | exact Or.inr rfl) (hs:swapsWith e (some (.Name x pos')) pos.line X.env=pure false:=by rfl)
  (hf:X.fn x=true ∨ X.env.scope.names.lookup x=some .local:=by first | exact .inl rfl | exact .inr rfl | assumption):PSD X (.Assign [.Name x pos'] e pos) (zA fa (jJ i)):=by
 with_unfolding_all
  refine PS.imp (act hN hi hx he hs hf) fun D σ H ⟨ρ,o,en,q,k⟩=>?_
  cases h1:fa ρ with
  | none=>simp [zA,h1] at q
  | some d=>
   have:Out.nx (ρ.set i (some d))=o:=by simpa [zA,h1,jJ] using q
   subst this
   exact ⟨ρ,d,en,h1,fun v H1 s1 r1=>k _ H1 s1 ((en.mono s1).set r1)⟩
noncomputable def akR (K:PySem.W.Frag) (J:It) (ds:List PyData) (H0:Hp):Prop:=∀ i H,jQ H0 H->(i < ds.length->J.go i H)/\(ds.length<=i->J.stop i H)/\∀ x H',J.yld i H x H'->jt H H'/\∀ d,ds[i]?=some d->Rep K H' d x
noncomputable def tDI (K:PySem.W.Frag) (fi:Rho->Option (List PyData)):TI:=fun σ H R=>∃ ρ ds,EnvR K H ρ σ/\fi ρ=some ds/\∀ J H',jt H H'->akR K J ds H'->R J H'
@[irreducible] noncomputable def PID (X:Cx) (tg src:Expr) (fi:Rho->Option (List PyData)):Prop:=PI X tg src (tDI X.K fi)
theorem PI.imp {t t':TI} (h:PI X tg src t) (hi:∀ σ H R,t' σ H R->t σ H R):PI X tg src t':=fun pins s σ H R I q=>h pins s σ H R I (hi σ H R q)
noncomputable def abj:PyData->Option (List PyData)
 | .list ds=>some ds
 | _=>none
noncomputable def acD:PyData->Option (List PyData)
 | .tuple ds=>some ds
 | _=>none
noncomputable def itL (fa:Rho->Option PyData):Rho->Option (List PyData):=fun ρ=>(fa ρ).bind abj
noncomputable def itT (fa:Rho->Option PyData):Rho->Option (List PyData):=fun ρ=>(fa ρ).bind acD
theorem acE (h:PD X e fa):PID X tg e (itL fa):=by
 with_unfolding_all
  refine PI.imp (amV h) fun σ H R ⟨ρ,ds,en,q,k⟩=>?_
  cases h1:fa ρ with
  | none=>simp [itL,h1] at q
  | some d=>
   cases d with
   | list es=>
    have:es=ds:=by simpa [itL,h1,abj] using q
    subst this
    refine ⟨ρ,_,en,h1,fun v H1 s1 r1=>?_⟩
    obtain ⟨a,xs,e1,e2,e3⟩:=r1
    refine ⟨a,e1,⟨xs,SqL.of e2⟩,k _ H1 s1 fun i H2 s2=>⟨fun hi=>?_,fun hi=>?_,fun x H' y=>?_⟩⟩
    ·exact ⟨xs,xs[i]'(by rw [e3.length]; exact hi),SqL.of (s2 _ _ e2 fun _ z=>nomatch z),by simp [e3.length,hi]⟩
    ·exact ⟨xs,SqL.of (s2 _ _ e2 fun _ z=>nomatch z),by rw [e3.length]; exact hi⟩
    ·obtain ⟨z1,z2⟩:=y
     subst z1
     refine ⟨jt.refl _,fun d hd=>?_⟩
     obtain ⟨y,e4,e5⟩:=(Reps.monoE s2 _ _ e3).get hd
     have:=z2 xs (SqL.of (s2 _ _ e2 fun _ z=>nomatch z))
     rw [e4] at this; cases this
     exact e5
   | _=>simp [itL,h1,abj] at q
theorem aeG (h:PD X e fa):PID X tg e (itT fa):=by
 with_unfolding_all
  refine PI.imp (ao5 h) fun σ H R ⟨ρ,ds,en,q,k⟩=>?_
  cases h1:fa ρ with
  | none=>simp [itT,h1] at q
  | some d=>
   cases d with
   | tuple es=>
    have:es=ds:=by simpa [itT,h1,acD] using q
    subst this
    refine ⟨ρ,_,en,h1,fun v H1 s1 r1=>?_⟩
    obtain ⟨a,xs,e1,e2,e3⟩:=r1
    refine ⟨a,e1,⟨xs,e2⟩,k _ H1 s1 fun i H2 s2=>⟨fun hi=>?_,fun hi=>?_,fun x H' y=>?_⟩⟩
    ·exact ⟨xs,xs[i]'(by rw [e3.length]; exact hi),jQ.tup s2 e2,by simp [e3.length,hi]⟩
    ·exact ⟨xs,jQ.tup s2 e2,by rw [e3.length]; exact hi⟩
    ·obtain ⟨z1,z2⟩:=y
     subst z1
     refine ⟨jt.refl _,fun d hd=>?_⟩
     obtain ⟨y,e4,e5⟩:=(Reps.monoE s2 _ _ e3).get hd
     have:=z2 xs (jQ.tup s2 e2)
     rw [e4] at this; cases this
     exact e5
   | _=>simp [itT,h1,acD] at q
noncomputable def zt (lo:Int) (n:Nat):List PyData:=(List.range n).map fun (k:Nat)=>PyData.int (lo+(k:Int))
noncomputable def QH (ds:List PyData):Option (List PyData):=match ds with
 | [.int j]=>if -(2 ^ 62)<=j/\j < 2 ^ 62 then some (zt 0 j.toNat) else none
 | _=>none
theorem aeH {K:PySem.W.Frag}{H:Hp} (lo:Int) (n:Nat):akR K (Itr lo n) (zt lo n) H:=fun i H2 s2=>by
 have hl:(zt lo n).length=n:=by simp [zt]
 refine ⟨fun hi=>by rw [hl] at hi; exact hi,fun hi=>by rw [hl] at hi; exact hi,fun x H' y=>?_⟩
 obtain ⟨z1,z2⟩:=y
 subst z1
 refine ⟨jt.refl _,fun d hd=>?_⟩
 have hi:i < n:=by
  have:=(List.getElem?_eq_some_iff.mp hd).1
  rw [hl] at this; exact this
 have:d= .int (lo+i):=by
  simp [zt,hi] at hd
  exact hd.symm
 subst this
 exact z2
theorem j6 {p pos:Pos}{fr:Rho->Option (List PyData)} (hg:Gl X "range") (hm:X.mg "range"=none) (ha:PAD X [a] fr) (hs:starEach [a] X.env=[(false,eval a X.env)]:=by rfl):PID X tg (.Call (.Name "range" p) [a] [] pos) (fun ρ=>(fr ρ).bind QH):=by
 with_unfolding_all
  refine PI.imp (abd hg hm ha hs) fun σ H R ⟨ρ,ds,en,q,k⟩=>?_
  cases h1:fr ρ with
  | none=>simp [h1] at q
  | some as=>
   have q':QH as=some ds:=by simpa [h1] using q
   refine ⟨ρ,as,en,h1,fun vs H1 s1 r1=>?_⟩
   unfold QH at q'
   split at q'
   ·rename_i j
    split at q'
    ·rename_i hj
     cases q'
     obtain ⟨x,r,e1,e2,e3⟩:=r1
     cases (show x=V.int j from e2)
     cases (show r=[] from e3)
     exact ⟨j,e1,hj.1,hj.2,k _ H1 s1 (aeH 0 j.toNat)⟩
    ·cases q'
   ·cases q'
noncomputable def jP (ga:PyData->Rho->Option Rho) (F:Rho->Option Out):List PyData->Rho->Option Out
 | [],ρ=>some (.nx ρ)
 | d::r,ρ=>(ga d ρ).bind fun ρ1=>(F ρ1).bind fun o=>match o with
  | .nx ρ2=>jP ga F r ρ2
  | .ct ρ2=>jP ga F r ρ2
  | .bk ρ2=>some (.nx ρ2)
  | .rt d=>some (.rt d)
noncomputable def Jn (fi:Rho->Option (List PyData)) (ga:PyData->Rho->Option Rho) (F:Rho->Option Out):Rho->Option Out:=fun ρ=>(fi ρ).bind fun ds=>jP ga F ds ρ
theorem zE {body:List Stmt}{fi:Rho->Option (List PyData)}{ga:PyData->Rho->Option Rho} (hp:PassesOwn (model X.prog X.w) X.A X.env X.xe) (hc:X.calm=true) (hi:PID X tg src fi) (hg:PGD X tg ga) (hb:Z9 X body F)
  (hs:∀ x,foldedSetIterable src X.env x=pure x:=by intro _; rfl):PSD X (.For tg src body [] pos) (Jn fi ga F):=by
 with_unfolding_all
  refine PS.imp (aex hp hc hi hg hb hs) fun D σ H ⟨ρ,o,en,q,k⟩=>?_
  cases h1:fi ρ with
  | none=>simp [Jn,h1] at q
  | some ds=>
   have q':jP ga F ds ρ=some o:=by simpa [Jn,h1] using q
   refine ⟨ρ,ds,en,h1,fun J H1 s1 Y=>?_⟩
   refine ⟨fun i m σ H2=>m=ds.length - i/\i<=ds.length/\jt H1 H2/\∃ ρ2,EnvR X.K H2 ρ2 σ/\jP ga F (ds.drop i) ρ2=some o,⟨ds.length,by simp,Nat.zero_le _,jt.refl _,ρ,en.mono s1,by simpa using q'⟩,?_⟩
   rintro i m σ2 H2 ⟨rfl,hi,s2,ρ2,en2,q2⟩
   obtain ⟨g1,g2,g3⟩:=Y i H2 (jt.e s2)
   by_cases hlt:i < ds.length
   ·right
    have hd:ds.drop i=ds[i]::ds.drop (i+1):=List.drop_eq_getElem_cons hlt
    rw [hd] at q2
    refine ⟨g1 hlt,fun σ3 H3=>jt H1 H3/\∃ ρ3,EnvR X.K H3 ρ3 σ3/\jP ga F (ds.drop (i+1)) ρ3=some o,fun σ3 H3 ⟨a1,ρ3,a2,a3⟩=>⟨ds.length - (i+1),by omega,rfl,hlt,a1,ρ3,a2,a3⟩,fun x H3 y=>?_⟩
    obtain ⟨s3,r3⟩:=g3 x H3 y
    have r3':=r3 ds[i] (by simp [hlt])
    cases h4:ga ds[i] ρ2 with
    | none=>simp [jP,h4] at q2
    | some ρ4=>
     refine ⟨ρ2,ds[i],ρ4,en2.mono s3,r3',h4,fun σ5 H5 s5 en5=>?_⟩
     cases h5:F ρ4 with
     | none=>simp [jP,h4,h5] at q2
     | some p=>
      refine ⟨ρ4,p,en5,h5,?_⟩
      have s15:=s2.trans (s3.trans s5)
      cases p with
      | nx ρ6=>exact fun σ6 H6 s6 en6=>⟨s15.trans s6,ρ6,en6,by simpa [jP,h4,h5] using q2⟩
      | ct ρ6=>exact fun σ6 H6 s6 en6=>⟨s15.trans s6,ρ6,en6,by simpa [jP,h4,h5] using q2⟩
      | bk ρ6=>
       have:Out.nx ρ6=o:=by simpa [jP,h4,h5] using q2
       subst this
       exact fun σ6 H6 s6 en6=>k σ6 H6 (s1.trans (s15.trans s6)) en6
      | rt d=>
       have:Out.rt d=o:=by simpa [jP,h4,h5] using q2
       subst this
       exact fun v H6 s6 r6=>k v H6 (s1.trans (s15.trans s6)) r6
   ·left
    have he:i=ds.length:=by omega
    have hn:ds.drop i=[]:=by rw [he]; simp
    rw [hn] at q2
    have:Out.nx ρ2=o:=by simpa [jP] using q2
    subst this
    exact ⟨g2 (by omega),k σ2 H2 (s1.trans s2) en2⟩
noncomputable def JS (cap:List (Option Nat)) (ρ:Rho):Rho:=cap.map fun o=>o.bind fun i=>(ρ[i]?).join
theorem EnvR.cap {K:PySem.W.Frag}{H:Hp}{ρ:Rho}{σ:St} (e:EnvR K H ρ σ) (cap:List (Option Nat)):EnvR K H (JS cap ρ) (ab2 cap σ):=by
 refine ⟨by simp [JS,ab2],fun j d q=>?_⟩
 unfold JS at q
 unfold ab2
 rw [List.getElem?_map] at q ⊢
 cases h1:cap[j]? with
 | none=>rw [h1] at q; cases q
 | some o=>
  rw [h1] at q
  cases o with
  | none=>cases q
  | some i=>
   have q':lkp i ρ=some d:=by simpa [lkp] using q
   obtain ⟨v,e1,e2⟩:=e.at' i d (qE q')
   exact ⟨v,by simp [e1],e2⟩
noncomputable def jX (ga:PyData->Rho->Option Rho) (ft:Rho->Option Bool) (fe:Rho->Option PyData):List PyData->Rho->Option (List PyData)
 | [],_=>some []
 | d::r,τ=>(ga d τ).bind fun τ2=>(ft τ2).bind fun b=>if b=true then (fe τ2).bind fun y=>(jX ga ft fe r τ2).map fun ys=>y::ys else jX ga ft fe r τ2
noncomputable def qB (fi:Rho->Option (List PyData)) (cap:List (Option Nat)) (ga:PyData->Rho->Option Rho) (ft:Rho->Option Bool) (fe:Rho->Option PyData):Rho->Option PyData:=fun ρ=>(fi ρ).bind fun ds=>
 if few ds=true then (jX ga ft fe ds (JS cap ρ)).map PyData.list else none
@[irreducible] noncomputable def akS (X:Cx) (ts:List Expr) (f:Rho->Option Bool):Prop:=PTs X ts (tDT X.K f)
noncomputable def Zc (_:Rho):Option Bool:=some true
theorem qT:akS X [] Zc:=by
 with_unfolding_all exact (fun pins s σ H Q I ⟨ρ,b,en,q,k⟩=>by cases q; exact ane pins s σ H Q I (k H (jt.refl H)))
theorem acF {ft:Rho->Option Bool} (h:PTD X c ft):akS X [c] ft:=by
 with_unfolding_all exact (anf h)
theorem zp {el:Expr}{ts:List Expr}{sc:Scope}{ps:Pos}{fi:Rho->Option (List PyData)}{ga:PyData->Rho->Option Rho}{ft:Rho->Option Bool}{fe:Rho->Option PyData} (N':List Str) (cap:List (Option Nat)) (hc:X.calm=true) (hi:PID X tg src fi) (ok:CompOk X sc N' cap)
  (body:∀ cl C s0 H0 fp pn,PGD (blk X N' sc cl C s0 H0 fp pn) tg ga/\akS (blk X N' sc cl C s0 H0 fp pn) ts ft/\PD (blk X N' sc cl C s0 H0 fp pn) el fe)
  (hs:∀ x,foldedSetIterable src X.env x=pure x:=by intro _; rfl):PD X (.ListComp el [⟨tg,src,ts,0⟩] sc ps) (qB fi cap ga ft fe):=by
 with_unfolding_all
  refine PE.imp (ang (g:=tDG X.K ga) (tt:=tDT X.K ft) (te:=tD X.K fe) hc hi ok (fun cl C s0 H0 fp pn=>body cl C s0 H0 fp pn) hs) fun σ H Q ⟨ρ,d,en,q,k⟩=>?_
  cases h1:fi ρ with
  | none=>simp [qB,h1] at q
  | some ds=>
   by_cases hf:few ds=true
   ·cases h2:jX ga ft fe ds (JS cap ρ) with
    | none=>simp [qB,h1,hf,h2] at q
    | some ys=>
     have:PyData.list ys=d:=by simpa [qB,h1,hf,h2] using q
     subst this
     refine ⟨ρ,ds,en,h1,fun J H1 s1 Y=>?_⟩
     refine ⟨fun i m τ us H2=>m=ds.length - i/\i<=ds.length/\jt H1 H2/\us.length<=i/\∃ ρ2 zs ws,EnvR X.K H2 ρ2 τ/\Reps X.K H2 zs us/\jX ga ft fe (ds.drop i) ρ2=some ws/\ys=zs++ws,
      ⟨ds.length,by simp,Nat.zero_le _,jt.refl _,Nat.le_refl _,JS cap ρ,[],ys,(en.mono s1).cap cap,rfl,by simpa using h2,rfl⟩,?_⟩
     rintro i m τ us H2 ⟨rfl,hi',s2,hu,ρ2,zs,ws,en2,r2,q2,ey⟩
     have hsm:us.length < sizeLine:=Nat.lt_of_le_of_lt (Nat.le_trans hu hi') (Nat.lt_of_lt_of_le (by simpa [few] using hf) (by rw [sizeLine_eq]; decide:1000000<=sizeLine))
     obtain ⟨g1,g2,g3⟩:=Y i H2 (jt.e s2)
     refine ⟨hsm,?_⟩
     by_cases hlt:i < ds.length
     ·right
      have hd:ds.drop i=ds[i]::ds.drop (i+1):=List.drop_eq_getElem_cons hlt
      rw [hd] at q2
      refine ⟨g1 hlt,fun x H3 y=>?_⟩
      obtain ⟨s3,r3⟩:=g3 x H3 y
      have r3':=r3 ds[i] (by simp [hlt])
      cases h4:ga ds[i] ρ2 with
      | none=>simp [jX,h4] at q2
      | some ρ4=>
       refine ⟨ρ2,ds[i],ρ4,en2.mono s3,r3',h4,fun σ5 H5 s5 en5=>?_⟩
       cases h5:ft ρ4 with
       | none=>simp [jX,h4,h5] at q2
       | some b=>
        refine ⟨ρ4,b,en5,h5,fun H6 s6=>?_⟩
        have s26:=s3.trans (s5.trans s6)
        cases b with
        | false=>
         refine aqA ?_
         exact ⟨ds.length - (i+1),by omega,rfl,hlt,s2.trans s26,by omega,ρ4,zs,ws,en5.mono s6,Reps.mono s26 _ _ r2,by simpa [jX,h4,h5] using q2,ey⟩
        | true=>
         refine aqB ?_
         cases h6:fe ρ4 with
         | none=>simp [jX,h4,h5,h6] at q2
         | some y=>
          cases h7:jX ga ft fe (ds.drop (i+1)) ρ4 with
          | none=>simp [jX,h4,h5,h6,h7] at q2
          | some ws'=>
           have hw:y::ws'=ws:=by simpa [jX,h4,h5,h6,h7] using q2
           refine ⟨ρ4,y,en5.mono s6,h6,fun v H7 s7 r7=>?_⟩
           refine ⟨ds.length - (i+1),by omega,rfl,hlt,s2.trans (s26.trans s7),by rw [List.length_append]; simp; omega,ρ4,zs++[y],ws',(en5.mono s6).mono s7,(Reps.mono (s26.trans s7) _ _ r2).append ⟨v,[],rfl,r7,rfl⟩,h7,?_⟩
           rw [ey,←hw]; simp
     ·left
      have he:i=ds.length:=by omega
      have hn:ds.drop i=[]:=by rw [he]; simp
      rw [hn] at q2
      have hw:[]=ws:=by simpa [jX] using q2
      subst hw
      have ey':ys=zs:=by simpa using ey
      subst ey'
      exact ⟨g2 (by omega),fun l hl=>k _ _ (s1.trans (s2.trans (jA hl))) ⟨l,us,rfl,jp,Reps.mono (jA hl) _ _ r2⟩⟩
   ·simp [qB,h1,hf] at q
noncomputable def Pur (K:PySem.W.Frag) (n:Nat) (g:List PyData->Option PyData):Sp:=fun vs H Q _=>∃ ds d,ds.length=n/\Reps K H ds vs/\g ds=some d/\∀ v H',jt H H'->Rep K H' d v->Q v H'
noncomputable def jM (g:List PyData->Option PyData) (fr:Rho->Option (List PyData)):Rho->Option PyData:=fun ρ=>(fr ρ).bind g
theorem ank {k n:Nat}{f:Addr}{fd:FuncData}{ps:List Str}{g:List PyData->Option PyData}{x:Str}{p:Pos}{fr:Rho->Option (List PyData)} (FO:FnOk X.prog X.w X.K X.mg X.base CX0 k f fd ps (Pur X.K n g)) (hr:Room k X.A) (hm:X.mg x=some (.ref f)) (hk:PySem.W.keepIn X.K (.ref f)=true)
  (hb:aax X.K fd ps []) (hn:(e::es).length=n) (ha:PAD X (e::es) fr) (hl:∀ ρ ds,fr ρ=some ds->ds.length=(e::es).length) (hg:Gl X x:=by rfl) (hdb:(x == ("__debug__":Str))=false:=by decide) (he:starEach (e::es) X.env=(false,eval e X.env)::starEach es X.env:=by rfl)
  (hpl:(backTo pos (starEach es X.env)).any (·.1)=false:=by rfl):PD X (.Call (.Name x p) (e::es) [] pos) (jM g fr):=by
 with_unfolding_all
  refine PE.imp (am0 FO hr hg hm hk hb .nil akK ha hdb he hpl) fun σ H Q ⟨ρ,d,en,q,k⟩=>?_
  cases h1:fr ρ with
  | none=>simp [jM,h1] at q
  | some ds=>
   refine ⟨ρ,ds,en,h1,fun vs H1 s1 r1=>?_⟩
   refine ⟨ds,d,by rw [hl ρ ds h1,hn],by rw [List.append_nil]; exact r1,by simpa [jM,h1] using q,fun v H' s r=>k v H' (s1.trans s) r⟩
noncomputable def Q1 (X:Cx) (f:Value) (g:List PyData->Option PyData):Prop:=∃ r,zC X f r/\∀ ds d xs H Q,g ds=some d->Reps X.K H ds xs->(∀ v H',jt H H'->Rep X.K H' d v->Q v H')->r xs H Q
theorem jD {id:String}{g:List PyData->Option PyData}{x:Str}{p:Pos}{fr:Rho->Option (List PyData)} (hc:Q1 X (.builtin id) g) (hm:X.mg x=none) (hv:bootBuiltins x=some (.builtin id)) (ha:PAD X (e::es) fr) (hg:Gl X x:=by rfl) (hn:x ≠ "__name__":=by decide) (hdb:(x == ("__debug__":Str))=false:=by decide)
  (he:starEach (e::es) X.env=(false,eval e X.env)::starEach es X.env:=by rfl) (hpl:(backTo pos (starEach es X.env)).any (·.1)=false:=by rfl):PD X (.Call (.Name x p) (e::es) [] pos) (jM g fr):=by
 with_unfolding_all
  obtain ⟨r,h1,h2⟩:=hc
  refine PE.imp (aay h1 hg hm hv ha hn hdb he hpl) fun σ H Q ⟨ρ,d,en,q,k⟩=>?_
  cases h3:fr ρ with
  | none=>simp [jM,h3] at q
  | some ds=>exact ⟨ρ,ds,en,h3,fun vs H1 s1 r1=>h2 ds d vs H1 Q (by simpa [jM,h3] using q) r1 fun v H' s r=>k v H' (s1.trans s) r⟩
theorem abk {T:String}{g:List PyData->Option PyData}{x:Str}{p:Pos}{fr:Rho->Option (List PyData)} (hc:Q1 X (.type T) g) (hm:X.mg x=none) (hv:bootBuiltins x=some (.type T)) (ha:PAD X (e::es) fr) (hg:Gl X x:=by rfl) (hn:x ≠ "__name__":=by decide) (hdb:(x == ("__debug__":Str))=false:=by decide)
  (he:starEach (e::es) X.env=(false,eval e X.env)::starEach es X.env:=by rfl) (hpl:(backTo pos (starEach es X.env)).any (·.1)=false:=by rfl):PD X (.Call (.Name x p) (e::es) [] pos) (jM g fr):=by
 with_unfolding_all
  obtain ⟨r,h1,h2⟩:=hc
  refine PE.imp (adE h1 hg hm hv ha hn hdb he hpl) fun σ H Q ⟨ρ,d,en,q,k⟩=>?_
  cases h3:fr ρ with
  | none=>simp [jM,h3] at q
  | some ds=>exact ⟨ρ,ds,en,h3,fun vs H1 s1 r1=>h2 ds d vs H1 Q (by simpa [jM,h3] using q) r1 fun v H' s r=>k v H' (s1.trans s) r⟩
end
noncomputable def jN (N:List Str) (ds:List PyData):Rho:=ds.map some++List.replicate (N.length - ds.length) none
theorem ZH {K:PySem.W.Frag}{H:Hp}{N:List Str}{ds:List PyData}{vs:List V} (r:Reps K H ds vs):EnvR K H (jN N ds) (L2.zQ N vs):=by
 have hl:=r.length
 refine ⟨by simp [jN,L2.zQ,hl],fun i d q=>?_⟩
 unfold jN at q
 by_cases hi:i < ds.length
 ·rw [List.getElem?_append_left (by simpa using hi),List.getElem?_map] at q
  cases e:ds[i]? with
  | none=>rw [e] at q; cases q
  | some c=>
   rw [e] at q; cases q
   obtain ⟨x,e1,e2⟩:=r.get e
   refine ⟨x,?_,e2⟩
   unfold L2.zQ
   rw [List.getElem?_append_left (by simp; omega),List.getElem?_map,e1]; rfl
 ·rw [List.getElem?_append_right (by simpa using hi),List.getElem?_replicate] at q
  split at q <;> cases q
noncomputable def jC (N:List Str) (n:Nat) (B:Rho->Option Out) (ds:List PyData):Option PyData:=if ds.length=n then match B (jN N ds) with
 | some (.rt d)=>some d
 | some (.nx _)=>some .none
 | _=>none else none
section
variable {P:Program}{w:World}{K:PySem.W.Frag}{mg:Str->Option Value}{base:Heap}
theorem jL {x qual:Str}{st:Stmt}{f:Addr}{fd:FuncData}{N ps:List Str}{k:Nat}{B:Rho->Option Out} (F:Fun K x qual st f fd) (S:FnScope N ps (jg st))
  (body:∀ (cdv:Value) (A:Around) (outer:List Env) (s:Shared) (H:Hp) (E:XK),Room k (A.deeper (envOfC qual (jg st) s.heap.objs.size f cdv))->
   Z9 (JF CX0 P w K mg base N qual (jg st) f cdv A outer s H E).nox (jK st) B):FnOk P w K mg base CX0 (k+1) f fd ps (Pur K ps.length (jC N ps.length B)):=by
 with_unfolding_all
  refine F.ok S (fun vs H Q E h=>?_) (fun cdv A outer s H vs Q E hr h=>?_)
  ·obtain ⟨ds,d,h1,h2,_⟩:=h
   rw [h2.length]; exact h1
  ·obtain ⟨ds,d,h1,h2,h3,h4⟩:=h
   refine ⟨_,body cdv A outer s H E hr,?_⟩
   unfold jC at h3
   rw [if_pos h1] at h3
   cases hB:B (jN N ds) with
   | none=>rw [hB] at h3; cases h3
   | some o=>
    refine ⟨jN N ds,o,ZH h2,hB,?_⟩
    rw [hB] at h3
    cases o with
    | rt c=>cases h3; exact fun v H' s r=>h4 v H' s r
    | nx ρ=>cases h3; exact fun σ H' s r=>h4 .non H' s rfl
    | bk ρ=>cases h3
    | ct ρ=>cases h3
theorem aqG {k n:Nat}{f:Addr}{fd:FuncData}{ps:List Str}{g g':List PyData->Option PyData} (F:FnOk P w K mg base CX0 k f fd ps (Pur K n g)) (h:∀ ds d,ds.length=n->g' ds=some d->g ds=some d):FnOk P w K mg base CX0 k f fd ps (Pur K n g'):=
 F.imp fun vs H Q E ⟨ds,d,h1,h2,h3,h4⟩=>⟨ds,d,h1,h2,h ds d h1 h3,h4⟩
end
section
variable {X:Cx}
noncomputable def aqH (K:PySem.W.Frag):R2:=fun x y H Q=>∃ a b ys,x= .ref a/\y= .ref b/\SqT K H a []/\SqT K H b ys/\Q (.ref b) H
theorem anl:OpR X (binaryOp .Add) (aqH X.K):=by
 intro pins s σ H x y v u Q I rx ry h
 obtain ⟨a,b,ys,rfl,rfl,ha,hb,q⟩:=h
 cases rx
 cases ry
 obtain ⟨its,r1,p1,_⟩:=I.tuple ha
 obtain ⟨its2,r2,p2,_⟩:=I.tuple hb
 cases r1
 obtain ⟨⟨c1,d1,t1,l1⟩,ho,hc,n,hd⟩:=id p1
 obtain ⟨⟨c2,d2,t2,l2⟩,ho2,hc2,n2,hd2⟩:=id p2
 simp only at hc hd hc2 hd2
 subst hc hd hc2 hd2
 exact concat_meets ⟨_,ho,rfl⟩ ⟨_,ho2,rfl⟩ noFill_tuple_add seq_tuple_add PySem.F.slot_tuple_add PySem.F.entry_tuple_add (PySem.F.args_tuple_add_2 _ _)
  (tuple_addW0 a b _ _ n n2 d1 d2 l1 l2 (by simp)) ⟨ho,ho2,⟨.ref b,H,I,rfl,q⟩⟩
noncomputable def zB:PyData->PyData->Option PyData
 | .int i,.int j=>some (.int (i+j))
 | .list xs,.list ys=>if few (xs++ys)=true then some (.list (xs++ys)) else none
 | .tuple [],.tuple ys=>some (.tuple ys)
 | .tuple (x::xs),.tuple ys=>if few ((x::xs)++ys)=true then some (.tuple ((x::xs)++ys)) else none
 | _,_=>none
theorem jy:OpD X (binaryOp .Add) zB:=by
 refine ⟨_,ao9.or (api.or (anl.or am2)),fun p q d x y H Q h rx ry k=>?_⟩
 unfold zB at h
 split at h
 ·cases h
  cases (show x=_ from rx)
  cases (show y=_ from ry)
  exact .inl ⟨_,_,rfl,rfl,k _ H (jt.refl H) rfl⟩
 ·rename_i xs ys
  split at h
  ·rename_i hf
   cases h
   obtain ⟨a,us,e1,e2,e3⟩:=rx
   obtain ⟨b,ws,e4,e5,e6⟩:=ry
   have hl:us.length+ws.length < 1000000:=by
    rw [e3.length,e6.length]
    simp [few] at hf
    try simp only [List.length_cons]
    omega
   exact .inr (.inl ⟨a,b,us,ws,e1,e4,e2,e5,acC hl,fun p hp=>k _ _ (jA hp) ⟨p,_,rfl,jp,Reps.mono (jA hp) _ _ (e3.append e6)⟩⟩)
  ·cases h
 ·rename_i ys
  cases h
  obtain ⟨a,us,e1,e2,e3⟩:=rx
  cases (show us=[] from e3)
  obtain ⟨b,ws,e4,e5,e6⟩:=ry
  exact .inr (.inr (.inl ⟨a,b,ws,e1,e4,e2,e5,k _ H (jt.refl H) ⟨b,ws,rfl,e5,e6⟩⟩))
 ·rename_i z xs ys
  split at h
  ·rename_i hf
   cases h
   obtain ⟨a,us,e1,e2,e3⟩:=rx
   obtain ⟨b,ws,e4,e5,e6⟩:=ry
   have hl:us.length+ws.length < 1000000:=by
    rw [e3.length,e6.length]
    simp [few] at hf
    try simp only [List.length_cons]
    omega
   refine .inr (.inr (.inr ⟨a,b,us,ws,e1,e4,e2,e5,fun z=>?_,acC hl,fun z=>?_,fun _ p hp=>?_⟩))
   ·have:=e3.length; rw [z] at this; simp at this
   ·subst z
    have:=e6.length
    have hy:ys=[]:=List.length_eq_zero_iff.mp (by simpa using this.symm)
    subst hy
    exact k _ H (jt.refl H) ⟨a,us,rfl,e2,by simpa using e3⟩
   ·exact k _ _ (jA hp) ⟨p,_,rfl,SqT.of jp,Reps.mono (jA hp) _ _ (e3.append e6)⟩
  ·cases h
 ·cases h
noncomputable def aaa:PyData->PyData->Option PyData
 | .int i,.int j=>some (.int (i - j))
 | _,_=>none
theorem zF:OpD X (binaryOp .Sub) aaa:=by
 refine ⟨_,apa,fun p q d x y H Q h rx ry k=>?_⟩
 unfold aaa at h
 split at h
 ·cases h; cases (show x=_ from rx); cases (show y=_ from ry); exact ⟨_,_,rfl,rfl,k _ H (jt.refl H) rfl⟩
 ·cases h
theorem Reps.rep {K:PySem.W.Frag}{H:Hp}{ds:List PyData}{xs:List V} (h:Reps K H ds xs):∀ (n:Nat),Reps K H (List.replicate n ds).flatten (List.replicate n xs).flatten
 | 0=>rfl
 | n+1=>by rw [List.replicate_succ,List.replicate_succ,List.flatten_cons,List.flatten_cons]; exact h.append (Reps.rep h n)
noncomputable def Qh:PyData->PyData->Option PyData
 | .int i,.int j=>if (-(2 ^ 64) < i/\i < 2 ^ 64) ∨ (-(2 ^ 64) < j/\j < 2 ^ 64) then some (.int (i*j)) else none
 | .list xs,.int k=>if k < 1000/\xs.length < 1000/\-1000 < k then some (.list (List.replicate k.toNat xs).flatten) else none
 | _,_=>none
theorem qN:OpD X (binaryOp .Mult) Qh:=by
 refine ⟨_,apb.or akI,fun p q d x y H Q h rx ry k=>?_⟩
 unfold Qh at h
 split at h
 ·split at h
  ·rename_i hc
   cases h; cases (show x=_ from rx); cases (show y=_ from ry); exact .inl ⟨_,_,rfl,rfl,hc,k _ H (jt.refl H) rfl⟩
  ·cases h
 ·rename_i xs n
  split at h
  ·rename_i hc
   cases h
   obtain ⟨a,us,e1,e2,e3⟩:=rx
   cases (show y=_ from ry)
   have hl:=e3.length
   have hs:us.length*n.toNat<=sizeLine:=by
    rw [sizeLine_eq]
    have h1:us.length<=1000:=by omega
    have h2:n.toNat<=1000:=by omega
    exact Nat.le_trans (Nat.mul_le_mul h1 h2) (by decide)
   exact .inr ⟨a,n,us,e1,rfl,e2,by omega,by omega,hs,fun p hp=>k _ _ (jA hp) ⟨p,_,rfl,jp,Reps.mono (jA hp) _ _ (Reps.rep e3 n.toNat)⟩⟩
  ·cases h
 ·cases h
noncomputable def afI:PyData->PyData->Option PyData
 | .int i,.int j=>if 0 < j/\j < 1073741824 then some (.int (i / j)) else none
 | _,_=>none
theorem Zd:OpD X (binaryOp .FloorDiv) afI:=by
 refine ⟨_,amW,fun p q d x y H Q h rx ry k=>?_⟩
 unfold afI at h
 split at h
 ·split at h
  ·rename_i hc
   cases h; cases (show x=_ from rx); cases (show y=_ from ry); exact ⟨_,_,rfl,rfl,hc,k _ H (jt.refl H) rfl⟩
  ·cases h
 ·cases h
noncomputable def akT:PyData->PyData->Option PyData
 | .int i,.int j=>if 0 < j then some (.int (i % j)) else none
 | _,_=>none
theorem QI:OpD X (binaryOp .Mod) akT:=by
 refine ⟨_,apc,fun p q d x y H Q h rx ry k=>?_⟩
 unfold akT at h
 split at h
 ·split at h
  ·rename_i hc
   cases h; cases (show x=_ from rx); cases (show y=_ from ry); exact ⟨_,_,rfl,rfl,hc,k _ H (jt.refl H) rfl⟩
  ·cases h
 ·cases h
noncomputable def okD (d:PyData):Bool:=d.canLay0 && decide (d.depth < 30)
noncomputable def aqI (K:PySem.W.Frag) (neg:Bool):R2:=fun x y H Q=>∃ p q,Rep K H p x/\Rep K H q y/\okD p=true/\okD q=true/\Q (.bl (if neg then !PyData.eqv p q else PyData.eqv p q)) H
theorem qq {d:PyData} (h:okD d=true):d.canLay0=true:=by simp [okD] at h; exact h.1
theorem ab8 {d:PyData} (h:okD d=true):d.depth < 30:=by simp [okD] at h; exact h.2
theorem apq (hu:X.A.units+64 < cLine):OpR X (compareOp .Eq) (aqI X.K false):=by
 intro pins s σ H x y v u Q I rx ry ⟨p,q,h1,h2,h3,h4,k⟩
 obtain ⟨as,ra⟩:=qS I p x v h1 rx (qq h3)
 obtain ⟨bs,rb⟩:=qS I q y u h2 ry (qq h4)
 have d1:=ab8 h3
 exact SeqAt.compareEq_reads ra rb (qq h3) (qq h4) (by omega) ⟨.bl _,H,I,rfl,k⟩
theorem apr (hu:X.A.units+64 < cLine):OpR X (compareOp .NotEq) (aqI X.K true):=by
 intro pins s σ H x y v u Q I rx ry ⟨p,q,h1,h2,h3,h4,k⟩
 obtain ⟨as,ra⟩:=qS I p x v h1 rx (qq h3)
 obtain ⟨bs,rb⟩:=qS I q y u h2 ry (qq h4)
 have d1:=ab8 h3
 exact SeqAt.compareNe_reads ra rb (qq h3) (qq h4) (by omega) ⟨.bl _,H,I,rfl,k⟩
noncomputable def aqJ (K:PySem.W.Frag):R2:=fun x y H Q=>∃ a b ns,x= .ref a/\y= .ref b/\SqL K H a (List.map V.int ns)/\H b=some (.lst [])/\Q (.bl ns.isEmpty) H
theorem aae (h:Heap):∀ (ns:List Int) (us:List Value),jI (List.map V.int ns) us->∃ as,ReadsAll h us (ns.map PyData.int) as
 | [],us,r=>by cases r; exact ⟨_,.nil⟩
 | n::ns,us,r=>by
  cases r with
  | cons r1 r2=>
   obtain ⟨t,rfl⟩:=r1
   obtain ⟨as,ra⟩:=aae h ns _ r2
   exact ⟨_,.cons (.int n t) ra⟩
theorem afJ:∀ ns:List Int,PyData.canLayAll0 (ns.map PyData.int)=true
 | []=>rfl
 | n::ns=>by simp [PyData.canLayAll0,PyData.canLay0,afJ ns]
theorem anm (hu:X.A.units+64 < cLine):OpR X (compareOp .Eq) (aqJ X.K):=by
 intro pins s σ H x y v u Q I rx ry ⟨a,b,ns,e1,e2,h1,h2,k⟩
 subst e1; subst e2
 cases rx; cases ry
 obtain ⟨its,rv,⟨o,n,g1,g2,g3,g4⟩,_⟩:=I.list h1
 obtain ⟨as,ra⟩:=aae s.heap ns its rv
 obtain ⟨bs,rb⟩:=qS I (.list []) (.ref b) (.ref b) ⟨b,[],rfl,h2,rfl⟩ rfl rfl
 have ra':Reads s.heap (.ref a) (.list (ns.map PyData.int)) (a::as):= .list g1 g2 g4 (by simpa using ra)
 refine SeqAt.compareEq_reads ra' rb (by simpa [PyData.canLay0] using afJ ns) rfl ?_ ⟨.bl _,H,I,rfl,?_⟩
 ·have:(PyData.list []).depth=1:=rfl
  rw [this]; omega
 ·have:PyData.eqv (.list (ns.map PyData.int)) (.list [])=ns.isEmpty:=by cases ns <;> simp [PyData.eqv,PyData.eqvAll]
  rw [this]; exact k
noncomputable def dEq:PyData->PyData->Option PyData
 | .dict kvs,.list []=>if Jp kvs=true then some (.bool kvs.isEmpty) else none
 | p,q=>if okD p=true/\okD q=true then some (.bool (PyData.eqv p q)) else none
theorem Ze (hu:X.A.units+64 < cLine):OpD X (compareOp .Eq) dEq:=by
 refine ⟨_,(anm hu).or (apq hu),fun p q d x y H Q h rx ry k=>?_⟩
 unfold dEq at h
 split at h
 ·split at h
  ·rename_i hs
   cases h
   obtain ⟨a,ns,e1,e2,e3⟩:=rx.scrOut hs
   obtain ⟨b,ws,e4,e5,e6⟩:=ry
   cases (show ws=[] from e6)
   refine .inl ⟨a,b,ns,e1,e4,e2,e5,?_⟩
   have:ns.isEmpty=(ns.map fun n=>(PyData.int n,PyData.none)).isEmpty:=by simp
   subst e3
   rw [this]
   exact k _ H (jt.refl H) rfl
  ·cases h
 ·split at h
  ·rename_i hc
   cases h
   exact .inr ⟨p,q,rx,ry,hc.1,hc.2,k _ H (jt.refl H) rfl⟩
  ·cases h
noncomputable def dNe:PyData->PyData->Option PyData:=fun p q=>if okD p=true/\okD q=true then some (.bool (!PyData.eqv p q)) else none
theorem qX (hu:X.A.units+64 < cLine):OpD X (compareOp .NotEq) dNe:=by
 refine ⟨_,apr hu,fun p q d x y H Q h rx ry k=>?_⟩
 unfold dNe at h
 split at h
 ·rename_i hc
  cases h
  exact ⟨p,q,rx,ry,hc.1,hc.2,k _ H (jt.refl H) rfl⟩
 ·cases h
noncomputable def aps (K:PySem.W.Frag) (neg:Bool):R2:=fun x y H Q=>∃ p ds,Rep K H p x/\(Rep K H (.list ds) y ∨ Rep K H (.tuple ds) y)/\okD p=true/\okD (.list ds)=true/\Q (.bl (if neg then !(ds.any fun z=>PyData.eqv z p) else ds.any fun z=>PyData.eqv z p)) H
theorem apt (hu:X.A.units+64 < cLine):OpR X (compareOp .In) (aps X.K false):=by
 intro pins s σ H x y v u Q I rx ry ⟨p,ds,h1,h2,h3,h4,k⟩
 obtain ⟨as,ra⟩:=qS I p x v h1 rx (qq h3)
 have d1:=ab8 h3
 have hc:PyData.canLayAll0 ds=true:=by simpa [PyData.canLay0] using qq h4
 rcases h2 with h2 | h2
 ·obtain ⟨bs,rb⟩:=qS I (.list ds) y u h2 ry (qq h4)
  exact SeqAt.in_list_reads rb ra hc (qq h3) (by omega) ⟨.bl _,H,I,rfl,k⟩
 ·obtain ⟨bs,rb⟩:=qS I (.tuple ds) y u h2 ry (by simpa [PyData.canLay0] using hc)
  exact SeqAt.in_tuple_reads rb ra hc (qq h3) (by omega) ⟨.bl _,H,I,rfl,k⟩
theorem ajl (hu:X.A.units+64 < cLine):OpR X (compareOp .NotIn) (aps X.K true):=by
 intro pins s σ H x y v u Q I rx ry ⟨p,ds,h1,h2,h3,h4,k⟩
 obtain ⟨as,ra⟩:=qS I p x v h1 rx (qq h3)
 have d1:=ab8 h3
 have hc:PyData.canLayAll0 ds=true:=by simpa [PyData.canLay0] using qq h4
 rcases h2 with h2 | h2
 ·obtain ⟨bs,rb⟩:=qS I (.list ds) y u h2 ry (qq h4)
  exact SeqAt.notIn_list_reads rb ra hc (qq h3) (by omega) ⟨.bl _,H,I,rfl,k⟩
 ·obtain ⟨bs,rb⟩:=qS I (.tuple ds) y u h2 ry (by simpa [PyData.canLay0] using hc)
  exact SeqAt.notIn_tuple_reads rb ra hc (qq h3) (by omega) ⟨.bl _,H,I,rfl,k⟩
noncomputable def dIn (neg:Bool):PyData->PyData->Option PyData:=fun p q=>match q with
 | .list ds=>if okD p=true/\okD (.list ds)=true then some (.bool (if neg then !(ds.any fun z=>PyData.eqv z p) else ds.any fun z=>PyData.eqv z p)) else none
 | .tuple ds=>if okD p=true/\okD (.list ds)=true then some (.bool (if neg then !(ds.any fun z=>PyData.eqv z p) else ds.any fun z=>PyData.eqv z p)) else none
 | _=>none
theorem aoF {neg:Bool}{p q d:PyData}{x y:V}{H:Hp}{Q:VK}{K:PySem.W.Frag} (h:dIn neg p q=some d) (rx:Rep K H p x) (ry:Rep K H q y) (k:∀ v H',jt H H'->Rep K H' d v->Q v H'):aps K neg x y H Q:=by
 unfold dIn at h
 split at h
 ·split at h
  ·rename_i ds hc
   cases h
   exact ⟨p,ds,rx,.inl ry,hc.1,hc.2,k _ H (jt.refl H) rfl⟩
  ·cases h
 ·split at h
  ·rename_i ds hc
   cases h
   exact ⟨p,ds,rx,.inr ry,hc.1,hc.2,k _ H (jt.refl H) rfl⟩
  ·cases h
 ·cases h
theorem apu (hu:X.A.units+64 < cLine):OpD X (compareOp .In) (dIn false):=⟨_,apt hu,fun p q d x y H Q h rx ry k=>aoF h rx ry k⟩
theorem adL (hu:X.A.units+64 < cLine):OpD X (compareOp .NotIn) (dIn true):=⟨_,ajl hu,fun p q d x y H Q h rx ry k=>aoF h rx ry k⟩
noncomputable def Jo (f:Int->Int->Bool):PyData->PyData->Option PyData
 | .int i,.int j=>some (.bool (f i j))
 | _,_=>none
theorem ahk {f:Int->Int->Bool}{p q d:PyData}{x y:V}{H:Hp}{Q:VK}{K:PySem.W.Frag} (h:Jo f p q=some d) (rx:Rep K H p x) (ry:Rep K H q y) (k:∀ v H',jt H H'->Rep K H' d v->Q v H'):rI0 (fun i j=> .bl (f i j)) x y H Q:=by
 unfold Jo at h
 split at h
 ·cases h; cases (show x=_ from rx); cases (show y=_ from ry); exact ⟨_,_,rfl,rfl,k _ H (jt.refl H) rfl⟩
 ·cases h
theorem ahl:OpD X (compareOp .Lt) (Jo fun i j=>decide (i < j)):=⟨_,aqq,fun p q d x y H Q h rx ry k=>ahk h rx ry k⟩
theorem Zf:OpD X (compareOp .LtE) (Jo fun i j=>decide (i<=j)):=⟨_,aqr,fun p q d x y H Q h rx ry k=>ahk h rx ry k⟩
theorem akU:OpD X (compareOp .Gt) (Jo fun i j=>decide (j < i)):=⟨_,aqs,fun p q d x y H Q h rx ry k=>ahk h rx ry k⟩
noncomputable def chn (g g':PyData->PyData->Option PyData) (fa fb fc:Rho->Option PyData):Rho->Option PyData:=fun ρ=>(fa ρ).bind fun x=>(fb ρ).bind fun y=>(g x y).bind fun z=>(asB z).bind fun t=>if t=true then (fc ρ).bind fun w=>g' y w else some (.bool false)
variable {a b c e:Expr}{fa fb fc:Rho->Option PyData}{pos:Pos}
theorem aoG {g g':PyData->PyData->Option PyData}{K:PySem.W.Frag}{r r':R2} (hr:∀ p q d x y H Q,g p q=some d->Rep K H p x->Rep K H q y->(∀ v H',jt H H'->Rep K H' d v->Q v H')->r x y H Q)
  (hr':∀ p q d x y H Q,g' p q=some d->Rep K H p x->Rep K H q y->(∀ v H',jt H H'->Rep K H' d v->Q v H')->r' x y H Q) {σ:St} {H:Hp} {Q:VK} (h:tD K (chn g g' fa fb fc) σ H Q):ahd r r' (tD K fa) (tD K fb) (tD K fc) σ H Q:=by
 obtain ⟨ρ,d,en,h,k⟩:=h
 unfold chn at h
 cases ha:fa ρ with
 | none=>rw [ha] at h; cases h
 | some p=>
  cases hb:fb ρ with
  | none=>rw [ha,hb] at h; cases h
  | some q=>
   rw [ha,hb] at h
   cases hg:g p q with
   | none=>simp [hg] at h
   | some z=>
    cases ht:asB z with
    | none=>simp [hg,ht] at h
    | some t=>
     have hz:=JG ht
     subst hz
     refine ⟨ρ,p,en,ha,fun x H1 s1 r1=>⟨ρ,q,en.mono s1,hb,fun y H2 s2 r2=>?_⟩⟩
     refine hr p q _ x y H2 _ hg (Rep.mono s2 p x r1) r2 fun v H3 s3 r3=>⟨t,r3,?_⟩
     have s13:=s1.trans (s2.trans s3)
     cases t with
     | false=>
      rw [if_neg Bool.false_ne_true]
      have hd:PyData.bool false=d:=by simpa [hg,asB] using h
      subst hd
      exact k _ H3 s13 rfl
     | true=>
      rw [if_pos rfl]
      cases hc:fc ρ with
      | none=>simp [hg,asB,hc] at h
      | some w=>
       refine ⟨ρ,w,en.mono s13,hc,fun z H4 s4 r4=>?_⟩
       exact hr' q w d y z H4 Q (by simpa [hg,asB,hc] using h) (Rep.mono (s3.trans s4) q y r2) r4 fun v H5 s5 r5=>k v H5 (s13.trans (s4.trans s5)) r5
theorem akV {op op':CmpOp}{g g':PyData->PyData->Option PyData} (ho:OpD X (compareOp op) g) (ho':OpD X (compareOp op') g') (ha:PD X a fa) (hb:PD X b fb) (hc:PD X c fc)
  (hm:lastMarks [op,op'] [b,c]=false:=by with_unfolding_all rfl):PD X (.Compare a [op,op'] [b,c] pos) (chn g g' fa fb fc):=by
 with_unfolding_all
  obtain ⟨r,h1,h2⟩:=ho
  obtain ⟨r',h3,h4⟩:=ho'
  exact PE.imp (akA h1 h3 ha hb hc hm) fun σ H Q h=>aoG h2 h4 h
theorem abl {op op':CmpOp}{g g':PyData->PyData->Option PyData} (ho:OpD X (compareOp op) g) (ho':OpD X (compareOp op') g') (ha:PD X a fa) (hb:PD X b fb) (hc:PD X c fc)
  (hm:lastMarks [op,op'] [b,c]=false:=by with_unfolding_all rfl):PTD X (.Compare a [op,op'] [b,c] pos) (tst (chn g g' fa fb fc)):=by
 with_unfolding_all
  obtain ⟨r,h1,h2⟩:=ho
  obtain ⟨r',h3,h4⟩:=ho'
  refine PT.imp (akB h1 h3 ha hb hc hm) fun σ H Q ⟨ρ,t,en,h,k⟩=>?_
  cases hd:chn g g' fa fb fc ρ with
  | none=>simp [tst,hd] at h
  | some d=>
   have ht:d= .bool t:=JG (by simpa [tst,hd] using h)
   subst ht
   exact aoG h2 h4 ⟨ρ,_,en,hd,fun v H' s r=>⟨t,r,k H' s⟩⟩
noncomputable def dIx:PyData->PyData->Option PyData
 | .list ds,.int i=>if ds.length < 1000000 then atI ds i else none
 | .tuple ds,.int i=>if ds.length < 1000000 then atI ds i else none
 | .dict kvs,.int i=>if kvs.length < 1000000/\Jp kvs=true then (atI kvs i).map (·.1) else none
 | _,_=>none
theorem aio {K:PySem.W.Frag}{H:Hp}{ds:List PyData}{xs:List V}{i:Int}{d:PyData} (r:Reps K H ds xs) (h:atI ds i=some d):∃ x,atI xs i=some x/\Rep K H d x:=by
 have hl:=r.length
 unfold atI at h ⊢
 rw [hl]
 cases e:ixN ds.length i with
 | none=>rw [e] at h; cases h
 | some j=>
  rw [e] at h
  obtain ⟨x,e1,e2⟩:=r.get (show ds[j]?=some d from h)
  exact ⟨x,e1,e2⟩
noncomputable def IxD (X:Cx) (g:PyData->PyData->Option PyData):Prop:=∃ r,IxR X r/\∀ p q d x y H Q,g p q=some d->Rep X.K H p x->Rep X.K H q y->(∀ v H',jt H H'->Rep X.K H' d v->Q v H')->r x y H Q
theorem ixd:IxD X dIx:=by
 refine ⟨_,am3.or apg,fun p q d x y H Q h rx ry k=>?_⟩
 unfold dIx at h
 split at h
 ·split at h
  ·obtain ⟨a,us,e1,e2,e3⟩:=rx
   cases (show y=_ from ry)
   obtain ⟨z,g1,g2⟩:=aio e3 h
   exact .inl ⟨a,us,_,z,e1,rfl,SqL.of e2,g1,k z H (jt.refl H) g2⟩
  ·cases h
 ·split at h
  ·obtain ⟨a,us,e1,e2,e3⟩:=rx
   cases (show y=_ from ry)
   obtain ⟨z,g1,g2⟩:=aio e3 h
   exact .inr ⟨a,us,_,z,e1,rfl,e2,g1,k z H (jt.refl H) g2⟩
  ·cases h
 ·split at h
  ·rename_i hs
   obtain ⟨a,ns,e1,e2,e3⟩:=rx.scrOut hs.2
   cases (show y=_ from ry)
   subst e3
   rename_i i
   unfold atI at h
   rw [List.length_map] at h
   cases e:ixN ns.length i with
   | none=>rw [e] at h; cases h
   | some j=>
    rw [e] at h
    have h':((ns.map fun n=>(PyData.int n,PyData.none))[j]?).map (·.1)=some d:=h
    rw [List.getElem?_map] at h'
    cases e4:ns[j]? with
    | none=>rw [e4] at h'; cases h'
    | some n=>
     rw [e4] at h'
     cases h'
     refine .inl ⟨a,List.map V.int ns,i,.int n,e1,rfl,e2,?_,k _ H (jt.refl H) rfl⟩
     unfold atI
     rw [List.length_map,e]
     show (List.map V.int ns)[j]?=_
     rw [List.getElem?_map,e4]; rfl
  ·cases h
 ·cases h
theorem jB (ha:PD X a fa) (hb:PD X b fb) (hs:aij b:=by intro _ _; rfl):PD X (.Subscript a b pos) (op2 dIx fa fb):=by
 with_unfolding_all
  obtain ⟨r,h1,h2⟩:=ixd (X:=X)
  exact PE.imp (aqy h1 ha hb hs) fun σ H Q h=>ani h2 h
noncomputable def Jd (ds:List PyData):Option PyData:=match ds with
 | [.list xs]=>some (.int xs.length)
 | [.tuple xs]=>some (.int xs.length)
 | [.dict xs]=>if Jp xs=true then some (.int xs.length) else none
 | _=>none
theorem qz:Q1 X (.builtin "len") Jd:=by
 refine ⟨_,aeA,fun ds d xs H Q h r k=>?_⟩
 unfold Jd at h
 split at h
 ·cases h
  obtain ⟨x,q,e1,e2,e3⟩:=r
  cases (show q=[] from e3)
  obtain ⟨a,us,g1,g2,g3⟩:=e2
  subst g1
  exact ⟨a,us,e1,.inl (SqL.of g2),k _ H (jt.refl H) (by show _=_; rw [g3.length])⟩
 ·cases h
  obtain ⟨x,q,e1,e2,e3⟩:=r
  cases (show q=[] from e3)
  obtain ⟨a,us,g1,g2,g3⟩:=e2
  subst g1
  exact ⟨a,us,e1,.inr g2,k _ H (jt.refl H) (by show _=_; rw [g3.length])⟩
 ·split at h
  ·rename_i hs
   cases h
   obtain ⟨x,q,e1,e2,e3⟩:=r
   cases (show q=[] from e3)
   obtain ⟨a,ns,g1,g2,g3⟩:=e2.scrOut hs
   subst g1; subst g3
   exact ⟨a,_,e1,.inl g2,k _ H (jt.refl H) (by show _=_; simp)⟩
  ·cases h
 ·cases h
noncomputable def afK (ds:List PyData):Option PyData:=match ds with
 | [.int i,.int j]=>some (.int (if j > i then j else i))
 | _=>none
noncomputable def akW (ds:List PyData):Option PyData:=match ds with
 | [.int i,.int j]=>some (.int (if j < i then j else i))
 | _=>none
theorem aip (hc:X.calm=true):Q1 X (.builtin "max") afK:=by
 refine ⟨_,aja hc,fun ds d xs H Q h r k=>?_⟩
 unfold afK at h
 split at h
 ·cases h
  obtain ⟨x,q,e1,e2,y,q',e3,e4,e5⟩:=r
  cases (show x=_ from e2); cases (show y=_ from e4); cases (show q'=[] from e5); subst e3
  exact ⟨_,_,e1,k _ H (jt.refl H) rfl⟩
 ·cases h
theorem ann (hc:X.calm=true):Q1 X (.builtin "min") akW:=by
 refine ⟨_,ajb hc,fun ds d xs H Q h r k=>?_⟩
 unfold akW at h
 split at h
 ·cases h
  obtain ⟨x,q,e1,e2,y,q',e3,e4,e5⟩:=r
  cases (show x=_ from e2); cases (show y=_ from e4); cases (show q'=[] from e5); subst e3
  exact ⟨_,_,e1,k _ H (jt.refl H) rfl⟩
 ·cases h
end
section
variable {X:Cx}{pins:List (Addr × Obj)}{σ:St}{H:Hp}{s:Shared}
theorem abm {prog:Program}{w:World}{A:Around}{E:Value->Shared->Prop}{l:Addr}{its:Array Value}{Q:Value->Shared->Prop} (hl:s.heap.IsList l its)
  (h:∀ (h2:Heap) (it:Addr),(h2.IsListIter it l 0/\h2.IsList l its)->(∀ b ∈ [it,l],b < h2.objs.size)->l ≠ it->(∀ b o,s.heap.get? b=some o->h2.get? b=some o)->s.heap.get? it=none->Q (.ref it) { s with heap:=h2 }):
  wpAny (model prog w) A (pyIter (.ref l)) Q E s:=by
 have hlt:l < s.heap.objs.size:=by
  obtain ⟨_,e,_⟩:=hl
  exact Heap.lt_size e
 refine wpAny_pyIter_list hl (h _ _ ⟨⟨_,Heap.get?_push_size _ rfl,rfl,rfl⟩,hl.push _⟩ (fun b hb=>?_) (Nat.ne_of_lt hlt) (fun b o e=>Heap.get?_push_of_some _ e) (Heap.get?_none_of_le (Nat.le_refl _)))
 rw [Heap.size_push]
 rcases List.mem_cons.mp hb with e | hb
 ·rw [e]; exact Nat.lt_succ_self _
 ·have e:b=l:=by simpa using hb
  rw [e]; exact Nat.lt_succ_of_lt hlt
theorem adM {prog:Program}{w:World}{A:Around}{E:Value->Shared->Prop}{l:Addr}{its:Array Value}{Q:Value->Shared->Prop} (hl:s.heap.IsTuple l its)
  (h:∀ (h2:Heap) (it:Addr),(h2.IsTupleIter it l 0/\h2.IsTuple l its)->(∀ b ∈ [it,l],b < h2.objs.size)->l ≠ it->(∀ b o,s.heap.get? b=some o->h2.get? b=some o)->s.heap.get? it=none->Q (.ref it) { s with heap:=h2 }):
  wpAny (model prog w) A (pyIter (.ref l)) Q E s:=by
 have hlt:l < s.heap.objs.size:=by
  obtain ⟨_,e,_⟩:=hl
  exact Heap.lt_size e
 have hl2:∀ o,(s.heap.push o).IsTuple l its:=fun o=>by
  obtain ⟨ob,e,r⟩:=hl
  exact ⟨ob,Heap.get?_push_of_some _ e,r⟩
 refine wpAny_pyIter_tuple hl (h _ _ ⟨⟨_,Heap.get?_push_size _ rfl,rfl,rfl⟩,hl2 _⟩ (fun b hb=>?_) (Nat.ne_of_lt hlt) (fun b o e=>Heap.get?_push_of_some _ e) (Heap.get?_none_of_le (Nat.le_refl _)))
 rw [Heap.size_push]
 rcases List.mem_cons.mp hb with e | hb
 ·rw [e]; exact Nat.lt_succ_self _
 ·have e:b=l:=by simpa using hb
  rw [e]; exact Nat.lt_succ_of_lt hlt
theorem aaB {h h2 h3 : Heap} {it : Addr} (k1 : ∀ b o, h.get? b = some o -> h2.get? b = some o) (hn : h.get? it = none) (k2 : ∀ b o, b ∉ [it] -> h2.get? b = some o -> h3.get? b = some o) : ∀ b o, h.get? b = some o -> h3.get? b = some o := fun b o e =>
  k2 b o (fun z => by have e1 : b = it := by simpa using z
                      rw [e1, hn] at e; cases e) (k1 b o e)
theorem aiq:∀ {bs:List Bool}{us:List Value},jI (bs.map V.bl) us->us=bs.map Value.bool
 | [],us,r=>by cases r; rfl
 | b::bs,us,r=>by
  cases r with
  | cons r1 r2=>cases (show _=_ from r1); rw [aiq r2]; rfl
theorem ajm (bs:List Bool):(List.range bs.length).all (fun i=>bs.getD i false)=bs.all id:=by
 have:bs=(List.range bs.length).map (fun i=>bs.getD i false):=by
  apply List.ext_getElem?
  intro i
  rw [List.getElem?_map]
  by_cases h:i < bs.length
  ·rw [List.getElem?_range h]; simp [List.getD,h]
  ·simp [h]
 conv=>rhs; rw [this]
 rw [List.all_map]; rfl
noncomputable def arz (K:PySem.W.Frag):List V->Hp->VK->Prop:=fun xs H Q=>∃ a bs,xs=[.ref a]/\SqL K H a (List.map V.bl bs)/\Q (.bl (bs.all id)) H
theorem ajn (hc:X.calm=true):zC X (.builtin "all") (arz X.K):=by
 intro pins s σ H xs us Q I r ⟨a,bs,e,hq,q⟩
 subst e
 obtain ⟨u,rfl,rx⟩:=aaw r
 cases rx
 obtain ⟨its,rv,pl,hz⟩:=I.list hq
 have ei:=aiq rv
 have hh:=I.ok.hd hc
 refine call_all_walk (abm pl.isList fun h2 it st hlt hne k1 hn=>?_)
 refine ⟨it,[it,a],[it],its.toArray.size,(fun i v=>its.toArray[i]?=some v),_,fun i=>bs.getD i false,rfl,Walks.list (A:=X.A.in1) hh it a hne its.toArray,st,?_,fun h3 tk k2=>?_⟩
 ·intro i v s' Q' E' hP hq'
  have:v= .bool (bs.getD i false):=by
   have hP':its[i]?=some v:=by simpa using hP
   rw [ei,List.getElem?_map] at hP'
   cases hb:bs[i]? with
   | none=>rw [hb] at hP'; cases hP'
   | some b=>rw [hb] at hP'; cases hP'; simp [List.getD,hb]
  subst this
  exact wpAny_truthy_bool hq'
 ·have I3:=I.kept (t':=tk) (aaB k1 hn k2)
  have hl:its.toArray.size=bs.length:=by rw [ei]; simp
  refine ⟨.bl (bs.all id),H,I3,?_,q⟩
  show _=_
  rw [hl,ajm]
noncomputable def bls:List PyData->Option (List Bool)
 | []=>some []
 | d::r=>(asB d).bind fun b=>(bls r).map fun q=>b::q
theorem Reps.bls {K:PySem.W.Frag}{H:Hp}:∀ {ds:List PyData}{bs:List Bool}{xs:List V},BX.bls ds=some bs->Reps K H ds xs->xs=bs.map V.bl
 | [],bs,xs,h,r=>by simp [BX.bls] at h; subst h; exact r
 | d::ds,bs,xs,h,⟨x,q,e1,e2,e3⟩=>by
  subst e1
  cases h1:asB d with
  | none=>simp [BX.bls,h1] at h
  | some b=>
   cases h2:BX.bls ds with
   | none=>simp [BX.bls,h1,h2] at h
   | some r=>
    have:b::r=bs:=by simpa [BX.bls,h1,h2] using h
    subst this
    have hd:=JG h1
    subst hd
    cases (show x=_ from e2)
    rw [Reps.bls h2 e3]; rfl
noncomputable def ano (ds:List PyData):Option PyData:=match ds with
 | [.list xs]=>(bls xs).map fun bs=> .bool (bs.all id)
 | _=>none
theorem akX (hc:X.calm=true):Q1 X (.builtin "all") ano:=by
 refine ⟨_,ajn hc,fun ds d xs H Q h r k=>?_⟩
 unfold ano at h
 split at h
 ·rename_i ys
  cases hb:bls ys with
  | none=>simp [hb] at h
  | some bs=>
   have:PyData.bool (bs.all id)=d:=by simpa [hb] using h
   subst this
   obtain ⟨x,q,e1,e2,e3⟩:=r
   cases (show q=[] from e3)
   obtain ⟨a,us,g1,g2,g3⟩:=e2
   subst g1
   have:=Reps.bls hb g3
   subst this
   exact ⟨a,bs,e1,SqL.of g2,k _ H (jt.refl H) rfl⟩
 ·cases h
noncomputable def adm:PyData->Option Int
 | .int i=>some i
 | _=>none
noncomputable def qU:List PyData->Option (List Int)
 | []=>some []
 | d::r=>(adm d).bind fun b=>(qU r).map fun q=>b::q
theorem Jx:∀ {ds:List PyData}{ns:List Int},qU ds=some ns->ds=ns.map PyData.int
 | [],ns,h=>by simp [qU] at h; subst h; rfl
 | d::ds,ns,h=>by
  cases d with
  | int i=>
   cases h2:qU ds with
   | none=>simp [qU,adm,h2] at h
   | some r=>
    have:i::r=ns:=by simpa [qU,adm,h2] using h
    subst this
    rw [Jx h2]; rfl
  | _=>simp [qU,adm] at h
theorem zv {ns:List Int}{us:List Value}{i:Nat}{v:Value} (r:jI (ns.map V.int) us) (h:us.toArray[i]?=some v):∃ t,v= .int (ns.getD i 0) t:=by
 have h':us[i]?=some v:=by simpa using h
 have hi:i < us.length:=(List.getElem?_eq_some_iff.mp h').1
 have hl:=r.length
 rw [List.length_map] at hl
 obtain ⟨u,e1,e2⟩:=r.get (show (ns.map V.int)[i]?=some (V.int (ns.getD i 0)) by
  rw [List.getElem?_map]
  have:i < ns.length:=by omega
  simp [List.getD,this])
 rw [h'] at e1; cases e1
 exact e2
theorem abP (ns:List Int):preSum (fun i=>ns.getD i 0) ns.length=ns.sum:=by
 have go:∀ k,k<=ns.length->preSum (fun i=>ns.getD i 0) k=(ns.take k).sum:=by
  intro k
  induction k with
  | zero=>intro _; simp [preSum]
  | succ k ih=>
   intro hk
   have hlt:k < ns.length:=by omega
   have h1:ns.take (k+1)=ns.take k++[ns[k]]:=by rw [List.take_succ]; simp [hlt]
   rw [h1]
   simp only [preSum,ih (by omega),List.sum_append,List.sum_cons,List.sum_nil,Int.add_zero]
   simp [List.getD,hlt]
 have:=go ns.length (Nat.le_refl _)
 simpa using this
noncomputable def arA (K:PySem.W.Frag):List V->Hp->VK->Prop:=fun xs H Q=>∃ a ns,xs=[.ref a]/\(SqL K H a (List.map V.int ns) ∨ SqT K H a (List.map V.int ns))/\Q (.int ns.sum) H
theorem ajo (hc:X.calm=true):zC X (.builtin "sum") (arA X.K):=by
 intro pins s σ H xs us Q I r ⟨a,ns,e,hq,q⟩
 subst e
 obtain ⟨u,rfl,rx⟩:=aaw r
 cases rx
 have hh:=I.ok.hd hc
 rcases hq with hq | hq
 ·obtain ⟨its,rv,pl,hz⟩:=I.list hq
  have hl:its.toArray.size=ns.length:=by have:=rv.length; simp at this ⊢; omega
  refine call_sum_walkG (abm pl.isList fun h2 it st hlt hne k1 hn=>?_)
  refine ⟨it,[it,a],[it],its.toArray.size,(fun i v=>its.toArray[i]?=some v),_,fun i=>ns.getD i 0,rfl,Walks.list (A:=X.A.in1) hh it a hne its.toArray,st,hlt,fun i v hP=>zv rv hP,fun h3 tk t' k2=>?_⟩
  exact ⟨.int ns.sum,H,I.kept (t':=tk) (aaB k1 hn k2),⟨t',by rw [hl,abP]⟩,q⟩
 ·obtain ⟨its,rv,pl,hz⟩:=I.tuple hq
  have hl:its.toArray.size=ns.length:=by have:=rv.length; simp at this ⊢; omega
  refine call_sum_walkG (adM (show s.heap.IsTuple a its.toArray from pl) fun h2 it st hlt hne k1 hn=>?_)
  refine ⟨it,[it,a],[it],its.toArray.size,(fun i v=>its.toArray[i]?=some v),_,fun i=>ns.getD i 0,rfl,Walks.tuple (A:=X.A.in1) hh it a hne its.toArray,st,hlt,fun i v hP=>zv rv hP,fun h3 tk t' k2=>?_⟩
  exact ⟨.int ns.sum,H,I.kept (t':=tk) (aaB k1 hn k2),⟨t',by rw [hl,abP]⟩,q⟩
noncomputable def anp (ds:List PyData):Option PyData:=match ds with
 | [.list xs]=>(qU xs).map fun ns=> .int ns.sum
 | [.tuple xs]=>(qU xs).map fun ns=> .int ns.sum
 | _=>none
theorem akY (hc:X.calm=true):Q1 X (.builtin "sum") anp:=by
 refine ⟨_,ajo hc,fun ds d xs H Q h r k=>?_⟩
 unfold anp at h
 split at h
 ·rename_i ys
  cases hb:qU ys with
  | none=>simp [hb] at h
  | some ns=>
   have:PyData.int ns.sum=d:=by simpa [hb] using h
   subst this
   obtain ⟨x,q,e1,e2,e3⟩:=r
   cases (show q=[] from e3)
   obtain ⟨a,us,g1,g2,g3⟩:=e2
   subst g1
   rw [Jx hb] at g3
   have:=Reps.ints g3
   subst this
   exact ⟨a,ns,e1,.inl (SqL.of g2),k _ H (jt.refl H) rfl⟩
 ·rename_i ys
  cases hb:qU ys with
  | none=>simp [hb] at h
  | some ns=>
   have:PyData.int ns.sum=d:=by simpa [hb] using h
   subst this
   obtain ⟨x,q,e1,e2,e3⟩:=r
   cases (show q=[] from e3)
   obtain ⟨a,us,g1,g2,g3⟩:=e2
   subst g1
   rw [Jx hb] at g3
   have:=Reps.ints g3
   subst this
   exact ⟨a,ns,e1,.inr g2,k _ H (jt.refl H) rfl⟩
 ·cases h
end
section
variable {prog:Program}{w:World}{A:Around}{E:Value->Shared->Prop}{s:Shared}
theorem QJ {it t:Addr}{i:Nat}{ys:Array Value}{x:Value}{Q:Value->Shared->Prop} (hit:s.heap.IsTupleIter it t i) (ht:s.heap.IsTuple t ys) (hx:ys[i]?=some x)
  (hQ:∀ h',h'.IsTupleIter it t (i+1)->Heap.SameBut it s.heap h'->Q x { s with heap:=h' }):wpAny (model prog w) A (Builtin.SmallTypes.nextOf (.ref it)) Q E s:=by
 obtain ⟨o,ho,hc,hd⟩:=id hit
 obtain ⟨ot,hot,_,nt,hdt⟩:=ht
 unfold Builtin.SmallTypes.nextOf
 refine wpAny_bind (wpAny_callSpecial?_slot (name:=Str.ofString "__next__") hit.typeIs F.slot_tuple_iterator_next
  (wpAny_call_entry F.slot_tuple_iterator_next hit.typeIs F.entry_tuple_iterator_next ?_
   (F.args_tuple_iterator_next_1 _)))
 refine wpAny_bind (m:=field (.ref it) 0) (wpAny_field ho hd (x:= .ref t) rfl ?_)
 have no:¬ ((Value.ref t == Value.none)=true):=Bool.false_ne_true
 show wpAny _ _ (if (Value.ref t == Value.none)=true then _ else
  _) _ _ s
 rw [if_neg no]
 refine wpAny_bind (m:=field (.ref it) 1) (wpAny_field ho hd (x:= .int i 0) rfl ?_)
 refine wpAny_bind (m:=seqItems? (.ref t)) (wpAny_seqItems hot hdt ?_)
 simp only [Int.toNat_natCast,hx]
 refine wpAny_bind (wpAny_setField ho hd (by simp) (wpAny_pure ⟨x,rfl,wpAny_pure (hQ _ ?_ (Heap.SameBut.update ..))⟩))
 refine ⟨_,Heap.get?_update_self _ ho (Obj.isFreed_of_fields (Obj.data_mapFields hd _)),(Obj.cls_mapFields ..).trans hc,?_⟩
 rw [Obj.data_mapFields hd]
 simp [rawInt]
theorem adN {it t:Addr}{i:Nat}{ys:Array Value}{Q:Value->Shared->Prop} (hh:A.handled=none) (hit:s.heap.IsTupleIter it t i) (ht:s.heap.IsTuple t ys) (hx:ys[i]?=none)
  (hE:∀ h' e,Heap.ExtBut it s.heap h'->(∃ o,h'.get? e=some o/\o.cls= .type "StopIteration")->E (.ref e) { s with heap:=h' }):wpAny (model prog w) A (Builtin.SmallTypes.nextOf (.ref it)) Q E s:=by
 obtain ⟨o,ho,hc,hd⟩:=id hit
 obtain ⟨ot,hot,_,nt,hdt⟩:=ht
 unfold Builtin.SmallTypes.nextOf
 refine wpAny_bind (wpAny_callSpecial?_slot (name:=Str.ofString "__next__") hit.typeIs F.slot_tuple_iterator_next
  (wpAny_call_entry F.slot_tuple_iterator_next hit.typeIs F.entry_tuple_iterator_next ?_
   (F.args_tuple_iterator_next_1 _)))
 refine wpAny_bind (m:=field (.ref it) 0) (wpAny_field ho hd (x:= .ref t) rfl ?_)
 have no:¬ ((Value.ref t == Value.none)=true):=Bool.false_ne_true
 show wpAny _ _ (if (Value.ref t == Value.none)=true then _ else
  _) _ _ s
 rw [if_neg no]
 refine wpAny_bind (m:=field (.ref it) 1) (wpAny_field ho hd (x:= .int i 0) rfl ?_)
 refine wpAny_bind (m:=seqItems? (.ref t)) (wpAny_seqItems hot hdt ?_)
 simp only [Int.toNat_natCast,hx]
 refine wpAny_bind (wpAny_rule (wpAny_bind (wpAny_setField ho hd (by simp) ?_)))
 refine wpAny_bind (m:=newExc (.type "StopIteration") []) ?_
 simp only [newExc,newTuple]
 refine wpAny_bind (wpAny_newObj_type ?_ (by size_fits))
 refine wpAny_bind (m:=firstArgMember _ _) (wpAny_of_eq (a:=Value.none)
  (by first | rfl | (simp only [firstArgMember]; rfl)) ?_)
 refine wpAny_newObj_type ?_ (by size_fits)
 simp only [raiseNew]
 refine wpAny_bind (wpAny_handled ?_)
 rw [show A.in1.handled=none from hh]
 refine wpAny_bind (wpAny_pure (wpAny_throw ?_))
 exact hE _ _ (((Heap.SameBut.update ..).extBut.push _).push _) ⟨_,Heap.get?_push_size _ rfl,rfl⟩
noncomputable abbrev aaC (h:Heap) (T:Addr) (a b c:Value):Prop:=h.get? T=some { cls:= .type "tuple",data:= .seq #[a,b,c] }
theorem acG {T:Addr}{a b c x:Value}{k:Nat}{Q:Unit->Shared->Prop} (hT:aaC s.heap T a b c)
  (h:∀ h',h'.get? T=some { cls:= .type "tuple",data:= .seq ((#[a,b,c]:Array Value).setIfInBounds k x) }->Heap.SameBut T s.heap h'->Q () { s with heap:=h' }):
  wpAny (model prog w) A (updateSeq T (·.setIfInBounds k x)) Q E s:=by
 refine wpAny_updateSeq hT rfl (h _ ?_ (Heap.SameBut.update ..))
 rw [Heap.get?_update_self _ hT rfl]
 simp [Obj.mapSeq]
structure Apart3 (z TI TO i1 i2 i3 t1 t2 t3:Addr):Prop where
 nd:[z,TO,i1,i2,i3].Nodup
 ti:TI ∉ [z,TO,i1,i2,i3]
 s1:t1 ∉ [z,TO,i1,i2,i3]
 s2:t2 ∉ [z,TO,i1,i2,i3]
 s3:t3 ∉ [z,TO,i1,i2,i3]
structure Zip3 (h:Heap) (z TI TO i1 i2 i3 t1 t2 t3:Addr) (xs ys zs:Array Value) (f0:Value) (k:Nat):Prop where
 hz:IsZip h z TI TO f0
 hTI:aaC h TI (.ref i1) (.ref i2) (.ref i3)
 hTO:∃ a b c,aaC h TO a b c
 g1:h.IsTupleIter i1 t1 k
 g2:h.IsTupleIter i2 t2 k
 g3:h.IsTupleIter i3 t3 k
 a1:h.IsTuple t1 xs
 a2:h.IsTuple t2 ys
 a3:h.IsTuple t3 zs
theorem Zip3.keep {h h':Heap}{z TI TO i1 i2 i3 t1 t2 t3:Addr}{xs ys zs:Array Value}{f0:Value}{k:Nat} (S:Zip3 h z TI TO i1 i2 i3 t1 t2 t3 xs ys zs f0 k)
  (kp:∀ b ∈ [z,TI,TO,i1,i2,i3,t1,t2,t3],∀ o,h.get? b=some o->h'.get? b=some o):Zip3 h' z TI TO i1 i2 i3 t1 t2 t3 xs ys zs f0 k:=by
 obtain ⟨hz,hTI,⟨a,b,c,hTO⟩,⟨o1,e1,r1⟩,⟨o2,e2,r2⟩,⟨o3,e3,r3⟩,⟨p1,f1,q1⟩,⟨p2,f2,q2⟩,⟨p3,f3,q3⟩⟩:=S
 exact ⟨kp z (by simp) _ hz,kp TI (by simp) _ hTI,⟨a,b,c,kp TO (by simp) _ hTO⟩,⟨o1,kp i1 (by simp) _ e1,r1⟩,⟨o2,kp i2 (by simp) _ e2,r2⟩,⟨o3,kp i3 (by simp) _ e3,r3⟩,⟨p1,kp t1 (by simp) _ f1,q1⟩,⟨p2,kp t2 (by simp) _ f2,q2⟩,⟨p3,kp t3 (by simp) _ f3,q3⟩⟩
noncomputable def But (l:List Addr) (h h':Heap):Prop:=∀ b o,b ∉ l->h.get? b=some o->h'.get? b=some o
theorem But.of {b:Addr}{l:List Addr}{h h':Heap} (x:Heap.ExtBut b h h') (hb:b ∈ l):But l h h':=fun c o hc e=>x c o (fun z=>hc (by rw [z]; exact hb)) e
theorem But.trans {l:List Addr}{h h1 h2:Heap} (a:But l h h1) (b:But l h1 h2):But l h h2:=fun c o hc e=>b c o hc (a c o hc e)
theorem ajp {z TI TO i1 i2 i3 t1 t2 t3:Addr}{xs ys zs:Array Value}{k:Nat}{x y v:Value}{Q:Value->Shared->Prop} (D:Apart3 z TI TO i1 i2 i3 t1 t2 t3) (S:Zip3 s.heap z TI TO i1 i2 i3 t1 t2 t3 xs ys zs .none k)
  (hx:xs[k]?=some x) (hy:ys[k]?=some y) (hv:zs[k]?=some v)
  (hQ:∀ h',Zip3 h' z TI TO i1 i2 i3 t1 t2 t3 xs ys zs (rawInt s.heap.objs.size) (k+1)->aaC h' s.heap.objs.size x y v->But [z,TO,i1,i2,i3] s.heap h'->Q (.ref s.heap.objs.size) { s with heap:=h' }):
  wpAny (model prog w) A (Builtin.«zip.__next__» ⟨[.ref z],[]⟩) (fun fin s'=>∃ v,fin= .done (.ret v)/\Q v s') E s:=by
 obtain ⟨hz,hTI,⟨a,b,c,hTO⟩,g1,g2,g3,a1,a2,a3⟩:=S
 obtain ⟨nd,ti,s1,s2,s3⟩:=D
 simp only [List.nodup_cons,List.mem_cons,List.not_mem_nil,or_false,not_or] at nd ti s1 s2 s3
 obtain ⟨⟨n1,n2,n3,n4⟩,⟨n5,n6,n7⟩,⟨n8,n9⟩,n10,_⟩:=nd
 obtain ⟨t1z,t1o,t11,t12,t13⟩:=s1
 obtain ⟨t2z,t2o,t21,t22,t23⟩:=s2
 obtain ⟨t3z,t3o,t31,t32,t33⟩:=s3
 obtain ⟨tiz,tio,ti1,ti2,ti3⟩:=ti
 refine wpAny_bind (m:=field (.ref z) 2) (wpAny_field hz rfl (x:= .bool false) rfl ?_)
 refine wpAny_bind (m:=field (.ref z) 3) (wpAny_field hz rfl (x:= .ref TI) rfl ?_)
 refine wpAny_bind (wpAny_seqItems hTI rfl ?_)
 refine wpAny_bind (m:=Builtin.SmallTypes.ownedTupleIsFree (.ref z)) ?_
 unfold Builtin.SmallTypes.ownedTupleIsFree
 refine wpAny_bind (wpAny_field hz rfl (x:= .none) rfl (wpAny_pure ?_))
 simp only [zzM]
 refine wpAny_bind (wpAny_rule ?_)
 refine wpAny_bind (wpAny_field hz rfl (x:= .ref TO) rfl ?_)
 refine wpAny_bind (wpAny_setField_rec hz (by simp) fun h1 hz1 b1=>?_)
 replace hz1:IsZip h1 z TI TO .ellipsis:=hz1
 refine wpAny_bind ?_
 simp only [List.zipIdx_cons,List.zipIdx_nil,List.forIn_cons,List.forIn_nil]
 refine wpAny_bind (wpAny_bind (wpAny_onRaise ?_))
 refine wpAny_bind (m:=Builtin.SmallTypes.nextOf (.ref i1)) ?_
 refine QJ (g1.extBut b1.extBut (Ne.symm n2)) (a1.extBut b1.extBut t1z) hx fun h2 g1' b2=>wpAny_pure ?_
 have o2:aaC h2 TO a b c:=b2.extBut _ _ n5 (b1.extBut _ _ (Ne.symm n1) hTO)
 refine wpAny_bind (wpAny_seqItems o2 rfl ?_)
 refine wpAny_bind (acG o2 fun h3 o3 b3=>?_)
 replace o3:aaC h3 TO x b c:=o3
 refine wpAny_bind (wpAny_letGo (wpAny_pure ?_))
 refine wpAny_bind (wpAny_bind (wpAny_onRaise ?_))
 refine wpAny_bind (m:=Builtin.SmallTypes.nextOf (.ref i2)) ?_
 refine QJ (((g2.extBut b1.extBut (Ne.symm n3)).extBut b2.extBut (Ne.symm n8)).extBut b3.extBut (Ne.symm n6)) (((a2.extBut b1.extBut t2z).extBut b2.extBut t21).extBut b3.extBut t2o) hy fun h4 g2' b4=>wpAny_pure ?_
 have o4:aaC h4 TO x b c:=b4.extBut _ _ n6 o3
 refine wpAny_bind (wpAny_seqItems o4 rfl ?_)
 refine wpAny_bind (acG o4 fun h5 o5 b5=>?_)
 replace o5:aaC h5 TO x y c:=o5
 refine wpAny_bind (wpAny_letGo (wpAny_pure ?_))
 refine wpAny_bind (wpAny_bind (wpAny_onRaise ?_))
 refine wpAny_bind (m:=Builtin.SmallTypes.nextOf (.ref i3)) ?_
 refine QJ (((((g3.extBut b1.extBut (Ne.symm n4)).extBut b2.extBut (Ne.symm n9)).extBut b3.extBut (Ne.symm n7)).extBut b4.extBut (Ne.symm n10)).extBut b5.extBut (Ne.symm n7))
  (((((a3.extBut b1.extBut t3z).extBut b2.extBut t31).extBut b3.extBut t3o).extBut b4.extBut t32).extBut b5.extBut t3o) hv fun h6 g3' b6=>wpAny_pure ?_
 have o6:aaC h6 TO x y c:=b6.extBut _ _ n7 o5
 refine wpAny_bind (wpAny_seqItems o6 rfl ?_)
 refine wpAny_bind (acG o6 fun h7 o7 b7=>?_)
 replace o7:aaC h7 TO x y v:=o7
 refine wpAny_bind (wpAny_letGo (wpAny_pure (wpAny_pure ?_)))
 refine wpAny_bind (wpAny_seqItems o7 rfl ?_)
 refine wpAny_bind (wpAny_newTuple ?_)
 have sz:h7.objs.size=s.heap.objs.size:=by rw [b7.1,b6.1,b5.1,b4.1,b3.1,b2.1,b1.1]
 have B:But [z,TO,i1,i2,i3] s.heap h7:=
  ((((((But.of b1.extBut (by simp)).trans (But.of b2.extBut (by simp))).trans (But.of b3.extBut (by simp))).trans (But.of b4.extBut (by simp))).trans (But.of b5.extBut (by simp))).trans (But.of b6.extBut (by simp))).trans (But.of b7.extBut (by simp))
 have z7:IsZip h7 z TI TO .ellipsis:=b7.extBut _ _ n1 (b6.extBut _ _ n4 (b5.extBut _ _ n1 (b4.extBut _ _ n3 (b3.extBut _ _ n1 (b2.extBut _ _ n2 hz1)))))
 have i17:h7.IsTupleIter i1 t1 (k+1):=((((g1'.extBut b3.extBut (Ne.symm n5)).extBut b4.extBut n8).extBut b5.extBut (Ne.symm n5)).extBut b6.extBut n9).extBut b7.extBut (Ne.symm n5)
 have i27:h7.IsTupleIter i2 t2 (k+1):=((g2'.extBut b5.extBut (Ne.symm n6)).extBut b6.extBut n10).extBut b7.extBut (Ne.symm n6)
 have i37:h7.IsTupleIter i3 t3 (k+1):=g3'.extBut b7.extBut (Ne.symm n7)
 refine wpAny_bind (m:=Builtin.SmallTypes.ownedTupleHandOut (.ref z) (.ref h7.objs.size)) ?_
 unfold Builtin.SmallTypes.ownedTupleHandOut
 have z8:IsZip (h7.push { cls:= .type "tuple",data:= .seq #[x,y,v] }) z TI TO .ellipsis:=Heap.get?_push_of_some _ z7
 refine wpAny_bind (wpAny_setField_rec z8 (by simp) fun h9 z9 b9=>?_)
 replace z9:IsZip h9 z TI TO (rawInt h7.objs.size):=z9
 refine wpAny_setField_rec z9 (by simp) fun h10 z10 b10=>?_
 replace z10:IsZip h10 z TI TO (rawInt h7.objs.size):=z10
 have up:∀ c o,c ≠ z->h7.get? c=some o->h10.get? c=some o:=fun c o c1 e=>b10.extBut _ _ c1 (b9.extBut _ _ c1 (Heap.get?_push_of_some _ e))
 have zlt:z < h7.objs.size:=Heap.lt_size z7
 have T10:aaC h10 h7.objs.size x y v:=b10.extBut _ _ (Nat.ne_of_gt zlt) (b9.extBut _ _ (Nat.ne_of_gt zlt) (Heap.get?_push_size _ rfl))
 rw [sz] at z10 T10
 refine wpAny_pure ⟨_,rfl,?_⟩
 show Q (.ref h7.objs.size) _
 rw [sz]
 have itk:∀ {i t:Addr} {m:Nat},i ≠ z->h7.IsTupleIter i t m->h10.IsTupleIter i t m:=fun ne ⟨o,e,r⟩=>⟨o,up _ o ne e,r⟩
 have tuk:∀ {t:Addr} {us:Array Value},t ∉ [z,TO,i1,i2,i3]->s.heap.IsTuple t us->h10.IsTuple t us:=fun ne ⟨o,e,r⟩=>⟨o,up _ o (fun q=>ne (by simp [q])) (B _ o ne e),r⟩
 refine hQ h10 ⟨z10,up _ _ tiz (B _ _ (by simp [tiz,tio,ti1,ti2,ti3]) hTI),⟨x,y,v,up _ _ (Ne.symm n1) o7⟩,itk (Ne.symm n2) i17,itk (Ne.symm n3) i27,itk (Ne.symm n4) i37,
  tuk (by simp [t1z,t1o,t11,t12,t13]) a1,tuk (by simp [t2z,t2o,t21,t22,t23]) a2,tuk (by simp [t3z,t3o,t31,t32,t33]) a3⟩ T10 fun c o hc e=>up c o (fun q=>hc (by simp [q])) (B c o hc e)
theorem akZ {z TI TO i1 i2 i3 t1 t2 t3:Addr}{xs ys zs:Array Value}{k:Nat}{Q:Fin->Shared->Prop} (hh:A.handled=none) (D:Apart3 z TI TO i1 i2 i3 t1 t2 t3) (S:Zip3 s.heap z TI TO i1 i2 i3 t1 t2 t3 xs ys zs .none k) (hx:xs[k]?=none)
  (hE:∀ h' e,But [z,TO,i1,i2,i3] s.heap h'->(∃ o,h'.get? e=some o/\o.cls= .type "StopIteration")->E (.ref e) { s with heap:=h' }):
  wpAny (model prog w) A (Builtin.«zip.__next__» ⟨[.ref z],[]⟩) Q E s:=by
 obtain ⟨hz,hTI,⟨a,b,c,hTO⟩,g1,g2,g3,a1,a2,a3⟩:=S
 obtain ⟨nd,ti,s1,s2,s3⟩:=D
 simp only [List.nodup_cons,List.mem_cons,List.not_mem_nil,or_false,not_or] at nd ti s1 s2 s3
 obtain ⟨⟨n1,n2,n3,n4⟩,⟨n5,n6,n7⟩,⟨n8,n9⟩,n10,_⟩:=nd
 refine wpAny_bind (m:=field (.ref z) 2) (wpAny_field hz rfl (x:= .bool false) rfl ?_)
 refine wpAny_bind (m:=field (.ref z) 3) (wpAny_field hz rfl (x:= .ref TI) rfl ?_)
 refine wpAny_bind (wpAny_seqItems hTI rfl ?_)
 refine wpAny_bind (m:=Builtin.SmallTypes.ownedTupleIsFree (.ref z)) ?_
 unfold Builtin.SmallTypes.ownedTupleIsFree
 refine wpAny_bind (wpAny_field hz rfl (x:= .none) rfl (wpAny_pure ?_))
 simp only [zzM]
 refine wpAny_bind (wpAny_rule ?_)
 refine wpAny_bind (wpAny_field hz rfl (x:= .ref TO) rfl ?_)
 refine wpAny_bind (wpAny_setField_rec hz (by simp) fun h1 hz1 b1=>?_)
 replace hz1:IsZip h1 z TI TO .ellipsis:=hz1
 refine wpAny_bind ?_
 simp only [List.zipIdx_cons,List.zipIdx_nil,List.forIn_cons,List.forIn_nil]
 refine wpAny_bind (wpAny_bind (wpAny_onRaise ?_))
 refine wpAny_bind (m:=Builtin.SmallTypes.nextOf (.ref i1)) ?_
 refine adN hh (g1.extBut b1.extBut (Ne.symm n2)) (a1.extBut b1.extBut s1.1) hx fun h2 e b2 he=>?_
 obtain ⟨oe,ho,hc⟩:=he
 have z2:IsZip h2 z TI TO .ellipsis:=b2 _ _ n2 hz1
 have ez:e ≠ z:=fun q=>by subst q; rw [z2] at ho; cases ho; simp at hc
 refine wpAny_setField_rec z2 (by simp) fun h3 _ b3=>?_
 exact hE h3 e (((But.of b1.extBut (by simp)).trans (But.of b2 (by simp))).trans (But.of b3.extBut (by simp))) ⟨oe,b3.extBut _ _ ez ho,hc⟩
end
structure ZipC (h:Heap) (z TI TO i1 i2 i3 t1 t2 t3:Addr) (f0:Value) (k:Nat):Prop where
 hz:IsZip h z TI TO f0
 hTI:aaC h TI (.ref i1) (.ref i2) (.ref i3)
 hTO:∃ a b c,aaC h TO a b c
 g1:h.IsTupleIter i1 t1 k
 g2:h.IsTupleIter i2 t2 k
 g3:h.IsTupleIter i3 t3 k
theorem ZipC.all {h:Heap}{z TI TO i1 i2 i3 t1 t2 t3:Addr}{f0:Value}{k:Nat} (S:ZipC h z TI TO i1 i2 i3 t1 t2 t3 f0 k) {xs ys zs:Array Value} (a1:h.IsTuple t1 xs) (a2:h.IsTuple t2 ys) (a3:h.IsTuple t3 zs):
  Zip3 h z TI TO i1 i2 i3 t1 t2 t3 xs ys zs f0 k:=⟨S.hz,S.hTI,S.hTO,S.g1,S.g2,S.g3,a1,a2,a3⟩
theorem Zip3.c {h:Heap}{z TI TO i1 i2 i3 t1 t2 t3:Addr}{xs ys zs:Array Value}{f0:Value}{k:Nat} (S:Zip3 h z TI TO i1 i2 i3 t1 t2 t3 xs ys zs f0 k):ZipC h z TI TO i1 i2 i3 t1 t2 t3 f0 k:=⟨S.hz,S.hTI,S.hTO,S.g1,S.g2,S.g3⟩
theorem ZipC.keep {h h':Heap}{z TI TO i1 i2 i3 t1 t2 t3:Addr}{f0:Value}{k:Nat} (S:ZipC h z TI TO i1 i2 i3 t1 t2 t3 f0 k) (kp:∀ b ∈ [z,TI,TO,i1,i2,i3],∀ o,h.get? b=some o->h'.get? b=some o):
  ZipC h' z TI TO i1 i2 i3 t1 t2 t3 f0 k:=by
 obtain ⟨hz,hTI,⟨a,b,c,hTO⟩,⟨o1,e1,r1⟩,⟨o2,e2,r2⟩,⟨o3,e3,r3⟩⟩:=S
 exact ⟨kp z (by simp) _ hz,kp TI (by simp) _ hTI,⟨a,b,c,kp TO (by simp) _ hTO⟩,⟨o1,kp i1 (by simp) _ e1,r1⟩,⟨o2,kp i2 (by simp) _ e2,r2⟩,⟨o3,kp i3 (by simp) _ e3,r3⟩⟩
noncomputable def Itz (K:PySem.W.Frag) (t1 t2 t3:Addr):It:=
 ⟨fun i H=>∃ xs ys zs x y v,SqT K H t1 xs/\SqT K H t2 ys/\SqT K H t3 zs/\xs[i]?=some x/\ys[i]?=some y/\zs[i]?=some v,
  fun i H u H'=>∃ p x y v,u= .ref p/\H p=none/\H'=upd H p (.tup [x,y,v])/\∀ xs ys zs,SqT K H t1 xs->SqT K H t2 ys->SqT K H t3 zs->xs[i]?=some x/\ys[i]?=some y/\zs[i]?=some v,
  fun i H=>∃ xs ys zs,SqT K H t1 xs/\SqT K H t2 ys/\SqT K H t3 zs/\xs.length<=i⟩
theorem ak0 {P:Program}{w:World}{K:PySem.W.Frag}{elts:List Expr}{x1:Nat}{pos:Pos}{z TI TO i1 i2 i3 t1 t2 t3:Addr} (nd:[z,TO,i1,i2,i3].Nodup) (ti:TI ∉ [z,TO,i1,i2,i3]):
  Turn P w K (.Tuple elts x1 pos) (Itz K t1 t2 t3) [z,TI,TO,i1,i2,i3] z (fun i h=>ZipC h z TI TO i1 i2 i3 t1 t2 t3 .none i) where
 mem:=by simp
 obj:=fun i h st b hb=>by
  obtain ⟨hz,hTI,⟨a,b',c,hTO⟩,⟨o1,e1,_,d1⟩,⟨o2,e2,_,d2⟩,⟨o3,e3,_,d3⟩⟩:=st
  simp only [List.mem_cons,List.not_mem_nil,or_false] at hb
  rcases hb with rfl | rfl | rfl | rfl | rfl | rfl
  ·exact ⟨_,hz,fun v q=>by cases q⟩
  ·exact ⟨_,hTI,fun v q=>by cases q⟩
  ·exact ⟨_,hTO,fun v q=>by cases q⟩
  ·exact ⟨o1,e1,fun v q=>by rw [d1] at q; cases q⟩
  ·exact ⟨o2,e2,fun v q=>by rw [d2] at q; cases q⟩
  ·exact ⟨o3,e3,fun v q=>by rw [d3] at q; cases q⟩
 keep:=fun i h h' st k=>st.keep k
 item:=by
  intro X hP hw hK hc i pins s σ H E I hf st hg
  subst hP hw hK
  obtain ⟨xs,ys,zs,x,y,v,q1,q2,q3,ex,ey,ev⟩:=hg
  obtain ⟨us1,r1,p1,z1⟩:=I.tuple q1
  obtain ⟨us2,r2,p2,z2⟩:=I.tuple q2
  obtain ⟨us3,r3,p3,z3⟩:=I.tuple q3
  obtain ⟨u1,m1,l1⟩:=r1.get ex
  obtain ⟨u2,m2,l2⟩:=r2.get ey
  obtain ⟨u3,m3,l3⟩:=r3.get ev
  have trk:∀ {t:Addr} {ws:List V},SqT X.K H t ws->t ∉ [z,TO,i1,i2,i3]:=fun {t ws} hq hb=>by
   have hb':t ∈ [z,TI,TO,i1,i2,i3]:=by
    simp only [List.mem_cons,List.not_mem_nil,or_false] at hb ⊢
    rcases hb with e | e | e | e | e <;> simp [e]
   rcases hq with (e | ⟨o,e⟩) | ⟨o,its,n,hk,hcl,hs,_,_⟩
   ·have:=(hf t hb').1; rw [e] at this; cases this
   ·have:=(hf t hb').1; rw [e] at this; cases this
   ·-- an object of the module is no iterator of ours
    obtain ⟨f0,f1,f2,f3,f4,f5⟩:=hf t hb'
    have hbase:=I.mod.kin t o hk
    rcases f3 with q | q
    ·exact I.ok.noex t o hbase q
    ·exact absurd (Nat.lt_of_lt_of_le (Heap.lt_size hbase) (Nat.le_trans I.ok.bsz q)) (Nat.lt_irrefl _)
  have D:Apart3 z TI TO i1 i2 i3 t1 t2 t3:=⟨nd,ti,trk q1,trk q2,trk q3⟩
  have S:=st.all (xs:=us1.toArray) (ys:=us2.toArray) (zs:=us3.toArray) p1 p2 p3
  have hT:s.TypeIs (.ref z) "zip":=⟨_,st.hz,rfl⟩
  unfold pyNext
  refine wpAny_bind (wpAny_attempt (wpAny_callSpecial?_slot (name:=Str.ofString "__next__") hT F.slot_zip_next
   (wpAny_call_entry F.slot_zip_next hT F.entry_zip_next (ajp D S (by simpa using m1) (by simpa using m2) (by simpa using m3) fun h1 S1 T1 B1=>wpAny_pure ?_)
    (F.args_zip_next_1 _))))
  refine ⟨_,rfl,?_⟩
  refine wpAny_letOwnedTupleGo_zip (s:={ s with heap:=h1 }) S1.hz fun h2 z2' b2=>?_
  have nT:H s.heap.objs.size=none:=I.hok.fresh (Nat.le_refl _)
  have zlt:z < s.heap.objs.size:=Heap.lt_size st.hz
  have T2:aaC h2 s.heap.objs.size u1 u2 u3:=b2.extBut _ _ (Nat.ne_of_gt zlt) T1
  have B2:But [z,TO,i1,i2,i3] s.heap h2:=B1.trans (But.of b2.extBut (by simp))
  have inF:∀ b ∈ [z,TO,i1,i2,i3],b ∈ [z,TI,TO,i1,i2,i3]:=fun b hb=>by
   simp only [List.mem_cons,List.not_mem_nil,or_false] at hb ⊢
   rcases hb with e | e | e | e | e <;> simp [e]
  have ntr:∀ b u,H b=some u->b ∉ [z,TO,i1,i2,i3]:=fun b u e hb=>by
   have:=(hf b (inF b hb)).1
   rw [e] at this; cases this
  have neT:∀ b u,H b=some u->b ≠ s.heap.objs.size:=fun b u e q=>by rw [q,nT] at e; cases e
  have hok2:HOk X.prog X.w (upd H s.heap.objs.size (.tup [x,y,v])) h2:=fun b u e=>by
   by_cases hb:b=s.heap.objs.size
   ·subst hb
    rw [jp] at e
    cases e
    exact ⟨by show 3<=sizeLine; rw [sizeLine_eq]; decide,[u1,u2,u3],.cons l1 (.cons l2 (.cons l3 .nil)),⟨_,T2,rfl,_,rfl⟩⟩
   ·rw [jo hb] at e
    refine (I.hok b u e).stay (fun c o hc' q=>B2 c o ?_ q) (fun c q=>by rw [jo (neT c _ q)]; exact q) fun c ws q=>by rw [jo (neT c _ q)]; exact q
    rcases hc' with q' | q'
    ·rw [q']; exact ntr b u e
    ·exact ntr c _ q'
  have I2:Inv X pins σ (upd H s.heap.objs.size (.tup [x,y,v])) { s with heap:=h2,toks:=s.toks }:=by
   refine I.step (g':=s.gens) (d':=s.drawn) (ch:=[z,TO,i1,i2,i3]) (fun b hb=>?_) (fun b o _ _ hb e _=>B2 b o hb e) (fun b o _ _ hb e _=>⟨o.slots,B2 b o hb e⟩) (fun b o hb e n=>?_) (fun b o hb e=>⟨o,B2 b o hb e⟩)
    (fun b ws e=>by rw [jo (neT b _ e)]; exact e) (fun b ob ws e=>by rw [jo (neT b _ e)]; exact e) (fun b ps e=>⟨#[],by rw [jo (neT b _ e),e]; simp⟩) (fun m hm=>?_) hok2 I.bare
   ·obtain ⟨f0,f1,f2,f3,f4,f5⟩:=hf b (inF b hb)
    exact ⟨f3,f1,f4,f5⟩
   ·rw [jo (Nat.ne_of_lt (Heap.lt_size e))]; exact n
   ·obtain ⟨o,es,ep,ho,r⟩:=hm
    refine ⟨o,es,ep,B2 _ o (fun hb=>?_) ho,r⟩
    exact (hf _ (inF _ hb)).2.1 rfl
  refine ⟨.ref s.heap.objs.size,_,I2,rfl,⟨_,x,y,v,rfl,nT,rfl,fun as bs cs g1 g2 g3=>?_⟩,?_,fun b hb=>?_⟩
  ·rw [I.tuple_inj g1 q1,I.tuple_inj g2 q2,I.tuple_inj g3 q3]
   exact ⟨ex,ey,ev⟩
  ·have c1:=S1.c
   obtain ⟨_,hTI,⟨a,b,c,hTO⟩,⟨o1,e1,w1⟩,⟨o2,e2,w2⟩,⟨o3,e3,w3⟩⟩:=c1
   simp only [List.nodup_cons,List.mem_cons,List.not_mem_nil,or_false,not_or] at nd ti
   obtain ⟨⟨n1,n2,n3,n4⟩,_⟩:=nd
   exact ⟨z2',b2.extBut _ _ ti.1 hTI,⟨a,b,c,b2.extBut _ _ (Ne.symm n1) hTO⟩,⟨o1,b2.extBut _ _ (Ne.symm n2) e1,w1⟩,⟨o2,b2.extBut _ _ (Ne.symm n3) e2,w2⟩,⟨o3,b2.extBut _ _ (Ne.symm n4) e3,w3⟩⟩
  ·obtain ⟨o,ho,_⟩:∃ o,s.heap.get? b=some o/\True:=by
    obtain ⟨hz,hTI,⟨a,b',c,hTO⟩,⟨o1,e1,_⟩,⟨o2,e2,_⟩,⟨o3,e3,_⟩⟩:=st
    simp only [List.mem_cons,List.not_mem_nil,or_false] at hb
    rcases hb with rfl | rfl | rfl | rfl | rfl | rfl
    ·exact ⟨_,hz,trivial⟩
    ·exact ⟨_,hTI,trivial⟩
    ·exact ⟨_,hTO,trivial⟩
    ·exact ⟨_,e1,trivial⟩
    ·exact ⟨_,e2,trivial⟩
    ·exact ⟨_,e3,trivial⟩
   rw [jo (Nat.ne_of_lt (Heap.lt_size ho))]
   exact (hf b hb).1
 done:=by
  intro X hP hw hK hc i pins s σ H E I hf st hg
  subst hP hw hK
  obtain ⟨xs,ys,zs,q1,q2,q3,hl⟩:=hg
  obtain ⟨us1,r1,p1,z1⟩:=I.tuple q1
  obtain ⟨us2,r2,p2,z2⟩:=I.tuple q2
  obtain ⟨us3,r3,p3,z3⟩:=I.tuple q3
  have trk:∀ {t:Addr} {ws:List V},SqT X.K H t ws->t ∉ [z,TO,i1,i2,i3]:=fun {t ws} hq hb=>by
   have hb':t ∈ [z,TI,TO,i1,i2,i3]:=by
    simp only [List.mem_cons,List.not_mem_nil,or_false] at hb ⊢
    rcases hb with e | e | e | e | e <;> simp [e]
   rcases hq with (e | ⟨o,e⟩) | ⟨o,its,n,hk,hcl,hs,_,_⟩
   ·have:=(hf t hb').1; rw [e] at this; cases this
   ·have:=(hf t hb').1; rw [e] at this; cases this
   ·obtain ⟨f0,f1,f2,f3,f4,f5⟩:=hf t hb'
    have hbase:=I.mod.kin t o hk
    rcases f3 with q | q
    ·exact I.ok.noex t o hbase q
    ·exact absurd (Nat.lt_of_lt_of_le (Heap.lt_size hbase) (Nat.le_trans I.ok.bsz q)) (Nat.lt_irrefl _)
  have D:Apart3 z TI TO i1 i2 i3 t1 t2 t3:=⟨nd,ti,trk q1,trk q2,trk q3⟩
  have S:=st.all (xs:=us1.toArray) (ys:=us2.toArray) (zs:=us3.toArray) p1 p2 p3
  have hT:s.TypeIs (.ref z) "zip":=⟨_,st.hz,rfl⟩
  have hlen:=r1.length
  unfold pyNext
  refine wpAny_bind (wpAny_attempt (wpAny_callSpecial?_slot (name:=Str.ofString "__next__") hT F.slot_zip_next
   (wpAny_call_entry F.slot_zip_next hT F.entry_zip_next (akZ (I.ok.hd hc) D S (by simp; omega) fun h1 e B1 he=>?_)
    (F.args_zip_next_1 _))))
  obtain ⟨o,ho,hcl⟩:=he
  refine wpAny_bind (wpAny_isInstance (T:="StopIteration") (b:=true) ⟨o,ho,hcl⟩ isSubtype_stop ?_)
  refine wpAny_pure ⟨rfl,?_⟩
  have inF:∀ b ∈ [z,TO,i1,i2,i3],b ∈ [z,TI,TO,i1,i2,i3]:=fun b hb=>by
   simp only [List.mem_cons,List.not_mem_nil,or_false] at hb ⊢
   rcases hb with e | e | e | e | e <;> simp [e]
  have ntr:∀ b u,H b=some u->b ∉ [z,TO,i1,i2,i3]:=fun b u e hb=>by
   have:=(hf b (inF b hb)).1
   rw [e] at this; cases this
  refine I.step (t':=s.toks) (g':=s.gens) (d':=s.drawn) (ch:=[z,TO,i1,i2,i3]) (fun b hb=>?_) (fun b o _ _ hb e _=>B1 b o hb e) (fun b o _ _ hb e _=>⟨o.slots,B1 b o hb e⟩) (fun b o hb e n=>n) (fun b o hb e=>⟨o,B1 b o hb e⟩)
   (fun b ws e=>e) (fun b ob ws e=>e) (fun b ps e=>⟨#[],by rw [e]; simp⟩) (fun m hm=>?_) (fun b u e=>?_) I.bare
  ·obtain ⟨f0,f1,f2,f3,f4,f5⟩:=hf b (inF b hb)
   exact ⟨f3,f1,f4,f5⟩
  ·obtain ⟨o,es,ep,ho,r⟩:=hm
   refine ⟨o,es,ep,B1 _ o (fun hb=>?_) ho,r⟩
   exact (hf _ (inF _ hb)).2.1 rfl
  ·refine (I.hok b u e).stay (fun c o hc' q=>B1 c o ?_ q) (fun c q=>q) fun c ws q=>q
   rcases hc' with q' | q'
   ·rw [q']; exact ntr b u e
   ·exact ntr c _ q'
 self:=fun _ _ _ _ _ st h=>wpAny_pyIter_zip st.hz h
theorem adn (a b c:Value):checkTypeCall "zip" ⟨[a,b,c],[]⟩=pure ():=by kernel_rfl
theorem aeI (a b c:Value):checkBuiltinCall "zip.__new__" ⟨[.type "zip",a,b,c],[]⟩=pure ():=by kernel_rfl
theorem ahm (a b c d:Value):argsOk "object.__init__" ⟨[a,b,c,d],[]⟩:=by
 unfold argsOk
 rw [signature?_of (id:="object.__init__") (n:=['_','_','t','i','n','i','_','_'])
  (o:=['t','c','e','j','b','o']) (by kernel_rfl) F.owner_object]
 kernel_rfl
noncomputable abbrev apv (t:Addr):Obj:={ cls:= .type "tuple_iterator",data:= .fields #[.ref t,.int 0 0] }
noncomputable abbrev zh1 (h:Heap) (a:Addr):Heap:=h.push (apv a)
noncomputable abbrev zh2 (h:Heap) (a b:Addr):Heap:=(zh1 h a).push (apv b)
noncomputable abbrev zh3 (h:Heap) (a b c:Addr):Heap:=(zh2 h a b).push (apv c)
noncomputable abbrev zh4 (h:Heap) (a b c:Addr):Heap:=(zh3 h a b c).push { cls:= .type "tuple",data:= .seq #[.ref h.objs.size,.ref (zh1 h a).objs.size,.ref (zh2 h a b).objs.size] }
noncomputable abbrev zh5 (h:Heap) (a b c:Addr):Heap:=(zh4 h a b c).push { cls:= .type "tuple",data:= .seq #[.none,.none,.none] }
noncomputable abbrev zh6 (h:Heap) (a b c:Addr):Heap:=(zh5 h a b c).push { cls:= .type "zip",data:= .fields #[.none,.bool false,.bool false,.ref (zh3 h a b c).objs.size,.ref (zh4 h a b c).objs.size] }
theorem ak1 (a b c:Addr) (xs ys zs:Array Value):
  Meets (Builtin.«zip.__new__» ⟨[.type "zip",.ref a,.ref b,.ref c],[]⟩) (fun _ R s=>s.heap.IsTuple a xs/\s.heap.IsTuple b ys/\s.heap.IsTuple c zs/\
   R (.ok (.ret (.ref (zh5 s.heap a b c).objs.size))) { s with heap:=zh6 s.heap a b c }):=
 .of_wp fun prog w A R s h=>by
  obtain ⟨hp,g,d,tk,os⟩:=s
  obtain ⟨h1,h2,h3,h⟩:=h
  have hsub:=sub_zip
  have k1:Heap.IsTuple (Shared.heap ⟨hp,g,d,tk,os⟩) a xs:=h1
  have k2:Heap.IsTuple (Shared.heap ⟨zh1 hp a,g,d,tk,os⟩) b ys:=Heap.IsTuple.push h2 _
  have k3:Heap.IsTuple (Shared.heap ⟨zh2 hp a b,g,d,tk,os⟩) c zs:=Heap.IsTuple.push (Heap.IsTuple.push h3 _) _
  wp_walk using wpAny_pyIter_tuple k1,wpAny_pyIter_tuple k2,wpAny_pyIter_tuple k3
  exact ⟨_,rfl,h⟩
section
variable {X:Cx}
noncomputable def aqK (K:PySem.W.Frag) (ta:TA):TI:=fun σ H R=>ta σ H fun vs H1=>∃ a b c xs ys zs,vs=[.ref a,.ref b,.ref c]/\SqT K H1 a xs/\SqT K H1 b ys/\SqT K H1 c zs/\R (Itz K a b c) H1
theorem anq {ea eb ec:Expr}{elts:List Expr}{x1:Nat}{tp:Pos}{ta:TA}{p pos:Pos} (hg:Gl X "zip") (hm:X.mg "zip"=none) (ha:PA X [ea,eb,ec] ta)
  (hs:starEach [ea,eb,ec] X.env=[(false,eval ea X.env),(false,eval eb X.env),(false,eval ec X.env)]:=by rfl) (hs2:starEach [eb,ec] X.env=[(false,eval eb X.env),(false,eval ec X.env)]:=by rfl):
  PI X (.Tuple elts x1 tp) (.Call (.Name "zip" p) [ea,eb,ec] [] pos) (aqK X.K ta):=by
 intro pins s σ H R I h
 refine Call_ (Q9 I hg hm boot_zip (PyProof.Rows.callWith_type1 (thn (ha pos pins s σ H _ I h) fun us s1 ⟨vs,H1,I1,r1,q1⟩=>?_) (by rw [hs,hs2]) (by rw [hs2]; rfl)))
 obtain ⟨a,b,c,xs,ys,zs,e,q1,q2,q3,q⟩:=q1
 subst e
 cases r1 with
 | cons r1 rr=>
  cases rr with
  | cons r2 rr=>
   cases rr with
   | cons r3 rr=>
    cases rr
    cases r1; cases r2; cases r3
    obtain ⟨us1,v1,p1,z1⟩:=I1.tuple q1
    obtain ⟨us2,v2,p2,z2⟩:=I1.tuple q2
    obtain ⟨us3,v3,p3,z3⟩:=I1.tuple q3
    refine callType_new F.called_zip (by decide) (adn _ _ _) (aeI _ _ _) (fun obj=>ahm obj _ _ _) F.entry_zip_new
     (ak1 a b c us1.toArray us2.toArray us3.toArray) ⟨p1,p2,p3,?_⟩
    have n1:(zh1 s1.heap a).objs.size=s1.heap.objs.size+1:=Heap.size_push ..
    have n2:(zh2 s1.heap a b).objs.size=s1.heap.objs.size+2:=by rw [Heap.size_push,n1]
    have n3:(zh3 s1.heap a b c).objs.size=s1.heap.objs.size+3:=by rw [Heap.size_push,n2]
    have n4:(zh4 s1.heap a b c).objs.size=s1.heap.objs.size+4:=by rw [Heap.size_push,n3]
    have n5:(zh5 s1.heap a b c).objs.size=s1.heap.objs.size+5:=by rw [Heap.size_push,n4]
    have g6:(zh6 s1.heap a b c).get? (zh5 s1.heap a b c).objs.size=some _:=Heap.get?_push_size _ rfl
    have g5:(zh6 s1.heap a b c).get? (zh4 s1.heap a b c).objs.size=some _:=Heap.get?_push_of_some _ (Heap.get?_push_size _ rfl)
    have g4:(zh6 s1.heap a b c).get? (zh3 s1.heap a b c).objs.size=some _:=Heap.get?_push_of_some _ (Heap.get?_push_of_some _ (Heap.get?_push_size _ rfl))
    have up3:∀ x o,(zh3 s1.heap a b c).get? x=some o->(zh6 s1.heap a b c).get? x=some o:=fun x o e=>Heap.get?_push_of_some _ (Heap.get?_push_of_some _ (Heap.get?_push_of_some _ e))
    have g3:(zh6 s1.heap a b c).get? (zh2 s1.heap a b).objs.size=some _:=up3 _ _ (Heap.get?_push_size _ rfl)
    have g2:(zh6 s1.heap a b c).get? (zh1 s1.heap a).objs.size=some _:=up3 _ _ (Heap.get?_push_of_some _ (Heap.get?_push_size _ rfl))
    have g1:(zh6 s1.heap a b c).get? s1.heap.objs.size=some _:=up3 _ _ (Heap.get?_push_of_some _ (Heap.get?_push_of_some _ (Heap.get?_push_size _ rfl)))
    have kp:∀ x o,s1.heap.get? x=some o->(zh6 s1.heap a b c).get? x=some o:=fun x o e=>up3 _ _ (Heap.get?_push_of_some _ (Heap.get?_push_of_some _ (Heap.get?_push_of_some _ e)))
    show _/\_
    refine ⟨⟨_,g6,rfl⟩,?_⟩
    refine wpAny_pyIter_zip g6 ?_
    have I2:Inv X pins σ H1 { s1 with heap:=zh6 s1.heap a b c }:=I1.kept (t':=s1.toks) kp
    refine ⟨_,[(zh5 s1.heap a b c).objs.size,(zh3 s1.heap a b c).objs.size,(zh4 s1.heap a b c).objs.size,s1.heap.objs.size,(zh1 s1.heap a).objs.size,(zh2 s1.heap a b).objs.size],
     _,_,H1,rfl,I2,ak0 (z:=(zh5 s1.heap a b c).objs.size) (TI:=(zh3 s1.heap a b c).objs.size) (TO:=(zh4 s1.heap a b c).objs.size) (i1:=s1.heap.objs.size) (i2:=(zh1 s1.heap a).objs.size) (i3:=(zh2 s1.heap a b).objs.size) (t1:=a) (t2:=b) (t3:=c) ?_ ?_,
     ⟨g6,g4,⟨_,_,_,g5⟩,⟨_,g1,rfl,rfl⟩,⟨_,g2,rfl,rfl⟩,⟨_,g3,rfl,rfl⟩⟩,fun x hx=>?_,q⟩
    ·rw [n5,n4,n1,n2]
     simp [List.nodup_cons]
    ·rw [n3,n5,n4,n1,n2]
     simp
    ·have hle:s1.heap.objs.size<=x:=by
      rw [n5,n3,n4,n1,n2] at hx
      simp only [List.mem_cons,List.not_mem_nil,or_false] at hx
      rcases hx with e | e | e | e | e | e <;> rw [e] <;> first | exact Nat.le_refl _ | exact Nat.le_add_right _ _
     exact I1.fpOk hle (I1.hok.fresh hle)
noncomputable def Zg:List PyData->List PyData->List PyData->List PyData
 | x::xs,y::ys,z::zs=> .tuple [x,y,z]::Zg xs ys zs
 | _,_,_=>[]
noncomputable def air (ds:List PyData):Option (List PyData):=match ds with
 | [.tuple xs,.tuple ys,.tuple zs]=>if xs.length=ys.length/\ys.length=zs.length then some (Zg xs ys zs) else none
 | _=>none
theorem adO:∀ (xs ys zs:List PyData),xs.length=ys.length->ys.length=zs.length->(Zg xs ys zs).length=xs.length
 | [],_,_,_,_=>by simp [Zg]
 | x::xs,[],_,h,_=>by simp at h
 | x::xs,y::ys,[],_,h=>by simp at h
 | x::xs,y::ys,z::zs,h,g=>by simp [Zg,adO xs ys zs (by simpa using h) (by simpa using g)]
theorem adP:∀ (xs ys zs:List PyData) (i:Nat) (d:PyData),(Zg xs ys zs)[i]?=some d->∃ x y z,xs[i]?=some x/\ys[i]?=some y/\zs[i]?=some z/\d= .tuple [x,y,z]
 | [],_,_,i,d,h=>by simp [Zg] at h
 | x::xs,[],_,i,d,h=>by simp [Zg] at h
 | x::xs,y::ys,[],i,d,h=>by simp [Zg] at h
 | x::xs,y::ys,z::zs,0,d,h=>by simp [Zg] at h; exact ⟨x,y,z,rfl,rfl,rfl,h.symm⟩
 | x::xs,y::ys,z::zs,i+1,d,h=>by
  obtain ⟨a,b,c,e1,e2,e3,e4⟩:=adP xs ys zs i d (by simpa [Zg] using h)
  exact ⟨a,b,c,by simpa using e1,by simpa using e2,by simpa using e3,e4⟩
theorem ak2 {ea eb ec:Expr}{elts:List Expr}{x1:Nat}{tp:Pos}{p pos:Pos}{fr:Rho->Option (List PyData)} (hm:X.mg "zip"=none) (ha:PAD X [ea,eb,ec] fr) (hg:Gl X "zip":=by rfl)
  (hs:starEach [ea,eb,ec] X.env=[(false,eval ea X.env),(false,eval eb X.env),(false,eval ec X.env)]:=by rfl) (hs2:starEach [eb,ec] X.env=[(false,eval eb X.env),(false,eval ec X.env)]:=by rfl):
  PID X (.Tuple elts x1 tp) (.Call (.Name "zip" p) [ea,eb,ec] [] pos) (fun ρ=>(fr ρ).bind air):=by
 with_unfolding_all
  refine PI.imp (anq hg hm ha hs hs2) fun σ H R ⟨ρ,ds,en,q,k⟩=>?_
  cases h1:fr ρ with
  | none=>simp [h1] at q
  | some as=>
   have q':air as=some ds:=by simpa [h1] using q
   refine ⟨ρ,as,en,h1,fun vs H1 s1 r1=>?_⟩
   unfold air at q'
   split at q'
   ·rename_i xs ys zs
    split at q'
    ·rename_i hl
     cases q'
     obtain ⟨v1,w1,e1,⟨a,us1,ea',qa,ra⟩,v2,w2,e2,⟨b,us2,eb',qb,rb⟩,v3,w3,e3,⟨c,us3,ec',qc,rc⟩,e4⟩:=r1
     cases (show w3=[] from e4)
     subst ea'; subst eb'; subst ec'; subst e3; subst e2
     have l1:=ra.length
     have l2:=rb.length
     have l3:=rc.length
     have lz:=adO xs ys zs hl.1 hl.2
     refine ⟨a,b,c,us1,us2,us3,e1,qa,qb,qc,k _ H1 s1 fun i H2 s2=>⟨fun hi=>?_,fun hi=>?_,fun u H3 y=>?_⟩⟩
     ·rw [lz] at hi
      exact ⟨us1,us2,us3,us1[i]'(by omega),us2[i]'(by omega),us3[i]'(by omega),jQ.tup s2 qa,jQ.tup s2 qb,jQ.tup s2 qc,by simp <;> omega,by simp <;> omega,by simp <;> omega⟩
     ·rw [lz] at hi
      exact ⟨us1,us2,us3,jQ.tup s2 qa,jQ.tup s2 qb,jQ.tup s2 qc,by omega⟩
     ·obtain ⟨pp,x,y,v,e5,e6,e7,e8⟩:=y
      subst e5; subst e7
      refine ⟨jA e6,fun d hd=>?_⟩
      obtain ⟨dx,dy,dz,g1,g2,g3,g4⟩:=adP xs ys zs i d hd
      subst g4
      obtain ⟨f1,f2,f3⟩:=e8 us1 us2 us3 (jQ.tup s2 qa) (jQ.tup s2 qb) (jQ.tup s2 qc)
      have m:=s2.trans (jt.e (jA (o:= .tup [x,y,v]) e6))
      obtain ⟨x',a1,a2⟩:=(Reps.monoE m _ _ ra).get g1
      obtain ⟨y',b1,b2⟩:=(Reps.monoE m _ _ rb).get g2
      obtain ⟨z',c1,c2⟩:=(Reps.monoE m _ _ rc).get g3
      rw [f1] at a1; cases a1
      rw [f2] at b1; cases b1
      rw [f3] at c1; cases c1
      exact ⟨pp,[x,y,v],rfl,SqT.of jp,x,_,rfl,a2,y,_,rfl,b2,v,_,rfl,c2,rfl⟩
    ·cases q'
   ·cases q'
noncomputable def tyn:PyData->String
 | .none=>"NoneType"
 | .bool _=>"bool"
 | .int _=>"int"
 | .str _=>"str"
 | .tuple _=>"tuple"
 | .list _=>"list"
 | .dict kvs=>if Jp kvs then "list" else "dict"
noncomputable def isFn:PyData->Bool
 | .dict [(.str _,_)]=>true
 | _=>false
noncomputable def ab3 (T:String) (d:PyData):Option PyData:=if isFn d=true then none else some (.bool (tyn d == T || (T == "int" && tyn d == "bool")))
theorem ak3 {pins:List (Addr × Obj)}{σ:St}{H:Hp}{s:Shared}{E:Value->Shared->Prop}{Q:Value->Shared->Prop}{d:PyData}{v:V}{u c:Value}{b:Bool} (I:Inv X pins σ H s) (r:Rep X.K H d v) (hF:isFn d=false) (rv:jU v u)
  (e:PySem.W.kitOne X.K (.type (tyn d)) c=some b) (h:∀ tk,Q (.bool b) { s with toks:=tk }):wpAny (model X.prog X.w) X.A (call (.builtin "isinstance") [u,c]) Q E s:=by
 cases d with
 | none=>cases r; cases rv; exact PySem.W.kia_one PySem.W.kitx_none I.kIn True.intro e (fun z=>nomatch z) h
 | bool y=>cases r; cases rv; exact PySem.W.kia_one PySem.W.kitx_bool I.kIn True.intro e (fun z=>nomatch z) h
 | int i=>cases r; obtain ⟨t,rfl⟩:=rv; exact PySem.W.kia_one PySem.W.kitx_int I.kIn True.intro e (fun z=>nomatch z) h
 | str y=>cases r; obtain ⟨t,rfl⟩:=rv; exact PySem.W.kia_one PySem.W.kitx_str I.kIn True.intro e (fun z=>nomatch z) h
 | tuple ds=>
  obtain ⟨a,xs,e1,e2,e3⟩:=r
  subst e1; cases rv
  obtain ⟨its,_,⟨o,h1,h2,_⟩,_⟩:=I.tuple e2
  exact PySem.W.kia_one PySem.W.kitx_tuple I.kIn ⟨o,h1,h2⟩ e (fun z=>nomatch z) h
 | list ds=>
  obtain ⟨a,xs,e1,e2,e3⟩:=r
  subst e1; cases rv
  obtain ⟨its,_,⟨o,n,h1,h2,_⟩,_⟩:=I.list (SqL.of e2)
  exact PySem.W.kia_one PySem.W.kitx_list I.kIn ⟨o,h1,h2⟩ e (fun z=>nomatch z) h
 | dict ds=>
  obtain ⟨a,e1,⟨ns,e2,e3⟩ | ⟨ks,ob,e2,e3⟩ | ⟨x,e2,_⟩ | ⟨x,_,_,e2,_⟩⟩:=r
  ·subst e1; cases rv
   subst e3
   have e:PySem.W.kitOne X.K (.type "list") c=some b:=by simpa [tyn,adK] using e
   obtain ⟨its,_,⟨o,n,h1,h2,_⟩,_⟩:=I.list e2
   exact PySem.W.kia_one PySem.W.kitx_list I.kIn ⟨o,h1,h2⟩ e (fun z=>nomatch z) h
  ·subst e1; cases rv
   obtain ⟨cc,rr,rfl,e4⟩:=e3.out
   have e:PySem.W.kitOne X.K (.type "dict") c=some b:=by simpa [tyn,Jp] using e
   obtain ⟨_,_,vs,_,dd⟩:=acx I.hok (.inr ⟨ob,e2⟩)
   obtain ⟨o,es,ep,h1,h2,_⟩:=dd
   exact PySem.W.kia_one PySem.W.kitx_dict I.kIn ⟨o,h1,h2.1⟩ e (fun z=>nomatch z) h
  ·subst e2; simp [isFn] at hF
  ·subst e2; simp [isFn] at hF
noncomputable def arB (K:PySem.W.Frag) (T:String):List V->Hp->VK->Prop:=fun xs H Q=>∃ x d b,xs=[x,.ty T]/\Rep K H d x/\isFn d=false/\PySem.W.kitOne K (.type (tyn d)) (.type T)=some b/\Q (.bl b) H
theorem ak4 {T:String}:zC X (.builtin "isinstance") (arB X.K T):=by
 intro pins s σ H xs us Q I r ⟨x,d,b,e,h1,hF,h2,q⟩
 subst e
 obtain ⟨u,w',rfl,r1,r2⟩:=aie r
 cases (show w'=_ from r2)
 exact ak3 I h1 hF r1 h2 fun tk=>⟨.bl b,H,I.tok tk,rfl,q⟩
noncomputable def QK (T:String) (d:PyData):Bool:=tyn d == T || (T == "int" && tyn d == "bool")
@[simp] theorem aqa (T:String):ab3 T .none=some (.bool (QK T .none)):=rfl
@[simp] theorem aqb (T:String) (b:Bool):ab3 T (.bool b)=some (.bool (QK T (.bool b))):=rfl
@[simp] theorem aqL (T:String) (i:Int):ab3 T (.int i)=some (.bool (QK T (.int i))):=rfl
@[simp] theorem aqM (T:String) (x:Str):ab3 T (.str x)=some (.bool (QK T (.str x))):=rfl
@[simp] theorem apw (T:String) (ds:List PyData):ab3 T (.tuple ds)=some (.bool (QK T (.tuple ds))):=rfl
@[simp] theorem aqc (T:String) (ds:List PyData):ab3 T (.list ds)=some (.bool (QK T (.list ds))):=rfl
theorem ak5 {T:String}{d e:PyData} (h:ab3 T d=some e):isFn d=false/\e= .bool (QK T d):=by
 unfold ab3 at h
 split at h
 ·cases h
 ·rename_i hf; cases h; exact ⟨by simpa using hf,rfl⟩
theorem anr {K:PySem.W.Frag}{T:String} (hT:T="bool" ∨ T="int" ∨ T="tuple") (d:PyData):PySem.W.kitOne K (.type (tyn d)) (.type T)=some (QK T d):=by
 rcases hT with rfl | rfl | rfl <;> cases d <;> first | rfl | (rename_i kvs; by_cases h:Jp kvs=true <;> simp only [tyn,QK,h] <;> rfl)
theorem abn {a:Expr}{fa:Rho->Option PyData}{T:Str}{Tn:String}{p p2 pos:Pos} (hT:Tn="bool" ∨ Tn="int" ∨ Tn="tuple") (hm1:X.mg "isinstance"=none) (hm2:X.mg T=none) (hv:bootBuiltins T=some (.type Tn)) (ha:PD X a fa)
  (hg1:Gl X "isinstance":=by rfl) (hg2:Gl X T:=by rfl) (hn:T ≠ "__name__":=by decide) (hd:(T == ("__debug__":Str))=false:=by decide)
  (he:starEach [a,.Name T p2] X.env=[(false,eval a X.env),(false,eval (.Name T p2) X.env)]:=by rfl) (he2:starEach [.Name T p2] X.env=[(false,eval (.Name T p2) X.env)]:=by rfl) (hpl:(backTo pos (starEach [.Name T p2] X.env)).any (·.1)=false:=by rfl):
  PD X (.Call (.Name "isinstance" p) [a,.Name T p2] [] pos) (fun ρ=>(fa ρ).bind fun d=>ab3 Tn d):=by
 with_unfolding_all
  have hT2:PE X (.Name T p2) (tC (.ty Tn)):=aib hg2 hm2 hv rfl hn hd
  refine PE.imp (aay (ak4 (T:=Tn)) hg1 hm1 (by decide +kernel) (qM ha (qM hT2 Jl (by rw [he2]; rfl)) (by rw [he,he2])) (by decide) (by decide) (by rw [he,he2]) hpl) fun σ H Q ⟨ρ,d,en,q,k⟩=>?_
  cases h1:fa ρ with
  | none=>simp [h1] at q
  | some c=>
   obtain ⟨hF,rfl⟩:=ak5 (show ab3 Tn c=some d by simpa [h1] using q)
   exact ⟨ρ,c,en,h1,fun v H1 s1 r1=>⟨v,c,_,rfl,r1,hF,anr hT c,k _ H1 s1 rfl⟩⟩
end
noncomputable def zR (H H':Hp):Prop:=∀ b o,H b=some o->(∀ xs,o ≠ .lst xs)->H' b=some o
theorem jt.n {H H':Hp} (e:jt H H'):zR H H':=fun b o h _=>e b o h
theorem zR.refl (H:Hp):zR H H:=fun _ _ h _=>h
theorem zR.trans {H H1 H2:Hp} (a:zR H H1) (b:zR H1 H2):zR H H2:=fun c o h n=>b c o (a c o h n) n
theorem zR.upd {H:Hp}{p:Addr}{xs ys:List V} (hp:H p=some (.lst xs)):zR H (upd H p (.lst ys)):=fun b o h n=>by
 have:b ≠ p:=fun e=>by subst e; rw [hp] at h; cases h; exact n _ rfl
 rw [jo this]; exact h
mutual
noncomputable def noL:PyData->Bool
 | .none=>true
 | .bool _=>true
 | .int _=>true
 | .str _=>true
 | .tuple ds=>noLs ds
 | .list _=>false
 | .dict _=>false
noncomputable def noLs:List PyData->Bool
 | []=>true
 | d::ds=>noL d && noLs ds
end
section
variable {K:PySem.W.Frag}{H H':Hp}
theorem zR.tup {a:Addr}{xs:List V} (e:zR H H') (h:SqT K H a xs):SqT K H' a xs:=by
 rcases h with (h | ⟨o,h⟩) | h
 ·exact .inl (.inl (e _ _ h fun _ z=>nomatch z))
 ·exact .inl (.inr ⟨o,e _ _ h fun _ z=>nomatch z⟩)
 ·exact .inr h
mutual
theorem Rep.monoN (e:zR H H'):∀ (d:PyData) (v:V),noL d=true->Rep K H d v->Rep K H' d v
 | .none,v,_,h=>h
 | .bool _,v,_,h=>h
 | .int _,v,_,h=>h
 | .str _,v,_,h=>h
 | .tuple ds,v,n,⟨a,xs,h1,h2,h3⟩=>⟨a,xs,h1,zR.tup e h2,Reps.monoN e ds xs (by simpa [noL] using n) h3⟩
 | .list ds,v,n,h=>by simp [noL] at n
 | .dict ds,v,n,h=>by simp [noL] at n
theorem Reps.monoN (e:zR H H'):∀ (ds:List PyData) (xs:List V),noLs ds=true->Reps K H ds xs->Reps K H' ds xs
 | [],xs,_,h=>h
 | d::ds,xs,n,⟨x,r,h1,h2,h3⟩=>by
  have n':noL d=true/\noLs ds=true:=by simpa [noLs] using n
  exact ⟨x,r,h1,Rep.monoN e d x n'.1 h2,Reps.monoN e ds r n'.2 h3⟩
end
theorem Zh:∀ (ds es:List PyData),noLs (ds++es)=(noLs ds && noLs es)
 | [],es=>by simp [noLs]
 | d::ds,es=>by simp [noLs,Zh ds es,Bool.and_assoc]
theorem Zi:∀ {ds:List PyData},(∀ d ∈ ds,noL d=true)->noLs ds=true
 | [],_=>rfl
 | d::ds,h=>by simp [noLs,h d List.mem_cons_self,Zi fun x hx=>h x (List.mem_cons_of_mem _ hx)]
end
end BX
end
section
namespace BX
open PySem PySem.Spec L2
open PyProof.Rows hiding St
noncomputable def jn (P:Program) (w:World) (K:PySem.W.Frag) (mg:Str->Option Value) (base:Heap) (x:Str) (ps:List Str) (k n:Nat) (g:List PyData->Option PyData):Prop:=
 ∃ (f:Addr) (fd:FuncData),FnOk P w K mg base CX0 k f fd ps (Pur K n g)/\mg x=some (.ref f)/\PySem.W.keepIn K (.ref f)=true/\aax K fd ps []
theorem jk:∀ (ρ:Rho) (ds:List PyData),jF ρ=some ds->ds.length=0:=fun ρ ds h=>by cases h; rfl
theorem jc {fa:Rho->Option PyData}{fr:Rho->Option (List PyData)}{n:Nat} (h:∀ (ρ:Rho) (ds:List PyData),fr ρ=some ds->ds.length=n):∀ (ρ:Rho) (ds:List PyData),jr fa fr ρ=some ds->ds.length=n+1:=fun ρ ds q=>by
 cases h1:fa ρ with
 | none=>simp [jr,h1] at q
 | some x=>
  cases h2:fr ρ with
  | none=>simp [jr,h1,h2] at q
  | some r=>
   have:x::r=ds:=by simpa [jr,h1,h2] using q
   subst this
   simp [h ρ r h2]
section
variable {X:Cx}{e:Expr}{es:List Expr}{pos:Pos}
theorem jl {k j n:Nat}{ps:List Str}{g:List PyData->Option PyData}{x:Str}{p:Pos}{fr:Rho->Option (List PyData)} (c:jn X.prog X.w X.K X.mg X.base x ps k n g) (hr:Room j X.A) (hkj:k<=j) (ha:PAD X (e::es) fr)
  (hl:∀ (ρ:Rho) (ds:List PyData),fr ρ=some ds->ds.length=n) (hn:(e::es).length=n:=by rfl) (hg:Gl X x:=by rfl) (hdb:(x == ("__debug__":Str))=false:=by decide) (he:starEach (e::es) X.env=(false,eval e X.env)::starEach es X.env:=by rfl)
  (hpl:(backTo pos (starEach es X.env)).any (·.1)=false:=by rfl):PD X (.Call (.Name x p) (e::es) [] pos) (jM g fr):=by
 with_unfolding_all
  obtain ⟨f,fd,h1,h2,h3,h4⟩:=c
  exact ank h1 (hr.mono hkj) h2 h3 h4 hn ha (fun ρ ds q=>by rw [hl ρ ds q,hn]) hg hdb he hpl
end
theorem aaD {ft:Rho->Option Bool}{fe:Rho->Option PyData}{i:Nat} (p:PyData->Bool) (h:PyData->PyData):∀ (ds:List PyData) (τ:Rho),(∀ d ∈ ds,ft (τ.set i (some d))=some (p d))->(∀ d ∈ ds,p d=true->fe (τ.set i (some d))=some (h d))->
  jX (jJ i) ft fe ds τ=some ((ds.filter p).map h)
 | [],τ,_,_=>rfl
 | d::ds,τ,h1,h2=>by
  have ih:=aaD p h ds (τ.set i (some d)) (fun c hc=>by rw [List.set_set]; exact h1 c (List.mem_cons_of_mem _ hc)) (fun c hc hp=>by rw [List.set_set]; exact h2 c (List.mem_cons_of_mem _ hc) hp)
  simp only [jX,jJ,zzD,h1 d List.mem_cons_self]
  by_cases hp:p d=true
  ·simp [hp,h2 d List.mem_cons_self hp,ih,List.filter_cons]
  ·simp [hp,ih,List.filter_cons]
theorem ZI {fe:Rho->Option PyData}{i:Nat} (h:PyData->PyData) (ds:List PyData) (τ:Rho) (h2:∀ d ∈ ds,fe (τ.set i (some d))=some (h d)):jX (jJ i) Zc fe ds τ=some (ds.map h):=by
 rw [aaD (fun _=>true) h ds τ (fun _ _=>rfl) (fun d hd _=>h2 d hd),List.filter_eq_self.mpr (fun _ _=>rfl)]
noncomputable def ais (st:Scope) (N:List Str) (sc:Scope) (N':List Str) (cap:List (Option Nat)):Bool:=
 sc.names.all (fun x=>!decide (x.2= .free) || decide (st.names.lookup x.1=some .cell) || decide (st.names.lookup x.1=some .free)) && sc.names.all (fun x=>!decide (x.2= .cell)) && decide (sc.kind= .function) &&
 sc.names.all (fun x=>!decide (x.2= .local) || decide (sc.names.lookup x.1=some .local)) && decide (cap.length=N'.length) &&
 (List.range N'.length).all (fun j=>match N'[j]?,cap[j]? with
  | some x,some (some i)=>decide (N[i]?=some x) && decide (sc.names.lookup x=some .free)
  | _,_=>true)
theorem qO {X:Cx}{sc:Scope}{N':List Str}{cap:List (Option Nat)} (st:Scope) (N:List Str) (h:ais st N sc N' cap=true) (hst:X.env.scope=st:=by rfl) (hN:X.N=N:=by rfl):CompOk X sc N' cap:=by
 simp only [ais,Bool.and_eq_true,List.all_eq_true,Bool.or_eq_true,Bool.not_eq_true',decide_eq_true_eq,decide_eq_false_iff_not] at h
 obtain ⟨⟨⟨⟨⟨h1,h2⟩,h3⟩,h4⟩,h5⟩,h6⟩:=h
 subst hst; subst hN
 refine ⟨fun x hx e=>?_,h2,h3,fun x hx e=>?_,h5,fun j i x e1 e2=>?_⟩
 ·rcases h1 x hx with (z | z) | z
  ·exact absurd e z
  ·exact .inl z
  ·exact .inr z
 ·rcases h4 x hx with z | z
  ·exact absurd e z
  ·exact z
 ·have hj:j < N'.length:=(List.getElem?_eq_some_iff.mp e1).1
  have:=h6 j (List.mem_range.mpr hj)
  rw [e1,e2] at this
  simpa using this
section
variable {X:Cx}{pins:List (Addr × Obj)}{σ:St}{H:Hp}{s:Shared}
end
structure Own1 (X:Cx) (pins:List (Addr × Obj)) (b:Addr):Prop where
 h1:b ≠ X.env.locals
 h2:b ∉ X.fs
 h3:X.s₀.heap.objs.size<=b
 h4:∀ x c,X.env.cells.lookup x=some c->c ≠ b
 h5:∀ p ∈ X.pn++pins,p.1 ≠ b
theorem ahn:bootBuiltins "min"=some (.builtin "min"):=by decide +kernel
theorem aho:bootBuiltins "max"=some (.builtin "max"):=by decide +kernel
section
variable {X:Cx}{a:Expr}{fa:Rho->Option PyData}{pos p p2 p3 kp kp2:Pos}{j3:Nat}
end
noncomputable def ait:Int->List Int->Int
 | b,[]=>b
 | b,d::r=>if d > b then ait d r else ait b r
noncomputable def apx:Option Int->List Int->PyData
 | none,[]=> .none
 | none,d::r=> .int (ait d r)
 | some b,r=> .int (ait b r)
section
variable {X:Cx}{a:Expr}{fa:Rho->Option PyData}{pos p p3 kp2:Pos}{j3:Nat}
end
end BX
end
section
namespace BX.Srt
open PySem PySem.W
open PyProof.Rows (mirror bubble mirror_size mirror_perm bubble_size bubble_perm getElem?_mirror_all getElem?_bubble)
section
variable (rk:Nat->Int) (n:Nat)
noncomputable def val (p:Array Nat) (k:Nat):Int:=rk (p.getD k 0)
noncomputable def OKp (p:Array Nat):Prop:=p.Perm (List.range n).toArray
end
section
variable {rk:Nat->Int}{n:Nat}{p p':Array Nat}
theorem OKp.size (h:OKp n p):p.size=n:=by
 have:=h.size_eq
 simpa using this
theorem OKp.lt (h:OKp n p) {k:Nat} (hk:k < n):p.getD k 0 < n:=by
 have hs:=h.size
 have e:p.getD k 0=p[k]'(by omega):=by simp [Array.getD,hs,hk]
 have:p[k]'(by omega) ∈ (List.range n).toArray:=h.mem_iff.mp (Array.getElem_mem _)
 rw [e]
 simpa using this
theorem OKp.rev (h:OKp n p) (i j:Nat):OKp n (kas_rev p i j):=(mirror_perm p i j _).trans h
end
variable {rk:Nat->Int}{n:Nat}{cmp:Nat->Nat->(Bool->Shared->Prop)->Shared->Prop}
section
variable {s:Shared} (hc:∀ i j (C:Bool->Shared->Prop),i < n->j < n->C (decide (rk i < rk j)) s->cmp i j C s)
include hc
end
end BX.Srt
end
section
namespace BX
open PySem PySem.Spec L2
open PyProof.Rows hiding St
section
variable {prog:Program}{w:World}{A:Around}{E:Value->Shared->Prop}{s:Shared}
end
theorem qK.there {P:Program}{w:World}{H:Hp}{h:Heap}{a:Addr}{o:HO} (x:qK P w H h a o):∃ u,h.get? a=some u:=by
 cases o with
 | lst xs=>obtain ⟨_,_,_,_,e⟩:=x; exact ⟨_,e⟩
 | tup xs=>obtain ⟨_,_,_,u,e,_⟩:=x; exact ⟨_,e⟩
 | dK kvs=>obtain ⟨_,_,_,_,o,_,_,e,_⟩:=x; exact ⟨_,e⟩
 | dT kvs=>obtain ⟨_,_,_,_,o,_,_,e,_⟩:=x; exact ⟨_,e⟩
 | set S n=>obtain ⟨o,_,_,_,e,_⟩:=x; exact ⟨_,e⟩
 | ins C dx fs=>obtain ⟨_,_,_,e,_⟩:=x; exact ⟨_,e⟩
 | own y=>obtain ⟨_,e⟩:=x; exact ⟨_,e⟩
 | xd fs=>obtain ⟨_,⟨_,_,_,e,_⟩,_⟩:=x; exact ⟨_,e⟩
 | rng lo hi=>obtain ⟨_,_,_,e⟩:=x; exact ⟨_,e⟩
 | frz ob u=>obtain ⟨e,_⟩:=x; exact ⟨_,e⟩
 | tbl ps=>exact ⟨_,(show h.get? a=some _ from x)⟩
 | met f y=>exact ⟨_,(show h.get? a=some _ from x)⟩
 | ext φ=>obtain ⟨_,⟨_,e⟩,_⟩:=x; exact ⟨_,e⟩
structure PairAt (h:Heap) (u:Value) (p:Int × Int):Prop where
 ex:∃ a o k t t',u= .ref a/\h.get? a=some o/\o.cls= .type "tuple"/\o.data= .seq #[.int p.1 t,.int p.2 t'] k
theorem getD_some {α:Type}{l:List α}{i:Nat}{d x:α} (h:l[i]?=some x):l.getD i d=x:=by simp [List.getD,h]
section
variable {X:Cx}
variable {a b:Expr}{fa fb:Rho->Option PyData}{pos p2:Pos}
noncomputable def afL:PyData->Option PyData
 | .int i=>some (.int (-i))
 | _=>none
theorem QL (h:PD X a fa):PD X (.UnaryOp .USub a pos) (fun ρ=>(fa ρ).bind afL):=by
 with_unfolding_all
  refine PE.imp (aoz aky h) fun σ H Q ⟨ρ,d,en,q,k⟩=>?_
  cases h1:fa ρ with
  | none=>simp [h1] at q
  | some y=>
   refine ⟨ρ,y,en,h1,fun v H1 s1 r1=>?_⟩
   have q':afL y=some d:=by simpa [h1] using q
   cases y with
   | int i=>cases q'; cases (show v=_ from r1); exact ⟨i,rfl,k _ H1 s1 rfl⟩
   | _=>cases q'
end
noncomputable def Q3 (bt:Int->Int->Bool):List Int->Option Int
 | []=>none
 | n::ns=>some (ns.foldl (fun a b=>if bt b a then b else a) n)
theorem ahp (bt:Int->Int->Bool) (ns:List Int) (x m:Int) (h:Q3 bt ns=some m):Q3 bt (ns++[x])=some (if bt x m then x else m):=by
 cases ns with
 | nil=>cases h
 | cons n ns=>
  have:ns.foldl (fun a b=>if bt b a then b else a) n=m:=by simpa [Q3] using h
  subst this
  simp [Q3,List.foldl_append]
theorem adQ (bt:Int->Int->Bool) (ns:List Int):∀ k,k < ns.length->Q3 bt (ns.take (k+1))=some (ns.getD (argBest (fun i j=>bt (ns.getD i 0) (ns.getD j 0)) k) 0)
 | 0,h=>by
  cases ns with
  | nil=>simp at h
  | cons n ns=>simp [Q3,argBest]
 | k+1,h=>by
  have ih:=adQ bt ns k (by omega)
  have h1:ns.take (k+1+1)=ns.take (k+1)++[ns.getD (k+1) 0]:=by rw [List.take_succ]; simp [h,List.getD]
  rw [h1,ahp bt _ _ _ ih]
  simp only [argBest]
  by_cases hb:bt (ns.getD (k+1) 0) (ns.getD (argBest (fun i j=>bt (ns.getD i 0) (ns.getD j 0)) k) 0)=true
  ·rw [if_pos hb,if_pos hb]
  ·rw [if_neg hb,if_neg hb]
theorem ak6 (bt:Int->Int->Bool) (ns:List Int) (h:0 < ns.length):Q3 bt ns=some (ns.getD (argBest (fun i j=>bt (ns.getD i 0) (ns.getD j 0)) (ns.length - 1)) 0):=by
 have:=adQ bt ns (ns.length - 1) (by omega)
 rwa [Nat.sub_add_cancel h,List.take_length] at this
variable {X:Cx}
noncomputable def aoH (K:PySem.W.Frag) (bt:Int->Int->Bool):List V->Hp->VK->Prop:=fun xs H Q=>∃ a ns m,xs=[.ref a]/\(SqL K H a (List.map V.int ns) ∨ SqT K H a (List.map V.int ns))/\Q3 bt ns=some m/\Q (.int m) H
theorem ajq (hc:X.calm=true):zC X (.builtin "min") (aoH X.K fun i j=>decide (i < j)):=by
 intro pins s σ H xs us Q I r ⟨a,ns,m,e,hq,hm,q⟩
 subst e
 obtain ⟨u,rfl,rx⟩:=aaw r
 cases rx
 have hh:=I.ok.hd hc
 have h0:0 < ns.length:=by cases ns with
  | nil=>cases hm
  | cons n ns=>simp
 have hb:=ak6 (fun i j=>decide (i < j)) ns h0
 rw [hm] at hb
 have hb:=Option.some.inj hb
 rcases hq with hq | hq
 ·obtain ⟨its,rv,pl,hz⟩:=I.list hq
  have hl:its.toArray.size=ns.length:=by have:=rv.length; simp at this ⊢; omega
  refine call_min_walk (abm pl.isList fun h2 it st hlt hne k1 hn=>?_)
  refine ⟨it,[it,a],[it],its.toArray.size,(fun i v=>its.toArray[i]?=some v),_,_,rfl,Walks.list (A:=X.A.in1) hh it a hne its.toArray,st,hlt,by rw [hl]; exact h0,CmpOf.ints_lt (fun i=>ns.getD i 0) fun i v hP=>zv rv hP,fun v h3 tk hP k2=>?_⟩
  obtain ⟨t,rfl⟩:=zv rv hP
  exact ⟨.int m,H,I.kept (t':=tk) (aaB k1 hn k2),⟨t,by rw [hl]; rw [hb]⟩,q⟩
 ·obtain ⟨its,rv,pl,hz⟩:=I.tuple hq
  have hl:its.toArray.size=ns.length:=by have:=rv.length; simp at this ⊢; omega
  refine call_min_walk (adM (show s.heap.IsTuple a its.toArray from pl) fun h2 it st hlt hne k1 hn=>?_)
  refine ⟨it,[it,a],[it],its.toArray.size,(fun i v=>its.toArray[i]?=some v),_,_,rfl,Walks.tuple (A:=X.A.in1) hh it a hne its.toArray,st,hlt,by rw [hl]; exact h0,CmpOf.ints_lt (fun i=>ns.getD i 0) fun i v hP=>zv rv hP,fun v h3 tk hP k2=>?_⟩
  obtain ⟨t,rfl⟩:=zv rv hP
  exact ⟨.int m,H,I.kept (t':=tk) (aaB k1 hn k2),⟨t,by rw [hl]; rw [hb]⟩,q⟩
noncomputable def adR (bt:Int->Int->Bool) (ds:List PyData):Option PyData:=match ds with
 | [.list xs]=>(qU xs).bind fun ns=>(Q3 bt ns).map .int
 | [.tuple xs]=>(qU xs).bind fun ns=>(Q3 bt ns).map .int
 | _=>none
theorem ans {K:PySem.W.Frag}{bt:Int->Int->Bool}{ds:List PyData}{d:PyData}{xs:List V}{H:Hp}{Q:VK} (h:adR bt ds=some d) (r:Reps K H ds xs) (k:∀ v H',jt H H'->Rep K H' d v->Q v H'):aoH K bt xs H Q:=by
 unfold adR at h
 split at h
 ·rename_i ys
  cases hb:qU ys with
  | none=>simp [hb] at h
  | some ns=>
   cases hf:Q3 bt ns with
   | none=>simp [hb,hf] at h
   | some m=>
    have:PyData.int m=d:=by simpa [hb,hf] using h
    subst this
    obtain ⟨x,q,e1,e2,e3⟩:=r
    cases (show q=[] from e3)
    obtain ⟨a,us,g1,g2,g3⟩:=e2
    subst g1
    rw [Jx hb] at g3
    have:=Reps.ints g3
    subst this
    exact ⟨a,ns,m,e1,.inl (SqL.of g2),hf,k _ H (jt.refl H) rfl⟩
 ·rename_i ys
  cases hb:qU ys with
  | none=>simp [hb] at h
  | some ns=>
   cases hf:Q3 bt ns with
   | none=>simp [hb,hf] at h
   | some m=>
    have:PyData.int m=d:=by simpa [hb,hf] using h
    subst this
    obtain ⟨x,q,e1,e2,e3⟩:=r
    cases (show q=[] from e3)
    obtain ⟨a,us,g1,g2,g3⟩:=e2
    subst g1
    rw [Jx hb] at g3
    have:=Reps.ints g3
    subst this
    exact ⟨a,ns,m,e1,.inr g2,hf,k _ H (jt.refl H) rfl⟩
 ·cases h
theorem ant (hc:X.calm=true):Q1 X (.builtin "min") (adR fun i j=>decide (i < j)):=⟨_,ajq hc,fun ds d xs H Q h r k=>ans h r k⟩
end BX
end
section
namespace BX
open PySem PySem.Spec L2
open PyProof.Rows hiding St
variable {X:Cx}
noncomputable def ado (f:Expr->Option PyData):List Expr->Option (List PyData)
 | []=>some []
 | e::es=>(f e).bind fun d=>(ado f es).map fun ds=>d::ds
noncomputable def lit:Nat->Expr->Option PyData
 | 0,_=>none
 | n+1,e=>match e with
  | .Constant (.int i) _ _=>some (.int i)
  | .Constant (.bool b) _ _=>some (.bool b)
  | .Constant .none _ _=>some .none
  | .Constant (.str x) _ _=>some (.str x)
  | .Tuple es _ _=>(ado (lit n) es).bind fun ds=>if few ds=true then some (.tuple ds) else none
  | .List es _=>(ado (lit n) es).bind fun ds=>if few ds=true then some (.list ds) else none
  | _=>none
theorem PD.as {e:Expr}{F G:Rho->Option PyData} (h:PD X e F) (hi:∀ ρ d,G ρ=some d->F ρ=some d):PD X e G:=by
 with_unfolding_all exact (PE.imp h fun σ H Q ⟨ρ,d,en,q,k⟩=>⟨ρ,d,en,hi ρ d q,k⟩)
theorem PAD.as {es:List Expr}{F G:Rho->Option (List PyData)} (h:PAD X es F) (hi:∀ ρ d,G ρ=some d->F ρ=some d):PAD X es G:=by
 with_unfolding_all exact (PA.imp h fun σ H Q ⟨ρ,d,en,q,k⟩=>⟨ρ,d,en,hi ρ d q,k⟩)
noncomputable def ak7 (e:Expr):Prop:=∀ (es:List Expr) (env:Env),starEach (e::es) env=(false,eval e env)::starEach es env
theorem aeJ {f:Expr->Option PyData} (hf:∀ e d,f e=some d->PD X e (cst d)/\ak7 e):∀ (es:List Expr) (ds:List PyData),ado f es=some ds->PAD X es (fun _=>some ds)
 | [],ds,h=>by cases h; exact jd
 | e::es,ds,h=>by
  cases h1:f e with
  | none=>simp [ado,h1] at h
  | some d=>
   cases h2:ado f es with
   | none=>simp [ado,h1,h2] at h
   | some r=>
    have:d::r=ds:=by with_unfolding_all simpa [ado,h1,h2] using h
    subst this
    obtain ⟨p,st⟩:=hf e d h1
    exact (ja p (aeJ hf es r h2) (st es X.env)).as fun ρ d' q=>by cases q; simp [jr,cst]
theorem ahq:∀ (n:Nat) (e:Expr) (d:PyData),lit n e=some d->PD X e (cst d)/\ak7 e
 | 0,e,d,h=>by cases h
 | n+1,e,d,h=>by
  unfold lit at h
  split at h
  ·cases h; exact ⟨jf,fun _ _=>rfl⟩
  ·cases h; exact ⟨zl,fun _ _=>rfl⟩
  ·cases h; exact ⟨Zb,fun _ _=>rfl⟩
  ·cases h; exact ⟨aeD,fun _ _=>rfl⟩
  ·rename_i es x1 pos
   cases h1:ado (lit n) es with
   | none=>simp [h1] at h
   | some ds=>
    by_cases hf:few ds=true
    ·have:PyData.tuple ds=d:=by with_unfolding_all simpa [h1,hf] using h
     subst this
     exact ⟨(j8 (aeJ (ahq n) es ds h1)).as fun ρ d' q=>by cases q; simp [Qn,hf],fun _ _=>rfl⟩
    ·simp [h1,hf] at h
  ·rename_i es pos
   cases h1:ado (lit n) es with
   | none=>simp [h1] at h
   | some ds=>
    by_cases hf:few ds=true
    ·have:PyData.list ds=d:=by simpa [h1,hf] using h
     subst this
     exact ⟨(qr (aeJ (ahq n) es ds h1)).as fun ρ d' q=>by cases q; simp [Q5,hf],fun _ _=>rfl⟩
    ·simp [h1,hf] at h
  ·cases h
theorem zU (n:Nat) {e:Expr} (d:PyData) (h:lit n e=some d):PD X e (cst d):=by
 with_unfolding_all exact ((ahq n e d h).1)
end BX
end
section
namespace BX
open PySem L2
open PyProof.Rows hiding St
noncomputable def jY (K:PySem.W.Frag) (x:Str) (st:Stmt):Prop:=
 ∃ (f:Addr) (oc:Value) (od an:Option Addr) (kV doc pm cdv ct:Value) (osl:Array (Option Value)),PySem.W.nsIn K mainGlobals x=some (some (.ref f))/\
  K.lookup f=some ⟨oc,od,.func (PySem.W.fnOf x x (QD st) (jK st) (jg st) .none kV doc pm an cdv ct),osl⟩/\PySem.W.codeIn K cdv x=true/\PySem.W.keepIn K (.ref f)=true
theorem ak8 {K:PySem.W.Frag}{x:Str}{st:Stmt}{f:Addr}{oc:Value}{od an:Option Addr}{kV doc pm cdv ct:Value}{osl:Array (Option Value)} (a:PySem.W.nsIn K mainGlobals x=some (some (.ref f)))
  (l:K.lookup f=some ⟨oc,od,.func (PySem.W.fnOf x x (QD st) (jK st) (jg st) .none kV doc pm an cdv ct),osl⟩) (c:PySem.W.codeIn K cdv x=true) (k:PySem.W.keepIn K (.ref f)=true):jY K x st:=
 ⟨f,oc,od,an,kV,doc,pm,cdv,ct,osl,a,l,c,k⟩
noncomputable abbrev ju (x:Str) (st:Stmt) (ps:List Str):Prop:=∀ (kV doc pm:Value) (an:Option Addr) (cdv ct:Value) (us:List Value),us.length=ps.length->bindArgs (PySem.W.fnOf x x (QD st) (jK st) (jg st) .none kV doc pm an cdv ct) ⟨us,[]⟩=pure (ps.zip us)
theorem jY.callee {P:Program}{w:World}{K:PySem.W.Frag}{mg:Str->Option Value}{base h:Heap}{x:Str}{st:Stmt}{ps:List Str}{k n:Nat}{g:List PyData->Option PyData} (T:jY K x st) (X:K.In h) (G:h.Ns mainGlobals mg)
  (hb:ju x st ps) (F:∀ (f:Addr) (fd:FuncData),Fun K x x st f fd->FnOk P w K mg base CX0 k f fd ps (Pur K n g)):jn P w K mg base x ps k n g:=by
 obtain ⟨f,oc,od,an,kV,doc,pm,cdv,ct,osl,a,l,c,kp⟩:=T
 have F1:=aeB (st:=st) l c kp
 exact ⟨f,_,F f _ F1,PySem.W.mg_of X G a,kp,F1.binds hb⟩
theorem jn.as {P:Program}{w:World}{K:PySem.W.Frag}{mg:Str->Option Value}{base:Heap}{x:Str}{ps:List Str}{k n:Nat}{g g':List PyData->Option PyData} (C:jn P w K mg base x ps k n g) (h:∀ ds d,g' ds=some d->g ds=some d):jn P w K mg base x ps k n g':=by
 obtain ⟨f,fd,F,a,b,c⟩:=C
 exact ⟨f,fd,aqG F fun ds d _ q=>h ds d q,a,b,c⟩
theorem acH {K:PySem.W.Frag}{mg:Str->Option Value}{h:Heap}{x:Str}{a:Addr}{ob:Obj}{ds:List PyData} (X:K.In h) (G:h.Ns mainGlobals mg) (e:PySem.W.nsIn K mainGlobals x=some (some (.ref a))) (l:K.lookup a=some ob)
  (hc:ob.cls= .type "tuple") (hi:∃ (its:Array Value) (n:Nat) (xs:List V),ob.data= .seq its n/\its.size<=sizeLine/\jI xs its.toList/\∀ H,Reps K H ds xs):∃ v u,mg x=some u/\jU v u/\∀ H,Rep K H (.tuple ds) v:=by
 obtain ⟨its,n,xs,h1,h2,h3,h4⟩:=hi
 exact ⟨.ref a,.ref a,PySem.W.mg_of X G e,rfl,fun H=>⟨a,xs,rfl,.inr ⟨ob,its,n,l,hc,h1,h2,h3⟩,h4 H⟩⟩
end BX
end
section
namespace BX
open PySem PySem.Spec L2
open PyProof.Rows hiding St
noncomputable def zG (a:Addr) (xs:List V):HO:= .ext fun h=>xs.length<=sizeLine/\∃ (its:List Value) (n:Nat),jI xs its/\h.get? a=some { cls:= .type "list",data:= .seq its.toArray n }
noncomputable def abQ (P:Program) (w:World) (a:Addr) (ob:Obj) (ks:List (Key × V)):HO:= .ext fun h=>h.get? a=some ob/\ks.length<=sizeLine/\(a == sysModules)=false/\∃ vs,KV ks vs/\h.DictOf (qe P w) a vs
inductive Seal (P:Program) (w:World) (a:Addr):HO->HO->Prop where
 | l (xs:List V):Seal P w a (zG a xs) (.lst xs)
 | d (ob:Obj) (ks:List (Key × V)):Seal P w a (abQ P w a ob ks) (.frz ob (.dK ks))
theorem Seal.ext {P:Program}{w:World}{a:Addr}{c o:HO} (S:Seal P w a c o):∃ φ,c= .ext φ:=by cases S <;> exact ⟨_,rfl⟩
section
variable {X:Cx}{pins:List (Addr × Obj)}{σ:St}{H:Hp}{s:Shared}{a:Addr}{c o:HO}
theorem Inv.opened (I:Inv X pins σ H s) (S:Seal X.prog X.w a c o) (e:H a=some c):Inv X pins σ (upd H a o) s:=by
 have q:=I.hok a c e
 have mu:Mut (H a):=by rw [e]; obtain ⟨φ,rfl⟩:=S.ext; trivial
 cases S with
 | l xs=>
  obtain ⟨h1,h2,_⟩:=q
  exact I.write (x:=a) (e:=a) (h':=s.heap) (t':=s.toks) mu (.inl rfl) (fun _ _ _ z=>z) h2 h1
 | d ob ks=>
  obtain ⟨h1,h2,_⟩:=q
  exact I.write (x:=a) (e:=a) (h':=s.heap) (t':=s.toks) mu (.inl rfl) (fun _ _ _ z=>z) h2 ⟨h1.1,h1.2⟩
theorem Inv.redesc {o1 o2:HO} (I:Inv X pins σ H s) (h1:H a=some o1) (n1:∀ y,o1 ≠ .own y) (n2:∀ xs,o1 ≠ .tup xs) (n3:∀ ps,o1 ≠ .tbl ps) (nf:∀ ob u,X.H₀ a ≠ some (.frz ob u)) (new:qK X.prog X.w (upd H a o2) s.heap a o2):Inv X pins σ (upd H a o2) s:=by
 have na:∀ b,H b=none->upd H a o2 b=none:=fun b z=>by
  have:b ≠ a:=fun q=>by subst q; rw [h1] at z; cases z
  rw [jo this]; exact z
 refine ⟨I.ok,I.os,I.bare,⟨I.base.keep,I.base.slot,fun b u q n hx=>na b (I.base.free b u q n hx),I.base.there,fun b xs q=>?_,fun b ob u q=>?_,fun b ps q=>?_⟩,I.loc,I.cell,na _ I.free,fun x c' q=>na _ (I.freeC x c' q),fun p hp=>?_,fun b u q=>?_,I.len⟩
 ·have q':=I.base.tups b xs q
  have:b ≠ a:=fun z=>by subst z; rw [h1] at q'; cases q'; exact n2 _ rfl
  rw [jo this]; exact q'
 ·have:b ≠ a:=fun z=>by subst z; exact nf _ _ q
  rw [jo this]; exact I.base.frzs b ob u q
 ·obtain ⟨more,q'⟩:=I.base.tbls b ps q
  have:b ≠ a:=fun z=>by subst z; rw [h1] at q'; cases q'; exact n3 _ rfl
  exact ⟨more,by rw [jo this]; exact q'⟩
 ·obtain ⟨g1,g2,g3⟩:=I.pin p hp
  exact ⟨g1,na _ g2,g3⟩
 ·by_cases hb:b=a
  ·subst hb
   rw [jp] at q; cases q
   exact new
  ·rw [jo hb] at q
   refine (I.hok b u q).stay (fun c' v _ z=>z) (fun c' z=>?_) fun c' xs z=>?_
   ·have:c' ≠ a:=fun m=>by subst m; rw [h1] at z; cases z; exact n1 _ rfl
    rw [jo this]; exact z
   ·have:c' ≠ a:=fun m=>by subst m; rw [h1] at z; cases z; exact n2 _ rfl
    rw [jo this]; exact z
theorem Inv.nofrz {φ:Heap->Prop} (I:Inv X pins σ H s) (e:H a=some (.ext φ)):∀ ob u,X.H₀ a ≠ some (.frz ob u):=fun ob u z=>by
 have:=I.base.frzs _ _ _ z
 rw [e] at this; cases this
theorem Inv.closed (I:Inv X pins σ H s) (S:Seal X.prog X.w a c o) (e:H a=some o) (nf:∀ ob u,X.H₀ a ≠ some (.frz ob u)):Inv X pins σ (upd H a c) s:=by
 have q:=I.hok a o e
 cases S with
 | l xs=>
  obtain ⟨h1,its,n,h2,h3⟩:=q
  refine I.write (x:=a) (e:=a) (h':=s.heap) (t':=s.toks) (by rw [e]; trivial) (.inl rfl) (fun _ _ _ z=>z) ⟨_,h3⟩ ⟨⟨h1,its,n,h2,h3⟩,⟨_,h3⟩,?_⟩
  rintro g1 g2 ⟨z1,its,n,z2,z3⟩ k
  exact ⟨z1,its,n,z2,k _ z3⟩
 | d ob ks=>
  obtain ⟨h0,h1,h2,vs,h3,ob',es,ep,h4,h5⟩:=q
  refine Inv.redesc I e (fun _ z=>nomatch z) (fun _ z=>nomatch z) (fun _ z=>nomatch z) nf ⟨⟨h0,h1,h2,vs,h3,ob',es,ep,h4,h5⟩,⟨_,h4⟩,?_⟩
  rintro g1 g2 ⟨z0,z1,z2,vs,z3,ob',es,ep,z4,z5⟩ k
  exact ⟨k _ z0,z1,z2,vs,z3,ob',es,ep,k _ z4,z5⟩
theorem Inv.sealedD {ks:List (Key × V)} (I:Inv X pins σ H s) (e:H a=some (.dK ks)):∃ ob,Inv X pins σ (upd H a (abQ X.prog X.w a ob ks)) s:=by
 obtain ⟨h1,h2,vs,h3,ob,es,ep,h4,h5⟩:=I.hok a _ e
 refine ⟨ob,I.write (x:=a) (e:=a) (h':=s.heap) (t':=s.toks) (by rw [e]; trivial) (.inl rfl) (fun _ _ _ z=>z) ⟨_,h4⟩ ⟨⟨h4,h1,h2,vs,h3,ob,es,ep,h4,h5⟩,⟨_,h4⟩,?_⟩⟩
 rintro g1 g2 ⟨z0,z1,z2,vs,z3,ob',es,ep,z4,z5⟩ k
 exact ⟨k _ z0,z1,z2,vs,z3,ob',es,ep,k _ z4,z5⟩
theorem Inv.openD {ob:Obj}{ks:List (Key × V)} (I:Inv X pins σ H s) (e:H a=some (abQ X.prog X.w a ob ks)):Inv X pins σ (upd H a (.dK ks)) s:=by
 obtain ⟨h1,h2,_⟩:=I.hok a _ e
 exact I.write (x:=a) (e:=a) (h':=s.heap) (t':=s.toks) (by rw [e]; trivial) (.inl rfl) (fun _ _ _ z=>z) h2 h1.2
end
mutual
noncomputable def noD:PyData->Bool
 | .tuple ds=>noDs ds
 | .list ds=>noDs ds
 | .dict _=>false
 | _=>true
noncomputable def noDs:List PyData->Bool
 | []=>true
 | d::ds=>noD d && noDs ds
end
noncomputable def afM (H H':Hp):Prop:=∀ b o,H b=some o->(∀ ob ks,o ≠ .frz ob (.dK ks))->H' b=some o
section
variable {K:PySem.W.Frag}{H H':Hp}
theorem afM.tup {a:Addr}{xs:List V} (e:afM H H') (h:SqT K H a xs):SqT K H' a xs:=by
 rcases h with (h | ⟨o,h⟩) | h
 ·exact .inl (.inl (e _ _ h fun _ _ z=>nomatch z))
 ·exact .inl (.inr ⟨o,e _ _ h fun _ _ z=>nomatch z⟩)
 ·exact .inr h
mutual
theorem Rep.monoM (e:afM H H'):∀ (d:PyData) (v:V),noD d=true->Rep K H d v->Rep K H' d v
 | .none,v,_,h=>h
 | .bool _,v,_,h=>h
 | .int _,v,_,h=>h
 | .str _,v,_,h=>h
 | .tuple ds,v,n,⟨a,xs,h1,h2,h3⟩=>⟨a,xs,h1,afM.tup e h2,Reps.monoM e ds xs (by simpa [noD] using n) h3⟩
 | .list ds,v,n,⟨a,xs,h1,h2,h3⟩=>⟨a,xs,h1,e _ _ h2 (fun _ _ z=>nomatch z),Reps.monoM e ds xs (by simpa [noD] using n) h3⟩
 | .dict ds,v,n,h=>by simp [noD] at n
theorem Reps.monoM (e:afM H H'):∀ (ds:List PyData) (xs:List V),noDs ds=true->Reps K H ds xs->Reps K H' ds xs
 | [],xs,_,h=>h
 | d::ds,xs,n,⟨x,r,h1,h2,h3⟩=>by
  have n':noD d=true/\noDs ds=true:=by simpa [noDs] using n
  exact ⟨x,r,h1,Rep.monoM e d x n'.1 h2,Reps.monoM e ds r n'.2 h3⟩
end
end
noncomputable def okB (c d:PyData):Bool:=match c with
 | .list _=>noL d
 | .dict _=>noD d
 | _=>false
noncomputable def aaE (P:Program) (w:World) (K:PySem.W.Frag) (H:Hp) (a:Addr):PyData->Prop
 | .list ds=>∃ xs,H a=some (zG a xs)/\Reps K H ds xs
 | .dict kvs=>∃ ks r ob,kvs=(.none,.none)::r/\H a=some (abQ P w a ob ks)/\RepM K H r ks
 | _=>False
theorem aaE.out {P:Program}{w:World}{K:PySem.W.Frag}{H:Hp}{a:Addr}{d:PyData} (h:aaE P w K H a d):∃ c o,Seal P w a c o/\H a=some c/\
  (∀ H',jQ H H'->H' a=some o->Rep K H' d (.ref a))/\(∀ H',jQ H H'->H' a=some c->aaE P w K H' a d)/\
  ∀ x H3 v,okB d x=true->H3 a=some o->Rep K H3 x v->Rep K (upd H3 a c) x v:=by
 cases d with
 | list ds=>
  obtain ⟨xs,h1,h2⟩:=h
  exact ⟨_,_,.l xs,h1,fun H' e q=>⟨a,xs,rfl,q,Reps.monoE e _ _ h2⟩,fun H' e q=>⟨xs,q,Reps.monoE e _ _ h2⟩,fun x H3 v n q r=>Rep.monoN (fun b u hb m=>by
   have:b ≠ a:=fun z=>by subst z; rw [q] at hb; cases hb; exact m _ rfl
   rw [jo this]; exact hb) x v n r⟩
 | dict kvs=>
  obtain ⟨ks,r,ob,rfl,h1,h2⟩:=h
  exact ⟨_,_,.d ob ks,h1,fun H' e q=>⟨a,rfl,.inr (.inl ⟨ks,ob,q,show RepM K H' r ks from RepM.monoE e _ _ h2⟩)⟩,fun H' e q=>⟨ks,r,ob,rfl,q,RepM.monoE e _ _ h2⟩,fun x H3 v n q r=>Rep.monoM (fun b u hb m=>by
   have:b ≠ a:=fun z=>by subst z; rw [q] at hb; cases hb; exact m _ _ rfl
   rw [jo this]; exact hb) x v n r⟩
 | none=>exact h.elim
 | bool _=>exact h.elim
 | int _=>exact h.elim
 | str _=>exact h.elim
 | tuple _=>exact h.elim
theorem jQ.upd {H:Hp}{a:Addr}{φ:Heap->Prop}{o:HO} (e:H a=some (.ext φ)):jQ H (upd H a o):=fun b u h n=>by
 have:b ≠ a:=fun z=>by subst z; rw [e] at h; cases h; exact n _ rfl
 rw [jo this]; exact h
structure EnvO (P:Program) (w:World) (K:PySem.W.Frag) (Hs H:Hp) (own:Option Nat) (ρ:Rho) (σ:St):Prop where
 len:ρ.length=σ.length
 sm:jt Hs H
 pl:∀ i d,ρ[i]?=some (some d)->own ≠ some i->∃ v,σ[i]?=some (some v)/\Rep K H d v
 ow:∀ i,own=some i->∃ d a,ρ[i]?=some (some d)/\σ[i]?=some (some (.ref a))/\Hs a=none/\aaE P w K H a d
noncomputable def hid (own:Option Nat) (ρ:Rho):Rho:=match own with
 | none=>ρ
 | some i=>ρ.set i none
section
variable {P:Program}{w:World}{K:PySem.W.Frag}{Hs H H':Hp}{own:Option Nat}{ρ:Rho}{σ:St}
theorem EnvO.of (e:EnvR K H ρ σ) (s:jt Hs H):EnvO P w K Hs H none ρ σ:=⟨e.len,s,fun i d h _=>e.at' i d h,fun i z=>nomatch z⟩
theorem EnvO.to (e:EnvO P w K Hs H none ρ σ):EnvR K H ρ σ:=⟨e.len,fun i d h=>e.pl i d h (fun z=>nomatch z)⟩
theorem EnvO.hid (e:EnvO P w K Hs H own ρ σ):EnvR K H (hid own ρ) σ:=by
 cases own with
 | none=>exact e.to
 | some i=>
  refine ⟨by simp [BX.hid,e.len],fun j d h=>?_⟩
  by_cases hj:i=j
  ·subst hj
   simp only [BX.hid] at h
   rw [List.getElem?_set] at h
   simp at h
  ·simp only [BX.hid] at h
   rw [List.getElem?_set_ne hj] at h
   exact e.pl j d h (fun z=>hj (Option.some.inj z))
theorem aaE.mono {a:Addr}{d:PyData} (h:aaE P w K H a d) (s:jt H H'):aaE P w K H' a d:=by
 obtain ⟨c,o,_,h1,_,h2,_⟩:=h.out
 exact h2 H' (jt.e s) (s _ _ h1)
theorem EnvO.mono (e:EnvO P w K Hs H own ρ σ) (s:jt H H'):EnvO P w K Hs H' own ρ σ:=
 ⟨e.len,e.sm.trans s,fun i d h n=>let ⟨v,h1,h2⟩:=e.pl i d h n; ⟨v,h1,Rep.mono s d v h2⟩,fun i n=>let ⟨d,a,h1,h2,h3,h4⟩:=e.ow i n; ⟨d,a,h1,h2,h3,h4.mono s⟩⟩
theorem EnvO.opn {i:Nat} (e:EnvO P w K Hs H (some i) ρ σ):∃ d a c o,ρ[i]?=some (some d)/\σ[i]?=some (some (.ref a))/\Hs a=none/\Seal P w a c o/\H a=some c/\EnvR K (upd H a o) ρ σ/\jt Hs (upd H a o)/\
  (∀ H3,jt (upd H a o) H3->jQ H (upd H3 a c)/\EnvO P w K Hs (upd H3 a c) (some i) ρ σ)/\∀ x H3 v,okB d x=true->H3 a=some o->Rep K H3 x v->Rep K (upd H3 a c) x v:=by
 obtain ⟨d,a,h1,h2,h3,h4⟩:=e.ow i rfl
 obtain ⟨c,o,S,h5,h6,h7,h8⟩:=h4.out
 obtain ⟨φ,rfl⟩:=S.ext
 have s1:jQ H (upd H a o):=jQ.upd h5
 have sH:∀ {H2:Hp},(∀ b u,b ≠ a->H b=some u->H2 b=some u)->jt Hs H2:=fun {H2} k b u q=>k b u (fun z=>by subst z; rw [h3] at q; cases q) (e.sm b u q)
 refine ⟨d,a,_,o,h1,h2,h3,S,h5,⟨e.len,fun j x q=>?_⟩,sH fun b u n q=>by rw [jo n]; exact q,fun H3 s3=>⟨fun b u q m=>?_,e.len,sH fun b u n q=>by rw [jo n]; exact s3 b u (by rw [jo n]; exact q),fun j x q n=>?_,fun j n=>?_⟩,h8⟩
 ·by_cases hj:i=j
  ·subst hj
   rw [h1] at q; cases q
   exact ⟨.ref a,h2,h6 _ s1 jp⟩
  ·obtain ⟨v,g1,g2⟩:=e.pl j x q (fun z=>hj (Option.some.inj z))
   exact ⟨v,g1,Rep.monoE s1 _ _ g2⟩
 ·have:b ≠ a:=fun z=>by subst z; rw [h5] at q; cases q; exact m _ rfl
  rw [jo this]
  exact s3 b u (by rw [jo this]; exact q)
 ·have s4:jQ H (upd H3 a (.ext φ)):=fun b u q m=>by
   have:b ≠ a:=fun z=>by subst z; rw [h5] at q; cases q; exact m _ rfl
   rw [jo this]
   exact s3 b u (by rw [jo this]; exact q)
  obtain ⟨v,g1,g2⟩:=e.pl j x q n
  exact ⟨v,g1,Rep.monoE s4 _ _ g2⟩
 ·cases n
  have s4:jQ H (upd H3 a (.ext φ)):=fun b u q m=>by
   have:b ≠ a:=fun z=>by subst z; rw [h5] at q; cases q; exact m _ rfl
   rw [jo this]
   exact s3 b u (by rw [jo this]; exact q)
  exact ⟨d,a,h1,h2,h3,h7 _ s4 jp⟩
end
end BX
end
section
namespace BX
open PySem PySem.Spec L2
open PyProof.Rows hiding St
noncomputable def brw (own:Option Nat) (f:Rho->Option PyData):Rho->Option PyData:=fun ρ=>match f (hid own ρ) with
 | some d=>some d
 | none=>match own with
  | none=>none
  | some i=>match f ρ,lkp i ρ with
   | some d,some c=>if okB c d=true then some d else none
   | _,_=>none
theorem anu {own:Option Nat}{f:Rho->Option PyData}{ρ:Rho}{d:PyData} (h:brw own f ρ=some d):f (hid own ρ)=some d ∨ ∃ i c,own=some i/\f ρ=some d/\ρ[i]?=some (some c)/\okB c d=true:=by
 unfold brw at h
 cases h1:f (hid own ρ) with
 | some x=>rw [h1] at h; exact .inl h
 | none=>
  rw [h1] at h
  cases own with
  | none=>cases h
  | some i=>
   simp only at h
   cases h2:f ρ with
   | none=>rw [h2] at h; cases h
   | some x=>
    rw [h2] at h
    cases h3:lkp i ρ with
    | none=>rw [h3] at h; cases h
    | some c=>
     rw [h3] at h
     simp only at h
     split at h
     ·rename_i ok
      cases h
      exact .inr ⟨i,c,rfl,rfl,qE h3,ok⟩
     ·cases h
section
variable {X:Cx}{e a b c tg src:Expr}{es:List Expr}{st:Stmt}{sts qg:List Stmt}{fa fb fc:Rho->Option PyData}{F G:Rho->Option Out}{pos:Pos}{own:Option Nat}
noncomputable def tE (P:Program) (w:World) (K:PySem.W.Frag) (own:Option Nat) (f:Rho->Option PyData):TE:=fun σ H Q=>∃ Hs ρ d,EnvO P w K Hs H own ρ σ/\brw own f ρ=some d/\∀ v H',jQ H H'->EnvO P w K Hs H' own ρ σ->Rep K H' d v->Q v H'
theorem acI (h:PD X e fa):PE X e (tE X.prog X.w X.K own fa):=by
 with_unfolding_all
  intro pins s σ H Q I ⟨Hs,ρ,d,E,hb,k⟩
  rcases anu hb with h1 | ⟨i,c,ho,h1,h2,ok⟩
  ·exact h pins s σ H Q I ⟨hid own ρ,d,E.hid,h1,fun v H' s r=>k v H' (jt.e s) (E.mono s) r⟩
  ·subst ho
   obtain ⟨d0,a,cl,o,g1,g2,g3,S,g4,env,sm,back,keep⟩:=E.opn
   rw [h2] at g1; cases g1
   refine thn (h pins s σ (upd H a o) (fun v H3=>jt (upd H a o) H3/\Rep X.K H3 d v) (Inv.opened I S g4) ⟨ρ,d,env,h1,fun v H3 s3 r3=>⟨s3,r3⟩⟩) fun u s1 ⟨v,H3,I3,r,s3,r3⟩=>?_
   have e3:H3 a=some o:=s3 _ _ jp
   exact ⟨v,upd H3 a cl,Inv.closed I3 S e3 (by obtain ⟨φ,rfl⟩:=S.ext; exact Inv.nofrz I g4),r,k v _ (back H3 s3).1 (back H3 s3).2 (keep d H3 v ok e3 r3)⟩
noncomputable def tT (P:Program) (w:World) (K:PySem.W.Frag) (own:Option Nat) (f:Rho->Option Bool):TT:=fun σ H Q=>∃ Hs ρ d,EnvO P w K Hs H own ρ σ/\f ρ=some d/\∀ H',jQ H H'->EnvO P w K Hs H' own ρ σ->Q d H'
theorem apy {tc:Rho->Option Bool} (h:PTD X e tc):PT X e (tT X.prog X.w X.K own tc):=by
 with_unfolding_all
  intro pins s σ H Q I ⟨Hs,ρ,d,E,h1,k⟩
  cases own with
  | none=>exact h pins s σ H Q I ⟨ρ,d,E.to,h1,fun H' s=>k H' (jt.e s) (E.mono s)⟩
  | some i=>
   obtain ⟨d0,a,cl,o,g1,g2,g3,S,g4,env,sm,back,keep⟩:=E.opn
   refine thn (h pins s σ (upd H a o) (fun b H3=>b=d/\jt (upd H a o) H3) (Inv.opened I S g4) ⟨ρ,d,env,h1,fun H3 s3=>⟨rfl,s3⟩⟩) fun b s1 ⟨H3,I3,hb,s3⟩=>?_
   subst hb
   exact ⟨upd H3 a cl,Inv.closed I3 S (s3 _ _ jp) (by obtain ⟨φ,rfl⟩:=S.ext; exact Inv.nofrz I g4),k _ (back H3 s3).1 (back H3 s3).2⟩
noncomputable def tF (P:Program) (w:World) (K:PySem.W.Frag) (own:Option Nat) (f:Rho->Option PyData):TE:=fun σ H Q=>∃ Hs ρ d,EnvO P w K Hs H own ρ σ/\f ρ=some d/\∀ v H',jt Hs H'->Rep K H' d v->Q v H'
theorem apz (h:PD X e fa):PE X e (tF X.prog X.w X.K own fa):=by
 with_unfolding_all
  intro pins s σ H Q I ⟨Hs,ρ,d,E,h1,k⟩
  cases own with
  | none=>exact h pins s σ H Q I ⟨ρ,d,E.to,h1,fun v H' s r=>k v H' (E.sm.trans s) r⟩
  | some i=>
   obtain ⟨d0,a,cl,o,g1,g2,g3,S,g4,env,sm,back,keep⟩:=E.opn
   exact h pins s σ (upd H a o) Q (Inv.opened I S g4) ⟨ρ,d,env,h1,fun v H3 s3 r3=>k v H3 (sm.trans s3) r3⟩
noncomputable def aoI (P:Program) (w:World) (K:PySem.W.Frag) (Hs:Hp) (own:Option Nat) (D:Ends):Out->Prop
 | .nx ρ=>∀ σ H,EnvO P w K Hs H own ρ σ->D.nx σ H
 | .rt d=>∀ v H,jt Hs H->Rep K H d v->D.rt v H
 | .bk ρ=>∀ σ H,EnvO P w K Hs H own ρ σ->D.bk σ H
 | .ct ρ=>∀ σ H,EnvO P w K Hs H own ρ σ->D.ct σ H
noncomputable def tOS (P:Program) (w:World) (K:PySem.W.Frag) (own:Option Nat) (F:Rho->Option Out):TS:=fun D σ H=>∃ Hs ρ o,EnvO P w K Hs H own ρ σ/\F ρ=some o/\aoI P w K Hs own D o
@[irreducible] noncomputable def PSO (X:Cx) (own:Option Nat) (st:Stmt) (F:Rho->Option Out):Prop:=PS X st (tOS X.prog X.w X.K own F)
@[irreducible] noncomputable def abo (X:Cx) (own:Option Nat) (sts:List Stmt) (F:Rho->Option Out):Prop:=PSs X sts (tOS X.prog X.w X.K own F)
theorem adS (h:PSD X st F):PSO X none st F:=by
 with_unfolding_all
  refine PS.imp h fun D σ H ⟨Hs,ρ,o,E,q,k⟩=>⟨ρ,o,E.to,q,?_⟩
  cases o with
  | nx ρ'=>exact fun σ' H' s r=>k σ' H' (EnvO.of r (E.sm.trans s))
  | rt d=>exact fun v H' s r=>k v H' (E.sm.trans s) r
  | bk ρ'=>exact fun σ' H' s r=>k σ' H' (EnvO.of r (E.sm.trans s))
  | ct ρ'=>exact fun σ' H' s r=>k σ' H' (EnvO.of r (E.sm.trans s))
theorem Zj (h:abo X none sts F):Z9 X sts F:=by
 with_unfolding_all
  refine PSs.imp h fun D σ H ⟨ρ,o,en,q,k⟩=>⟨H,ρ,o,EnvO.of en (jt.refl H),q,?_⟩
  cases o with
  | nx ρ'=>exact fun σ' H' E=>k σ' H' E.sm E.to
  | rt d=>exact fun v H' s r=>k v H' s r
  | bk ρ'=>exact fun σ' H' E=>k σ' H' E.sm E.to
  | ct ρ'=>exact fun σ' H' E=>k σ' H' E.sm E.to
theorem j2:abo X own [] zh:=by
 with_unfolding_all
  refine PSs.imp aic fun D σ H ⟨Hs,ρ,o,E,q,k⟩=>?_
  cases q
  exact k σ H E
theorem jE (h1 : PSO X own st F) (h2 : abo X own qg G) : abo X own (st :: qg) (jV F G) := by
  with_unfolding_all
   refine PSs.imp (JE h1 h2) fun D σ H ⟨Hs, ρ, o, E, q, k⟩ => ?_
   cases hf : F ρ with
   | none => simp [jV, hf] at q
   | some p =>
     refine ⟨Hs, ρ, p, E, hf, ?_⟩
     cases p with
     | nx ρ' => exact fun σ' H' E' => ⟨Hs, ρ', o, E', by simpa [jV, hf] using q, k⟩
     | rt d => have : Out.rt d = o := by simpa [jV, hf] using q
               subst this; exact k
     | bk d => have : Out.bk d = o := by simpa [jV, hf] using q
               subst this; exact k
     | ct d => have : Out.ct d = o := by simpa [jV, hf] using q
               subst this; exact k
theorem aaF (h:PD X e fa):PSO X own (.Return (some e) pos) (zD fa):=by
 with_unfolding_all
  refine PS.imp (ag9 (apz (own:=own) h)) fun D σ H ⟨Hs,ρ,o,E,q,k⟩=>?_
  cases h1:fa ρ with
  | none=>simp [zD,h1] at q
  | some d=>
   have:Out.rt d=o:=by simpa [zD,h1] using q
   subst this
   exact ⟨Hs,ρ,d,E,h1,k⟩
theorem ahr {l r:List Stmt}{tc:Rho->Option Bool} (hc:PTD X c tc) (hl:abo X own l F) (hr:abo X own r G):PSO X own (.If c l r pos) (ifS tc F G):=by
 with_unfolding_all
  refine PS.imp (aoy (apy (own:=own) hc) hl hr) fun D σ H ⟨Hs,ρ,o,E,q,k⟩=>?_
  cases h1:tc ρ with
  | none=>simp [ifS,h1] at q
  | some x=>
   refine ⟨Hs,ρ,x,E,h1,fun H1 _ E1=>?_⟩
   cases x with
   | true=>rw [if_pos rfl]; exact ⟨Hs,ρ,o,E1,by simpa [ifS,h1] using q,k⟩
   | false=>rw [if_neg Bool.false_ne_true]; exact ⟨Hs,ρ,o,E1,by simpa [ifS,h1] using q,k⟩
theorem EnvO.set {P:Program}{w:World}{K:PySem.W.Frag}{Hs H:Hp}{ρ:Rho}{σ:St}{i:Nat}{d:PyData}{v:V} (E:EnvO P w K Hs H own ρ σ) (hi:own ≠ some i) (r:Rep K H d v):EnvO P w K Hs H own (ρ.set i (some d)) (σ.set i (some v)):=by
 refine ⟨by simp [E.len],E.sm,fun j x q n=>?_,fun j n=>?_⟩
 ·by_cases hj:i=j
  ·subst hj
   rw [List.getElem?_set] at q ⊢
   simp only [zzM] at q ⊢
   by_cases hl:i < ρ.length
   ·rw [if_pos hl] at q
    rw [if_pos (by rw [←E.len]; exact hl)]
    cases q
    exact ⟨v,rfl,r⟩
   ·rw [if_neg hl] at q; cases q
  ·rw [List.getElem?_set_ne hj] at q ⊢
   exact E.pl j x q n
 ·have hj:i ≠ j:=fun z=>by subst z; exact hi n
  rw [List.getElem?_set_ne hj,List.getElem?_set_ne hj]
  exact E.ow j n
theorem aeK (i:Nat) {x:Str}{pos':Pos} (hN:X.N.Nodup) (he:PD X e fa) (ho:own ≠ some i:=by decide) (hi:X.N[i]?=some x:=by rfl) (hx:Loc X.env.scope x:=by first | exact Or.inl rfl | exact Or.inr rfl) (hs:swapsWith e (some (.Name x pos')) pos.line X.env=pure false:=by rfl)
  (hf:X.fn x=true ∨ X.env.scope.names.lookup x=some .local:=by first | exact .inl rfl | exact .inr rfl | assumption):PSO X own (.Assign [.Name x pos'] e pos) (zA (brw own fa) (jJ i)):=by
 with_unfolding_all
  refine PS.imp (act hN hi hx (acI (own:=own) he) hs hf) fun D σ H ⟨Hs,ρ,o,E,q,k⟩=>?_
  cases h1:brw own fa ρ with
  | none=>simp [zA,h1] at q
  | some d=>
   have:Out.nx (ρ.set i (some d))=o:=by simpa [zA,h1,jJ] using q
   subst this
   exact ⟨Hs,ρ,d,E,h1,fun v H1 _ E1 r1=>k _ H1 (E1.set ho r1)⟩
end
section
variable {X:Cx}{e a b c tg src:Expr}{es:List Expr}{st:Stmt}{sts qg body:List Stmt}{fa fb fc:Rho->Option PyData}{F G:Rho->Option Out}{pos:Pos}{own:Option Nat}
@[irreducible] noncomputable def PGO (X:Cx) (own:Option Nat) (tg:Expr) (ga:PyData->Rho->Option Rho):Prop:=
 PG X tg fun v σ H Q=>∃ Hs ρ d ρ',EnvO X.prog X.w X.K Hs H own ρ σ/\Rep X.K H d v/\ga d ρ=some ρ'/\∀ σ' H',EnvO X.prog X.w X.K Hs H' own ρ' σ'->Q σ' H'
@[irreducible] noncomputable def anv (X:Cx) (own:Option Nat) (ts:List Expr) (ga:List PyData->Rho->Option Rho):Prop:=
 PGs X ts fun vs σ H Q=>∃ Hs ρ ds ρ',EnvO X.prog X.w X.K Hs H own ρ σ/\Reps X.K H ds vs/\ga ds ρ=some ρ'/\∀ σ',EnvO X.prog X.w X.K Hs H own ρ' σ'->Q σ' H
theorem JH (i:Nat) {x:Str} (hN:X.N.Nodup) (ho:own ≠ some i:=by decide) (hi:X.N[i]?=some x:=by rfl) (hx:Loc X.env.scope x:=by first | exact Or.inl rfl | exact Or.inr rfl)
  (hf:X.fn x=true ∨ X.env.scope.names.lookup x=some .local:=by first | exact .inl rfl | exact .inr rfl | assumption):PGO X own (.Name x pos) (jJ i):=by
 with_unfolding_all
  refine PG.imp (aav hN hi hx hf) fun v σ H Q ⟨Hs,ρ,d,ρ',E,r,q,k⟩=>?_
  cases q
  exact k _ H (E.set ho r)
theorem acJ:anv X own [] zi:=by
 with_unfolding_all
  refine PGs.imp aid fun vs σ H Q ⟨Hs,ρ,ds,ρ',E,r,q,k⟩=>?_
  cases ds with
  | nil=>cases r; cases q; exact ⟨rfl,k σ E⟩
  | cons d ds=>cases q
theorem Jy (i:Nat) {x:Str}{gr:List PyData->Rho->Option Rho} (hN:X.N.Nodup) (h2:anv X own es gr) (ho:own ≠ some i:=by decide) (hi:X.N[i]?=some x:=by rfl) (hx:Loc X.env.scope x:=by first | exact Or.inl rfl | exact Or.inr rfl)
  (hf:X.fn x=true ∨ X.env.scope.names.lookup x=some .local:=by first | exact .inl rfl | exact .inr rfl | assumption)
  (hs:(assignEach (.Name x pos::es) X.env).map (·.2)=assign (.Name x pos) X.env::(assignEach es X.env).map (·.2):=by rfl):anv X own (.Name x pos::es) (jR (jJ i) gr):=by
 with_unfolding_all
  refine PGs.imp (afw (aav hN hi hx hf) h2 hs) fun vs σ H Q ⟨Hs,ρ,ds,ρ',E,r,q,k⟩=>?_
  cases ds with
  | nil=>cases q
  | cons d ds=>
   obtain ⟨y,rr,e1,r1,r2⟩:=r
   subst e1
   exact ⟨y,rr,rfl,Hs,_,ds,ρ',E.set ho r1,r2,by simpa [jR,jJ] using q,k⟩
theorem aeL {k n:Nat}{gr:List PyData->Rho->Option Rho} (hc:X.calm=true) (h:anv X own es gr) (hn:(assignEach es X.env).length=n:=by rfl) (hst:(assignEach es X.env).findIdx? (·.1)=none:=by rfl):
  PGO X own (.Tuple es k pos) (JR n gr):=by
 with_unfolding_all
  refine PG.imp (aku hc h hn hst) fun v σ H Q ⟨Hs,ρ,d,ρ',E,r,q,k⟩=>?_
  cases d with
  | tuple ds=>
   obtain ⟨a,xs,e1,e2,e3⟩:=r
   by_cases hl:ds.length=n
   ·exact ⟨a,xs,e1,e2,by rw [e3.length]; exact hl,Hs,ρ,ds,ρ',E,e3,by simpa [JR,hl] using q,fun σ' E'=>k σ' H E'⟩
   ·simp [JR,hl] at q
  | _=>simp [JR] at q
theorem EnvO.rebase {P:Program}{w:World}{K:PySem.W.Frag}{Hs H:Hp}{ρ:Rho}{σ:St} (E:EnvO P w K Hs H own ρ σ):∃ Hb,EnvO P w K Hb H own ρ σ/\(∀ H3,jt Hb H3->jQ H H3)/\
  (∀ H3 ρ3 σ3,EnvO P w K Hb H3 own ρ3 σ3->EnvO P w K Hs H3 own ρ3 σ3)/\∀ H3,jt Hb H3->jt Hs H3:=by
 cases own with
 | none=>exact ⟨H,⟨E.len,jt.refl H,E.pl,fun i z=>nomatch z⟩,fun _ s=>jt.e s,fun H3 ρ3 σ3 E3=>⟨E3.len,E.sm.trans E3.sm,E3.pl,fun i z=>nomatch z⟩,fun _ s=>E.sm.trans s⟩
 | some i=>
  obtain ⟨d,a,h1,h2,h3,h4⟩:=E.ow i rfl
  obtain ⟨c,o,S,h5,_⟩:=h4.out
  obtain ⟨φ,rfl⟩:=S.ext
  let Hb:Hp:=fun b=>if b=a then none else H b
  have ha:Hb a=none:=if_pos rfl
  have hb:∀ b,b ≠ a->Hb b=H b:=fun b n=>if_neg n
  have sH:∀ H3,jt Hb H3->jt Hs H3:=fun H3 s b u q=>by
   have n:b ≠ a:=fun z=>by subst z; rw [h3] at q; cases q
   exact s b u (by rw [hb b n]; exact E.sm b u q)
  refine ⟨Hb,⟨E.len,fun b u q=>?_,E.pl,fun j n=>?_⟩,fun H3 s b u q m=>?_,fun H3 ρ3 σ3 E3=>⟨E3.len,sH H3 E3.sm,E3.pl,fun j n=>?_⟩,sH⟩
  ·by_cases n:b=a
   ·subst n; rw [ha] at q; cases q
   ·rw [hb b n] at q; exact q
  ·cases n
   exact ⟨d,a,h1,h2,ha,h4⟩
  ·have n:b ≠ a:=fun z=>by subst z; rw [h5] at q; cases q; exact m _ rfl
   exact s b u (by rw [hb b n]; exact q)
  ·obtain ⟨d3,a3,g1,g2,g3,g4⟩:=E3.ow j n
   refine ⟨d3,a3,g1,g2,?_,g4⟩
   by_cases z:a3=a
   ·rw [z]; exact h3
   ·rw [hb a3 z] at g3
    cases q:Hs a3 with
    | none=>rfl
    | some u=>have:=E.sm _ _ q; rw [g3] at this; cases this
theorem zZ {fi:Rho->Option (List PyData)}{ga:PyData->Rho->Option Rho} (hp:PassesOwn (model X.prog X.w) X.A X.env X.xe) (hc:X.calm=true) (hi:PID X tg src fi) (hg:PGO X own tg ga) (hb:abo X own body F)
  (hs:∀ x,foldedSetIterable src X.env x=pure x:=by intro _; rfl):PSO X own (.For tg src body [] pos) (Jn (fun ρ=>fi (hid own ρ)) ga F):=by
 with_unfolding_all
  refine PS.imp (aex hp hc hi hg hb hs) fun D σ H ⟨Hs,ρ,o,E,q,k⟩=>?_
  cases h1:fi (hid own ρ) with
  | none=>simp [Jn,h1] at q
  | some ds=>
   have q':jP ga F ds ρ=some o:=by simpa [Jn,h1] using q
   refine ⟨hid own ρ,ds,E.hid,h1,fun J H1 s1 Y=>?_⟩
   obtain ⟨Hb,Eb,sE,back,sb⟩:=(E.mono s1).rebase
   refine ⟨fun i m σ H2=>m=ds.length - i/\i<=ds.length/\∃ ρ2,EnvO X.prog X.w X.K Hb H2 own ρ2 σ/\jP ga F (ds.drop i) ρ2=some o,⟨ds.length,by simp,Nat.zero_le _,ρ,Eb,by simpa using q'⟩,?_⟩
   rintro i m σ2 H2 ⟨rfl,hi,ρ2,en2,q2⟩
   obtain ⟨g1,g2,g3⟩:=Y i H2 (sE H2 en2.sm)
   by_cases hlt:i < ds.length
   ·right
    have hd:ds.drop i=ds[i]::ds.drop (i+1):=List.drop_eq_getElem_cons hlt
    rw [hd] at q2
    refine ⟨g1 hlt,fun σ3 H3=>∃ ρ3,EnvO X.prog X.w X.K Hb H3 own ρ3 σ3/\jP ga F (ds.drop (i+1)) ρ3=some o,fun σ3 H3 ⟨ρ3,a2,a3⟩=>⟨ds.length - (i+1),by omega,rfl,hlt,ρ3,a2,a3⟩,fun x H3 y=>?_⟩
    obtain ⟨s3,r3⟩:=g3 x H3 y
    have r3':=r3 ds[i] (by simp [hlt])
    cases h4:ga ds[i] ρ2 with
    | none=>simp [jP,h4] at q2
    | some ρ4=>
     refine ⟨Hb,ρ2,ds[i],ρ4,en2.mono s3,r3',h4,fun σ5 H5 en5=>?_⟩
     cases h5:F ρ4 with
     | none=>simp [jP,h4,h5] at q2
     | some p=>
      refine ⟨Hb,ρ4,p,en5,h5,?_⟩
      cases p with
      | nx ρ6=>exact fun σ6 H6 en6=>⟨ρ6,en6,by simpa [jP,h4,h5] using q2⟩
      | ct ρ6=>exact fun σ6 H6 en6=>⟨ρ6,en6,by simpa [jP,h4,h5] using q2⟩
      | bk ρ6=>
       have:Out.nx ρ6=o:=by simpa [jP,h4,h5] using q2
       subst this
       exact fun σ6 H6 en6=>k σ6 H6 (back _ _ _ en6)
      | rt d=>
       have:Out.rt d=o:=by simpa [jP,h4,h5] using q2
       subst this
       exact fun v H6 s6 r6=>k v H6 (sb _ s6) r6
   ·left
    have he:i=ds.length:=by omega
    have hn:ds.drop i=[]:=by rw [he]; simp
    rw [hn] at q2
    have:Out.nx ρ2=o:=by simpa [jP] using q2
    subst this
    exact ⟨g2 (by omega),k σ2 H2 (back _ _ _ en2)⟩
end
theorem Jr {H:Hp}{a:Addr}{o o':HO}:upd (upd H a o) a o'=upd H a o':=by
 funext b
 by_cases h:b=a
 ·subst h; rw [jp,jp]
 ·rw [jo h,jo h,jo h]
section
variable {P:Program}{w:World}{K:PySem.W.Frag}{Hs H:Hp}{ρ:Rho}{σ:St}{i:Nat}
theorem EnvO.put {a:Addr}{d d':PyData}{φ:Heap->Prop}{H3:Hp}{c:HO} (E:EnvO P w K Hs H (some i) ρ σ) (h0:ρ[i]?=some (some d)) (h2:σ[i]?=some (some (.ref a))) (h3:Hs a=none) (h5:H a=some (.ext φ))
  (s3:∀ b u,b ≠ a->H b=some u->H3 b=some u) (ow:aaE P w K (upd H3 a c) a d'):EnvO P w K Hs (upd H3 a c) (some i) (ρ.set i (some d')) σ:=by
 have hi:i < ρ.length:=(List.getElem?_eq_some_iff.mp h0).1
 have s4:jQ H (upd H3 a c):=fun b u q m=>by
  have:b ≠ a:=fun z=>by subst z; rw [h5] at q; cases q; exact m _ rfl
  rw [jo this]; exact s3 b u this q
 refine ⟨by simp [E.len],fun b u q=>?_,fun j x q n=>?_,fun j n=>?_⟩
 ·have:b ≠ a:=fun z=>by subst z; rw [h3] at q; cases q
  rw [jo this]; exact s3 b u this (E.sm b u q)
 ·have hj:i ≠ j:=fun z=>n (by rw [z])
  rw [List.getElem?_set_ne hj] at q
  obtain ⟨v,g1,g2⟩:=E.pl j x q n
  exact ⟨v,g1,Rep.monoE s4 _ _ g2⟩
 ·cases n
  exact ⟨d',a,by rw [List.getElem?_set_self hi],h2,h3,ow⟩
theorem EnvO.opnL {ds:List PyData} (E:EnvO P w K Hs H (some i) ρ σ) (h:ρ[i]?=some (some (.list ds))):∃ a xs,σ[i]?=some (some (.ref a))/\Hs a=none/\H a=some (zG a xs)/\Reps K H ds xs/\EnvR K (upd H a (.lst xs)) ρ σ:=by
 obtain ⟨d,a,h1,h2,h3,h4⟩:=E.ow i rfl
 rw [h] at h1; cases h1
 obtain ⟨xs,h5,h6⟩:=h4
 have s1:jQ H (upd H a (.lst xs)):=jQ.upd h5
 refine ⟨a,xs,h2,h3,h5,h6,E.len,fun j x q=>?_⟩
 by_cases hj:i=j
 ·subst hj
  rw [h] at q; cases q
  exact ⟨.ref a,h2,a,xs,rfl,jp,Reps.monoE s1 _ _ h6⟩
 ·obtain ⟨v,g1,g2⟩:=E.pl j x q (fun z=>hj (Option.some.inj z))
  exact ⟨v,g1,Rep.monoE s1 _ _ g2⟩
end
section
variable {X:Cx}{e a b c tg src:Expr}{es:List Expr}{st:Stmt}{sts qg body:List Stmt}{fa fb fc:Rho->Option PyData}{F G:Rho->Option Out}{pos:Pos}
noncomputable def apA (P:Program) (w:World) (K:PySem.W.Frag) (i:Nat) (g:Rho->Option PyData):TE:=fun σ H Q=>∃ Hs ρ d',EnvO P w K Hs H (some i) ρ σ/\g ρ=some d'/\∀ H',EnvO P w K Hs H' (some i) (ρ.set i (some d')) σ->Q .non H'
noncomputable def Q6 (i:Nat) (g:Rho->Option PyData):Rho->Option Out:=fun ρ=>(g ρ).map fun d=> .nx (ρ.set i (some d))
theorem ab9 {i:Nat}{g:Rho->Option PyData} (h:PE X e (apA X.prog X.w X.K i g)) (hs:swapsWith e none pos.line X.env=pure false:=by rfl):PSO X (some i) (.Expr e pos) (Q6 i g):=by
 with_unfolding_all
  refine PS.imp (aew h hs) fun D σ H ⟨Hs,ρ,o,E,q,k⟩=>?_
  cases h1:g ρ with
  | none=>simp [Q6,h1] at q
  | some d=>
   have:Out.nx (ρ.set i (some d))=o:=by simpa [Q6,h1] using q
   subst this
   exact ⟨Hs,ρ,d,E,h1,fun H' E'=>k σ H' E'⟩
noncomputable def ajr (c d:Option PyData):Option PyData:=match c,d with
 | some (.list ds),some d=>if noL d=true/\ds.length < 1000000 then some (.list (ds++[d])) else none
 | _,_=>none
noncomputable def aab (i:Nat) (fa:Rho->Option PyData):Rho->Option PyData:=fun ρ=>ajr (lkp i ρ) (fa ρ)
theorem ak9 {c d:Option PyData}{r:PyData} (h:ajr c d=some r):∃ ds x,c=some (.list ds)/\d=some x/\noL x=true/\ds.length < 1000000/\r= .list (ds++[x]):=by
 unfold ajr at h
 split at h
 ·split at h
  ·rename_i hc
   cases h
   exact ⟨_,_,rfl,rfl,hc.1,hc.2,rfl⟩
  ·cases h
 ·cases h
theorem aam {n:Nat} (h:n < 1000000):n < sizeLine:=Nat.lt_of_lt_of_le h (by rw [sizeLine_eq]; decide)
theorem adT (i:Nat) {x:Str}{p1 apos cpos:Pos} (h:PD X e fa) (hN:X.N[i]?=some x:=by rfl) (hv:Vis X.env.scope x:=by first | exact Or.inl rfl | exact Or.inr (Or.inl rfl) | exact Or.inr (Or.inr rfl)) (hd:(x == ("__debug__":Str))=false:=by decide)
  (hcd:(x == ("__classdict__":Str))=false:=by decide) (hbase:attributeBase (.Name x p1) "append" X.env (eval (.Name x p1) X.env)=eval (.Name x p1) X.env:=by rfl)
  (hfew:((backTo cpos (starEach [e] X.env)).all (fun x=>!x.1) && (backToKw cpos (keywordEach [] X.env)).all (fun x=>x.1.isSome) && decide ([e].length+([]:List Keyword).length+(if ([]:List Keyword).isEmpty then 0 else 1) < 30))=true:=by rfl)
  (hline:(apos.endLine == cpos.line)=true:=by rfl) (hs:starEach [e] X.env=(false,eval e X.env)::starEach [] X.env:=by rfl) (hplain:(backTo cpos (starEach [] X.env)).any (·.1)=false:=by rfl):
  PE X (.Call (.Attribute (.Name x p1) "append" apos) [e] [] cpos) (apA X.prog X.w X.K i (aab i fa)):=by
 with_unfolding_all
  intro pins s σ H Q I ⟨Hs,ρ,d',E,hg,k⟩
  obtain ⟨ds,d,q1,q2,hn,hl,rfl⟩:=ak9 hg
  obtain ⟨a,xs,g2,g3,g4,g5,env⟩:=E.opnL (qE q1)
  have hlen:=g5.length
  have W:=afD (X:=X) (cpos:=cpos) (apos:=apos) PySem.F.plainAttrs_list PySem.F.slot_list_append PySem.F.type_list_append adF (abc hN hv hd hcd) (qM h Jl hs) hbase hfew hline hs hplain
  refine thn (W pins s σ (upd H a (.lst xs)) (fun v H4=>∃ H3 y,v= .non/\H4=upd H3 a (.lst (xs++[y]))/\jt (upd H a (.lst xs)) H3/\Rep X.K H3 d y) (Inv.opened I (.l xs) g4)
   ⟨.ref a,g2,.inl ⟨rfl,_,SqL.of jp⟩,ρ,d,env,q2,fun y H3 s3 r3=>⟨a,xs,y,rfl,rfl,s3 _ _ jp,by rw [hlen]; exact aam hl,H3,y,rfl,rfl,s3,r3⟩⟩) fun u s1 ⟨v,H4,I4,r,H3,y,e1,e2,s3,r3⟩=>?_
  subst e1
  have e4:H4 a=some (.lst (xs++[y])):=by rw [e2]; exact jp
  have sb:∀ b u,b ≠ a->H b=some u->H4 b=some u:=fun b u n q=>by rw [e2,jo n]; exact s3 b u (by rw [jo n]; exact q)
  refine ⟨.non,upd H4 a (zG a (xs++[y])),Inv.closed I4 (.l _) e4 (Inv.nofrz I g4),r,k _ (E.put (qE q1) g2 g3 g4 sb ⟨xs++[y],jp,?_⟩)⟩
  have s5:jQ H (upd H4 a (zG a (xs++[y]))):=fun b u q m=>by
   have:b ≠ a:=fun z=>by subst z; rw [g4] at q; cases q; exact m _ rfl
   rw [jo this]; exact sb b u this q
  have s6:zR H3 (upd H4 a (zG a (xs++[y]))):=fun b u q m=>by
   have e3:H3 a=some (.lst xs):=s3 _ _ jp
   have:b ≠ a:=fun z=>by subst z; rw [e3] at q; cases q; exact m _ rfl
   rw [jo this,e2,jo this]; exact q
  exact (Reps.monoE s5 _ _ g5).append ⟨y,[],rfl,Rep.monoN s6 _ _ hn r3,rfl⟩
end
section
variable {X:Cx}{e a b c tg src:Expr}{es:List Expr}{st:Stmt}{sts qg body:List Stmt}{fa fb fc:Rho->Option PyData}{F G:Rho->Option Out}{pos:Pos}
@[irreducible] noncomputable def PN (X:Cx) (e:Expr) (f:Rho->Option PyData):Prop:=
 PE X e fun σ H Q=>∃ ρ d,EnvR X.K H ρ σ/\f ρ=some d/\∀ a H',jt H H'->H a=none->aaE X.prog X.w X.K H' a d->Q (.ref a) H'
theorem aeM {fr:Rho->Option (List PyData)} (h:PAD X es fr):PN X (.List es pos) (Q5 fr):=by
 with_unfolding_all
  intro pins s σ H Q I ⟨ρ,d,en,hf,k⟩
  cases h1:fr ρ with
  | none=>simp [Q5,h1] at hf
  | some ds=>
   by_cases hfew:few ds=true
   ·have:PyData.list ds=d:=by simpa [Q5,h1,hfew] using hf
    subst this
    refine thn (ahe h pins s σ H (fun v H2=>∃ a xs H1,v= .ref a/\H1 a=none/\jt H H1/\H2=upd H1 a (.lst xs)/\Reps X.K H1 ds xs) I ⟨ρ,ds,en,h1,fun vs H1 s1 r1=>⟨by rw [r1.length]; exact acC (by simpa [few] using hfew),fun l hl=>⟨l,vs,H1,rfl,hl,s1,rfl,r1⟩⟩⟩) fun u s1 ⟨v,H2,I2,r,a,xs,H1,e1,e2,s1',e3,r1⟩=>?_
    subst e1
    have e4:H2 a=some (.lst xs):=by rw [e3]; exact jp
    have e5:upd H2 a (zG a xs)=upd H1 a (zG a xs):=by rw [e3,Jr]
    have s2:jt H1 (upd H2 a (zG a xs)):=by rw [e5]; exact jA e2
    exact ⟨.ref a,_,Inv.closed I2 (.l xs) e4 (fun ob u z=>by have:=I.base.frzs _ _ _ z; rw [s1'.free e2] at this; cases this),r,k a _ (s1'.trans s2) (s1'.free e2) ⟨xs,jp,Reps.mono s2 _ _ r1⟩⟩
   ·simp [Q5,h1,hfew] at hf
theorem ala:PN X (.Dict [] [] pos) (cst (.dict [(.none,.none)])):=by
 with_unfolding_all
  intro pins s σ H Q I ⟨ρ,d,en,hf,k⟩
  cases hf
  refine thn (akM pins s σ H (fun v H2=>∃ a,v= .ref a/\H a=none/\H2=upd H a (.dK [])) I (fun l hl=>⟨l,rfl,hl,rfl⟩)) fun u s1 ⟨v,H2,I2,r,a,e1,e2,e3⟩=>?_
  subst e1
  have e4:H2 a=some (.dK []):=by rw [e3]; exact jp
  obtain ⟨ob,I3⟩:=Inv.sealedD I2 e4
  have s2:jt H (upd H2 a (abQ X.prog X.w a ob [])):=by rw [e3,Jr]; exact jA e2
  exact ⟨.ref a,_,I3,r,k a _ s2 e2 ⟨[],[],ob,rfl,jp,rfl⟩⟩
noncomputable def Zk (i:Nat) (f:Rho->Option PyData) (G:Rho->Option Out):Rho->Option Out:=fun ρ=>(f ρ).bind fun d=>if i < ρ.length then (G (ρ.set i (some d))).bind fun o=>match o with
  | .rt c=>some (.rt c)
  | _=>none
 else none
theorem Zl (i:Nat) {x:Str}{pos':Pos} (hN:X.N.Nodup) (he:PN X e fa) (h:abo X (some i) qg G) (hi:X.N[i]?=some x:=by rfl) (hx:Loc X.env.scope x:=by first | exact Or.inl rfl | exact Or.inr rfl) (hs:swapsWith e (some (.Name x pos')) pos.line X.env=pure false:=by rfl)
  (hf:X.fn x=true ∨ X.env.scope.names.lookup x=some .local:=by first | exact .inl rfl | exact .inr rfl | assumption):abo X none (.Assign [.Name x pos'] e pos::qg) (Zk i fa G):=by
 with_unfolding_all
  refine PSs.imp (JE (act hN hi hx he hs hf) h) fun D σ H ⟨Hs,ρ,o,E,q,k⟩=>?_
  cases h1:fa ρ with
  | none=>simp [Zk,h1] at q
  | some d=>
   by_cases hl:i < ρ.length
   ·cases h2:G (ρ.set i (some d)) with
    | none=>simp [Zk,h1,h2] at q
    | some p=>
     cases p with
     | rt c=>
      have:Out.rt c=o:=by simpa [Zk,h1,h2,hl] using q
      subst this
      refine ⟨ρ,d,E.to,h1,fun a H' s hn ow=>⟨Hs,ρ.set i (some d),.rt c,⟨by simp [E.len],E.sm.trans s,fun j y q n=>?_,fun j n=>?_⟩,h2,k⟩⟩
      ·have hj:i ≠ j:=fun z=>n (by rw [z])
       rw [List.getElem?_set_ne hj] at q ⊢
       obtain ⟨v,g1,g2⟩:=E.pl j y q (fun z=>nomatch z)
       exact ⟨v,g1,Rep.mono s _ _ g2⟩
      ·cases n
       refine ⟨d,a,by rw [List.getElem?_set_self hl],by rw [List.getElem?_set_self (by rw [←E.len]; exact hl)],E.sm.free hn,ow⟩
     | nx _=>simp [Zk,h1,h2,hl] at q
     | bk _=>simp [Zk,h1,h2,hl] at q
     | ct _=>simp [Zk,h1,h2,hl] at q
   ·simp [Zk,h1,hl] at q
noncomputable def isI (n:Int):PyData->Bool
 | .int m=>decide (m=n)
 | _=>false
noncomputable def Q7 (r:List (PyData × PyData)) (n:Int):Option PyData:=(r.find? fun p=>isI n p.1).map (·.2)
noncomputable def ahs (r:List (PyData × PyData)) (n:Int) (d:PyData):List (PyData × PyData):=if r.any (fun p=>isI n p.1)=true then r.map (fun p=>if isI n p.1=true then (p.1,d) else p) else r++[(.int n,d)]
theorem aaG {K:PySem.W.Frag}{H:Hp} (n:Int):∀ {r:List (PyData × PyData)}{ks:List (Key × V)},RepM K H r ks->(Q7 r n=none/\QE ks (Sum.inl n:Key)=none) ∨ ∃ d x,Q7 r n=some d/\QE ks (Sum.inl n:Key)=some x/\Rep K H d x
 | [],ks,h=>by cases (show ks=[] from h); exact .inl ⟨rfl,rfl⟩
 | (k,d)::r,ks,⟨i,x,s,h1,h2,h3,h4⟩=>by
  subst h1; subst h2
  by_cases hn:i=n
  ·subst hn
   exact .inr ⟨d,x,by simp [Q7,isI],by simp [QE],h3⟩
  ·have e1:Q7 ((.int i,d)::r) n=Q7 r n:=by simp [Q7,isI,hn,List.find?_cons]
   have e2:QE ((Sum.inl i,x)::s) (Sum.inl n:Key)=QE s (Sum.inl n):=by
    have:¬ (Sum.inl i:Key)=Sum.inl n:=fun z=>hn (Sum.inl.inj z)
    simp [QE,List.find?_cons,this]
   rw [e1,e2]
   exact aaG n h4
theorem RepM.any {K:PySem.W.Frag}{H:Hp} (n:Int):∀ {r:List (PyData × PyData)}{ks:List (Key × V)},RepM K H r ks->r.any (fun p=>isI n p.1)=ks.any fun kv=>decide (kv.1=(Sum.inl n:Key))
 | [],ks,h=>by cases (show ks=[] from h); rfl
 | (k,d)::r,ks,⟨i,x,s,h1,h2,h3,h4⟩=>by
  subst h1; subst h2
  rw [List.any_cons,List.any_cons,RepM.any n h4]
  congr 1
  by_cases hn:i=n
  ·subst hn; simp [isI]
  ·have:¬ (Sum.inl i:Key)=Sum.inl n:=fun z=>hn (Sum.inl.inj z)
   simp [isI,hn]
theorem RepM.repl {K:PySem.W.Frag}{H:Hp} (n:Int) {d':PyData}{x':V} (hr:Rep K H d' x'):∀ {r:List (PyData × PyData)}{ks:List (Key × V)},RepM K H r ks->
  RepM K H (r.map fun p=>if isI n p.1=true then (p.1,d') else p) (ks.map fun kv=>if kv.1=(Sum.inl n:Key) then (kv.1,x') else kv)
 | [],ks,h=>by cases (show ks=[] from h); exact rfl
 | (k,d)::r,ks,⟨i,x,s,h1,h2,h3,h4⟩=>by
  subst h1; subst h2
  by_cases hn:i=n
  ·subst hn
   have c1:isI i ((PyData.int i,d):PyData × PyData).1=true:=by simp [isI]
   rw [List.map_cons,List.map_cons,if_pos c1,if_pos rfl]
   exact ⟨i,x',_,rfl,rfl,hr,RepM.repl i hr h4⟩
  ·have c1:¬ isI n ((PyData.int i,d):PyData × PyData).1=true:=by simp [isI,hn]
   have c2:¬ ((Sum.inl i,x):Key × V).1=Sum.inl n:=fun z=>hn (Sum.inl.inj z)
   rw [List.map_cons,List.map_cons,if_neg c1,if_neg c2]
   exact ⟨i,x,_,rfl,rfl,h3,RepM.repl n hr h4⟩
theorem RepM.snoc {K:PySem.W.Frag}{H:Hp} (n:Int) {d':PyData}{x':V} (hr:Rep K H d' x'):∀ {r:List (PyData × PyData)}{ks:List (Key × V)},RepM K H r ks->RepM K H (r++[(.int n,d')]) (ks++[(Sum.inl n,x')])
 | [],ks,h=>by cases (show ks=[] from h); exact ⟨n,x',[],rfl,rfl,hr,rfl⟩
 | (k,d)::r,ks,⟨i,x,s,h1,h2,h3,h4⟩=>by
  subst h2
  exact ⟨i,x,_,h1,rfl,h3,RepM.snoc n hr h4⟩
theorem RepM.put {K:PySem.W.Frag}{H:Hp} (n:Int) {d':PyData}{x':V} (hr:Rep K H d' x') {r:List (PyData × PyData)}{ks:List (Key × V)} (h:RepM K H r ks):RepM K H (ahs r n d') (Ql ks (Sum.inl n) x'):=by
 unfold ahs Ql
 rw [h.any n]
 by_cases c:(ks.any fun kv=>decide (kv.1=(Sum.inl n:Key)))=true
 ·rw [if_pos c,if_pos c]; exact h.repl n hr
 ·rw [if_neg c,if_neg c]; exact h.snoc n hr
theorem RepM.length {K:PySem.W.Frag}{H:Hp}:∀ {r:List (PyData × PyData)}{ks:List (Key × V)},RepM K H r ks->ks.length=r.length
 | [],ks,h=>by cases (show ks=[] from h); rfl
 | (k,d)::r,ks,⟨i,x,s,h1,h2,h3,h4⟩=>by subst h2; simp [RepM.length h4]
noncomputable def aqN (P:Program) (w:World):V->V->V->Hp->(Hp->Prop)->Prop:=fun o k v H Q=>∃ a ks ob n,o= .ref a/\k= .int n/\H a=some (abQ P w a ob ks)/\ks.length < sizeLine/\∀ ob',Q (upd H a (abQ P w a ob' (Ql ks (Sum.inl n) v)))
theorem alb (hu:X.A.units+1 < cLine):amU X (aqN X.prog X.w):=by
 intro pins s σ H o k v ov iv u Q I ro rk rv ⟨a,ks,ob,n,e1,e2,h1,h2,q⟩
 subst e1; subst e2
 cases ro
 obtain ⟨t,rfl⟩:=rk
 refine aji hu (Inv.openD I h1) (ajg.k (k:=Sum.inl n) jp h2) ⟨t,rfl⟩ rv fun s' I'=>?_
 obtain ⟨ob',I2⟩:=Inv.sealedD I' jp
 rw [Jr,Jr] at I2
 exact ⟨_,I2,q ob'⟩
noncomputable def alc (c v k:Option PyData):Option PyData:=match c,v,k with
 | some (.dict ((.none,.none)::r)),some d,some (.int n)=>if r.length < 1000000 then some (.dict ((.none,.none)::ahs r n d)) else none
 | _,_,_=>none
theorem ald {c v k:Option PyData}{o:PyData} (h:alc c v k=some o):∃ r d n,c=some (.dict ((.none,.none)::r))/\v=some d/\k=some (.int n)/\r.length < 1000000/\o= .dict ((.none,.none)::ahs r n d):=by
 unfold alc at h
 split at h
 ·split at h
  ·rename_i hc
   cases h
   exact ⟨_,_,_,rfl,rfl,rfl,hc,rfl⟩
  ·cases h
 ·cases h
noncomputable def ajs (i:Nat) (fk fv:Rho->Option PyData):Rho->Option Out:=fun ρ=>(alc (lkp i ρ) (brw (some i) fv ρ) (brw (some i) fk ρ)).map fun d=> .nx (ρ.set i (some d))
theorem anw (i:Nat) {x:Str}{p1 p2:Pos}{fk fv:Rho->Option PyData} (hu:X.A.units+1 < cLine) (hk:PD X b fk) (he:PD X e fv) (hN:X.N[i]?=some x:=by rfl) (hv:Vis X.env.scope x:=by first | exact Or.inl rfl | exact Or.inr (Or.inl rfl) | exact Or.inr (Or.inr rfl))
  (hd:(x == ("__debug__":Str))=false:=by decide) (hcd:(x == ("__classdict__":Str))=false:=by decide)
  (ha:∀ v,assign (.Subscript (.Name x p1) b p2) X.env v=(do
   let ov ←holding [v] (eval (.Name x p1) X.env)
   let iv ←holding [v,ov] (eval b X.env)
   standAt p2
   holding [v,ov,iv] (setItem ov iv v)
   release [v,ov,iv] []):=by intro _; rfl)
  (hs:swapsWithSole [.Subscript (.Name x p1) b p2] e pos.line X.env=pure false:=by rfl) (hw:swappedStores [.Subscript (.Name x p1) b p2] e X.env=pure none:=by rfl)
  (h1:(assignEach [.Subscript (.Name x p1) b p2] X.env).map (·.2)=[assign (.Subscript (.Name x p1) b p2) X.env]:=by rfl):PSO X (some i) (.Assign [.Subscript (.Name x p1) b p2] e pos) (ajs i fk fv):=by
 with_unfolding_all
  refine PS.imp (akw (acI (own:=some i) he) (akv (abc hN hv hd hcd) (acI (own:=some i) hk) (alb hu) ha) hs hw h1) fun D σ H ⟨Hs,ρ,o,E,q,k⟩=>?_
  cases hp:alc (lkp i ρ) (brw (some i) fv ρ) (brw (some i) fk ρ) with
  | none=>simp [ajs,hp] at q
  | some nw=>
   have:Out.nx (ρ.set i (some nw))=o:=by simpa [ajs,hp] using q
   subst this
   obtain ⟨r,d,n,q1,q2,q3,hl,rfl⟩:=ald hp
   refine ⟨Hs,ρ,d,E,q2,fun v H1 s1 E1 r1=>?_⟩
   obtain ⟨d0,a,g1,g2,g3,g4⟩:=E1.ow i rfl
   rw [qE q1] at g1; cases g1
   refine ⟨.ref a,g2,Hs,ρ,.int n,E1,q3,fun kv H2 s2 E2 r2=>?_⟩
   cases (show kv=V.int n from r2)
   obtain ⟨d1,a1,f1,f2,f3,f4⟩:=E2.ow i rfl
   rw [qE q1] at f1; cases f1
   rw [g2] at f2; cases f2
   obtain ⟨ks,r',ob,e1,e2,e3⟩:=f4
   cases e1
   refine ⟨a,ks,ob,n,rfl,rfl,e2,by rw [e3.length]; exact aam hl,fun ob'=>k _ _ (E2.put (qE q1) g2 f3 e2 (fun _ _ _ z=>z) ⟨_,_,ob',rfl,jp,?_⟩)⟩
   have s5:jQ H2 (upd H2 a (abQ X.prog X.w a ob' (Ql ks (Sum.inl n) v))):=jQ.upd e2
   exact RepM.put n (Rep.monoE (s2.trans s5) _ _ r1) (RepM.monoE s5 _ _ e3)
end
noncomputable def Js:PyData->Option (List (PyData × PyData))
 | .dict ((.none,_)::r)=>some r
 | _=>none
theorem JU {K:PySem.W.Frag}{H:Hp}{d:PyData}{r:List (PyData × PyData)}{v:V} (h:Js d=some r) (q:Rep K H d v):∃ a ks ob,v= .ref a/\H a=some (.frz ob (.dK ks))/\RepM K H r ks:=by
 unfold Js at h
 split at h
 ·cases h
  obtain ⟨a,h1,⟨ns,h2,h3⟩ | ⟨ks,ob,h2,h3⟩ | ⟨x,h2,_⟩ | ⟨x,_,_,h2,_⟩⟩:=q
  ·cases ns with
   | nil=>cases h3
   | cons n ns=>cases h3
  ·exact ⟨a,ks,ob,h1,h2,h3⟩
  ·cases h2
  ·cases h2
 ·cases h
theorem acK {H:Hp}{a:Addr}{ob:Obj}{ks:List (Key × V)} (h:H a=some (.frz ob (.dK ks))) (n:Int):ab1 H a (.int n) (QE ks (Sum.inl n:Key)):= .inl ⟨ks,Sum.inl n,.inr ⟨ob,h⟩,rfl,rfl⟩
section
variable {X:Cx}{e a b c tg src:Expr}{es:List Expr}{fa fb fc:Rho->Option PyData}{pos:Pos}
noncomputable def ajt (p q:PyData):Option PyData:=match Js p,q with
 | some r,.int n=>Q7 r n
 | _,_=>none
theorem ale (hu:X.A.units+1 < cLine) (ha:PD X a fa) (hb:PD X b fb) (hs:apk b:=by intro _ _; rfl):PD X (.Subscript a b pos) (op2 ajt fa fb):=by
 with_unfolding_all
  refine PE.imp (ana hu ha hb hs) fun σ H Q ⟨ρ,d,en,h,k⟩=>?_
  cases h1:fa ρ with
  | none=>simp [op2,h1] at h
  | some p=>
   cases h2:fb ρ with
   | none=>simp [op2,h1,h2] at h
   | some q=>
    have h':ajt p q=some d:=by simpa [op2,h1,h2] using h
    unfold ajt at h'
    split at h'
    ·rename_i r n hp
     refine ⟨ρ,p,en,h1,fun v H1 s1 r1=>⟨ρ,.int n,en.mono s1,h2,fun y H2 s2 r2=>?_⟩⟩
     cases (show y=V.int n from r2)
     obtain ⟨ad,ks,ob,e1,e2,e3⟩:=JU hp (Rep.mono s2 _ _ r1)
     rcases aaG n e3 with ⟨z,_⟩ | ⟨d',x,z1,z2,z3⟩
     ·rw [z] at h'; cases h'
     ·rw [z1] at h'; cases h'
      exact ⟨ad,x,e1,by rw [←z2]; exact acK e2 n,k x H2 (s1.trans s2) z3⟩
    ·cases h'
noncomputable def afN (p q:PyData):Option PyData:=match Js p,q with
 | some r,.int n=>some ((Q7 r n).getD .none)
 | _,_=>none
theorem alf {apos cpos:Pos} (hu:X.A.units+1 < cLine) (ha:PD X a fa) (hb:PD X b fb) (m:M1 X a "get" apos b cpos:=by exact ⟨rfl,rfl,rfl,rfl⟩):PD X (.Call (.Attribute a "get" apos) [b] [] cpos) (op2 afN fa fb):=by
 with_unfolding_all
  refine PE.imp (akO hu ha hb m) fun σ H Q ⟨ρ,d,en,h,k⟩=>?_
  cases h1:fa ρ with
  | none=>simp [op2,h1] at h
  | some p=>
   cases h2:fb ρ with
   | none=>simp [op2,h1,h2] at h
   | some q=>
    have h':afN p q=some d:=by simpa [op2,h1,h2] using h
    unfold afN at h'
    split at h'
    ·rename_i r n hp
     cases h'
     refine ⟨ρ,p,en,h1,fun v H1 s1 r1=>?_⟩
     obtain ⟨ad,ks,ob,e1,e2,e3⟩:=JU hp r1
     refine ⟨ad,e1,.inl ⟨ks,.inr ⟨ob,e2⟩⟩,ρ,.int n,en.mono s1,h2,fun y H2 s2 r2=>?_⟩
     cases (show y=V.int n from r2)
     refine ⟨_,acK (s2 _ _ e2) n,?_⟩
     rcases aaG n (RepM.mono s2 _ _ e3) with ⟨z1,z2⟩ | ⟨d',x,z1,z2,z3⟩
     ·rw [z2]; exact k _ H2 (s1.trans s2) (by rw [z1]; exact rfl)
     ·rw [z2]; exact k _ H2 (s1.trans s2) (by rw [z1]; exact z3)
    ·cases h'
noncomputable def aju (neg:Bool) (q p:PyData):Option PyData:=match Js p,q with
 | some r,.int n=>some (.bool (if neg then !(Q7 r n).isSome else (Q7 r n).isSome))
 | _,_=>none
theorem alg (hu:X.A.units+1 < cLine) (ha:PD X a fa) (hb:PD X b fb):PC X .NotIn a b (tD X.K (op2 (aju true) fa fb)):=by
 with_unfolding_all
  intro pins s σ H Q I ⟨ρ,d,en,h,k⟩
  cases h1:fa ρ with
  | none=>simp [op2,h1] at h
  | some q=>
   cases h2:fb ρ with
   | none=>simp [op2,h1,h2] at h
   | some p=>
    have h':aju true q p=some d:=by simpa [op2,h1,h2] using h
    unfold aju at h'
    split at h'
    ·rename_i r n hp
     cases h'
     refine ajj hu ha hb pins s σ H Q I ⟨ρ,.int n,en,h1,fun v H1 s1 r1=>⟨ρ,p,en.mono s1,h2,fun y H2 s2 r2=>?_⟩⟩
     cases (show v=V.int n from r1)
     obtain ⟨ad,ks,ob,e1,e2,e3⟩:=JU hp r2
     refine ⟨ad,_,e1,acK e2 n,k _ H2 (s1.trans s2) ?_⟩
     rcases aaG n e3 with ⟨z1,z2⟩ | ⟨d',x,z1,z2,z3⟩
     ·rw [z1,z2]; rfl
     ·rw [z1,z2]; rfl
    ·cases h'
theorem ajv {op:CmpOp}{f:Rho->Option PyData} (h:PC X op a b (tD X.K f)) (hm:behindInMarks op b=false:=by first | exact ahc _ | with_unfolding_all rfl):PTD X (.Compare a [op] [b] pos) (tst f):=by
 with_unfolding_all
  refine PT.imp (aoW h hm) fun σ H Q ⟨ρ,t,en,h,k⟩=>?_
  cases hd:f ρ with
  | none=>simp [tst,hd] at h
  | some d=>
   have ht:d= .bool t:=JG (by simpa [tst,hd] using h)
   subst ht
   exact ⟨ρ,_,en,hd,fun v H' s r=>⟨t,r,k H' s⟩⟩
noncomputable def Itd (d:Addr) (ob:Obj) (ks:List (Key × V)):It:=
 ⟨fun i H=>H d=some (.frz ob (.dK ks))/\i < ks.length,fun i H x H'=>H'=H/\∃ kv,ks[i]?=some kv/\x=kV kv.1,fun i H=>H d=some (.frz ob (.dK ks))/\ks.length<=i⟩
theorem ajw {k:Key}{v:Value} (h:acr k v=true):jU (kV k) v:=by
 rcases qi h with ⟨i,t,rfl,rfl⟩ | ⟨x,t,rfl,rfl⟩
 ·exact ⟨t,rfl⟩
 ·exact ⟨t,rfl⟩
theorem alh {P:Program}{w:World}{H:Hp}{h:Heap}{d:Addr}{ob:Obj}{ks:List (Key × V)}{es:Array DictEntry}{ep:Nat} (ok:HOk P w H h) (e:H d=some (.frz ob (.dK ks))) (hd:ob.data= .dict es ep):∃ vs,KV ks vs/\h.DictAt (qe P w) d vs ep:=by
 obtain ⟨h0,z,nm,vs,rel,ob',es',ep',h4,h5,h6,h7⟩:=ok d _ e
 rw [h0] at h4; cases h4
 rw [hd] at h6; cases h6
 exact ⟨vs,rel,ob,es,h0,h5,hd,h7⟩
theorem ajx {P:Program}{w:World}{K:PySem.W.Frag}{tg:Expr} (d it:Addr) (hne:d ≠ it) (ob:Obj) (ks:List (Key × V)) (es:Array DictEntry) (ep:Nat) (hd:ob.data= .dict es ep):Turn P w K tg (Itd d ob ks) [it] it (fun i h=>h.IsKeyIter it d i ks.length ep) where
 mem:=by simp
 obj:=fun i h st b hb=>by
  have e:b=it:=by simpa using hb
  subst e
  obtain ⟨o,e,c,d⟩:=st
  exact ⟨o,e,fun v z=>by rw [d] at z; cases z⟩
 keep:=fun i h h' st k=>st.at fun o e=>k it (by simp) o e
 item:=by
  intro X hP hw hK hc i pins s σ H E I hf st hg
  subst hP hw hK
  obtain ⟨hH,hi⟩:=hg
  obtain ⟨vs,rel,dat⟩:=alh I.hok hH hd
  have hl:=rel.length
  obtain ⟨f0,f1,f2,f3,f4,f5⟩:=hf it (by simp)
  have hi':i < vs.length:=by omega
  obtain ⟨⟨k,x⟩,hx⟩:∃ p,vs[i]?=some p:=⟨vs[i],by simp [hi']⟩
  rw [hl] at st
  refine wpAny_pyNext_dict_item st dat hx fun key h' hkey st' sb=>?_
  have I1:Inv X pins σ H { s with heap:=h' }:=I.turned (t':=s.toks) (fun b o hb e=>(sb.2 b hb).trans e) f0 f1 f3 f4 f5
  obtain ⟨o,e,c,dd⟩:=id st'
  rw [←hl] at st'
  have hk:(ks.map (·.1))[i]?=some k:=by rw [rel.keys,List.getElem?_map,hx]; rfl
  rw [List.getElem?_map] at hk
  cases hq:ks[i]? with
  | none=>rw [hq] at hk; cases hk
  | some kv=>
   rw [hq] at hk
   have hk':kv.1=k:=by simpa using hk
   exact ⟨key,rfl,afy (s:={ s with heap:=h' }) e c dd (by decide) ⟨kV k,H,I1,ajw hkey,⟨rfl,kv,hq,by rw [hk']⟩,st',fun b hb=>(hf b hb).1⟩⟩
 done:=by
  intro X hP hw hK hc i pins s σ H E I hf st hg
  subst hP hw hK
  obtain ⟨hH,hi⟩:=hg
  obtain ⟨vs,rel,dat⟩:=alh I.hok hH hd
  have hl:=rel.length
  obtain ⟨f0,f1,f2,f3,f4,f5⟩:=hf it (by simp)
  rw [hl] at st
  exact wpAny_pyNext_dict_end (I.ok.hd hc) st dat (by simp; omega) fun h' eb=>⟨rfl,I.turned (t':=s.toks) (fun b o hb e=>eb b o hb e) f0 f1 f3 f4 f5⟩
 self:=fun _ _ _ _ _ st h=>wpAny_pyIter_keyiter st h
end
noncomputable def aqO:HO->Bool
 | .lst _=>true
 | .tup _=>true
 | .frz _ _=>true
 | _=>false
noncomputable def Zm (H H':Hp):Prop:=∀ b o,H b=some o->aqO o=true->H' b=some o
section
variable {K:PySem.W.Frag}{H H':Hp}
theorem Zm.tup {a:Addr}{xs:List V} (e:Zm H H') (h:SqT K H a xs):SqT K H' a xs:=by
 rcases h with (h | ⟨o,h⟩) | h
 ·exact .inl (.inl (e _ _ h rfl))
 ·exact .inl (.inr ⟨o,e _ _ h rfl⟩)
 ·exact .inr h
theorem Zm.sql {a:Addr}{xs:List V} (e:Zm H H') (h:SqL K H a xs):SqL K H' a xs:=by
 rcases h with (h | ⟨o,h⟩) | h
 ·exact .inl (.inl (e _ _ h rfl))
 ·exact .inl (.inr ⟨o,e _ _ h rfl⟩)
 ·exact .inr h
mutual
theorem Rep.monoA (e:Zm H H'):∀ (d:PyData) (v:V),Rep K H d v->Rep K H' d v
 | .none,v,h=>h
 | .bool _,v,h=>h
 | .int _,v,h=>h
 | .str _,v,h=>h
 | .tuple ds,v,⟨a,xs,h1,h2,h3⟩=>⟨a,xs,h1,Zm.tup e h2,Reps.monoA e ds xs h3⟩
 | .list ds,v,⟨a,xs,h1,h2,h3⟩=>⟨a,xs,h1,e _ _ h2 rfl,Reps.monoA e ds xs h3⟩
 | .dict kvs,v,⟨a,h1,h2⟩=>⟨a,h1,h2.imp (fun ⟨ns,q1,q2⟩=>⟨ns,Zm.sql e q1,q2⟩) fun z=>z.imp (fun ⟨ks,ob,q1,q2⟩=>⟨ks,ob,e _ _ q1 rfl,RepD.monoA e kvs ks q2⟩) fun y=>y.imp id fun ⟨x,C,oe,q1,q2,q3⟩=>⟨x,C,oe,q1,e _ _ q2 rfl,q3⟩⟩
theorem Reps.monoA (e:Zm H H'):∀ (ds:List PyData) (xs:List V),Reps K H ds xs->Reps K H' ds xs
 | [],xs,h=>h
 | d::ds,xs,⟨x,r,h1,h2,h3⟩=>⟨x,r,h1,Rep.monoA e d x h2,Reps.monoA e ds r h3⟩
theorem RepD.monoA (e:Zm H H'):∀ (kvs:List (PyData × PyData)) (ks:List (Key × V)),RepD K H kvs ks->RepD K H' kvs ks
 | [],_,h=>h
 | (.none,c)::r,ks,h=>RepM.monoA e r ks h
 | (.bool _,_)::_,_,h=>h
 | (.int _,_)::_,_,h=>h
 | (.str _,_)::_,_,h=>h
 | (.list _,_)::_,_,h=>h
 | (.tuple _,_)::_,_,h=>h
 | (.dict _,_)::_,_,h=>h
theorem RepM.monoA (e:Zm H H'):∀ (kvs:List (PyData × PyData)) (ks:List (Key × V)),RepM K H kvs ks->RepM K H' kvs ks
 | [],_,h=>h
 | (k,d)::r,ks,⟨i,x,s,h1,h2,h3,h4⟩=>⟨i,x,s,h1,h2,Rep.monoA e d x h3,RepM.monoA e r s h4⟩
end
end
section
variable {X:Cx}{e a b c tg src:Expr}{es:List Expr}{fa fb fc:Rho->Option PyData}{pos:Pos}
noncomputable def arC (K:PySem.W.Frag) (tl:TE):TI:=fun σ H R=>tl σ H fun x H1=>∃ d ob ks,x= .ref d/\H1 d=some (.frz ob (.dK ks))/\R (Itd d ob ks) H1
theorem anx {l:Expr}{tl:TE} (hl:PE X l tl):PI X tg l (arC X.K tl):=by
 intro pins s σ H R I h
 refine thn (hl pins s σ H _ I h) fun v s1 ⟨x,H1,I1,r1,q1⟩=>?_
 obtain ⟨d,ob,ks,e,hq,q⟩:=q1
 subst e
 cases r1
 obtain ⟨h0,z,nm,vs,rel,ob',es,ep,h4,h5,h6,h7⟩:=I1.hok d _ hq
 rw [h0] at h4; cases h4
 have hl:=rel.length
 refine wpAny_pyIter_dict nm (show s1.heap.DictAt (qe X.prog X.w) d vs ep from ⟨ob,es,h0,h5,h6,h7⟩) ?_
 rw [←hl]
 refine ⟨s1.heap.objs.size,[s1.heap.objs.size],_,_,H1,rfl,I1.kept (t':=s1.toks) fun b o e=>Heap.get?_push_of_some _ e,ajx d _ (Nat.ne_of_lt (Heap.lt_size h0)) ob ks es ep h6,⟨_,Heap.get?_push_size _ rfl,rfl,rfl⟩,fun b hb=>?_,q⟩
 have e:b=s1.heap.objs.size:=by simpa using hb
 subst e
 exact I1.fpOk (Nat.le_refl _) (I1.hok.fresh (Nat.le_refl _))
theorem RepM.keys {K:PySem.W.Frag}{H:Hp}:∀ {r:List (PyData × PyData)}{ks:List (Key × V)}{i:Nat}{d:PyData}{kv:Key × V},RepM K H r ks->(r.map (·.1))[i]?=some d->ks[i]?=some kv->Rep K H d (kV kv.1)
 | [],ks,i,d,kv,h,e,q=>by simp at e
 | (k,c)::r,ks,0,d,kv,⟨i,x,s,h1,h2,h3,h4⟩,e,q=>by
  subst h1; subst h2
  simp at e q
  subst e; subst q
  exact rfl
 | (k,c)::r,ks,j+1,d,kv,⟨i,x,s,h1,h2,h3,h4⟩,e,q=>by
  subst h2
  exact RepM.keys (i:=j) h4 (by simpa using e) (by simpa using q)
noncomputable def itD (fa:Rho->Option PyData):Rho->Option (List PyData):=fun ρ=>(fa ρ).bind fun d=>(Js d).map fun r=>r.map (·.1)
theorem ali (h:PD X e fa):PID X tg e (itD fa):=by
 with_unfolding_all
  refine PI.imp (anx h) fun σ H R ⟨ρ,ds,en,q,k⟩=>?_
  cases h1:fa ρ with
  | none=>simp [itD,h1] at q
  | some d=>
   cases h2:Js d with
   | none=>simp [itD,h1,h2] at q
   | some r=>
    have:r.map (·.1)=ds:=by simpa [itD,h1,h2] using q
    subst this
    refine ⟨ρ,_,en,h1,fun v H1 s1 r1=>?_⟩
    obtain ⟨a,ks,ob,e1,e2,e3⟩:=JU h2 r1
    have hl:=e3.length
    refine ⟨a,ob,ks,e1,e2,k _ H1 s1 fun i H2 s2=>⟨fun hi=>?_,fun hi=>?_,fun x H' y=>?_⟩⟩
    ·exact ⟨s2 _ _ e2 (fun _ z=>nomatch z),by rw [hl]; simpa using hi⟩
    ·exact ⟨s2 _ _ e2 (fun _ z=>nomatch z),by rw [hl]; simpa using hi⟩
    ·obtain ⟨z1,kv,z2,z3⟩:=y
     subst z1; subst z3
     exact ⟨jt.refl _,fun d hd=>RepM.keys (RepM.monoE s2 _ _ e3) hd z2⟩
noncomputable def ajy (fa fb:Rho->Option PyData):Rho->Option PyData:=fun ρ=>(fa ρ).bind fun k=>(fb ρ).bind fun d=>match k with
 | .int n=>some (.dict [(.none,.none),(.int n,d)])
 | _=>none
theorem alj (ha:PD X a fa) (hb:PD X b fb):PD X (.Dict [some a] [b] pos) (ajy fa fb):=by
 with_unfolding_all
  intro pins s σ H Q I ⟨ρ,d,en,hf,k⟩
  cases h1:fa ρ with
  | none=>simp [ajy,h1] at hf
  | some p=>
   cases h2:fb ρ with
   | none=>simp [ajy,h1,h2] at hf
   | some q=>
    cases p with
    | int n=>
     have:PyData.dict [(.none,.none),(.int n,q)]=d:=by simpa [ajy,h1,h2] using hf
     subst this
     have W:=anc (X:=X) (pos:=pos) (akN ha hb anb) rfl rfl (by simp) (by simp)
     refine thn (W pins s σ H (fun v H4=>∃ l y H3,v= .ref l/\H l=none/\H3 l=some (.dK [])/\jt (upd H l (.dK [])) H3/\Rep X.K H3 q y/\H4=upd H3 l (.dK [(Sum.inl n,y)])) I fun l hl=>?_) fun u s1 ⟨v,H4,I4,r,l,y,H3,e1,e2,e3,e4,e5,e6⟩=>?_
     ·have s0:jt H (upd H l (.dK [])):=jA hl
      refine ⟨ρ,.int n,en.mono s0,h1,fun x H1 s1 r1=>⟨ρ,q,(en.mono s0).mono s1,h2,fun y H2 s2 r2=>?_⟩⟩
      cases (show x=V.int n from r1)
      have el:H2 l=some (.dK []):=s2 _ _ (s1 _ _ jp)
      exact ⟨el,[(Sum.inl n,y)],rfl,by simp,l,y,H2,rfl,hl,el,s1.trans s2,r2,rfl⟩
     ·subst e1
      have e7:H4 l=some (.dK [(Sum.inl n,y)]):=by rw [e6]; exact jp
      obtain ⟨ob,I5⟩:=Inv.sealedD I4 e7
      have I6:=Inv.opened I5 (.d ob _) jp
      rw [Jr] at I6
      have sA:Zm H3 (upd H4 l (.frz ob (.dK [(Sum.inl n,y)]))):=fun b o z dt=>by
       have:b ≠ l:=fun m=>by subst m; rw [e3] at z; cases z; cases dt
       rw [jo this,e6,jo this]; exact z
      have sH:jt H (upd H4 l (.frz ob (.dK [(Sum.inl n,y)]))):=fun b o z=>by
       have:b ≠ l:=fun m=>by subst m; rw [e2] at z; cases z
       rw [jo this,e6,jo this]; exact e4 b o (by rw [jo this]; exact z)
      exact ⟨.ref l,_,I6,r,k _ _ sH ⟨l,rfl,.inr (.inl ⟨_,ob,jp,show RepM X.K _ [(.int n,q)] _ from ⟨n,y,[],rfl,rfl,Rep.monoA sA _ _ e5,rfl⟩⟩)⟩⟩
    | _=>simp [ajy,h1,h2] at hf
end
end BX
end
section
namespace BX
open PySem PySem.Spec L2
theorem afO (l:Addr) (items:Array Value) (n:Nat) (u:Tok) (dd:Option Addr) (sl:Array (Option Value)):
  Meets (Builtin.«tuple.__mul__» ⟨[.ref l,.int 1 u],[]⟩) (fun _ R s=>s.heap.get? l=some { cls:= .type "tuple",dict:=dd,data:= .seq items n,slots:=sl }/\R (.ok (.ret (.ref l))) s):=
 .of_wp fun prog w A R s h=>by
  obtain ⟨hp,g,d,tk,os⟩:=s
  obtain ⟨hl,h⟩:=h
  have e1:(items.isEmpty || (1:Int) == 1)=true:=by simp
  wp_walk
  exact ⟨_,rfl,h⟩
theorem afP (l:Addr) (items:Array Value) (n:Nat) (x:Int) (u:Tok) (dd:Option Addr) (sl:Array (Option Value)) (hx:x<=0) (hx2:-(2 ^ 63)<=x) (hi:items.isEmpty=false):
  Meets (Builtin.«tuple.__mul__» ⟨[.ref l,.int x u],[]⟩) (fun _ R s=>s.heap.get? l=some { cls:= .type "tuple",dict:=dd,data:= .seq items n,slots:=sl }/\R (.ok (.ret (.ref s.heap.objs.size))) { s with heap:=s.heap.push { cls:= .type "tuple",data:= .seq #[] } }):=
 .of_wp fun prog w A R s h=>by
  obtain ⟨hp,g,d,tk,os⟩:=s
  obtain ⟨hl,h⟩:=h
  have e0:(decide (x < -(2 ^ 63)) || decide (x >= 2 ^ 63))=false:=by simp; omega
  have e1:(items.isEmpty || x == 1)=false:=by rw [hi]; simp; omega
  have e2:(decide (x<=0) || items.isEmpty)=true:=by simp [hx]
  wp_walk
  refine wpAny_ite_false (by rw [e0]; rfl) ?_
  wp_walk
  refine wpAny_ite_false (by rw [e1]; rfl) ?_
  wp_walk
  exact ⟨_,rfl,h⟩
theorem afQ (l:Addr) (items:Array Value) (n:Nat) (x:Int) (u:Tok) (dd:Option Addr) (sl:Array (Option Value)) (hx:2<=x) (hx2:x < 2 ^ 63) (hi:items.isEmpty=false) (hz:(items.size:Int)*x<=sizeLine) (hsz:(List.foldl (fun x1 x2=>x1++x2) #[] (List.replicate x.toNat items)).size<=sizeLine):
  Meets (Builtin.«tuple.__mul__» ⟨[.ref l,.int x u],[]⟩) (fun _ R s=>s.heap.get? l=some { cls:= .type "tuple",dict:=dd,data:= .seq items n,slots:=sl }/\R (.ok (.ret (.ref s.heap.objs.size))) { s with heap:=s.heap.push { cls:= .type "tuple",data:= .seq (List.foldl (fun x1 x2=>x1++x2) #[] (List.replicate x.toNat items)) } }):=
 .of_wp fun prog w A R s h=>by
  obtain ⟨hp,g,d,tk,os⟩:=s
  obtain ⟨hl,h⟩:=h
  have hs:((2 ^ 63 - 1) / 8:Int) >= (sizeLine:Int):=by rw [sizeLine_eq]; decide
  have e0:(decide (x < -(2 ^ 63)) || decide (x >= 2 ^ 63))=false:=by simp; omega
  have e1:(items.isEmpty || x == 1)=false:=by rw [hi]; simp; omega
  have e2:(decide (x<=0) || items.isEmpty)=false:=by rw [hi]; simp; omega
  have e3:¬ (items.size:Int)*x > (2 ^ 63 - 1) / 8:=by omega
  have e4:Builtin.Tuple.tupleTooMany ((items.size:Int)*x)=false:=by simp [Builtin.Tuple.tupleTooMany]; omega
  wp_walk
  refine wpAny_ite_false (by rw [e0]; rfl) ?_
  wp_walk
  refine wpAny_ite_false (by rw [e1]; rfl) ?_
  wp_walk
  refine wpAny_ite_false (by rw [e2]; rfl) ?_
  wp_walk
  rw [if_neg e3]
  refine wpAny_ite_false (by rw [e4]; rfl) ?_
  wp_walk
  exact ⟨_,rfl,h⟩
theorem abp:fillsNumberSlot (.type "tuple") "mul"=pure false:=
 PySem.fillsNumberSlot_seq (id:="tuple.__mul__") (r:=some (.builtin "tuple.__rmul__")) F.slot_tuple_mul.lookup (by decide +kernel) F.slot_tuple_rmul.lookup (by decide +kernel)
theorem aeN:seqRepeat? (.type "tuple")=pure (some (.builtin "tuple.__mul__")):=by
 unfold seqRepeat?
 rw [PySem.seqSlot_of (T:="tuple") (name:="__mul__") (id:="tuple.__mul__") F.slot_tuple_mul.lookup (by decide +kernel),PySem.seqSlot_of (T:="tuple") (name:="__rmul__") (id:="tuple.__rmul__") F.slot_tuple_rmul.lookup (by decide +kernel)]
 rfl
theorem acL (a:Int) (t:Tok) (l:Addr) (items:Array Value) (n:Nat) (dd:Option Addr) (sl:Array (Option Value)):
  Meets (Builtin.«int.__rmul__» ⟨[.int a t,.ref l],[]⟩) (fun _ R s=>s.heap.get? l=some { cls:= .type "tuple",dict:=dd,data:= .seq items n,slots:=sl }/\R (.ok (.ret Value.notImplemented)) s):=
 .of_wp fun prog w A R s h=>by
  obtain ⟨hp,g,d,tk,os⟩:=s; obtain ⟨hl,h⟩:=h
  wp_walk
  exact ⟨_,rfl,h⟩
section
open PyProof.Rows hiding St
variable {X:Cx}{e a b c tg src:Expr}{es:List Expr}{fa fb fc:Rho->Option PyData}{pos:Pos}{qg:List Expr}
noncomputable def aqP (K:PySem.W.Frag):R2:=fun x y H Q=>∃ l k xs,x= .ref l/\y= .int k/\SqT K H l xs/\0 < xs.length/\-(2 ^ 63)<=k/\k < 2 ^ 63/\(xs.length:Int)*k<=sizeLine/\
 (∀ p,H p=none->Q (.ref p) (upd H p (.tup (List.replicate k.toNat xs).flatten)))/\(k=1->Q (.ref l) H)
theorem anz:OpR X (binaryOp .Mult) (aqP X.K):=by
 intro pins s σ H x y v u Q I rx ry h
 obtain ⟨l,k,xs,rfl,rfl,hH,hne,h1,h2,hz,q,q1⟩:=h
 cases rx
 obtain ⟨t,rfl⟩:=ry
 obtain ⟨its,r,⟨⟨oc,od,odt,osl⟩,e,c,n,d⟩,hlz⟩:=I.tuple hH
 have hl:=r.length
 cases c
 cases (show odt=_ from d)
 have hi:its.toArray.isEmpty=false:=by
  cases its with
  | nil=>rw [hl] at hne; simp at hne
  | cons a r'=>simp
 refine wpAny_binaryOp_repeat_ref (T:="tuple") (U:="int") (by decide) ⟨_,e,rfl⟩ (fun s'=>typeIs_int s' k t) abp F.fills_int_mul F.slot_int_rmul aeN F.slot_int_index.lookup
  (call_meets F.slot_int_rmul (typeIs_int s k t) F.entry_int_rmul (F.args_int_rmul_2 _ _) (acL k t l its.toArray n od osl) ⟨e,rfl,⟨_,e,rfl⟩,?_⟩)
 have fresh:∀ {ys:List V} {jts:List Value},jI ys jts->ys.length<=sizeLine->Inv X pins σ (upd H s.heap.objs.size (.tup ys)) { s with heap:=s.heap.push { cls:= .type "tuple",data:= .seq jts.toArray } }:=fun {ys jts} rv hy=>
  I.laid (t':=s.toks) (fun b o e=>Heap.get?_push_of_some _ e) (Nat.le_refl _) (show qK X.prog X.w _ _ _ (.tup ys) from ⟨hy,jts,rv,IsTup.new _ _⟩)
 by_cases k1:k=1
 ·subst k1
  exact call_meets F.slot_tuple_mul ⟨_,e,rfl⟩ F.entry_tuple_mul (F.args_tuple_mul_2 _ _) (afO l its.toArray n t od osl) ⟨e,.ref l,H,I,rfl,q1 rfl⟩
 ·by_cases k0:k<=0
  ·have hk:k.toNat=0:=by omega
   refine call_meets F.slot_tuple_mul ⟨_,e,rfl⟩ F.entry_tuple_mul (F.args_tuple_mul_2 _ _) (afP l its.toArray n k t od osl k0 h1 hi) ⟨e,.ref _,_,fresh (ys:=[]) (jts:=[]) .nil (Nat.zero_le _),rfl,?_⟩
   have:=q _ (I.hok.fresh (Nat.le_refl _))
   rw [hk] at this
   exact this
  ·have hnew:List.foldl (fun x1 x2=>x1++x2) #[] (List.replicate k.toNat its.toArray)=(List.replicate k.toNat its).flatten.toArray:=by
    have:=abg its k.toNat []
    rw [List.nil_append] at this
    exact this
   have hlen:((List.replicate k.toNat xs).flatten.length:Int)=xs.length*k:=by
    rw [aik,Int.natCast_mul,Int.mul_comm,Int.toNat_of_nonneg (by omega)]
   have hlen2:(List.replicate k.toNat xs).flatten.length<=sizeLine:=by omega
   have hl2:=(r.rep k.toNat).length
   refine call_meets F.slot_tuple_mul ⟨_,e,rfl⟩ F.entry_tuple_mul (F.args_tuple_mul_2 _ _) (afQ l its.toArray n k t od osl (by omega) h2 hi (by rw [List.size_toArray,←hl]; exact hz) (by rw [hnew,List.size_toArray,←hl2]; exact hlen2)) ⟨e,?_⟩
   rw [hnew]
   exact ⟨.ref _,_,fresh (r.rep k.toNat) hlen2,rfl,q _ (I.hok.fresh (Nat.le_refl _))⟩
end
end BX
end
section
namespace BX
open PySem PySem.Spec L2
open PyProof.Rows hiding St
section
variable {X:Cx}{e a b c tg src:Expr}{es:List Expr}{fa fb fc:Rho->Option PyData}{pos:Pos}{qg:List Expr}
noncomputable def alk (p q:PyData):Option PyData:=match p,q with
 | .tuple ds,.int k=>if 0 < ds.length/\ds.length < 1000/\-1000 < k/\k < 1000 then some (.tuple (List.replicate k.toNat ds).flatten) else none
 | _,_=>none
theorem alm:OpD X (binaryOp .Mult) alk:=by
 refine ⟨_,anz,fun p q d x y H Q h rx ry k=>?_⟩
 unfold alk at h
 split at h
 ·rename_i ds n
  split at h
  ·rename_i hc
   cases h
   obtain ⟨a,us,e1,e2,e3⟩:=rx
   cases (show y=V.int n from ry)
   have hl:=e3.length
   have hz:(us.length:Int)*n<=1000000:=by
    have h1:(us.length:Int)*n<=us.length*1000:=Int.mul_le_mul_of_nonneg_left (by omega) (by omega)
    omega
   refine ⟨a,n,us,e1,rfl,e2,by omega,by omega,by omega,Int.le_trans hz (by rw [sizeLine_eq]; decide),fun p hp=>?_,fun h1=>?_⟩
   ·have s1:=jA (o:= .tup (List.replicate n.toNat us).flatten) hp
    exact k _ _ s1 ⟨p,_,rfl,SqT.of jp,Reps.mono s1 _ _ (e3.rep _)⟩
   ·subst h1
    refine k _ H (jt.refl H) ⟨a,us,rfl,e2,?_⟩
    simpa using e3
  ·cases h
 ·cases h
noncomputable def aqQ (lo:Int) (n:Nat):It:=⟨fun i _=>i < n,fun i H x H'=>H'=H/\x= .int (lo - i),fun i _=>n<=i⟩
theorem afR {P:Program}{w:World}{K:PySem.W.Frag}{tg:Expr} (it:Addr) (lo:Int) (n:Nat):Turn P w K tg (aqQ lo n) [it] it (fun i h=>IsRangeIter h it (lo+(i:Nat)*(-1)) ((n:Int) - (i:Nat)) (-1)) where
 mem:=by simp
 obj:=fun i h st b hb=>by
  have e:b=it:=by simpa using hb
  subst e
  exact ⟨_,st,fun v z=>by
   have z':Data.fields _=Data.cell v:=z
   cases z'⟩
 keep:=fun i h h' st k=>k it (by simp) _ st
 item:=by
  intro X hP hw hK hc i pins s σ H E I hf st hg
  subst hP hw hK
  obtain ⟨f0,f1,f2,f3,f4,f5⟩:=hf it (by simp)
  have W:=Walks.range (prog:=X.prog) (w:=X.w) (I.ok.hd hc) it lo (-1) n
  refine W.item i s _ _ hg st fun v h' tk hv st' kk=>?_
  obtain ⟨t,rfl⟩:=hv
  have I1:Inv X pins σ H { s with heap:=h',toks:=tk }:=I.turned (fun b o hb e=>kk b o (by simpa using hb) e) f0 f1 f3 f4 f5
  refine ⟨_,rfl,afy (s:={ s with heap:=h',toks:=tk }) (n:="range_iterator") st' rfl rfl (by decide) ⟨.int (lo - i),H,I1,⟨t,?_⟩,⟨rfl,rfl⟩,st',fun b hb=>(hf b hb).1⟩⟩
  congr 1
  omega
 done:=by
  intro X hP hw hK hc i pins s σ H E I hf st hg
  subst hP hw hK
  obtain ⟨f0,f1,f2,f3,f4,f5⟩:=hf it (by simp)
  exact wpAny_pyNext_range_end (I.ok.hd hc) st (by have:n<=i:=hg; omega) fun h' eb=>⟨rfl,I.turned (t':=s.toks) (fun b o hb e=>eb b o hb e) f0 f1 f3 f4 f5⟩
 self:=fun _ _ _ _ _ st h=>wpAny_pyIter_rangeiter st h
theorem Zn (a b:Int):Builtin.Range.rangeSize a b (-1)=if a > b then a - b else 0:=by
 unfold Builtin.Range.rangeSize
 simp only [show ¬ (-1:Int) > 0 by decide,zzN,Int.neg_neg,Int.ediv_one]
 split <;> omega
theorem aht {a b:Int} (ha:-1000000<=a) (ha':a < 1000000) (hb:-1000000<=b) (hb':b < 1000000):Builtin.Range.small a b (-1)=true:=by
 unfold Builtin.Range.small
 rw [Zn]
 simp only [Builtin.Range.rangeFitsLong,Bool.and_eq_true,Bool.or_eq_true,decide_eq_true_eq,beq_iff_eq,show ¬ (-1:Int) > 0 by decide,zzN]
 split <;> omega
noncomputable def aqR (ta:TA):TI:=fun σ H R=>ta σ H fun vs H1=>∃ i j:Int,vs=[.int i,.int j,.int (-1)]/\(-1000000<=i/\i < 1000000/\-1000000<=j/\j < 1000000)/\R (aqQ i (i - j).toNat) H1
theorem ajz {ta:TA}{p pos:Pos} (hg:Gl X "range") (hm:X.mg "range"=none) (ha:PA X [a,b,c] ta) (hs:starEach [a,b,c] X.env=[(false,eval a X.env),(false,eval b X.env),(false,eval c X.env)]:=by rfl) (hs2:starEach [b,c] X.env=[(false,eval b X.env),(false,eval c X.env)]:=by rfl):
  PI X tg (.Call (.Name "range" p) [a,b,c] [] pos) (aqR ta):=by
 intro pins s σ H R I h
 refine Call_ (Q9 I hg hm boot_range (PyProof.Rows.callWith_type1 (thn (ha pos pins s σ H _ I h) fun us s1 ⟨vs,H1,I1,r1,q1⟩=>?_) (by rw [hs,hs2]) (by rw [hs2]; rfl)))
 obtain ⟨i,j,e,⟨q1,q2,q3,q4⟩,q⟩:=q1
 subst e
 cases r1 with
 | cons r rr=>
  cases rr with
  | cons r' rr=>
   cases rr with
   | cons r'' rr=>
    cases rr
    obtain ⟨t,rfl⟩:=r
    obtain ⟨t',rfl⟩:=r'
    obtain ⟨t'',rfl⟩:=r''
    refine PySem.call_range_3 (by decide) ?_ (Or.inl (PyProof.noPylong_small (by decide)))
    refine wpAny_pyIter_range (IsRange.new ..) (aht q1 q2 q3 q4) ?_
    have I2:Inv X pins σ H1 { s1 with heap:=s1.heap.push { cls:= .type "range",data:= .fields #[.int i t,.int j t',.int (-1) t''] },toks:=s1.toks }:=I1.kept fun b o e=>Heap.get?_push_of_some _ e
    refine ⟨(s1.heap.push { cls:= .type "range",data:= .fields #[.int i t,.int j t',.int (-1) t''] }).objs.size,[(s1.heap.push { cls:= .type "range",data:= .fields #[.int i t,.int j t',.int (-1) t''] }).objs.size],_,_,H1,rfl,
     I2.kept (t':=s1.toks) fun b o e=>Heap.get?_push_of_some _ e,afR _ i (i - j).toNat,?_,fun b hb=>?_,q⟩
    ·have e1:i+((0:Nat):Int)*(-1)=i:=by simp
     have e2:(((i - j).toNat:Nat):Int) - ((0:Nat):Int)=Builtin.Range.rangeSize i j (-1):=by rw [Zn]; split <;> omega
     show IsRangeIter _ _ (i+((0:Nat):Int)*(-1)) ((((i - j).toNat:Nat):Int) - ((0:Nat):Int)) (-1)
     rw [e1,e2]
     exact Heap.get?_push_size _ rfl
    ·have e:b=(s1.heap.push { cls:= .type "range",data:= .fields #[.int i t,.int j t',.int (-1) t''] }).objs.size:=by simpa using hb
     subst e
     exact I2.fpOk (Nat.le_refl _) (I2.hok.fresh (Nat.le_refl _))
noncomputable def aiu (lo:Int) (n:Nat):List PyData:=(List.range n).map fun (k:Nat)=>PyData.int (lo - (k:Int))
noncomputable def aln (ds:List PyData):Option (List PyData):=match ds with
 | [.int i,.int j,.int c]=>if c=-1/\-1000000<=i/\i < 1000000/\-1000000<=j/\j < 1000000 then some (aiu i (i - j).toNat) else none
 | _=>none
theorem ahu {p pos:Pos}{fr:Rho->Option (List PyData)} (hg:Gl X "range") (hm:X.mg "range"=none) (ha:PAD X [a,b,c] fr) (hs:starEach [a,b,c] X.env=[(false,eval a X.env),(false,eval b X.env),(false,eval c X.env)]:=by rfl) (hs2:starEach [b,c] X.env=[(false,eval b X.env),(false,eval c X.env)]:=by rfl):
  PID X tg (.Call (.Name "range" p) [a,b,c] [] pos) (fun ρ=>(fr ρ).bind aln):=by
 with_unfolding_all
  refine PI.imp (ajz hg hm ha hs hs2) fun σ H R ⟨ρ,ds,en,q,k⟩=>?_
  cases h1:fr ρ with
  | none=>simp [h1] at q
  | some as=>
   have q':aln as=some ds:=by simpa [h1] using q
   refine ⟨ρ,as,en,h1,fun vs H1 s1 r1=>?_⟩
   unfold aln at q'
   split at q'
   ·rename_i i j cc
    split at q'
    ·rename_i hj
     cases q'
     obtain ⟨rfl,hj⟩:=hj
     obtain ⟨x,r,e1,e2,y,r',e3,e4,z,r'',e5,e6,e7⟩:=r1
     cases (show x=V.int i from e2)
     cases (show y=V.int j from e4)
     cases (show z=V.int (-1) from e6)
     cases (show r''=[] from e7)
     subst e5; subst e3
     refine ⟨i,j,e1,hj,k _ H1 s1 fun n H2 s2=>?_⟩
     have hl:(aiu i (i - j).toNat).length=(i - j).toNat:=by simp [aiu]
     refine ⟨fun hi=>by rw [hl] at hi; exact hi,fun hi=>by rw [hl] at hi; exact hi,fun x H' y=>?_⟩
     obtain ⟨z1,z2⟩:=y
     subst z1
     refine ⟨jt.refl _,fun d hd=>?_⟩
     have hi:n < (i - j).toNat:=by
      have:=(List.getElem?_eq_some_iff.mp hd).1
      rw [hl] at this; exact this
     have:d= .int (i - n):=by
      simp [aiu,hi] at hd
      exact hd.symm
     subst this
     exact z2
    ·cases q'
   ·cases q'
noncomputable def afS (fa fb:Rho->Option PyData):Rho->Option PyData:=fun ρ=>(fa ρ).bind fun x=>(asB x).bind fun t=>if t=true then fb ρ else some (.bool false)
theorem alo {op:BoolOp} (ha:PD X a fa):PD X (.BoolOp op [a] pos) fa:=by
 with_unfolding_all exact (ao1 ha)
theorem alp (ha:PD X a fa) (hb:PD X (.BoolOp .And (b::qg) pos) fb):PD X (.BoolOp .And (a::b::qg) pos) (afS fa fb):=by
 with_unfolding_all
  refine PE.imp (ao2 ha hb) fun σ H Q ⟨ρ,d,en,h,k⟩=>?_
  cases h1:fa ρ with
  | none=>simp [afS,h1] at h
  | some x=>
   cases h2:asB x with
   | none=>simp [afS,h1,h2] at h
   | some t=>
    have hx:=JG h2
    subst hx
    refine ⟨ρ,_,en,h1,fun v H1 s1 r1=>⟨t,r1,?_⟩⟩
    cases t with
    | true=>rw [if_pos rfl]; exact ⟨ρ,d,en.mono s1,by simpa [afS,h1,h2] using h,fun v H2 s2 r2=>k v H2 (s1.trans s2) r2⟩
    | false=>
     rw [if_neg Bool.false_ne_true]
     have:PyData.bool false=d:=by simpa [afS,h1,h2] using h
     subst this
     exact k _ H1 s1 rfl
noncomputable def alq:PyData->Bool
 | .none=>true
 | _=>false
theorem afT {K:PySem.W.Frag}{H:Hp}{p:PyData}{x:V} (r:Rep K H p x):decide (x= .non)=alq p:=by
 cases p with
 | none=>cases (show x= .non from r); rfl
 | bool b=>cases (show x=_ from r); rfl
 | int b=>cases (show x=_ from r); rfl
 | str b=>cases (show x=_ from r); rfl
 | tuple ds=>obtain ⟨a,xs,h,_⟩:=r; subst h; rfl
 | list ds=>obtain ⟨a,xs,h,_⟩:=r; subst h; rfl
 | dict ds=>obtain ⟨a,h,_⟩:=r; subst h; rfl
noncomputable def ajA (p q:PyData):Option PyData:=match q with
 | .none=>some (.bool (alq p))
 | _=>none
noncomputable def aiv (p q:PyData):Option PyData:=match q with
 | .none=>some (.bool (!alq p))
 | _=>none
theorem aiw:OpD X (compareOp .Is) ajA:=by
 refine ⟨_,apd,fun p q d x y H Q h rx ry k=>?_⟩
 unfold ajA at h
 split at h
 ·cases h
  exact ⟨ry,by rw [afT rx]; exact k _ H (jt.refl H) rfl⟩
 ·cases h
theorem alr:OpD X (compareOp .IsNot) aiv:=by
 refine ⟨_,amX,fun p q d x y H Q h rx ry k=>?_⟩
 unfold aiv at h
 split at h
 ·cases h
  exact ⟨ry,by rw [afT rx]; exact k _ H (jt.refl H) rfl⟩
 ·cases h
end
section
variable {X:Cx}{e a b c tg src:Expr}{es:List Expr}{fa fb fc:Rho->Option PyData}{pos:Pos}
noncomputable def als (c d:Option PyData):Option PyData:=match c,d with
 | some (.list ds),some (.list es)=>if noLs es=true/\ds.length+es.length < 1000000 then some (.list (ds++es)) else none
 | _,_=>none
noncomputable def aaH (i:Nat) (fa:Rho->Option PyData):Rho->Option PyData:=fun ρ=>als (lkp i ρ) (fa ρ)
theorem alu {c d:Option PyData}{r:PyData} (h:als c d=some r):∃ ds es,c=some (.list ds)/\d=some (.list es)/\noLs es=true/\ds.length+es.length < 1000000/\r= .list (ds++es):=by
 unfold als at h
 split at h
 ·split at h
  ·rename_i hc
   cases h
   exact ⟨_,_,rfl,rfl,hc.1,hc.2,rfl⟩
  ·cases h
 ·cases h
theorem adU (i:Nat) {x:Str}{p1 apos cpos:Pos} (h:PD X e fa) (hN:X.N[i]?=some x:=by rfl) (hv:Vis X.env.scope x:=by first | exact Or.inl rfl | exact Or.inr (Or.inl rfl) | exact Or.inr (Or.inr rfl)) (hd:(x == ("__debug__":Str))=false:=by decide)
  (hcd:(x == ("__classdict__":Str))=false:=by decide) (hbase:attributeBase (.Name x p1) "extend" X.env (eval (.Name x p1) X.env)=eval (.Name x p1) X.env:=by rfl)
  (hfew:((backTo cpos (starEach [e] X.env)).all (fun x=>!x.1) && (backToKw cpos (keywordEach [] X.env)).all (fun x=>x.1.isSome) && decide ([e].length+([]:List Keyword).length+(if ([]:List Keyword).isEmpty then 0 else 1) < 30))=true:=by rfl)
  (hline:(apos.endLine == cpos.line)=true:=by rfl) (hs:starEach [e] X.env=(false,eval e X.env)::starEach [] X.env:=by rfl) (hplain:(backTo cpos (starEach [] X.env)).any (·.1)=false:=by rfl):
  PE X (.Call (.Attribute (.Name x p1) "extend" apos) [e] [] cpos) (apA X.prog X.w X.K i (aaH i fa)):=by
 with_unfolding_all
  intro pins s σ H Q I ⟨Hs,ρ,d',E,hg,k⟩
  obtain ⟨ds,es,q1,q2,hn,hl,rfl⟩:=alu hg
  obtain ⟨a,xs,g2,g3,g4,g5,env⟩:=E.opnL (qE q1)
  have hlen:=g5.length
  have W:=afD (X:=X) (cpos:=cpos) (apos:=apos) PySem.F.plainAttrs_list PySem.F.slot_list_extend PySem.F.type_list_extend ajd (abc hN hv hd hcd) (qM h Jl hs) hbase hfew hline hs hplain
  refine thn (W pins s σ (upd H a (.lst xs)) (fun v H4=>∃ H3 zs,v= .non/\H4=upd H3 a (.lst (xs++zs))/\jt (upd H a (.lst xs)) H3/\Reps X.K H3 es zs) (Inv.opened I (.l xs) g4)
   ⟨.ref a,g2,.inl ⟨rfl,_,SqL.of jp⟩,ρ,.list es,env,q2,fun y H3 s3 r3=>?_⟩) fun u s1 ⟨v,H4,I4,r,H3,zs,e1,e2,s3,r3⟩=>?_
  ·obtain ⟨b,zs,z1,z2,z3⟩:=r3
   have hz:=z3.length
   exact ⟨a,b,xs,zs,rfl,by rw [z1],s3 _ _ jp,z2,by rw [hlen,hz]; exact Nat.le_of_lt (aam hl),H3,zs,rfl,rfl,s3,z3⟩
  subst e1
  have e4:H4 a=some (.lst (xs++zs)):=by rw [e2]; exact jp
  have sb:∀ b u,b ≠ a->H b=some u->H4 b=some u:=fun b u n q=>by rw [e2,jo n]; exact s3 b u (by rw [jo n]; exact q)
  refine ⟨.non,upd H4 a (zG a (xs++zs)),Inv.closed I4 (.l _) e4 (Inv.nofrz I g4),r,k _ (E.put (qE q1) g2 g3 g4 sb ⟨xs++zs,jp,?_⟩)⟩
  have s5:jQ H (upd H4 a (zG a (xs++zs))):=fun b u q m=>by
   have:b ≠ a:=fun z=>by subst z; rw [g4] at q; cases q; exact m _ rfl
   rw [jo this]; exact sb b u this q
  have s6:zR H3 (upd H4 a (zG a (xs++zs))):=fun b u q m=>by
   have e3:H3 a=some (.lst xs):=s3 _ _ jp
   have:b ≠ a:=fun z=>by subst z; rw [e3] at q; cases q; exact m _ rfl
   rw [jo this,e2,jo this]; exact q
  exact (Reps.monoE s5 _ _ g5).append (Reps.monoN s6 _ _ hn r3)
end
section
variable {X:Cx}{e a b c tg src:Expr}{es:List Expr}{fa fb fc:Rho->Option PyData}{pos:Pos}
noncomputable def aqS:V->V->V->Hp->(Hp->Prop)->Prop:=fun o k v H Q=>∃ a xs n j,o= .ref a/\k= .int n/\H a=some (zG a xs)/\ixN xs.length n=some j/\Q (upd H a (zG a (xs.set j v)))
theorem alv:amU X aqS:=by
 intro pins s σ H o k v ov iv u Q I ro rk rv ⟨a,xs,n,j,e1,e2,h1,h2,q⟩
 subst e1; subst e2
 refine thn (akH pins s σ (upd H a (.lst xs)) (.ref a) (.int n) v ov iv u (fun H'=>H'=upd (upd H a (.lst xs)) a (.lst (xs.set j v))) (Inv.opened I (.l xs) h1) ro rk rv ⟨a,xs,n,j,rfl,rfl,jp,h2,rfl⟩) fun _ s1 ⟨H',I',e⟩=>?_
 subst e
 have I2:=Inv.closed I' (.l (xs.set j v)) jp (Inv.nofrz I h1)
 rw [Jr,Jr] at I2
 exact ⟨_,I2,q⟩
noncomputable def ajB (c v k:Option PyData):Option PyData:=match c,v,k with
 | some (.list ds),some d,some (.int n)=>(ixN ds.length n).map fun j=> .list (ds.set j d)
 | _,_,_=>none
theorem alw {c v k:Option PyData}{o:PyData} (h:ajB c v k=some o):∃ ds d n j,c=some (.list ds)/\v=some d/\k=some (.int n)/\ixN ds.length n=some j/\o= .list (ds.set j d):=by
 unfold ajB at h
 split at h
 ·rename_i ds d n
  cases q:ixN ds.length n with
  | none=>rw [q] at h; cases h
  | some j=>rw [q] at h; cases h; exact ⟨_,_,_,_,rfl,rfl,rfl,q,rfl⟩
 ·cases h
theorem Reps.set {K:PySem.W.Frag}{H:Hp}{d:PyData}{v:V} (r:Rep K H d v):∀ {ds:List PyData}{xs:List V} (j:Nat),Reps K H ds xs->Reps K H (ds.set j d) (xs.set j v)
 | [],xs,j,h=>by cases (show xs=[] from h); exact rfl
 | _::ds,xs,0,⟨x,q,h1,h2,h3⟩=>by subst h1; exact ⟨v,q,rfl,r,h3⟩
 | _::ds,xs,j+1,⟨x,q,h1,h2,h3⟩=>by subst h1; exact ⟨x,_,rfl,h2,Reps.set r j h3⟩
noncomputable def QM (ds:List PyData):Option PyData:=match ds with
 | [.list xs]=>some (.list xs)
 | [.tuple xs]=>some (.list xs)
 | _=>none
noncomputable def ahv (ds:List PyData):Option PyData:=match ds with
 | [.list xs]=>some (.tuple xs)
 | [.tuple xs]=>some (.tuple xs)
 | _=>none
theorem alx:Q1 X (.type "tuple") ahv:=by
 refine ⟨_,adk,fun ds d xs H Q h r k=>?_⟩
 unfold ahv at h
 split at h
 ·cases h
  obtain ⟨x,q,e1,e2,e3⟩:=r
  cases (show q=[] from e3)
  obtain ⟨a,us,g1,g2,g3⟩:=e2
  subst g1
  refine ⟨a,us,e1,.inl ⟨SqL.of g2,fun l hl=>?_⟩⟩
  have s1:=jA (o:= .tup us) hl
  exact k _ _ s1 ⟨l,us,rfl,SqT.of jp,Reps.mono s1 _ _ g3⟩
 ·cases h
  obtain ⟨x,q,e1,e2,e3⟩:=r
  cases (show q=[] from e3)
  obtain ⟨a,us,g1,g2,g3⟩:=e2
  subst g1
  exact ⟨a,us,e1,.inr ⟨g2,k _ H (jt.refl H) ⟨a,us,rfl,g2,g3⟩⟩⟩
 ·cases h
theorem ajC {p:Pos}{fr:Rho->Option (List PyData)} (hm:X.mg "list"=none) (hv:bootBuiltins "list"=some (.type "list")) (ha:PAD X [e] fr) (hg:Gl X "list":=by rfl)
  (he:starEach [e] X.env=(false,eval e X.env)::starEach [] X.env:=by rfl) (hpl:(backTo pos (starEach [] X.env)).any (·.1)=false:=by rfl):PN X (.Call (.Name "list" p) [e] [] pos) (jM QM fr):=by
 with_unfolding_all
  intro pins s σ H Q I ⟨ρ,d,en,hf,k⟩
  cases h1:fr ρ with
  | none=>simp [jM,h1] at hf
  | some as=>
   have q':QM as=some d:=by simpa [jM,h1] using hf
   have W:=adE (X:=X) (pos:=pos) (p:=p) aaz hg hm hv ha (by decide) (by decide) he hpl
   refine thn (W pins s σ H (fun v H2=>∃ a ys H1 ds,v= .ref a/\H1 a=none/\jt H H1/\H2=upd H1 a (.lst ys)/\d= .list ds/\Reps X.K H1 ds ys) I ⟨ρ,as,en,h1,fun vs H1 s1 r1=>?_⟩) fun u s1 ⟨v,H2,I2,r,a,ys,H1,ds,e1,e2,s1',e3,e0,r1⟩=>?_
   ·unfold QM at q'
    split at q'
    ·cases q'
     obtain ⟨x,q,z1,z2,z3⟩:=r1
     cases (show q=[] from z3)
     obtain ⟨a,us,g1,g2,g3⟩:=z2
     subst g1
     exact ⟨a,us,z1,.inl (SqL.of g2),fun l hl=>⟨l,us,H1,_,rfl,hl,s1,rfl,rfl,g3⟩⟩
    ·cases q'
     obtain ⟨x,q,z1,z2,z3⟩:=r1
     cases (show q=[] from z3)
     obtain ⟨a,us,g1,g2,g3⟩:=z2
     subst g1
     exact ⟨a,us,z1,.inr g2,fun l hl=>⟨l,us,H1,_,rfl,hl,s1,rfl,rfl,g3⟩⟩
    ·cases q'
   ·subst e1; subst e0
    have e4:H2 a=some (.lst ys):=by rw [e3]; exact jp
    have e5:upd H2 a (zG a ys)=upd H1 a (zG a ys):=by rw [e3,Jr]
    have s2:jt H1 (upd H2 a (zG a ys)):=by rw [e5]; exact jA e2
    exact ⟨.ref a,_,Inv.closed I2 (.l ys) e4 (fun ob u z=>by have:=I.base.frzs _ _ _ z; rw [s1'.free e2] at this; cases this),r,k a _ (s1'.trans s2) (s1'.free e2) ⟨ys,jp,Reps.mono s2 _ _ r1⟩⟩
end
section
variable {X:Cx}{e a b c:Expr}{fa fb fc:Rho->Option PyData}{pos p2:Pos}
noncomputable def adp (ds:List PyData) (lo hi:Option Int):List PyData:=(ds.drop (HT.sIx ds.length 0 lo)).take (HT.sIx ds.length ds.length hi - HT.sIx ds.length 0 lo)
noncomputable def inI:PyData->Option Int
 | .int i=>some i
 | _=>none
theorem afU {d:PyData}{i:Int} (h:inI d=some i):d= .int i:=by cases d <;> simp [inI] at h; rw [h]
end
section
variable {prog:Program}{w:World}{A:Around}{E:Value->Shared->Prop}{s:Shared}
noncomputable def ItA (g:Bool) (h:Heap) (i t:Addr) (k:Nat):Prop:=match g with
 | true=>h.IsListIter i t k
 | false=>h.IsTupleIter i t k
noncomputable def SrA (g:Bool) (h:Heap) (t:Addr) (xs:Array Value):Prop:=match g with
 | true=>h.IsList t xs
 | false=>h.IsTuple t xs
theorem ItA.to {g:Bool}{h h':Heap}{i t:Addr}{k:Nat} (x:ItA g h i t k) (kp:∀ o,h.get? i=some o->h'.get? i=some o):ItA g h' i t k:=by
 cases g <;> exact (let ⟨o,e,r⟩:=x; ⟨o,kp o e,r⟩)
theorem SrA.to {g:Bool}{h h':Heap}{t:Addr}{xs:Array Value} (x:SrA g h t xs) (kp:∀ o,h.get? t=some o->h'.get? t=some o):SrA g h' t xs:=by
 cases g <;> exact (let ⟨o,e,r⟩:=x; ⟨o,kp o e,r⟩)
theorem ItA.extBut {g:Bool}{h h':Heap}{i t b:Addr}{k:Nat} (x:ItA g h i t k) (e:Heap.ExtBut b h h') (n:i ≠ b):ItA g h' i t k:=x.to fun o q=>e i o n q
theorem SrA.extBut {g:Bool}{h h':Heap}{t b:Addr}{xs:Array Value} (x:SrA g h t xs) (e:Heap.ExtBut b h h') (n:t ≠ b):SrA g h' t xs:=x.to fun o q=>e t o n q
theorem ItA.obj {g:Bool}{h:Heap}{i t:Addr}{k:Nat} (x:ItA g h i t k):∃ o vs,h.get? i=some o/\o.data= .fields vs:=by
 cases g <;> exact (let ⟨o,e,_,d⟩:=x; ⟨o,_,e,d⟩)
theorem QN {g:Bool}{it t:Addr}{i:Nat}{ys:Array Value}{x:Value}{Q:Value->Shared->Prop} (hit:ItA g s.heap it t i) (ht:SrA g s.heap t ys) (hx:ys[i]?=some x)
  (hQ:∀ h',ItA g h' it t (i+1)->Heap.SameBut it s.heap h'->Q x { s with heap:=h' }):wpAny (model prog w) A (Builtin.SmallTypes.nextOf (.ref it)) Q E s:=by
 cases g with
 | true=>exact wpAny_nextOf_list_item hit ht hx hQ
 | false=>exact QJ hit ht hx hQ
theorem ZJ {g:Bool}{it t:Addr}{i:Nat}{ys:Array Value}{Q:Value->Shared->Prop} (hh:A.handled=none) (hit:ItA g s.heap it t i) (ht:SrA g s.heap t ys) (hx:ys[i]?=none)
  (hE:∀ h' e,Heap.ExtBut it s.heap h'->(∃ o,h'.get? e=some o/\o.cls= .type "StopIteration")->E (.ref e) { s with heap:=h' }):wpAny (model prog w) A (Builtin.SmallTypes.nextOf (.ref it)) Q E s:=by
 cases g with
 | true=>exact wpAny_nextOf_list_end hh hit ht hx hE
 | false=>exact adN hh hit ht hx hE
theorem acM {T:Addr}{a b x:Value}{k:Nat}{Q:Unit->Shared->Prop} (hT:IsPair s.heap T a b)
  (h:∀ h',h'.get? T=some { cls:= .type "tuple",data:= .seq ((#[a,b]:Array Value).setIfInBounds k x) }->Heap.SameBut T s.heap h'->Q () { s with heap:=h' }):
  wpAny (model prog w) A (updateSeq T (·.setIfInBounds k x)) Q E s:=by
 refine wpAny_updateSeq hT rfl (h _ ?_ (Heap.SameBut.update ..))
 rw [Heap.get?_update_self _ hT rfl]
 simp [Obj.mapSeq]
structure Apart2 (z TI TO i1 i2 t1 t2:Addr):Prop where
 nd:[z,TO,i1,i2].Nodup
 ti:TI ∉ [z,TO,i1,i2]
 s1:t1 ∉ [z,TO,i1,i2]
 s2:t2 ∉ [z,TO,i1,i2]
structure Zip2 (ga gb:Bool) (h:Heap) (z TI TO i1 i2 t1 t2:Addr) (f0:Value) (k:Nat):Prop where
 hz:IsZip h z TI TO f0
 hTI:IsPair h TI (.ref i1) (.ref i2)
 hTO:∃ a b,IsPair h TO a b
 g1:ItA ga h i1 t1 k
 g2:ItA gb h i2 t2 k
theorem Zip2.keep {ga gb:Bool}{h h':Heap}{z TI TO i1 i2 t1 t2:Addr}{f0:Value}{k:Nat} (S:Zip2 ga gb h z TI TO i1 i2 t1 t2 f0 k) (kp:∀ b ∈ [z,TI,TO,i1,i2],∀ o,h.get? b=some o->h'.get? b=some o):
  Zip2 ga gb h' z TI TO i1 i2 t1 t2 f0 k:=by
 obtain ⟨hz,hTI,⟨a,b,hTO⟩,g1,g2⟩:=S
 exact ⟨kp z (by simp) _ hz,kp TI (by simp) _ hTI,⟨a,b,kp TO (by simp) _ hTO⟩,g1.to (kp i1 (by simp)),g2.to (kp i2 (by simp))⟩
theorem ajD {ga gb:Bool}{z TI TO i1 i2 t1 t2:Addr}{xs ys:Array Value}{k:Nat}{x y:Value}{Q:Value->Shared->Prop} (D:Apart2 z TI TO i1 i2 t1 t2) (S:Zip2 ga gb s.heap z TI TO i1 i2 t1 t2 .none k)
  (a1:SrA ga s.heap t1 xs) (a2:SrA gb s.heap t2 ys) (hx:xs[k]?=some x) (hy:ys[k]?=some y)
  (hQ:∀ h',Zip2 ga gb h' z TI TO i1 i2 t1 t2 (rawInt s.heap.objs.size) (k+1)->IsPair h' s.heap.objs.size x y->But [z,TO,i1,i2] s.heap h'->Q (.ref s.heap.objs.size) { s with heap:=h' }):
  wpAny (model prog w) A (Builtin.«zip.__next__» ⟨[.ref z],[]⟩) (fun fin s'=>∃ v,fin= .done (.ret v)/\Q v s') E s:=by
 obtain ⟨hz,hTI,⟨a,b,hTO⟩,g1,g2⟩:=S
 obtain ⟨nd,ti,s1,s2⟩:=D
 simp only [List.nodup_cons,List.mem_cons,List.not_mem_nil,or_false,not_or] at nd ti s1 s2
 obtain ⟨⟨n1,n2,n3⟩,⟨n5,n6⟩,n8,_⟩:=nd
 obtain ⟨t1z,t1o,t11,t12⟩:=s1
 obtain ⟨t2z,t2o,t21,t22⟩:=s2
 obtain ⟨tiz,tio,ti1,ti2⟩:=ti
 refine wpAny_bind (m:=field (.ref z) 2) (wpAny_field hz rfl (x:= .bool false) rfl ?_)
 refine wpAny_bind (m:=field (.ref z) 3) (wpAny_field hz rfl (x:= .ref TI) rfl ?_)
 refine wpAny_bind (wpAny_seqItems hTI rfl ?_)
 refine wpAny_bind (m:=Builtin.SmallTypes.ownedTupleIsFree (.ref z)) ?_
 unfold Builtin.SmallTypes.ownedTupleIsFree
 refine wpAny_bind (wpAny_field hz rfl (x:= .none) rfl (wpAny_pure ?_))
 simp only [zzM]
 refine wpAny_bind (wpAny_rule ?_)
 refine wpAny_bind (wpAny_field hz rfl (x:= .ref TO) rfl ?_)
 refine wpAny_bind (wpAny_setField_rec hz (by simp) fun h1 hz1 b1=>?_)
 replace hz1:IsZip h1 z TI TO .ellipsis:=hz1
 refine wpAny_bind ?_
 simp only [List.zipIdx_cons,List.zipIdx_nil,List.forIn_cons,List.forIn_nil]
 refine wpAny_bind (wpAny_bind (wpAny_onRaise ?_))
 refine wpAny_bind (m:=Builtin.SmallTypes.nextOf (.ref i1)) ?_
 refine QN (g1.extBut b1.extBut (Ne.symm n2)) (a1.extBut b1.extBut t1z) hx fun h2 g1' b2=>wpAny_pure ?_
 have o2:IsPair h2 TO a b:=b2.extBut _ _ n5 (b1.extBut _ _ (Ne.symm n1) hTO)
 refine wpAny_bind (wpAny_seqItems o2 rfl ?_)
 refine wpAny_bind (acM o2 fun h3 o3 b3=>?_)
 replace o3:IsPair h3 TO x b:=o3
 refine wpAny_bind (wpAny_letGo (wpAny_pure ?_))
 refine wpAny_bind (wpAny_bind (wpAny_onRaise ?_))
 refine wpAny_bind (m:=Builtin.SmallTypes.nextOf (.ref i2)) ?_
 refine QN (((g2.extBut b1.extBut (Ne.symm n3)).extBut b2.extBut (Ne.symm n8)).extBut b3.extBut (Ne.symm n6)) (((a2.extBut b1.extBut t2z).extBut b2.extBut t21).extBut b3.extBut t2o) hy fun h4 g2' b4=>wpAny_pure ?_
 have o4:IsPair h4 TO x b:=b4.extBut _ _ n6 o3
 refine wpAny_bind (wpAny_seqItems o4 rfl ?_)
 refine wpAny_bind (acM o4 fun h7 o7 b7=>?_)
 replace o7:IsPair h7 TO x y:=o7
 refine wpAny_bind (wpAny_letGo (wpAny_pure (wpAny_pure ?_)))
 refine wpAny_bind (wpAny_seqItems o7 rfl ?_)
 refine wpAny_bind (wpAny_newTuple ?_)
 have sz:h7.objs.size=s.heap.objs.size:=by rw [b7.1,b4.1,b3.1,b2.1,b1.1]
 have B:But [z,TO,i1,i2] s.heap h7:=
  ((((But.of b1.extBut (by simp)).trans (But.of b2.extBut (by simp))).trans (But.of b3.extBut (by simp))).trans (But.of b4.extBut (by simp))).trans (But.of b7.extBut (by simp))
 have z7:IsZip h7 z TI TO .ellipsis:=b7.extBut _ _ n1 (b4.extBut _ _ n3 (b3.extBut _ _ n1 (b2.extBut _ _ n2 hz1)))
 have i17:ItA ga h7 i1 t1 (k+1):=((g1'.extBut b3.extBut (Ne.symm n5)).extBut b4.extBut n8).extBut b7.extBut (Ne.symm n5)
 have i27:ItA gb h7 i2 t2 (k+1):=g2'.extBut b7.extBut (Ne.symm n6)
 refine wpAny_bind (m:=Builtin.SmallTypes.ownedTupleHandOut (.ref z) (.ref h7.objs.size)) ?_
 unfold Builtin.SmallTypes.ownedTupleHandOut
 have z8:IsZip (h7.push { cls:= .type "tuple",data:= .seq #[x,y] }) z TI TO .ellipsis:=Heap.get?_push_of_some _ z7
 refine wpAny_bind (wpAny_setField_rec z8 (by simp) fun h9 z9 b9=>?_)
 replace z9:IsZip h9 z TI TO (rawInt h7.objs.size):=z9
 refine wpAny_setField_rec z9 (by simp) fun h10 z10 b10=>?_
 replace z10:IsZip h10 z TI TO (rawInt h7.objs.size):=z10
 have up:∀ c o,c ≠ z->h7.get? c=some o->h10.get? c=some o:=fun c o c1 e=>b10.extBut _ _ c1 (b9.extBut _ _ c1 (Heap.get?_push_of_some _ e))
 have zlt:z < h7.objs.size:=Heap.lt_size z7
 have T10:IsPair h10 h7.objs.size x y:=b10.extBut _ _ (Nat.ne_of_gt zlt) (b9.extBut _ _ (Nat.ne_of_gt zlt) (Heap.get?_push_size _ rfl))
 rw [sz] at z10 T10
 refine wpAny_pure ⟨_,rfl,?_⟩
 show Q (.ref h7.objs.size) _
 rw [sz]
 refine hQ h10 ⟨z10,up _ _ tiz (B _ _ (by simp [tiz,tio,ti1,ti2]) hTI),⟨x,y,up _ _ (Ne.symm n1) o7⟩,i17.to fun o=>up _ o (Ne.symm n2),i27.to fun o=>up _ o (Ne.symm n3)⟩ T10 fun c o hc e=>up c o (fun q=>hc (by simp [q])) (B c o hc e)
theorem aly {ga gb:Bool}{z TI TO i1 i2 t1 t2:Addr}{xs ys:Array Value}{k:Nat}{Q:Fin->Shared->Prop} (hh:A.handled=none) (D:Apart2 z TI TO i1 i2 t1 t2) (S:Zip2 ga gb s.heap z TI TO i1 i2 t1 t2 .none k)
  (a1:SrA ga s.heap t1 xs) (a2:SrA gb s.heap t2 ys) (hx:xs[k]?=none ∨ ys[k]?=none)
  (hE:∀ h' e,But [z,TO,i1,i2] s.heap h'->(∃ o,h'.get? e=some o/\o.cls= .type "StopIteration")->E (.ref e) { s with heap:=h' }):
  wpAny (model prog w) A (Builtin.«zip.__next__» ⟨[.ref z],[]⟩) Q E s:=by
 obtain ⟨hz,hTI,⟨a,b,hTO⟩,g1,g2⟩:=S
 obtain ⟨nd,ti,s1,s2⟩:=D
 simp only [List.nodup_cons,List.mem_cons,List.not_mem_nil,or_false,not_or] at nd ti s1 s2
 obtain ⟨⟨n1,n2,n3⟩,⟨n5,n6⟩,n8,_⟩:=nd
 obtain ⟨t2z,t2o,t21,t22⟩:=s2
 refine wpAny_bind (m:=field (.ref z) 2) (wpAny_field hz rfl (x:= .bool false) rfl ?_)
 refine wpAny_bind (m:=field (.ref z) 3) (wpAny_field hz rfl (x:= .ref TI) rfl ?_)
 refine wpAny_bind (wpAny_seqItems hTI rfl ?_)
 refine wpAny_bind (m:=Builtin.SmallTypes.ownedTupleIsFree (.ref z)) ?_
 unfold Builtin.SmallTypes.ownedTupleIsFree
 refine wpAny_bind (wpAny_field hz rfl (x:= .none) rfl (wpAny_pure ?_))
 simp only [zzM]
 refine wpAny_bind (wpAny_rule ?_)
 refine wpAny_bind (wpAny_field hz rfl (x:= .ref TO) rfl ?_)
 refine wpAny_bind (wpAny_setField_rec hz (by simp) fun h1 hz1 b1=>?_)
 replace hz1:IsZip h1 z TI TO .ellipsis:=hz1
 refine wpAny_bind ?_
 simp only [List.zipIdx_cons,List.zipIdx_nil,List.forIn_cons,List.forIn_nil]
 refine wpAny_bind (wpAny_bind (wpAny_onRaise ?_))
 refine wpAny_bind (m:=Builtin.SmallTypes.nextOf (.ref i1)) ?_
 cases hx1:xs[k]? with
 | none=>
  refine ZJ hh (g1.extBut b1.extBut (Ne.symm n2)) (a1.extBut b1.extBut s1.1) hx1 fun h2 e b2 he=>?_
  obtain ⟨oe,ho,hc⟩:=he
  have z2:IsZip h2 z TI TO .ellipsis:=b2 _ _ n2 hz1
  have ez:e ≠ z:=fun q=>by subst q; rw [z2] at ho; cases ho; simp at hc
  refine wpAny_setField_rec z2 (by simp) fun h3 _ b3=>?_
  exact hE h3 e (((But.of b1.extBut (by simp)).trans (But.of b2 (by simp))).trans (But.of b3.extBut (by simp))) ⟨oe,b3.extBut _ _ ez ho,hc⟩
 | some x=>
  have hy:ys[k]?=none:=hx.resolve_left (by rw [hx1]; simp)
  refine QN (g1.extBut b1.extBut (Ne.symm n2)) (a1.extBut b1.extBut s1.1) hx1 fun h2 g1' b2=>wpAny_pure ?_
  have o2:IsPair h2 TO a b:=b2.extBut _ _ n5 (b1.extBut _ _ (Ne.symm n1) hTO)
  refine wpAny_bind (wpAny_seqItems o2 rfl ?_)
  refine wpAny_bind (acM o2 fun h3 o3 b3=>?_)
  refine wpAny_bind (wpAny_letGo (wpAny_pure ?_))
  refine wpAny_bind (wpAny_bind (wpAny_onRaise ?_))
  refine wpAny_bind (m:=Builtin.SmallTypes.nextOf (.ref i2)) ?_
  refine ZJ hh (((g2.extBut b1.extBut (Ne.symm n3)).extBut b2.extBut (Ne.symm n8)).extBut b3.extBut (Ne.symm n6)) (((a2.extBut b1.extBut t2z).extBut b2.extBut t21).extBut b3.extBut t2o) hy fun h4 e b4 he=>?_
  obtain ⟨oe,ho,hc⟩:=he
  have z4:IsZip h4 z TI TO .ellipsis:=b4 _ _ n3 (b3.extBut _ _ n1 (b2.extBut _ _ n2 hz1))
  have ez:e ≠ z:=fun q=>by subst q; rw [z4] at ho; cases ho; simp at hc
  refine wpAny_setField_rec z4 (by simp) fun h5 _ b5=>?_
  exact hE h5 e (((((But.of b1.extBut (by simp)).trans (But.of b2.extBut (by simp))).trans (But.of b3.extBut (by simp))).trans (But.of b4 (by simp))).trans (But.of b5.extBut (by simp))) ⟨oe,b5.extBut _ _ ez ho,hc⟩
end
noncomputable def Sq (g:Bool) (K:PySem.W.Frag) (H:Hp) (t:Addr) (xs:List V):Prop:=match g with
 | true=>SqL K H t xs
 | false=>SqT K H t xs
theorem Sq.inv {g:Bool}{X:Cx}{pins:List (Addr × Obj)}{σ:St}{H:Hp}{s:Shared}{a:Addr}{xs:List V} (q:Sq g X.K H a xs) (I:Inv X pins σ H s):∃ its:List Value,jI xs its/\SrA g s.heap a its.toArray:=by
 cases g with
 | true=>obtain ⟨its,r,p,_⟩:=I.list q; exact ⟨its,r,p.isList⟩
 | false=>obtain ⟨its,r,p,_⟩:=I.tuple q; exact ⟨its,r,p⟩
theorem Sq.inj {g:Bool}{X:Cx}{pins:List (Addr × Obj)}{σ:St}{H:Hp}{s:Shared}{a:Addr}{xs ys:List V} (I:Inv X pins σ H s) (q:Sq g X.K H a xs) (q':Sq g X.K H a ys):xs=ys:=by
 cases g with
 | true=>exact I.list_inj q q'
 | false=>exact I.tuple_inj q q'
theorem Sq.monoE {g:Bool}{K:PySem.W.Frag}{H H':Hp}{a:Addr}{xs:List V} (e:jQ H H') (h:Sq g K H a xs):Sq g K H' a xs:=by
 cases g with
 | true=>exact jQ.sql e h
 | false=>exact jQ.tup e h
theorem Sq.at {g:Bool}{K:PySem.W.Frag}{H:Hp}{a:Addr}{xs:List V} (h:Sq g K H a xs):(∃ u,H a=some u) ∨ ∃ o,K.lookup a=some o:=by
 cases g with
 | true=>rcases h with (e | ⟨o,e⟩) | ⟨o,its,n,hk,_⟩ <;> first | exact .inl ⟨_,e⟩ | exact .inr ⟨_,hk⟩
 | false=>rcases h with (e | ⟨o,e⟩) | ⟨o,its,n,hk,_⟩ <;> first | exact .inl ⟨_,e⟩ | exact .inr ⟨_,hk⟩
noncomputable def Itq (K:PySem.W.Frag) (ga gb:Bool) (t1 t2:Addr):It:=
 ⟨fun i H=>∃ xs ys x y,Sq ga K H t1 xs/\Sq gb K H t2 ys/\xs[i]?=some x/\ys[i]?=some y,
  fun i H u H'=>∃ p x y,u= .ref p/\H p=none/\H'=upd H p (.tup [x,y])/\∀ xs ys,Sq ga K H t1 xs->Sq gb K H t2 ys->xs[i]?=some x/\ys[i]?=some y,
  fun i H=>∃ xs ys,Sq ga K H t1 xs/\Sq gb K H t2 ys/\(xs.length<=i ∨ ys.length<=i)⟩
theorem ajE {P:Program}{w:World}{K:PySem.W.Frag}{elts:List Expr}{x1:Nat}{pos:Pos}{ga gb:Bool}{z TI TO i1 i2 t1 t2:Addr} (nd:[z,TO,i1,i2].Nodup) (ti:TI ∉ [z,TO,i1,i2]):
  Turn P w K (.Tuple elts x1 pos) (Itq K ga gb t1 t2) [z,TI,TO,i1,i2] z (fun i h=>Zip2 ga gb h z TI TO i1 i2 t1 t2 .none i) where
 mem:=by simp
 obj:=fun i h st b hb=>by
  obtain ⟨hz,hTI,⟨a,b',hTO⟩,g1,g2⟩:=st
  obtain ⟨o1,v1,e1,d1⟩:=g1.obj
  obtain ⟨o2,v2,e2,d2⟩:=g2.obj
  simp only [List.mem_cons,List.not_mem_nil,or_false] at hb
  rcases hb with rfl | rfl | rfl | rfl | rfl
  ·exact ⟨_,hz,fun v q=>by cases q⟩
  ·exact ⟨_,hTI,fun v q=>by cases q⟩
  ·exact ⟨_,hTO,fun v q=>by cases q⟩
  ·exact ⟨o1,e1,fun v q=>by rw [d1] at q; cases q⟩
  ·exact ⟨o2,e2,fun v q=>by rw [d2] at q; cases q⟩
 keep:=fun i h h' st k=>st.keep k
 item:=by
  intro X hP hw hK hc i pins s σ H E I hf st hg
  subst hP hw hK
  obtain ⟨xs,ys,x,y,q1,q2,ex,ey⟩:=hg
  obtain ⟨us1,r1,p1⟩:=q1.inv I
  obtain ⟨us2,r2,p2⟩:=q2.inv I
  obtain ⟨u1,m1,l1⟩:=r1.get ex
  obtain ⟨u2,m2,l2⟩:=r2.get ey
  have trk:∀ {g:Bool} {t:Addr} {ws:List V},Sq g X.K H t ws->t ∉ [z,TO,i1,i2]:=fun {g t ws} hq hb=>by
   have hb':t ∈ [z,TI,TO,i1,i2]:=by
    simp only [List.mem_cons,List.not_mem_nil,or_false] at hb ⊢
    rcases hb with e | e | e | e <;> simp [e]
   rcases hq.at with ⟨u,e⟩ | ⟨o,hk⟩
   ·have:=(hf t hb').1; rw [e] at this; cases this
   ·obtain ⟨f0,f1,f2,f3,f4,f5⟩:=hf t hb'
    have hbase:=I.mod.kin t o hk
    rcases f3 with q | q
    ·exact I.ok.noex t o hbase q
    ·exact absurd (Nat.lt_of_lt_of_le (Heap.lt_size hbase) (Nat.le_trans I.ok.bsz q)) (Nat.lt_irrefl _)
  have D:Apart2 z TI TO i1 i2 t1 t2:=⟨nd,ti,trk q1,trk q2⟩
  have hT:s.TypeIs (.ref z) "zip":=⟨_,st.hz,rfl⟩
  unfold pyNext
  refine wpAny_bind (wpAny_attempt (wpAny_callSpecial?_slot (name:=Str.ofString "__next__") hT F.slot_zip_next
   (wpAny_call_entry F.slot_zip_next hT F.entry_zip_next (ajD D st p1 p2 (by simpa using m1) (by simpa using m2) fun h1 S1 T1 B1=>wpAny_pure ?_)
    (F.args_zip_next_1 _))))
  refine ⟨_,rfl,?_⟩
  refine wpAny_letOwnedTupleGo_zip (s:={ s with heap:=h1 }) S1.hz fun h2 z2' b2=>?_
  have nT:H s.heap.objs.size=none:=I.hok.fresh (Nat.le_refl _)
  have zlt:z < s.heap.objs.size:=Heap.lt_size st.hz
  have T2:IsPair h2 s.heap.objs.size u1 u2:=b2.extBut _ _ (Nat.ne_of_gt zlt) T1
  have B2:But [z,TO,i1,i2] s.heap h2:=B1.trans (But.of b2.extBut (by simp))
  have inF:∀ b ∈ [z,TO,i1,i2],b ∈ [z,TI,TO,i1,i2]:=fun b hb=>by
   simp only [List.mem_cons,List.not_mem_nil,or_false] at hb ⊢
   rcases hb with e | e | e | e <;> simp [e]
  have ntr:∀ b u,H b=some u->b ∉ [z,TO,i1,i2]:=fun b u e hb=>by
   have:=(hf b (inF b hb)).1
   rw [e] at this; cases this
  have neT:∀ b u,H b=some u->b ≠ s.heap.objs.size:=fun b u e q=>by rw [q,nT] at e; cases e
  have hok2:HOk X.prog X.w (upd H s.heap.objs.size (.tup [x,y])) h2:=fun b u e=>by
   by_cases hb:b=s.heap.objs.size
   ·subst hb
    rw [jp] at e
    cases e
    exact ⟨by show 2<=sizeLine; rw [sizeLine_eq]; decide,[u1,u2],.cons l1 (.cons l2 .nil),⟨_,T2,rfl,_,rfl⟩⟩
   ·rw [jo hb] at e
    refine (I.hok b u e).stay (fun c o hc' q=>B2 c o ?_ q) (fun c q=>by rw [jo (neT c _ q)]; exact q) fun c ws q=>by rw [jo (neT c _ q)]; exact q
    rcases hc' with q' | q'
    ·rw [q']; exact ntr b u e
    ·exact ntr c _ q'
  have I2:Inv X pins σ (upd H s.heap.objs.size (.tup [x,y])) { s with heap:=h2,toks:=s.toks }:=by
   refine I.step (g':=s.gens) (d':=s.drawn) (ch:=[z,TO,i1,i2]) (fun b hb=>?_) (fun b o _ _ hb e _=>B2 b o hb e) (fun b o _ _ hb e _=>⟨o.slots,B2 b o hb e⟩) (fun b o hb e n=>?_) (fun b o hb e=>⟨o,B2 b o hb e⟩)
    (fun b ws e=>by rw [jo (neT b _ e)]; exact e) (fun b ob ws e=>by rw [jo (neT b _ e)]; exact e) (fun b ps e=>⟨#[],by rw [jo (neT b _ e),e]; simp⟩) (fun m hm=>?_) hok2 I.bare
   ·obtain ⟨f0,f1,f2,f3,f4,f5⟩:=hf b (inF b hb)
    exact ⟨f3,f1,f4,f5⟩
   ·rw [jo (Nat.ne_of_lt (Heap.lt_size e))]; exact n
   ·obtain ⟨o,es,ep,ho,r⟩:=hm
    refine ⟨o,es,ep,B2 _ o (fun hb=>?_) ho,r⟩
    exact (hf _ (inF _ hb)).2.1 rfl
  refine ⟨.ref s.heap.objs.size,_,I2,rfl,⟨_,x,y,rfl,nT,rfl,fun as bs g1 g2=>?_⟩,?_,fun b hb=>?_⟩
  ·rw [Sq.inj I g1 q1,Sq.inj I g2 q2]
   exact ⟨ex,ey⟩
  ·obtain ⟨_,hTI,⟨a,b,hTO⟩,g1,g2⟩:=S1
   simp only [List.nodup_cons,List.mem_cons,List.not_mem_nil,or_false,not_or] at nd ti
   obtain ⟨⟨n1,n2,n3⟩,_⟩:=nd
   exact ⟨z2',b2.extBut _ _ ti.1 hTI,⟨a,b,b2.extBut _ _ (Ne.symm n1) hTO⟩,g1.extBut b2.extBut (Ne.symm n2),g2.extBut b2.extBut (Ne.symm n3)⟩
  ·obtain ⟨o,ho,_⟩:∃ o,s.heap.get? b=some o/\True:=by
    obtain ⟨hz,hTI,⟨a,b',hTO⟩,g1,g2⟩:=st
    obtain ⟨o1,v1,e1,d1⟩:=g1.obj
    obtain ⟨o2,v2,e2,d2⟩:=g2.obj
    simp only [List.mem_cons,List.not_mem_nil,or_false] at hb
    rcases hb with rfl | rfl | rfl | rfl | rfl
    ·exact ⟨_,hz,trivial⟩
    ·exact ⟨_,hTI,trivial⟩
    ·exact ⟨_,hTO,trivial⟩
    ·exact ⟨_,e1,trivial⟩
    ·exact ⟨_,e2,trivial⟩
   rw [jo (Nat.ne_of_lt (Heap.lt_size ho))]
   exact (hf b hb).1
 done:=by
  intro X hP hw hK hc i pins s σ H E I hf st hg
  subst hP hw hK
  obtain ⟨xs,ys,q1,q2,hl⟩:=hg
  obtain ⟨us1,r1,p1⟩:=q1.inv I
  obtain ⟨us2,r2,p2⟩:=q2.inv I
  have trk:∀ {g:Bool} {t:Addr} {ws:List V},Sq g X.K H t ws->t ∉ [z,TO,i1,i2]:=fun {g t ws} hq hb=>by
   have hb':t ∈ [z,TI,TO,i1,i2]:=by
    simp only [List.mem_cons,List.not_mem_nil,or_false] at hb ⊢
    rcases hb with e | e | e | e <;> simp [e]
   rcases hq.at with ⟨u,e⟩ | ⟨o,hk⟩
   ·have:=(hf t hb').1; rw [e] at this; cases this
   ·obtain ⟨f0,f1,f2,f3,f4,f5⟩:=hf t hb'
    have hbase:=I.mod.kin t o hk
    rcases f3 with q | q
    ·exact I.ok.noex t o hbase q
    ·exact absurd (Nat.lt_of_lt_of_le (Heap.lt_size hbase) (Nat.le_trans I.ok.bsz q)) (Nat.lt_irrefl _)
  have D:Apart2 z TI TO i1 i2 t1 t2:=⟨nd,ti,trk q1,trk q2⟩
  have hT:s.TypeIs (.ref z) "zip":=⟨_,st.hz,rfl⟩
  have hlen:=r1.length
  have hlen2:=r2.length
  unfold pyNext
  refine wpAny_bind (wpAny_attempt (wpAny_callSpecial?_slot (name:=Str.ofString "__next__") hT F.slot_zip_next
   (wpAny_call_entry F.slot_zip_next hT F.entry_zip_next (aly (I.ok.hd hc) D st p1 p2 (hl.imp (fun h=>by simp; omega) fun h=>by simp; omega) fun h1 e B1 he=>?_)
    (F.args_zip_next_1 _))))
  obtain ⟨o,ho,hcl⟩:=he
  refine wpAny_bind (wpAny_isInstance (T:="StopIteration") (b:=true) ⟨o,ho,hcl⟩ isSubtype_stop ?_)
  refine wpAny_pure ⟨rfl,?_⟩
  have inF:∀ b ∈ [z,TO,i1,i2],b ∈ [z,TI,TO,i1,i2]:=fun b hb=>by
   simp only [List.mem_cons,List.not_mem_nil,or_false] at hb ⊢
   rcases hb with e | e | e | e <;> simp [e]
  have ntr:∀ b u,H b=some u->b ∉ [z,TO,i1,i2]:=fun b u e hb=>by
   have:=(hf b (inF b hb)).1
   rw [e] at this; cases this
  refine I.step (t':=s.toks) (g':=s.gens) (d':=s.drawn) (ch:=[z,TO,i1,i2]) (fun b hb=>?_) (fun b o _ _ hb e _=>B1 b o hb e) (fun b o _ _ hb e _=>⟨o.slots,B1 b o hb e⟩) (fun b o hb e n=>n) (fun b o hb e=>⟨o,B1 b o hb e⟩)
   (fun b ws e=>e) (fun b ob ws e=>e) (fun b ps e=>⟨#[],by rw [e]; simp⟩) (fun m hm=>?_) (fun b u e=>?_) I.bare
  ·obtain ⟨f0,f1,f2,f3,f4,f5⟩:=hf b (inF b hb)
   exact ⟨f3,f1,f4,f5⟩
  ·obtain ⟨o,es,ep,ho,r⟩:=hm
   refine ⟨o,es,ep,B1 _ o (fun hb=>?_) ho,r⟩
   exact (hf _ (inF _ hb)).2.1 rfl
  ·refine (I.hok b u e).stay (fun c o hc' q=>B1 c o ?_ q) (fun c q=>q) fun c ws q=>q
   rcases hc' with q' | q'
   ·rw [q']; exact ntr b u e
   ·exact ntr c _ q'
 self:=fun _ _ _ _ _ st h=>wpAny_pyIter_zip st.hz h
theorem adq (a b:Value):checkTypeCall "zip" ⟨[a,b],[]⟩=pure ():=by kernel_rfl
theorem aeO (a b:Value):checkBuiltinCall "zip.__new__" ⟨[.type "zip",a,b],[]⟩=pure ():=by kernel_rfl
theorem ahw (a b c:Value):argsOk "object.__init__" ⟨[a,b,c],[]⟩:=by
 unfold argsOk
 rw [signature?_of (id:="object.__init__") (n:=['_','_','t','i','n','i','_','_'])
  (o:=['t','c','e','j','b','o']) (by kernel_rfl) F.owner_object]
 kernel_rfl
noncomputable def itO (g:Bool) (t:Addr):Obj:=match g with
 | true=>{ cls:= .type "list_iterator",data:= .fields #[.ref t,.int 0 0] }
 | false=>{ cls:= .type "tuple_iterator",data:= .fields #[.ref t,.int 0 0] }
theorem aaI {g:Bool}{prog:Program}{w:World}{A:Around}{E:Value->Shared->Prop}{s:Shared}{l:Addr}{items:Array Value}{Q:Value->Shared->Prop} (h:SrA g s.heap l items)
  (q:Q (.ref s.heap.objs.size) { s with heap:=s.heap.push (itO g l) }):wpAny (model prog w) A (pyIter (.ref l)) Q E s:=by
 cases g with
 | true=>exact wpAny_pyIter_list h q
 | false=>exact wpAny_pyIter_tuple h q
theorem acN (g:Bool) (t:Addr):(itO g t).isFreed=false:=by cases g <;> rfl
theorem ahx {g:Bool}{h:Heap}{i t:Addr} (e:h.get? i=some (itO g t)):ItA g h i t 0:=by
 cases g <;> exact ⟨_,e,rfl,rfl⟩
noncomputable abbrev qh1 (ga:Bool) (h:Heap) (a:Addr):Heap:=h.push (itO ga a)
noncomputable abbrev qh2 (ga gb:Bool) (h:Heap) (a b:Addr):Heap:=(qh1 ga h a).push (itO gb b)
noncomputable abbrev qh4 (ga gb:Bool) (h:Heap) (a b:Addr):Heap:=(qh2 ga gb h a b).push { cls:= .type "tuple",data:= .seq #[.ref h.objs.size,.ref (qh1 ga h a).objs.size] }
noncomputable abbrev qh5 (ga gb:Bool) (h:Heap) (a b:Addr):Heap:=(qh4 ga gb h a b).push { cls:= .type "tuple",data:= .seq #[.none,.none] }
noncomputable abbrev qh6 (ga gb:Bool) (h:Heap) (a b:Addr):Heap:=(qh5 ga gb h a b).push { cls:= .type "zip",data:= .fields #[.none,.bool false,.bool false,.ref (qh2 ga gb h a b).objs.size,.ref (qh4 ga gb h a b).objs.size] }
theorem alz (ga gb:Bool) (a b:Addr) (xs ys:Array Value):
  Meets (Builtin.«zip.__new__» ⟨[.type "zip",.ref a,.ref b],[]⟩) (fun _ R s=>SrA ga s.heap a xs/\SrA gb s.heap b ys/\
   R (.ok (.ret (.ref (qh5 ga gb s.heap a b).objs.size))) { s with heap:=qh6 ga gb s.heap a b }):=
 .of_wp fun prog w A R s h=>by
  obtain ⟨hp,g,d,tk,os⟩:=s
  obtain ⟨h1,h2,h⟩:=h
  have hsub:=sub_zip
  have k1:SrA ga (Shared.heap ⟨hp,g,d,tk,os⟩) a xs:=h1
  have k2:SrA gb (Shared.heap ⟨qh1 ga hp a,g,d,tk,os⟩) b ys:=h2.to fun o e=>Heap.get?_push_of_some _ e
  wp_walk using aaI k1,aaI k2
  exact ⟨_,rfl,h⟩
section
variable {X:Cx}
noncomputable def aqT (K:PySem.W.Frag) (ta:TA):TI:=fun σ H R=>ta σ H fun vs H1=>∃ ga gb a b xs ys,vs=[.ref a,.ref b]/\Sq ga K H1 a xs/\Sq gb K H1 b ys/\R (Itq K ga gb a b) H1
theorem anA {ea eb:Expr}{elts:List Expr}{x1:Nat}{tp:Pos}{ta:TA}{p pos:Pos} (hg:Gl X "zip") (hm:X.mg "zip"=none) (ha:PA X [ea,eb] ta)
  (hs:starEach [ea,eb] X.env=[(false,eval ea X.env),(false,eval eb X.env)]:=by rfl) (hs2:starEach [eb] X.env=[(false,eval eb X.env)]:=by rfl):
  PI X (.Tuple elts x1 tp) (.Call (.Name "zip" p) [ea,eb] [] pos) (aqT X.K ta):=by
 intro pins s σ H R I h
 refine Call_ (Q9 I hg hm boot_zip (PyProof.Rows.callWith_type1 (thn (ha pos pins s σ H _ I h) fun us s1 ⟨vs,H1,I1,r1,q1⟩=>?_) (by rw [hs,hs2]) (by rw [hs2]; rfl)))
 obtain ⟨ga,gb,a,b,xs,ys,e,q1,q2,q⟩:=q1
 subst e
 cases r1 with
 | cons r1 rr=>
  cases rr with
  | cons r2 rr=>
   cases rr
   cases r1; cases r2
   obtain ⟨us1,v1,p1⟩:=q1.inv I1
   obtain ⟨us2,v2,p2⟩:=q2.inv I1
   refine callType_new F.called_zip (by decide) (adq _ _) (aeO _ _) (fun obj=>ahw obj _ _) F.entry_zip_new
    (alz ga gb a b us1.toArray us2.toArray) ⟨p1,p2,?_⟩
   have n1:(qh1 ga s1.heap a).objs.size=s1.heap.objs.size+1:=Heap.size_push ..
   have n2:(qh2 ga gb s1.heap a b).objs.size=s1.heap.objs.size+2:=by rw [Heap.size_push,n1]
   have n4:(qh4 ga gb s1.heap a b).objs.size=s1.heap.objs.size+3:=by rw [Heap.size_push,n2]
   have n5:(qh5 ga gb s1.heap a b).objs.size=s1.heap.objs.size+4:=by rw [Heap.size_push,n4]
   have g6:(qh6 ga gb s1.heap a b).get? (qh5 ga gb s1.heap a b).objs.size=some _:=Heap.get?_push_size _ rfl
   have g5:(qh6 ga gb s1.heap a b).get? (qh4 ga gb s1.heap a b).objs.size=some _:=Heap.get?_push_of_some _ (Heap.get?_push_size _ rfl)
   have g4:(qh6 ga gb s1.heap a b).get? (qh2 ga gb s1.heap a b).objs.size=some _:=Heap.get?_push_of_some _ (Heap.get?_push_of_some _ (Heap.get?_push_size _ rfl))
   have up3:∀ x o,(qh2 ga gb s1.heap a b).get? x=some o->(qh6 ga gb s1.heap a b).get? x=some o:=fun x o e=>Heap.get?_push_of_some _ (Heap.get?_push_of_some _ (Heap.get?_push_of_some _ e))
   have g2:(qh6 ga gb s1.heap a b).get? (qh1 ga s1.heap a).objs.size=some _:=up3 _ _ (Heap.get?_push_size _ (acN gb b))
   have g1:(qh6 ga gb s1.heap a b).get? s1.heap.objs.size=some _:=up3 _ _ (Heap.get?_push_of_some _ (Heap.get?_push_size _ (acN ga a)))
   have kp:∀ x o,s1.heap.get? x=some o->(qh6 ga gb s1.heap a b).get? x=some o:=fun x o e=>up3 _ _ (Heap.get?_push_of_some _ (Heap.get?_push_of_some _ e))
   show _/\_
   refine ⟨⟨_,g6,rfl⟩,?_⟩
   refine wpAny_pyIter_zip g6 ?_
   have I2:Inv X pins σ H1 { s1 with heap:=qh6 ga gb s1.heap a b }:=I1.kept (t':=s1.toks) kp
   refine ⟨_,[(qh5 ga gb s1.heap a b).objs.size,(qh2 ga gb s1.heap a b).objs.size,(qh4 ga gb s1.heap a b).objs.size,s1.heap.objs.size,(qh1 ga s1.heap a).objs.size],
    _,_,H1,rfl,I2,ajE (z:=(qh5 ga gb s1.heap a b).objs.size) (TI:=(qh2 ga gb s1.heap a b).objs.size) (TO:=(qh4 ga gb s1.heap a b).objs.size) (i1:=s1.heap.objs.size) (i2:=(qh1 ga s1.heap a).objs.size) (t1:=a) (t2:=b) ?_ ?_,
    ⟨g6,g4,⟨_,_,g5⟩,ahx g1,ahx g2⟩,fun x hx=>?_,q⟩
   ·rw [n5,n4,n1]
    simp [List.nodup_cons]
   ·rw [n2,n5,n4,n1]
    simp
   ·have hle:s1.heap.objs.size<=x:=by
     rw [n5,n2,n4,n1] at hx
     simp only [List.mem_cons,List.not_mem_nil,or_false] at hx
     rcases hx with e | e | e | e | e <;> rw [e] <;> first | exact Nat.le_refl _ | exact Nat.le_add_right _ _
    exact I1.fpOk hle (I1.hok.fresh hle)
noncomputable def acO:PyData->Option (List PyData)
 | .tuple xs=>some xs
 | .list xs=>some xs
 | _=>none
noncomputable def zS:List PyData->List PyData->List PyData
 | x::xs,y::ys=> .tuple [x,y]::zS xs ys
 | _,_=>[]
noncomputable def afV (ds:List PyData):Option (List PyData):=match ds with
 | [p,q]=>(acO p).bind fun xs=>(acO q).bind fun ys=>some (zS xs ys)
 | _=>none
theorem abq:∀ (xs ys:List PyData),(zS xs ys).length=min xs.length ys.length
 | [],_=>by simp [zS]
 | x::xs,[]=>by simp [zS]
 | x::xs,y::ys=>by simp [zS,abq xs ys,Nat.succ_min_succ]
theorem adV:∀ (xs ys:List PyData) (i:Nat) (d:PyData),(zS xs ys)[i]?=some d->∃ x y,xs[i]?=some x/\ys[i]?=some y/\d= .tuple [x,y]
 | [],_,i,d,h=>by simp [zS] at h
 | x::xs,[],i,d,h=>by simp [zS] at h
 | x::xs,y::ys,0,d,h=>by simp [zS] at h; exact ⟨x,y,rfl,rfl,h.symm⟩
 | x::xs,y::ys,i+1,d,h=>by
  obtain ⟨a,b,e1,e2,e4⟩:=adV xs ys i d (by simpa [zS] using h)
  exact ⟨a,b,by simpa using e1,by simpa using e2,e4⟩
theorem acP {K:PySem.W.Frag}{H:Hp}{d:PyData}{v:V}{xs:List PyData} (h:acO d=some xs) (r:Rep K H d v):∃ g a us,v= .ref a/\Sq g K H a us/\Reps K H xs us:=by
 cases d with
 | tuple ds=>cases h; obtain ⟨a,us,e,q,r⟩:=r; exact ⟨false,a,us,e,q,r⟩
 | list ds=>cases h; obtain ⟨a,us,e,q,r⟩:=r; exact ⟨true,a,us,e,SqL.of q,r⟩
 | _=>cases h
theorem afW {ea eb:Expr}{elts:List Expr}{x1:Nat}{tp:Pos}{p pos:Pos}{fr:Rho->Option (List PyData)} (hm:X.mg "zip"=none) (ha:PAD X [ea,eb] fr) (hg:Gl X "zip":=by rfl)
  (hs:starEach [ea,eb] X.env=[(false,eval ea X.env),(false,eval eb X.env)]:=by rfl) (hs2:starEach [eb] X.env=[(false,eval eb X.env)]:=by rfl):
  PID X (.Tuple elts x1 tp) (.Call (.Name "zip" p) [ea,eb] [] pos) (fun ρ=>(fr ρ).bind afV):=by
 with_unfolding_all
  refine PI.imp (anA hg hm ha hs hs2) fun σ H R ⟨ρ,ds,en,q,k⟩=>?_
  cases h1:fr ρ with
  | none=>simp [h1] at q
  | some as=>
   have q':afV as=some ds:=by simpa [h1] using q
   refine ⟨ρ,as,en,h1,fun vs H1 s1 r1=>?_⟩
   unfold afV at q'
   split at q'
   ·rename_i dp dq
    cases hp:acO dp with
    | none=>simp [hp] at q'
    | some xs=>
     cases hq:acO dq with
     | none=>simp [hp,hq] at q'
     | some ys=>
      simp only [hp,hq,zzD,Option.some.injEq] at q'
      subst q'
      obtain ⟨v1,w1,e1,rp,v2,w2,e2,rq,e4⟩:=r1
      cases (show w2=[] from e4)
      obtain ⟨ga,a,us1,ea',qa,ra⟩:=acP hp rp
      obtain ⟨gb,b,us2,eb',qb,rb⟩:=acP hq rq
      subst ea'; subst eb'; subst e2
      have l1:=ra.length
      have l2:=rb.length
      have lz:=abq xs ys
      refine ⟨ga,gb,a,b,us1,us2,e1,qa,qb,k _ H1 s1 fun i H2 s2=>⟨fun hi=>?_,fun hi=>?_,fun u H3 y=>?_⟩⟩
      ·rw [lz] at hi
       exact ⟨us1,us2,us1[i]'(by omega),us2[i]'(by omega),qa.monoE s2,qb.monoE s2,by simp <;> omega,by simp <;> omega⟩
      ·rw [lz] at hi
       exact ⟨us1,us2,qa.monoE s2,qb.monoE s2,by omega⟩
      ·obtain ⟨pp,x,y,e5,e6,e7,e8⟩:=y
       subst e5; subst e7
       refine ⟨jA e6,fun d hd=>?_⟩
       obtain ⟨dx,dy,g1,g2,g4⟩:=adV xs ys i d hd
       subst g4
       obtain ⟨f1,f2⟩:=e8 us1 us2 (qa.monoE s2) (qb.monoE s2)
       have m:=s2.trans (jt.e (jA (o:= .tup [x,y]) e6))
       obtain ⟨x',a1,a2⟩:=(Reps.monoE m _ _ ra).get g1
       obtain ⟨y',b1,b2⟩:=(Reps.monoE m _ _ rb).get g2
       rw [f1] at a1; cases a1
       rw [f2] at b1; cases b1
       exact ⟨pp,[x,y],rfl,SqT.of jp,x,_,rfl,a2,y,_,rfl,b2,rfl⟩
   ·cases q'
end
section
variable {X:Cx}{e a b c:Expr}{fa fb fc:Rho->Option PyData}{pos p2:Pos}
noncomputable def afX (ds:List PyData):Option PyData:=match ds with
 | [.int i]=>some (.int (if i < 0 then -i else i))
 | _=>none
theorem abr:Q1 X (.builtin "abs") afX:=by
 refine ⟨_,akC,fun ds d xs H Q h r k=>?_⟩
 unfold afX at h
 split at h
 ·cases h
  obtain ⟨x,q,e1,e2,e3⟩:=r
  cases (show q=[] from e3)
  cases (show x=_ from e2)
  exact ⟨_,e1,k _ H (jt.refl H) rfl⟩
 ·cases h
noncomputable def abR (p q:PyData):Option PyData:=match p,q with
 | .list ds,.int k=>if ds.length < 1000/\-1000 < k/\k < 1000 then some (.list (List.replicate k.toNat ds).flatten) else none
 | _,_=>none
theorem Zo:OpD X (binaryOp .Mult) abR:=by
 refine ⟨_,akI,fun p q d x y H Q h rx ry k=>?_⟩
 unfold abR at h
 split at h
 ·rename_i ds n
  split at h
  ·rename_i hc
   cases h
   obtain ⟨l,us,e1,e2,e3⟩:=rx
   cases (show y=V.int n from ry)
   have hl:=e3.length
   refine ⟨l,n,us,e1,rfl,e2,by omega,by omega,?_,fun p hp=>?_⟩
   ·rw [sizeLine_eq]
    have h1:us.length*n.toNat<=1000*1000:=Nat.mul_le_mul (by omega) (by omega)
    exact Nat.le_trans h1 (by decide)
   ·have s1:=jA (o:= .lst (List.replicate n.toNat us).flatten) hp
    exact k _ _ s1 ⟨p,_,rfl,jp,Reps.mono s1 _ _ (e3.rep _)⟩
  ·cases h
 ·cases h
theorem ZG:∀ {is:List Int}{us:List Value},jI (is.map V.int) us->∀ (j:Nat) (i:Int),is[j]?=some i->∃ t,us[j]?=some (.int i t)
 | [],us,r,j,i,h=>by simp at h
 | i0::is,u::us,.cons r rr,j,i,h=>by
  cases j with
  | zero=>cases h; obtain ⟨t,rfl⟩:=r; exact ⟨t,rfl⟩
  | succ j=>exact ZG rr j i (by simpa using h)
end
structure OneCell (sc:Scope) (y0:Str) (pre post:List (Str × NameKind)):Prop where
 split:sc.names=pre++(y0,.cell)::post
 pre:∀ x ∈ pre,x.2 ≠ .cell
 post:∀ x ∈ post,x.2 ≠ .cell
structure CompOk1 (X:Cx) (sc:Scope) (N':List Str) (cap:List (Option Nat)) (y0:Str):Prop where
 fr:∀ x ∈ sc.names,x.2= .free->X.env.kindOf x.1=some .cell ∨ X.env.kindOf x.1=some .free
 one:∃ pre post,OneCell sc y0 pre post
 lk:sc.names.lookup y0=some .cell
 kind:sc.kind= .function
 nm:∀ x ∈ sc.names,x.2= .local->sc.names.lookup x.1=some .local
 len:cap.length=N'.length
 cp:∀ (j i:Nat) (x:Str),N'[j]?=some x->cap[j]?=some (some i)->X.N[i]?=some x/\sc.names.lookup x=some .free
section
variable {X:Cx}{e:Expr}{fa:Rho->Option PyData}
end
theorem aix {X : Cx} {i0 : Nat} {x0 : Str} {pos0 pos1 : Pos} {el tg src : Expr} {ts : List Expr} {sc : Scope} {ps : Pos} {wi : TI} {g : TG} {tt : TT} {te : TE} {N' : List Str} {cap : List (Option Nat)} (hc : X.calm = true) (hi : PI X tg src wi) (ok : CompOk X sc N' cap)
    (body : ∀ cl C s0 H0 fp pn, PG (blk X N' sc cl C s0 H0 fp pn) tg g /\ PTs (blk X N' sc cl C s0 H0 fp pn) ts tt /\ PE (blk X N' sc cl C s0 H0 fp pn) el te)
    (hN : X.N.Nodup) (hi0 : X.N[i0]? = some x0) (hx0 : Loc X.env.scope x0) (hsw : swapsWith (.ListComp el [⟨tg, src, ts, 0⟩] sc ps) (some (.Name x0 pos0)) pos1.line X.env = pure true)
    (hf0 : X.fn x0 = true ∨ X.env.scope.names.lookup x0 = some .local)
    (hs : ∀ x, foldedSetIterable src X.env x = pure x := by intro _; rfl) : PS X (.Assign [.Name x0 pos0] (.ListComp el [⟨tg, src, ts, 0⟩] sc ps) pos1) (ao4 (akP wi cap g tt te) (akt i0)) := by
  intro pins s σ H Dn I h
  have hfr : ∀ x ∈ sc.names, x.2 = .free -> ∃ c, X.env.cells.lookup x.1 = some c := fun x hx e => I.ok.has x.1 (ok.fr x hx e)
  have hcl := aim sc X.env hfr
  have clm : ∀ x c, (QZ X.env sc.names []).lookup x = some c -> X.env.cells.lookup x = some c := fun x c e =>
    abh X.env sc.names [] hfr (fun _ z => nomatch z) (x, c) (PySem.mem_of_lookup e)
  generalize hgl : QZ X.env sc.names [] = cl at hcl clm
  rw [exec_Assign_Name_used _ _ _ _ hsw]
  refine wpAny_bind (wpAny_standAt (wpAny_bind ?_))
  show wpAny _ X.A (do let _ ← comprehension (.ListComp el [⟨tg, src, ts, 0⟩] sc ps) sc X.env _ (newList []) false (eval src X.env) (some (assign (.Name x0 pos0) X.env))) _ _ s
  refine wpAny_bind (wpAny_mono (wpAny_comprehension_free (use := some (assign (.Name x0 pos0) X.env)) (Q := fun _ s' => SP X pins Dn .next s') rfl hs hcl ok.kind ok.nm ?_) (fun _ s' hq => wpAny_pure (wpAny_pure hq)) fun _ _ e => e)
  refine thn (hi pins s σ H _ I h) fun v s1 h1 => thn h1 fun itv s2 h2 => ?_
  obtain ⟨it, fp, tn, J, H2, e, I2, T, st2, f2, W, ⟨m0, w0⟩, turn⟩ := h2
  subst e
  refine wpAny_newObj_type (wpAny_newFunctionEnv ok.nc (by intro y hy; simp at hy) (fun h4 hns hsb => ?_) ok.kind)
  dsimp only at hns hsb ⊢
  generalize hH3 : s2.heap.push { cls := .type "list", dict := none, data := .seq ([] : List Value).toArray } = h3 at hns hsb ⊢
  have hC : h3.objs.size = s2.heap.objs.size + 1 := by rw [← hH3, Heap.size_push]
  generalize hCC : h3.objs.size = C at hns hsb hC ⊢
  generalize hDD : s2.heap.objs.size = D at hC ⊢
  have hDC : D ≠ C := by rw [hC]; exact Nat.ne_of_lt (Nat.lt_succ_self _)
  have old : ∀ b o, s2.heap.get? b = some o -> h4.get? b = some o := fun b o e => hsb.extBut b o (by have := Heap.lt_size e; rw [hDD] at this; rw [hC]; exact Nat.ne_of_lt (Nat.lt_succ_of_lt this)) (Heap.get?_push_of_some _ (hH3 ▸ Heap.get?_push_of_some _ e))
  have accO : h4.get? D = some { cls := .type "list", data := .seq ([] : List Value).toArray 0 } := hsb.extBut _ _ hDC (Heap.get?_push_of_some _ (by rw [← hH3, ← hDD]; exact Heap.get?_push_size _ rfl))
  have H2D : H2 D = none := I2.hok.fresh (by rw [hDD]; exact Nat.le_refl _)
  have H2C : H2 C = none := I2.hok.fresh (by rw [hDD, hC]; exact Nat.le_succ _)
  have cellsLt : ∀ x c, X.env.cells.lookup x = some c -> c < D := fun x c e => by
    obtain ⟨v, q⟩ := I2.cell x c e
    rw [← hDD]; exact q.lt
  have pinLt : ∀ p ∈ X.pn ++ pins, p.1 < D := fun p hp => by rw [← hDD]; exact Heap.lt_size (I2.pin p hp).1
  have stkLt : ∀ b ∈ frs X.stack, b < D := fun b hb => by
    obtain ⟨_, o, ho, _⟩ := I2.stack.mem hb
    rw [← hDD]; exact Heap.lt_size ho
  have fpLt : ∀ b ∈ fp, b < D := fun b hb => by
    obtain ⟨o, ho, _⟩ := T.obj _ _ st2 b hb
    rw [← hDD]; exact Heap.lt_size ho
  have ltC : ∀ {b : Addr}, b < D -> b ≠ C := fun hb => by rw [hC]; exact Nat.ne_of_lt (Nat.lt_succ_of_lt hb)
  have locLt : X.env.locals < D := by rw [← hDD]; exact I2.lt
  have hDge : s2.heap.objs.size <= D := by rw [hDD]; exact Nat.le_refl _
  have hCge : s2.heap.objs.size <= C := by rw [hDD, hC]; exact Nat.le_succ _
  have bok : (blk X N' sc cl C s2 H2 fp (X.pn ++ pins)).Ok := by
    refine ⟨I2.ok.mod, ok.kind, I2.ok.glob, I2.ok.blt, hCge, fun x y c e1 e2 => I2.ok.inj x y c (clm x c e1) (clm y c e2), fun x hx => ?_, fun x c z _ => ?_, I2.ok.hd, I2.ok.frames, .inl rfl, fun b hb => ?_, I2.bs, Nat.le_trans I2.ok.bsz I2.sz, fun b o e hb => ?_, fun b hb z => ?_, I2.stack, I2.stkFree⟩
    · have hx' : (relabel sc X.env).names.lookup x = some .cell ∨ (relabel sc X.env).names.lookup x = some .free := hx
      have hm : (x, NameKind.free) ∈ sc.names := by
        rcases hx' with z | z
        · exact JT (PySem.mem_of_lookup z) ok.nc (.inl rfl)
        · exact JT (PySem.mem_of_lookup z) ok.nc (.inr rfl)
      obtain ⟨c, hc⟩ := Qm X.env sc.names [] x hm
      rw [hgl] at hc
      exact zk hc
    · exact absurd (show false = true from z) Bool.false_ne_true
    · exact ⟨ltC (fpLt b hb), fun x c e => (f2 b hb).2.2.2.2.1 x c (clm x c e)⟩
    · rcases (f2 b hb).2.2.2.1 with z | z
      · exact I2.ok.noex b o e z
      · have := Heap.lt_size e
        exact absurd (Nat.lt_of_lt_of_le this (Nat.le_trans I2.ok.bsz z)) (Nat.lt_irrefl _)
    · rcases List.mem_cons.mp (I2.stkSub b z) with q | q
      · exact (f2 b hb).2.1 q
      · exact (f2 b hb).2.2.1 q
  have pinB : ∀ p ∈ X.pn ++ pins, p.1 ≠ C /\ p.1 ∉ frs X.stack := fun p hp => ⟨ltC (pinLt p hp), fun z => by
    rcases List.mem_cons.mp (I2.stkSub p.1 z) with q | q
    · exact (I2.pin p hp).2.2.1 q
    · exact (I2.pin p hp).2.2.2.1 q⟩
  have I4 : Inv (blk X N' sc cl C s2 H2 fp (X.pn ++ pins)) [] (ab2 cap σ) H2 { s2 with heap := h4, toks := s2.toks + ([] : List (Str × Value)).length } := by
    refine ⟨bok, rfl, I2.bare, Un.kept old, ⟨_, hns, fun j x v e1 e2 e3 => ?_⟩, fun x c e => ?_, H2C, fun x c e => I2.freeC x c (clm x c e), fun p hp => ?_, I2.hok.kept old, ?_⟩
    · unfold ab2 at e2
      rw [List.getElem?_map] at e2
      cases e4 : cap[j]? with
      | none => rw [e4] at e2; cases e2
      | some o =>
        rw [e4] at e2
        cases o with
        | none => cases e2
        | some i =>
          obtain ⟨hNi, hf⟩ := ok.cp j i x e1 e4
          have e5 : (σ[i]?).join = some v := by
            have := Option.some.inj e2
            simpa using this
          have e6 : σ[i]? = some (some v) := by
            cases e7 : σ[i]? with
            | none => rw [e7] at e5; cases e5
            | some z => rw [e7] at e5; cases z with
              | none => cases e5
              | some z => cases e5; rfl
          have hk := ok.fr (x, .free) (PySem.mem_of_lookup hf) rfl
          obtain ⟨m, hn, hl⟩ := I2.loc
          have hv : Vis X.env.scope x := by
            rcases hk with z | z
            · exact .inr (.inl z)
            · exact .inr (.inr z)
          obtain ⟨u, r, lk⟩ := hl i x v hNi e6 hv
          have cellX : ∃ c, X.env.cells.lookup x = some c /\ s2.heap.IsCell c (some u) := by
            rcases lk with ⟨k1, _⟩ | ⟨_, c, e, z⟩
            · rcases hk with z | z
              · have z' : X.env.kindOf x = some .cell := z
                rw [k1] at z'; cases z'
              · have z' : X.env.kindOf x = some .free := z
                rw [k1] at z'; cases z'
            · exact ⟨c, e, z⟩
          obtain ⟨c, hc1, ob, hc2, hc3⟩ := cellX
          obtain ⟨c', hc'⟩ := Qm X.env sc.names [] x (PySem.mem_of_lookup hf)
          rw [hgl] at hc'
          obtain ⟨d, hd⟩ := zk hc'
          have ed : d = c := by
            have := clm x d hd
            rw [hc1] at this; cases this; rfl
          subst ed
          refine ⟨u, r, .inr ⟨?_, d, hd, ob, old _ _ hc2, hc3⟩⟩
          exact QF hf
    · obtain ⟨v, ob, ho, hd⟩ := I2.cell x c (clm x c e)
      exact ⟨v, ob, old _ _ ho, hd⟩
    · have hp' : p ∈ X.pn ++ pins := by simpa [blk] using hp
      obtain ⟨e1, e2, e3, e4, e5⟩ := I2.pin p hp'
      exact ⟨old _ _ e1, e2, (pinB p hp').1, (pinB p hp').2, e5⟩
    · show (ab2 cap σ).length = N'.length
      unfold ab2
      rw [List.length_map]; exact ok.len
  have fpB : ∀ {H' : Hp} {pl : List (Addr × Obj)}, (∀ b ∈ fp, H' b = none) -> (∀ p ∈ pl, p.1 ∉ fp) -> ∀ b ∈ fp, afx (blk X N' sc cl C s2 H2 fp (X.pn ++ pins)) pl H' b := fun {H' pl} hn hpl b hb =>
    ⟨hn b hb, ltC (fpLt b hb), bok.exfs b hb, .inl hb, fun x c e => (f2 b hb).2.2.2.2.1 x c (clm x c e), fun p hp z => by
      rcases List.mem_append.mp (show p ∈ (X.pn ++ pins) ++ pl from hp) with q | q
      · exact (f2 b hb).2.2.2.2.2 p q z
      · exact hpl p q (by rw [z]; exact hb)⟩
  have Dfp : ∀ (o : Obj), ∀ p ∈ [(D, o)], p.1 ∉ fp := fun o p hp z => by
    have e : p = (D, o) := by simpa using hp
    subst e
    exact Nat.lt_irrefl _ (fpLt D z)
  have Dfs : D ∉ frs X.stack := fun z => Nat.lt_irrefl _ (stkLt D z)
  obtain ⟨bG, bT, bE⟩ := body cl C s2 H2 fp (X.pn ++ pins)
  have loop : codeAny (model X.prog X.w) X.A (.compLoop (.ListComp el [⟨tg, src, ts, 0⟩] sc ps) 0 (.ref it) (.ref D) (compEnvC sc cl C X.env)) (compPost (model X.prog X.w) X.A X.xe (some (assign (.Name x0 pos0) X.env)) (fun _ s' => SP X pins Dn .next s') (.ref D) C)
      { s2 with heap := h4, toks := s2.toks + ([] : List (Str × Value)).length } := by
    refine adJ (fun n s' => ∃ i τ ys us k H', Inv (blk X N' sc cl C s2 H2 fp (X.pn ++ pins)) [] τ H' s' /\ tn i s'.heap /\ (∀ b ∈ fp, H' b = none) /\ jI ys us /\ s'.heap.get? D = some { cls := .type "list", data := .seq us.toArray k } /\ H' D = none /\ W i n τ ys H') ?_ m0
      ⟨0, _, [], [], 0, H2, I4, T.keep _ _ _ st2 (fun b _ o e => old b o e), fun b hb => (f2 b hb).1, .nil, accO, H2D, w0⟩
    rintro n s5 ⟨i, τ, ys, us, k, H5, I5, st5, fr5, rv5, ho5, hD5, w5⟩
    obtain ⟨hsz, alt⟩ := turn i n τ ys H5 w5
    have I5p : Inv (blk X N' sc cl C s2 H2 fp (X.pn ++ pins)) [(D, { cls := .type "list", data := .seq us.toArray k })] τ H5 s5 := I5.pins_of fun p hp => by
      have e : p = (D, { cls := .type "list", data := .seq us.toArray k }) := by simpa using hp
      subst e
      exact ⟨ho5, hD5, hDC, Dfs, fun v z => by cases z⟩
    rcases alt with ⟨stop, fin⟩ | ⟨go, step⟩
    · refine thn (T.done (blk X N' sc cl C s2 H2 fp (X.pn ++ pins)) rfl rfl rfl hc i _ s5 τ H5 NoX I5p (fpB fr5 (Dfp _)) st5 stop) fun r s6 ⟨hr, I6⟩ => ?_
      subst hr
      have ho6 := (I6.pin (D, _) (List.mem_append_right _ (List.mem_singleton.mpr rfl))).1
      obtain ⟨m6, hn6, _⟩ := I6.loc
      have J6 : Inv X pins σ H5 s6 := I2.call' (ch := fp) I6.os I6.base I6.hok I6.bare fun b hb => ⟨(f2 b hb).2.2.2.1, (f2 b hb).2.1, (f2 b hb).2.2.2.2.1, (f2 b hb).2.2.2.2.2⟩
      have H5C : H5 C = none := I6.free
      have J7 : Inv X pins σ (upd H5 D (.lst ys)) s6 := Inv.track J6 hD5 (Nat.le_trans I2.sz hDge) (Ne.symm (Nat.ne_of_lt locLt)) (fun x c e => Nat.ne_of_lt (cellsLt x c e)) (fun p hp => Nat.ne_of_lt (pinLt p hp)) ⟨Nat.le_of_lt hsz, us, k, rv5, ho6⟩
      refine wpAny_assign_Name (ady J7 hN hi0 hx0 (show jU (.ref D) (.ref D) from rfl) (fun s8 I8 ⟨a, sb, ha⟩ => ?_) hf0)
      have aC : C ≠ a := by
        rcases ha with z | z
        · rw [z]; exact Ne.symm (ltC locLt)
        · exact Ne.symm (ltC (cellsLt _ _ z))
      refine ⟨m6, hn6.sameBut sb aC, fun h7 hs7 => ?_⟩
      have J8 : Inv X pins (σ.set i0 (some (.ref D))) (upd H5 D (.lst ys)) { s8 with heap := h7, toks := s8.toks } := I8.turned (it := C) (fun b o hb e => hs7.extBut b o hb e) (by rw [jo (Ne.symm hDC)]; exact H5C) (Ne.symm (ltC locLt)) (.inr (Nat.le_trans I2.sz hCge)) (fun x c e => ltC (cellsLt x c e)) (fun p hp => ltC (pinLt p hp))
      exact ⟨_, _, J8, fin D hD5⟩
    · refine thn (T.item (blk X N' sc cl C s2 H2 fp (X.pn ++ pins)) rfl rfl rfl hc i _ s5 τ H5 NoX I5p (fpB fr5 (Dfp _)) st5 go) fun r s6 ⟨u, hr, h6⟩ => ?_
      subst hr
      refine thn h6 fun _ s7 ⟨x, H7, I7, r7, y7, st7, fr7⟩ => ?_
      have I7p := I7.pinned (fpB fr7 (Dfp _)) (T.obj _ _ st7)
      refine thn (bG _ s7 τ H7 x u _ I7p r7 (step x H7 y7)) fun _ s8 ⟨τ8, H8, I8, q8⟩ => ?_
      have back : ∀ {τ9 : St} {H9 : Hp} {s9 : Shared}, Inv (blk X N' sc cl C s2 H2 fp (X.pn ++ pins)) ([(D, { cls := .type "list", data := .seq us.toArray k })] ++ abe fp s7.heap) τ9 H9 s9 ->
          tn (i + 1) s9.heap /\ (∀ b ∈ fp, H9 b = none) /\ s9.heap.get? D = some { cls := .type "list", data := .seq us.toArray k } /\ H9 D = none := fun {τ9 H9 s9} I9 => by
        have pD := I9.pin (D, { cls := .type "list", data := .seq us.toArray k }) (List.mem_append_right _ (List.mem_append_left _ (List.mem_singleton.mpr rfl)))
        refine ⟨T.keep _ _ _ st7 fun b hb o e => (I9.pin (b, o) (List.mem_append_right _ (List.mem_append_right _ (zT hb e)))).1, fun b hb => ?_, pD.1, pD.2.1⟩
        obtain ⟨o, e, _⟩ := T.obj _ _ st7 b hb
        exact (I9.pin (b, o) (List.mem_append_right _ (List.mem_append_right _ (zT hb e)))).2.1
      have drop : ∀ {τ9 : St} {H9 : Hp} {s9 : Shared} {pl : List (Addr × Obj)}, Inv (blk X N' sc cl C s2 H2 fp (X.pn ++ pins)) pl τ9 H9 s9 -> Inv (blk X N' sc cl C s2 H2 fp (X.pn ++ pins)) [] τ9 H9 s9 := fun I9 => I9.pins_of fun p hp => nomatch hp
      refine thn (bT _ s8 τ8 H8 _ I8 q8) fun b s9 ⟨H9, I9, q9⟩ => ?_
      cases b with
      | false =>
        rw [if_neg Bool.false_ne_true] at q9 ⊢
        obtain ⟨m', hm, w9⟩ := q9
        obtain ⟨t9, f9, o9, d9⟩ := back I9
        exact ⟨m', hm, i + 1, τ8, ys, us, k, H9, drop I9, t9, f9, rv5, o9, d9, w9⟩
      | true =>
        rw [if_pos rfl] at q9 ⊢
        refine thn (bE _ s9 τ8 H9 _ I9 q9) fun y s10 ⟨z, H10, I10, r10, q10⟩ => ?_
        obtain ⟨m', hm, w10⟩ := q10
        obtain ⟨t10, f10, o10, d10⟩ := back I10
        have hl := rv5.length
        refine append_at (hsz := by show us.toArray.size <= sizeLine; rw [List.size_toArray, ← hl]; exact Nat.le_of_lt hsz) o10 fun h11 hs11 hD11 => ?_
        have I11 : Inv (blk X N' sc cl C s2 H2 fp (X.pn ++ pins)) [] τ8 H10 { s10 with heap := h11, toks := s10.toks } := (drop I10).turned (it := D) (fun b o hb e => hs11.extBut b o hb e) d10 hDC (.inr hDge) (fun x c e => Nat.ne_of_lt (cellsLt x c (clm x c e)))
          (fun p hp => by have hp' : p ∈ X.pn ++ pins := by simpa [blk] using hp
                          exact Nat.ne_of_lt (pinLt p hp'))
        refine ⟨m', hm, i + 1, τ8, ys ++ [z], us ++ [y], k + 1, H10, I11, T.keep _ _ _ t10 (fun b hb o e => hs11.extBut b o (Nat.ne_of_lt (fpLt b hb)) e), f10, rv5.append (.cons r10 .nil), ?_, d10, w10⟩
        rw [hD11]
        simp
  refine codeAny_compStart_list loop ?_
  exact T.self _ 0 _ _ _ (T.keep _ _ _ st2 (fun b _ o e => old b o e)) loop
theorem afY {K:PySem.W.Frag}{fi:Rho->Option (List PyData)}{cap:List (Option Nat)}{ga:PyData->Rho->Option Rho}{ft:Rho->Option Bool}{fe:Rho->Option PyData}{σ:St}{H:Hp}{Q:VK} (h:tD K (qB fi cap ga ft fe) σ H Q):
  akP (tDI K fi) cap (tDG K ga) (tDT K ft) (tD K fe) σ H Q:=by
 obtain ⟨ρ,d,en,q,k⟩:=h
 cases h1:fi ρ with
 | none=>simp [qB,h1] at q
 | some ds=>
  by_cases hf:few ds=true
  ·cases h2:jX ga ft fe ds (JS cap ρ) with
   | none=>simp [qB,h1,hf,h2] at q
   | some ys=>
    have:PyData.list ys=d:=by simpa [qB,h1,hf,h2] using q
    subst this
    refine ⟨ρ,ds,en,h1,fun J H1 s1 Y=>?_⟩
    refine ⟨fun i m τ us H2=>m=ds.length - i/\i<=ds.length/\jt H1 H2/\us.length<=i/\∃ ρ2 zs ws,EnvR K H2 ρ2 τ/\Reps K H2 zs us/\jX ga ft fe (ds.drop i) ρ2=some ws/\ys=zs++ws,
     ⟨ds.length,by simp,Nat.zero_le _,jt.refl _,Nat.le_refl _,JS cap ρ,[],ys,(en.mono s1).cap cap,rfl,by simpa using h2,rfl⟩,?_⟩
    rintro i m τ us H2 ⟨rfl,hi',s2,hu,ρ2,zs,ws,en2,r2,q2,ey⟩
    have hsm:us.length < sizeLine:=Nat.lt_of_le_of_lt (Nat.le_trans hu hi') (Nat.lt_of_lt_of_le (by simpa [few] using hf) (by rw [sizeLine_eq]; decide:1000000<=sizeLine))
    obtain ⟨g1,g2,g3⟩:=Y i H2 (jt.e s2)
    refine ⟨hsm,?_⟩
    by_cases hlt:i < ds.length
    ·right
     have hd:ds.drop i=ds[i]::ds.drop (i+1):=List.drop_eq_getElem_cons hlt
     rw [hd] at q2
     refine ⟨g1 hlt,fun x H3 y=>?_⟩
     obtain ⟨s3,r3⟩:=g3 x H3 y
     have r3':=r3 ds[i] (by simp [hlt])
     cases h4:ga ds[i] ρ2 with
     | none=>simp [jX,h4] at q2
     | some ρ4=>
      refine ⟨ρ2,ds[i],ρ4,en2.mono s3,r3',h4,fun σ5 H5 s5 en5=>?_⟩
      cases h5:ft ρ4 with
      | none=>simp [jX,h4,h5] at q2
      | some b=>
       refine ⟨ρ4,b,en5,h5,fun H6 s6=>?_⟩
       have s26:=s3.trans (s5.trans s6)
       cases b with
       | false=>
        refine aqA ?_
        exact ⟨ds.length - (i+1),by omega,rfl,hlt,s2.trans s26,by omega,ρ4,zs,ws,en5.mono s6,Reps.mono s26 _ _ r2,by simpa [jX,h4,h5] using q2,ey⟩
       | true=>
        refine aqB ?_
        cases h6:fe ρ4 with
        | none=>simp [jX,h4,h5,h6] at q2
        | some y=>
         cases h7:jX ga ft fe (ds.drop (i+1)) ρ4 with
         | none=>simp [jX,h4,h5,h6,h7] at q2
         | some ws'=>
          have hw:y::ws'=ws:=by simpa [jX,h4,h5,h6,h7] using q2
          refine ⟨ρ4,y,en5.mono s6,h6,fun v H7 s7 r7=>?_⟩
          refine ⟨ds.length - (i+1),by omega,rfl,hlt,s2.trans (s26.trans s7),by rw [List.length_append]; simp; omega,ρ4,zs++[y],ws',(en5.mono s6).mono s7,(Reps.mono (s26.trans s7) _ _ r2).append ⟨v,[],rfl,r7,rfl⟩,h7,?_⟩
          rw [ey,←hw]; simp
    ·left
     have he:i=ds.length:=by omega
     have hn:ds.drop i=[]:=by rw [he]; simp
     rw [hn] at q2
     have hw:[]=ws:=by simpa [jX] using q2
     subst hw
     have ey':ys=zs:=by simpa using ey
     subst ey'
     exact ⟨g2 (by omega),fun l hl=>k _ _ (s1.trans (s2.trans (jA hl))) ⟨l,us,rfl,jp,Reps.mono (jA hl) _ _ r2⟩⟩
  ·simp [qB,h1,hf] at q
section
variable {X:Cx}{tg src:Expr}{pos pos':Pos}
theorem afZ (i:Nat) {x:Str}{el:Expr}{ts:List Expr}{sc:Scope}{ps:Pos}{fi:Rho->Option (List PyData)}{ga:PyData->Rho->Option Rho}{ft:Rho->Option Bool}{fe:Rho->Option PyData} (N':List Str) (cap:List (Option Nat)) (hc:X.calm=true) (hN:X.N.Nodup) (hi:PID X tg src fi) (ok:CompOk X sc N' cap)
  (body:∀ cl C s0 H0 fp pn,PGD (blk X N' sc cl C s0 H0 fp pn) tg ga/\akS (blk X N' sc cl C s0 H0 fp pn) ts ft/\PD (blk X N' sc cl C s0 H0 fp pn) el fe)
  (hi0:X.N[i]?=some x:=by rfl) (hx:Loc X.env.scope x:=by first | exact Or.inl rfl | exact Or.inr rfl) (hsw:swapsWith (.ListComp el [⟨tg,src,ts,0⟩] sc ps) (some (.Name x pos')) pos.line X.env=pure true:=by rfl)
  (hf:X.fn x=true ∨ X.env.scope.names.lookup x=some .local:=by first | exact .inl rfl | exact .inr rfl | assumption)
  (hs:∀ x,foldedSetIterable src X.env x=pure x:=by intro _; rfl):PSD X (.Assign [.Name x pos'] (.ListComp el [⟨tg,src,ts,0⟩] sc ps) pos) (zA (qB fi cap ga ft fe) (jJ i)):=by
 with_unfolding_all
  refine PS.imp (aix (g:=tDG X.K ga) (tt:=tDT X.K ft) (te:=tD X.K fe) hc hi ok (fun cl C s0 H0 fp pn=>body cl C s0 H0 fp pn) hN hi0 hx hsw hf hs) fun D σ H ⟨ρ,o,en,q,k⟩=>afY ?_
  cases h1:qB fi cap ga ft fe ρ with
  | none=>simp [zA,h1] at q
  | some d=>
   have:Out.nx (ρ.set i (some d))=o:=by simpa [zA,h1,jJ] using q
   subst this
   exact ⟨ρ,d,en,h1,fun v H1 s1 r1=>k _ H1 s1 ((en.mono s1).set r1)⟩
end
structure Mine (X:Cx) (H:Hp) (b:Addr):Prop where
 un:H b=none
 new:X.s₀.heap.get? b=none
 loc:b ≠ X.env.locals
 cel:∀ x c,X.env.cells.lookup x=some c->c ≠ b
 pin:∀ p ∈ X.pn,p.1 ≠ b
structure Xc (X:Cx) (H:Hp) (h:Heap) (e C:Addr):Prop where
 mine:Mine X H e
 ob:∃ oe vs,h.get? e=some oe/\(oe.cls= .ref C/\oe.dict=none)/\oe.data= .fields vs/\1 < vs.size/\
  (vs[1]?=some .none ∨ ∃ T oT ts,vs[1]?=some (.ref T)/\T ≠ e/\Mine X H T/\h.get? T=some oT/\oT.data= .fields ts/\3 < ts.size)
theorem Inv.exIn {X:Cx}{pins:List (Addr × Obj)}{σ:St}{H:Hp}{s:Shared}{ch:List Addr} (I:Inv X pins σ H s) (hn:∀ b ∈ ch,X.s₀.heap.get? b=none/\b ≠ X.env.locals/\∀ x c,X.env.cells.lookup x=some c->c ≠ b):Inv { X with ex:=ch++X.ex } pins σ H s:=by
 have no:∀ b,b ∉ ch++X.ex->b ∉ X.ex:=fun b h z=>h (List.mem_append_right _ z)
 refine ⟨⟨I.ok.mod,I.ok.kind,I.ok.glob,I.ok.blt,I.ok.above,I.ok.inj,I.ok.has,I.ok.cab,I.ok.hd,I.ok.frames,I.ok.stk,fun b hb=>?_,I.ok.bs,I.ok.bsz,fun b o e hb=>?_,fun b hb z=>?_,I.ok.funs,I.ok.frf⟩,I.os,I.bare,
  ⟨fun b o e n hf hx=>I.base.keep b o e n hf (no b hx),fun b o e n hf hx=>I.base.slot b o e n hf (no b hx),fun b o e n hx=>I.base.free b o e n (no b hx),fun b o e hx=>I.base.there b o e (no b hx),I.base.tups,I.base.frzs,I.base.tbls⟩,I.loc,I.cell,I.free,I.freeC,I.pin,I.hok,I.len⟩
 ·rcases List.mem_append.mp hb with q | q
  ·exact (hn b q).2
  ·exact I.ok.exf b q
 ·rcases List.mem_append.mp hb with q | q
  ·have:=(I.ok.bs b o e).1
   rw [(hn b q).1] at this; cases this
  ·exact I.ok.noex b o e q
 ·rcases List.mem_append.mp hb with q | q
  ·obtain ⟨_,o,ho,_⟩:=I.ok.funs.mem z
   rw [(hn b q).1] at ho; cases ho
  ·exact I.ok.exfs b q z
theorem Inv.exOut {X:Cx}{pins:List (Addr × Obj)}{σ:St}{H:Hp}{s:Shared}{ch:List Addr} (I:Inv { X with ex:=ch++X.ex } pins σ H s) (ok:X.Ok) (hn:∀ b ∈ ch,X.s₀.heap.get? b=none):Inv X pins σ H s:=by
 have no:∀ b o,X.s₀.heap.get? b=some o->b ∉ X.ex->b ∉ ch++X.ex:=fun b o e h z=>by
  rcases List.mem_append.mp z with q | q
  ·rw [hn b q] at e; cases e
  ·exact h q
 exact ⟨ok,I.os,I.bare,⟨fun b o e n hf hx=>I.base.keep b o e n hf (no b o e hx),fun b o e n hf hx=>I.base.slot b o e n hf (no b o e hx),fun b o e n hx=>I.base.free b o e n (no b o e hx),fun b o e hx=>I.base.there b o e (no b o e hx),I.base.tups,I.base.frzs,I.base.tbls⟩,I.loc,I.cell,I.free,I.freeC,I.pin,I.hok,I.len⟩
section
variable {X:Cx}{σ:St}{H:Hp}{s:Shared}{h':Heap}{e C:Addr}{E:Value->Shared->Prop}{A:Around}
theorem Inv.shake {ch:List Addr} (I:Inv X [] σ H s) (hm:∀ b ∈ ch,Mine X H b) (keep:∀ b o,b ∉ frs X.stack->b ∉ ch->s.heap.get? b=some o->h'.get? b=some o)
  (slot:∀ b o,b ∈ frs X.stack->b ∉ ch->s.heap.get? b=some o->∃ sl,h'.get? b=some { o with slots:=sl }):Inv X [] σ H { s with heap:=h' }:=by
 have u:Un (frs X.stack) ch H H s.heap h':=⟨fun b o q _ nf nc=>keep b o nf nc q,fun b o q _ hf nc=>slot b o hf nc q,fun _ _ _ n _=>n,fun b o q nc=>by
  by_cases hf:b ∈ frs X.stack
  ·obtain ⟨sl,z⟩:=slot b o hf nc q; exact ⟨_,z⟩
  ·exact ⟨o,keep b o hf nc q⟩,fun _ _ q=>q,fun _ _ _ q=>q,fun _ ps q=>⟨#[],by rw [q]; simp⟩⟩
 have hok:HOk X.prog X.w H h':=fun b o q=>(I.hok b o q).stay (fun c v hc r=>by
  have hb:H c ≠ none:=by
   rcases hc with rfl | hc
   ·rw [q]; exact fun z=>nomatch z
   ·rw [hc]; exact fun z=>nomatch z
  exact keep c v (fun z=>hb (I.stkFree c z)) (fun z=>hb (hm c z).un) r) (fun _ r=>r) fun _ _ r=>r
 exact Inv.exOut (Inv.call (X:={ X with ex:=ch++X.ex }) (g':=s.gens) (d':=s.drawn) (t':=s.toks) (Inv.exIn I fun b hb=>⟨(hm b hb).new,(hm b hb).loc,(hm b hb).cel⟩) u hok I.bare fun b hb=>⟨.inl (List.mem_append_left _ hb),(hm b hb).loc,(hm b hb).cel,fun p hp=>(hm b hb).pin p (by simpa using hp)⟩) I.ok fun b hb=>(hm b hb).new
structure XcT (X:Cx) (H:Hp) (h:Heap) (e C:Addr):Prop where
 mine:Mine X H e
 ob:∃ oe vs T oT ts,h.get? e=some oe/\(oe.cls= .ref C/\oe.dict=none)/\oe.data= .fields vs/\vs[1]?=some (.ref T)/\T ≠ e/\Mine X H T/\h.get? T=some oT/\oT.data= .fields ts/\3 < ts.size
theorem XcT.c {h:Heap} (x:XcT X H h e C):Xc X H h e C:=by
 obtain ⟨oe,vs,T,oT,ts,h1,h2,h3,h4,h5,h6,h7,h8,h9⟩:=x.ob
 exact ⟨x.mine,oe,vs,h1,h2,h3,(Array.getElem?_eq_some_iff.mp h4).1,.inr ⟨T,oT,ts,h4,h5,h6,h7,h8,h9⟩⟩
structure Top0 (X:Cx):Prop where
 st:X.stack=X.env::X.outer
 fr:X.env.frame=some X.env.locals
 ex:X.ex=[]
theorem Mine.nofr {b:Addr} (m:Mine X H b) (I:Inv X [] σ H s):b ∉ frs X.stack:=fun z=>by
 rcases List.mem_cons.mp (I.stkSub b z) with q | q
 ·exact m.loc q
 ·obtain ⟨_,o,ho,_⟩:=I.ok.funs.mem q
  rw [m.new] at ho; cases ho
theorem anB {P:Program}{w:World}{h:Heap}{b:Addr}{u:HO} (hok:HOk P w H h) (hH:H b=some u) (hb:h.get? b=none):False:=by
 have x:=hok b u hH
 have no:∀ {o:Obj},h.get? b=some o->False:=fun {o} q=>by rw [hb] at q; cases q
 cases u with
 | lst xs=>obtain ⟨_,_,_,_,e⟩:=x; exact no e
 | tup xs=>obtain ⟨_,_,_,⟨_,e,_⟩⟩:=x; exact no e
 | dK kvs=>obtain ⟨_,_,_,_,o,_,_,e,_⟩:=x; exact no e
 | dT kvs=>obtain ⟨_,_,_,_,o,_,_,e,_⟩:=x; exact no e
 | set S n=>obtain ⟨o,_,_,_,e,_⟩:=x; exact no e
 | ins C dx fs=>obtain ⟨_,_,_,e,_⟩:=x; exact no e
 | own y=>obtain ⟨_,e⟩:=x; exact no e
 | xd fs=>obtain ⟨_,⟨_,_,_,e,_⟩,_⟩:=x; exact no e
 | rng lo hi=>obtain ⟨_,_,_,e⟩:=x; exact no e
 | frz ob u=>obtain ⟨e,_⟩:=x; exact no e
 | tbl ps=>exact no (show h.get? b=some _ from x)
 | met f y=>exact no (show h.get? b=some _ from x)
 | ext φ=>obtain ⟨_,⟨_,e⟩,_⟩:=x; exact no e
theorem aaJ (hx:X.ex=[]) (I:Inv X [] σ H s) {b:Addr} (hb:s.heap.get? b=none):Mine X H b:=by
 have no:∀ {o:Obj},s.heap.get? b=some o->False:=fun {o} q=>by rw [hb] at q; cases q
 refine ⟨?_,?_,fun z=>?_,fun x c q z=>?_,fun p hp z=>?_⟩
 ·cases hH:H b with
  | none=>rfl
  | some u=>exact (anB I.hok hH hb).elim
 ·cases h0:X.s₀.heap.get? b with
  | none=>rfl
  | some o=>
   obtain ⟨o',q⟩:=I.base.there b o h0 (by rw [hx]; simp)
   exact (no q).elim
 ·subst z
  obtain ⟨m,⟨o,_,_,ho,_⟩,_⟩:=I.loc
  exact no ho
 ·obtain ⟨v,o,ho,_⟩:=I.cell x c q
  subst z
  exact no ho
 ·have:=(I.pin p (List.mem_append_left _ hp)).1
  rw [z] at this
  exact no this
theorem af0 {oe:Obj}{vs:Array Value}{head:Value}{hadNext:Bool} (T0:Top0 X) (hA:A.frames=some X.stack) (I:Inv X [] σ H s) (me:Mine X H e) (he:s.heap.get? e=some oe) (hc:oe.cls= .ref C/\oe.dict=none) (hd:oe.data= .fields vs) (hsz:1 < vs.size):
  wpAny (model X.prog X.w) A (do let a ←frameOf X.env; let pl ←entryPlaceOf X.env.locals hadNext; let b ←EntryCells.newEntry head a .none (rawInt X.env.locals) .none pl; setField (.ref e) 1 b) (fun _ s'=>Inv X [] σ H s'/\XcT X H s'.heap e C) E s:=by
 have hst:=T0.st
 have hfn:=I.stack
 rw [hst] at hfn hA
 have hene:e ∉ (X.env::X.outer).filterMap (·.frame):=by
  have:=me.nofr I
  rw [hst] at this; exact this
 refine wpAny_bind (wpAny_frameOf_fun hA hfn T0.fr fun h₁ hs₁=>?_)
 refine wpAny_bind (wpAny_entryPlaceOf fun pl hpl=>?_)
 unfold EntryCells.newEntry newFields
 refine wpAny_bind (wpAny_newObj_type ?_ (hpl.sizeOk5 _ _ _ _ _))
 have he₁:h₁.get? e=some oe:=(hs₁.2.1 e hene).trans he
 generalize hob:({ cls:= .type "traceback",dict:=none,data:= .fields ([head,Value.ref X.env.locals,.none,rawInt X.env.locals,.none]++(if pl.isEmpty then List.replicate 6 Value.none else pl)).toArray }:Obj)=ob
 have obd:ob.data= .fields ([head,Value.ref X.env.locals,.none,rawInt X.env.locals,.none]++(if pl.isEmpty then List.replicate 6 Value.none else pl)).toArray:=by rw [←hob]
 have obf:ob.isFreed=false:=by rw [←hob]; rfl
 have he₂:(h₁.push ob).get? e=some oe:=Heap.get?_push_of_some ob he₁
 refine wpAny_setField he₂ hd hsz ?_
 have hTe:h₁.objs.size ≠ e:=Nat.ne_of_gt (Heap.lt_size he₁)
 have hd₃:=Obj.data_mapFields hd (·.setIfInBounds 1 (Value.ref h₁.objs.size))
 have he₃:=Heap.get?_update_self (Obj.mapFields (·.setIfInBounds 1 (Value.ref h₁.objs.size))) he₂ (Obj.isFreed_of_fields hd₃)
 have hT₃:((h₁.push ob).update e (Obj.mapFields (·.setIfInBounds 1 (Value.ref h₁.objs.size)))).get? h₁.objs.size=some ob:=(Heap.get?_update_other _ _ (Ne.symm hTe)).trans (Heap.get?_push_size h₁ obf)
 have keep:∀ b o,b ≠ e->h₁.get? b=some o->((h₁.push ob).update e (Obj.mapFields (·.setIfInBounds 1 (Value.ref h₁.objs.size)))).get? b=some o:=fun b o hb q=>by
  rw [Heap.get?_update_other _ _ (Ne.symm hb)]
  exact Heap.get?_push_of_some _ q
 have hfr:frs X.stack=(X.env::X.outer).filterMap (·.frame):=by rw [hst]; rfl
 have sz:h₁.objs.size=s.heap.objs.size:=hs₁.1
 have J:Inv X [] σ H { s with heap:=(h₁.push ob).update e (Obj.mapFields (·.setIfInBounds 1 (Value.ref h₁.objs.size))) }:=by
  refine Inv.shake (s:=s) (ch:=[e]) I (fun b hb=>by rw [List.mem_singleton.mp hb]; exact me) (fun b o nf nc q=>keep b o (fun z=>nc (by simp [z])) ((hs₁.2.1 b (by rw [←hfr]; exact nf)).trans q)) (fun b o _ nc q=>?_)
  obtain ⟨sl,z⟩:=hs₁.2.2 b o q
  exact ⟨sl,keep b _ (fun w=>nc (by simp [w])) z⟩
 refine ⟨J,me,_,_,h₁.objs.size,ob,_,he₃,?_,hd₃,by simp [hsz],hTe,?_,hT₃,obd,?_⟩
 ·rw [Obj.cls_mapFields]; exact ⟨hc.1,by unfold Obj.mapFields; split <;> exact hc.2⟩
 ·exact aaJ T0.ex I (Heap.get?_none_of_le (by rw [sz]; exact Nat.le_refl _))
 ·simp only [List.size_toArray,List.length_append,List.length_cons,List.length_nil]; omega
theorem aeP (T0:Top0 X) (hA:A.frames=some X.stack) (I:Inv X [] σ H s) (x:Xc X H s.heap e C):wpAny (model X.prog X.w) A (noteFrame (.ref e) X.env) (fun _ s'=>Inv X [] σ H s'/\XcT X H s'.heap e C) E s:=by
 obtain ⟨oe,vs,he,hc,hd,hsz,hT⟩:=x.ob
 unfold noteFrame
 simp only [T0.fr]
 rcases hT with h1 | ⟨T,oT,ts,h1,hTe,mT,hT,hdT,h3⟩
 ·refine wpAny_bind (wpAny_field he hd h1 ?_)
  rw [if_neg (by decide)]
  exact af0 T0 hA I x.mine he hc hd hsz
 ·refine wpAny_bind (wpAny_field he hd h1 ?_)
  rw [if_pos (show (Value.ref T != Value.none)=true from by simp)]
  refine wpAny_bind (wpAny_field hT hdT (x:=ts[3]) (by simp [h3]) ?_)
  by_cases hq:(ts[3] == rawInt X.env.locals)=true
  ·rw [if_pos hq]
   exact wpAny_pure ⟨I,x.mine,oe,vs,T,oT,ts,he,hc,hd,h1,hTe,mT,hT,hdT,h3⟩
  ·rw [if_neg hq]
   refine wpAny_bind (wpAny_setField hT hdT h3 ?_)
   have other:∀ b,b ≠ T->(s.heap.update T (Obj.mapFields (·.setIfInBounds 3 Value.none))).get? b=s.heap.get? b:=fun b hb=>Heap.get?_update_other _ _ (Ne.symm hb)
   have J:Inv X [] σ H { s with heap:=s.heap.update T (Obj.mapFields (·.setIfInBounds 3 Value.none)) }:=
    Inv.shake (s:=s) (ch:=[T]) I (fun b hb=>by rw [List.mem_singleton.mp hb]; exact mT) (fun b o _ nc q=>(other b fun z=>nc (by simp [z])).trans q) fun b o _ nc q=>⟨o.slots,(other b fun z=>nc (by simp [z])).trans q⟩
   exact af0 (s:={ s with heap:=s.heap.update T (Obj.mapFields (·.setIfInBounds 3 Value.none)) }) T0 hA J x.mine ((other e (Ne.symm hTe)).trans he) hc hd hsz
theorem Qo (fl:Option Addr) (I:Inv X [] σ H s) (x:XcT X H s.heap e C):wpAny (model X.prog X.w) A (setFlight (.ref e) fl) (fun _ s'=>Inv X [] σ H s'/\XcT X H s'.heap e C) E s:=by
 obtain ⟨oe,vs,T,oT,ts,he,hc,hd,h1,hTe,mT,hT,hdT,h3⟩:=x.ob
 unfold setFlight
 refine wpAny_bind (wpAny_field he hd h1 ?_)
 rw [if_pos (show (Value.ref T != Value.none)=true from by simp)]
 refine wpAny_setField hT hdT h3 ?_
 have other:∀ b,b ≠ T->(s.heap.update T (Obj.mapFields (·.setIfInBounds 3 (fl.elim Value.none fun f=>rawInt f)))).get? b=s.heap.get? b:=fun b hb=>Heap.get?_update_other _ _ (Ne.symm hb)
 have J:Inv X [] σ H { s with heap:=s.heap.update T (Obj.mapFields (·.setIfInBounds 3 (fl.elim Value.none fun f=>rawInt f))) }:=
  Inv.shake (s:=s) (ch:=[T]) I (fun b hb=>by rw [List.mem_singleton.mp hb]; exact mT) (fun b o _ nc q=>(other b fun z=>nc (by simp [z])).trans q) fun b o _ nc q=>⟨o.slots,(other b fun z=>nc (by simp [z])).trans q⟩
 exact ⟨J,x.mine,oe,vs,T,_,_,(other e (Ne.symm hTe)).trans he,hc,hd,h1,hTe,mT,Heap.get?_update_self _ hT (Obj.isFreed_of_fields (Obj.data_mapFields hdT _)),Obj.data_mapFields hdT _,by simpa using h3⟩
theorem arD {P:Value->Shared->Prop} (T0:Top0 X) (hA:A.frames=some X.stack) (hP:∀ e s,P e s->∃ a C σ H,e= .ref a/\Inv X [] σ H s/\Xc X H s.heap a C/\∀ s',Inv X [] σ H s'->XcT X H s'.heap a C->P e s'):PassesOwn (model X.prog X.w) A X.env P:=fun ev s' h=>by
 obtain ⟨a,C,σ,H,rfl,I,x,back⟩:=hP ev s' h
 refine wpAny_mono (aeP (E:=fun _ _=>False) T0 hA I x) (fun _ s2 ⟨I2,x2⟩=>?_) fun _ _ z=>z.elim
 obtain ⟨oe,vs,T,oT,ts,he,hc,hd,h1,r⟩:=id x2.ob
 unfold cameBackBy
 refine wpAny_bind (wpAny_field he hd h1 ?_)
 rw [if_neg (by simp)]
 first
  | exact wpAny_mono (Qo (E:=fun _ _=>False) _ I2 x2) (fun _ s3 ⟨I3,x3⟩=>back s3 I3 x3) fun _ _ z=>z.elim
  | exact wpAny_bind (wpAny_pure (wpAny_mono (Qo (E:=fun _ _=>False) _ I2 x2) (fun _ s3 ⟨I3,x3⟩=>back s3 I3 x3) fun _ _ z=>z.elim))
end
structure XcO (h0:Heap) (H:Hp) (h:Heap) (e C:Addr):Prop where
 un:H e=none
 new:h0.get? e=none
 ob:∃ oe vs T oT ts,h.get? e=some oe/\(oe.cls= .ref C/\oe.dict=none)/\oe.data= .fields vs/\vs[1]?=some (.ref T)/\T ≠ e/\H T=none/\h0.get? T=none/\h.get? T=some oT/\oT.data= .fields ts/\3 < ts.size
noncomputable def CXt (P:Program) (w:World):CXT:=fun outer H s E ev s'=>∃ e C H',ev= .ref e/\s'.os=s.os/\AllBare s'.gens/\Un (frs outer) [] H H' s.heap s'.heap/\HOk P w H' s'.heap/\XcO s.heap H' s'.heap e C/\E (.ref C) none H'
section
variable {X:Cx}
theorem Xc.of (hx:X.ex=[]) {pins:List (Addr × Obj)}{σ:St}{H H':Hp}{s s':Shared}{e0 C:Addr} (I:Inv X pins σ H s) (x:XcO s.heap H' s'.heap e0 C):Xc X H' s'.heap e0 C:=by
 have J:Inv X [] σ H s:=I.pins_of fun p hp=>nomatch hp
 obtain ⟨oe,ws,T,oT,ts,h1,h2,h3,h4,h5,h6,h7,h8,h9,h10⟩:=x.ob
 have m1:=aaJ hx J x.new
 have m2:=aaJ hx J h7
 exact ⟨⟨x.un,m1.new,m1.loc,m1.cel,m1.pin⟩,oe,ws,h1,h2,h3,(Array.getElem?_eq_some_iff.mp h4).1,.inr ⟨T,oT,ts,h4,h5,⟨h6,m2.new,m2.loc,m2.cel,m2.pin⟩,h8,h9,h10⟩⟩
end
noncomputable def Thr (X:Cx) (H:Hp) (c:Str) (ev:Value) (s':Shared):Prop:=∃ e C σ' H',ev= .ref e/\X.mg c=some (.ref C)/\Inv X [] σ' H' s'/\jt H H'/\Xc X H' s'.heap e C
theorem Thr.mono {X:Cx}{H H1:Hp}{c:Str}{ev:Value}{s':Shared} (s:jt H H1) (h:Thr X H1 c ev s'):Thr X H c ev s':=by
 obtain ⟨e,C,σ',H',h1,h2,h3,h4,h5⟩:=h
 exact ⟨e,C,σ',H',h1,h2,h3,s.trans h4,h5⟩
@[irreducible] noncomputable def PDX (X:Cx) (e:Expr) (fx:Rho->Option Str):Prop:=∀ (s:Shared) (σ:St) (H:Hp) (ρ:Rho) (c:Str),Inv X [] σ H s->EnvR X.K H ρ σ->fx ρ=some c->(∀ ev s',Thr X H c ev s'->X.xe ev s')->wpAny (model X.prog X.w) X.A (eval e X.env) (fun _ _=>False) X.xe s
@[irreducible] noncomputable def PSX (X:Cx) (st:Stmt) (fx:Rho->Option Str):Prop:=∀ (s:Shared) (σ:St) (H:Hp) (ρ:Rho) (c:Str),Inv X [] σ H s->EnvR X.K H ρ σ->fx ρ=some c->(∀ ev s',Thr X H c ev s'->X.xe ev s')->wpAny (model X.prog X.w) X.A (exec st X.env) (fun _ _=>False) X.xe s
@[irreducible] noncomputable def ab4 (X:Cx) (sts:List Stmt) (fx:Rho->Option Str):Prop:=∀ (s:Shared) (σ:St) (H:Hp) (ρ:Rho) (c:Str),Inv X [] σ H s->EnvR X.K H ρ σ->fx ρ=some c->(∀ ev s',Thr X H c ev s'->X.xe ev s')->wpAny (model X.prog X.w) X.A (execs sts X.env) (fun _ _=>False) X.xe s
noncomputable def vB:List Value:=[.type "ValueError",.type "Exception",.type "BaseException",.type "object"]
noncomputable def ajF (K:PySem.W.Frag) (mg:Str->Option Value) (x:Str):Prop:=∃ C,mg x=some (.ref C)/\PySem.W.excIn K C vB "ValueError.__new__"=true
theorem anC {K:PySem.W.Frag}{h:Heap}{C:Addr} (X:K.In h) (q:PySem.W.excIn K C vB "ValueError.__new__"=true):
  ∃ bm N nm qn bs hdct sn sub ab col dd k0 k1 k2 k3 k5 mN,h.get? C=some (excClassObj nm qn C N bs bm hdct sn sub ab col dd k0 k1 k2 k3 k5 "ValueError.__new__")/\h.Ns N mN/\mN "__init__"=none/\OwnTail h vB bm:=by
 unfold PySem.W.excIn at q
 split at q
 ·rename_i dd cd sl ho
  split at q
  ·rename_i C' bm k0 k1 k2 k3 n k5 hm hs
   simp only [Bool.and_eq_true,beq_iff_eq,Bool.not_eq_true'] at q
   obtain ⟨⟨⟨⟨⟨rfl,rfl⟩,hdel⟩,ht⟩,hok⟩,hni⟩:=q
   obtain ⟨nm,bs,mro,ns,qn,hd,sn,sub,ab,col,del⟩:=cd
   dsimp only at hm hdel hok hni
   subst hm hdel
   have hsl:sl=#[k0,k1,k2,k3,some (.builtin "ValueError.__new__"),k5]:=by
    obtain ⟨l⟩:=sl
    simp only at hs
    rw [hs]
   subst hsl
   exact ⟨bm,ns,nm,qn,bs,hd,sn,sub,ab,col,dd,k0,k1,k2,k3,k5,_,X _ _ ho,.of_isNs (PySem.W.isNs_of_in X hok),PySem.W.nsMap_none_of_in X hok hni,PySem.W.tail_of_in X ht⟩
  ·cases q
 ·cases q
section
variable {X:Cx}{e a b c:Expr}{es:List Expr}{st:Stmt}{sts qg:List Stmt}{fx gx:Rho->Option Str}{F:Rho->Option Out}{pos:Pos}
theorem jZ (h:PSX X st fx):ab4 X (st::qg) fx:=by
 with_unfolding_all
  intro s σ H ρ c I en q k
  exact wpAny_execs_cons (wpAny_mono (h s σ H ρ c I en q k) (fun _ _ z=>z.elim) fun _ _ z=>z)
noncomputable def nxX (F:Rho->Option Out) (gx:Rho->Option Str):Rho->Option Str:=fun ρ=>(F ρ).bind fun o=>match o with
 | .nx ρ'=>gx ρ'
 | _=>none
theorem Qp (h1:PSD X st F) (h2:ab4 X qg gx):ab4 X (st::qg) (nxX F gx):=by
 with_unfolding_all
  intro s σ H ρ c I en q k
  cases hF:F ρ with
  | none=>simp [nxX,hF] at q
  | some o=>
   cases o with
   | nx ρ'=>
    have q':gx ρ'=some c:=by simpa [nxX,hF] using q
    refine wpAny_execs_cons (wpAny_mono (h1 [] s σ H { nx:=fun σ' H'=>jt H H'/\EnvR X.K H' ρ' σ',rt:=fun _ _=>False,bk:=fun _ _=>False,ct:=fun _ _=>False } I ⟨ρ,.nx ρ',en,hF,fun σ' H' s1 e1=>⟨s1,e1⟩⟩) (fun f s1 z=>?_) fun _ _ z=>z)
    cases f with
    | next=>
     obtain ⟨σ',H',I',sm,e1⟩:=z
     exact wpAny_mono (h2 s1 σ' H' ρ' c I' e1 q' fun ev s' t=>k ev s' (t.mono sm)) (fun _ _ z=>z.elim) fun _ _ z=>z
    | brk=>obtain ⟨_,_,_,z⟩:=z; exact z.elim
    | cont=>obtain ⟨_,_,_,z⟩:=z; exact z.elim
    | ret u=>obtain ⟨_,_,_,_,_,z⟩:=z; exact z.elim
   | _=>simp [nxX,hF] at q
noncomputable def ifX (tc:Rho->Option Bool) (fx gx:Rho->Option Str):Rho->Option Str:=fun ρ=>(tc ρ).bind fun x=>if x=true then fx ρ else gx ρ
noncomputable def ajG:Rho->Option Str:=fun _=>none
theorem QO:ab4 X sts ajG:=by
 with_unfolding_all
  intro s σ H ρ c I en q k
  cases q
theorem aeQ {l r:List Stmt}{tc:Rho->Option Bool} (hc:PTD X a tc) (hl:ab4 X l fx) (hr:ab4 X r gx):PSX X (.If a l r pos) (ifX tc fx gx):=by
 with_unfolding_all
  intro s σ H ρ c I en q k
  cases ht:tc ρ with
  | none=>simp [ifX,ht] at q
  | some x=>
   refine wpAny_If (wpAny_mono (hc [] s σ H (fun b H'=>b=x/\jt H H') I ⟨ρ,x,en,ht,fun H' s1=>⟨rfl,s1⟩⟩) (fun d s1 z=>?_) fun _ _ z=>z)
   obtain ⟨H1,I1,rfl,s1'⟩:=z
   cases d with
   | true=>exact hl s1 σ H1 ρ c I1 (en.mono s1') (by simpa [ifX,ht] using q) fun ev s' t=>k ev s' (t.mono s1')
   | false=>exact hr s1 σ H1 ρ c I1 (en.mono s1') (by simpa [ifX,ht] using q) fun ev s' t=>k ev s' (t.mono s1')
theorem anD (h:PDX X e fx):PSX X (.Return (some e) pos) fx:=by
 with_unfolding_all
  intro s σ H ρ c I en q k
  exact wpAny_Return_some (wpAny_mono (h s σ H ρ c I en q k) (fun _ _ z=>z.elim) fun _ _ z=>z)
theorem Je (h:PDX X e fx) (hs:swapsWith e none pos.line X.env=pure false:=by rfl):PSX X (.Expr e pos) fx:=by
 with_unfolding_all
  intro s σ H ρ c I en q k
  exact wpAny_Expr_any (wpAny_mono (h s σ H ρ c I en q k) (fun _ _ z=>z.elim) fun _ _ z=>z) I.quiet hs
theorem aiy {x:Str}{pos':Pos} (h:PDX X e fx) (hs:swapsWith e (some (.Name x pos')) pos.line X.env=pure false:=by rfl):PSX X (.Assign [.Name x pos'] e pos) fx:=by
 with_unfolding_all
  intro s σ H ρ c I en q k
  exact wpAny_Assign_Name (wpAny_mono (h s σ H ρ c I en q k) (fun _ _ z=>z.elim) fun _ _ z=>z) hs
end
noncomputable def ajH (K:PySem.W.Frag) (mg:Str->Option Value) (n:Nat) (gx:List PyData->Option Str):Sp:=fun vs H _ E=>∃ ds c,ds.length=n/\Reps K H ds vs/\gx ds=some c/\∀ C H',mg c=some (.ref C)->jt H H'->E (.ref C) none H'
noncomputable def Jf (P:Program) (w:World) (K:PySem.W.Frag) (mg:Str->Option Value) (base:Heap) (x:Str) (ps:List Str) (k n:Nat) (gx:List PyData->Option Str):Prop:=
 ∃ (f:Addr) (fd:FuncData),FnOk P w K mg base (CXt P w) k f fd ps (ajH K mg n gx)/\mg x=some (.ref f)/\PySem.W.keepIn K (.ref f)=true/\aax K fd ps []
section
variable {X:Cx}{e a b c:Expr}{es:List Expr}{st:Stmt}{sts qg:List Stmt}{fx gx:Rho->Option Str}{F:Rho->Option Out}{pos:Pos}
theorem q0 {k j n:Nat}{ps:List Str}{g:List PyData->Option Str}{x:Str}{p:Pos}{fr:Rho->Option (List PyData)} (hxe:X.ex=[]) (C:Jf X.prog X.w X.K X.mg X.base x ps k n g) (hr:Room j X.A) (hkj:k<=j) (ha:PAD X (e::es) fr) (hl:∀ ρ ds,fr ρ=some ds->ds.length=n)
  (hg:Gl X x:=by rfl) (hdb:(x == ("__debug__":Str))=false:=by decide) (he:starEach (e::es) X.env=(false,eval e X.env)::starEach es X.env:=by rfl)
  (hpl:(backTo pos (starEach es X.env)).any (·.1)=false:=by rfl):PDX X (.Call (.Name x p) (e::es) [] pos) (fun ρ=>(fr ρ).bind g):=by
 with_unfolding_all
  intro s σ H ρ c I en q k'
  obtain ⟨f,fd,F,hm,hk,hb⟩:=C
  cases hd:fr ρ with
  | none=>simp [hd] at q
  | some ds=>
   have q':g ds=some c:=by simpa [hd] using q
   refine wpAny_Call_Name_kw (aau I hg hm ?_ hdb)
   refine PySem.W.callWith_K (h₀:=X.base) I.ok.mod.kin hk (thn (ha pos [] s σ H (fun vs H1=>jt H H1/\Reps X.K H1 ds vs) I ⟨ρ,ds,en,hd,fun vs H1 s1 r1=>⟨s1,r1⟩⟩) fun us s1 ⟨vs,H1,I1,r,sm,rd⟩=>⟨I1.kIn,?_⟩) he hpl
   have hsp:ajH X.K X.mg n g vs H1 (fun _ _=>False) (fun cls _ H'=>X.mg c=some cls/\jt H1 H')->vs.length=ps.length:=fun z=>F.len _ _ _ _ z
   by_cases hn:ds.length=n
   ·have sp:ajH X.K X.mg n g vs H1 (fun _ _=>False) (fun cls _ H'=>X.mg c=some cls/\jt H1 H'):=⟨ds,c,hn,rd,q',fun C H' hC s2=>⟨hC,s2⟩⟩
    have hlu:(us++[]).length=ps.length:=by rw [List.append_nil,←r.length]; exact hsp sp
    have hbd:=hb s1 us I1.kIn hlu
    rw [List.append_nil] at hbd
    refine wpAny_call (codeAny_mono (F.run X.A X.stack s1 H1 ⟨us,[]⟩ us vs _ _ (hr.mono hkj) I1.env0 hbd r sp) fun rs s' hq=>?_)
    cases rs with
    | error ev=>
     obtain ⟨e0,C,H',rfl,os,bare,un,hok,xc,hC,sm2⟩:=hq
     have J':Inv X [] σ H' s':=I1.call' (ch:=[]) os un hok bare fun b z=>nomatch z
     exact k' _ _ ⟨e0,C,σ,H',rfl,hC,J',sm.trans sm2,Xc.of hxe I1 xc⟩
    | ok fl=>
     cases fl with
     | ret u=>obtain ⟨v,H',_,_,_,_,_,z⟩:=hq; exact z.elim
     | next=>exact False.elim hq
     | brk=>exact False.elim hq
     | cont=>exact False.elim hq
   ·exact absurd (hl ρ ds hd) hn
theorem ZK {x m:Str}{k0:_}{np p3 cpos:Pos} (hxe:X.ex=[]) (hE:ajF X.K X.mg x) (hc:X.calm=true) (hg:Gl X x:=by rfl) (hdb:(x == ("__debug__":Str))=false:=by decide)
  (he:starEach [.Constant (.str m) k0 p3] X.env=[(false,eval (.Constant (.str m) k0 p3) X.env)]:=by rfl):PSX X (.Raise (some (.Call (.Name x np) [.Constant (.str m) k0 p3] [] cpos)) none pos) (fun _=>some x):=by
 with_unfolding_all
  intro s σ H ρ c I en q k
  cases q
  obtain ⟨C,hm,hex⟩:=hE
  obtain ⟨bm,N,nm,qn,bs,hdct,sn,sub,ab,col,dd,k0',k1,k2,k3,k5,mN,hC,hN,hni,TL⟩:=anC (h:=X.base) I.ok.mod.kin hex
  have hpl:(backTo cpos (starEach [.Constant (.str m) k0 p3] X.env)).any (·.1)=false:=by rw [he]; rfl
  refine wpAny_Raise_call_subT (C:=C) (nm:=nm) (q:=qn) (N:=N) (bs:=bs) (bm:=bm) (hdct:=hdct) (sn:=sn) (sub:=sub) (ab:=ab) (col:=col) (dd:=dd) (k0:=k0') (k1:=k1) (k2:=k2) (k3:=k3) (k5:=k5) PySem.F.excBase_ValueError (mN:=mN) (TL.hasType rfl) (I.ok.hd hc) hpl hni ?_
  refine wpAny_mono (aeu (pos:=np) hg hm (show jU (.ref C) (.ref C) from rfl) hdb [] s σ H (fun v H'=>v= .ref C/\H'=H) I ⟨rfl,rfl⟩) (fun v s1 ⟨y,H1,I1,r1,e1,e2⟩=>?_) fun _ _ z=>z
  subst e1; subst e2
  obtain rfl:v=Value.ref C:=r1
  refine ⟨rfl,?_⟩
  have pa:PA X [.Constant (.str m) k0 p3] _:=qM (X:=X) ako Jl he
  have hsp:=pa cpos [] s1 σ H1 (fun vs H'=>vs.length=1/\H'=H1) I1 ⟨rfl,rfl⟩
  rw [he] at hsp ⊢
  refine Calls.evalArgs_plain (wpAny_mono hsp (fun us s2 ⟨vs,H2,I2,r2,l2,e2⟩=>?_) fun _ _ z=>z)
  subst e2
  have kp:∀ b o,X.base.get? b=some o->s2.heap.get? b=some o:=fun b o e=>(I2.bs b o e).1
  refine ⟨rfl,?_,kp _ _ hC,hN.keeps kp,TL.keeps kp,fun h' e0 md=>?_⟩
  ·show us.length<=sizeLine
   rw [←r2.length,l2,sizeLine_eq]; decide
  ·obtain ⟨t,h1,h2,h3⟩:=md.there
   have I3:Inv X [] σ H2 { s2 with heap:=h' }:=I2.kept (t':=s2.toks) md.keeps
   have m0:=aaJ hxe I2 md.new
   exact k _ _ ⟨e0,C,σ,H2,rfl,hm,I3,jt.refl _,m0,_,_,h1,⟨rfl,rfl⟩,rfl,by simp,.inl rfl⟩
end
theorem alA {CX:CXT}{P:Program}{w:World}{K:PySem.W.Frag}{mg:Str->Option Value}{base:Heap}{k:Nat}{f:Addr}{name qual:Str}{params:Arguments}{body:List Stmt}{scope:Scope}{dV kV doc pm cdv ct oc:Value}{an od:Option Addr}
  {osl:Array (Option Value)} {N ps:List Str} {sp:Sp} (lk:K.lookup f=some ⟨oc,od,.func (PySem.W.fnOf name qual params body scope dV kV doc pm an cdv ct),osl⟩) (hcd:PySem.W.codeIn K cdv qual=true) (S:FnScope N ps scope)
  (len:∀ vs H Q E,sp vs H Q E->vs.length=ps.length)
  (hbody:∀ (A:Around) (outer:List Env) (s:Shared) (H:Hp) (vs:List V) (Q:VK) (E:XK) (s1:Shared),Room k (A.deeper (envOfC qual scope s.heap.objs.size f cdv))->sp vs H Q E->
   Inv (JF CX P w K mg base N qual scope f cdv A outer s H E) [] (L2.zQ N vs) H s1->
   wpAny (model P w) (A.deeper (envOfC qual scope s.heap.objs.size f cdv)) (execs body (envOfC qual scope s.heap.objs.size f cdv)) (SP (JF CX P w K mg base N qual scope f cdv A outer s H E) [] { nx:=fun _ H'=>Q .non H',rt:=Q }) (JF CX P w K mg base N qual scope f cdv A outer s H E).xe s1):
  FnOk P w K mg base CX (k+1) f (PySem.W.fnOf name qual params body scope dV kV doc pm an cdv ct) ps sp:=by
 refine ⟨len,fun A outer s H args us vs Q E hr e0 hb r hsp=>?_⟩
 have hl:=len _ _ _ _ hsp
 have KX:K.In s.heap:=e0.mod.kin.keeps fun b o e=>(e0.bs b o e).1
 have lim:s.heap.NoLimit:=e0.mod.nolimit.keeps fun b o e=>(e0.bs b o e).1
 have hkind:∀ y ∈ ps.zip us,scope.names.lookup y.1=some .local ∨ (scope.names.lookup y.1=some .cell/\((cellsFrom (s.heap.objs.size+1) scope.names []).lookup y.1).isSome=true):=fun ⟨n,v⟩ hy=>by
  rcases S.par n (List.of_mem_zip hy).1 with q | q
  ·exact .inl q
  ·exact .inr ⟨q,PySem.W.cellsFrom_some _ _ _ (.inl q)⟩
 refine codeAny_call_function hr.depth (KX _ _ lk) rfl S.co S.gen rfl (PySem.W.codeRec_of KX hcd) (hb _ _ _ _ ?_)
 refine wpAny_newFunctionEnv_cells S.kind hkind fun env he s1 x=>?_
 subst he
 refine ⟨lim.keeps x.toInCall.keep,codeAny_func ?_⟩
 have I:Inv (JF CX P w K mg base N qual scope f cdv A outer s H E) [] (L2.zQ N vs) H s1:=abf S hr.hd e0 hl r x
 refine wpAny_mono (hbody A outer s H vs Q E s1 (hr.deeper _) hsp I) (fun fl s' hs=>?_) fun e s' hs=>hs
 have fin:∀ {σ':St} {H':Hp} {v:V} {u:Value},Inv (JF CX P w K mg base N qual scope f cdv A outer s H E) [] σ' H' s'->jU v u->Q v H'->CE outer P w H s Q u s':=
  fun {σ' H' v u} J rv q=>⟨v,H',J.os,J.bare,J.base,J.hok,rv,q⟩
 cases fl with
 | ret u=>
  obtain ⟨v,σ',H',J,rv,q⟩:=hs
  exact fin J rv q
 | next=>
  obtain ⟨σ',H',J,q⟩:=hs
  exact fin (v:=V.non) (u:=Value.none) J rfl q
 | brk=>
  obtain ⟨_,_,_,q⟩:=hs
  exact False.elim q
 | cont=>
  obtain ⟨_,_,_,q⟩:=hs
  exact False.elim q
theorem alB {CX:CXT}{P:Program}{w:World}{K:PySem.W.Frag}{mg:Str->Option Value}{base:Heap}{N:List Str}{qual:Str}{scope:Scope}{f:Addr}{cd:Value}{A:Around}{outer:List Env}{s:Shared}{H:Hp}{E:XK}:Top0 (JF CX P w K mg base N qual scope f cd A outer s H E):=⟨rfl,rfl,rfl⟩
section
variable {P:Program}{w:World}{K:PySem.W.Frag}{mg:Str->Option Value}{base:Heap}
noncomputable def JV (N:List Str) (n:Nat) (Fx:Rho->Option Str) (ds:List PyData):Option Str:=if ds.length=n then Fx (jN N ds) else none
theorem QP {x qual:Str}{st:Stmt}{f:Addr}{fd:FuncData}{N ps:List Str}{k:Nat}{Fx:Rho->Option Str} (F:Fun K x qual st f fd) (S:FnScope N ps (jg st))
  (body:∀ (cdv:Value) (A:Around) (outer:List Env) (s:Shared) (H:Hp) (E:XK),Room k (A.deeper (envOfC qual (jg st) s.heap.objs.size f cdv))->ab4 (JF (CXt P w) P w K mg base N qual (jg st) f cdv A outer s H E) (jK st) Fx):
  FnOk P w K mg base (CXt P w) (k+1) f fd ps (ajH K mg ps.length (JV N ps.length Fx)):=by
 with_unfolding_all
  obtain ⟨oc,od,kV,doc,pm,an,cdv,ct,osl,rfl,lk,hcd⟩:=F.ex
  refine alA lk hcd S (fun vs H Q E h=>?_) fun A outer s H vs Q E s1 hr h I=>?_
  ·obtain ⟨ds,c,h1,h2,_⟩:=h
   rw [h2.length]; exact h1
  ·obtain ⟨ds,c,h1,h2,h3,h4⟩:=h
   unfold JV at h3
   rw [if_pos h1] at h3
   refine wpAny_mono (body cdv A outer s H E hr s1 (L2.zQ N vs) H (jN N ds) c I (ZH h2) h3 fun ev s' t=>?_) (fun _ _ z=>z.elim) fun _ _ z=>z
   obtain ⟨e,C,σ',H',rfl,hC,J,sm,xc⟩:=t
   have T0:Top0 (JF (CXt P w) P w K mg base N qual (jg st) f cdv A outer s H E):=alB
   show wpAny (model P w) (A.deeper (envOfC qual (jg st) s.heap.objs.size f cdv)) (leaving (envOfC qual (jg st) s.heap.objs.size f cdv) (.ref e)) (fun _ s''=>CXt P w outer H s E (.ref e) s'') (fun e' s''=>CXt P w outer H s E e' s'') s'
   have n1:=aeP (E:=fun _ _=>False) (A:=A.deeper (envOfC qual (jg st) s.heap.objs.size f cdv)) T0 J.ok.frames J xc
   unfold leaving
   refine wpAny_bind (wpAny_mono n1 (fun _ s2 ⟨J2,t2⟩=>?_) fun _ _ z=>z.elim)
   have n2:=Qo (E:=fun _ _=>False) (A:=A.deeper (envOfC qual (jg st) s.heap.objs.size f cdv)) none J2 t2
   refine wpAny_mono n2 (fun _ s3 ⟨J3,t3⟩=>?_) fun _ _ z=>z.elim
   obtain ⟨oe,ws,T,oT,ts,g1,g2,g3,g4,g5,g6,g7,g8,g9⟩:=t3.ob
   exact ⟨e,C,H',rfl,J3.os,J3.bare,J3.base,J3.hok,⟨t3.mine.un,t3.mine.new,oe,ws,T,oT,ts,g1,g2,g3,g4,g5,g6.un,g6.new,g7,g8,g9⟩,h4 C H' hC sm⟩
end
theorem Inv.asA {X:Cx}{pins:List (Addr × Obj)}{σ:St}{H:Hp}{s:Shared}{A:Around}{cm:Bool}{xe:Value->Shared->Prop} (I:Inv X pins σ H s) (hf:A.frames=some X.stack) (hd:cm=true->A.handled=none):Inv { X with A:=A,calm:=cm,xe:=xe } pins σ H s:=
 ⟨⟨I.ok.mod,I.ok.kind,I.ok.glob,I.ok.blt,I.ok.above,I.ok.inj,I.ok.has,I.ok.cab,hd,hf,I.ok.stk,I.ok.exf,I.ok.bs,I.ok.bsz,I.ok.noex,I.ok.exfs,I.ok.funs,I.ok.frf⟩,I.os,I.bare,I.base,I.loc,I.cell,I.free,I.freeC,I.pin,I.hok,I.len⟩
theorem Inv.ofA {X:Cx}{pins:List (Addr × Obj)}{σ:St}{H:Hp}{s:Shared}{A:Around}{cm:Bool}{xe:Value->Shared->Prop} (ok:X.Ok) (I:Inv { X with A:=A,calm:=cm,xe:=xe } pins σ H s):Inv X pins σ H s:=
 ⟨ok,I.os,I.bare,I.base,I.loc,I.cell,I.free,I.freeC,I.pin,I.hok,I.len⟩
theorem Mine.unwish {X:Cx}{E:Value->Shared->Prop}{H:Hp}{b:Addr} (m:Mine (X.wish E) H b):Mine X H b:=⟨m.un,m.new,m.loc,m.cel,m.pin⟩
theorem Xc.unwish {X:Cx}{E:Value->Shared->Prop}{H:Hp}{h:Heap}{e C:Addr} (x:Xc (X.wish E) H h e C):Xc X H h e C:=by
 obtain ⟨oe,vs,h1,h2,h3,h4,h5⟩:=x.ob
 refine ⟨x.mine.unwish,oe,vs,h1,h2,h3,h4,?_⟩
 rcases h5 with q | ⟨T,oT,ts,q1,q2,q3,q4⟩
 ·exact .inl q
 ·exact .inr ⟨T,oT,ts,q1,q2,q3.unwish,q4⟩
@[irreducible] noncomputable def PS0 (X:Cx) (st:Stmt) (F:Rho->Option Out):Prop:=∀ (s:Shared) (σ:St) (H:Hp) (D:Ends),Inv X [] σ H s->tDS X.K F D σ H->wpAny (model X.prog X.w) X.A (exec st X.env) (SP X [] D) X.xe s
@[irreducible] noncomputable def alC (X:Cx) (sts:List Stmt) (F:Rho->Option Out):Prop:=∀ (s:Shared) (σ:St) (H:Hp) (D:Ends),Inv X [] σ H s->tDS X.K F D σ H->wpAny (model X.prog X.w) X.A (execs sts X.env) (SP X [] D) X.xe s
section
variable {X:Cx}{st:Stmt}{sts qg tb hb:List Stmt}{F G:Rho->Option Out}{pos:Pos}
theorem anE (h:Z9 X sts F):alC X sts F:=by
 with_unfolding_all
  exact fun s σ H D I t=>h [] s σ H D I t
theorem ajI (h1:PS0 X st F) (h2:alC X qg G):alC X (st::qg) (jV F G):=by
 with_unfolding_all
  intro s σ H D I ⟨ρ,o,en,q,k⟩
  cases hF:F ρ with
  | none=>simp [jV,hF] at q
  | some o1=>
   cases o1 with
   | nx ρ1=>
    have q':G ρ1=some o:=by simpa [jV,hF] using q
    refine wpAny_execs_cons (thn (h1 s σ H { D with nx:=fun σ' H'=>jt H H'/\EnvR X.K H' ρ1 σ' } I ⟨ρ,.nx ρ1,en,hF,fun σ' H' s1 e1=>⟨s1,e1⟩⟩) fun f s1 z=>?_)
    cases f with
    | next=>
     obtain ⟨σ',H',I',sm,e1⟩:=z
     exact h2 s1 σ' H' D I' ⟨ρ1,o,e1,q',k.mono sm⟩
    | brk=>exact z
    | cont=>exact z
    | ret u=>exact z
   | rt d=>
    have q':Out.rt d=o:=by simpa [jV,hF] using q
    subst q'
    refine wpAny_execs_cons (thn (h1 s σ H { D with nx:=fun _ _=>False } I ⟨ρ,.rt d,en,hF,k⟩) fun f s1 z=>?_)
    cases f with
    | next=>obtain ⟨_,_,_,z⟩:=z; exact z.elim
    | brk=>exact z
    | cont=>exact z
    | ret u=>exact z
   | bk ρ1=>
    have q':Out.bk ρ1=o:=by simpa [jV,hF] using q
    subst q'
    refine wpAny_execs_cons (thn (h1 s σ H { D with nx:=fun _ _=>False } I ⟨ρ,.bk ρ1,en,hF,k⟩) fun f s1 z=>?_)
    cases f with
    | next=>obtain ⟨_,_,_,z⟩:=z; exact z.elim
    | brk=>exact z
    | cont=>exact z
    | ret u=>exact z
   | ct ρ1=>
    have q':Out.ct ρ1=o:=by simpa [jV,hF] using q
    subst q'
    refine wpAny_execs_cons (thn (h1 s σ H { D with nx:=fun _ _=>False } I ⟨ρ,.ct ρ1,en,hF,k⟩) fun f s1 z=>?_)
    cases f with
    | next=>obtain ⟨_,_,_,z⟩:=z; exact z.elim
    | brk=>exact z
    | cont=>exact z
    | ret u=>exact z
end
section
variable {X:Cx}{st b0:Stmt}{sts qg tb hb:List Stmt}{F G:Rho->Option Out}{fx:Rho->Option Str}{pos:Pos}
noncomputable def aaf (n:Nat):Rho:=List.replicate n none
noncomputable abbrev hX (X:Cx) (e:Addr):Cx:={ X with A:=X.A.mark (some (.ref e)),calm:=false,xe:=fun _ _=>False }
theorem SP.ofA {A:Around}{cm:Bool}{xe:Value->Shared->Prop}{D:Ends}{f:Flow}{s':Shared} (ok:X.Ok) (h:SP { X with A:=A,calm:=cm,xe:=xe } [] D f s'):SP X [] D f s':=by
 cases f with
 | next=>obtain ⟨σ',H',I,q⟩:=h; exact ⟨σ',H',Inv.ofA ok I,q⟩
 | brk=>obtain ⟨σ',H',I,q⟩:=h; exact ⟨σ',H',Inv.ofA ok I,q⟩
 | cont=>obtain ⟨σ',H',I,q⟩:=h; exact ⟨σ',H',Inv.ofA ok I,q⟩
 | ret u=>obtain ⟨v,σ',H',I,r,q⟩:=h; exact ⟨v,σ',H',Inv.ofA ok I,r,q⟩
end
section
variable {P:Program}{w:World}{K:PySem.W.Frag}{mg:Str->Option Value}{base:Heap}
theorem alD {x qual:Str}{st:Stmt}{f:Addr}{fd:FuncData}{N ps:List Str}{k:Nat}{B:Rho->Option Out} (F:Fun K x qual st f fd) (S:FnScope N ps (jg st))
  (body:∀ (cdv:Value) (A:Around) (outer:List Env) (s:Shared) (H:Hp) (E:XK),Room k (A.deeper (envOfC qual (jg st) s.heap.objs.size f cdv))->alC (JF CX0 P w K mg base N qual (jg st) f cdv A outer s H E) (jK st) B):
  FnOk P w K mg base CX0 (k+1) f fd ps (Pur K ps.length (jC N ps.length B)):=by
 with_unfolding_all
  obtain ⟨oc,od,kV,doc,pm,an,cdv,ct,osl,rfl,lk,hcd⟩:=F.ex
  refine alA lk hcd S (fun vs H Q E h=>?_) fun A outer s H vs Q E s1 hr h I=>?_
  ·obtain ⟨ds,d,h1,h2,_⟩:=h
   rw [h2.length]; exact h1
  ·obtain ⟨ds,d,h1,h2,h3,h4⟩:=h
   unfold jC at h3
   rw [if_pos h1] at h3
   cases hB:B (jN N ds) with
   | none=>rw [hB] at h3; cases h3
   | some o=>
    rw [hB] at h3
    refine body cdv A outer s H E hr s1 (L2.zQ N vs) H _ I ⟨jN N ds,o,ZH h2,hB,?_⟩
    cases o with
    | rt c=>cases h3; exact fun v H' sm r=>h4 v H' sm r
    | nx ρ=>cases h3; exact fun σ H' sm e=>h4 .non H' sm rfl
    | bk ρ=>cases h3
    | ct ρ=>cases h3
end
theorem aaK {t sl:Addr}{items:Array Value}{vl vu:Value}{lo hi:Option Int}{Q:Value->Shared->Prop} (ht:IsTup s.heap t items) (hs:s.heap.IsSliceOf sl vl vu .none) (pl:IsPart vl lo) (pu:IsPart vu hi)
  (hw:HT.sIx items.size 0 lo=0/\HT.sIx items.size items.size hi=items.size) (h:Q (.ref t) s):wpAny (model prog w) A (getItem (.ref t) (.ref sl)) Q E s:=by
 obtain ⟨os,hos,hcs,hds⟩:=id hs
 have hTs:s.TypeIs (.ref sl) "slice":=⟨os,hos,hcs⟩
 unfold getItem
 first | (with_reducible refine wpAny_holding ?_) | skip
 first | refine wpAny_bind (wpAny_pure ?_) | skip
 refine wpAny_bind (wpAny_sequenceKey ht.typeIs (by decide) ?_)
 refine wpAny_bind (wpAny_callSpecial?_slot (name:=Str.ofString "__getitem__") ht.typeIs PyProof.Rows.slot_tuple_getitem (wpAny_call_entry PyProof.Rows.slot_tuple_getitem ht.typeIs entry_tuple_getitem ?_ (args_tuple_getitem _ _)))
 show wpAny _ _ (Builtin.Tuple.tupleItemsOf (.ref t) >>= _) _ _ s
 refine wpAny_bind (tupleItemsOf_ ht (wpAny_bind (wpAny_typeOf hTs ?_)))
 rw [if_pos (show (Value.type "slice" == Value.type "slice")=true by decide)]
 refine wpAny_bind (HT.sliceApplied_gen hs pl pu ?_)
 rw [hw.1,hw.2]
 have hyes:((((0:Nat):Int) == 0 && (1:Int) == 1 && (items.size - 0) == items.size)=true):=by simp
 show wpAny _ _ (if ((((0:Nat):Int) == 0 && (1:Int) == 1 && (items.size - 0) == items.size)=true) then _ else _) _ _ s
 rw [if_pos hyes]
 obtain ⟨o,ho,hc,hd⟩:=id ht
 have hT:s.TypeIs (.ref t) "tuple":=⟨o,ho,hc⟩
 have ex:∀ {R:Bool->Shared->Prop} {A':Around} {E':Value->Shared->Prop},R true s->wpAny (model prog w) A' (Builtin.Tuple.tupleIsExact (.ref t)) R E' s:=fun {R A' E'} hR=>by
  unfold Builtin.Tuple.tupleIsExact
  first
   | exact wpAny_bind (wpAny_typeOf hT (wpAny_pure hR))
   | (wp_walk; exact hR)
 first
  | exact wpAny_bind (ex (wpAny_bind (wpAny_rule (wpAny_pure ⟨_,rfl,wpAny_pure h⟩))))
  | exact wpAny_bind (ex (by rw [if_pos rfl]; exact wpAny_bind (wpAny_rule (wpAny_pure ⟨_,rfl,wpAny_pure h⟩))))
  | (refine wpAny_bind (ex ?_); wp_walk; exact ⟨_,rfl,wpAny_pure h⟩)
  | (refine wpAny_bind (wpAny_bind (ex ?_)); wp_walk; exact ⟨_,rfl,wpAny_pure h⟩)
section
variable {X:Cx}{e a b c:Expr}{fa fb fc:Rho->Option PyData}{pos p2:Pos}
noncomputable def aqU (K:PySem.W.Frag):V->Option Int->Option Int->Hp->VK->Prop:=fun x lo hi H Q=>∃ a xs,x= .ref a/\SqT K H a xs/\(HT.sIx xs.length 0 lo=0/\HT.sIx xs.length xs.length hi=xs.length)/\Q (.ref a) H
theorem af1:SlR X (aqU X.K):=by
 intro pins s σ H x v vl vu lo hi sl Q I rx hs pl pu h
 obtain ⟨a,xs,rfl,hx,hw,q⟩:=h
 cases rx
 obtain ⟨its,r,ht,hz⟩:=I.tuple hx
 have hlen:its.toArray.size=xs.length:=by rw [List.size_toArray]; exact r.length.symm
 exact ⟨"tuple",_,PyProof.Rows.slot_tuple_getitem.lookup,ht.typeIs,aaK ht hs pl pu (by rw [hlen]; exact hw) ⟨.ref a,H,I,rfl,q⟩⟩
noncomputable def ads (p:PyData) (lo hi:Option Int):Option PyData:=match p with
 | .tuple ds=>some (.tuple (adp ds lo hi))
 | _=>none
theorem alE {K:PySem.W.Frag}{p d:PyData}{lo hi:Option Int}{x:V}{H:Hp}{Q:VK} (h:ads p lo hi=some d) (r:Rep K H p x) (k:∀ v H',jt H H'->Rep K H' d v->Q v H'):aqw K x lo hi H Q ∨ aqU K x lo hi H Q:=by
 unfold ads at h
 split at h
 ·rename_i ds
  cases h
  obtain ⟨a,xs,e1,e2,e3⟩:=r
  have hl:=e3.length
  have rr:Reps K H (adp ds lo hi) (aez xs lo hi):=by
   unfold aez adp
   rw [hl]
   exact (e3.drop _).take _
  by_cases hw:HT.sIx xs.length 0 lo=0/\HT.sIx xs.length xs.length hi=xs.length
  ·refine .inr ⟨a,xs,e1,e2,hw,k _ H (jt.refl H) ⟨a,xs,rfl,e2,?_⟩⟩
   have ex:aez xs lo hi=xs:=by unfold aez; rw [hw.1,hw.2]; simp
   rw [ex] at rr
   exact rr
  ·refine .inl ⟨a,xs,e1,e2,hw,fun q hq=>?_⟩
   have s1:=jA (o:= .tup (aez xs lo hi)) hq
   exact k _ _ s1 ⟨q,_,rfl,SqT.of jp,Reps.mono s1 _ _ rr⟩
 ·cases h
noncomputable def acQ (fa fb:Rho->Option PyData):Rho->Option PyData:=fun ρ=>(fa ρ).bind fun p=>(fb ρ).bind fun q=>(inI q).bind fun i=>ads p none (some i)
theorem af2 (ha:PD X a fa) (hb:PD X b fb):PD X (.Subscript a (.Slice none (some b) none p2) pos) (acQ fa fb):=by
 with_unfolding_all
  refine PE.imp (afB (akG.or af1) ha aig (aey hb)) fun σ H Q ⟨ρ,d,en,q,k⟩=>?_
  cases h1:fa ρ with
  | none=>simp [acQ,h1] at q
  | some y=>
   cases h2:fb ρ with
   | none=>simp [acQ,h1,h2] at q
   | some z=>
    cases h3:inI z with
    | none=>simp [acQ,h1,h2,h3] at q
    | some i=>
     have q':ads y none (some i)=some d:=by simpa [acQ,h1,h2,h3] using q
     have hz:=afU h3
     subst hz
     refine ⟨ρ,y,en,h1,fun v H1 s1 r1=>⟨ρ,_,en.mono s1,h2,fun u H2 s2 r2=>?_⟩⟩
     cases (show u=_ from r2)
     exact ⟨i,rfl,alE q' (Rep.mono s2 _ _ r1) fun v H' s r=>k v H' (s1.trans (s2.trans s)) r⟩
noncomputable def JW (fa fb:Rho->Option PyData):Rho->Option PyData:=fun ρ=>(fa ρ).bind fun p=>(fb ρ).bind fun q=>(inI q).bind fun i=>ads p (some i) none
theorem aan (ha:PD X a fa) (hb:PD X b fb):PD X (.Subscript a (.Slice (some b) none none p2) pos) (JW fa fb):=by
 with_unfolding_all
  refine PE.imp (afB (akG.or af1) ha (aey hb) aig) fun σ H Q ⟨ρ,d,en,q,k⟩=>?_
  cases h1:fa ρ with
  | none=>simp [JW,h1] at q
  | some y=>
   cases h2:fb ρ with
   | none=>simp [JW,h1,h2] at q
   | some z=>
    cases h3:inI z with
    | none=>simp [JW,h1,h2,h3] at q
    | some i=>
     have q':ads y (some i) none=some d:=by simpa [JW,h1,h2,h3] using q
     have hz:=afU h3
     subst hz
     refine ⟨ρ,y,en,h1,fun v H1 s1 r1=>⟨ρ,_,en.mono s1,h2,fun u H2 s2 r2=>?_⟩⟩
     cases (show u=_ from r2)
     exact ⟨i,rfl,alE q' (Rep.mono s2 _ _ r1) fun v H' s r=>k v H' (s1.trans (s2.trans s)) r⟩
end
section
variable {X:Cx}
end
section
variable {X:Cx}
end
section
variable {X:Cx}{e a b c:Expr}{fa fb fc:Rho->Option PyData}{pos p2:Pos}
end
section
variable {X:Cx}
noncomputable def Zp:Nat->List PyData->List PyData
 | _,[]=>[]
 | i,d::ds=> .tuple [.int (i:Int),d]::Zp (i+1) ds
theorem adW:∀ (xs:List PyData) (k:Nat),(Zp k xs).length=xs.length
 | [],_=>rfl
 | _::xs,k=>by simp [Zp,adW xs]
theorem adX:∀ (xs:List PyData) (k i:Nat) (d:PyData),(Zp k xs)[i]?=some d->∃ x,xs[i]?=some x/\d= .tuple [.int ((k+i:Nat):Int),x]
 | [],_,_,_,h=>by simp [Zp] at h
 | x::xs,k,0,d,h=>by simp [Zp] at h; exact ⟨x,rfl,h.symm⟩
 | x::xs,k,i+1,d,h=>by
  simp only [Zp,zzB] at h
  obtain ⟨y,h1,h2⟩:=adX xs (k+1) i d h
  exact ⟨y,by simpa using h1,by rw [h2,show k+1+i=k+(i+1) by omega]⟩
end
section
variable {X:Cx}{e:Expr}{es:List Expr}{pos p:Pos}
noncomputable def zw (x:Str):PyData->Bool
 | .dict [(.str y,.none)]=>decide (y=x)
 | _=>false
theorem af3 {x:Str}{d:PyData} (h:zw x d=true):d=fnD x:=by
 unfold zw at h
 split at h
 ·rw [of_decide_eq_true h]; rfl
 ·cases h
@[simp] theorem za (x:Str):zw x (fnD x)=true:=by simp [zw,fnD]
theorem aiz {K:PySem.W.Frag}{H:Hp}{x:Str}{v:V} (h:Rep K H (fnD x) v):∃ a,v= .ref a/\PySem.W.nsIn K mainGlobals x=some (some (.ref a)):=by
 obtain ⟨a,h1,⟨ns,h2,h3⟩ | ⟨ks,ob,h2,h3⟩ | ⟨y,h2,h3⟩ | ⟨y,_,_,h2,_⟩⟩:=h
 ·cases ns with
  | nil=>cases h3
  | cons n ns=>cases h3
 ·exact h3.elim
 ·cases h2
  exact ⟨a,h1,h3⟩
 ·cases h2
end
section
variable {X:Cx}{e a b c:Expr}{es:List Expr}{fa:Rho->Option PyData}{fx gx:Rho->Option Str}{pos:Pos}
end
section
variable {X:Cx}{own:Option Nat}{e a b c tg src:Expr}{es:List Expr}{st:Stmt}{sts qg body:List Stmt}{fx gx:Rho->Option Str}{F:Rho->Option Out}{fa:Rho->Option PyData}{pos:Pos}
theorem Thr.unwish {W:Value->Shared->Prop}{Hb Hs:Hp}{c:Str}{ev:Value}{s':Shared} (sb:∀ H3,jt Hb H3->jt Hs H3) (h:Thr (X.wish W) Hb c ev s'):Thr X Hs c ev s':=by
 obtain ⟨e,C,σ',H',h1,h2,h3,h4,h5⟩:=h
 exact ⟨e,C,σ',H',h1,h2,h3.unwish,sb _ h4,h5.unwish⟩
end
section
variable {X:Cx}{e a b c:Expr}{es:List Expr}{st:Stmt}{sts qg:List Stmt}{fx gx:Rho->Option Str}{F:Rho->Option Out}{pos p:Pos}
noncomputable def orX (fx gx:Rho->Option Str):Rho->Option Str:=fun ρ=>match fx ρ with
 | some c=>some c
 | none=>gx ρ
theorem aaL (h1:ab4 X sts fx) (h2:ab4 X sts gx):ab4 X sts (orX fx gx):=by
 with_unfolding_all
  intro s σ H ρ c I en q k
  cases hf:fx ρ with
  | some c'=>
   have:c'=c:=by simpa [orX,hf] using q
   subst this
   exact h1 s σ H ρ c' I en hf k
  | none=>exact h2 s σ H ρ c I en (by simpa [orX,hf] using q) k
end
section
variable {X:Cx}{a b c:Expr}{tc ta tb:Rho->Option Bool}{pos:Pos}
end
section
variable {X:Cx}{a b:Expr}{fa fb:Rho->Option PyData}
theorem acR:∀ {is:List Bool}{us:List Value},jI (is.map V.bl) us->us=is.map Value.bool
 | [],us,r=>by cases r; rfl
 | i0::is,u::us,.cons r rr=>by
  rw [List.map_cons,←acR rr,show u=Value.bool i0 from r]
noncomputable def ajJ (k:Bool):Value->Bool
 | .bool i=>i == k
 | _=>false
noncomputable def anF:V->List V->Hp->VK->Prop:=fun x vs H Q=>∃ (l:Addr) (is:List Bool) (k:Bool) (j:Nat),x= .ref l/\vs=[.bl k]/\H l=some (.lst (is.map V.bl))/\is.findIdx? (· == k)=some j/\Q (.int j) H
noncomputable def anG:V->List V->Hp->VK->Prop:=fun x vs H Q=>∃ (l:Addr) (is:List Bool) (k:Bool),x= .ref l/\vs=[.bl k]/\H l=some (.lst (is.map V.bl))/\Q (.int (is.countP (· == k))) H
theorem ajK:MtR X "list.index" anF:=by
 intro pins s σ H x vs v us Q I rx rv h
 obtain ⟨l,is,k,j,rfl,rfl,hH,hj,q⟩:=h
 cases rx
 obtain ⟨u,rfl,ru⟩:=jI.one rv
 cases (show u=Value.bool k from ru)
 obtain ⟨z,its,n,r,hl,e⟩:=I.lstM hH
 have hlen:=r.length
 simp only [List.length_map] at hlen
 have hits:=acR r
 subst hits
 obtain ⟨hj1,hj2,hj3⟩:=List.findIdx?_eq_some_iff_getElem.mp hj
 have hln:=acu
 have z':=z
 rw [List.length_map] at z'
 refine call_meets F.slot_list_index ⟨_,e,rfl⟩ F.entry_list_index (F.args_list_index_2 _ _) (SeqAt.list_indexAt l (is.map Value.bool).toArray n none #[] (.bool k) (ajJ k) j (by simp; omega) ?_ ?_ ?_) ⟨e,?_,?_⟩
 ·omega
 ·simp [ajJ]; exact beq_iff_eq.mp hj2
 ·intro m hm hmj
  simp [ajJ]
  have:=hj3 m hmj
  exact fun z=>this (by rw [z]; exact beq_self_eq_true k)
 ·intro y hy
  have hy':y ∈ is.map Value.bool:=by simpa using hy
  obtain ⟨i,_,rfl⟩:=List.mem_map.mp hy'
  exact SeqAt.EqAt.bool_bool _ _
 ·exact ⟨.int j,H,I.tok _,⟨_,rfl⟩,q⟩
theorem ajL:MtR X "list.count" anG:=by
 intro pins s σ H x vs v us Q I rx rv h
 obtain ⟨l,is,k,rfl,rfl,hH,q⟩:=h
 cases rx
 obtain ⟨u,rfl,ru⟩:=jI.one rv
 cases (show u=Value.bool k from ru)
 obtain ⟨z,its,n,r,hl,e⟩:=I.lstM hH
 have hits:=acR r
 subst hits
 have hc:((is.map Value.bool).toArray.toList.countP (ajJ k))=is.countP (· == k):=by
  show (is.map Value.bool).countP (ajJ k)=_
  rw [List.countP_map]; rfl
 refine call_meets F.slot_list_count ⟨_,e,rfl⟩ F.entry_list_count (F.args_list_count_2 _ _) (SeqAt.list_countAt l (is.map Value.bool).toArray n none #[] (.bool k) (ajJ k)) ⟨e,?_,?_⟩
 ·intro y hy
  have hy':y ∈ is.map Value.bool:=by simpa using hy
  obtain ⟨i,_,rfl⟩:=List.mem_map.mp hy'
  exact SeqAt.EqAt.bool_bool _ _
 ·exact ⟨.int (is.countP (· == k)),H,I.tok _,⟨_,by rw [←hc]⟩,q⟩
noncomputable def af4:List PyData->Option (List Bool)
 | []=>some []
 | .bool i::r=>(af4 r).map (i::·)
 | _=>none
theorem ahy {K:PySem.W.Frag}{H:Hp}:∀ {ds:List PyData}{is:List Bool}{xs:List V},af4 ds=some is->Reps K H ds xs->xs=is.map V.bl
 | [],is,xs,h,r=>by cases h; exact r
 | d::ds,is,xs,h,r=>by
  obtain ⟨x,ys,e1,e2,e3⟩:=r
  cases d with
  | bool i=>
   simp only [af4,Option.map_eq_some_iff] at h
   obtain ⟨js,h1,h2⟩:=h
   subst h2
   cases (show x=_ from e2)
   rw [e1,ahy h1 e3]; rfl
  | _=>simp [af4] at h
noncomputable def aeR (p q:PyData):Option PyData:=match p,q with
 | .list ds,.bool k=>(af4 ds).bind fun is=>(is.findIdx? (· == k)).map fun (j:Nat)=>PyData.int j
 | _,_=>none
noncomputable def aeS (p q:PyData):Option PyData:=match p,q with
 | .list ds,.bool k=>(af4 ds).map fun is=>PyData.int (is.countP (· == k))
 | _,_=>none
theorem ajM {apos cpos:Pos} (ha:PD X a fa) (hb:PD X b fb) (hbase:attributeBase a "index" X.env (eval a X.env)=eval a X.env:=by rfl)
  (hfew:((backTo cpos (starEach [b] X.env)).all (fun x=>!x.1) && (backToKw cpos (keywordEach [] X.env)).all (fun x=>x.1.isSome) && decide ([b].length+([]:List Keyword).length+(if ([]:List Keyword).isEmpty then 0 else 1) < 30))=true:=by rfl)
  (hline:(apos.endLine == cpos.line)=true:=by rfl) (hs:starEach [b] X.env=(false,eval b X.env)::starEach [] X.env:=by rfl) (hplain:(backTo cpos (starEach [] X.env)).any (fun x=>x.1)=false:=by rfl):
  PD X (.Call (.Attribute a "index" apos) [b] [] cpos) (op2 aeR fa fb):=by
 with_unfolding_all
  refine PE.imp (afD PySem.F.plainAttrs_list PySem.F.slot_list_index PySem.F.type_list_index ajK ha (qM hb Jl hs) hbase hfew hline hs hplain) fun σ H Q ⟨ρ,d,en,h,k⟩=>?_
  cases h1:fa ρ with
  | none=>simp [op2,h1] at h
  | some p=>
   cases h2:fb ρ with
   | none=>simp [op2,h1,h2] at h
   | some q=>
    have h':aeR p q=some d:=by simpa [op2,h1,h2] using h
    unfold aeR at h'
    split at h'
    ·rename_i ds n
     cases h3:af4 ds with
     | none=>simp [h3] at h'
     | some is=>
      cases h4:is.findIdx? (· == n) with
      | none=>simp [h3,h4] at h'
      | some j=>
       simp only [h3,h4,zzD,zzE,Option.some.injEq] at h'
       subst h'
       refine ⟨ρ,_,en,h1,fun v H1 s1 r1=>?_⟩
       obtain ⟨l,xs,e1,e2,e3⟩:=r1
       subst e1
       refine ⟨.inl ⟨rfl,xs,SqL.of e2⟩,ρ,_,en.mono s1,h2,fun y H2 s2 r2=>?_⟩
       cases (show y=V.bl n from r2)
       refine ⟨l,is,n,j,rfl,rfl,?_,h4,k _ H2 (s1.trans s2) rfl⟩
       rw [←ahy h3 e3]
       exact s2 _ _ e2
    ·cases h'
theorem ajN {apos cpos:Pos} (ha:PD X a fa) (hb:PD X b fb) (hbase:attributeBase a "count" X.env (eval a X.env)=eval a X.env:=by rfl)
  (hfew:((backTo cpos (starEach [b] X.env)).all (fun x=>!x.1) && (backToKw cpos (keywordEach [] X.env)).all (fun x=>x.1.isSome) && decide ([b].length+([]:List Keyword).length+(if ([]:List Keyword).isEmpty then 0 else 1) < 30))=true:=by rfl)
  (hline:(apos.endLine == cpos.line)=true:=by rfl) (hs:starEach [b] X.env=(false,eval b X.env)::starEach [] X.env:=by rfl) (hplain:(backTo cpos (starEach [] X.env)).any (fun x=>x.1)=false:=by rfl):
  PD X (.Call (.Attribute a "count" apos) [b] [] cpos) (op2 aeS fa fb):=by
 with_unfolding_all
  refine PE.imp (afD PySem.F.plainAttrs_list PySem.F.slot_list_count PySem.F.type_list_count ajL ha (qM hb Jl hs) hbase hfew hline hs hplain) fun σ H Q ⟨ρ,d,en,h,k⟩=>?_
  cases h1:fa ρ with
  | none=>simp [op2,h1] at h
  | some p=>
   cases h2:fb ρ with
   | none=>simp [op2,h1,h2] at h
   | some q=>
    have h':aeS p q=some d:=by simpa [op2,h1,h2] using h
    unfold aeS at h'
    split at h'
    ·rename_i ds n
     cases h3:af4 ds with
     | none=>simp [h3] at h'
     | some is=>
      simp only [h3,zzE,Option.some.injEq] at h'
      subst h'
      refine ⟨ρ,_,en,h1,fun v H1 s1 r1=>?_⟩
      obtain ⟨l,xs,e1,e2,e3⟩:=r1
      subst e1
      refine ⟨.inl ⟨rfl,xs,SqL.of e2⟩,ρ,_,en.mono s1,h2,fun y H2 s2 r2=>?_⟩
      cases (show y=V.bl n from r2)
      refine ⟨l,is,n,rfl,rfl,?_,k _ H2 (s1.trans s2) rfl⟩
      rw [←ahy h3 e3]
      exact s2 _ _ e2
    ·cases h'
end
structure RoomH (k:Nat) (A:Around):Prop where
 dp:A.depth+3*k+5 < recursionLimit
 un:A.units+16*k+200 < cLine
theorem RoomH.deeper {k:Nat}{A:Around} (r:RoomH (k+1) A) (env:Env):RoomH k (A.deeper env):=
 ⟨by have:=r.dp; show A.depth+1+3*k+5 < _; omega,by have:=r.un; show A.units+3+16*k+200 < _; omega⟩
theorem Room.h {k:Nat}{A:Around} (r:Room k A):RoomH k A:=⟨r.dp,r.un⟩
theorem RoomH.mark {k:Nat}{A:Around}{v:Option Value} (r:RoomH k A):RoomH k (A.mark v):=⟨r.dp,r.un⟩
structure FnH (P:Program) (w:World) (K:PySem.W.Frag) (mg:Str->Option Value) (base:Heap) (k:Nat) (f:Addr) (fd:FuncData) (ps:List Str) (sp:Sp):Prop where
 len:∀ vs H Q E,sp vs H Q E->vs.length=ps.length
 run:∀ (A:Around) (outer:List Env) (s:Shared) (H:Hp) (args:Args) (us:List Value) (vs:List V) (Q:VK) (E:XK),RoomH k A->Env0 P w K mg base A outer s H->BindsTo s fd args (ps.zip us)->jI vs us->sp vs H Q E->
  codeAny (model P w) A (.call (.ref f) args) (CR CX0 outer P w H s Q E) s
noncomputable abbrev cxH (P:Program) (w:World) (K:PySem.W.Frag) (mg:Str->Option Value) (base:Heap) (N:List Str) (qual:Str) (scope:Scope) (f:Addr) (cd:Value) (A:Around) (outer:List Env) (s:Shared) (H:Hp) (E:XK):Cx:=
 { JF CX0 P w K mg base N qual scope f cd { A with handled:=none } outer s H E with A:=A.deeper (envOfC qual scope s.heap.objs.size f cd),calm:=false,xe:=fun _ _=>False }
noncomputable def aca (P:Program) (w:World) (K:PySem.W.Frag) (mg:Str->Option Value) (base:Heap) (x:Str) (ps:List Str) (k n:Nat) (g:List PyData->Option PyData):Prop:=
 ∃ (f:Addr) (fd:FuncData),FnH P w K mg base k f fd ps (Pur K n g)/\mg x=some (.ref f)/\PySem.W.keepIn K (.ref f)=true/\aax K fd ps []
section
variable {P:Program}{w:World}{K:PySem.W.Frag}{mg:Str->Option Value}{base:Heap}
theorem arE {x qual:Str}{st:Stmt}{f:Addr}{fd:FuncData}{N ps:List Str}{k:Nat}{B:Rho->Option Out} (F:Fun K x qual st f fd) (S:FnScope N ps (jg st))
  (body:∀ (cdv:Value) (A:Around) (outer:List Env) (s:Shared) (H:Hp) (E:XK),RoomH k (A.deeper (envOfC qual (jg st) s.heap.objs.size f cdv))->Z9 (cxH P w K mg base N qual (jg st) f cdv A outer s H E) (jK st) B):
  FnH P w K mg base (k+1) f fd ps (Pur K ps.length (jC N ps.length B)):=by
 with_unfolding_all
  obtain ⟨oc,od,kV,doc,pm,an,cdv,ct,osl,rfl,lk,hcd⟩:=F.ex
  have len:∀ vs H Q E,Pur K ps.length (jC N ps.length B) vs H Q E->vs.length=ps.length:=fun vs H Q E h=>by
   obtain ⟨ds,d,h1,h2,_⟩:=h
   rw [h2.length]; exact h1
  refine ⟨len,fun A outer s H args us vs Q E hr e0 hb r hsp=>?_⟩
  have hl:=len _ _ _ _ hsp
  have KX:K.In s.heap:=e0.mod.kin.keeps fun b o e=>(e0.bs b o e).1
  have lim:s.heap.NoLimit:=e0.mod.nolimit.keeps fun b o e=>(e0.bs b o e).1
  have hkind:∀ y ∈ ps.zip us,(jg st).names.lookup y.1=some .local ∨ ((jg st).names.lookup y.1=some .cell/\((cellsFrom (s.heap.objs.size+1) (jg st).names []).lookup y.1).isSome=true):=fun ⟨n,v⟩ hy=>by
   rcases S.par n (List.of_mem_zip hy).1 with q | q
   ·exact .inl q
   ·exact .inr ⟨q,PySem.W.cellsFrom_some _ _ _ (.inl q)⟩
  have hdp:A.depth < recursionLimit:=by have:=hr.dp; omega
  refine codeAny_call_function hdp (KX _ _ lk) rfl S.co S.gen rfl (PySem.W.codeRec_of KX hcd) (hb _ _ _ _ ?_)
  refine wpAny_newFunctionEnv_cells S.kind hkind fun env he s1 x=>?_
  subst he
  refine ⟨lim.keeps x.toInCall.keep,codeAny_func ?_⟩
  have e1:Env0 P w K mg base { A with handled:=none } outer s H:=⟨e0.frames,e0.mod,e0.bs,e0.bsz,e0.funs,e0.frf,e0.hok,e0.bare⟩
  have I0:Inv (JF CX0 P w K mg base N qual (jg st) f cdv { A with handled:=none } outer s H E) [] (L2.zQ N vs) H s1:=abf S rfl e1 hl r x
  have I:Inv (cxH P w K mg base N qual (jg st) f cdv A outer s H E) [] (L2.zQ N vs) H s1:=Inv.asA I0 I0.ok.frames (fun z=>nomatch z)
  obtain ⟨ds,d,h1,h2,h3,h4⟩:=hsp
  unfold jC at h3
  rw [if_pos h1] at h3
  cases hB:B (jN N ds) with
  | none=>rw [hB] at h3; cases h3
  | some o=>
   rw [hB] at h3
   have bd:=body cdv A outer s H E (hr.deeper _) [] s1 (L2.zQ N vs) H { nx:=fun _ H'=>Q .non H',rt:=Q } I ⟨jN N ds,o,ZH h2,hB,by
    cases o with
    | rt c=>cases h3; exact fun v H' sm r=>h4 v H' sm r
    | nx ρ=>cases h3; exact fun σ H' sm e=>h4 .non H' sm rfl
    | bk ρ=>cases h3
    | ct ρ=>cases h3⟩
   refine wpAny_mono bd (fun fl s' hs=>?_) fun e s' hs=>hs.elim
   have fin:∀ {σ':St} {H':Hp} {v:V} {u:Value},Inv (cxH P w K mg base N qual (jg st) f cdv A outer s H E) [] σ' H' s'->jU v u->Q v H'->CE outer P w H s Q u s':=
    fun {σ' H' v u} J rv q=>⟨v,H',J.os,J.bare,J.base,J.hok,rv,q⟩
   cases fl with
   | ret u=>
    obtain ⟨v,σ',H',J,rv,q⟩:=hs
    exact fin J rv q
   | next=>
    obtain ⟨σ',H',J,q⟩:=hs
    exact fin (v:=V.non) (u:=Value.none) J rfl q
   | brk=>
    obtain ⟨_,_,_,q⟩:=hs
    exact False.elim q
   | cont=>
    obtain ⟨_,_,_,q⟩:=hs
    exact False.elim q
end
section
variable {X:Cx}{e:Expr}{es:List Expr}{pos:Pos}
theorem alF {k n:Nat}{ps:List Str}{g:List PyData->Option PyData}{x:Str}{p:Pos}{fr:Rho->Option (List PyData)} (c:aca X.prog X.w X.K X.mg X.base x ps k n g) (hr:RoomH k X.A) (ha:PAD X (e::es) fr)
  (hl:∀ (ρ:Rho) (ds:List PyData),fr ρ=some ds->ds.length=n) (hn:(e::es).length=n:=by rfl) (hg:Gl X x:=by rfl) (hdb:(x == ("__debug__":Str))=false:=by decide) (he:starEach (e::es) X.env=(false,eval e X.env)::starEach es X.env:=by rfl)
  (hpl:(backTo pos (starEach es X.env)).any (·.1)=false:=by rfl):PD X (.Call (.Name x p) (e::es) [] pos) (jM g fr):=by
 with_unfolding_all
  obtain ⟨f,fd,F,hm,hk,hb⟩:=c
  have run:∀ {pins:List (Addr × Obj)} {σ:St} {H:Hp} {s:Shared} {Q:VK} {us:List Value} {vs:List V},Inv X pins σ H s->jI vs us->Pur X.K n g vs H Q (fun _ _ _=>False)->wpAny (model X.prog X.w) X.A (call (.ref f) us) (EP X pins σ Q) X.xe s:=by
   intro pins σ H s Q us vs I r h
   have hl:us.length=ps.length:=by rw [←r.length]; exact F.len _ _ _ _ h
   have hb':=hb s us I.kIn (by rw [List.append_nil]; exact hl)
   rw [List.append_nil] at hb'
   refine wpAny_call (codeAny_mono (F.run X.A X.stack s H ⟨us,[]⟩ us vs Q (fun _ _ _=>False) hr I.env0 hb' r h) fun r s' hq=>?_)
   cases r with
   | error e=>exact (akK [] σ H s e s' (I.pins_of fun p hp=>nomatch hp) hq:X.xe e s')
   | ok fl=>
    cases fl with
    | ret u=>exact I.after hq
    | next=>exact False.elim hq
    | brk=>exact False.elim hq
    | cont=>exact False.elim hq
  have pc:PE X (.Call (.Name x p) (e::es) [] pos) (aoB (Pur X.K n g) [] (fun _ _ _=>False) (tDA X.K fr)):=by
   intro pins s σ H Q I h
   refine wpAny_Call_Name_kw (aau I hg hm ?_ hdb)
   refine PySem.W.callWith_K (h₀:=X.base) I.ok.mod.kin hk (thn (ha pos pins s σ H _ I h) fun us s1 ⟨vs,H1,I1,r,q⟩=>⟨I1.kIn,?_⟩) he hpl
   have q':Pur X.K n g (vs++[]) H1 Q (fun _ _ _=>False):=q
   rw [List.append_nil] at q'
   exact run I1 r q'
  refine PE.imp pc fun σ H Q ⟨ρ,d,en,q,k⟩=>?_
  cases h1:fr ρ with
  | none=>simp [jM,h1] at q
  | some ds=>
   refine ⟨ρ,ds,en,h1,fun vs H1 s1 r1=>?_⟩
   exact ⟨ds,d,by rw [hl ρ ds h1],by rw [List.append_nil]; exact r1,by simpa [jM,h1] using q,fun v H' s r=>k v H' (s1.trans s) r⟩
end
structure ExcK (K:PySem.W.Frag) (C:Addr):Prop where
 exc:PySem.W.excIn K C vB "ValueError.__new__"=true
 ga:PySem.W.findIn K (.ref C) "__getattribute__"=some (some (.builtin "BaseException.__getattribute__"))
 gt:PySem.W.findIn K (.ref C) "__getattr__"=some none
 cl:PySem.W.findIn K (.ref C) "__class__"=some (some (.builtin "object.__class__"))
 mo:PySem.W.mroIn K C (.type "object")=some true
 mb:PySem.W.mroIn K C (.type "BaseException")=some true
theorem af5 {K:PySem.W.Frag}{C:Addr}{t:Value}{b:Bool} (h:PySem.W.mroIn K C t=some b):(PySem.W.clsIn K C).isSome=true:=by
 unfold PySem.W.mroIn at h
 cases hc:PySem.W.clsIn K C with
 | none=>rw [hc] at h; cases h
 | some cd=>rfl
theorem ExcK.ci {K:PySem.W.Frag}{C:Addr} (h:ExcK K C):(PySem.W.clsIn K C).isSome=true:=af5 h.mo
structure ClsG (K:PySem.W.Frag):Prop where
 gt:PySem.W.specialIn K (.builtin "object.__class__") "__get__"=some (some (.builtin "getset_descriptor.__get__"))
 tk:PySem.W.takesIn K (.builtin "object.__class__")=some true
section
variable {prog:Program}{w:World}{A:Around}{E:Value->Shared->Prop}{s:Shared}{K:PySem.W.Frag}{a C:Addr}{oe:Obj}
theorem alG (hg:ClsG K) (hc:ExcK K C):PySem.W.findObj K C none "__class__"=some (.bind (.builtin "getset_descriptor.__get__") (.builtin "object.__class__")):=by
 obtain ⟨cd,h1⟩:=Option.isSome_iff_exists.mp hc.ci
 unfold PySem.W.findObj
 rw [h1,zzD,hc.cl,zzD]
 simp [hg.gt,hg.tk]
theorem ajO {nameV:Value}{Q:Unit->Shared->Prop} (X:K.In s.heap) (hc:ExcK K C) (I:PySem.W.InstAt s.heap a oe C none) (hq:Q () s):wpAny (model prog w) A (checkBuiltinCall "BaseException.__getattribute__" ⟨[.ref a,nameV],[]⟩) Q E s:=by
 have hk:builtinKind "BaseException.__getattribute__"=some .slot:=by decide +kernel
 have hsplit:splitId "BaseException.__getattribute__"=some ("BaseException","__getattribute__"):=by decide +kernel
 have ha:=F.args_bexc_ga (.ref a) nameV
 have L0:=I.type (M:=model prog w)
 have L1:=PySem.W.looks_mroIn (M:=model prog w) X hc.mb
 obtain ⟨hh,g,d,t,os⟩:=s
 simp only [checkBuiltinCall,hk,hsplit]
 refine wpAny_bind ?_
 unfold isInstance
 repeat (first | with_reducible refine L0.at ?_ | with_reducible refine L1.at ?_ | wp_step)
 exact hq
theorem ajP {tk:Tok}{Q:Fin->Shared->Prop} (X:K.In s.heap) (hg:ClsG K) (hc:ExcK K C) (I:PySem.W.InstAt s.heap a oe C none) (hq:Q (.done (.ret (.ref C))) s):
  wpAny (model prog w) A (Builtin.«object.__getattribute__» ⟨[.ref a,.str "__class__" tk],[]⟩) Q E s:=by
 have L0:=I.type (M:=model prog w)
 have L1:=PySem.W.looks_find (M:=model prog w) X I (alG hg hc)
 obtain ⟨hh,g,d,t,os⟩:=s
 refine wpAny_bind (wpAny_pure (wpAny_bind (wpAny_pure (wpAny_bind (L0.at (wpAny_bind (L1.at ?_)))))))
 show wpAny _ _ (holding [Value.builtin "object.__class__"] (call (.builtin "getset_descriptor.__get__") [.builtin "object.__class__",.ref a,.ref C]) >>= ret) _ _ _
 refine wpAny_bind (wpAny_holding (wpAny_call (PySem.W.class_get (ox:=oe) (od:=none) X I hc.mo ?_)))
 exact wpAny_pure hq
theorem anH {Q:Option Value->Shared->Prop} (X:K.In s.heap) (hg:ClsG K) (hc:ExcK K C) (I:PySem.W.InstAt s.heap a oe C none) (hq:Q (some (.ref C)) { s with toks:=s.toks+1 }):wpAny (model prog w) A (getAttr? (.ref a) "__class__") Q E s:=by
 have L0:=I.type (M:=model prog w)
 have L1:=PySem.W.looks_findIn (M:=model prog w) X hc.ga
 have L2:=PySem.W.looks_findIn (M:=model prog w) X hc.gt
 obtain ⟨hh,g,d,t,os⟩:=s
 unfold getAttr? getAttrBy? getAttrBy
 refine wpAny_bind (wpAny_mkText (wpAny_bind (wpAny_attempt (wpAny_holding (wpAny_bind (L0.at (wpAny_bind (L1.at ?_))))))))
 have hx2:(Value.builtin "BaseException.__getattribute__" == Value.builtin "object.__getattribute__")=false:=by decide +kernel
 have hx1:(onTheHeap (Value.ref C) && Value.builtin "BaseException.__getattribute__" == Value.builtin "object.__getattribute__")=false:=by rw [hx2]; rfl
 dsimp only
 rw [hx1]
 show wpAny _ _ (getAttrByItsOwn _ _ _ _ _ _) _ _ _
 unfold getAttrByItsOwn hookBefore
 rw [if_pos (show onTheHeap (Value.ref C)=true from rfl)]
 refine wpAny_bind (L2.at (wpAny_bind (wpAny_attempt (wpAny_holding ?_))))
 unfold callGetattribute
 rw [if_neg (by simp)]
 have f3:=PySem.F.attr_ValueError.ga.bind (.ref a)
 have fin:codeAny (model prog w) A (.call (.builtin "BaseException.__getattribute__") ⟨[.ref a,.str "__class__" t],[]⟩) (fun r s'=>match r with | .ok (.ret v)=>v= .ref C/\s'=⟨hh,g,d,t+1,os⟩ | _=>False) ⟨hh,g,d,t+1,os⟩:=
  codeAny_call_builtin PySem.F.attr_ValueError.ga.plain F.entry_bexc_ga (ajO (s:=⟨hh,g,d,t+1,os⟩) X hc I (ajP (s:=⟨hh,g,d,t+1,os⟩) X hg hc I ⟨rfl,rfl⟩))
 unfold boundAndCalled
 rw [f3]
 refine wpAny_bind (wpAny_pure (wpAny_call (codeAny_mono fin fun r s' hr=>?_)))
 cases r with
 | error e=>exact hr.elim
 | ok fl=>
  cases fl with
  | ret v=>
   obtain ⟨rfl,rfl⟩:=hr
   exact PySem.W.handed_on rfl (wpAny_pure hq)
  | next=>exact hr.elim
  | brk=>exact hr.elim
  | cont=>exact hr.elim
theorem alH (hg:ClsG K) (hc:ExcK K C):PySem.W.KitX K (.ref a) (.ref C) (fun h=>∃ oe,PySem.W.InstAt h a oe C none) where
 ty:=fun _ _ _ ⟨_,I⟩=>I.type
 it:=fun _ _ X _=>by
  obtain ⟨cdD,hcD⟩:=Option.isSome_iff_exists.mp hc.ci
  unfold PySem.W.clsIn at hcD
  split at hcD
  ·rename_i ho
   intro A' Q' E' s' k q
   unfold isType loadHead
   exact wpAny_bind (wpAny_loadPart (k _ _ (X _ _ ho)) (wpAny_pure q))
  ·cases hcD
 ne:=fun h tp dd its n sl X htp=>by
  obtain ⟨cdD,hcD⟩:=Option.isSome_iff_exists.mp hc.ci
  refine Bool.eq_false_iff.mpr fun q=>?_
  have e:C=tp:=Value.ref.inj (beq_iff_eq.mp q)
  subst e
  unfold PySem.W.clsIn at hcD
  split at hcD
  ·rename_i ho
   have z:=(X _ _ ho).symm.trans htp
   cases z
  ·cases hcD
 ca:=fun X ⟨_,I⟩ k=>anH X hg hc I k
end
noncomputable def adr (K:PySem.W.Frag) (c:Str):Option Addr:=match PySem.W.nsIn K mainGlobals c with
 | some (some (.ref C))=>some C
 | _=>none
theorem apB {K:PySem.W.Frag}{c:Str}{C:Addr} (h:PySem.W.nsIn K mainGlobals c=some (some (.ref C))):adr K c=some C:=by
 unfold adr; rw [h]
theorem aiA {K:PySem.W.Frag}{c:Str}{C:Addr} (h:adr K c=some C):PySem.W.nsIn K mainGlobals c=some (some (.ref C)):=by
 unfold adr at h
 split at h
 ·rename_i q; cases h; exact q
 ·cases h
noncomputable def apC (K:PySem.W.Frag) (C:Addr):Bool:=PySem.W.excIn K C vB "ValueError.__new__" && ((PySem.W.findIn K (.ref C) "__getattribute__" == some (some (.builtin "BaseException.__getattribute__"))) && ((PySem.W.findIn K (.ref C) "__getattr__" == some none) && ((PySem.W.findIn K (.ref C) "__class__" == some (some (.builtin "object.__class__"))) && ((PySem.W.mroIn K C (.type "object") == some true) && (PySem.W.mroIn K C (.type "BaseException") == some true)))))
theorem alI {K:PySem.W.Frag}{C:Addr} (h:apC K C=true):ExcK K C:=by
 unfold apC at h
 simp only [Bool.and_eq_true,beq_iff_eq] at h
 obtain ⟨h1,h2,h3,h4,h5,h6⟩:=h
 exact ⟨h1,h2,h3,h4,h5,h6⟩
noncomputable def aeT (K:PySem.W.Frag) (y:Str) (cs:List Str):Bool:=(PySem.W.specialIn K (.builtin "object.__class__") "__get__" == some (some (.builtin "getset_descriptor.__get__"))) && ((PySem.W.takesIn K (.builtin "object.__class__") == some true) && (match adr K y with
 | none=>false
 | some B=>(PySem.W.typeIn K (.ref B) == some (.type "type")) && ((PySem.W.mroIn K B (.type "BaseException") == some true) && cs.all fun c=>match adr K c with
  | none=>false
  | some C=>apC K C && ((PySem.W.mroIn K C (.ref B) == some true) && ((PySem.W.kitOne K (.ref C) (.type "ValueError") == some true) && cs.all fun d=>match adr K d with
   | none=>false
   | some D=>PySem.W.kitOne K (.ref C) (.ref D) == some (c == d))))))
structure ErrT (K:PySem.W.Frag) (mg:Str->Option Value) (y:Str) (cs:List Str):Prop where
 tab:aeT K y cs=true
 mgs:∀ c C,adr K c=some C->mg c=some (.ref C)
section
variable {K:PySem.W.Frag}{mg:Str->Option Value}{y:Str}{cs:List Str}
theorem ErrT.g (h:ErrT K mg y cs):ClsG K:=by
 have:=h.tab
 unfold aeT at this
 simp only [Bool.and_eq_true,beq_iff_eq] at this
 exact ⟨this.1,this.2.1⟩
theorem ErrT.par (h:ErrT K mg y cs):∃ B,adr K y=some B/\mg y=some (.ref B)/\PySem.W.typeIn K (.ref B)=some (.type "type")/\PySem.W.mroIn K B (.type "BaseException")=some true/\
  ∀ c ∈ cs,∃ C,adr K c=some C/\mg c=some (.ref C)/\ExcK K C/\PySem.W.mroIn K C (.ref B)=some true/\PySem.W.kitOne K (.ref C) (.type "ValueError")=some true/\∀ d ∈ cs,∃ D,adr K d=some D/\mg d=some (.ref D)/\PySem.W.kitOne K (.ref C) (.ref D)=some (c == d):=by
 have q:=h.tab
 unfold aeT at q
 simp only [Bool.and_eq_true,beq_iff_eq] at q
 obtain ⟨_,_,q⟩:=q
 cases hB:adr K y with
 | none=>rw [hB] at q; cases q
 | some B=>
  rw [hB] at q
  simp only [Bool.and_eq_true,beq_iff_eq,List.all_eq_true] at q
  obtain ⟨q1,q2,q3⟩:=q
  refine ⟨B,rfl,h.mgs y B hB,q1,q2,fun c hc=>?_⟩
  have z:=q3 c hc
  cases hC:adr K c with
  | none=>rw [hC] at z; cases z
  | some C=>
   rw [hC] at z
   simp only [Bool.and_eq_true,beq_iff_eq,List.all_eq_true] at z
   obtain ⟨z1,z2,z3,z4⟩:=z
   refine ⟨C,rfl,h.mgs c C hC,alI z1,z2,z3,fun d hd=>?_⟩
   have v:=z4 d hd
   cases hD:adr K d with
   | none=>rw [hD] at v; cases v
   | some D=>
    rw [hD] at v
    exact ⟨D,rfl,h.mgs d D hD,beq_iff_eq.mp v⟩
theorem ErrT.err (h:ErrT K mg y cs) {c:Str} (hc:c ∈ cs):ajF K mg c:=by
 obtain ⟨B,_,_,_,_,q⟩:=h.par
 obtain ⟨C,_,q2,q3,_⟩:=q c hc
 exact ⟨C,q2,q3.exc⟩
end
noncomputable def adY:PyData->Option Str
 | .dict [(.str c,.bool true)]=>some c
 | _=>none
theorem af6 {d:PyData}{c:Str} (h:adY d=some c):d=Jm c:=by
 unfold adY at h
 split at h
 ·cases h; rfl
 ·cases h
@[simp] theorem apD (c:Str):adY (Jm c)=some c:=rfl
theorem alJ {K:PySem.W.Frag}{H:Hp}{x:Str}{v:V} (h:Rep K H (Jm x) v):∃ a C oe,v= .ref a/\H a=some (.frz oe (.own a))/\PySem.W.nsIn K mainGlobals x=some (some (.ref C))/\oe.cls= .ref C/\oe.dict=none/\∃ vs,oe.data= .fields vs:=by
 obtain ⟨a,h1,⟨ns,h2,h3⟩ | ⟨ks,ob,h2,h3⟩ | ⟨y,h2,_⟩ | ⟨y,C,oe,h2,h3,h4,h5⟩⟩:=h
 ·cases ns with
  | nil=>cases h3
  | cons n ns=>cases h3
 ·exact h3.elim
 ·cases h2
 ·cases h2
  exact ⟨a,C,oe,h1,h3,h4,h5⟩
noncomputable def ajQ (cs:List Str) (f:Str->Bool) (d:PyData):Option PyData:=(adY d).bind fun c=>if c ∈ cs then some (.bool (f c)) else none
section
variable {X:Cx}{a:Expr}{fa:Rho->Option PyData}{pos p p2:Pos}{y:Str}{cs:List Str}
noncomputable def aqV (K:PySem.W.Frag) (w:V):List V->Hp->VK->Prop:=fun xs H Q=>∃ x c C b,xs=[x,w]/\Rep K H (Jm c) x/\adr K c=some C/\ExcK K C/\(∀ u,jU w u->PySem.W.kitOne K (.ref C) u=some b)/\Q (.bl b) H
theorem adZ {w:V} (G:ClsG X.K):zC X (.builtin "isinstance") (aqV X.K w):=by
 intro pins s σ H xs us Q I r ⟨x,c,C,b,e,h1,hC,hK,h2,q⟩
 subst e
 obtain ⟨u,w',rfl,r1,r2⟩:=aie r
 obtain ⟨a,C',oe,rfl,e2,e3,e4,e5,vs,e6⟩:=alJ h1
 have:=apB e3
 rw [hC] at this; cases this
 cases (show u=Value.ref a from r1)
 have at':s.heap.get? a=some oe:=(I.hok _ _ e2).1
 exact PySem.W.kia_one (alH G hK) I.kIn ⟨oe,at',e4,by unfold PySem.W.notCls; rw [e6],by rw [e5]; trivial⟩ (h2 w' r2) (fun z=>nomatch z) fun tk=>⟨.bl b,H,I.tok tk,rfl,q⟩
theorem ZL {T:Str} (hE:ErrT X.K X.mg y cs) (hm1:X.mg "isinstance"=none) (ha:PD X a fa) (hT:T ∈ cs:=by decide) (hg1:Gl X "isinstance":=by rfl) (hg2:Gl X T:=by rfl) (hd:(T == ("__debug__":Str))=false:=by decide)
  (he:starEach [a,.Name T p2] X.env=[(false,eval a X.env),(false,eval (.Name T p2) X.env)]:=by rfl) (he2:starEach [.Name T p2] X.env=[(false,eval (.Name T p2) X.env)]:=by rfl) (hpl:(backTo pos (starEach [.Name T p2] X.env)).any (·.1)=false:=by rfl):
  PD X (.Call (.Name "isinstance" p) [a,.Name T p2] [] pos) (fun ρ=>(fa ρ).bind (ajQ cs fun c=>c == T)):=by
 with_unfolding_all
  obtain ⟨B,_,_,_,_,par⟩:=hE.par
  obtain ⟨D,d1,d2,_⟩:=par T hT
  have hT2:PE X (.Name T p2) (tC (.ref D)):=aeu hg2 d2 rfl hd
  refine PE.imp (aay (adZ (w:= .ref D) hE.g) hg1 hm1 (by decide +kernel) (qM ha (qM hT2 Jl (by rw [he2]; rfl)) (by rw [he,he2])) (by decide) (by decide) (by rw [he,he2]) hpl) fun σ H Q ⟨ρ,d,en,q,k⟩=>?_
  cases h1:fa ρ with
  | none=>simp [h1] at q
  | some c0=>
   have q':ajQ cs (fun c=>c == T) c0=some d:=by simpa [h1] using q
   unfold ajQ at q'
   cases h2:adY c0 with
   | none=>rw [h2] at q'; cases q'
   | some c=>
    rw [h2,zzD] at q'
    by_cases hc:c ∈ cs
    ·rw [if_pos hc] at q'
     cases q'
     have:=af6 h2
     subst this
     obtain ⟨C,c1,c2,c3,c4,c5,c6⟩:=par c hc
     obtain ⟨D',d1',d2',d3'⟩:=c6 T hT
     rw [d1] at d1'; cases d1'
     exact ⟨ρ,_,en,h1,fun v H1 s1 r1=>⟨v,c,C,_,rfl,r1,c1,c3,fun u ru=>by cases (show u=Value.ref D from ru); exact d3',k _ H1 s1 rfl⟩⟩
    ·rw [if_neg hc] at q'; cases q'
theorem anI (hE:ErrT X.K X.mg y cs) (hm1:X.mg "isinstance"=none) (hm2:X.mg "ValueError"=none) (ha:PD X a fa) (hg1:Gl X "isinstance":=by rfl) (hg2:Gl X "ValueError":=by rfl)
  (he:starEach [a,.Name "ValueError" p2] X.env=[(false,eval a X.env),(false,eval (.Name "ValueError" p2) X.env)]:=by rfl) (he2:starEach [.Name "ValueError" p2] X.env=[(false,eval (.Name "ValueError" p2) X.env)]:=by rfl) (hpl:(backTo pos (starEach [.Name "ValueError" p2] X.env)).any (·.1)=false:=by rfl):
  PD X (.Call (.Name "isinstance" p) [a,.Name "ValueError" p2] [] pos) (fun ρ=>(fa ρ).bind (ajQ cs fun _=>true)):=by
 with_unfolding_all
  obtain ⟨B,_,_,_,_,par⟩:=hE.par
  have hT2:PE X (.Name "ValueError" p2) (tC (.ty "ValueError")):=aib hg2 hm2 (u:= .type "ValueError") (by decide +kernel) rfl (by decide) (by decide)
  refine PE.imp (aay (adZ (w:= .ty "ValueError") hE.g) hg1 hm1 (by decide +kernel) (qM ha (qM hT2 Jl (by rw [he2]; rfl)) (by rw [he,he2])) (by decide) (by decide) (by rw [he,he2]) hpl) fun σ H Q ⟨ρ,d,en,q,k⟩=>?_
  cases h1:fa ρ with
  | none=>simp [h1] at q
  | some c0=>
   have q':ajQ cs (fun _=>true) c0=some d:=by simpa [h1] using q
   unfold ajQ at q'
   cases h2:adY c0 with
   | none=>rw [h2] at q'; cases q'
   | some c=>
    rw [h2,zzD] at q'
    by_cases hc:c ∈ cs
    ·rw [if_pos hc] at q'
     cases q'
     have:=af6 h2
     subst this
     obtain ⟨C,c1,c2,c3,c4,c5,c6⟩:=par c hc
     exact ⟨ρ,_,en,h1,fun v H1 s1 r1=>⟨v,c,C,_,rfl,r1,c1,c3,fun u ru=>by cases (show u=Value.type "ValueError" from ru); exact c5,k _ H1 s1 rfl⟩⟩
    ·rw [if_neg hc] at q'; cases q'
end
section
variable {X:Cx}{σ:St}{H:Hp}{s:Shared}{e C:Addr}
theorem Inv.take {oe:Obj} (I:Inv X [] σ H s) (m:Mine X H e) (he:s.heap.get? e=some oe):Inv X [] σ (upd H e (.frz oe (.own e))) s/\jt H (upd H e (.frz oe (.own e))):=by
 have ne:∀ b o,H b=some o->b ≠ e:=fun b o q z=>by subst z; rw [m.un] at q; cases q
 have sm:jt H (upd H e (.frz oe (.own e))):=fun b o q=>by rw [jo (ne b o q)]; exact q
 have u:Un (frs X.stack) [e] H (upd H e (.frz oe (.own e))) s.heap s.heap:=⟨fun b o q _ _ _=>q,fun b o q _ _ _=>⟨o.slots,q⟩,fun b o q n nc=>by rw [jo (fun z=>nc (by simp [z]))]; exact n,fun b o q _=>⟨o,q⟩,fun b xs q=>sm b _ q,fun b o v q=>sm b _ q,fun b ps q=>⟨#[],by rw [sm b _ q]; simp⟩⟩
 have hok:HOk X.prog X.w (upd H e (.frz oe (.own e))) s.heap:=fun b o q=>by
  by_cases hb:b=e
  ·subst hb
   rw [jp] at q; cases q
   exact ⟨he,_,he⟩
  ·rw [jo hb] at q
   exact (I.hok b o q).stay (fun c v hc r=>r) (fun c r=>sm _ _ r) fun c v r=>sm _ _ r
 refine ⟨?_,sm⟩
 have J:=Inv.call (X:={ X with ex:=[e]++X.ex }) (g':=s.gens) (d':=s.drawn) (t':=s.toks) (Inv.exIn I fun b hb=>by rw [List.mem_singleton.mp hb]; exact ⟨m.new,m.loc,m.cel⟩) u hok I.bare fun b hb=>by
  rw [List.mem_singleton.mp hb]
  exact ⟨.inl (List.mem_append_left _ (by simp)),m.loc,m.cel,fun p hp=>m.pin p (by simpa using hp)⟩
 exact Inv.exOut J I.ok fun b hb=>by rw [List.mem_singleton.mp hb]; exact m.new
theorem anJ {M:Model}{A:Around}{E:Value->Shared->Prop}{x:Str}{pos:Pos}{Q:Unit->Shared->Prop} (I:Inv X [] σ H s) (hl:X.env.kindOf x=some .local) (h:∀ s',Inv X [] (List.replicate σ.length none) H s'->Q () s'):
  wpAny M A (do bindName X.env x .none; unbindBehindTheSuite X.env x pos) Q E s:=by
 obtain ⟨m,hn,_⟩:=id I.loc
 have hcls:(X.env.scope.kind == .class || (X.env.scope.kind == .module && X.env.locals != X.env.globals))=false:=by rw [I.ok.kind]; rfl
 have cne:=I.cne
 refine wpAny_nameGoes hl hn hcls fun h' m' hn' hs=>?_
 obtain ⟨oL,_,_,hoL,_⟩:=id hn
 have tracked:HOk X.prog X.w H h':=fun b ob e=>by
  refine (I.hok b ob e).stay (fun c w' hc q=>(hs.2 c ?_).trans q) (fun _ q=>q) fun _ _ q=>q
  rintro rfl
  rcases hc with rfl | hc
  ·rw [I.free] at e; cases e
  ·rw [I.free] at hc; cases hc
 refine h _ ⟨I.ok,I.os,I.bare,⟨fun b o e n hb hx=>?_,fun b o e n hb hx=>?_,I.base.free,fun b o e hx=>?_,I.base.tups,I.base.frzs,I.base.tbls⟩,⟨_,hn',fun j y v' e1 e2 e3=>?_⟩,fun y c e=>?_,I.free,I.freeC,fun p hp=>?_,tracked,by simpa using I.len⟩
 ·exact (hs.2 b (Nat.ne_of_lt (Nat.lt_of_lt_of_le (Heap.lt_size e) I.ok.above))).trans (I.base.keep b o e n hb hx)
 ·obtain ⟨sl,e1⟩:=I.base.slot b o e n hb hx
  exact ⟨sl,(hs.2 b (Nat.ne_of_lt (Nat.lt_of_lt_of_le (Heap.lt_size e) I.ok.above))).trans e1⟩
 ·obtain ⟨o',e1⟩:=I.base.there b o e hx
  exact ⟨o',(hs.2 b (Nat.ne_of_lt (Nat.lt_of_lt_of_le (Heap.lt_size e) I.ok.above))).trans e1⟩
 ·rw [List.getElem?_replicate] at e2
  split at e2 <;> cases e2
 ·obtain ⟨w',z⟩:=I.cell y c e
  exact ⟨w',z.sameBut hs (cne y c e)⟩
 ·obtain ⟨e,n,ne,nf,d⟩:=I.pin p hp
  exact ⟨(hs.2 p.1 ne).trans e,n,ne,nf,d⟩
theorem af7 {M:Model}{A:Around}{E:Value->Shared->Prop}{K:PySem.W.Frag}{B:Addr}{oe:Obj}{Q:Bool->Shared->Prop} (X:K.In s.heap) (he:s.heap.get? e=some oe) (hc:oe.cls= .ref C)
  (ht:PySem.W.typeIn K (.ref B)=some (.type "type")) (hB:PySem.W.mroIn K B (.type "BaseException")=some true) (hm:PySem.W.mroIn K C (.ref B)=some true) (hq:Q true s):wpAny M A (excMatches (.ref e) (.ref B)) Q E s:=by
 have L0:=PySem.W.looks_typeIn (M:=M) X ht
 have L1:=PySem.W.looks_mroIn (M:=M) X hB
 have L2':=PySem.W.looks_mroIn (M:=M) X hm
 have Lt:PySem.W.Looks M s.heap (isType (.ref B)) true:=by
  obtain ⟨cdD,hcD⟩:=Option.isSome_iff_exists.mp (af5 hB)
  unfold PySem.W.clsIn at hcD
  split at hcD
  ·rename_i ho
   intro A' Q' E' s' k q
   unfold isType loadHead
   exact wpAny_bind (wpAny_loadPart (k _ _ (X _ _ ho)) (wpAny_pure q))
  ·cases hcD
 have f:=tc_notTuple
 obtain ⟨hp,g,d,tk,os⟩:=s
 unfold excMatches isInstance isExcClass
 repeat (first | (with_reducible refine wpAny_loadPart_at he ?_; rw [hc]) | with_reducible refine L0.at ?_ | with_reducible refine L1.at ?_ | with_reducible refine L2'.at ?_ | with_reducible refine Lt.at ?_ | wp_step)
 exact hq
end
noncomputable def Zq (n i:Nat) (cs:List Str) (F:Rho->Option Out) (fx:Rho->Option Str) (G:Rho->Option Out):Rho->Option Out:=fun ρ=>match F ρ with
 | some o=>some o
 | none=>match fx ρ with
  | some c=>if c ∈ cs then (match G ((aaf n).set i (some (Jm c))) with
   | some (.rt d)=>some (.rt d)
   | _=>none) else none
  | none=>none
section
variable {X:Cx}{st b0:Stmt}{sts qg tb hb:List Stmt}{F G:Rho->Option Out}{fx:Rho->Option Str}{pos:Pos}
theorem alK {y x:Str}{np hpos:Pos}{n:Nat}{cs:List Str} (i:Nat) (T0:Top0 X) (hN:X.N.length=n) (hnd:X.N.Nodup) (hE:ErrT X.K X.mg y cs) (hn:∀ E,Z9 (X.wish E) tb F) (hx:∀ E,ab4 (X.wish E) tb fx) (hh:∀ e,Z9 (hX X e) (b0::hb) G)
  (hi:X.N[i]?=some x:=by rfl) (hl:X.env.kindOf x=some .local:=by rfl) (hlk:X.env.scope.names.lookup x=some .local:=by rfl) (hg:Gl X y:=by rfl) (hdb:(y == ("__debug__":Str))=false:=by decide):PS0 X (.Try tb [.ExceptHandler (some (.Name y np)) (some x) (b0::hb) hpos] [] [] pos) (Zq n i cs F fx G):=by
 with_unfolding_all
  intro s σ H D I ⟨ρ,o,en,q,k⟩
  refine wpAny_Try_except ?_
  let E':Value->Shared->Prop:=fun ev s1=>wpAny (model X.prog X.w) X.A (noteFrame ev X.env) (fun _ s₂=>wpAny (model X.prog X.w) X.A (setFlight ev none) (fun _ s₃=>wpAny (model X.prog X.w) X.A (handleBy ev X.env [.ExceptHandler (some (.Name y np)) (some x) (b0::hb) hpos]) (SP X [] D) X.xe s₃) X.xe s₂) X.xe s1
  cases hF:F ρ with
  | some o1=>
   have e1:o1=o:=by simpa [Zq,hF] using q
   subst e1
   refine wpAny_mono (hn E' [] s σ H D (I.wish E') ⟨ρ,o1,en,hF,k⟩) (fun f s1 z=>?_) fun _ _ z=>z
   have z':=SP.unwish z
   cases f with
   | next=>exact wpAny_execs_nil z'
   | brk=>exact z'
   | cont=>exact z'
   | ret u=>exact z'
  | none=>
   cases hc:fx ρ with
   | none=>simp [Zq,hF,hc] at q
   | some c=>
    by_cases hy:c ∈ cs
    ·cases hG:G ((aaf n).set i (some (Jm c))) with
     | none=>simp [Zq,hF,hc,hy,hG] at q
     | some o1=>
     cases o1 with
     | nx ρ1=>simp [Zq,hF,hc,hy,hG] at q
     | bk ρ1=>simp [Zq,hF,hc,hy,hG] at q
     | ct ρ1=>simp [Zq,hF,hc,hy,hG] at q
     | rt d=>
     have q':Out.rt d=o:=by simpa [Zq,hF,hc,hy,hG] using q
     subst q'
     obtain ⟨B,aB,mB,tB,bB,par⟩:=hE.par
     obtain ⟨C',aC,mC,xC,pC,_⟩:=par c hy
     refine wpAny_mono (hx E' s σ H ρ c (I.wish E') en hc fun ev s1 t=>?_) (fun _ _ z=>z.elim) fun _ _ z=>z
     obtain ⟨e,C,σ1,H1,rfl,hm,J,sm,xc⟩:=t
     have J0:=J.unwish
     have x0:=xc.unwish
     show wpAny _ X.A (noteFrame (.ref e) X.env) _ _ s1
     refine wpAny_mono (aeP (E:=fun _ _=>False) T0 J0.ok.frames J0 x0) (fun _ s2 ⟨J2,t2⟩=>?_) fun _ _ z=>z.elim
     refine wpAny_mono (Qo (E:=fun _ _=>False) none J2 t2) (fun _ s3 ⟨J3,t3⟩=>?_) fun _ _ z=>z.elim
     have ok:=J3.ok
     have hm0:X.mg c=some (.ref C):=hm
     rw [hm0] at mC; cases mC
     have fr:(X.A.mark (some (.ref e))).frames=some X.stack:=ok.frames
     have J4:Inv (hX X e) [] σ1 H1 s3:=Inv.asA J3 fr (fun z=>nomatch z)
     refine wpAny_handleBy_cons (codeAny_handlers_test ?_) (fun z=>nomatch z)
     refine aau (X:=hX X e) J4 hg mB ?_ hdb
     obtain ⟨oe,ws,T,oT,ts,g1,g2,g3,g4,g5,g6,g7,g8,g9⟩:=id t3.ob
     refine af7 J4.kIn g1 g2.1 tB bB pC ?_
     refine codeAny_handlers_suite_as ?_
     refine wpAny_mono (Qo (A:=X.A.mark (some (.ref e))) (E:=fun _ _=>False) none J3 t3) (fun _ s5 ⟨J5,t5⟩=>?_) fun _ _ z=>z.elim
     obtain ⟨oe5,ws5,T5,oT5,ts5,g51,g52,g53,_⟩:=id t5.ob
     obtain ⟨J6,sm6⟩:=Inv.take J5 t5.mine g51
     have J7:Inv (hX X e) [] σ1 (upd H1 e (.frz oe5 (.own e))) s5:=Inv.asA J6 fr (fun z=>nomatch z)
     have hlen:σ1.length=n:=by rw [←hN,←J5.len]
     refine acs (X:=hX X e) J7 hnd hi (.inl hlk) (v:= .ref e) rfl (fun s6 J8=>?_) (.inr hlk)
     have re:Rep X.K (upd H1 e (.frz oe5 (.own e))) (Jm c) (.ref e):=⟨e,rfl,.inr (.inr (.inr ⟨c,_,oe5,rfl,jp,aiA aC,g52.1,g52.2,ws5,g53⟩))⟩
     have eb:EnvR X.K (upd H1 e (.frz oe5 (.own e))) ((aaf n).set i (some (Jm c))) (σ1.set i (some (.ref e))):=by
      refine ⟨by simp [aaf,hlen],fun j d qd=>?_⟩
      by_cases hj:j=i
      ·subst hj
       rw [List.getElem?_set_self (by simp only [aaf,List.length_replicate]; rw [←hN]; exact (List.getElem?_eq_some_iff.mp hi).1)] at qd
       cases qd
       exact ⟨.ref e,List.getElem?_set_self (by rw [hlen,←hN]; exact (List.getElem?_eq_some_iff.mp hi).1),re⟩
      ·rw [List.getElem?_set_ne (Ne.symm hj)] at qd
       simp [aaf,List.getElem?_replicate] at qd
     refine wpAny_mono (hh e [] s6 _ _ { D with nx:=fun _ _=>False,bk:=fun _ _=>False,ct:=fun _ _=>False } J8 ⟨_,.rt d,eb,hG,fun v H' sm' r=>k v H' ((sm.trans sm6).trans sm') r⟩) (fun f s7 z=>?_) fun _ _ z=>z.elim
     have z':=SP.ofA J5.ok z
     cases f with
     | next=>obtain ⟨_,_,_,z⟩:=z'; exact z.elim
     | brk=>obtain ⟨_,_,_,z⟩:=z'; exact z.elim
     | cont=>obtain ⟨_,_,_,z⟩:=z'; exact z.elim
     | ret u=>
      obtain ⟨v,σ',H',I',r,z⟩:=z'
      exact anJ I' hl fun s8 I8=>⟨v,_,H',I8,r,z⟩
    ·simp [Zq,hF,hc,hy] at q
end
noncomputable abbrev arF:=Int × (Int × Int)
structure TripAt (h:Heap) (u:Value) (t:arF):Prop where
 ex:∃ a o k tk a2,u= .ref a/\h.get? a=some o/\o.cls= .type "tuple"/\o.data= .seq #[.int t.1 tk,.ref a2] k/\PairAt h (.ref a2) t.2
section
variable {X:Cx}
end
section
variable {α:Type}
end
section
variable {X:Cx}{e a b c:Expr}{es qg:List Expr}{st:Stmt}{sts srest:List Stmt}{fx gx:Rho->Option Str}{fa fb:Rho->Option PyData}{F:Rho->Option Out}{pos:Pos}
theorem ahz (h1:PDX X e fx) (h2:PDX X e gx):PDX X e (orX fx gx):=by
 with_unfolding_all
  intro s σ H ρ c I en q k
  cases hf:fx ρ with
  | some c'=>
   have:c'=c:=by simpa [orX,hf] using q
   subst this
   exact h1 s σ H ρ c' I en hf k
  | none=>exact h2 s σ H ρ c I en (by simpa [orX,hf] using q) k
theorem apE (h1:PSX X st fx) (h2:PSX X st gx):PSX X st (orX fx gx):=by
 with_unfolding_all
  intro s σ H ρ c I en q k
  cases hf:fx ρ with
  | some c'=>
   have:c'=c:=by simpa [orX,hf] using q
   subst this
   exact h1 s σ H ρ c' I en hf k
  | none=>exact h2 s σ H ρ c I en (by simpa [orX,hf] using q) k
noncomputable def orD (f g:Rho->Option PyData):Rho->Option PyData:=fun ρ=>(f ρ).orElse fun _=>g ρ
theorem ahA (h1:PD X e fa) (h2:PD X e fb):PD X e (orD fa fb):=by
 with_unfolding_all
  intro pins s σ H Q I ⟨ρ,d,en,q,k⟩
  cases hf:fa ρ with
  | some d'=>
   have:d'=d:=by simpa [orD,hf] using q
   subst this
   exact h1 pins s σ H Q I ⟨ρ,d',en,hf,k⟩
  | none=>exact h2 pins s σ H Q I ⟨ρ,d,en,by simpa [orD,hf] using q,k⟩
noncomputable def items:PyData->Option (List PyData)
 | .list ds=>some ds
 | .tuple ds=>some ds
 | _=>none
noncomputable def itS (fa:Rho->Option PyData):Rho->Option (List PyData):=fun ρ=>(fa ρ).bind items
theorem zq {tg:Expr} (h:PD X e fa):PID X tg e (itS fa):=by
 with_unfolding_all
  intro pins s σ H R I ⟨ρ,ds,en,q,k⟩
  cases hf:fa ρ with
  | none=>simp [itS,hf] at q
  | some d=>
   have q':items d=some ds:=by simpa [itS,hf] using q
   cases d with
   | list es=>
    cases q'
    exact acE (tg:=tg) h pins s σ H R I ⟨ρ,ds,en,by simp [itL,hf,abj],k⟩
   | tuple es=>
    cases q'
    exact aeG (tg:=tg) h pins s σ H R I ⟨ρ,ds,en,by simp [itT,hf,acD],k⟩
   | _=>cases q'
end
theorem _root_.L2.Room.sort {k:Nat}{A:Around} (r:Room k A):A.in1.in1.units+8 < cLine:=by
 have:=r.un
 show A.units+1+1+8 < cLine
 omega
theorem _root_.L2.Room.units1 {k:Nat}{A:Around} (r:Room k A):A.units+1 < cLine:=by have:=r.un; omega
theorem RoomH.units {k:Nat}{A:Around} (r:RoomH k A):A.units+64 < cLine:=by have:=r.un; omega
theorem RoomH.mono {j k:Nat}{A:Around} (r:RoomH k A) (h:j<=k):RoomH j A:=⟨by have:=r.dp; omega,by have:=r.un; omega⟩
section
variable {X:Cx}{a b:Expr}{pos:Pos}
end
@[irreducible] noncomputable def PTX (X:Cx) (e:Expr) (fx:Rho->Option Str):Prop:=∀ (s:Shared) (σ:St) (H:Hp) (ρ:Rho) (c:Str),Inv X [] σ H s->EnvR X.K H ρ σ->fx ρ=some c->(∀ ev s',Thr X H c ev s'->X.xe ev s')->wpAny (model X.prog X.w) X.A (isTrue e X.env (eval e X.env)) (fun _ _=>False) X.xe s
section
variable {X:Cx}{e a b c:Expr}{l r:List Stmt}{fx gx:Rho->Option Str}{pos:Pos}
theorem anK (h:PDX X e fx) (he:∀ whole,isTrue e X.env whole=(do let v ←whole; standAt e.pos; holding [v] (truthy v)):=by intro _; rfl):PTX X e fx:=by
 with_unfolding_all
  intro s σ H ρ c I en q k
  exact isTrue_plain (wpAny_mono (h s σ H ρ c I en q k) (fun _ _ z=>z.elim) fun _ _ z=>z) (he _)
theorem anL (h:PTX X e fx):PTX X (.UnaryOp .Not e pos) fx:=by
 with_unfolding_all
  intro s σ H ρ c I en q k
  exact isTrue_not (wpAny_mono (h s σ H ρ c I en q k) (fun _ _ z=>z.elim) fun _ _ z=>z)
theorem anM (h:PTX X e fx):PSX X (.If e l r pos) fx:=by
 with_unfolding_all
  intro s σ H ρ c I en q k
  exact wpAny_If (wpAny_mono (h s σ H ρ c I en q k) (fun _ _ z=>z.elim) fun _ _ z=>z)
end
section
variable {X:Cx}{own:Option Nat}{tg:Expr}{st:Stmt}{sts:List Stmt}{fx:Rho->Option Str}{F:Rho->Option Out}
end
theorem ajR {X:Cx}:Q1 X (.type "list") QM:=by
 refine ⟨_,aaz,fun ds d xs H Q h r k=>?_⟩
 unfold QM at h
 split at h
 ·cases h
  obtain ⟨x,q,e1,e2,e3⟩:=r
  cases (show q=[] from e3)
  obtain ⟨a,us,g1,g2,g3⟩:=e2
  subst g1
  exact ⟨a,us,e1,.inl (SqL.of g2),fun l hl=>k _ _ (jA hl) ⟨l,us,rfl,jp,Reps.mono (jA hl) _ _ g3⟩⟩
 ·cases h
  obtain ⟨x,q,e1,e2,e3⟩:=r
  cases (show q=[] from e3)
  obtain ⟨a,us,g1,g2,g3⟩:=e2
  subst g1
  exact ⟨a,us,e1,.inr g2,fun l hl=>k _ _ (jA hl) ⟨l,us,rfl,jp,Reps.mono (jA hl) _ _ g3⟩⟩
 ·cases h
theorem aaM (a i:Expr) (fp:Pos) (args:List Expr) (pos:Pos) (env:Env):eval (.Call (.Subscript a i fp) args [] pos) env=(do
  callWith pos (←eval (.Subscript a i fp) env) [] (backTo pos (starEach args env)) (backToKw pos (keywordEach [] env))):=rfl
section
variable {X:Cx}{a i e:Expr}{es:List Expr}{pos fp:Pos}
noncomputable def abt (x:Str) (g:List PyData->Option PyData) (ff:Rho->Option PyData) (fr:Rho->Option (List PyData)):Rho->Option PyData:=fun ρ=>(ff ρ).bind fun d=>if zw x d=true then (fr ρ).bind g else none
theorem aaN {k j n:Nat}{ps:List Str}{g:List PyData->Option PyData}{x:Str}{ff:Rho->Option PyData}{fr:Rho->Option (List PyData)} (c:jn X.prog X.w X.K X.mg X.base x ps k n g) (hr:Room j X.A) (hkj:k<=j) (hf:PD X (.Subscript a i fp) ff) (ha:PAD X (e::es) fr)
  (hl:∀ (ρ:Rho) (ds:List PyData),fr ρ=some ds->ds.length=n) (he:starEach (e::es) X.env=(false,eval e X.env)::starEach es X.env:=by rfl)
  (hpl:(backTo pos (starEach es X.env)).any (·.1)=false:=by rfl):PD X (.Call (.Subscript a i fp) (e::es) [] pos) (abt x g ff fr):=by
 with_unfolding_all
  obtain ⟨f,fd,c1,c2,c3,c4⟩:=c
  intro pins s σ H Q I ⟨ρ,d,en,q,k⟩
  cases h0:ff ρ with
  | none=>simp [abt,h0] at q
  | some d0=>
   cases hF:zw x d0 with
   | false=>simp [abt,h0,hF] at q
   | true=>
    have:=af3 hF
    subst this
    cases h1:fr ρ with
    | none=>simp [abt,h0,hF,h1] at q
    | some ds=>
     have q':g ds=some d:=by simpa [abt,h0,hF,h1] using q
     rw [aaM]
     refine wpAny_bind (thn (hf pins s σ H (fun v H1=>jt H H1/\Rep X.K H1 (fnD x) v) I ⟨ρ,_,en,h0,fun v H1 s1 r1=>⟨s1,r1⟩⟩) fun u s1 ⟨v,H1,I1,rv,sm,re⟩=>?_)
     obtain ⟨ad,ev,ea⟩:=aiz re
     subst ev
     cases rv
     have hff:=(PySem.W.mg_of I1.mod.kin I1.mod.glob ea).symm.trans c2
     cases hff
     refine PySem.W.callWith_K (h₀:=X.base) I1.ok.mod.kin c3 (thn (ha pos pins s1 σ H1 (fun vs H2=>jt H1 H2/\Reps X.K H2 ds vs) I1 ⟨ρ,ds,en.mono sm,h1,fun vs H2 s2 r2=>⟨s2,r2⟩⟩) fun us s2 ⟨vs,H2,I2,r,sm2,rd⟩=>⟨I2.kIn,?_⟩) he hpl
     have sp:Pur X.K n g (vs++[]) H2 Q (fun _ _ _=>False):=⟨ds,d,hl ρ ds h1,by rw [List.append_nil]; exact rd,q',fun v H' s r=>k v H' (sm.trans (sm2.trans s)) r⟩
     exact akE c1 (hr.mono hkj) c4 .nil akK I2 r sp
noncomputable def Qq (x:Str) (g:List PyData->Option Str) (ff:Rho->Option PyData) (fr:Rho->Option (List PyData)):Rho->Option Str:=fun ρ=>(ff ρ).bind fun d=>if zw x d=true then (fr ρ).bind g else none
theorem ZM {k j n:Nat}{ps:List Str}{g:List PyData->Option Str}{x:Str}{ff:Rho->Option PyData}{fr:Rho->Option (List PyData)} (hxe:X.ex=[]) (C:Jf X.prog X.w X.K X.mg X.base x ps k n g) (hr:Room j X.A) (hkj:k<=j) (hf:PD X (.Subscript a i fp) ff) (ha:PAD X (e::es) fr) (hl:∀ ρ ds,fr ρ=some ds->ds.length=n)
  (he:starEach (e::es) X.env=(false,eval e X.env)::starEach es X.env:=by rfl)
  (hpl:(backTo pos (starEach es X.env)).any (·.1)=false:=by rfl):PDX X (.Call (.Subscript a i fp) (e::es) [] pos) (Qq x g ff fr):=by
 with_unfolding_all
  intro s σ H ρ c I en q k'
  obtain ⟨f,fd,F,hm,hk,hb⟩:=C
  cases h0:ff ρ with
  | none=>simp [Qq,h0] at q
  | some d0=>
   cases hF:zw x d0 with
   | false=>simp [Qq,h0,hF] at q
   | true=>
    have:=af3 hF
    subst this
    cases hd:fr ρ with
    | none=>simp [Qq,h0,hF,hd] at q
    | some ds=>
     have q':g ds=some c:=by simpa [Qq,h0,hF,hd] using q
     rw [aaM]
     refine wpAny_bind (thn (hf [] s σ H (fun v H1=>jt H H1/\Rep X.K H1 (fnD x) v) I ⟨ρ,_,en,h0,fun v H1 s1 r1=>⟨s1,r1⟩⟩) fun u s1 ⟨v,H1,I1,rv,sm0,re⟩=>?_)
     obtain ⟨ad,ev,ea⟩:=aiz re
     subst ev
     cases rv
     have hff:=(PySem.W.mg_of I1.mod.kin I1.mod.glob ea).symm.trans hm
     cases hff
     refine PySem.W.callWith_K (h₀:=X.base) I1.ok.mod.kin hk (thn (ha pos [] s1 σ H1 (fun vs H2=>jt H1 H2/\Reps X.K H2 ds vs) I1 ⟨ρ,ds,en.mono sm0,hd,fun vs H2 s1 r1=>⟨s1,r1⟩⟩) fun us s2 ⟨vs,H2,I2,r,sm,rd⟩=>⟨I2.kIn,?_⟩) he hpl
     have hn:ds.length=n:=hl ρ ds hd
     have sp:ajH X.K X.mg n g vs H2 (fun _ _=>False) (fun cls _ H'=>X.mg c=some cls/\jt H2 H'):=⟨ds,c,hn,rd,q',fun C H' hC s2=>⟨hC,s2⟩⟩
     have hlu:(us++[]).length=ps.length:=by rw [List.append_nil,←r.length]; exact F.len _ _ _ _ sp
     have hbd:=hb s2 us I2.kIn hlu
     rw [List.append_nil] at hbd
     refine wpAny_call (codeAny_mono (F.run X.A X.stack s2 H2 ⟨us,[]⟩ us vs _ _ (hr.mono hkj) I2.env0 hbd r sp) fun rs s' hq=>?_)
     cases rs with
     | error ev=>
      obtain ⟨e0,C,H',rfl,os,bare,un,hok,xc,hC,sm2⟩:=hq
      have J':Inv X [] σ H' s':=I2.call' (ch:=[]) os un hok bare fun b z=>nomatch z
      exact k' _ _ ⟨e0,C,σ,H',rfl,hC,J',sm0.trans (sm.trans sm2),Xc.of hxe I2 xc⟩
     | ok fl=>
      cases fl with
      | ret u=>obtain ⟨v,H',_,_,_,_,_,z⟩:=hq; exact z.elim
      | next=>exact False.elim hq
      | brk=>exact False.elim hq
      | cont=>exact False.elim hq
end
theorem jt.sE {H H':Hp} (s:jt H H'):jQ H H':=jt.e s
section
variable {X:Cx}{own:Option Nat}{e a b c:Expr}{es:List Expr}{st:Stmt}{sts qg:List Stmt}{fa fb fc:Rho->Option PyData}{F G:Rho->Option Out}{pos:Pos}
end
noncomputable def aeU (ds:List PyData):Option PyData:=match ds with
 | [.int i]=>some (.int i)
 | [.bool k]=>some (.int (if k=true then 1 else 0))
 | _=>none
theorem alL {X:Cx}:Q1 X (.type "int") aeU:=by
 refine ⟨_,ajc,fun ds d xs H Q h r k=>?_⟩
 unfold aeU at h
 split at h
 ·cases h
  obtain ⟨x,q,e1,e2,e3⟩:=r
  cases (show q=[] from e3)
  rename_i i
  cases (show x=V.int i from e2)
  exact .inl ⟨_,e1,k _ _ (jt.refl _) rfl⟩
 ·cases h
  obtain ⟨x,q,e1,e2,e3⟩:=r
  cases (show q=[] from e3)
  rename_i b
  cases (show x=V.bl b from e2)
  exact .inr ⟨_,e1,k _ _ (jt.refl _) rfl⟩
 ·cases h
section
variable {X:Cx}{tg src:Expr}{pos pos':Pos}{own:Option Nat}
theorem alM (i:Nat) {x:Str}{el:Expr}{ts:List Expr}{sc:Scope}{ps:Pos}{fi:Rho->Option (List PyData)}{ga:PyData->Rho->Option Rho}{ft:Rho->Option Bool}{fe:Rho->Option PyData} (N':List Str) (cap:List (Option Nat)) (hc:X.calm=true) (hN:X.N.Nodup) (hi:PID X tg src fi) (ok:CompOk X sc N' cap)
  (body:∀ cl C s0 H0 fp pn,PGD (blk X N' sc cl C s0 H0 fp pn) tg ga/\akS (blk X N' sc cl C s0 H0 fp pn) ts ft/\PD (blk X N' sc cl C s0 H0 fp pn) el fe)
  (ho:own ≠ some i:=by decide) (hi0:X.N[i]?=some x:=by rfl) (hx:Loc X.env.scope x:=by first | exact Or.inl rfl | exact Or.inr rfl) (hsw:swapsWith (.ListComp el [⟨tg,src,ts,0⟩] sc ps) (some (.Name x pos')) pos.line X.env=pure true:=by rfl)
  (hf:X.fn x=true ∨ X.env.scope.names.lookup x=some .local:=by first | exact .inl rfl | exact .inr rfl | assumption)
  (hs:∀ x,foldedSetIterable src X.env x=pure x:=by intro _; rfl):PSO X own (.Assign [.Name x pos'] (.ListComp el [⟨tg,src,ts,0⟩] sc ps) pos) (zA (fun ρ=>qB fi cap ga ft fe (hid own ρ)) (jJ i)):=by
 with_unfolding_all
  refine PS.imp (aix (g:=tDG X.K ga) (tt:=tDT X.K ft) (te:=tD X.K fe) hc hi ok (fun cl C s0 H0 fp pn=>body cl C s0 H0 fp pn) hN hi0 hx hsw hf hs) fun D σ H ⟨Hs,ρ,o,E,q,k⟩=>afY ?_
  cases h1:qB fi cap ga ft fe (hid own ρ) with
  | none=>simp [zA,h1] at q
  | some d=>
   have:Out.nx (ρ.set i (some d))=o:=by simpa [zA,h1,jJ] using q
   subst this
   exact ⟨hid own ρ,d,E.hid,h1,fun v H1 s1 r1=>k _ H1 ((E.mono s1).set ho r1)⟩
end
noncomputable def acb (h:Heap):List Value->List (Int × Int)->Prop
 | [],ps=>ps=[]
 | v::vs,ps=>∃ p r a,ps=p::r/\v= .ref a/\PairAt h (.ref a) p/\acb h vs r
theorem acb.len {h:Heap}:∀ {vs:List Value}{ps:List (Int × Int)},acb h vs ps->vs.length=ps.length
 | [],ps,e=>by cases (show ps=[] from e); rfl
 | v::vs,ps,⟨p,r,a,e,_,_,k⟩=>by rw [e,List.length_cons,List.length_cons,k.len]
structure SetAt (h:Heap) (u:Value) (ps:List (Int × Int)):Prop where
 ex:∃ a o k vs,u= .ref a/\h.get? a=some o/\o.cls= .type "tuple"/\o.data= .seq (List.toArray vs) k/\acb h vs ps
section
variable {X:Cx}
end
noncomputable def aiB:PyData->Option (Int × Int)
 | .tuple [.int p,.int q]=>some (p,q)
 | _=>none
noncomputable def Zr:List PyData->Option (List (Int × Int))
 | []=>some []
 | d::ds=>(aiB d).bind fun t=>(Zr ds).map fun ts=>t::ts
theorem apF {prog:Program}{w:World}{A:Around} (hh:A.handled=none) (g:Bool) (it t:Addr) (hne:t ≠ it) (xs:Array Value):
  Draws prog w A it [it,t] xs.size (fun i v=>xs[i]?=some v) (fun i h=>ItA g h it t i/\SrA g h t xs):=
 ⟨fun _ _ st=>by obtain ⟨o,_,e,_⟩:=st.1.obj; exact ⟨o,e⟩,
  fun _ _ _ st kp=>⟨st.1.to fun o e=>kp it (by simp) o e,st.2.to fun o e=>kp t (by simp) o e⟩,
  fun i s Q E hi st hQ=>QN st.1 st.2 (x:=xs[i]) (by simp [hi]) fun h' q sb=>hQ _ h' s.toks (by simp [hi]) ⟨q,st.2.extBut sb.extBut hne⟩ sb,
  fun s Q E st hE=>ZJ hh st.1 st.2 (by simp) hE⟩
noncomputable def enO (it:Addr):Obj:={ cls:= .type "enumerate",data:= .fields #[.none,.bool false,.ref it,rawInt 0,.none,.none] }
set_option maxHeartbeats 4000000 in
theorem ajS (g:Bool) (a:Addr) (xs:Array Value):
  Meets (Builtin.«enumerate.__new__» ⟨[.type "enumerate",.ref a],[]⟩) (fun _ R s=>SrA g s.heap a xs/\
   R (.ok (.ret (.ref (qh1 g s.heap a).objs.size))) { s with heap:=(qh1 g s.heap a).push (enO s.heap.objs.size) }):=
 .of_wp fun prog w A R s h=>by
  obtain ⟨hp,g2,d,tk,os⟩:=s
  obtain ⟨h1,h⟩:=h
  have hsub:=sub_enumerate
  have k1:SrA g (Shared.heap ⟨hp,g2,d,tk,os⟩) a xs:=h1
  wp_walk
  refine wpAny_stack_any fun st=>wpAny_pure ?_
  split
  ·rename_i c _ _ _ _ _
   cases (c == Value.type "enumerate")
   ·wp_walk using aaI k1
    exact ⟨_,rfl,h⟩
   ·wp_walk using aaI k1
    exact ⟨_,rfl,h⟩
  ·wp_walk using aaI k1
   exact ⟨_,rfl,h⟩
noncomputable def aqW (K:PySem.W.Frag) (g:Bool) (l:Addr):It:=
 ⟨fun i H=>∃ xs x,Sq g K H l xs/\xs[i]?=some x,
  fun i H u H'=>∃ p x,u= .ref p/\H p=none/\H'=upd H p (.tup [.int (i:Int),x])/\∀ xs,Sq g K H l xs->xs[i]?=some x,
  fun i H=>∃ xs,Sq g K H l xs/\xs.length<=i⟩
theorem ahB {P:Program}{w:World}{K:PySem.W.Frag}{g:Bool}{elts:List Expr}{x1:Nat}{pos:Pos}{e it l:Addr} (hei:e ≠ it) (hl0:l ≠ e/\l ≠ it):
  Turn P w K (.Tuple elts x1 pos) (aqW K g l) [e,it] e (fun i h=>(∃ old,IsEnum h e it i old)/\ItA g h it l i) where
 mem:=by simp
 obj:=fun i h st b hb=>by
  obtain ⟨⟨old,he⟩,hi⟩:=st
  obtain ⟨o,vs,ho,hd⟩:=hi.obj
  simp only [List.mem_cons,List.not_mem_nil,or_false] at hb
  rcases hb with rfl | rfl
  ·exact ⟨_,he,fun v q=>by cases q⟩
  ·exact ⟨o,ho,fun v q=>by rw [hd] at q; cases q⟩
 keep:=fun i h h' st k=>by
  obtain ⟨⟨old,he⟩,hi⟩:=st
  exact ⟨⟨old,k e (by simp) _ he⟩,hi.to fun o q=>k it (by simp) o q⟩
 item:=by
  intro X hP hw hK hc i pins s σ H E I hf st hg
  subst hP hw hK
  obtain ⟨xs,x,q1,ex⟩:=hg
  obtain ⟨us1,r1,p1⟩:=q1.inv I
  obtain ⟨u1,m1,l1⟩:=r1.get ex
  obtain ⟨⟨old,he⟩,hit⟩:=st
  have hi:i < us1.toArray.size:=by
   have:=(List.getElem?_eq_some_iff.mp m1).1
   simpa using this
  refine wpAny_pyNext_enum_itemD (apF (A:=X.A.in1) (show X.A.in1.handled=none from I.ok.hd hc) g it l hl0.2 us1.toArray) he ⟨hit,p1⟩ hi hei (by simp only [List.mem_cons,List.not_mem_nil,or_false,not_or]; exact ⟨hei,hl0.1.symm⟩) fun x1 h1 tk hx1 ho hit1 hT hsz hk=>⟨_,rfl,?_⟩
  have hx1:x1=u1:=by
   have:us1[i]?=some x1:=by simpa using hx1
   rw [m1] at this
   exact (Option.some.inj this).symm
  subst hx1
  have hit1:=hit1.1
  refine wpAny_letOwnedTupleGo_enum (s:={ s with heap:=h1,toks:=tk+1 }) ho fun h2 he2 hs2=>?_
  have nT:H s.heap.objs.size=none:=I.hok.fresh (Nat.le_refl _)
  have elt:e < s.heap.objs.size:=Heap.lt_size he
  have B2:∀ b o,b ∉ [e,it]->s.heap.get? b=some o->h2.get? b=some o:=fun b o hb q=>by
   simp only [List.mem_cons,List.not_mem_nil,or_false,not_or] at hb
   exact (hs2.2 b hb.1).trans (hk b o hb.1 hb.2 q)
  have T2:h2.get? s.heap.objs.size=some { cls:= .type "tuple",data:= .seq #[.int i tk,x1] }:=(hs2.2 _ (Nat.ne_of_gt elt)).trans hT
  have hit2:ItA g h2 it l (i+1):=hit1.to fun o ho'=>(hs2.2 it hei.symm).trans ho'
  have ntr:∀ b u,H b=some u->b ∉ [e,it]:=fun b u q hb=>by
   have:=(hf b hb).1
   rw [q] at this; cases this
  have neT:∀ b u,H b=some u->b ≠ s.heap.objs.size:=fun b u e q=>by rw [q,nT] at e; cases e
  have hok2:HOk X.prog X.w (upd H s.heap.objs.size (.tup [.int (i:Int),x])) h2:=fun b u q=>by
   by_cases hb:b=s.heap.objs.size
   ·subst hb
    rw [jp] at q
    cases q
    exact ⟨by show 2<=sizeLine; rw [sizeLine_eq]; decide,[.int i tk,x1],.cons ⟨_,rfl⟩ (.cons l1 .nil),⟨_,T2,rfl,_,rfl⟩⟩
   ·rw [jo hb] at q
    refine (I.hok b u q).stay (fun c o hc' z=>B2 c o ?_ z) (fun c z=>by rw [jo (neT c _ z)]; exact z) fun c ws z=>by rw [jo (neT c _ z)]; exact z
    rcases hc' with q' | q'
    ·rw [q']; exact ntr b u q
    ·exact ntr c _ q'
  have I2:Inv X pins σ (upd H s.heap.objs.size (.tup [.int (i:Int),x])) { s with heap:=h2,toks:=tk+1 }:=by
   refine I.step (t':=tk+1) (g':=s.gens) (d':=s.drawn) (ch:=[e,it]) (fun b hb=>?_) (fun b o _ _ hb q _=>B2 b o hb q) (fun b o _ _ hb q _=>⟨o.slots,B2 b o hb q⟩) (fun b o hb q n=>?_) (fun b o hb q=>⟨o,B2 b o hb q⟩)
    (fun b ws q=>by rw [jo (neT b _ q)]; exact q) (fun b ob ws q=>by rw [jo (neT b _ q)]; exact q) (fun b ps q=>⟨#[],by rw [jo (neT b _ q),q]; simp⟩) (fun m hm=>?_) hok2 I.bare
   ·obtain ⟨f0,f1,f2,f3,f4,f5⟩:=hf b hb
    exact ⟨f3,f1,f4,f5⟩
   ·rw [jo (Nat.ne_of_lt (Heap.lt_size q))]; exact n
   ·obtain ⟨o,es,ep,ho',r⟩:=hm
    refine ⟨o,es,ep,B2 _ o (fun hb=>?_) ho',r⟩
    exact (hf _ hb).2.1 rfl
  refine ⟨.ref s.heap.objs.size,_,I2,rfl,⟨_,x,rfl,nT,rfl,fun as g1=>?_⟩,⟨⟨_,by simpa using he2⟩,hit2⟩,fun b hb=>?_⟩
  ·rw [Sq.inj I g1 q1]; exact ex
  ·have hlt:b < s.heap.objs.size:=by
    simp only [List.mem_cons,List.not_mem_nil,or_false] at hb
    rcases hb with rfl | rfl
    ·exact elt
    ·obtain ⟨o,vs,ho',_⟩:=hit.obj; exact Heap.lt_size ho'
   rw [jo (Nat.ne_of_lt hlt)]
   exact (hf b hb).1
 done:=by
  intro X hP hw hK hc i pins s σ H E I hf st hg
  subst hP hw hK
  obtain ⟨xs,q1,hl⟩:=hg
  obtain ⟨us1,r1,p1⟩:=q1.inv I
  have hlen:=r1.length
  obtain ⟨⟨old,he⟩,hit⟩:=st
  refine wpAny_pyNext_enum_endD (n:=i) (fp:=[it,l]) (P:=fun _ _=>False) (St:=fun k h=>k=i/\ItA g h it l i/\SrA g h l us1.toArray) ⟨fun _ _ st=>by obtain ⟨o,_,e,_⟩:=st.2.1.obj; exact ⟨o,e⟩,fun _ _ _ st kp=>⟨st.1,st.2.1.to fun o e=>kp it (by simp) o e,st.2.2.to fun o e=>kp l (by simp) o e⟩,fun k s Q E hk st=>absurd st.1 (by omega),fun s Q E st hE=>ZJ (show X.A.in1.handled=none from I.ok.hd hc) st.2.1 st.2.2 (by simp; omega) hE⟩ he ⟨rfl,hit,p1⟩ fun h1 hx=>⟨rfl,?_⟩
  have ntr:∀ b u,H b=some u->b ≠ it:=fun b u q hb=>by
   have:=(hf it (by simp)).1
   rw [hb] at q
   rw [q] at this; cases this
  refine I.step (t':=s.toks) (g':=s.gens) (d':=s.drawn) (ch:=[it]) (fun b hb=>?_) (fun b o _ _ hb q _=>hx b o (by simpa using hb) q) (fun b o _ _ hb q _=>⟨o.slots,hx b o (by simpa using hb) q⟩) (fun b o hb q n=>n) (fun b o hb q=>⟨o,hx b o (by simpa using hb) q⟩)
   (fun b ws q=>q) (fun b ob ws q=>q) (fun b ps q=>⟨#[],by rw [q]; simp⟩) (fun m hm=>?_) (fun b u q=>?_) I.bare
  ·obtain ⟨f0,f1,f2,f3,f4,f5⟩:=hf b (by simp only [List.mem_cons,List.not_mem_nil,or_false] at hb ⊢; exact .inr hb)
   exact ⟨f3,f1,f4,f5⟩
  ·obtain ⟨o,es,ep,ho,r⟩:=hm
   refine ⟨o,es,ep,hx _ o (fun hb=>?_) ho,r⟩
   exact (hf it (by simp)).2.1 hb.symm
  ·refine (I.hok b u q).stay (fun c o hc' z=>hx c o ?_ z) (fun c z=>z) fun c ws z=>z
   rcases hc' with q' | q'
   ·rw [q']; exact ntr b u q
   ·exact ntr c _ q'
 self:=fun _ _ _ _ _ st h=>by
  obtain ⟨⟨old,he⟩,_⟩:=st
  exact wpAny_pyIter_enum he h
section
variable {X:Cx}
noncomputable def apG (K:PySem.W.Frag) (ta:TA):TI:=fun σ H R=>ta σ H fun vs H1=>∃ g a xs,vs=[.ref a]/\Sq g K H1 a xs/\R (aqW K g a) H1
theorem alN {ea:Expr}{elts:List Expr}{x1:Nat}{tp:Pos}{ta:TA}{p pos:Pos} (hg:Gl X "enumerate") (hm:X.mg "enumerate"=none) (ha:PA X [ea] ta)
  (hs:starEach [ea] X.env=[(false,eval ea X.env)]:=by rfl):
  PI X (.Tuple elts x1 tp) (.Call (.Name "enumerate" p) [ea] [] pos) (apG X.K ta):=by
 intro pins s σ H R I h
 refine Call_ (Q9 I hg hm boot_enumerate (PyProof.Rows.callWith_type1 (thn (ha pos pins s σ H _ I h) fun us s1 ⟨vs,H1,I1,r1,q1⟩=>?_) (by rw [hs]; rfl) (by rfl)))
 obtain ⟨g,a,xs,e,q1,q⟩:=q1
 subst e
 cases r1 with
 | cons r1 rr=>
  cases rr
  cases r1
  obtain ⟨us1,v1,p1⟩:=q1.inv I1
  have al:a < s1.heap.objs.size:=by
   cases g with
   | true=>obtain ⟨o,e,_⟩:=p1; exact Heap.lt_size e
   | false=>obtain ⟨o,e,_⟩:=p1; exact Heap.lt_size e
  have hz:(qh1 g s1.heap a).objs.size=s1.heap.objs.size+1:=Heap.size_push ..
  refine callType_new F.called_enumerate (by decide) (F.typeCall_enumerate_1 _) (F.newCall_enumerate_1 _) (fun obj=>F.args_object_init_2 obj _) F.entry_enumerate_new (ajS g a us1.toArray) ⟨p1,?_⟩
  have he:IsEnum ((qh1 g s1.heap a).push (enO s1.heap.objs.size)) (qh1 g s1.heap a).objs.size s1.heap.objs.size 0 .none:=Heap.get?_push_size (qh1 g s1.heap a) (o:=enO s1.heap.objs.size) rfl
  have hit:ItA g ((qh1 g s1.heap a).push (enO s1.heap.objs.size)) s1.heap.objs.size a 0:=ahx (Heap.get?_push_of_some _ (Heap.get?_push_size _ (acN g a)))
  have kp:∀ b o,s1.heap.get? b=some o->((qh1 g s1.heap a).push (enO s1.heap.objs.size)).get? b=some o:=fun b o e=>Heap.get?_push_of_some _ (Heap.get?_push_of_some _ e)
  show _/\_
  refine ⟨⟨_,he,rfl⟩,?_⟩
  rw [hz] at he ⊢
  refine wpAny_pyIter_enum he ?_
  have I2:Inv X pins σ H1 { s1 with heap:=(qh1 g s1.heap a).push (enO s1.heap.objs.size) }:=I1.kept (t':=s1.toks) kp
  refine ⟨_,[s1.heap.objs.size+1,s1.heap.objs.size],_,_,H1,rfl,I2,ahB (g:=g) (e:=s1.heap.objs.size+1) (it:=s1.heap.objs.size) (l:=a) (Nat.succ_ne_self _) ⟨Nat.ne_of_lt (Nat.lt_succ_of_lt al),Nat.ne_of_lt al⟩,⟨⟨_,he⟩,hit⟩,fun x hx=>?_,q⟩
  have hle:s1.heap.objs.size<=x:=by
   simp only [List.mem_cons,List.not_mem_nil,or_false] at hx
   rcases hx with e | e <;> rw [e] <;> omega
  exact I1.fpOk hle (I1.hok.fresh hle)
noncomputable def af8 (ds:List PyData):Option (List PyData):=match ds with
 | [p]=>(acO p).map (Zp 0)
 | _=>none
theorem ad0 {ea:Expr}{elts:List Expr}{x1:Nat}{tp:Pos}{p pos:Pos}{fr:Rho->Option (List PyData)} (hm:X.mg "enumerate"=none) (ha:PAD X [ea] fr) (hg:Gl X "enumerate":=by rfl)
  (hs:starEach [ea] X.env=[(false,eval ea X.env)]:=by rfl):
  PID X (.Tuple elts x1 tp) (.Call (.Name "enumerate" p) [ea] [] pos) (fun ρ=>(fr ρ).bind af8):=by
 with_unfolding_all
  refine PI.imp (alN hg hm ha hs) fun σ H R ⟨ρ,ds,en,q,k⟩=>?_
  cases h1:fr ρ with
  | none=>simp [h1] at q
  | some as=>
   have q':af8 as=some ds:=by simpa [h1] using q
   refine ⟨ρ,as,en,h1,fun vs H1 s1 r1=>?_⟩
   unfold af8 at q'
   split at q'
   ·rename_i dp
    cases hp:acO dp with
    | none=>simp [hp] at q'
    | some xs=>
    simp only [hp,zzE,Option.some.injEq] at q'
    subst q'
    obtain ⟨v1,w1,e1,rp,e4⟩:=r1
    cases (show w1=[] from e4)
    obtain ⟨g,a,us,g1,qa,ra⟩:=acP hp rp
    subst g1
    have l1:=ra.length
    have lz:=adW xs 0
    refine ⟨g,a,us,e1,qa,k _ H1 s1 fun i H2 s2=>⟨fun hi=>?_,fun hi=>?_,fun u H3 y=>?_⟩⟩
    ·rw [lz] at hi
     exact ⟨us,us[i]'(by omega),Sq.monoE s2 qa,by simp <;> omega⟩
    ·rw [lz] at hi
     exact ⟨us,Sq.monoE s2 qa,by omega⟩
    ·obtain ⟨pp,x,e5,e6,e7,e8⟩:=y
     subst e5; subst e7
     refine ⟨jA e6,fun d hd=>?_⟩
     obtain ⟨dx,g3,g4⟩:=adX xs 0 i d hd
     subst g4
     have f1:=e8 us (Sq.monoE s2 qa)
     have m:=s2.trans (jt.e (jA (o:= .tup [.int (i:Int),x]) e6))
     obtain ⟨x',a1,a2⟩:=(Reps.monoE m _ _ ra).get g3
     rw [f1] at a1; cases a1
     exact ⟨pp,[.int (i:Int),x],rfl,SqT.of jp,_,_,rfl,by show V.int (i:Int)=V.int ((0+i:Nat):Int); rw [Nat.zero_add],x,_,rfl,a2,rfl⟩
   ·cases q'
end
section
variable {prog:Program}{w:World}{A:Around}{E:Value->Shared->Prop}{s:Shared}
theorem af9 {sl:Addr}{vk:Value}{n:Nat}{Q:Int × Int × Nat->Shared->Prop} (hs:s.heap.IsSliceOf sl .none .none vk) (pk:IsPart vk (some (-1)))
  (h:Q ((n:Int) - 1,-1,n) s):wpAny (model prog w) A (Builtin.Slice.sliceApplied (.ref sl) (pure (n:Int))) Q E s:=by
 obtain ⟨os,hos,hcs,hds⟩:=id hs
 unfold Builtin.Slice.sliceApplied Builtin.Slice.sliceFields
 refine wpAny_bind (wpAny_bind (wpAny_field hos hds (x:= .none) rfl (wpAny_bind (wpAny_field hos hds (x:= .none) rfl (wpAny_bind (wpAny_field hos hds (x:=vk) rfl (wpAny_pure ?_)))))))
 refine wpAny_bind (HT.slicePart_ pk ?_)
 show wpAny _ _ (if (((-1:Int)) == 0)=true then _ else _) _ _ s
 rw [if_neg (by decide)]
 refine wpAny_bind (PyProof.Rows.slicePart_none (wpAny_bind (PyProof.Rows.slicePart_none (wpAny_bind (wpAny_pure ?_)))))
 show wpAny _ _ (pure (((n:Int) - 1),(-1:Int),Builtin.Slice.slicePlaces ((n:Int) - 1) (-1) (-1))) _ _ s
 have e:Builtin.Slice.slicePlaces ((n:Int) - 1) (-1) (-1)=n:=by
  unfold Builtin.Slice.slicePlaces
  rw [if_neg (by decide)]
  by_cases hn:(n:Int) - 1 > -1
  ·rw [if_pos hn,show (- -1:Int)=1 by decide,Int.ediv_one]; omega
  ·rw [if_neg hn]; omega
 rw [e]
 exact wpAny_pure h
theorem ajT (xs:Array Value):((List.range xs.size).filterMap fun (k:Nat)=>xs[(((xs.size:Int) - 1)+(k:Int)*(-1)).toNat]?).toArray=xs.toList.reverse.toArray:=by
 have e:((List.range xs.size).filterMap fun (k:Nat)=>xs[(((xs.size:Int) - 1)+(k:Int)*(-1)).toNat]?)=((List.range xs.size).map fun k=>xs.size - 1 - k).filterMap (xs[·]?):=by
  rw [List.filterMap_map]
  have key:∀ l:List Nat,(∀ k ∈ l,k < xs.size)->l.filterMap (fun (k:Nat)=>xs[(((xs.size:Int) - 1)+(k:Int)*(-1)).toNat]?)=l.filterMap ((fun x=>xs[x]?) ∘ fun k=>xs.size - 1 - k):=by
   intro l
   induction l with
   | nil=>intro _; rfl
   | cons k l ih=>
    intro hl
    have hk:=hl k List.mem_cons_self
    have e1:(((xs.size:Int) - 1)+(k:Int)*(-1)).toNat=xs.size - 1 - k:=by omega
    simp only [List.filterMap_cons,Function.comp_apply,e1,ih fun j hj=>hl j (List.mem_cons_of_mem _ hj)]
  exact key _ fun k hk=>List.mem_range.mp hk
 rw [e,PySem.W.krv_range,List.filterMap_reverse,PySem.W.krv_all]
theorem ab5 {t sl:Addr}{items:Array Value}{vk:Value}{Q:Value->Shared->Prop} (ht:IsTup s.heap t items) (hs:s.heap.IsSliceOf sl .none .none vk) (pk:IsPart vk (some (-1)))
  (h:Q (.ref s.heap.objs.size) { s with heap:=s.heap.push { cls:= .type "tuple",data:= .seq items.toList.reverse.toArray } }) (hsz:items.size<=sizeLine):wpAny (model prog w) A (getItem (.ref t) (.ref sl)) Q E s:=by
 obtain ⟨os,hos,hcs,hds⟩:=id hs
 have hTs:s.TypeIs (.ref sl) "slice":=⟨os,hos,hcs⟩
 have hz:sizeOk (.seq items.toList.reverse.toArray):=by
  show items.toList.reverse.toArray.size<=sizeLine
  rw [List.size_toArray,List.length_reverse,Array.length_toList]; exact hsz
 unfold getItem
 first | (with_reducible refine wpAny_holding ?_) | skip
 first | refine wpAny_bind (wpAny_pure ?_) | skip
 refine wpAny_bind (wpAny_sequenceKey ht.typeIs (by decide) ?_)
 refine wpAny_bind (wpAny_callSpecial?_slot (name:=Str.ofString "__getitem__") ht.typeIs PyProof.Rows.slot_tuple_getitem (wpAny_call_entry PyProof.Rows.slot_tuple_getitem ht.typeIs entry_tuple_getitem ?_ (args_tuple_getitem _ _)))
 show wpAny _ _ (Builtin.Tuple.tupleItemsOf (.ref t) >>= _) _ _ s
 refine wpAny_bind (tupleItemsOf_ ht (wpAny_bind (wpAny_typeOf hTs ?_)))
 rw [if_pos (show (Value.type "slice" == Value.type "slice")=true by decide)]
 refine wpAny_bind (af9 hs pk ?_)
 show wpAny _ _ (if (((items.size:Int) - 1) == 0 && ((-1:Int)) == 1 && items.size == items.size)=true then _ else _) _ _ s
 rw [if_neg (by simp),ajT]
 first
  | exact wpAny_bind (m:=Builtin.Tuple.tupleExact _) (wpAny_newObj_type (wpAny_pure ⟨_,rfl,wpAny_pure h⟩) hz)
  | exact wpAny_bind (m:=Builtin.Tuple.tupleExact _) (wpAny_newObj_type (wpAny_bind (wpAny_pure (wpAny_pure ⟨_,rfl,wpAny_pure h⟩))) hz)
  | exact wpAny_bind (wpAny_bind (m:=Builtin.Tuple.tupleExact _) (wpAny_newObj_type (wpAny_pure (wpAny_pure ⟨_,rfl,wpAny_pure h⟩)) hz))
  | exact wpAny_bind (wpAny_bind (m:=Builtin.Tuple.tupleExact _) (wpAny_newObj_type (wpAny_pure ⟨_,rfl,wpAny_pure h⟩) hz))
end
section
variable {X:Cx}{a:Expr}{fa:Rho->Option PyData}{pos p1 p2 p3:Pos}{j:Nat}
noncomputable def anN (p:PyData):Option PyData:=match p with
 | .tuple ds=>some (.tuple ds.reverse)
 | .list ds=>some (.list ds.reverse)
 | _=>none
theorem Reps.rev {K:PySem.W.Frag}{H:Hp}{ds:List PyData}{xs:List V} (h:Reps K H ds xs):Reps K H ds.reverse xs.reverse:=by
 have app:∀ {as bs:List PyData} {us vs:List V},Reps K H as us->Reps K H bs vs->Reps K H (as++bs) (us++vs):=by
  intro as
  induction as with
  | nil=>intro bs us vs h1 h2; cases (show us=[] from h1); exact h2
  | cons d as ih=>
   intro bs us vs ⟨x,r,e,h1,h2⟩ h3
   subst e
   exact ⟨x,r++vs,rfl,h1,ih h2 h3⟩
 induction ds generalizing xs with
 | nil=>cases (show xs=[] from h); rfl
 | cons d ds ih=>
  obtain ⟨x,r,rfl,h1,h2⟩:=h
  rw [List.reverse_cons,List.reverse_cons]
  exact app (ih h2) ⟨x,[],rfl,h1,rfl⟩
theorem apH (ha:PD X a fa):PD X (.Subscript a (.Slice none none (some (.UnaryOp .USub (.Constant (.int 1) j p1) p2)) p3) pos) (fun ρ=>(fa ρ).bind anN):=by
 with_unfolding_all
  intro pins s σ H Q I ⟨ρ,d,en,q,k⟩
  cases h1:fa ρ with
  | none=>simp [h1] at q
  | some p=>
   have q':anN p=some d:=by simpa [h1] using q
   refine Subscript_ (thn (ha pins s σ H (fun v H1=>jt H H1/\Rep X.K H1 p v) I ⟨ρ,p,en,h1,fun v H1 s1 r1=>⟨s1,r1⟩⟩) fun v s1 ⟨x,H1,I1,r1,sm,rp⟩=>?_)
   refine wpAny_Slice ?_
   rw [evalPart_none]
   refine wpAny_pure (wpAny_pure ?_)
   refine thn (aey (X:=X) (aoz aky akn) pins s1 σ H1 (fun o H2=>o=some (-1)/\H2=H1) I1 ⟨1,rfl,-1,rfl,rfl,rfl⟩) fun vk s2 ⟨o,H2,I2,pk,e1,e2⟩=>?_
   subst e1
   subst e2
   have I4:Inv X pins σ H2 { s2 with heap:=s2.heap.push { cls:= .type "slice",data:= .fields #[.none,.none,vk] } }:=I2.kept (t':=s2.toks) fun b ob q=>Heap.get?_push_of_some _ q
   unfold anN at q'
   split at q'
   ·rename_i ds
    cases q'
    obtain ⟨t,xs,rfl,hx,rr⟩:=rp
    cases r1
    obtain ⟨its,r,ht,hz⟩:=I4.tuple hx
    have hlen:its.toArray.size=xs.length:=by rw [List.size_toArray]; exact r.length.symm
    refine tail_any (ops:=[.ref t,.ref s2.heap.objs.size]) ht.typeIs PyProof.Rows.slot_tuple_getitem.lookup (ab5 ht (Heap.IsSliceOf.new ..) pk ?_ (by rw [hlen]; exact hz)) (by with_unfolding_all rfl)
    have hn:=I4.hok.fresh (Nat.le_refl _)
    refine ⟨.ref _,_,I4.laid (t':=s2.toks) (o:= .tup xs.reverse) (fun b ob q=>Heap.get?_push_of_some _ q) (Nat.le_refl _) ?_,rfl,k _ _ (sm.trans (jA hn)) ⟨_,_,rfl,SqT.of jp,Reps.mono (jA hn) _ _ rr.rev⟩⟩
    exact ⟨by rw [List.length_reverse]; exact hz,_,r.reverse,IsTup.new _ _⟩
   ·rename_i ds
    cases q'
    obtain ⟨t,xs,rfl,hx,rr⟩:=rp
    cases r1
    obtain ⟨its,r,ht,hz⟩:=I4.list (SqL.of hx)
    have hlen:=r.length
    refine tail_any (ops:=[.ref t,.ref s2.heap.objs.size]) ht.isList.typeIs slot_list_getitem.lookup (wpAny_getItem_list_slice ht.isList (Heap.IsSliceOf.new ..) .none .none pk (by decide) ?_ (by rw [List.size_toArray] <;> omega)) (by with_unfolding_all rfl)
    rw [PySem.W.krv_pick]
    have hn:=I4.hok.fresh (Nat.le_refl _)
    refine ⟨.ref _,_,I4.laid (t':=s2.toks) (o:= .lst xs.reverse) (fun b ob q=>Heap.get?_push_of_some _ q) (Nat.le_refl _) ?_,rfl,k _ _ (sm.trans (jA hn)) ⟨_,_,rfl,jp,Reps.mono (jA hn) _ _ rr.rev⟩⟩
    exact ⟨by rw [List.length_reverse]; exact hz,_,0,r.reverse,Heap.get?_push_size _ rfl⟩
   ·cases q'
end
section
variable {X:Cx}{e b ev:Expr}{qg:List Stmt}{fe fk fv:Rho->Option PyData}{G:Rho->Option Out}{pos pos2:Pos}
noncomputable def arG (P:Program) (w:World) (K:PySem.W.Frag) (j i:Nat) (G:Rho->Option Out):TS:=fun D σ H=>∃ Hs H0 ρ ρi σ0 o,EnvO P w K Hs H0 (some j) ρ σ0/\EnvO P w K H0 H (some i) ρi σ/\σ[j]?=σ0[j]?/\G (ρi.set j (lkp j ρ))=some o/\aoI P w K Hs (some j) D o
theorem anO {j i:Nat} (h:abo X (some j) qg G):PSs X qg (arG X.prog X.w X.K j i G):=by
 with_unfolding_all
  intro pins s σ H D I ⟨Hs,H0,ρ,ρi,σ0,o,E,E2,hj,q,k⟩
  obtain ⟨d0,a,cl,o',g1,g2,g3,S,g4,env,sm,back,keep⟩:=E2.opn
  refine h pins s σ (upd H a o') D (Inv.opened I S g4) ⟨Hs,ρi.set j (lkp j ρ),o,⟨by rw [List.length_set]; exact E2.len,E.sm.trans sm,fun n x qx nx=>?_,fun n hn=>?_⟩,q,k⟩
  ·have hne:j ≠ n:=fun z=>nx (by rw [z])
   rw [List.getElem?_set_ne hne] at qx
   exact env.at' n x qx
  ·cases hn
   obtain ⟨dO,bO,o1,o2,o3,o4⟩:=E.ow j rfl
   have hl:j < ρi.length:=by
    rw [E2.len]
    rw [←hj] at o2
    exact (List.getElem?_eq_some_iff.mp o2).1
   have lk:lkp j ρ=some dO:=by unfold lkp; rw [o1]; rfl
   exact ⟨dO,bO,by rw [List.getElem?_set_self hl,lk],by rw [hj]; exact o2,o3,o4.mono sm⟩
noncomputable def ahC (j i:Nat) (fe fk fv:Rho->Option PyData):Rho->Option Out:=fun ρ=>(fe (ρ.set j none)).bind fun d=>if i < ρ.length/\i ≠ j then
  (ajB (lkp i ((ρ.set j none).set i (some d))) (brw (some i) fv ((ρ.set j none).set i (some d))) (brw (some i) fk ((ρ.set j none).set i (some d)))).map fun d'=> .nx ((ρ.set i (some d')))
 else none
theorem alO (j i:Nat) {x:Str}{pos' p1 p2:Pos} (hN:X.N.Nodup) (he:PN X e fe) (hk:PD X b fk) (hv:PD X ev fv) (h:abo X (some j) qg G) (hi:X.N[i]?=some x:=by rfl) (hx:Loc X.env.scope x:=by first | exact Or.inl rfl | exact Or.inr rfl) (hs:swapsWith e (some (.Name x pos')) pos.line X.env=pure false:=by rfl)
  (hf:X.fn x=true ∨ X.env.scope.names.lookup x=some .local:=by first | exact .inl rfl | exact .inr rfl | assumption)
  (hvi:Vis X.env.scope x:=by first | exact Or.inl rfl | exact Or.inr (Or.inl rfl) | exact Or.inr (Or.inr rfl)) (hd:(x == ("__debug__":Str))=false:=by decide) (hcd:(x == ("__classdict__":Str))=false:=by decide)
  (ha:∀ v,assign (.Subscript (.Name x p1) b p2) X.env v=(do
   let ov ←holding [v] (eval (.Name x p1) X.env)
   let iv ←holding [v,ov] (eval b X.env)
   standAt p2
   holding [v,ov,iv] (setItem ov iv v)
   release [v,ov,iv] []):=by intro _; rfl)
  (hs2:swapsWithSole [.Subscript (.Name x p1) b p2] ev pos2.line X.env=pure false:=by rfl) (hw2:swappedStores [.Subscript (.Name x p1) b p2] ev X.env=pure none:=by rfl)
  (h12:(assignEach [.Subscript (.Name x p1) b p2] X.env).map (·.2)=[assign (.Subscript (.Name x p1) b p2) X.env]:=by rfl):
  abo X (some j) (.Assign [.Name x pos'] e pos :: .Assign [.Subscript (.Name x p1) b p2] ev pos2::qg) (jV (ahC j i fe fk fv) G):=by
 with_unfolding_all
  refine PSs.imp (JE (act hN hi hx he hs hf) (JE (akw (acI (own:=some i) hv) (akv (abc hi hvi hd hcd) (acI (own:=some i) hk) alv ha) hs2 hw2 h12) (anO (i:=i) h))) fun D σ H ⟨Hs,ρ,o,E,q,k⟩=>?_
  cases h1:fe (ρ.set j none) with
  | none=>simp [jV,ahC,h1] at q
  | some d=>
   by_cases hij:i < ρ.length/\i ≠ j
   ·cases hp:ajB (lkp i ((ρ.set j none).set i (some d))) (brw (some i) fv ((ρ.set j none).set i (some d))) (brw (some i) fk ((ρ.set j none).set i (some d))) with
    | none=>simp [jV,ahC,h1,hij,hp] at q
    | some nw=>
     have q':G (ρ.set i (some nw))=some o:=by simpa [jV,ahC,h1,hij,hp] using q
     obtain ⟨ds,dv,n,jx,q1,q2,q3,hl,rfl⟩:=alw hp
     have EH:=E.hid
     refine ⟨hid (some j) ρ,d,EH,h1,fun a H1 s1 hn ow=>?_⟩
     have len1:i < σ.length:=by rw [←E.len]; exact hij.1
     have E1:EnvO X.prog X.w X.K H H1 (some i) ((ρ.set j none).set i (some d)) (σ.set i (some (.ref a))):=by
      refine ⟨by simp [E.len],s1,fun m y qy ny=>?_,fun m hm=>?_⟩
      ·have him:i ≠ m:=fun z=>ny (by rw [z])
       rw [List.getElem?_set_ne him] at qy ⊢
       obtain ⟨v,w1,w2⟩:=EH.at' m y qy
       exact ⟨v,w1,Rep.mono s1 _ _ w2⟩
      ·cases hm
       exact ⟨d,a,by rw [List.getElem?_set_self (by rw [List.length_set]; exact hij.1)],by rw [List.getElem?_set_self len1],hn,ow⟩
     refine ⟨H,_,dv,E1,q2,fun v H2 s2 E2 r2=>?_⟩
     obtain ⟨d0,a0,g1,g2,g3,g4⟩:=E2.ow i rfl
     rw [qE q1] at g1; cases g1
     refine ⟨.ref a0,g2,H,_,.int n,E2,q3,fun kv H3 s3 E3 r3=>?_⟩
     cases (show kv=V.int n from r3)
     obtain ⟨d1,a1,f1,f2,f3,f4⟩:=E3.ow i rfl
     rw [qE q1] at f1; cases f1
     rw [g2] at f2; cases f2
     obtain ⟨xs,e2,e3⟩:=f4
     have s5:jQ H3 (upd H3 a0 (zG a0 (xs.set jx v))):=jQ.upd e2
     have E4:=E3.put (d':= .list (ds.set jx dv)) (c:=zG a0 (xs.set jx v)) (qE q1) g2 f3 e2 (fun _ _ _ z=>z) ⟨_,jp,Reps.set (Rep.monoE (s3.trans s5) _ _ r2) jx (Reps.monoE s5 _ _ e3)⟩
     refine ⟨a0,xs,n,jx,rfl,rfl,e2,by rw [e3.length]; exact hl,Hs,H,ρ,_,σ,o,E,E4,?_,?_,k⟩
     ·rw [List.getElem?_set_ne hij.2]
     ·have hjl:j < ρ.length:=by
       obtain ⟨_,_,z,_⟩:=E.ow j rfl
       exact (List.getElem?_eq_some_iff.mp z).1
      have er:(((ρ.set j none).set i (some d)).set i (some (.list (ds.set jx dv)))).set j (lkp j ρ)=ρ.set i (some (.list (ds.set jx dv))):=by
       rw [List.set_set]
       apply List.ext_getElem?
       intro m
       by_cases hm:j=m
       ·subst hm
        rw [List.getElem?_set_self (by simp; exact hjl),List.getElem?_set_ne hij.2]
        unfold lkp
        cases hq:ρ[j]? with
        | none=>exact absurd (List.getElem?_eq_none_iff.mp hq) (by omega)
        | some y=>cases y <;> rfl
       ·rw [List.getElem?_set_ne hm]
        by_cases hm2:i=m
        ·subst hm2
         rw [List.getElem?_set_self (by simp; exact hij.1),List.getElem?_set_self hij.1]
        ·rw [List.getElem?_set_ne hm2,List.getElem?_set_ne hm2,List.getElem?_set_ne hm]
      rw [er]
      exact q'
   ·simp [jV,ahC,h1,hij] at q
end
section
variable {X:Cx}
theorem abS:∀ ns:List Int,qU (ns.map PyData.int)=some ns
 | []=>rfl
 | n::ns=>by simp [qU,adm,abS ns]
theorem RepM.ints {K:PySem.W.Frag}{H:Hp}:∀ {r:List (PyData × PyData)}{ks:List (Key × V)}{ns:List Int},RepM K H r ks->qU (r.map (·.1))=some ns->ks.map (·.1)=ns.map (fun n=>(Sum.inl n:Key))
 | [],ks,ns,h,e=>by cases (show ks=[] from h); cases e; rfl
 | (k,c)::r,ks,ns,⟨i,x,s,h1,h2,h3,h4⟩,e=>by
  subst h1; subst h2
  have e':=Jx e
  cases ns with
  | nil=>simp at e'
  | cons n ns=>
   rw [List.map_cons,List.map_cons] at e'
   obtain ⟨e1,e2⟩:=List.cons.inj e'
   have e1:i=n:=by injection e1
   have e3:qU (r.map (·.1))=some ns:=by rw [e2]; exact abS ns
   rw [List.map_cons,List.map_cons,RepM.ints h4 e3,e1]
end
end BX
end
local macro_rules
  | `(tactic| dsimp? [$xs,*])=>`(tactic| simp only [BX.jV,BX.ifS,BX.ifD,BX.ifX,BX.adl,BX.orB,BX.zO,BX.tst,BX.op2,BX.chn,BX.jM,BX.Qn,BX.Q5,BX.jr,BX.jF,BX.lkp,BX.cst,BX.zD,BX.QG,BX.zA,BX.jJ,BX.zh,BX.nxX,BX.orX,BX.ajG,BX.aeF,BX.asB,zzA,zzB,zzC,zzD,zzH,zzE,zzI,zzF,zzG,zzJ,zzK,zzL,zzM,zzN,$(⟨xs.elemsAndSeps⟩),*])
section
namespace Rods
open PySem L2 BX
open PyProof.Rows hiding St
noncomputable def top (i:Nat):Stmt:=PySem.Challenge.pw_beadrods_k21_nearest.main.body.getD i (.Pass ⟨0,0,0,0⟩)
structure Bare (mg:Str->Option Value):Prop where
 isi:mg "isinstance"=none
 bool:mg "bool"=none
 int:mg "int"=none
 tuple:mg "tuple"=none
 zip:mg "zip"=none
 range:mg "range"=none
 all:mg "all"=none
 len:mg "len"=none
 max:mg "max"=none
 min:mg "min"=none
 sum:mg "sum"=none
 sorted:mg "sorted"=none
 abs:mg "abs"=none
 list:mg "list"=none
 enum:mg "enumerate"=none
 vale:mg "ValueError"=none
 str:mg "str"=none
 set:mg "set"=none
 dict:mg "dict"=none
theorem anP:bootBuiltins "bool"=some (.type "bool"):=by decide +kernel
theorem alP:bootBuiltins "int"=some (.type "int"):=by decide +kernel
theorem Zs:bootBuiltins "tuple"=some (.type "tuple"):=by decide +kernel
theorem aiC:bootBuiltins "list"=some (.type "list"):=by decide +kernel
theorem alQ:bootBuiltins "all"=some (.builtin "all"):=by decide +kernel
theorem qA:bootBuiltins "len"=some (.builtin "len"):=by decide +kernel
theorem aho:bootBuiltins "max"=some (.builtin "max"):=by decide +kernel
theorem ahn:bootBuiltins "min"=some (.builtin "min"):=by decide +kernel
theorem alR:bootBuiltins "sum"=some (.builtin "sum"):=by decide +kernel
theorem abu:bootBuiltins "abs"=some (.builtin "abs"):=by decide +kernel
end Rods
namespace Rods
open PySem L2 BX
open PyProof.Rows hiding St
noncomputable abbrev aaO:Stmt:=top 9
noncomputable abbrev ZN:Stmt:=top 18
noncomputable abbrev aaP:Stmt:=top 17
noncomputable abbrev qZ (C:Program->World->PySem.W.Frag->(Str->Option Value)->Heap->Prop) (qual:Str) (st:Stmt) (N:List Str) (k:Nat) (B:Rho->Option Out):Prop:=
 ∀ (P:Program) (w:World) (K:PySem.W.Frag) (mg:Str->Option Value) (base:Heap) (f:Addr) (cdv:Value) (A:Around) (outer:List Env) (s:Shared) (H:Hp) (E:XK),C P w K mg base->Room k (A.deeper (envOfC qual (jg st) s.heap.objs.size f cdv))->
  Z9 (JF CX0 P w K mg base N qual (jg st) f cdv A outer s H E).nox (jK st) B
theorem ahD:FnScope ["thing","least","most"] ["thing","least","most"] (jg aaO):=⟨rfl,rfl,rfl,by decide +kernel,rfl,by decide +kernel,by decide +kernel⟩
noncomputable def aaQ:{ B:Rho->Option Out // qZ (fun _ _ _ mg _=>Bare mg) "is_whole" aaO ["thing","least","most"] 0 B }:=
 ⟨_,fun P w K mg base f cdv A outer s H E T hr=>
  je (j9 (qF (Qg (qu (abn (.inl rfl) T.isi T.bool anP (jb 0))) (zY (qD (qu (abn (.inr (.inl rfl)) T.isi T.int alP (jb 0))))))) (je (jw zl) ji) ji)
  (je (jw (akV Zf Zf (jb 1) (jb 0) (jb 2))) ji)⟩
noncomputable def j5:List PyData->Option PyData:=jC ["thing","least","most"] 3 aaQ.1
theorem aga:FnScope ["manner","rod"] ["manner","rod"] (jg ZN):=⟨rfl,rfl,rfl,by decide +kernel,rfl,by decide +kernel,by decide +kernel⟩
noncomputable def abv:{ B:Rho->Option Out // qZ (fun _ _ _ _ _=>True) "rod_worth" ZN ["manner","rod"] 0 B }:=
 ⟨_,fun P w K mg base f cdv A outer s H E T hr=>
  je (jw (jq jy (jq qN (jB (jb 1) jf) (jB (jb 0) jf)) (jB (jb 1) jf))) ji⟩
noncomputable def ze:List PyData->Option PyData:=jC ["manner","rod"] 2 abv.1
noncomputable def zb (i:Nat) (m:Nat):List PyData:=(List.range m).map fun (j:Nat)=>PyData.tuple [.int (i:Int),.int (j:Int)]
noncomputable def zx (n m:Nat):List PyData:=(List.range n).flatMap fun (i:Nat)=>zb i m
theorem agb (i m:Nat):zb i (m+1)=zb i m++[PyData.tuple [.int (i:Int),.int (m:Int)]]:=by simp [zb,List.range_succ]
theorem QQ (n m:Nat):zx (n+1) m=zx n m++zb n m:=by simp [zx,List.range_succ]
theorem agc (i m:Nat):noLs (zb i m)=true:=Zi fun d hd=>by
 obtain ⟨j,_,rfl⟩:=List.mem_map.mp hd
 simp [noL,noLs]
theorem ajU (n m:Nat):noLs (zx n m)=true:=by
 induction n with
 | zero=>simp [zx,noLs]
 | succ n ih=>rw [QQ,Zh,ih,agc]; rfl
theorem aeV (i m:Nat):(zb i m).length=m:=by simp [zb]
theorem aaR (n m:Nat):(zx n m).length=n*m:=by
 induction n with
 | zero=>simp [zx]
 | succ n ih=>rw [QQ,List.length_append,ih,aeV,Nat.succ_mul]
noncomputable def Jg (ds:List PyData):Option PyData:=match ds with
 | [.tuple [.int u,.int _,.int l,.int _]]=>if 0<=u/\u < 1000/\0<=l/\l < 1000 then some (.list (zx (u+1).toNat (l+1).toNat)) else none
 | _=>none
theorem QR:FnScope ["manner","rods","upper","lower"] ["manner"] (jg aaP):=⟨rfl,rfl,rfl,by decide +kernel,rfl,by decide +kernel,by decide +kernel⟩
end Rods
namespace Rods
open PySem L2 BX
open PyProof.Rows hiding St
section
variable {P:Program}{w:World}{K:PySem.W.Frag}{mg:Str->Option Value}{base:Heap}
theorem ahE {f:Addr}{fd:FuncData} (F:Fun K "all_rods" "all_rods" aaP f fd) (T:Bare mg):FnOk P w K mg base CX0 1 f fd ["manner"] (Pur K 1 Jg):=by
 with_unfolding_all
  refine F.ok QR (fun vs H Q E h=>?_) (fun cdv A outer s H vs Q E hr h=>?_)
  ·obtain ⟨ds,d,h1,h2,_⟩:=h
   rw [h2.length]; exact h1
  ·obtain ⟨ds,d,h1,h2,h3,k⟩:=h
   unfold Jg at h3
   split at h3
   ·rename_i u e l b
    split at h3
    ·rename_i hb
     obtain ⟨hu0,hu1,hl0,hl1⟩:=hb
     cases h3
     refine ⟨_,JE (act (i:=1) QR.nd rfl (Or.inl rfl) (ahe Jl))
      (JE (aex PassesOwn.never rfl (abd rfl T.range (ja (jq jy (jB (jb 0) jf) jf) jd)) (aav (i:=2) QR.nd rfl (Or.inl rfl))
       (aev (aex PassesOwn.never rfl (abd rfl T.range (ja (jq jy (jB (jb 0) jf) jf) jd)) (aav (i:=3) QR.nd rfl (Or.inl rfl))
        (aev (aew (afD PySem.F.plainAttrs_list PySem.F.slot_list_append PySem.F.type_list_append adF (pv 1) (qM (akD (qM (pv 2) (qM (pv 3) Jl))) Jl)))))))
      (aev (ag9 (pv 1)))),?_⟩
     obtain ⟨mv,rr,e1,em,e2⟩:=h2
     cases (show rr=[] from e2)
     subst e1
     have nm:noL (PyData.tuple [.int u,.int e,.int l,.int b])=true:=by simp [noL,noLs]
     refine ⟨Nat.zero_le _,fun p hp=>?_⟩
     have envr:∀ {H2:Hp} {x2 x3:Option V} {y:Option V},jt H H2->EnvR K H2 [some (PyData.tuple [.int u,.int e,.int l,.int b]),none,none,none] [some mv,y,x2,x3]:=fun {H2 x2 x3 y} s2=>
      ⟨rfl,fun i d q=>by
       cases i with
       | zero=>cases q; exact ⟨mv,rfl,Rep.mono s2 _ _ em⟩
       | succ i=>
        match i,q with
        | 0,q=>cases q
        | 1,q=>cases q
        | 2,q=>cases q
        | j+3,q=>simp at q⟩
     refine ⟨_,[.int (u+1)],envr (jA hp),by simp [jr,jF,op2,lkp,dIx,atI,ixN,cst,zB],fun vs1 H1 s1 r1=>?_⟩
     obtain ⟨y1,q1,f1,f2,f3⟩:=r1
     cases (show y1=V.int (u+1) from f2)
     cases (show q1=[] from f3)
     subst f1
     refine ⟨u+1,rfl,by omega,by omega,adz (n:=(u+1).toNat) (fun i σ H2=>∃ x2 x3 xs,σ=[some mv,some (.ref p),x2,x3]/\jt H H2/\H2 p=some (.lst xs)/\Reps K H2 (zx i (l+1).toNat) xs)
      ⟨none,none,[],rfl,(jA hp).trans s1,s1 _ _ jp,rfl⟩ ?_ ?_⟩
     ·rintro i σ H2 hi ⟨x2,x3,xs,rfl,s2,hp2,r2⟩
      refine ⟨_,[.int (l+1)],envr s2,by simp [jr,jF,op2,lkp,dIx,atI,ixN,cst,zB],fun vs2 H3 s3 r3=>?_⟩
      obtain ⟨y2,q2,g1,g2,g3⟩:=r3
      cases (show y2=V.int (l+1) from g2)
      cases (show q2=[] from g3)
      subst g1
      refine ⟨l+1,rfl,by omega,by omega,adz (n:=(l+1).toNat) (fun j σ H4=>∃ x3 ys,σ=[some mv,some (.ref p),some (.int (0+i)),x3]/\jt H H4/\H4 p=some (.lst ys)/\Reps K H4 (zx i (l+1).toNat++zb i j) ys)
       ⟨x3,xs,rfl,s2.trans s3,s3 _ _ hp2,by simpa [zb] using Reps.mono s3 _ _ r2⟩ ?_ ?_⟩
      ·rintro j σ H4 hj ⟨x3',ys,rfl,s4,hp4,r4⟩
       have hlen:ys.length < sizeLine:=by
        rw [r4.length,List.length_append,aaR,aeV,sizeLine_eq]
        have h1:i*(l+1).toNat<=1000*1001:=Nat.mul_le_mul (by omega) (by omega)
        omega
       refine ⟨_,rfl,.inl ⟨rfl,ys,SqL.of hp4⟩,_,rfl,_,rfl,by show 2<=sizeLine; rw [sizeLine_eq]; decide,fun q hq=>?_⟩
       have npq:p ≠ q:=qL hp4 hq
       refine ⟨p,ys,.ref q,rfl,rfl,by rw [jo npq]; exact hp4,hlen,?_⟩
       have t1:zR H4 (upd (upd H4 q (.tup [.int (0+(i:Int)),.int (0+(j:Int))])) p (.lst (ys++[.ref q]))):=
        (jt.n (jA hq)).trans (zR.upd (xs:=ys) (by rw [jo npq]; exact hp4))
       refine ⟨_,ys++[.ref q],rfl,fun c o hc=>?_,jp,?_⟩
       ·have hc4:=s4 c o hc
        rw [jo (qL hc hp),jo (qL hc4 hq)]
        exact hc4
       ·rw [agb,←List.append_assoc]
        refine (Reps.monoN t1 _ _ (by rw [Zh,ajU,agc]; rfl) r4).append ⟨.ref q,[],rfl,⟨q,_,rfl,SqT.of (by rw [jo (Ne.symm npq)]; exact jp),?_⟩,rfl⟩
        exact ⟨_,_,rfl,by show _=V.int _; rw [Int.zero_add],_,_,rfl,by show _=V.int _; rw [Int.zero_add],rfl⟩
      ·rintro σ H4 ⟨x3',ys,rfl,s4,hp4,r4⟩
       exact ⟨_,x3',ys,rfl,s4,hp4,by rw [QQ]; exact r4⟩
     ·rintro σ H2 ⟨x2,x3,xs,rfl,s2,hp2,r2⟩
      exact ⟨_,rfl,k _ _ s2 ⟨p,xs,rfl,hp2,r2⟩⟩
    ·cases h3
   ·cases h3
end
end Rods
namespace Rods
open PySem L2 BX
open PyProof.Rows hiding St
noncomputable abbrev ZO:Stmt:=top 14
noncomputable abbrev ZP:Stmt:=top 13
noncomputable abbrev CC:=Program->World->PySem.W.Frag->(Str->Option Value)->Heap->Prop
structure CHasAll (P:Program) (w:World) (K:PySem.W.Frag) (mg:Str->Option Value) (base:Heap):Prop where
 t:Bare mg
 allRods:jn P w K mg base "all_rods" ["manner"] 1 1 Jg
 rodWorth:jn P w K mg base "rod_worth" ["manner","rod"] 1 2 ze
theorem ad2:FnScope ["manner","worths"] ["manner"] (jg ZO):=⟨rfl,rfl,rfl,by decide +kernel,rfl,by decide +kernel,by decide +kernel⟩
theorem nd2:(["rod","manner"]:List Str).Nodup:=by decide +kernel
theorem nd3:(["digit","worths"]:List Str).Nodup:=by decide +kernel
noncomputable def aeW:{ B:Rho->Option Out // qZ CHasAll "has_all_digits" ZO ["manner","worths"] 1 B }:=
 ⟨_,fun P w K mg base f cdv A outer s H E C hr=>
  je (jz 1 ad2.nd (zp ["rod","manner"] [none,some 0] rfl (acE (jl C.allRods hr (Nat.le_refl _) (ja (jb 0) jd) (jc jk))) (qO (jg ZO) ["manner","worths"] (by decide +kernel))
   fun cl C' s0 H0 fp pn=>⟨jG 0 nd2,qT,jl C.rodWorth hr (Nat.le_refl _) (ja (jb 1) (ja (jb 0) jd)) (jc (jc jk))⟩))
  (je (jw (jD (akX rfl) C.t.all alQ (ja (zp ["digit","worths"] [none,some 1] rfl (j6 rfl C.t.range (ja (jB (jb 0) jf) jd)) (qO (jg ZO) ["manner","worths"] (by decide +kernel))
   fun cl C' s0 H0 fp pn=>⟨jG 0 nd3,qT,abi (apu hr.units) (jb 0) (jb 1)⟩) jd))) ji)⟩
noncomputable abbrev acS:Stmt:=top 15
noncomputable def GC (K:PySem.W.Frag) (mg:Str->Option Value) (x:Str) (d:PyData):Prop:=∃ v u,mg x=some u/\jU v u/\∀ H,Rep K H d v
theorem j4 {X:Cx}{pos:Pos}{x:Str}{d:PyData} (c:GC X.K X.mg x d) (hg:Gl X x:=by rfl) (hd:(x == ("__debug__":Str))=false:=by decide):PD X (.Name x pos) (cst d):=by
 with_unfolding_all
  obtain ⟨v,u,h1,h2,h3⟩:=c
  exact anh hg h1 h2 h3 hd
noncomputable def aaS:List PyData->Option PyData:=jC ["manner","worths"] 1 aeW.1
structure CIsManner (P:Program) (w:World) (K:PySem.W.Frag) (mg:Str->Option Value) (base:Heap):Prop where
 t:Bare mg
 least:GC K mg "LEAST_PARTS" (.tuple [.int 0,.int 1,.int 0,.int 2])
 most:GC K mg "MOST_PARTS" (.tuple [.int 3,.int 16,.int 12,.int 16])
 isWhole:jn P w K mg base "is_whole" ["thing","least","most"] 1 3 j5
 hasAll:jn P w K mg base "has_all_digits" ["manner"] 2 1 aaS
theorem JX:FnScope ["thing","part","least","most"] ["thing"] (jg ZP):=⟨rfl,rfl,rfl,by decide +kernel,rfl,by decide +kernel,by decide +kernel⟩
noncomputable def abw:{ B:Rho->Option Out // qZ CIsManner "is_manner" ZP ["thing","part","least","most"] 2 B }:=
 ⟨_,fun P w K mg base f cdv A outer s H E C hr=>
  je (j9 (qF (Qg (qD (qu (abn (.inr (.inr rfl)) C.t.isi C.t.tuple Zs (jb 0)))) (zY (jT (qX hr.units) (jD qz C.t.len qA (ja (jb 0) jd)) (jD qz C.t.len qA (ja (j4 C.most) jd)))))) (je (jw zl) ji) ji)
  (je (zE PassesOwn.never rfl (ak2 C.t.zip (ja (jb 0) (ja (j4 C.least) (ja (j4 C.most) jd)))) (ab7 (n:=3) rfl (zd (jG 1 JX.nd) (zd (jG 2 JX.nd) (zd (jG 3 JX.nd) aaA))))
   (je (j9 (qD (qu (jl C.isWhole hr (by decide) (ja (jb 1) (ja (jb 2) (ja (jb 3) jd))) (jc (jc (jc jk)))))) (je (jw zl) ji) ji) ji))
  (je (jw (jl C.hasAll hr (Nat.le_refl _) (ja (jb 0) jd) (jc jk))) ji))⟩
noncomputable def j1:List PyData->Option PyData:=jC ["thing","part","least","most"] 1 abw.1
structure CCheck (P:Program) (w:World) (K:PySem.W.Frag) (mg:Str->Option Value) (base:Heap):Prop where
 isManner:jn P w K mg base "is_manner" ["thing"] 3 1 j1
theorem agd:FnScope ["thing"] ["thing"] (jg acS):=⟨rfl,rfl,rfl,by decide +kernel,rfl,by decide +kernel,by decide +kernel⟩
noncomputable def aeX:{ B:Rho->Option Out // qZ CCheck "check_manner" acS ["thing"] 3 B }:=
 ⟨_,fun P w K mg base f cdv A outer s H E C hr=>
  je (j9 (qD (qu (jl C.isManner hr (Nat.le_refl _) (ja (jb 0) jd) (jc jk)))) aal ji) ji⟩
noncomputable def QS:List PyData->Option PyData:=jC ["thing"] 1 aeX.1
noncomputable abbrev zH:Stmt:=top 24
noncomputable abbrev Jz:Stmt:=top 25
noncomputable abbrev ZQ:Stmt:=top 26
noncomputable abbrev JA:Stmt:=top 27
noncomputable abbrev aag (C:CC) (qual:Str) (st:Stmt) (N:List Str) (k:Nat) (sts:List Stmt) (B:Rho->Option Out):Prop:=
 ∀ (P:Program) (w:World) (K:PySem.W.Frag) (mg:Str->Option Value) (base:Heap) (f:Addr) (cdv:Value) (A:Around) (outer:List Env) (s:Shared) (H:Hp) (E:XK),C P w K mg base->Room k (A.deeper (envOfC qual (jg st) s.heap.objs.size f cdv))->
  Z9 (JF CX0 P w K mg base N qual (jg st) f cdv A outer s H E).nox sts B
noncomputable abbrev aah (own:Nat) (C:CC) (qual:Str) (st:Stmt) (N:List Str) (k:Nat) (sts:List Stmt) (B:Rho->Option Out):Prop:=
 ∀ (P:Program) (w:World) (K:PySem.W.Frag) (mg:Str->Option Value) (base:Heap) (f:Addr) (cdv:Value) (A:Around) (outer:List Env) (s:Shared) (H:Hp) (E:XK),C P w K mg base->Room k (A.deeper (envOfC qual (jg st) s.heap.objs.size f cdv))->
  abo (JF CX0 P w K mg base N qual (jg st) f cdv A outer s H E).nox (some own) sts B
noncomputable def jW:Stmt->List Stmt
 | .For _ _ b _ _=>b
 | _=>[]
noncomputable def zP (l:List Stmt) (i:Nat):Stmt:=l.getD i (.Pass ⟨0,0,0,0⟩)
structure CNum (P:Program) (w:World) (K:PySem.W.Frag) (mg:Str->Option Value) (base:Heap):Prop where
 rodWorth:jn P w K mg base "rod_worth" ["manner","rod"] 1 2 ze
noncomputable abbrev anQ:List Str:=["manner","setting","number","rod"]
theorem aeY:FnScope anQ ["manner","setting"] (jg Jz):=⟨rfl,rfl,rfl,by decide +kernel,rfl,by decide +kernel,by decide +kernel⟩
noncomputable def aeZ:{ B:Rho->Option Out // aag CNum "number_on" Jz anQ 1 (jW (zP (jK Jz) 1)) B }:=
 ⟨_,fun P w K mg base f cdv A outer s H E C hr=>
  je (jz 2 aeY.nd (jq jy (jq qN (jb 2) (jB (jb 0) jf)) (jl C.rodWorth hr (Nat.le_refl _) (ja (jb 0) (ja (jb 3) jd)) (jc (jc jk))))) ji⟩
noncomputable def anR:{ B:Rho->Option Out // qZ CNum "number_on" Jz anQ 1 B }:=
 ⟨_,fun P w K mg base f cdv A outer s H E C hr=>
  je (jz 2 aeY.nd jf) (je (zE PassesOwn.never rfl (aeG (jb 1)) (jG 3 aeY.nd) (aeZ.2 P w K mg base f cdv A outer s H E C hr)) (je (jw (jb 2)) ji))⟩
noncomputable def ahF:List PyData->Option PyData:=jC anQ 2 anR.1
theorem anS:FnScope ["manner","rods"] ["manner","rods"] (jg ZQ):=⟨rfl,rfl,rfl,by decide +kernel,rfl,by decide +kernel,by decide +kernel⟩
noncomputable def aiD:{ B:Rho->Option Out // qZ (fun _ _ _ _ _=>True) "full_rods" ZQ ["manner","rods"] 0 B }:=
 ⟨_,fun P w K mg base f cdv A outer s H E C hr=>
  je (jw (jq alm (j8 (ja (j8 (ja (jB (jb 0) jf) (ja (jB (jb 0) jf) jd))) jd)) (jb 1))) ji⟩
noncomputable def alS:List PyData->Option PyData:=jC ["manner","rods"] 2 aiD.1
structure CLast (P:Program) (w:World) (K:PySem.W.Frag) (mg:Str->Option Value) (base:Heap):Prop where
 allRods:jn P w K mg base "all_rods" ["manner"] 1 1 Jg
 rodWorth:jn P w K mg base "rod_worth" ["manner","rod"] 1 2 ze
 num:jn P w K mg base "number_on" ["manner","setting"] 2 2 ahF
 full:jn P w K mg base "full_rods" ["manner","rods"] 1 2 alS
noncomputable abbrev aiE:List Str:=["manner","ahead","number","base","most","told","rod","left"]
theorem ZR:FnScope aiE ["manner","ahead","number"] (jg JA):=⟨rfl,rfl,rfl,by decide +kernel,rfl,by decide +kernel,by decide +kernel⟩
noncomputable def ZS:{ B:Rho->Option Out // aah 5 CLast "last_rods" JA aiE 2 (jW (zP (jK JA) 3)) B }:=
 ⟨_,fun P w K mg base f cdv A outer s H E C hr=>
  jE (aeK 7 ZR.nd (jq zF (jb 2) (jl C.rodWorth hr (by decide) (ja (jb 0) (ja (jb 6) jd)) (jc (jc jk)))))
  (jE (ahr (qF (aeE (jT (Ze hr.units) (jq QI (jb 7) (jb 3)) jf) (acB (abl Zf Zf jf (jb 7) (jq qN (jb 3) (jb 4))))))
   (jE (ab9 (adT 5 (j8 (ja (jb 6) (ja (jq Zd (jb 7) (jb 3)) jd))))) j2) j2) j2)⟩
noncomputable def aiF:{ B:Rho->Option Out // qZ CLast "last_rods" JA aiE 2 B }:=
 ⟨_,fun P w K mg base f cdv A outer s H E C hr=>
  Zj (jE (adS (jz 3 ZR.nd (jB (jb 0) jf)))
  (jE (adS (jz 4 ZR.nd (jl C.num hr (Nat.le_refl _) (ja (jb 0) (ja (jl C.full hr (by decide) (ja (jb 0) (ja (jb 1) jd)) (jc (jc jk))) jd)) (jc (jc jk)))))
  (Zl 5 ZR.nd (aeM jd)
  (jE (zZ PassesOwn.never rfl (acE (jl C.allRods hr (by decide) (ja (jb 0) jd) (jc jk))) (JH 6 ZR.nd) (ZS.2 P w K mg base f cdv A outer s H E C hr))
  (jE (aaF (jb 5)) j2)))))⟩
noncomputable def aiG:List PyData->Option PyData:=jC aiE 3 aiF.1
structure CChkNum (P:Program) (w:World) (K:PySem.W.Frag) (mg:Str->Option Value) (base:Heap):Prop where
 isWhole:jn P w K mg base "is_whole" ["thing","least","most"] 1 3 j5
 most:GC K mg "MOST_NUMBER" (.int 99999)
theorem ad3:FnScope ["number"] ["number"] (jg zH):=⟨rfl,rfl,rfl,by decide +kernel,rfl,by decide +kernel,by decide +kernel⟩
noncomputable def acd:{ B:Rho->Option Out // qZ CChkNum "check_number" zH ["number"] 1 B }:=
 ⟨_,fun P w K mg base f cdv A outer s H E C hr=>
  je (j9 (qD (qu (jl C.isWhole hr (Nat.le_refl _) (ja (jb 0) (ja jf (ja (j4 C.most) jd))) (jc (jc (jc jk)))))) aal ji) ji⟩
noncomputable def zr:List PyData->Option PyData:=jC ["number"] 1 acd.1
noncomputable abbrev ae0:Stmt:=top 16
noncomputable abbrev zV:Stmt:=top 22
noncomputable abbrev zm:Stmt:=top 23
noncomputable def aqd:Stmt->List Stmt
 | .While _ b _ _=>b
 | _=>[]
structure CIsRod (P:Program) (w:World) (K:PySem.W.Frag) (mg:Str->Option Value) (base:Heap):Prop where
 t:Bare mg
 isWhole:jn P w K mg base "is_whole" ["thing","least","most"] 1 3 j5
theorem alT:FnScope ["manner","thing"] ["manner","thing"] (jg ae0):=⟨rfl,rfl,rfl,by decide +kernel,rfl,by decide +kernel,by decide +kernel⟩
noncomputable def acT:{ B:Rho->Option Out // qZ CIsRod "is_rod" ae0 ["manner","thing"] 1 B }:=
 ⟨_,fun P w K mg base f cdv A outer s H E C hr=>
  je (j9 (qF (Qg (qD (qu (abn (.inr (.inr rfl)) C.t.isi C.t.tuple Zs (jb 1)))) (zY (jT (qX hr.units) (jD qz C.t.len qA (ja (jb 1) jd)) jf)))) (je (jw zl) ji) ji)
  (je (jw (alp (jl C.isWhole hr (Nat.le_refl _) (ja (jB (jb 1) jf) (ja jf (ja (jB (jb 0) jf) jd))) (jc (jc (jc jk)))) (alo (jl C.isWhole hr (Nat.le_refl _) (ja (jB (jb 1) jf) (ja jf (ja (jB (jb 0) jf) jd))) (jc (jc (jc jk))))))) ji)⟩
noncomputable def Zt:List PyData->Option PyData:=jC ["manner","thing"] 2 acT.1
structure CIsSet (P:Program) (w:World) (K:PySem.W.Frag) (mg:Str->Option Value) (base:Heap):Prop where
 t:Bare mg
 check:jn P w K mg base "check_manner" ["thing"] 4 1 QS
 isRod:jn P w K mg base "is_rod" ["manner","thing"] 2 2 Zt
 most:GC K mg "MOST_RODS" (.int 4)
theorem age:FnScope ["manner","thing"] ["manner","thing"] (jg zV):=⟨rfl,rfl,rfl,by decide +kernel,rfl,by decide +kernel,by decide +kernel⟩
theorem ndp:(["part","manner"]:List Str).Nodup:=by decide +kernel
noncomputable def acU:{ B:Rho->Option Out // qZ CIsSet "is_setting" zV ["manner","thing"] 4 B }:=
 ⟨_,fun P w K mg base f cdv A outer s H E C hr=>
  je (qG (jl C.check hr (Nat.le_refl _) (ja (jb 0) jd) (jc jk)))
  (je (j9 (qF (Qg (qD (qu (abn (.inr (.inr rfl)) C.t.isi C.t.tuple Zs (jb 1)))) (zY (qD (abl Zf Zf jf (jD qz C.t.len qA (ja (jb 1) jd)) (j4 C.most)))))) (je (jw zl) ji) ji)
  (je (jw (jD (akX rfl) C.t.all alQ (ja (zp ["part","manner"] [none,some 0] rfl (aeG (jb 1)) (qO (jg zV) ["manner","thing"] (by decide +kernel))
   fun cl C' s0 H0 fp pn=>⟨jG 0 ndp,qT,jl C.isRod hr (by decide) (ja (jb 1) (ja (jb 0) jd)) (jc (jc jk))⟩) jd))) ji))⟩
noncomputable def abx:List PyData->Option PyData:=jC ["manner","thing"] 2 acU.1
structure CChkSet (P:Program) (w:World) (K:PySem.W.Frag) (mg:Str->Option Value) (base:Heap):Prop where
 isSet:jn P w K mg base "is_setting" ["manner","thing"] 5 2 abx
theorem ad4:FnScope ["manner","thing"] ["manner","thing"] (jg zm):=⟨rfl,rfl,rfl,by decide +kernel,rfl,by decide +kernel,by decide +kernel⟩
noncomputable def aaT:{ B:Rho->Option Out // qZ CChkSet "check_setting" zm ["manner","thing"] 5 B }:=
 ⟨_,fun P w K mg base f cdv A outer s H E C hr=>
  je (j9 (qD (qu (jl C.isSet hr (Nat.le_refl _) (ja (jb 0) (ja (jb 1) jd)) (jc (jc jk))))) aal ji) ji⟩
noncomputable def jS:List PyData->Option PyData:=jC ["manner","thing"] 2 aaT.1
noncomputable abbrev aiH:Stmt:=top 45
noncomputable abbrev ae1:Stmt:=top 46
noncomputable abbrev ace:Stmt:=top 47
noncomputable abbrev Qr:Stmt:=top 48
theorem anT:FnScope ["_law_script","_law_k"] ["_law_script","_law_k"] (jg aiH):=⟨rfl,rfl,rfl,by decide +kernel,rfl,by decide +kernel,by decide +kernel⟩
noncomputable def aiI:{ B:Rho->Option Out // qZ (fun _ _ _ mg _=>Bare mg) "_law_cell" aiH ["_law_script","_law_k"] 0 B }:=
 ⟨_,fun P w K mg base f cdv A outer s H E C hr=>
  je (j9 (jT (Ze hr.units) (jb 0) (qr jd)) (je (jw (jq qN jf (jb 1))) ji) ji)
  (je (jw (jq jy (jB (jb 0) (jq QI (jb 1) (jD qz C.len qA (ja (jb 0) jd)))) (jq qN jf (jq Zd (jb 1) (jD qz C.len qA (ja (jb 0) jd)))))) ji)⟩
noncomputable def agf:List PyData->Option PyData:=jC ["_law_script","_law_k"] 2 aiI.1
structure CDrawn (P:Program) (w:World) (K:PySem.W.Frag) (mg:Str->Option Value) (base:Heap):Prop where
 cell:jn P w K mg base "_law_cell" ["_law_script","_law_k"] 1 2 agf
theorem acV:FnScope ["_law_script","_law_k","_law_many","_law_cell_here"] ["_law_script","_law_k","_law_many"] (jg ae1):=⟨rfl,rfl,rfl,by decide +kernel,rfl,by decide +kernel,by decide +kernel⟩
noncomputable def ahG:{ B:Rho->Option Out // qZ CDrawn "_law_drawn" ae1 ["_law_script","_law_k","_law_many","_law_cell_here"] 1 B }:=
 ⟨_,fun P w K mg base f cdv A outer s H E C hr=>
  je (jz 3 acV.nd (jq QI (jq jy (jq qN (jq QI (jl C.cell hr (Nat.le_refl _) (ja (jb 0) (ja (jb 1) jd)) (jc (jc jk))) jf) jf) (jq qN jf (jq jy (jb 1) jf))) jf))
  (je (jz 3 acV.nd (jq QI (jq jy (jq qN (jb 3) (jb 3)) (jq Zd (jb 3) jf)) jf))
  (je (jw (jq QI (jq Zd (jq QI (jq jy (jq qN (jb 3) (jb 3)) (jq Zd (jb 3) jf)) jf) jf) (jb 2))) ji))⟩
noncomputable def JI:List PyData->Option PyData:=jC ["_law_script","_law_k","_law_many","_law_cell_here"] 3 ahG.1
noncomputable abbrev ae2:List Str:=["_law_script","_law_at","_law_known","_law_way","_law_each","_law_upper","_law_lower"]
structure CManner (P:Program) (w:World) (K:PySem.W.Frag) (mg:Str->Option Value) (base:Heap):Prop where
 t:Bare mg
 drawn:jn P w K mg base "_law_drawn" ["_law_script","_law_k","_law_many"] 2 3 JI
theorem zW:FnScope ae2 ["_law_script","_law_at"] (jg ace):=⟨rfl,rfl,rfl,by decide +kernel,rfl,by decide +kernel,by decide +kernel⟩
noncomputable def jm (a b c d:Int):PyData:= .tuple [.int a,.int b,.int c,.int d]
noncomputable def aby:List PyData:=[jm 1 5 4 10,jm 2 5 5 10,jm 0 1 9 10,jm 1 5 5 10,jm 0 1 10 10,jm 1 2 1 4,jm 0 1 1 2]
noncomputable def abz:List PyData:=[jm 1 4 3 8,jm 1 3 2 5,jm 3 4 3 16,jm 2 3 2 7,jm 1 1 1 3]
noncomputable def acf:{ B:Rho->Option Out // qZ CManner "_law_manner" ace ae2 2 B }:=
 ⟨_,fun P w K mg base f cdv A outer s H E C hr=>
  je (jz 2 zW.nd (zU 3 (.list aby) (by kernel_rfl)))
  (je (jz 2 zW.nd (jq jy (jb 2) (zU 3 (.list abz) (by kernel_rfl))))
  (je (jz 3 zW.nd (jl C.drawn hr (Nat.le_refl _) (ja (jb 0) (ja (jb 1) (ja (jq qN jf (jD qz C.t.len qA (ja (jb 2) jd))) jd))) (jc (jc (jc jk)))))
  (je (j9 (jT ahl (jb 3) (jD qz C.t.len qA (ja (jb 2) jd))) (je (jw (jB (jb 2) (jb 3))) ji) ji)
  (je (jz 4 zW.nd (jq jy jf (jl C.drawn hr (Nat.le_refl _) (ja (jb 0) (ja (jq jy (jb 1) jf) (ja jf jd))) (jc (jc (jc jk))))))
  (je (jz 5 zW.nd (jl C.drawn hr (Nat.le_refl _) (ja (jb 0) (ja (jq jy (jb 1) jf) (ja jf jd))) (jc (jc (jc jk)))))
  (je (jz 6 zW.nd (jq jy (jD (aip rfl) C.t.max aho (ja (jq zF (jb 4) jf) (ja jf jd))) (jl C.drawn hr (Nat.le_refl _) (ja (jb 0) (ja (jq jy (jb 1) jf) (ja jf jd))) (jc (jc (jc jk))))))
  (je (jw (j8 (ja (jb 5) (ja (jb 4) (ja (jb 6) (ja (jq jy jf (jl C.drawn hr (Nat.le_refl _) (ja (jb 0) (ja (jq jy (jb 1) jf) (ja (jD (ann rfl) C.t.min ahn (ja jf (ja (jq jy (jq qN (jb 5) (jb 4)) (jb 6)) jd))) jd))) (jc (jc (jc jk))))) jd)))))) ji)))))))⟩
noncomputable def ZT:List PyData->Option PyData:=jC ae2 2 acf.1
structure CSetting (P:Program) (w:World) (K:PySem.W.Frag) (mg:Str->Option Value) (base:Heap):Prop where
 t:Bare mg
 drawn:jn P w K mg base "_law_drawn" ["_law_script","_law_k","_law_many"] 2 3 JI
noncomputable abbrev anU:List Str:=["_law_script","_law_at","_law_manner_here","_law_most","_law_rods_here","_law_found","_law_k","_law_rod"]
theorem abA:FnScope anU ["_law_script","_law_at","_law_manner_here","_law_most"] (jg Qr):=⟨rfl,rfl,rfl,by decide +kernel,rfl,by decide +kernel,by decide +kernel⟩
noncomputable def ae3:{ B:Rho->Option Out // aag CSetting "_law_setting" Qr anU 2 (jW (zP (jK Qr) 2)) B }:=
 ⟨_,fun P w K mg base f cdv A outer s H E C hr=>
  (je (jz 7 abA.nd (j8 (ja (jl C.drawn hr (by decide) (ja (jb 0) (ja (jq jy (jq jy (jb 1) jf) (jq qN jf (jb 6))) (ja (jq jy (jB (jb 2) jf) jf) jd))) (jc (jc (jc jk)))) (ja (jl C.drawn hr (by decide) (ja (jb 0) (ja (jq jy (jq jy (jb 1) jf) (jq qN jf (jb 6))) (ja (jq jy (jB (jb 2) jf) jf) jd))) (jc (jc (jc jk)))) jd))))
  (je (jz 5 abA.nd (jq jy (jb 5) (j8 (ja (jb 7) jd))))
  ji))⟩
noncomputable def anV:{ B:Rho->Option Out // qZ CSetting "_law_setting" Qr anU 2 B }:=
 ⟨_,fun P w K mg base f cdv A outer s H E C hr=>
  (je (jz 4 abA.nd (jq jy jf (jl C.drawn hr (by decide) (ja (jb 0) (ja (jb 1) (ja (jb 3) jd))) (jc (jc (jc jk))))))
  (je (jz 5 abA.nd (j8 jd))
  (je (zE PassesOwn.never rfl (j6 rfl C.t.range (ja (jb 4) jd)) (jG 6 abA.nd) (ae3.2 P w K mg base f cdv A outer s H E C hr))
  (je (jw (jb 5))
  ji))))⟩
noncomputable def anW:List PyData->Option PyData:=jC anU 4 anV.1
noncomputable abbrev aaU (C:CC) (qual:Str) (st:Stmt) (N:List Str) (k:Nat) (Fx:Rho->Option Str):Prop:=
 ∀ (P:Program) (w:World) (K:PySem.W.Frag) (mg:Str->Option Value) (base:Heap) (f:Addr) (cdv:Value) (A:Around) (outer:List Env) (s:Shared) (H:Hp) (E:XK),C P w K mg base->Room k (A.deeper (envOfC qual (jg st) s.heap.objs.size f cdv))->
  ab4 (JF (CXt P w) P w K mg base N qual (jg st) f cdv A outer s H E) (jK st) Fx
noncomputable def qC (k:Bool):PyData:= .str (if k=true then "lower" else "upper")
noncomputable def mv (r:Int) (k:Bool) (c:Int):PyData:= .tuple [.int r,qC k,.int c]
theorem Zi {ds:List PyData} (h:∀ d ∈ ds,noL d=true):noLs ds=true:=by
 induction ds with
 | nil=>rfl
 | cons d ds ih=>simp only [noLs,h d List.mem_cons_self,ih fun c hc=>h c (List.mem_cons_of_mem _ hc),Bool.and_self]
noncomputable def ab (i:Int):Int:=if i < 0 then -i else i
noncomputable def fd (p q:Int × Int):Int:=ab (q.1 - p.1)+ab (q.2 - p.2)
end Rods
namespace Rods
open PySem L2 BX
open PyProof.Rows hiding St
noncomputable abbrev qV:List Str:=["NoManner","NoSetting","NoNumber","NoMove","TooGreat","Nothing"]
noncomputable abbrev JY:Stmt:=top 32
structure CNamesBeads (P:Program) (w:World) (K:PySem.W.Frag) (mg:Str->Option Value) (base:Heap):Prop where
 t:Bare mg
 c_isWhole:jn P w K mg base "is_whole" ["thing","least","most"] 1 3 j5
 k_DECKS:GC K mg "DECKS" (.tuple [.str "upper",.str "lower"])
noncomputable abbrev Zu:List Str:=["setting","thing"]
theorem adt:FnScope Zu ["setting","thing"] (jg JY):=⟨rfl,rfl,rfl,by decide +kernel,rfl,by decide +kernel,by decide +kernel⟩
noncomputable def zc:{ B:Rho->Option Out // qZ CNamesBeads "names_beads" JY Zu 1 B }:=
 ⟨_,fun P w K mg base f cdv A outer s H E C hr=>
  (je (j9 (qF (Qg (qD (qu (abn (.inr (.inr rfl)) C.t.isi C.t.tuple Zs (jb 1)))) (zY (jT (qX hr.units) (jD qz C.t.len qA (ja (jb 1) jd)) jf)))) (je (jw zl)
  ji) ji)
  (je (j9 (qF (Qg (qD (qu (jl C.c_isWhole hr (by decide) (ja (jB (jb 1) jf) (ja jf (ja (jq zF (jD qz C.t.len qA (ja (jb 0) jd)) jf) jd))) (jc (jc (jc jk)))))) (zY (jT (adL hr.units) (jB (jb 1) jf) (j4 C.k_DECKS))))) (je (jw zl)
  ji) ji)
  (je (jw (alp (jl C.c_isWhole hr (by decide) (ja (jB (jb 1) jf) (ja (QL jf) (ja jf jd))) (jc (jc (jc jk)))) (alo (abi (qX hr.units) (jB (jb 1) jf) jf))))
  ji)))⟩
noncomputable def JZ:List PyData->Option PyData:=jC Zu 2 zc.1
noncomputable abbrev acg:Stmt:=top 33
structure CPushed (P:Program) (w:World) (K:PySem.W.Frag) (mg:Str->Option Value) (base:Heap):Prop where
 tr:True
noncomputable abbrev ae4:List Str:=["rod","deck","by"]
theorem ajV:FnScope ae4 ["rod","deck","by"] (jg acg):=⟨rfl,rfl,rfl,by decide +kernel,rfl,by decide +kernel,by decide +kernel⟩
noncomputable def aaV:{ B:Rho->Option Out // qZ CPushed "pushed" acg ae4 0 B }:=
 ⟨_,fun P w K mg base f cdv A outer s H E C hr=>
  (je (j9 (jT (Ze hr.units) (jb 1) aeD) (je (jw (j8 (ja (jq jy (jB (jb 0) jf) (jb 2)) (ja (jB (jb 0) jf) jd))))
  ji) ji)
  (je (jw (j8 (ja (jB (jb 0) jf) (ja (jq jy (jB (jb 0) jf) (jb 2)) jd))))
  ji))⟩
noncomputable def ach:List PyData->Option PyData:=jC ae4 3 aaV.1
noncomputable abbrev aaW:Stmt:=top 31
structure CCanMove (P:Program) (w:World) (K:PySem.W.Frag) (mg:Str->Option Value) (base:Heap):Prop where
 c_NamesBeads:jn P w K mg base "names_beads" ["setting","thing"] 2 2 JZ
 c_isRod:jn P w K mg base "is_rod" ["manner","thing"] 2 2 Zt
 c_Pushed:jn P w K mg base "pushed" ["rod","deck","by"] 1 3 ach
noncomputable abbrev acW:List Str:=["manner","setting","thing"]
theorem ahH:FnScope acW ["manner","setting","thing"] (jg aaW):=⟨rfl,rfl,rfl,by decide +kernel,rfl,by decide +kernel,by decide +kernel⟩
noncomputable def aaX:{ B:Rho->Option Out // qZ CCanMove "can_move" aaW acW 2 B }:=
 ⟨_,fun P w K mg base f cdv A outer s H E C hr=>
  (je (j9 (qD (qu (jl C.c_NamesBeads hr (by decide) (ja (jb 1) (ja (jb 2) jd)) (jc (jc jk))))) (je (jw zl)
  ji) ji)
  (je (jw (jl C.c_isRod hr (by decide) (ja (jb 0) (ja (jl C.c_Pushed hr (by decide) (ja (jB (jb 1) (jB (jb 2) jf)) (ja (jB (jb 2) jf) (ja (jB (jb 2) jf) jd))) (jc (jc (jc jk)))) jd)) (jc (jc jk))))
  ji))⟩
noncomputable def Zv:List PyData->Option PyData:=jC acW 3 aaX.1
noncomputable abbrev J1:Stmt:=top 34
structure CBehindMove (P:Program) (w:World) (K:PySem.W.Frag) (mg:Str->Option Value) (base:Heap):Prop where
 c_Pushed:jn P w K mg base "pushed" ["rod","deck","by"] 1 3 ach
noncomputable abbrev Zw:List Str:=["setting","move","at"]
theorem aai:FnScope Zw ["setting","move"] (jg J1):=⟨rfl,rfl,rfl,by decide +kernel,rfl,by decide +kernel,by decide +kernel⟩
noncomputable def J9:{ B:Rho->Option Out // qZ CBehindMove "behind_move" J1 Zw 1 B }:=
 ⟨_,fun P w K mg base f cdv A outer s H E C hr=>
  (je (jz 2 aai.nd (jB (jb 1) jf))
  (je (jw (jq jy (jq jy (af2 (jb 0) (jb 2)) (j8 (ja (jl C.c_Pushed hr (by decide) (ja (jB (jb 0) (jb 2)) (ja (jB (jb 1) jf) (ja (jB (jb 1) jf) jd))) (jc (jc (jc jk)))) jd))) (aan (jb 0) (jq jy (jb 2) jf))))
  ji))⟩
noncomputable def zy:List PyData->Option PyData:=jC Zw 2 J9.1
noncomputable abbrev qH:Stmt:=top 35
structure CAllMoves (P:Program) (w:World) (K:PySem.W.Frag) (mg:Str->Option Value) (base:Heap):Prop where
 t:Bare mg
 c_chkSet:jn P w K mg base "check_setting" ["manner","thing"] 6 2 jS
 c_CanMove:jn P w K mg base "can_move" ["manner","setting","thing"] 3 3 Zv
 k_DECKS:GC K mg "DECKS" (.tuple [.str "upper",.str "lower"])
 k_WAYS:GC K mg "WAYS" (.tuple [.int 1,.int (-1)])
noncomputable abbrev zf:List Str:=["manner","setting","told","rod","deck","several"]
theorem zz:FnScope zf ["manner","setting"] (jg qH):=⟨rfl,rfl,rfl,by decide +kernel,rfl,by decide +kernel,by decide +kernel⟩
theorem alU:(["by","rod","deck"]:List Str).Nodup:=by decide +kernel
theorem alV:(["move","manner","setting"]:List Str).Nodup:=by decide +kernel
noncomputable def aao:{ B:Rho->Option Out // aah 2 CAllMoves "all_moves" qH zf 6 (jW (zP (jW (zP (jK qH) 2)) 0)) B }:=
 ⟨_,fun P w K mg base f cdv A outer s H E C hr=>
  (jE (alM 5 ["by","rod","deck"] [none,some 3,some 4] rfl zz.nd (zq (j4 C.k_WAYS)) (qO (jg qH) zf (by decide +kernel))
   fun cl C' s0 H0 fp pn=>⟨(jG 0 alU),qT,(j8 (ja (jb 1) (ja (jb 2) (ja (jb 0) jd))))⟩)
  (jE (ab9 (adU 2 (zp ["move","manner","setting"] [none,some 0,some 1] rfl (zq (jb 5)) (qO (jg qH) zf (by decide +kernel))
   fun cl C' s0 H0 fp pn=>⟨(jG 0 alV),(acF (qu (jl C.c_CanMove hr (by decide) (ja (jb 1) (ja (jb 2) (ja (jb 0) jd))) (jc (jc (jc jk)))))),(jb 0)⟩)))
  j2))⟩
noncomputable def JJ:{ B:Rho->Option Out // aah 2 CAllMoves "all_moves" qH zf 6 (jW (zP (jK qH) 2)) B }:=
 ⟨_,fun P w K mg base f cdv A outer s H E C hr=>
  (jE (zZ PassesOwn.never rfl (zq (j4 C.k_DECKS)) (JH 4 zz.nd) (aao.2 P w K mg base f cdv A outer s H E C hr))
  j2)⟩
noncomputable def ZU:{ B:Rho->Option Out // qZ CAllMoves "all_moves" qH zf 6 B }:=
 ⟨_,fun P w K mg base f cdv A outer s H E C hr=>
  (je (qG (jl C.c_chkSet hr (by decide) (ja (jb 0) (ja (jb 1) jd)) (jc (jc jk))))
  (Zj (Zl 2 zz.nd (aeM jd)
  (jE (zZ PassesOwn.never rfl (j6 rfl C.t.range (ja (jD qz C.t.len qA (ja (jb 1) jd)) jd)) (JH 3 zz.nd) (JJ.2 P w K mg base f cdv A outer s H E C hr))
  (jE (aaF (jb 2))
  j2)))))⟩
noncomputable def Qs:List PyData->Option PyData:=jC zf 2 ZU.1
noncomputable abbrev ZV:Stmt:=top 37
structure CRodApart (P:Program) (w:World) (K:PySem.W.Frag) (mg:Str->Option Value) (base:Heap):Prop where
 t:Bare mg
noncomputable abbrev abB:List Str:=["rod","goal"]
theorem agg:FnScope abB ["rod","goal"] (jg ZV):=⟨rfl,rfl,rfl,by decide +kernel,rfl,by decide +kernel,by decide +kernel⟩
noncomputable def ZW:{ B:Rho->Option Out // qZ CRodApart "rod_apart" ZV abB 0 B }:=
 ⟨_,fun P w K mg base f cdv A outer s H E C hr=>
  (je (jw (jq jy (jD abr C.t.abs abu (ja (jq zF (jB (jb 1) jf) (jB (jb 0) jf)) jd)) (jD abr C.t.abs abu (ja (jq zF (jB (jb 1) jf) (jB (jb 0) jf)) jd))))
  ji)⟩
noncomputable def ZX:List PyData->Option PyData:=jC abB 2 ZW.1
noncomputable abbrev acX:Stmt:=top 36
structure CApart (P:Program) (w:World) (K:PySem.W.Frag) (mg:Str->Option Value) (base:Heap):Prop where
 t:Bare mg
 c_RodApart:jn P w K mg base "rod_apart" ["rod","goal"] 1 2 ZX
noncomputable abbrev ae5:List Str:=["one","other"]
theorem alW:FnScope ae5 ["one","other"] (jg acX):=⟨rfl,rfl,rfl,by decide +kernel,rfl,by decide +kernel,by decide +kernel⟩
theorem agh:(["rod","goal"]:List Str).Nodup:=by decide +kernel
noncomputable def ae6:{ B:Rho->Option Out // qZ CApart "apart" acX ae5 1 B }:=
 ⟨_,fun P w K mg base f cdv A outer s H E C hr=>
  (je (jw (jD (akY rfl) C.t.sum alR (ja (zp ["rod","goal"] [none,none] rfl (afW C.t.zip (ja (jb 0) (ja (jb 1) jd))) (qO (jg acX) ae5 (by decide +kernel))
   fun cl C' s0 H0 fp pn=>⟨(ab7 (n:=2) rfl (zd (jG 0 agh) (zd (jG 1 agh) aaA))),qT,(jl C.c_RodApart hr (by decide) (ja (jb 0) (ja (jb 1) jd)) (jc (jc jk)))⟩) jd)))
  ji)⟩
noncomputable def aap:List PyData->Option PyData:=jC ae5 2 ae6.1
noncomputable abbrev QT:Stmt:=top 39
structure CDeckMoves (P:Program) (w:World) (K:PySem.W.Frag) (mg:Str->Option Value) (base:Heap):Prop where
 t:Bare mg
noncomputable abbrev aaq:List Str:=["at","deck","change","by"]
theorem aaY:FnScope aaq ["at","deck","change"] (jg QT):=⟨rfl,rfl,rfl,by decide +kernel,rfl,by decide +kernel,by decide +kernel⟩
noncomputable def JK:{ B:Rho->Option Out // qZ CDeckMoves "deck_moves" QT aaq 0 B }:=
 ⟨_,fun P w K mg base f cdv A outer s H E C hr=>
  (je (jz 3 aaY.nd (akQ (jT akU (jb 2) jf) jf (QL jf)))
  (je (jw (jq Zo (qr (ja (j8 (ja (jb 0) (ja (jb 1) (ja (jb 3) jd)))) jd)) (jD abr C.t.abs abu (ja (jb 2) jd))))
  ji))⟩
noncomputable def aar:List PyData->Option PyData:=jC aaq 3 JK.1
noncomputable abbrev zI:Stmt:=top 38
structure CMovesTo (P:Program) (w:World) (K:PySem.W.Frag) (mg:Str->Option Value) (base:Heap):Prop where
 t:Bare mg
 c_chkSet:jn P w K mg base "check_setting" ["manner","thing"] 6 2 jS
 c_DeckMoves:jn P w K mg base "deck_moves" ["at","deck","change"] 1 3 aar
 k_DECKS:GC K mg "DECKS" (.tuple [.str "upper",.str "lower"])
noncomputable abbrev JL:List Str:=["manner","one","other","told","at","rod","deck","name"]
theorem zu:FnScope JL ["manner","one","other"] (jg zI):=⟨rfl,rfl,rfl,by decide +kernel,rfl,by decide +kernel,by decide +kernel⟩
noncomputable def abC:{ B:Rho->Option Out // aah 3 CMovesTo "moves_to" zI JL 6 (jW (zP (jW (zP (jK zI) 4)) 0)) B }:=
 ⟨_,fun P w K mg base f cdv A outer s H E C hr=>
  (jE (ab9 (adU 3 (jl C.c_DeckMoves hr (by decide) (ja (jb 4) (ja (jb 7) (ja (jq zF (jB (jB (jb 2) (jb 4)) (jb 6)) (jB (jb 5) (jb 6))) jd))) (jc (jc (jc jk))))))
  j2)⟩
noncomputable def Qt:{ B:Rho->Option Out // aah 3 CMovesTo "moves_to" zI JL 6 (jW (zP (jK zI) 4)) B }:=
 ⟨_,fun P w K mg base f cdv A outer s H E C hr=>
  (jE (zZ PassesOwn.never rfl (ad0 C.t.enum (ja (j4 C.k_DECKS) jd)) (aeL (n:=2) rfl (Jy 6 zu.nd (Jy 7 zu.nd acJ))) (abC.2 P w K mg base f cdv A outer s H E C hr))
  j2)⟩
noncomputable def JM:{ B:Rho->Option Out // qZ CMovesTo "moves_to" zI JL 6 B }:=
 ⟨_,fun P w K mg base f cdv A outer s H E C hr=>
  (je (qG (jl C.c_chkSet hr (by decide) (ja (jb 0) (ja (jb 1) jd)) (jc (jc jk))))
  (je (qG (jl C.c_chkSet hr (by decide) (ja (jb 0) (ja (jb 2) jd)) (jc (jc jk))))
  (je (j9 (jT (qX hr.units) (jD qz C.t.len qA (ja (jb 1) jd)) (jD qz C.t.len qA (ja (jb 2) jd))) (je ajk
  ji) ji)
  (Zj (Zl 3 zu.nd (aeM jd)
  (jE (zZ PassesOwn.never rfl (ad0 C.t.enum (ja (jb 1) jd)) (aeL (n:=2) rfl (Jy 4 zu.nd (Jy 5 zu.nd acJ))) (Qt.2 P w K mg base f cdv A outer s H E C hr))
  (jE (aaF (jb 3))
  j2)))))))⟩
noncomputable def qW:List PyData->Option PyData:=jC JL 3 JM.1
noncomputable abbrev qv:Stmt:=top 41
structure CNearestEnds (P:Program) (w:World) (K:PySem.W.Frag) (mg:Str->Option Value) (base:Heap):Prop where
 c_last:jn P w K mg base "last_rods" ["manner","ahead","number"] 3 3 aiG
 c_Apart:jn P w K mg base "apart" ["one","other"] 2 2 aap
noncomputable abbrev zJ:List Str:=["manner","setting","ahead","ends","here","longer","number","rod","left","end"]
theorem qo:FnScope zJ ["manner","setting","ahead","ends"] (jg qv):=⟨rfl,rfl,rfl,by decide +kernel,rfl,by decide +kernel,by decide +kernel⟩
noncomputable def Ja:{ B:Rho->Option Out // aah 5 CNearestEnds "nearest_ends" qv zJ 3 (jW (zP (jW (zP (jK qv) 2)) 0)) B }:=
 ⟨_,fun P w K mg base f cdv A outer s H E C hr=>
  (jE (aeK 9 qo.nd (jq jy (j8 (ja (jb 7) jd)) (ale hr.units1 (jb 3) (jb 6))))
  (jE (ahr (qF (Qg (ajv (alg hr.units1 (jb 8) (jb 5))) (zY (jT ahl (jl C.c_Apart hr (by decide) (ja (jb 4) (ja (jb 9) jd)) (jc (jc jk))) (jl C.c_Apart hr (by decide) (ja (jb 4) (ja (ale hr.units1 (jb 5) (jb 8)) jd)) (jc (jc jk))))))) (jE (anw 5 hr.units1 (jb 8) (jb 9))
  j2) j2)
  j2))⟩
noncomputable def zn:{ B:Rho->Option Out // aah 5 CNearestEnds "nearest_ends" qv zJ 3 (jW (zP (jK qv) 2)) B }:=
 ⟨_,fun P w K mg base f cdv A outer s H E C hr=>
  (jE (zZ PassesOwn.never rfl (zq (jl C.c_last hr (by decide) (ja (jb 0) (ja (jb 2) (ja (jb 6) jd))) (jc (jc (jc jk))))) (aeL (n:=2) rfl (Jy 7 qo.nd (Jy 8 qo.nd acJ))) (Ja.2 P w K mg base f cdv A outer s H E C hr))
  j2)⟩
noncomputable def Jt:{ B:Rho->Option Out // qZ CNearestEnds "nearest_ends" qv zJ 3 B }:=
 ⟨_,fun P w K mg base f cdv A outer s H E C hr=>
  (je (jz 4 qo.nd (aan (jb 1) (jb 2)))
  (Zj (Zl 5 qo.nd ala
  (jE (zZ PassesOwn.never rfl (ali (jb 3)) (JH 6 qo.nd) (zn.2 P w K mg base f cdv A outer s H E C hr))
  (jE (aaF (jb 5))
  j2)))))⟩
noncomputable def zK:List PyData->Option PyData:=jC zJ 4 Jt.1
noncomputable abbrev JN:Stmt:=top 40
structure CNearest (P:Program) (w:World) (K:PySem.W.Frag) (mg:Str->Option Value) (base:Heap):Prop where
 t:Bare mg
 c_chkSet:jn P w K mg base "check_setting" ["manner","thing"] 6 2 jS
 c_chkNum:jn P w K mg base "check_number" ["number"] 2 1 zr
 c_NearestEnds:jn P w K mg base "nearest_ends" ["manner","setting","ahead","ends"] 4 4 zK
noncomputable abbrev Qu:List Str:=["manner","setting","number","ends","ahead"]
theorem JO:FnScope Qu ["manner","setting","number"] (jg JN):=⟨rfl,rfl,rfl,by decide +kernel,rfl,by decide +kernel,by decide +kernel⟩
noncomputable def Qv:{ B:Rho->Option Out // aag CNearest "nearest" JN Qu 6 (jW (zP (jK JN) 3)) B }:=
 ⟨_,fun P w K mg base f cdv A outer s H E C hr=>
  (je (jz 3 JO.nd (jl C.c_NearestEnds hr (by decide) (ja (jb 0) (ja (jb 1) (ja (jb 4) (ja (jb 3) jd)))) (jc (jc (jc (jc jk))))))
  ji)⟩
noncomputable def Qw:{ B:Rho->Option Out // qZ CNearest "nearest" JN Qu 6 B }:=
 ⟨_,fun P w K mg base f cdv A outer s H E C hr=>
  (je (qG (jl C.c_chkSet hr (by decide) (ja (jb 0) (ja (jb 1) jd)) (jc (jc jk))))
  (je (qG (jl C.c_chkNum hr (by decide) (ja (jb 2) jd) (jc jk)))
  (je (jz 3 JO.nd (alj (jb 2) (j8 jd)))
  (je (zE PassesOwn.never rfl (ahu rfl C.t.range (ja (jq zF (jD qz C.t.len qA (ja (jb 1) jd)) jf) (ja (QL jf) (ja (QL jf) jd)))) (jG 4 JO.nd) (Qv.2 P w K mg base f cdv A outer s H E C hr))
  (je (jw (alf hr.units1 (jb 3) jf))
  ji)))))⟩
noncomputable def qw:List PyData->Option PyData:=jC Qu 3 Qw.1
noncomputable abbrev zL:Stmt:=top 42
structure CFewestMoves (P:Program) (w:World) (K:PySem.W.Frag) (mg:Str->Option Value) (base:Heap):Prop where
 c_Nearest:jn P w K mg base "nearest" ["manner","setting","number"] 7 3 qw
 c_Apart:jn P w K mg base "apart" ["one","other"] 2 2 aap
noncomputable abbrev zM:List Str:=["manner","setting","number","found"]
theorem JP:FnScope zM ["manner","setting","number"] (jg zL):=⟨rfl,rfl,rfl,by decide +kernel,rfl,by decide +kernel,by decide +kernel⟩
noncomputable def qP:{ B:Rho->Option Out // qZ CFewestMoves "fewest_moves" zL zM 7 B }:=
 ⟨_,fun P w K mg base f cdv A outer s H E C hr=>
  (je (jz 3 JP.nd (jl C.c_Nearest hr (by decide) (ja (jb 0) (ja (jb 1) (ja (jb 2) jd))) (jc (jc (jc jk)))))
  (je (j9 (jT aiw (jb 3) Zb) (je (jw Zb)
  ji) ji)
  (je (jw (jl C.c_Apart hr (by decide) (ja (jb 1) (ja (jb 3) jd)) (jc (jc jk))))
  ji)))⟩
noncomputable def qh:List PyData->Option PyData:=jC zM 3 qP.1
noncomputable abbrev abD:Stmt:=top 43
structure CSlips (P:Program) (w:World) (K:PySem.W.Frag) (mg:Str->Option Value) (base:Heap):Prop where
 c_chkSet:jn P w K mg base "check_setting" ["manner","thing"] 6 2 jS
 c_chkNum:jn P w K mg base "check_number" ["number"] 2 1 zr
 c_AllMoves:jn P w K mg base "all_moves" ["manner","setting"] 7 2 Qs
 c_num:jn P w K mg base "number_on" ["manner","setting"] 2 2 ahF
 c_BehindMove:jn P w K mg base "behind_move" ["setting","move"] 2 2 zy
noncomputable abbrev abE:List Str:=["manner","setting","number","several"]
theorem acY:FnScope abE ["manner","setting","number"] (jg abD):=⟨rfl,rfl,rfl,by decide +kernel,rfl,by decide +kernel,by decide +kernel⟩
theorem alX:(["move","number","manner","setting"]:List Str).Nodup:=by decide +kernel
noncomputable def abF:{ B:Rho->Option Out // qZ CSlips "slips" abD abE 7 B }:=
 ⟨_,fun P w K mg base f cdv A outer s H E C hr=>
  (je (qG (jl C.c_chkSet hr (by decide) (ja (jb 0) (ja (jb 1) jd)) (jc (jc jk))))
  (je (qG (jl C.c_chkNum hr (by decide) (ja (jb 2) jd) (jc jk)))
  (je (jz 3 acY.nd (jl C.c_AllMoves hr (by decide) (ja (jb 0) (ja (jb 1) jd)) (jc (jc jk))))
  (je (jw (zp ["move","number","manner","setting"] [none,some 2,some 0,some 1] rfl (zq (jb 3)) (qO (jg abD) abE (by decide +kernel))
   fun cl C' s0 H0 fp pn=>⟨(jG 0 alX),(acF (jT (Ze hr.units) (jl C.c_num hr (by decide) (ja (jb 2) (ja (jl C.c_BehindMove hr (by decide) (ja (jb 3) (ja (jb 0) jd)) (jc (jc jk))) jd)) (jc (jc jk))) (jb 1))),(jb 0)⟩))
  ji))))⟩
noncomputable def Qi:List PyData->Option PyData:=jC abE 3 abF.1
structure XCheck (P:Program) (w:World) (K:PySem.W.Frag) (mg:Str->Option Value) (base:Heap):Prop where
 c_isManner:jn P w K mg base "is_manner" ["thing"] 3 1 j1
 e_NoManner:ajF K mg "NoManner"
noncomputable def abG:{ F:Rho->Option Str // aaU XCheck "check_manner" acS ["thing"] 3 F }:=
 ⟨_,fun P w K mg base f cdv A outer s H E C hr=>
  (jZ (aeQ (qD (qu (jl C.c_isManner hr (by decide) (ja (jb 0) jd) (jc jk)))) (jZ (ZK rfl C.e_NoManner rfl)) QO))⟩
noncomputable def ae7:List PyData->Option Str:=JV ["thing"] 1 abG.1
structure XIsSet (P:Program) (w:World) (K:PySem.W.Frag) (mg:Str->Option Value) (base:Heap):Prop where
 x_check:Jf P w K mg base "check_manner" ["thing"] 4 1 ae7
noncomputable def abH:{ F:Rho->Option Str // aaU XIsSet "is_setting" zV ["manner","thing"] 4 F }:=
 ⟨_,fun P w K mg base f cdv A outer s H E C hr=>
  (jZ (Je (q0 rfl C.x_check hr (by decide) (ja (jb 0) jd) (jc jk))))⟩
noncomputable def ae8:List PyData->Option Str:=JV ["manner","thing"] 2 abH.1
structure XChkSet (P:Program) (w:World) (K:PySem.W.Frag) (mg:Str->Option Value) (base:Heap):Prop where
 c_isSet:jn P w K mg base "is_setting" ["manner","thing"] 5 2 abx
 x_isSet:Jf P w K mg base "is_setting" ["manner","thing"] 5 2 ae8
 e_NoSetting:ajF K mg "NoSetting"
noncomputable def Qa:{ F:Rho->Option Str // aaU XChkSet "check_setting" zm ["manner","thing"] 5 F }:=
 ⟨_,fun P w K mg base f cdv A outer s H E C hr=>
  (jZ (apE (anM (anL (anK (q0 rfl C.x_isSet hr (by decide) (ja (jb 0) (ja (jb 1) jd)) (jc (jc jk)))))) (aeQ (qD (qu (jl C.c_isSet hr (by decide) (ja (jb 0) (ja (jb 1) jd)) (jc (jc jk))))) (jZ (ZK rfl C.e_NoSetting rfl)) QO)))⟩
noncomputable def qf:List PyData->Option Str:=JV ["manner","thing"] 2 Qa.1
structure XChkNum (P:Program) (w:World) (K:PySem.W.Frag) (mg:Str->Option Value) (base:Heap):Prop where
 c_isWhole:jn P w K mg base "is_whole" ["thing","least","most"] 1 3 j5
 k_MOST_NUMBER:GC K mg "MOST_NUMBER" (.int 99999)
 e_NoNumber:ajF K mg "NoNumber"
noncomputable def aci:{ F:Rho->Option Str // aaU XChkNum "check_number" zH ["number"] 1 F }:=
 ⟨_,fun P w K mg base f cdv A outer s H E C hr=>
  (jZ (aeQ (qD (qu (jl C.c_isWhole hr (by decide) (ja (jb 0) (ja jf (ja (j4 C.k_MOST_NUMBER) jd))) (jc (jc (jc jk)))))) (jZ (ZK rfl C.e_NoNumber rfl)) QO))⟩
noncomputable def ZY:List PyData->Option Str:=JV ["number"] 1 aci.1
structure XAllMoves (P:Program) (w:World) (K:PySem.W.Frag) (mg:Str->Option Value) (base:Heap):Prop where
 x_chkSet:Jf P w K mg base "check_setting" ["manner","thing"] 6 2 qf
noncomputable def ad5:{ F:Rho->Option Str // aaU XAllMoves "all_moves" qH zf 6 F }:=
 ⟨_,fun P w K mg base f cdv A outer s H E C hr=>
  (jZ (Je (q0 rfl C.x_chkSet hr (by decide) (ja (jb 0) (ja (jb 1) jd)) (jc (jc jk)))))⟩
noncomputable def ad6:List PyData->Option Str:=JV zf 2 ad5.1
structure XMovesTo (P:Program) (w:World) (K:PySem.W.Frag) (mg:Str->Option Value) (base:Heap):Prop where
 t:Bare mg
 c_chkSet:jn P w K mg base "check_setting" ["manner","thing"] 6 2 jS
 x_chkSet:Jf P w K mg base "check_setting" ["manner","thing"] 6 2 qf
 e_NoMove:ajF K mg "NoMove"
noncomputable def Jh:{ F:Rho->Option Str // aaU XMovesTo "moves_to" zI JL 6 F }:=
 ⟨_,fun P w K mg base f cdv A outer s H E C hr=>
  (aaL (jZ (Je (q0 rfl C.x_chkSet hr (by decide) (ja (jb 0) (ja (jb 1) jd)) (jc (jc jk))))) (Qp (qG (jl C.c_chkSet hr (by decide) (ja (jb 0) (ja (jb 1) jd)) (jc (jc jk))))
  (aaL (jZ (Je (q0 rfl C.x_chkSet hr (by decide) (ja (jb 0) (ja (jb 2) jd)) (jc (jc jk))))) (Qp (qG (jl C.c_chkSet hr (by decide) (ja (jb 0) (ja (jb 2) jd)) (jc (jc jk))))
  (jZ (aeQ (jT (qX hr.units) (jD qz C.t.len qA (ja (jb 1) jd)) (jD qz C.t.len qA (ja (jb 2) jd))) (jZ (ZK rfl C.e_NoMove rfl)) QO))))))⟩
noncomputable def Qx:List PyData->Option Str:=JV JL 3 Jh.1
structure XNearest (P:Program) (w:World) (K:PySem.W.Frag) (mg:Str->Option Value) (base:Heap):Prop where
 c_chkSet:jn P w K mg base "check_setting" ["manner","thing"] 6 2 jS
 x_chkSet:Jf P w K mg base "check_setting" ["manner","thing"] 6 2 qf
 x_chkNum:Jf P w K mg base "check_number" ["number"] 2 1 ZY
noncomputable def Qy:{ F:Rho->Option Str // aaU XNearest "nearest" JN Qu 6 F }:=
 ⟨_,fun P w K mg base f cdv A outer s H E C hr=>
  (aaL (jZ (Je (q0 rfl C.x_chkSet hr (by decide) (ja (jb 0) (ja (jb 1) jd)) (jc (jc jk))))) (Qp (qG (jl C.c_chkSet hr (by decide) (ja (jb 0) (ja (jb 1) jd)) (jc (jc jk))))
  (jZ (Je (q0 rfl C.x_chkNum hr (by decide) (ja (jb 2) jd) (jc jk))))))⟩
noncomputable def JQ:List PyData->Option Str:=JV Qu 3 Qy.1
structure XFewestMoves (P:Program) (w:World) (K:PySem.W.Frag) (mg:Str->Option Value) (base:Heap):Prop where
 x_Nearest:Jf P w K mg base "nearest" ["manner","setting","number"] 7 3 JQ
noncomputable def Ju:{ F:Rho->Option Str // aaU XFewestMoves "fewest_moves" zL zM 7 F }:=
 ⟨_,fun P w K mg base f cdv A outer s H E C hr=>
  (jZ (aiy (q0 rfl C.x_Nearest hr (by decide) (ja (jb 0) (ja (jb 1) (ja (jb 2) jd))) (jc (jc (jc jk))))))⟩
noncomputable def Jv:List PyData->Option Str:=JV zM 3 Ju.1
structure XSlips (P:Program) (w:World) (K:PySem.W.Frag) (mg:Str->Option Value) (base:Heap):Prop where
 c_chkNum:jn P w K mg base "check_number" ["number"] 2 1 zr
 c_chkSet:jn P w K mg base "check_setting" ["manner","thing"] 6 2 jS
 x_chkSet:Jf P w K mg base "check_setting" ["manner","thing"] 6 2 qf
 x_chkNum:Jf P w K mg base "check_number" ["number"] 2 1 ZY
 x_AllMoves:Jf P w K mg base "all_moves" ["manner","setting"] 7 2 ad6
noncomputable def abI:{ F:Rho->Option Str // aaU XSlips "slips" abD abE 7 F }:=
 ⟨_,fun P w K mg base f cdv A outer s H E C hr=>
  (aaL (jZ (Je (q0 rfl C.x_chkSet hr (by decide) (ja (jb 0) (ja (jb 1) jd)) (jc (jc jk))))) (Qp (qG (jl C.c_chkSet hr (by decide) (ja (jb 0) (ja (jb 1) jd)) (jc (jc jk))))
  (aaL (jZ (Je (q0 rfl C.x_chkNum hr (by decide) (ja (jb 2) jd) (jc jk)))) (Qp (qG (jl C.c_chkNum hr (by decide) (ja (jb 2) jd) (jc jk)))
  (jZ (aiy (q0 rfl C.x_AllMoves hr (by decide) (ja (jb 0) (ja (jb 1) jd)) (jc (jc jk)))))))))⟩
noncomputable def acZ:List PyData->Option Str:=JV abE 3 abI.1
noncomputable abbrev ZZ:Stmt:=top 49
structure CLValue (P:Program) (w:World) (K:PySem.W.Frag) (mg:Str->Option Value) (base:Heap):Prop where
 tr:True
noncomputable abbrev acj:List Str:=["_law_manner_here","_law_setting_here","_law_found","_law_upper","_law_lower"]
theorem Qz:FnScope acj ["_law_manner_here","_law_setting_here"] (jg ZZ):=⟨rfl,rfl,rfl,by decide +kernel,rfl,by decide +kernel,by decide +kernel⟩
noncomputable def aaZ:{ B:Rho->Option Out // aag CLValue "_law_value" ZZ acj 0 (jW (zP (jK ZZ) 1)) B }:=
 ⟨_,fun P w K mg base f cdv A outer s H E C hr=>
  (je (jz 2 Qz.nd (jq jy (jq jy (jq qN (jB (jb 0) jf) (jb 2)) (jq qN (jb 3) (jB (jb 0) jf))) (jb 4)))
  ji)⟩
noncomputable def ack:{ B:Rho->Option Out // qZ CLValue "_law_value" ZZ acj 0 B }:=
 ⟨_,fun P w K mg base f cdv A outer s H E C hr=>
  (je (jz 2 Qz.nd jf)
  (je (zE PassesOwn.never rfl (zq (jb 1)) (ab7 (n:=2) rfl (zd (jG 3 Qz.nd) (zd (jG 4 Qz.nd) aaA))) (aaZ.2 P w K mg base f cdv A outer s H E C hr))
  (je (jw (jb 2))
  ji)))⟩
noncomputable def Jw:List PyData->Option PyData:=jC acj 2 ack.1
noncomputable abbrev aas:Stmt:=top 50
structure CLRods (P:Program) (w:World) (K:PySem.W.Frag) (mg:Str->Option Value) (base:Heap):Prop where
 t:Bare mg
noncomputable abbrev ac0:List Str:=["_law_manner_here","_law_found","_law_upper"]
theorem aa0:FnScope ac0 ["_law_manner_here"] (jg aas):=⟨rfl,rfl,rfl,by decide +kernel,rfl,by decide +kernel,by decide +kernel⟩
theorem alY:(["_law_lower","_law_upper"]:List Str).Nodup:=by decide +kernel
noncomputable def ae9:{ B:Rho->Option Out // aag CLRods "_law_rods" aas ac0 0 (jW (zP (jK aas) 1)) B }:=
 ⟨_,fun P w K mg base f cdv A outer s H E C hr=>
  (je (jz 1 aa0.nd (jq jy (jb 1) (zp ["_law_lower","_law_upper"] [none,some 2] rfl (j6 rfl C.t.range (ja (jq jy (jB (jb 0) jf) jf) jd)) (qO (jg aas) ac0 (by decide +kernel))
   fun cl C' s0 H0 fp pn=>⟨(jG 0 alY),qT,(j8 (ja (jb 1) (ja (jb 0) jd)))⟩)))
  ji)⟩
noncomputable def afa:{ B:Rho->Option Out // qZ CLRods "_law_rods" aas ac0 0 B }:=
 ⟨_,fun P w K mg base f cdv A outer s H E C hr=>
  (je (jz 1 aa0.nd (qr jd))
  (je (zE PassesOwn.never rfl (j6 rfl C.t.range (ja (jq jy (jB (jb 0) jf) jf) jd)) (jG 2 aa0.nd) (ae9.2 P w K mg base f cdv A outer s H E C hr))
  (je (jw (jb 1))
  ji)))⟩
noncomputable def ac1:List PyData->Option PyData:=jC ac0 1 afa.1
noncomputable abbrev aa1:Stmt:=top 51
structure CLAll (P:Program) (w:World) (K:PySem.W.Frag) (mg:Str->Option Value) (base:Heap):Prop where
 t:Bare mg
 c_LRods:jn P w K mg base "_law_rods" ["_law_manner_here"] 1 1 ac1
noncomputable abbrev ad7:List Str:=["_law_manner_here","_law_rods_here","_law_found","_law_k","_law_longer","_law_row"]
theorem QU:FnScope ad7 ["_law_manner_here","_law_rods_here"] (jg aa1):=⟨rfl,rfl,rfl,by decide +kernel,rfl,by decide +kernel,by decide +kernel⟩
theorem alZ:(["_law_rod","_law_row"]:List Str).Nodup:=by decide +kernel
noncomputable def afb:{ B:Rho->Option Out // aag CLAll "_law_all" aa1 ad7 1 (jW (zP (jW (zP (jK aa1) 1)) 1)) B }:=
 ⟨_,fun P w K mg base f cdv A outer s H E C hr=>
  (je (jz 4 QU.nd (jq jy (jb 4) (zp ["_law_rod","_law_row"] [none,some 5] rfl (zq (jl C.c_LRods hr (by decide) (ja (jb 0) jd) (jc jk))) (qO (jg aa1) ad7 (by decide +kernel))
   fun cl C' s0 H0 fp pn=>⟨(jG 0 alZ),qT,(jq jy (jb 1) (j8 (ja (jb 0) jd)))⟩)))
  ji)⟩
noncomputable def ac2:{ B:Rho->Option Out // aag CLAll "_law_all" aa1 ad7 1 (jW (zP (jK aa1) 1)) B }:=
 ⟨_,fun P w K mg base f cdv A outer s H E C hr=>
  (je (jz 4 QU.nd (qr jd))
  (je (zE PassesOwn.never rfl (zq (jb 2)) (jG 5 QU.nd) (afb.2 P w K mg base f cdv A outer s H E C hr))
  (je (jz 2 QU.nd (jb 4))
  ji)))⟩
noncomputable def aiJ:{ B:Rho->Option Out // qZ CLAll "_law_all" aa1 ad7 1 B }:=
 ⟨_,fun P w K mg base f cdv A outer s H E C hr=>
  (je (jz 2 QU.nd (zU 2 (.list [.tuple []]) (by kernel_rfl)))
  (je (zE PassesOwn.never rfl (j6 rfl C.t.range (ja (jb 1) jd)) (jG 3 QU.nd) (ac2.2 P w K mg base f cdv A outer s H E C hr))
  (je (jw (jb 2))
  ji)))⟩
noncomputable def agi:List PyData->Option PyData:=jC ad7 2 aiJ.1
noncomputable abbrev agj:Stmt:=top 52
structure CLFar (P:Program) (w:World) (K:PySem.W.Frag) (mg:Str->Option Value) (base:Heap):Prop where
 t:Bare mg
noncomputable abbrev aiK:List Str:=["_law_one","_law_other"]
theorem anX:FnScope aiK ["_law_one","_law_other"] (jg agj):=⟨rfl,rfl,rfl,by decide +kernel,rfl,by decide +kernel,by decide +kernel⟩
theorem agk:(["_law_mine","_law_yours"]:List Str).Nodup:=by decide +kernel
noncomputable def aiL:{ B:Rho->Option Out // qZ CLFar "_law_far" agj aiK 0 B }:=
 ⟨_,fun P w K mg base f cdv A outer s H E C hr=>
  (je (jw (jD (akY rfl) C.t.sum alR (ja (zp ["_law_mine","_law_yours"] [none,none] rfl (afW C.t.zip (ja (jb 0) (ja (jb 1) jd))) (qO (jg agj) aiK (by decide +kernel))
   fun cl C' s0 H0 fp pn=>⟨(ab7 (n:=2) rfl (zd (jG 0 agk) (zd (jG 1 agk) aaA))),qT,(jq jy (jD abr C.t.abs abu (ja (jq zF (jB (jb 0) jf) (jB (jb 1) jf)) jd)) (jD abr C.t.abs abu (ja (jq zF (jB (jb 0) jf) (jB (jb 1) jf)) jd)))⟩) jd)))
  ji)⟩
noncomputable def abT:List PyData->Option PyData:=jC aiK 2 aiL.1
noncomputable abbrev JB:Stmt:=top 53
structure CLRefused (P:Program) (w:World) (K:PySem.W.Frag) (mg:Str->Option Value) (base:Heap):Prop where
 t:Bare mg
 errT:ErrT K mg "BeadError" qV
noncomputable abbrev abJ:List Str:=["_law_e","_law_flags"]
theorem Zx:FnScope abJ ["_law_e"] (jg JB):=⟨rfl,rfl,rfl,by decide +kernel,rfl,by decide +kernel,by decide +kernel⟩
noncomputable def ad8:{ B:Rho->Option Out // ∀ (P:Program) (w:World) (K:PySem.W.Frag) (mg:Str->Option Value) (base:Heap) (f:Addr) (cdv:Value) (A:Around) (outer:List Env) (s:Shared) (H:Hp) (E:XK),CLRefused P w K mg base->RoomH 0 (A.deeper (envOfC "_law_refused" (jg JB) s.heap.objs.size f cdv))->
  Z9 (cxH P w K mg base abJ "_law_refused" (jg JB) f cdv A outer s H E) (jK JB) B }:=
 ⟨_,fun P w K mg base f cdv A outer s H E C hr=>
  (je (jz 1 Zx.nd (qr (ja (ZL C.errT C.t.isi (jb 0)) (ja (ZL C.errT C.t.isi (jb 0)) (ja (ZL C.errT C.t.isi (jb 0)) jd)))))
  (je (jz 1 Zx.nd (jq jy (jb 1) (qr (ja (ZL C.errT C.t.isi (jb 0)) (ja (ZL C.errT C.t.isi (jb 0)) (ja (ZL C.errT C.t.isi (jb 0)) jd))))))
  (je (j9 (qF (Qg (jT (qX hr.units) (ajN (jb 1) zl) jf) (zY (qD (qu (anI C.errT C.t.isi C.t.vale (jb 0))))))) (je (jw (j8 (ja aeD (ja (QL jf) jd))))
  ji) ji)
  (je (jw (j8 (ja aeD (ja (ajM (jb 1) zl) jd))))
  ji))))⟩
noncomputable def qI:List PyData->Option PyData:=jC abJ 1 ad8.1
noncomputable abbrev abK:Stmt:=top 54
structure CLTold (P:Program) (w:World) (K:PySem.W.Frag) (mg:Str->Option Value) (base:Heap):Prop where
 c_Nearest:jn P w K mg base "nearest" ["manner","setting","number"] 7 3 qw
 c_FewestMoves:jn P w K mg base "fewest_moves" ["manner","setting","number"] 8 3 qh
 c_Slips:jn P w K mg base "slips" ["manner","setting","number"] 8 3 Qi
 c_MovesTo:jn P w K mg base "moves_to" ["manner","one","other"] 7 3 qW
 k_nearest:GC K mg "nearest" (fnD "nearest")
 k_fewest_moves:GC K mg "fewest_moves" (fnD "fewest_moves")
 k_slips:GC K mg "slips" (fnD "slips")
 k_moves_to:GC K mg "moves_to" (fnD "moves_to")
 x_Nearest:Jf P w K mg base "nearest" ["manner","setting","number"] 7 3 JQ
 x_FewestMoves:Jf P w K mg base "fewest_moves" ["manner","setting","number"] 8 3 Jv
 x_Slips:Jf P w K mg base "slips" ["manner","setting","number"] 8 3 acZ
 x_MovesTo:Jf P w K mg base "moves_to" ["manner","one","other"] 7 3 Qx
 h_LRefused:aca P w K mg base "_law_refused" ["_law_e"] 1 1 qI
 errT:ErrT K mg "BeadError" qV
noncomputable abbrev ahI:List Str:=["_law_way","_law_manner_here","_law_setting_here","_law_thing","_law_e"]
theorem agl:FnScope ahI ["_law_way","_law_manner_here","_law_setting_here","_law_thing"] (jg abK):=⟨rfl,rfl,rfl,by decide +kernel,rfl,by decide +kernel,by decide +kernel⟩
noncomputable def qY:{ B:Rho->Option Out // ∀ (P:Program) (w:World) (K:PySem.W.Frag) (mg:Str->Option Value) (base:Heap) (f:Addr) (cdv:Value) (A:Around) (outer:List Env) (s:Shared) (H:Hp) (E:XK),CLTold P w K mg base->Room 8 (A.deeper (envOfC "_law_told" (jg abK) s.heap.objs.size f cdv))->
  alC (JF CX0 P w K mg base ahI "_law_told" (jg abK) f cdv A outer s H E) (jK abK) B }:=
 ⟨_,fun P w K mg base f cdv A outer s H E C hr=>
  (ajI (alK (n:=5) 4 alB rfl agl.nd C.errT
   (fun E'=>(je (jw (ahA (aaN C.c_Nearest hr (by decide) (jB (qr (ja (j4 C.k_nearest) (ja (j4 C.k_fewest_moves) (ja (j4 C.k_slips) (ja (j4 C.k_moves_to) jd))))) (jb 0)) (ja (jb 1) (ja (jb 2) (ja (jb 3) jd))) (jc (jc (jc jk)))) (ahA (aaN C.c_FewestMoves hr (by decide) (jB (qr (ja (j4 C.k_nearest) (ja (j4 C.k_fewest_moves) (ja (j4 C.k_slips) (ja (j4 C.k_moves_to) jd))))) (jb 0)) (ja (jb 1) (ja (jb 2) (ja (jb 3) jd))) (jc (jc (jc jk)))) (ahA (aaN C.c_Slips hr (by decide) (jB (qr (ja (j4 C.k_nearest) (ja (j4 C.k_fewest_moves) (ja (j4 C.k_slips) (ja (j4 C.k_moves_to) jd))))) (jb 0)) (ja (jb 1) (ja (jb 2) (ja (jb 3) jd))) (jc (jc (jc jk)))) (aaN C.c_MovesTo hr (by decide) (jB (qr (ja (j4 C.k_nearest) (ja (j4 C.k_fewest_moves) (ja (j4 C.k_slips) (ja (j4 C.k_moves_to) jd))))) (jb 0)) (ja (jb 1) (ja (jb 2) (ja (jb 3) jd))) (jc (jc (jc jk))))))))
  ji))
   (fun E'=>(jZ (anD (ahz (ZM rfl C.x_Nearest hr (by decide) (jB (qr (ja (j4 C.k_nearest) (ja (j4 C.k_fewest_moves) (ja (j4 C.k_slips) (ja (j4 C.k_moves_to) jd))))) (jb 0)) (ja (jb 1) (ja (jb 2) (ja (jb 3) jd))) (jc (jc (jc jk)))) (ahz (ZM rfl C.x_FewestMoves hr (by decide) (jB (qr (ja (j4 C.k_nearest) (ja (j4 C.k_fewest_moves) (ja (j4 C.k_slips) (ja (j4 C.k_moves_to) jd))))) (jb 0)) (ja (jb 1) (ja (jb 2) (ja (jb 3) jd))) (jc (jc (jc jk)))) (ahz (ZM rfl C.x_Slips hr (by decide) (jB (qr (ja (j4 C.k_nearest) (ja (j4 C.k_fewest_moves) (ja (j4 C.k_slips) (ja (j4 C.k_moves_to) jd))))) (jb 0)) (ja (jb 1) (ja (jb 2) (ja (jb 3) jd))) (jc (jc (jc jk)))) (ZM rfl C.x_MovesTo hr (by decide) (jB (qr (ja (j4 C.k_nearest) (ja (j4 C.k_fewest_moves) (ja (j4 C.k_slips) (ja (j4 C.k_moves_to) jd))))) (jb 0)) (ja (jb 1) (ja (jb 2) (ja (jb 3) jd))) (jc (jc (jc jk))))))))))
   (fun e=>(je (jw (alF C.h_LRefused (RoomH.mark (BX.Room.h (hr.mono (j:=1) (by decide)))) (ja (jb 4) jd) (jc jk))) ji))) (anE ji))⟩
noncomputable def jH:List PyData->Option PyData:=jC ahI 4 qY.1
noncomputable abbrev Jb:Stmt:=top 55
structure CLSlips (P:Program) (w:World) (K:PySem.W.Frag) (mg:Str->Option Value) (base:Heap):Prop where
 t:Bare mg
 c_LValue:jn P w K mg base "_law_value" ["_law_manner_here","_law_setting_here"] 1 2 Jw
noncomputable abbrev Z0:List Str:=["_law_manner_here","_law_setting_here","_law_number","_law_found","_law_rod","_law_side","_law_by","_law_fresh","_law_more"]
theorem zX:FnScope Z0 ["_law_manner_here","_law_setting_here","_law_number"] (jg Jb):=⟨rfl,rfl,rfl,by decide +kernel,rfl,by decide +kernel,by decide +kernel⟩
noncomputable def ac3:{ B:Rho->Option Out // aah 3 CLSlips "_law_slips" Jb Z0 1 (jW (zP (jW (zP (jW (zP (jK Jb) 1)) 0)) 0)) B }:=
 ⟨_,fun P w K mg base f cdv A outer s H E C hr=>
  (alO 3 7 zX.nd (ajC C.t.list aiC (ja (jB (jb 1) (jb 4)) jd)) (jb 5) (jq jy (jB (jb 7) (jb 5)) (jb 6))
  (jE (aeK 8 zX.nd (jq jy (jq jy (af2 (jb 1) (jb 4)) (j8 (ja (abk alx C.t.tuple Zs (ja (jb 7) jd)) jd))) (aan (jb 1) (jq jy (jb 4) jf))))
  (jE (ahr (qF (aeE (abl Zf Zf jf (jB (jb 7) (jb 5)) (jB (j8 (ja (jB (jb 0) jf) (ja (jB (jb 0) jf) jd))) (jb 5))) (acB (jT (Ze hr.units) (jl C.c_LValue hr (by decide) (ja (jb 0) (ja (jb 8) jd)) (jc (jc jk))) (jb 2))))) (jE (ab9 (adT 3 (j8 (ja (jb 4) (ja (jB (zU 2 (.tuple [.str "upper",.str "lower"]) (by kernel_rfl)) (jb 5)) (ja (jb 6) jd))))))
  j2) j2)
  j2)))⟩
noncomputable def Zy:{ B:Rho->Option Out // aah 3 CLSlips "_law_slips" Jb Z0 1 (jW (zP (jW (zP (jK Jb) 1)) 0)) B }:=
 ⟨_,fun P w K mg base f cdv A outer s H E C hr=>
  (jE (zZ PassesOwn.never rfl (zq (j8 (ja jf (ja (QL jf) jd)))) (JH 6 zX.nd) (ac3.2 P w K mg base f cdv A outer s H E C hr))
  j2)⟩
noncomputable def Zz:{ B:Rho->Option Out // aah 3 CLSlips "_law_slips" Jb Z0 1 (jW (zP (jK Jb) 1)) B }:=
 ⟨_,fun P w K mg base f cdv A outer s H E C hr=>
  (jE (zZ PassesOwn.never rfl (j6 rfl C.t.range (ja jf jd)) (JH 5 zX.nd) (Zy.2 P w K mg base f cdv A outer s H E C hr))
  j2)⟩
noncomputable def acl:{ B:Rho->Option Out // qZ CLSlips "_law_slips" Jb Z0 1 B }:=
 ⟨_,fun P w K mg base f cdv A outer s H E C hr=>
  (Zj (Zl 3 zX.nd (aeM jd)
  (jE (zZ PassesOwn.never rfl (j6 rfl C.t.range (ja (jD qz C.t.len qA (ja (jb 1) jd)) jd)) (JH 4 zX.nd) (Zz.2 P w K mg base f cdv A outer s H E C hr))
  (jE (aaF (jb 3))
  j2))))⟩
noncomputable def Qb:List PyData->Option PyData:=jC Z0 3 acl.1
noncomputable abbrev Qc:Stmt:=top 56
structure CLMoves (P:Program) (w:World) (K:PySem.W.Frag) (mg:Str->Option Value) (base:Heap):Prop where
 t:Bare mg
noncomputable abbrev aa2:List Str:=["_law_setting_here","_law_other","_law_moves_here","_law_rod","_law_side","_law_step"]
theorem JC:FnScope aa2 ["_law_setting_here","_law_other"] (jg Qc):=⟨rfl,rfl,rfl,by decide +kernel,rfl,by decide +kernel,by decide +kernel⟩
noncomputable def aa3:{ B:Rho->Option Out // aag CLMoves "_law_moves" Qc aa2 0 (jW (zP (jW (zP (jK Qc) 1)) 0)) B }:=
 ⟨_,fun P w K mg base f cdv A outer s H E C hr=>
  (je (jz 5 JC.nd (jq zF (jB (jB (jb 1) (jb 3)) (jb 4)) (jB (jB (jb 0) (jb 3)) (jb 4))))
  (je (jz 2 JC.nd (jq jy (jb 2) (jq Zo (qr (ja (j8 (ja (jb 3) (ja (jB (zU 2 (.tuple [.str "upper",.str "lower"]) (by kernel_rfl)) (jb 4)) (ja (akQ (jT akU (jb 5) jf) jf (QL jf)) jd)))) jd)) (jD abr C.t.abs abu (ja (jb 5) jd)))))
  ji))⟩
noncomputable def ZA:{ B:Rho->Option Out // aag CLMoves "_law_moves" Qc aa2 0 (jW (zP (jK Qc) 1)) B }:=
 ⟨_,fun P w K mg base f cdv A outer s H E C hr=>
  (je (zE PassesOwn.never rfl (j6 rfl C.t.range (ja jf jd)) (jG 4 JC.nd) (aa3.2 P w K mg base f cdv A outer s H E C hr))
  ji)⟩
noncomputable def acm:{ B:Rho->Option Out // qZ CLMoves "_law_moves" Qc aa2 0 B }:=
 ⟨_,fun P w K mg base f cdv A outer s H E C hr=>
  (je (jz 2 JC.nd (qr jd))
  (je (zE PassesOwn.never rfl (j6 rfl C.t.range (ja (jD qz C.t.len qA (ja (jb 0) jd)) jd)) (jG 3 JC.nd) (ZA.2 P w K mg base f cdv A outer s H E C hr))
  (je (jw (jb 2))
  ji)))⟩
noncomputable def aa4:List PyData->Option PyData:=jC aa2 2 acm.1
noncomputable abbrev ac4:Stmt:=top 57
structure CLaw (P:Program) (w:World) (K:PySem.W.Frag) (mg:Str->Option Value) (base:Heap):Prop where
 t:Bare mg
 c_manner:jn P w K mg base "_law_manner" ["_law_script","_law_at"] 3 2 ZT
 c_LRods:jn P w K mg base "_law_rods" ["_law_manner_here"] 1 1 ac1
 c_setting:jn P w K mg base "_law_setting" ["_law_script","_law_at","_law_manner_here","_law_most"] 3 4 anW
 c_LAll:jn P w K mg base "_law_all" ["_law_manner_here","_law_rods_here"] 2 2 agi
 c_drawn:jn P w K mg base "_law_drawn" ["_law_script","_law_k","_law_many"] 2 3 JI
 c_LValue:jn P w K mg base "_law_value" ["_law_manner_here","_law_setting_here"] 1 2 Jw
 c_LFar:jn P w K mg base "_law_far" ["_law_one","_law_other"] 1 2 abT
 c_LTold:jn P w K mg base "_law_told" ["_law_way","_law_manner_here","_law_setting_here","_law_thing"] 9 4 jH
 c_LSlips:jn P w K mg base "_law_slips" ["_law_manner_here","_law_setting_here","_law_number"] 2 3 Qb
 c_Apart:jn P w K mg base "apart" ["one","other"] 2 2 aap
 c_LMoves:jn P w K mg base "_law_moves" ["_law_setting_here","_law_other"] 1 2 aa4
noncomputable abbrev afc:List Str:=["_law_script","_law_manner_here","_law_most","_law_setting_here","_law_rows","_law_other","_law_number","_law_due","_law_far_here","_law_told_here","_law_fewest","_law_step","_law_some","_law_slip","_law_odd","_law_bad"]
theorem zj:FnScope afc ["_law_script"] (jg ac4):=⟨rfl,rfl,rfl,by decide +kernel,rfl,by decide +kernel,by decide +kernel⟩
theorem al0:(["_law_one","_law_number","_law_manner_here"]:List Str).Nodup:=by decide +kernel
theorem al1:(["_law_one","_law_setting_here"]:List Str).Nodup:=by decide +kernel
theorem al2:(["_law_way","_law_manner_here","_law_setting_here","_law_odd"]:List Str).Nodup:=by decide +kernel
theorem ajW:(["_law_way","_law_manner_here","_law_bad","_law_odd"]:List Str).Nodup:=by decide +kernel
theorem ajX:(["_law_way","_law_bad","_law_odd","_law_manner_here"]:List Str).Nodup:=by decide +kernel
noncomputable def al3:{ B:Rho->Option Out // aag CLaw "law" ac4 afc 9 (jW (zP (jK ac4) 13)) B }:=
 ⟨_,fun P w K mg base f cdv A outer s H E C hr=>
  (je (jz 13 zj.nd (jl C.c_LSlips hr (by decide) (ja (jb 1) (ja (jb 3) (ja (jb 12) jd))) (jc (jc (jc jk)))))
  (je (j9 (jT (qX hr.units) (jl C.c_LTold hr (by decide) (ja jf (ja (jb 1) (ja (jb 3) (ja (jb 12) jd)))) (jc (jc (jc (jc jk))))) (jb 13)) (je (jw zl)
  ji) ji)
  ji))⟩
noncomputable def al4:{ B:Rho->Option Out // qZ CLaw "law" ac4 afc 9 B }:=
 ⟨_,fun P w K mg base f cdv A outer s H E C hr=>
  (je (jz 1 zj.nd (jl C.c_manner hr (by decide) (ja (jb 0) (ja jf jd)) (jc (jc jk))))
  (je (jz 2 zj.nd (jq jy jf (abk alL C.t.int alP (ja (abi ahl (jD qz C.t.len qA (ja (jl C.c_LRods hr (by decide) (ja (jb 1) jd) (jc jk)) jd)) jf) jd))))
  (je (jz 3 zj.nd (jl C.c_setting hr (by decide) (ja (jb 0) (ja jf (ja (jb 1) (ja (jb 2) jd)))) (jc (jc (jc (jc jk))))))
  (je (jz 4 zj.nd (jl C.c_LAll hr (by decide) (ja (jb 1) (ja (jD qz C.t.len qA (ja (jb 3) jd)) jd)) (jc (jc jk))))
  (je (jz 5 zj.nd (jB (jb 4) (jl C.c_drawn hr (by decide) (ja (jb 0) (ja jf (ja (jD qz C.t.len qA (ja (jb 4) jd)) jd))) (jc (jc (jc jk))))))
  (je (jz 6 zj.nd (jq jy (jl C.c_LValue hr (by decide) (ja (jb 1) (ja (jb 5) jd)) (jc (jc jk))) (jB (zU 2 (.list [.int 0,.int 0,.int 0,.int 1,.int 50]) (by kernel_rfl)) (jl C.c_drawn hr (by decide) (ja (jb 0) (ja jf (ja jf jd))) (jc (jc (jc jk)))))))
  (je (afZ 7 ["_law_one","_law_number","_law_manner_here"] [none,some 6,some 1] rfl zj.nd (zq (jb 4)) (qO (jg ac4) afc (by decide +kernel))
   fun cl C' s0 H0 fp pn=>⟨(jG 0 al0),(acF (jT (Ze hr.units) (jl C.c_LValue hr (by decide) (ja (jb 2) (ja (jb 0) jd)) (jc (jc jk))) (jb 1))),(jb 0)⟩)
  (je (afZ 8 ["_law_one","_law_setting_here"] [none,some 3] rfl zj.nd (zq (jb 7)) (qO (jg ac4) afc (by decide +kernel))
   fun cl C' s0 H0 fp pn=>⟨(jG 0 al1),qT,(jl C.c_LFar hr (by decide) (ja (jb 1) (ja (jb 0) jd)) (jc (jc jk)))⟩)
  (je (jz 9 zj.nd (jl C.c_LTold hr (by decide) (ja jf (ja (jb 1) (ja (jb 3) (ja (jb 6) jd)))) (jc (jc (jc (jc jk))))))
  (je (jz 10 zj.nd (akQ (jT (qX hr.units) (jb 7) (qr jd)) (jD (ant rfl) C.t.min ahn (ja (jb 8) jd)) Zb))
  (je (j9 (qF (Qg (jT (qX hr.units) (abi aiw (jb 9) Zb) (abi (Ze hr.units) (jb 7) (qr jd))) (zY (jT (qX hr.units) (jl C.c_LTold hr (by decide) (ja jf (ja (jb 1) (ja (jb 3) (ja (jb 6) jd)))) (jc (jc (jc (jc jk))))) (jb 10))))) (je (jw zl)
  ji) ji)
  (je (j9 (qF (aeE (jT alr (jb 9) Zb) (acB (qF (Qg (jT (adL hr.units) (jb 9) (jb 7)) (zY (jT (qX hr.units) (jl C.c_LFar hr (by decide) (ja (jb 3) (ja (jb 9) jd)) (jc (jc jk))) (jb 10)))))))) (je (jw zl)
  ji) ji)
  (je (jz 11 zj.nd (jB (qr (ja jf (ja (QL jf) (ja (jB (jb 1) jf) (ja (jB (jb 1) jf) (ja (jq zF jf (jB (jb 1) jf)) jd)))))) (jl C.c_drawn hr (by decide) (ja (jb 0) (ja jf (ja jf jd))) (jc (jc (jc jk))))))
  (je (zE PassesOwn.never rfl (zq (j8 (ja (jb 6) (ja (jD (aip rfl) C.t.max aho (ja jf (ja (jq jy (jl C.c_LValue hr (by decide) (ja (jb 1) (ja (jb 3) jd)) (jc (jc jk))) (jb 11)) jd))) jd)))) (jG 12 zj.nd) (al3.2 P w K mg base f cdv A outer s H E C hr))
  (je (j9 (jT (qX hr.units) (jl C.c_Apart hr (by decide) (ja (jb 3) (ja (jb 5) jd)) (jc (jc jk))) (jl C.c_LFar hr (by decide) (ja (jb 3) (ja (jb 5) jd)) (jc (jc jk)))) (je (jw zl)
  ji) ji)
  (je (j9 (jT (qX hr.units) (jl C.c_LTold hr (by decide) (ja jf (ja (jb 1) (ja (jb 3) (ja (jb 5) jd)))) (jc (jc (jc (jc jk))))) (jl C.c_LMoves hr (by decide) (ja (jb 3) (ja (jb 5) jd)) (jc (jc jk)))) (je (jw zl)
  ji) ji)
  (je (j9 (jT (qX hr.units) (jl C.c_LTold hr (by decide) (ja jf (ja (jb 1) (ja (jb 3) (ja (jq jy (jb 5) (zU 3 (.tuple [.tuple [.int 0,.int 0]]) (by kernel_rfl))) jd)))) (jc (jc (jc (jc jk))))) (zU 2 (.tuple [.str "refused",.int 3]) (by kernel_rfl))) (je (jw zl)
  ji) ji)
  (je (jz 14 zj.nd (jB (qr (ja (QL jf) (ja jf (ja Zb (ja zl jd))))) (jl C.c_drawn hr (by decide) (ja (jb 0) (ja jf (ja jf jd))) (jc (jc (jc jk))))))
  (je (j9 (jT (qX hr.units) (zp ["_law_way","_law_manner_here","_law_setting_here","_law_odd"] [none,some 1,some 3,some 14] rfl (j6 rfl C.t.range (ja jf jd)) (qO (jg ac4) afc (by decide +kernel))
   fun cl C' s0 H0 fp pn=>⟨(jG 0 al2),qT,(jl C.c_LTold hr (by decide) (ja (jb 0) (ja (jb 1) (ja (jb 2) (ja (jb 3) jd)))) (jc (jc (jc (jc jk)))))⟩) (jq Zo (zU 3 (.list [.tuple [.str "refused",.int 2]]) (by kernel_rfl)) jf)) (je (jw zl)
  ji) ji)
  (je (j9 (jT (qX hr.units) (jl C.c_LTold hr (by decide) (ja jf (ja (jb 1) (ja (jb 3) (ja (jb 14) jd)))) (jc (jc (jc (jc jk))))) (zU 2 (.tuple [.str "refused",.int 1]) (by kernel_rfl))) (je (jw zl)
  ji) ji)
  (je (jz 15 zj.nd (jB (qr (ja Zb (ja (j8 jd) (ja (abk ajR C.t.list aiC (ja (jb 3) jd)) jd)))) (jl C.c_drawn hr (by decide) (ja (jb 0) (ja jf (ja jf jd))) (jc (jc (jc jk))))))
  (je (j9 (jT (qX hr.units) (zp ["_law_way","_law_manner_here","_law_bad","_law_odd"] [none,some 1,some 15,some 14] rfl (j6 rfl C.t.range (ja jf jd)) (qO (jg ac4) afc (by decide +kernel))
   fun cl C' s0 H0 fp pn=>⟨(jG 0 ajW),qT,(jl C.c_LTold hr (by decide) (ja (jb 0) (ja (jb 1) (ja (jb 2) (ja (jb 3) jd)))) (jc (jc (jc (jc jk)))))⟩) (jq Zo (zU 3 (.list [.tuple [.str "refused",.int 1]]) (by kernel_rfl)) jf)) (je (jw zl)
  ji) ji)
  (je (jw (abi (Ze hr.units) (zp ["_law_way","_law_bad","_law_odd","_law_manner_here"] [none,some 15,some 14,some 1] rfl (j6 rfl C.t.range (ja jf jd)) (qO (jg ac4) afc (by decide +kernel))
   fun cl C' s0 H0 fp pn=>⟨(jG 0 ajX),qT,(jl C.c_LTold hr (by decide) (ja (jb 0) (ja (jq jy (apH (jb 3)) (zU 2 (.tuple [.int 0]) (by kernel_rfl))) (ja (jb 1) (ja (jb 2) jd)))) (jc (jc (jc (jc jk)))))⟩) (jq Zo (zU 3 (.list [.tuple [.str "refused",.int 0]]) (by kernel_rfl)) jf)))
  ji)))))))))))))))))))))))⟩
noncomputable def anY:List PyData->Option PyData:=jC afc 1 al4.1
theorem qQ (i a b:Int):j5 [.int i,.int a,.int b]=some (.bool (decide (a<=i) && decide (i<=b))):=by
 by_cases h:a<=i <;> simp [j5,jC,aaQ,jN,jV,ifS,orB,tst,lkp,QK,tyn,asB,zO,chn,Jo,zD,zh,h]
theorem aa5 (u e l b x y:Int) (h:-18446744073709551616 < x/\x < 18446744073709551616):ze [.tuple [.int u,.int e,.int l,.int b],.tuple [.int x,.int y]]=some (.int (x*e+y)):=by
 simp [ze,jC,abv,jN,jV,op2,lkp,dIx,atI,ixN,zD,zh,cst,Qh,zB,h]
theorem ahJ {n:Nat}{i:Int} (h0:0<=i) (h:i.toNat < n):ixN n i=some i.toNat:=by
 unfold ixN
 rw [if_pos h0,if_pos (by omega)]
noncomputable def okN (u e l b:Int):Bool:=decide (0<=u) && decide (u<=3) && decide (1<=e) && decide (e<=5) && decide (e - 1<=l) && decide (1<=l) && decide (l<=11) && decide (2<=b) && decide (b<=16) && decide (b<=u*e+l+1)
noncomputable def j7 (u l:Int):List PyData:=zx (u+1).toNat (l+1).toNat
noncomputable def j0 (e:Int):PyData->Int
 | .tuple [.int x,.int y]=>x*e+y
 | _=>-1
noncomputable def pr (p:Int × Int):PyData:= .tuple [.int p.1,.int p.2]
noncomputable def jh (ps:List (Int × Int)):PyData:= .tuple (ps.map pr)
noncomputable def okP (u l:Int) (p:Int × Int):Bool:=decide (0<=p.1) && decide (p.1<=u) && decide (0<=p.2) && decide (p.2<=l)
noncomputable def okS (u l:Int) (ps:List (Int × Int)):Bool:=decide (1<=ps.length) && decide (ps.length<=4) && ps.all (okP u l)
noncomputable def wt (e:Int) (p:Int × Int):Int:=p.1*e+p.2
noncomputable def val (b e:Int) (ps:List (Int × Int)):Int:=ps.foldl (fun n p=>n*b+wt e p) 0
noncomputable def aqX (e:Int):List Int->List PyData->List Int
 | c,[]=>c
 | c,r::rs=>aqX e (c.set (j0 e r).toNat (c.getD (j0 e r).toNat 0+1)) rs
noncomputable def aqY (u e l:Int):List Int:=aqX e (List.replicate (u*e+l+1).toNat 0) (j7 u l)
noncomputable def cnt (u e l n:Int):Int:=((j7 u l).filter fun r=>j0 e r == n).length
noncomputable def okM (u e l b:Int):Bool:=decide (0<=u) && decide (u<=3) && decide (1<=e) && decide (e<=5) && decide (e - 1<=l) && decide (1<=l) && decide (l<=10) && decide (2<=b) && decide (b<=16) && decide (b<=u*e+l+1)
theorem ad9 {n m:Nat}{d:PyData} (h:d ∈ zx n m):∃ i j:Nat,i < n/\j < m/\d= .tuple [.int i,.int j]:=by
 obtain ⟨i,hi,hd⟩:=List.mem_flatMap.mp h
 obtain ⟨j,hj,rfl⟩:=List.mem_map.mp hd
 exact ⟨i,j,List.mem_range.mp hi,List.mem_range.mp hj,rfl⟩
theorem QV (i:Int):okD (.int i)=true:=by simp [okD,PyData.canLay0,PyData.depth]
theorem abU {u e l b:Int} (hu:0<=u) (hu':u < 100) (hl:0<=l) (hl':l < 100):Jg [jm u e l b]=some (.list (j7 u l)):=by
 simp [Jg,jm,j7,hu,hl,show u < 1000 by omega,show l < 1000 by omega]
theorem ac5 {u l:Int} (hu':u < 100) (hl':l < 100):few (j7 u l)=true:=by
 simp only [few,j7,aaR,decide_eq_true_eq]
 have:(u+1).toNat*(l+1).toNat<=100*100:=Nat.mul_le_mul (by omega) (by omega)
 omega
theorem aea {u e l b:Int} (hu':u < 100) {d:PyData} (h:d ∈ j7 u l):ze [jm u e l b,d]=some (.int (j0 e d)):=by
 obtain ⟨i,j,hi,hj,rfl⟩:=ad9 h
 exact aa5 u e l b i j (by omega)
theorem ac6 {α:Type} (f:α->Int):∀ xs:List α,qU (xs.map fun d=>PyData.int (f d))=some (xs.map f)
 | []=>rfl
 | x::xs=>by simp [qU,adm,ac6 f xs]
theorem al5 (ns:List Int):okD (.list (ns.map PyData.int))=true:=by
 have h1:∀ ns:List Int,PyData.canLayAll0 (ns.map PyData.int)=true:=fun ns=>by
  induction ns with
  | nil=>rfl
  | cons n ns ih=>simp [PyData.canLayAll0,PyData.canLay0,ih]
 have h2:∀ ns:List Int,PyData.depthAll (ns.map PyData.int)=0:=fun ns=>by
  induction ns with
  | nil=>rfl
  | cons n ns ih=>simp [PyData.depthAll,PyData.depth,ih]
 simp [okD,PyData.canLay0,h1,PyData.depth,h2]
theorem al6 (ns:List Int) (d:Int):(ns.map PyData.int).any (fun z=>PyData.eqv z (.int d))=ns.any (fun z=>z == d):=by
 induction ns with
 | nil=>rfl
 | cons n ns ih=>simp only [List.map_cons,List.any_cons,ih]; rfl
theorem afd {α:Type} (f:α->Bool):∀ xs:List α,bls (xs.map fun d=>PyData.bool (f d))=some (xs.map f)
 | []=>rfl
 | x::xs=>by simp [bls,asB,afd f xs]
theorem ix0 (u e l b:Int):dIx (jm u e l b) (.int 0)=some (.int u):=rfl
theorem ix1 (u e l b:Int):dIx (jm u e l b) (.int 1)=some (.int e):=rfl
theorem ix2 (u e l b:Int):dIx (jm u e l b) (.int 2)=some (.int l):=rfl
theorem ix3 (u e l b:Int):dIx (jm u e l b) (.int 3)=some (.int b):=rfl
theorem Z3 {j:Int} (h:0<=j) (h':j < 1000000):QH [.int j]=some (zt 0 j.toNat):=by
 unfold QH
 exact if_pos (by omega)
theorem Z4 (a b:Int):PyData.eqv (.int a) (.int b)=(a == b):=by unfold PyData.eqv; rfl
theorem ac7 {u e l b:Int} (hu:0<=u) (hu':u < 100) (hl:0<=l) (hl':l < 100) (hb:0<=b) (hb':b < 100):aaS [jm u e l b]=some (.bool ((List.range b.toNat).all fun d=>((j7 u l).map (j0 e)).any fun z=>z == (d:Int))):=by
 have h1:=abU (e:=e) (b:=b) hu hu' hl hl'
 have h2:=ac5 hu' hl'
 have h4:few (zt 0 b.toNat)=true:=by simp [few,zt]; omega
 simp only [aaS,jC,aeW,jN,jV,zD,qB,itL,jM,jr,jF,lkp,abj,List.length_cons,List.length_nil,zzM,List.map_cons,List.map_nil,List.cons_append,List.nil_append,zzA,zzC,zzD,zzE,h1,h2,JS,zA]
 rw [ZI (fun d=> .int (j0 e d))]
 ·simp only [jJ,zh,op2,cst,lkp,zzD,zzE,zzF,zzG,List.replicate,List.length_cons,List.length_nil,zzA,zzB,zzC,ix3,Z3 hb (show b < 1000000 by omega),h4,zzM]
  rw [ZI (fun d=> .bool (((j7 u l).map (j0 e)).any fun z=>z == (adm d).getD 0))]
  ·have:(zt 0 b.toNat).map (fun d=>PyData.bool (((j7 u l).map (j0 e)).any fun z=>z == (adm d).getD 0))=(List.range b.toNat).map fun (d:Nat)=>PyData.bool (((j7 u l).map (j0 e)).any fun z=>z == (d:Int)):=by
    simp [zt,adm,Function.comp_def]
   simp only [zzE,zzD,this,ano,afd (fun (d:Nat)=>((j7 u l).map (j0 e)).any fun z=>z == (d:Int)),List.all_map,Function.comp_def,id]
  ·intro d hd
   obtain ⟨k,_,rfl⟩:=List.mem_map.mp hd
   have h5:(j7 u l).map (fun d=>PyData.int (j0 e d))=((j7 u l).map (j0 e)).map PyData.int:=by simp
   have h6:=al5 ((j7 u l).map (j0 e))
   simp only [op2,lkp,zzG,zzA,zzB,zzC,zzD,dIn,QV,h5,h6,al6]
   simp [adm]
 ·intro d hd
  simp [jM,jr,jF,lkp,aea (b:=b) (e:=e) hu' hd]
theorem afe {u e l b:Int} (hu:0<=u) (hu':u<=3) (he:1<=e) (he':e<=16) (hl:0<=l) (hl':l<=12) (hb:2<=b) (hb':b<=16):j1 [jm u e l b]=aaS [jm u e l b]:=by
 have g:=ac7 (e:=e) hu (by omega) hl (by omega) (show 0<=b by omega) (by omega)
 have w1:j5 [.int u,.int 0,.int 3]=some (.bool true):=by rw [qQ]; simp [hu,hu']
 have w2:j5 [.int e,.int 1,.int 16]=some (.bool true):=by rw [qQ]; simp [he,he']
 have w3:j5 [.int l,.int 0,.int 12]=some (.bool true):=by rw [qQ]; simp [hl,hl']
 have w4:j5 [.int b,.int 2,.int 16]=some (.bool true):=by rw [qQ]; simp [hb,hb']
 have z:air [jm u e l b,.tuple [.int 0,.int 1,.int 0,.int 2],.tuple [.int 3,.int 16,.int 12,.int 16]]=some [.tuple [.int u,.int 0,.int 3],.tuple [.int e,.int 1,.int 16],.tuple [.int l,.int 0,.int 12],.tuple [.int b,.int 2,.int 16]]:=rfl
 rw [g]
 rw [show jm u e l b= .tuple [.int u,.int e,.int l,.int b] from rfl] at g z ⊢
 simp [j1,jC,abw,jN,jV,ifS,orB,zO,tst,QK,tyn,asB,lkp,op2,jM,jr,jF,Jd,cst,dNe,QV,Z4,zh,Jn,z,jP,JR,jR,zi,jJ,w1,w2,w3,w4,zD,g]
theorem Z5 {m:PyData} (h:j1 [m]=some (.bool true)):QS [m]=some .none:=by
 simp [QS,jC,aeX,jN,jV,ifS,zO,tst,asB,jM,jr,jF,lkp,h,zh]
theorem Jc:few []=true:=by simp [few]
theorem add_int (i j:Int):zB (.int i) (.int j)=some (.int (i+j)):=rfl
theorem qt {i j:Int} (h:-1000000000000 < i/\i < 1000000000000):Qh (.int i) (.int j)=some (.int (i*j)):=by
 unfold Qh; exact if_pos (.inl ⟨by omega,by omega⟩)
theorem aa6 {i j:Int} (h:0 < j):akT (.int i) (.int j)=some (.int (i % j)):=by unfold akT; exact if_pos h
theorem ZB {i j:Int} (h:0 < j) (h':j < 1000000000):afI (.int i) (.int j)=some (.int (i / j)):=by unfold afI; exact if_pos ⟨h,by omega⟩
theorem al7 (ns:List Int) (hn:ns.length < 1000000) (k:Int) (hk:0<=k):∃ c,agf [scr ns,.int k]=some (.int c):=by
 cases ns with
 | nil=>
  refine ⟨7*k,?_⟩
  simp [agf,jC,aiI,jN,jV,ifS,tst,op2,lkp,Q5,jF,few,dEq,scr,Jp,asB,zD,cst,qt,zh]
 | cons n ns=>
  have hl:0 < (((n::ns).map fun n=>(PyData.int n,PyData.none)).length:Int):=by simp
  have hl':(((n::ns).map fun n=>(PyData.int n,PyData.none)).length:Int) < 1000000:=by simp at hn ⊢; omega
  have hsc:=adK (n::ns)
  have e1:dEq (scr (n::ns)) (.list [])=some (.bool false):=by
   show (if Jp ((n::ns).map fun n=>(PyData.int n,PyData.none))=true then some (PyData.bool ((n::ns).map fun n=>(PyData.int n,PyData.none)).isEmpty) else none)=_
   rw [if_pos hsc]; rfl
  have e2:Jd [scr (n::ns)]=some (.int (((n::ns).map fun n=>(PyData.int n,PyData.none)).length)):=by
   show (if Jp ((n::ns).map fun n=>(PyData.int n,PyData.none))=true then some (PyData.int ((n::ns).map fun n=>(PyData.int n,PyData.none)).length) else none)=_
   rw [if_pos hsc]
  generalize hL:(((n::ns).map fun n=>(PyData.int n,PyData.none)).length:Int)=L at*
  have h0:0<=k % L:=Int.emod_nonneg _ (by omega)
  have h1:k % L < L:=Int.emod_lt_of_pos _ hl
  have e3:∃ c,dIx (scr (n::ns)) (.int (k % L))=some (.int c):=by
   have hlen:((n::ns).map fun n=>(PyData.int n,PyData.none)).length < 1000000:=by omega
   have hlt:(k % L).toNat < ((n::ns).map fun n=>(PyData.int n,PyData.none)).length:=by omega
   have hx:ixN ((n::ns).map fun n=>(PyData.int n,PyData.none)).length (k % L)=some (k % L).toNat:=ahJ h0 hlt
   refine ⟨((n::ns)[(k % L).toNat]'(by simpa using hlt)),?_⟩
   show (if ((n::ns).map fun n=>(PyData.int n,PyData.none)).length < 1000000/\Jp ((n::ns).map fun n=>(PyData.int n,PyData.none))=true then (atI ((n::ns).map fun n=>(PyData.int n,PyData.none)) (k % L)).map (·.1) else none)=_
   rw [if_pos ⟨hlen,hsc⟩]
   unfold atI
   rw [hx,zzD,List.getElem?_eq_getElem hlt,zzE,List.getElem_map]
  obtain ⟨c,e3⟩:=e3
  refine ⟨c+6553*(k / L),?_⟩
  simp [agf,jC,aiI,jN,jV,ifS,tst,op2,lkp,Q5,jF,few,asB,zD,cst,zh,jM,jr,e1,e2,e3,aa6 hl,ZB hl (show L < 1000000000 by omega),qt,add_int]
theorem qj (ns:List Int) (hn:ns.length < 1000000) (k m:Int) (hk:0<=k) (hm:0 < m):∃ r,JI [scr ns,.int k,.int m]=some (.int r)/\0<=r/\r < m:=by
 obtain ⟨c,hc⟩:=al7 ns hn k hk
 generalize h1:(c % 2147483563*69069+104723*(k+1)) % 2147483563=a
 generalize h2:(a*a+a / 3) % 2147483399=d
 have ha:0<=a/\a < 2147483563:=by rw [←h1]; exact ⟨Int.emod_nonneg _ (by omega),Int.emod_lt_of_pos _ (by omega)⟩
 have hd:0<=d/\d < 2147483399:=by rw [←h2]; exact ⟨Int.emod_nonneg _ (by omega),Int.emod_lt_of_pos _ (by omega)⟩
 have hc':0<=c % 2147483563/\c % 2147483563 < 2147483563:=⟨Int.emod_nonneg _ (by omega),Int.emod_lt_of_pos _ (by omega)⟩
 refine ⟨(d*d+d / 7) % 2147483647 / 11 % m,?_,Int.emod_nonneg _ (by omega),Int.emod_lt_of_pos _ hm⟩
 have m1:Qh (.int (c % 2147483563)) (.int 69069)=some (.int (c % 2147483563*69069)):=qt (by omega)
 have m2:Qh (.int 104723) (.int (k+1))=some (.int (104723*(k+1))):=qt (by omega)
 have m3:Qh (.int a) (.int a)=some (.int (a*a)):=qt (by omega)
 have m4:Qh (.int d) (.int d)=some (.int (d*d)):=qt (by omega)
 simp [JI,jC,ahG,jN,jV,zA,jJ,op2,lkp,jF,zD,cst,zh,jM,jr,hc,m1,m2,m3,m4,aa6,ZB,add_int,h1,h2,hm]
theorem al8 (w:Int) (h0:0<=w) (h:w < 12):∃ u e l b,dIx (.list (aby++abz)) (.int w)=some (jm u e l b)/\okM u e l b=true:=by
 obtain ⟨n,rfl⟩:=Int.eq_ofNat_of_zero_le h0
 have hn:n < 12:=by omega
 have:∀ n < 12,∃ u e l b,dIx (.list (aby++abz)) (.int (n:Nat))=some (jm u e l b)/\okM u e l b=true:=by
  intro n hn
  match n,hn with
  | 0,_=>exact ⟨_,_,_,_,rfl,by decide⟩
  | 1,_=>exact ⟨_,_,_,_,rfl,by decide⟩
  | 2,_=>exact ⟨_,_,_,_,rfl,by decide⟩
  | 3,_=>exact ⟨_,_,_,_,rfl,by decide⟩
  | 4,_=>exact ⟨_,_,_,_,rfl,by decide⟩
  | 5,_=>exact ⟨_,_,_,_,rfl,by decide⟩
  | 6,_=>exact ⟨_,_,_,_,rfl,by decide⟩
  | 7,_=>exact ⟨_,_,_,_,rfl,by decide⟩
  | 8,_=>exact ⟨_,_,_,_,rfl,by decide⟩
  | 9,_=>exact ⟨_,_,_,_,rfl,by decide⟩
  | 10,_=>exact ⟨_,_,_,_,rfl,by decide⟩
  | 11,_=>exact ⟨_,_,_,_,rfl,by decide⟩
  | k+12,h=>omega
 exact this n hn
theorem ahK (ns:List Int) (hn:ns.length < 1000000) (k:Int) (hk:0<=k):∃ u e l b,ZT [scr ns,.int k]=some (jm u e l b)/\okM u e l b=true:=by
 obtain ⟨w,hw,hw0,hw1⟩:=qj ns hn k 24 hk (by omega)
 have a1:zB (.list aby) (.list abz)=some (.list (aby++abz)):=rfl
 have a2:Jd [.list (aby++abz)]=some (.int 12):=rfl
 have a3:Qh (.int 2) (.int 12)=some (.int 24):=rfl
 by_cases hlt:w < 12
 ·obtain ⟨u,e,l,b,h1,h2⟩:=al8 w hw0 hlt
  refine ⟨u,e,l,b,?_,h2⟩
  simp [ZT,jC,acf,jN,jV,zA,jJ,op2,lkp,jF,zD,cst,zh,jM,jr,ifS,tst,asB,a1,a2,a3,hw,Jo,hlt,h1]
 ·obtain ⟨r1,e1,p1,q1⟩:=qj ns hn (k+1) 5 (by omega) (by omega)
  obtain ⟨r2,e2,p2,q2⟩:=qj ns hn (k+2) 4 (by omega) (by omega)
  obtain ⟨r3,e3,p3,q3⟩:=qj ns hn (k+3) 4 (by omega) (by omega)
  generalize hlo:(if (1:Int) > 1+r1 - 1 then 1 else 1+r1 - 1)+r3=lo
  have hlo1:1<=lo/\r1<=lo/\lo<=10:=by
   rw [←hlo]; split <;> omega
  have hue:0<=r2*(1+r1)/\r2*(1+r1)<=3*5:=⟨Int.mul_nonneg p2 (by omega),Int.mul_le_mul (by omega) (by omega) (by omega) (by omega)⟩
  generalize hmn:(if r2*(1+r1)+lo < 15 then r2*(1+r1)+lo else 15)=mn
  have hmn1:0 < mn/\mn<=15/\mn<=r2*(1+r1)+lo:=by
   rw [←hmn]; split <;> omega
  obtain ⟨r4,e4,p4,q4⟩:=qj ns hn (k+4) mn (by omega) (by omega)
  refine ⟨r2,1+r1,lo,2+r4,?_,?_⟩
  ·have m1:Qh (.int r2) (.int (1+r1))=some (.int (r2*(1+r1))):=qt (by omega)
   have x1:afK [.int (1+r1 - 1),.int 1]=some (.int (if (1:Int) > 1+r1 - 1 then 1 else 1+r1 - 1)):=rfl
   have x2:akW [.int 15,.int (r2*(1+r1)+lo)]=some (.int (if r2*(1+r1)+lo < 15 then r2*(1+r1)+lo else 15)):=rfl
   have x3:aaa (.int (1+r1)) (.int 1)=some (.int (1+r1 - 1)):=rfl
   simp only [ZT,jC,acf,jN,jV,zA,jJ,op2,lkp,jF,zD,cst,zh,jM,jr,ifS,tst,asB,a1,a2,a3,hw,Jo,hlt,zzD,zzE,zzF,zzG,List.replicate,List.length_cons,List.length_nil,zzM,List.map_cons,List.map_nil,List.cons_append,List.nil_append,zzA,zzB,zzC,add_int,e1,e2,e3,m1,x1,x2,x3,decide_false,hlo,hmn,e4]
   simp [e1,e2,e3,m1,x1,x2,x3,hlo,hmn,e4,add_int,lkp,Qn,jr,jF,few,jm]
   simp only [Qn,jr,jF,lkp,op2,jM,cst,zzD,zzE,zzA,zzB,zzC,add_int,m1,x2,hmn,e4]
   simp
  ·have:=hue.1
   simp [okM]
   omega
noncomputable def isInt (t:Int):PyData->Bool
 | .int x=>x == t
 | _=>false
noncomputable def apI (u e l:Int):Bool:=
 isInt (u*e+l) (apx none ((j7 u l).map (j0 e))) &&
 ((List.range (u*e+l+1).toNat).all fun n=>(j7 u l).any fun r=>j0 e r == (n:Int)) &&
 ((j7 u l).all fun r=>decide (0<=j0 e r) && decide (j0 e r<=u*e+l)) &&
 decide (aqY u e l=(List.range (u*e+l+1).toNat).map fun (n:Nat)=>cnt u e l n)
noncomputable def QA:Bool:=(List.range 4).all fun (i:Nat)=>(List.range 5).all fun (j:Nat)=>(List.range 11).all fun (k:Nat)=>decide (k+1 < j) || apI i (j+1) (k+1)
structure Chk (u e l:Int):Prop where
 most:apx none ((j7 u l).map (j0 e))= .int (u*e+l)
 dig:∀ n:Nat,n < (u*e+l+1).toNat->((j7 u l).any fun r=>j0 e r == (n:Int))=true
 rng:∀ r ∈ j7 u l,0<=j0 e r/\j0 e r<=u*e+l
 lst:aqY u e l=(List.range (u*e+l+1).toNat).map fun (n:Nat)=>cnt u e l n
theorem apJ {u e l:Int} (h:apI u e l=true):Chk u e l:=by
 simp only [apI,Bool.and_eq_true,List.all_eq_true,decide_eq_true_eq] at h
 obtain ⟨⟨⟨h1,h2⟩,h3⟩,h4⟩:=h
 refine ⟨?_,fun n hn=>h2 n (List.mem_range.mpr hn),fun r hr=>h3 r hr,h4⟩
 generalize apx none ((j7 u l).map (j0 e))=x at h1
 cases x <;> simp [isInt] at h1
 rw [h1]
theorem qR {u e l b:Int} (h:okN u e l b=true):0<=u/\u<=3/\1<=e/\e<=5/\e - 1<=l/\1<=l/\l<=11/\2<=b/\b<=16/\b<=u*e+l+1:=by
 simp only [okN,Bool.and_eq_true,decide_eq_true_eq] at h
 omega
theorem apK {u e l b:Int} (H:QA=true) (h:okN u e l b=true):Chk u e l:=by
 obtain ⟨a1,a2,a3,a4,a5,a6,a7,_⟩:=qR h
 simp only [QA,List.all_eq_true,Bool.or_eq_true,decide_eq_true_eq] at H
 have:=H u.toNat (List.mem_range.mpr (by omega)) (e - 1).toNat (List.mem_range.mpr (by omega)) (l - 1).toNat (List.mem_range.mpr (by omega))
 rcases this with z | z
 ·exfalso; omega
 ·rw [show ((u.toNat:Nat):Int)=u by omega,show (((e - 1).toNat:Nat):Int)+1=e by omega,show (((l - 1).toNat:Nat):Int)+1=l by omega] at z
  exact apJ z
theorem anZ {u e l b:Int} (h:okM u e l b=true):okN u e l b=true:=by
 simp only [okM,okN,Bool.and_eq_true,decide_eq_true_eq] at h ⊢
 omega
theorem apL {u e l b:Int} (H:QA=true) (h:okN u e l b=true) {n:Int} (h0:0<=n) (hn:n < b):((j7 u l).any fun r=>j0 e r == n)=true:=by
 obtain ⟨a1,a2,a3,a4,a5,a6,a7,a8,a9,a10⟩:=qR h
 have:=(apK H h).dig n.toNat (by omega)
 rw [show ((n.toNat:Nat):Int)=n by omega] at this
 exact this
end Rods
theorem Rods.allN_true:Rods.QA=true:=by decide +kernel
namespace Rods
open PySem L2 BX
open PyProof.Rows hiding St
theorem jv {F G:Rho->Option Out}{ρ ρ1:Rho} (h:F ρ=some (.nx ρ1)):jV F G ρ=G ρ1:=by
 unfold jV
 rw [h]
 rfl
theorem jO {N:List Str}{n:Nat}{B:Rho->Option Out}{ds:List PyData}{d:PyData} (hl:ds.length=n) (h:B (jN N ds)=some (.rt d)):jC N n B ds=some d:=by
 unfold jC
 rw [if_pos hl,h]
theorem ac8 {b:Int} (hb:0 < b):∀ r:Nat,0 < b ^ r
 | 0=>by simp
 | r+1=>by rw [Int.pow_succ]; exact Int.mul_pos (ac8 hb r) hb
theorem aoJ {b:Int} (h0:0 < b) (h:b<=16):∀ r:Nat,b ^ r<=16 ^ r
 | 0=>by simp
 | r+1=>by
  rw [Int.pow_succ,Int.pow_succ]
  exact Int.mul_le_mul (aoJ h0 h r) h (by omega) (Int.le_of_lt (ac8 (by decide) r))
theorem apM {b:Int} (h0:0 < b) (h:b<=16) {r:Nat} (hr:r<=4):b ^ r<=65536:=by
 have:r=0 ∨ r=1 ∨ r=2 ∨ r=3 ∨ r=4:=by omega
 have:=aoJ h0 h r
 rcases ‹r=0 ∨ _› with e | e | e | e | e <;> subst e <;> first | (exact Int.le_trans this (by decide))
theorem al9 (b e:Int) (ps:List (Int × Int)) (p:Int × Int):val b e (ps++[p])=val b e ps*b+wt e p:=by simp [val]
end Rods
namespace Rods
open PySem L2 BX
open PyProof.Rows hiding St
section
variable {u e l b:Int}
theorem qJ {u l:Int}{p:Int × Int} (h:okP u l p=true):0<=p.1/\p.1<=u/\0<=p.2/\p.2<=l:=by
 simp only [okP,Bool.and_eq_true,decide_eq_true_eq] at h
 exact ⟨h.1.1.1,h.1.1.2,h.1.2,h.2⟩
theorem aiM {e u l:Int} (he:1<=e) {p:Int × Int} (h:okP u l p=true):0<=wt e p:=by
 obtain ⟨h1,h2,h3,h4⟩:=qJ h
 have:=Int.mul_nonneg h1 (show 0<=e by omega)
 unfold wt; omega
theorem ama {e u l:Int} (he:1<=e) (he5:e<=5) (hu:u<=3) (hl:l<=11) {p:Int × Int} (h:okP u l p=true):wt e p<=26:=by
 obtain ⟨h1,h2,h3,h4⟩:=qJ h
 have:p.1*e<=3*5:=Int.mul_le_mul (by omega) he5 (by omega) (by omega)
 unfold wt; omega
theorem aiN {b e u l:Int} (h2:2<=b) (hb:b<=16) (he:1<=e) (he5:e<=5) (hu:u<=3) (hl:l<=11):∀ (ps:List (Int × Int)) (acc:Int),ps.all (okP u l)=true->0<=acc->0<=ps.foldl (fun n p=>n*b+wt e p) acc/\ps.foldl (fun n p=>n*b+wt e p) acc+30<=(acc+30)*16 ^ ps.length
 | [],acc,_,h=>⟨h,by simp⟩
 | p::ps,acc,hp,h=>by
  rw [List.all_cons,Bool.and_eq_true] at hp
  have w0:=aiM he hp.1
  have w1:=ama he he5 hu hl hp.1
  have ha:0<=acc*b:=Int.mul_nonneg h (by omega)
  have hb2:acc*b<=acc*16:=Int.mul_le_mul_of_nonneg_left hb h
  obtain ⟨h1,h3⟩:=aiN h2 hb he he5 hu hl ps (acc*b+wt e p) hp.2 (by omega)
  refine ⟨h1,Int.le_trans h3 ?_⟩
  rw [List.length_cons,Int.pow_succ,Int.mul_comm (16 ^ ps.length) 16,←Int.mul_assoc]
  refine Int.mul_le_mul_of_nonneg_right ?_ (Int.le_of_lt (ac8 (by decide) _))
  omega
theorem amb (h:okN u e l b=true) {ps:List (Int × Int)} (hp:ps.all (okP u l)=true):0<=val b e ps:=by
 obtain ⟨a1,a2,a3,a4,a5,a6,a7,a8,a9,a10⟩:=qR h
 exact (aiN a8 a9 a3 a4 a2 a7 ps 0 hp (by omega)).1
end
end Rods
namespace Rods
open PySem L2 BX
open PyProof.Rows hiding St
theorem zN {ds:List PyData} (h:ds.length < 10000):few ds=true:=by
 rw [few]
 refine decide_eq_true ?_
 omega
theorem apN {u e l b:Int} (H:QA=true) (h:okN u e l b=true):j1 [jm u e l b]=some (.bool true):=by
 obtain ⟨a1,a2,a3,a4,a5,a6,a7,a8,a9,a10⟩:=qR h
 rw [afe a1 a2 a3 (by omega) (by omega) (by omega) a8 a9,ac7 a1 (by omega) (by omega) (by omega) (by omega) (by omega)]
 congr 2
 refine List.all_eq_true.mpr fun d hd=>?_
 have:=apL H h (n:=(d:Int)) (by omega) (by have:=List.mem_range.mp hd; omega)
 simpa [List.any_map,Function.comp_def] using this
theorem ql {u l:Int}{ps:List (Int × Int)} (h:okS u l ps=true):1<=ps.length/\ps.length<=4/\ps.all (okP u l)=true:=by
 simp only [okS,Bool.and_eq_true,decide_eq_true_eq] at h
 exact ⟨h.1.1,h.1.2,h.2⟩
theorem aff {u l:Int}{ps:List (Int × Int)} (h1:1<=ps.length) (h2:ps.length<=4) (h3:ps.all (okP u l)=true):okS u l ps=true:=by
 simp only [okS,Bool.and_eq_true,decide_eq_true_eq]
 exact ⟨⟨h1,h2⟩,h3⟩
end Rods
namespace Rods
open PySem L2 BX
open PyProof.Rows hiding St
section
variable {u e l b:Int}{ps qs:List (Int × Int)}
theorem agm (h:okN u e l b=true) {S:PyData}:∀ (qs:List (Int × Int)) (acc:Int) (x:Option PyData),qs.all (okP u l)=true->0<=acc->(acc+30)*16 ^ qs.length<=1000000000->
  ∃ y,jP (jJ 3) aeZ.1 (qs.map pr) [some (jm u e l b),some S,some (.int acc),x]=some (.nx [some (jm u e l b),some S,some (.int (qs.foldl (fun n p=>n*b+wt e p) acc)),y])
 | [],acc,x,_,_,_=>⟨x,rfl⟩
 | q::qs,acc,x,hq,h0,hB=>by
  obtain ⟨a1,a2,a3,a4,a5,a6,a7,a8,a9,a10⟩:=qR h
  rw [List.all_cons,Bool.and_eq_true] at hq
  obtain ⟨q1,q2,q3,q4⟩:=qJ hq.1
  have w0:=aiM a3 hq.1
  have w1:=ama a3 a4 a2 a7 hq.1
  have hp:=ac8 (b:=16) (by decide) qs.length
  rw [List.length_cons,Int.pow_succ,Int.mul_comm (16 ^ qs.length) 16,←Int.mul_assoc] at hB
  have ha:0<=acc*b:=Int.mul_nonneg h0 (by omega)
  have hb2:acc*b<=acc*16:=Int.mul_le_mul_of_nonneg_left a9 h0
  have hB':(acc*b+wt e q+30)*16 ^ qs.length<=1000000000:=Int.le_trans (Int.mul_le_mul_of_nonneg_right (by omega) (Int.le_of_lt hp)) hB
  have hacc:acc<=1000000000:=by
   have h1:(acc+30)*16*1<=(acc+30)*16*16 ^ qs.length:=Int.mul_le_mul_of_nonneg_left (by omega) (by omega)
   omega
  have m1:Qh (.int acc) (.int b)=some (.int (acc*b)):=qt ⟨by omega,by omega⟩
  have w':ze [jm u e l b,pr q]=some (.int (wt e q)):=aa5 u e l b q.1 q.2 (by omega)
  have step:aeZ.1 [some (jm u e l b),some S,some (.int acc),some (pr q)]=some (.nx [some (jm u e l b),some S,some (.int (acc*b+wt e q)),some (pr q)]):=by
   simp only [aeZ,jV,zA,op2,jM,jr,jF,lkp,cst,jJ,zzA,zzB,zzC,zzD,zzE,ix3,m1,w',add_int,zzF,zzG,zh]
  obtain ⟨y,hy⟩:=agm h (S:=S) qs (acc*b+wt e q) (some (pr q)) hq.2 (by omega) hB'
  refine ⟨y,?_⟩
  rw [List.map_cons]
  simp only [jP,jJ,zzD,zzF,zzG,step]
  exact hy
theorem aiO (h:okN u e l b=true) (h4:ps.length<=4) (hp:ps.all (okP u l)=true):ahF [jm u e l b,jh ps]=some (.int (val b e ps)):=by
 have hB:(0+30:Int)*16 ^ ps.length<=1000000000:=by
  have:=apM (b:=16) (by decide) (by decide) h4
  omega
 obtain ⟨y,hy⟩:=agm h (S:=jh ps) ps 0 none hp (by omega) hB
 refine jO rfl ?_
 show anR.1 [some (jm u e l b),some (jh ps),none,none]=_
 simp only [anR]
 refine (jv (ρ1:=[some (jm u e l b),some (jh ps),some (.int 0),none]) ?_).trans ?_
 ·simp only [zA,cst,jJ,zzD,zzE,zzF,zzG]
 refine (jv (ρ1:=[some (jm u e l b),some (jh ps),some (.int (val b e ps)),y]) ?_).trans ?_
 ·show (itT (lkp 1) _).bind _=_
  rw [show itT (lkp 1) [some (jm u e l b),some (jh ps),some (.int 0),none]=some (ps.map pr) from rfl]
  exact hy
 rfl
end
end Rods
namespace Rods
open PySem L2 BX
open PyProof.Rows hiding St
theorem agn {n:Int} (h0:0<=n) (h1:n<=99999):zr [.int n]=some .none:=by
 have w:j5 [.int n,.int 0,.int 99999]=some (.bool true):=by rw [qQ]; simp [h0,h1]
 simp [zr,jC,acd,jN,jV,ifS,zO,tst,asB,jM,jr,jF,lkp,cst,w,zh]
end Rods
namespace Rods
open PySem L2 BX
open PyProof.Rows hiding St
section
variable {u e l b:Int}{ps qs:List (Int × Int)}
theorem acn (i j:Int):dEq (.int i) (.int j)=some (.bool (decide (i=j))):=by
 have:(i == j)=decide (i=j):=rfl
 simp only [dEq,QV,Z4,and_self,zzM,this]
theorem zo (ps:List (Int × Int)):Jd [jh ps]=some (.int (ps.length:Int)):=by
 show some (PyData.int ((ps.map pr).length:Int))=_
 rw [List.length_map]
theorem apO (p q:Int × Int):PyData.eqv (pr p) (pr q)=decide (p=q):=by
 obtain ⟨a,b⟩:=p
 obtain ⟨c,d⟩:=q
 simp only [pr,PyData.eqv,PyData.eqvAll,Prod.mk.injEq,Bool.and_true,Bool.decide_and]
 rfl
theorem aeb:∀ (ps qs:List (Int × Int)),PyData.eqvAll (ps.map pr) (qs.map pr)=decide (ps=qs)
 | [],[]=>by simp [PyData.eqvAll]
 | [],q::qs=>by simp [PyData.eqvAll]
 | p::ps,[]=>by simp [PyData.eqvAll]
 | p::ps,q::qs=>by simp [PyData.eqvAll,apO,aeb ps qs]
theorem ago (ps qs:List (Int × Int)):PyData.eqv (jh ps) (jh qs)=decide (ps=qs):=by
 unfold jh PyData.eqv
 exact aeb ps qs
theorem amc (ps:List (Int × Int)):okD (jh ps)=true:=by
 have h1:∀ ps:List (Int × Int),PyData.canLayAll0 (ps.map pr)=true:=fun ps=>by
  induction ps with
  | nil=>rfl
  | cons p ps ih=>simp [PyData.canLayAll0,PyData.canLay0,pr,ih]
 have h2:∀ ps:List (Int × Int),PyData.depthAll (ps.map pr)<=1:=fun ps=>by
  induction ps with
  | nil=>simp [PyData.depthAll]
  | cons p ps ih=>simp [PyData.depthAll,PyData.depth,pr] at ih ⊢; omega
 have:=h2 ps
 simp [okD,jh,PyData.canLay0,h1,PyData.depth]
 omega
end
end Rods
namespace Rods
open PySem L2 BX
open PyProof.Rows hiding St
theorem aiP {α:Type} (x:α):∀ n:Nat,(List.replicate n [x]).flatten=List.replicate n x
 | 0=>rfl
 | n+1=>by rw [List.replicate_succ,List.flatten_cons,aiP x n,List.replicate_succ]; rfl
noncomputable def Ji (u e l b:Int) (a:Nat):Int:=val b e (List.replicate a (u,l))
theorem amd {u e l b:Int} (h:okN u e l b=true) (a:Nat):(List.replicate a (u,l)).all (okP u l)=true:=by
 obtain ⟨a1,a2,a3,a4,a5,a6,a7,a8,a9,a10⟩:=qR h
 refine List.all_eq_true.mpr fun p hp=>?_
 rw [(List.mem_replicate.mp hp).2]
 simp only [okP,Bool.and_eq_true,decide_eq_true_eq]
 exact ⟨⟨⟨a1,Int.le_refl _⟩,by omega⟩,Int.le_refl _⟩
theorem ame {u e l b:Int} (a:Nat) (ha:a < 4):alS [jm u e l b,.int (a:Int)]=some (jh (List.replicate a (u,l))):=by
 refine jO rfl ?_
 have f1:few [pr (u,l)]=true:=zN (by simp)
 have f2:few [PyData.int u,.int l]=true:=zN (by simp)
 have rp:alk (.tuple [.tuple [.int u,.int l]]) (.int (a:Int))=some (jh (List.replicate a (u,l))):=by
  show (if 0 < [pr (u,l)].length/\[pr (u,l)].length < 1000/\-1000 < (a:Int)/\(a:Int) < 1000 then some (PyData.tuple (List.replicate (a:Int).toNat [pr (u,l)]).flatten) else none)=_
  rw [if_pos ⟨by simp,by simp,by omega,by omega⟩,aiP]
  simp [jh]
 have f1':few [PyData.tuple [.int u,.int l]]=true:=f1
 generalize (a:Int)=aa at*
 show aiD.1 [some (jm u e l b),some (.int aa)]=_
 simp only [aiD,jV,zD,op2,Qn,jr,jF,lkp,cst,zzA,zzB,zzC,zzD,zzE,ix0,ix2,f1',f2,zzM,rp]
noncomputable def abL (e n:Int) (r:PyData):Int:=n - j0 e r
noncomputable def okL (e b m n:Int) (r:PyData):Bool:=decide (abL e n r % b=0) && (decide (0<=abL e n r) && decide (abL e n r<=b*m))
noncomputable def aec (e b n:Int) (r:PyData):PyData:= .tuple [r,.int (abL e n r / b)]
theorem an0 {u e l b m n:Int} (hu':u < 100) (hb:0 < b) (hb':b < 100) {A x7:Option PyData}{ds:List PyData} (hds:ds.length < 1000000) {R:PyData} (nR:noL R=true) {L:Int}:tst (op2 dEq (op2 akT (lkp 7) (lkp 3)) (cst (.int 0))) [some (jm u e l b),A,some (.int n),some (.int b),some (.int m),some (.list ds),some R,some (.int L)]=some (decide (L % b=0)):=by
 have mb:Qh (.int b) (.int m)=some (.int (b*m)):=qt (by omega)
 have md:=fun x=>aa6 (i:=x) hb
 have fd:=fun x=>ZB (i:=x) hb (by omega)
 have sb:∀ x y:Int,aaa (.int x) (.int y)=some (.int (x - y)):=fun _ _=>rfl
 have le:∀ x y:Int,Jo (fun i j=>decide (i<=j)) (.int x) (.int y)=some (.bool (decide (x<=y))):=fun _ _=>rfl
 simp only [tst,op2,lkp,cst,zzA,zzB,zzC,zzD,md,acn,asB]
theorem an1 {u e l b m n:Int} (hu':u < 100) (hb:0 < b) (hb':b < 100) {A x7:Option PyData}{ds:List PyData} (hds:ds.length < 1000000) {R:PyData} (nR:noL R=true) {L:Int}:tst (chn (Jo fun i j=>decide (i<=j)) (Jo fun i j=>decide (i<=j)) (cst (.int 0)) (lkp 7) (op2 Qh (lkp 3) (lkp 4))) [some (jm u e l b),A,some (.int n),some (.int b),some (.int m),some (.list ds),some R,some (.int L)]=some (decide (0<=L) && decide (L<=b*m)):=by
 have mb:Qh (.int b) (.int m)=some (.int (b*m)):=qt (by omega)
 have md:=fun x=>aa6 (i:=x) hb
 have fd:=fun x=>ZB (i:=x) hb (by omega)
 have sb:∀ x y:Int,aaa (.int x) (.int y)=some (.int (x - y)):=fun _ _=>rfl
 have le:∀ x y:Int,Jo (fun i j=>decide (i<=j)) (.int x) (.int y)=some (.bool (decide (x<=y))):=fun _ _=>rfl
 simp only [tst,chn,op2,lkp,cst,zzA,zzB,zzC,zzD,le,mb,asB]
 by_cases c2:0<=L
 ·simp [c2,asB]
 ·simp [c2,asB]
theorem an2 {u e l b m n:Int} (hu':u < 100) (hb:0 < b) (hb':b < 100) {A x7:Option PyData}{ds:List PyData} (hds:ds.length < 1000000) {R:PyData} (nR:noL R=true) {L:Int}:Q6 5 (aab 5 (Qn (jr (lkp 6) (jr (op2 afI (lkp 7) (lkp 3)) jF)))) [some (jm u e l b),A,some (.int n),some (.int b),some (.int m),some (.list ds),some R,some (.int L)]=some (.nx [some (jm u e l b),A,some (.int n),some (.int b),some (.int m),some (.list (ds++[.tuple [R,.int (L / b)]])),some R,some (.int L)]):=by
 have mb:Qh (.int b) (.int m)=some (.int (b*m)):=qt (by omega)
 have md:=fun x=>aa6 (i:=x) hb
 have fd:=fun x=>ZB (i:=x) hb (by omega)
 have sb:∀ x y:Int,aaa (.int x) (.int y)=some (.int (x - y)):=fun _ _=>rfl
 have le:∀ x y:Int,Jo (fun i j=>decide (i<=j)) (.int x) (.int y)=some (.bool (decide (x<=y))):=fun _ _=>rfl
 have hn:noL (.tuple [R,.int (L / b)])=true:=by simp [noL,noLs,nR]
 have hf2:few [R,PyData.int (L / b)]=true:=by simp [few]
 simp only [Q6,aab,Qn,jr,jF,op2,lkp,zzA,zzB,zzC,zzD,zzE,fd,hf2,zzM,ajr,hn,hds,and_self,zzF,zzG]
theorem ahL {u e l b m n:Int} (hu':u < 100) (hb:0 < b) (hb':b < 100) {A x7:Option PyData}{ds:List PyData} (hds:ds.length < 1000000) {R:PyData} (nR:noL R=true) {L:Int} (hL':n - j0 e R=L) (hw:ze [jm u e l b,R]=some (.int (j0 e R))):
  ZS.1 [some (jm u e l b),A,some (.int n),some (.int b),some (.int m),some (.list ds),some R,x7]=
   some (.nx [some (jm u e l b),A,some (.int n),some (.int b),some (.int m),some (.list (ds++if (decide (L % b=0) && (decide (0<=L) && decide (L<=b*m)))=true then [.tuple [R,.int (L / b)]] else [])),some R,some (.int L)]):=by
 have sb:∀ x y:Int,aaa (.int x) (.int y)=some (.int (x - y)):=fun _ _=>rfl
 simp only [ZS]
 refine (jv (ρ1:=[some (jm u e l b),A,some (.int n),some (.int b),some (.int m),some (.list ds),some R,some (.int L)]) ?_).trans ?_
 ·simp only [zA,brw,hid,op2,lkp,jM,jr,jF,zzF,zzG,zzA,zzB,zzC,zzD,zzE,hw,sb,jJ,hL']
 ·have q1:=an0 (u:=u) (e:=e) (l:=l) (m:=m) (n:=n) hu' hb hb' (A:=A) (x7:=x7) hds nR (L:=L)
  have q2:=an1 (u:=u) (e:=e) (l:=l) (m:=m) (n:=n) hu' hb hb' (A:=A) (x7:=x7) hds nR (L:=L)
  have q3:=an2 (u:=u) (e:=e) (l:=l) (m:=m) (n:=n) hu' hb hb' (A:=A) (x7:=x7) hds nR (L:=L)
  cases c1:decide (L % b=0) with
  | false=>simp only [jV,ifS,adl,q1,c1,zzD,zzL,zzN,zh,Bool.false_and,List.append_nil]
  | true=>
   cases c2:(decide (0<=L) && decide (L<=b*m)) with
   | false=>simp only [jV,ifS,adl,q1,q2,c1,c2,zzD,zzM,zzL,zzN,zh,Bool.and_false,List.append_nil]
   | true=>simp only [jV,ifS,adl,q1,q2,q3,c1,c2,zzD,zzM,zh,Bool.and_self]
theorem ajY {u e l b m n:Int} (hu':u < 100) (hb:0 < b) (hb':b < 100) {A x7:Option PyData}{ds:List PyData} (hds:ds.length < 1000000) {r:PyData} (hr:r ∈ j7 u l):
  ZS.1 [some (jm u e l b),A,some (.int n),some (.int b),some (.int m),some (.list ds),some r,x7]=
   some (.nx [some (jm u e l b),A,some (.int n),some (.int b),some (.int m),some (.list (ds++if okL e b m n r=true then [aec e b n r] else [])),some r,some (.int (abL e n r))]):=by
 have hw:=aea (e:=e) (b:=b) hu' hr
 have nR:noL r=true:=by obtain ⟨i,j,_,_,rfl⟩:=ad9 hr; simp [noL,noLs]
 exact ahL hu' hb hb' hds nR rfl hw
theorem aed {u e l b m n:Int} (hu':u < 100) (hb:0 < b) (hb':b < 100) {A:Option PyData}:∀ (rs ds:List PyData) (x6 x7:Option PyData),(∀ r ∈ rs,r ∈ j7 u l)->ds.length+rs.length < 1000000->
  ∃ y6 y7,jP (jJ 6) ZS.1 rs [some (jm u e l b),A,some (.int n),some (.int b),some (.int m),some (.list ds),x6,x7]=
   some (.nx [some (jm u e l b),A,some (.int n),some (.int b),some (.int m),some (.list (ds++(rs.filter (okL e b m n)).map (aec e b n))),y6,y7])
 | [],ds,x6,x7,_,_=>⟨x6,x7,by simp [jP]⟩
 | r::rs,ds,x6,x7,h,hl=>by
  have hl':ds.length+(rs.length+1) < 1000000:=hl
  have s:=ajY (l:=l) (e:=e) (m:=m) (n:=n) hu' hb hb' (A:=A) (x7:=x7) (ds:=ds) (by omega) (h r List.mem_cons_self)
  obtain ⟨y6,y7,ih⟩:=aed (l:=l) (e:=e) (m:=m) (n:=n) hu' hb hb' (A:=A) rs (ds++if okL e b m n r=true then [aec e b n r] else []) (some r) (some (.int (abL e n r))) (fun x hx=>h x (List.mem_cons_of_mem _ hx)) (by split <;> simp <;> omega)
  refine ⟨y6,y7,?_⟩
  rw [jP]
  simp only [jJ,zzF,zzG,zzD,s,ih]
  by_cases c:okL e b m n r=true
  ·simp [c,List.filter_cons]
  ·simp [c,List.filter_cons]
theorem amf {u e l b n:Int} (h:okN u e l b=true) (a:Nat) (ha:a < 4):
  aiG [jm u e l b,.int (a:Int),.int n]=some (.list (((j7 u l).filter (okL e b (Ji u e l b a) n)).map (aec e b n))):=by
 obtain ⟨a1,a2,a3,a4,a5,a6,a7,a8,a9,a10⟩:=qR h
 have hu:0<=u:=a1
 have hu':u < 100:=by omega
 have hl:0<=l:=by omega
 have hl':l < 100:=by omega
 have hb:0 < b:=by omega
 have hb':b < 100:=by omega
 refine jO rfl ?_
 have h1:=ame (u:=u) (e:=e) (l:=l) (b:=b) a ha
 have h2:ahF [jm u e l b,jh (List.replicate a (u,l))]=some (.int (Ji u e l b a)):=aiO h (by rw [List.length_replicate]; omega) (amd h a)
 have h3:=abU (e:=e) (b:=b) hu hu' hl hl'
 have hf:=ac5 (u:=u) (l:=l) hu' hl'
 have hlen:(j7 u l).length < 1000000:=by simpa [few] using hf
 obtain ⟨y6,y7,lp⟩:=aed (u:=u) (l:=l) (e:=e) (m:=Ji u e l b a) (n:=n) hu' hb hb' (A:=some (.int (a:Int))) (j7 u l) [] none none (fun _ h=>h) (by simpa using hlen)
 show aiF.1 [some (jm u e l b),some (.int (a:Int)),some (.int n),none,none,none,none,none]=_
 simp only [aiF]
 refine (jv (ρ1:=[some (jm u e l b),some (.int (a:Int)),some (.int n),some (.int b),none,none,none,none]) ?_).trans ?_
 ·simp only [zA,op2,lkp,cst,jJ,zzA,zzC,zzD,zzE,ix3,zzF,zzG]
 refine (jv (ρ1:=[some (jm u e l b),some (.int (a:Int)),some (.int n),some (.int b),some (.int (Ji u e l b a)),none,none,none]) ?_).trans ?_
 ·simp only [zA,jM,jr,jF,lkp,jJ,zzA,zzB,zzC,zzD,zzE,h1,h2,zzF,zzG]
 have f0:few ([]:List PyData)=true:=Jc
 simp only [Zk,Q5,jF,f0,zzD,zzM,List.length_cons,List.length_nil,Nat.lt_add_one,zzF,zzG]
 have q:jV (Jn (fun ρ=>itL (jM Jg (jr (lkp 0) jF)) (hid (some 5) ρ)) (jJ 6) ZS.1) (jV (zD (lkp 5)) zh) [some (jm u e l b),some (.int (a:Int)),some (.int n),some (.int b),some (.int (Ji u e l b a)),some (.list []),none,none]=
   some (.rt (.list (((j7 u l).filter (okL e b (Ji u e l b a) n)).map (aec e b n)))):=by
  refine (jv (ρ1:=[some (jm u e l b),some (.int (a:Int)),some (.int n),some (.int b),some (.int (Ji u e l b a)),some (.list ([]++((j7 u l).filter (okL e b (Ji u e l b a) n)).map (aec e b n))),y6,y7]) ?_).trans ?_
  ·simp only [Jn,itL,abj,jM,jr,jF,lkp,hid,zzF,zzG,zzA,zzC,zzD,zzE,h3,lp]
  ·simp only [jV,zD,lkp,zzA,zzB,zzC,zzE,zzD,List.nil_append]
 rw [if_pos (by decide),q]
 rfl
noncomputable def rp (u l:Int):List (Int × Int):=(List.range (u+1).toNat).flatMap fun (i:Nat)=>(List.range (l+1).toNat).map fun (j:Nat)=>((i:Int),(j:Int))
theorem afg (u l:Int):j7 u l=(rp u l).map pr:=by
 simp [j7,zx,zb,rp,List.map_flatMap,List.map_map,Function.comp_def,pr]
theorem ahM {u l:Int}{p:Int × Int} (h:okP u l p=true):p ∈ rp u l:=by
 obtain ⟨q1,q2,q3,q4⟩:=qJ h
 refine List.mem_flatMap.mpr ⟨p.1.toNat,List.mem_range.mpr (by omega),List.mem_map.mpr ⟨p.2.toNat,List.mem_range.mpr (by omega),?_⟩⟩
 exact Prod.ext (by show ((p.1.toNat:Nat):Int)=p.1; omega) (by show ((p.2.toNat:Nat):Int)=p.2; omega)
theorem aoK {u l:Int}{p:Int × Int} (h:p ∈ rp u l):okP u l p=true:=by
 obtain ⟨i,hi,h2⟩:=List.mem_flatMap.mp h
 obtain ⟨j,hj,rfl⟩:=List.mem_map.mp h2
 have:=List.mem_range.mp hi
 have:=List.mem_range.mp hj
 simp only [okP,Bool.and_eq_true,decide_eq_true_eq]
 exact ⟨⟨⟨by omega,by omega⟩,by omega⟩,by omega⟩
theorem apP (u l:Int):(rp u l).length=(j7 u l).length:=by rw [afg,List.length_map]
theorem abM {u e l b:Int} (h:okN u e l b=true):(rp u l).length<=48:=by
 obtain ⟨a1,a2,a3,a4,a5,a6,a7,a8,a9,a10⟩:=qR h
 rw [apP]
 show (zx (u+1).toNat (l+1).toNat).length<=48
 rw [aaR]
 exact Nat.le_trans (Nat.mul_le_mul (show (u+1).toNat<=4 by omega) (show (l+1).toNat<=12 by omega)) (by decide)
noncomputable def okQ (e b M n:Int) (p:Int × Int):Bool:=decide ((n - wt e p) % b=0) && (decide (0<=n - wt e p) && decide (n - wt e p<=b*M))
noncomputable def lps (u e l b:Int) (a:Nat) (n:Int):List ((Int × Int) × Int):=((rp u l).filter (okQ e b (Ji u e l b a) n)).map fun p=>(p,(n - wt e p) / b)
noncomputable def amg (q:(Int × Int) × Int):PyData:= .tuple [pr q.1,.int q.2]
theorem ajZ {u e l b n:Int} (h:okN u e l b=true) (a:Nat) (ha:a < 4):aiG [jm u e l b,.int (a:Int),.int n]=some (.list ((lps u e l b a n).map amg)):=by
 rw [amf h a ha,afg,List.filter_map,List.map_map]
 unfold lps
 rw [List.map_map]
 rfl
theorem aiQ (u e l b:Int) (a:Nat) (n:Int):(lps u e l b a n).length<=(rp u l).length:=by unfold lps; rw [List.length_map]; exact List.length_filter_le _ _
theorem agp {α β:Type} (f:α->List β) (k:Nat) (hf:∀ x,(f x).length<=k):∀ xs:List α,(xs.flatMap f).length<=xs.length*k
 | []=>by simp
 | x::xs=>by
  rw [List.flatMap_cons,List.length_append,List.length_cons,Nat.succ_mul]
  have:=agp f k hf xs
  have:=hf x
  omega
end Rods
namespace BX
open PySem PySem.Spec L2
open PyProof.Rows hiding St
theorem Jj {ga:PyData->Rho->Option Rho}{F:Rho->Option Out} (Iv:Nat->Rho->Prop):∀ (ds:List PyData) (i:Nat) (ρ:Rho),Iv i ρ->
  (∀ j d ρ,ds[j]?=some d->Iv (i+j) ρ->∃ ρ1 ρ2,ga d ρ=some ρ1/\F ρ1=some (.nx ρ2)/\Iv (i+j+1) ρ2)->∃ ρ',jP ga F ds ρ=some (.nx ρ')/\Iv (i+ds.length) ρ'
 | [],i,ρ,h,_=>⟨ρ,rfl,h⟩
 | d::ds,i,ρ,h,hs=>by
  obtain ⟨ρ1,ρ2,h1,h2,h3⟩:=hs 0 d ρ rfl h
  obtain ⟨ρ',h4,h5⟩:=Jj Iv ds (i+1) ρ2 h3 fun j d ρ hd hi=>by
   have:=hs (j+1) d ρ (by simpa using hd) (by rw [show i+(j+1)=i+1+j by omega]; exact hi)
   rw [show i+1+j+1=i+(j+1)+1 by omega]; exact this
  refine ⟨ρ',?_,by rw [List.length_cons,show i+(ds.length+1)=i+1+ds.length by omega]; exact h5⟩
  simp [jP,h1,h2,h4]
theorem QB {n j:Nat}{d:PyData} (h:(zt 0 n)[j]?=some d):j < n/\d= .int j:=by
 simp only [zt,List.getElem?_map] at h
 cases hj:(List.range n)[j]? with
 | none=>rw [hj] at h; cases h
 | some k=>
  rw [hj] at h
  obtain ⟨h1,h2⟩:=List.getElem?_eq_some_iff.mp hj
  simp at h1 h2
  subst h2
  simp at h
  exact ⟨h1,h.symm⟩
theorem QC (n:Nat):(zt 0 n).length=n:=by simp [zt]
end BX
namespace Rods
open PySem L2 BX
open PyProof.Rows hiding St
section
variable {u e l b:Int}
theorem agq (b e:Int) (p:Int × Int) (t:List (Int × Int)):val b e (p::t)=wt e p*b ^ t.length+val b e t:=by
 have key:∀ (t:List (Int × Int)) (acc:Int),t.foldl (fun n p=>n*b+wt e p) acc=acc*b ^ t.length+val b e t:=by
  intro t
  induction t with
  | nil=>intro acc; simp [val]
  | cons q t ih=>
   intro acc
   rw [List.foldl_cons,ih]
   show _=acc*b ^ (q::t).length+(q::t).foldl (fun n p=>n*b+wt e p) 0
   rw [List.foldl_cons,ih,List.length_cons,Int.pow_succ,Int.mul_comm (b ^ t.length) b,←Int.mul_assoc,Int.add_mul,Int.zero_mul,Int.zero_add,Int.add_assoc]
 show (p::t).foldl (fun n p=>n*b+wt e p) 0=_
 rw [List.foldl_cons,key]
 simp
theorem ahN (a:Nat):Ji u e l b (a+1)=Ji u e l b a*b+wt e (u,l):=by
 unfold Ji
 rw [List.replicate_succ']
 exact al9 _ _ _ _
theorem aj0 {r:Nat} (h1:1<=r) (h3:r<=3):aln [.int ((r:Int) - 1),.int (-1),.int (-1)]=some ((List.range r).map fun (j:Nat)=> .int (((r - (j+1):Nat):Int))):=by
 have:r=1 ∨ r=2 ∨ r=3:=by omega
 rcases this with q | q | q <;> subst q <;> rfl
theorem amh {r j:Nat}{d:PyData} (h:((List.range r).map fun (j:Nat)=>PyData.int (((r - (j+1):Nat):Int)))[j]?=some d):j < r/\d= .int (((r - (j+1):Nat):Int)):=by
 rw [List.getElem?_map] at h
 cases hj:(List.range r)[j]? with
 | none=>rw [hj] at h; cases h
 | some k=>
  rw [hj] at h
  obtain ⟨h1,h2⟩:=List.getElem?_eq_some_iff.mp hj
  simp at h1 h2
  subst h2
  simp at h
  exact ⟨h1,h.symm⟩
theorem ahO {n:Nat} (hn:n<=1000):QH [.int (n:Int)]=some (zt 0 n):=by
 have:=Z3 (j:=(n:Int)) (by omega) (by omega)
 rw [show ((n:Int)).toNat=n by omega] at this
 exact this
end
end Rods
namespace Rods
open PySem L2 BX
open PyProof.Rows hiding St
theorem aat (ns:List Int):qU (ns.map PyData.int)=some ns:=by
 have:=ac6 (fun x:Int=>x) ns
 simpa using this
end Rods
namespace Rods
open PySem L2 BX
open PyProof.Rows hiding St
section
variable {u e l b:Int}{ps qs:List (Int × Int)}
theorem aa7 {xs ys:List PyData} (hx:xs ≠ [] ∨ True) (hl:xs.length+ys.length < 10000):zB (.tuple xs) (.tuple ys)=some (.tuple (xs++ys)):=by
 cases xs with
 | nil=>rfl
 | cons x xs=>
  have hf:few ((x::xs)++ys)=true:=zN (by rw [List.length_append]; exact hl)
  show (if few ((x::xs)++ys)=true then some (PyData.tuple ((x::xs)++ys)) else none)=_
  rw [if_pos hf]
theorem apQ {ns:List Int} (hn:ns.length < 1000000) (h:okN u e l b=true) {at_:Int} (ha:0<=at_) {j:Nat} (hj:j < 4) {x3 x4 x7:Option PyData} (hq:qs.length<=4):
  ∃ p,okP u l p=true/\ae3.1 [some (scr ns),some (.int at_),some (jm u e l b),x3,x4,some (jh qs),some (.int (j:Int)),x7]=some (.nx [some (scr ns),some (.int at_),some (jm u e l b),x3,x4,some (jh (qs++[p])),some (.int (j:Int)),some (pr p)]):=by
 obtain ⟨a1,a2,a3,a4,a5,a6,a7,a8,a9,a10⟩:=qR h
 obtain ⟨x,d1,x0,x1⟩:=qj ns hn (at_+1+2*(j:Int)) (u+1) (by omega) (by omega)
 obtain ⟨y,d2,y0,y1⟩:=qj ns hn (at_+2+2*(j:Int)) (l+1) (by omega) (by omega)
 have m1:Qh (.int 2) (.int (j:Int))=some (.int (2*(j:Int))):=qt ⟨by omega,by omega⟩
 have f2:few [PyData.int x,.int y]=true:=zN (by simp)
 have f1:few [PyData.tuple [.int x,.int y]]=true:=zN (by simp)
 have ad:zB (jh qs) (.tuple [.tuple [.int x,.int y]])=some (jh (qs++[(x,y)])):=by
  have:=aa7 (xs:=qs.map pr) (ys:=[pr (x,y)]) (.inr trivial) (by simp; omega)
  rw [show jh (qs++[(x,y)])= .tuple (qs.map pr++[pr (x,y)]) by simp [jh]]
  exact this
 generalize scr ns=S at*
 refine ⟨(x,y),?_,?_⟩
 ·simp only [okP,Bool.and_eq_true,decide_eq_true_eq]
  exact ⟨⟨⟨x0,by omega⟩,y0⟩,by omega⟩
 ·simp only [ae3]
  refine (jv (ρ1:=[some S,some (.int at_),some (jm u e l b),x3,x4,some (jh qs),some (.int (j:Int)),some (.tuple [.int x,.int y])]) ?_).trans ?_
  ·simp only [zA,Qn,jM,jr,jF,op2,lkp,cst,jJ,zzA,zzB,zzC,zzD,zzE,ix0,ix2,m1,add_int,d1,d2,f2,zzM,zzF,zzG]
  simp only [jV,zA,Qn,jr,jF,op2,lkp,jJ,zzA,zzB,zzC,zzD,zzE,f1,zzM,ad,zzF,zzG,zh]
  rfl
theorem ami {ns:List Int} (hn:ns.length < 1000000) (h:okN u e l b=true) {at_:Int} (ha:0<=at_) {mo:Int} (hm1:1<=mo) (hm4:mo<=4):∃ ps,anW [scr ns,.int at_,jm u e l b,.int mo]=some (jh ps)/\okS u l ps=true/\(ps.length:Int)<=mo:=by
 obtain ⟨r,d0,r0,r1⟩:=qj ns hn at_ mo ha (by omega)
 have hr:QH [.int (1+r)]=some (zt 0 (1+r).toNat):=Z3 (by omega) (by omega)
 obtain ⟨ρ',hl,hI⟩:=Jj (ga:=jJ 6) (F:=ae3.1) (fun i ρ=>∃ qs x6 x7,ρ=[some (scr ns),some (.int at_),some (jm u e l b),some (.int mo),some (.int (1+r)),some (jh qs),x6,x7]/\qs.length=i/\qs.all (okP u l)=true) (zt 0 (1+r).toNat) 0
  [some (scr ns),some (.int at_),some (jm u e l b),some (.int mo),some (.int (1+r)),some (jh []),none,none] ⟨[],none,none,rfl,rfl,rfl⟩ (fun j d ρ hd hi=>by
   obtain ⟨hj,rfl⟩:=QB hd
   obtain ⟨qs,x6,x7,rfl,hlen,hall⟩:=hi
   obtain ⟨p,hp,hb⟩:=apQ hn h ha (j:=j) (by omega) (x3:=some (.int mo)) (x4:=some (.int (1+r))) (x7:=x7) (qs:=qs) (by omega)
   exact ⟨_,_,rfl,hb,qs++[p],_,_,rfl,by rw [List.length_append,hlen]; rfl,by rw [List.all_append,hall,List.all_cons,hp]; rfl⟩)
 obtain ⟨qs,x6,x7,rfl,hlen,hall⟩:=hI
 rw [QC,Nat.zero_add] at hlen
 refine ⟨qs,jO rfl ?_,aff (by omega) (by omega) hall,by omega⟩
 generalize scr ns=S at*
 show anV.1 [some S,some (.int at_),some (jm u e l b),some (.int mo),none,none,none,none]=_
 simp only [anV]
 refine (jv (ρ1:=[some S,some (.int at_),some (jm u e l b),some (.int mo),some (.int (1+r)),none,none,none]) ?_).trans ?_
 ·simp only [zA,jM,jr,jF,op2,lkp,cst,jJ,zzA,zzB,zzC,zzD,zzE,d0,add_int,zzF,zzG]
 refine (jv (ρ1:=[some S,some (.int at_),some (jm u e l b),some (.int mo),some (.int (1+r)),some (jh []),none,none]) rfl).trans ?_
 refine (jv (ρ1:=[some S,some (.int at_),some (jm u e l b),some (.int mo),some (.int (1+r)),some (jh qs),x6,x7]) ?_).trans ?_
 ·show (Option.bind (Option.bind _ QH) _)=_
  simp only [jr,jF,lkp,zzA,zzB,zzC,zzD,zzE,hr]
  exact hl
 rfl
theorem afh (i j:Int):dNe (.int i) (.int j)=some (.bool (!decide (i=j))):=by
 have:(i == j)=decide (i=j):=rfl
 simp only [dNe,QV,Z4,and_self,zzM,this]
theorem amj (h:okN u e l b=true) (hp:ps.all (okP u l)=true):val b e ps+2<=2*16 ^ ps.length:=by
 obtain ⟨a1,a2,a3,a4,a5,a6,a7,a8,a9,a10⟩:=qR h
 have key:∀ (ps:List (Int × Int)) (acc:Int),ps.all (okP u l)=true->0<=acc->ps.foldl (fun n p=>n*b+wt e p) acc+2<=(acc+2)*16 ^ ps.length:=by
  intro ps
  induction ps with
  | nil=>intro acc _ h; simp
  | cons p ps ih=>
   intro acc hp h0
   rw [List.all_cons,Bool.and_eq_true] at hp
   have w0:=aiM a3 hp.1
   have w1:=ama a3 a4 a2 a7 hp.1
   have ha:0<=acc*b:=Int.mul_nonneg h0 (by omega)
   have hb2:acc*b<=acc*16:=Int.mul_le_mul_of_nonneg_left a9 h0
   refine Int.le_trans (ih (acc*b+wt e p) hp.2 (by omega)) ?_
   rw [List.length_cons,Int.pow_succ,Int.mul_comm (16 ^ ps.length) 16,←Int.mul_assoc]
   exact Int.mul_le_mul_of_nonneg_right (by omega) (Int.le_of_lt (ac8 (by decide) _))
 have:=key ps 0 hp (by omega)
 simpa [val] using this
theorem Jk {N:List Str}{n:Nat}{F:Rho->Option Str}{ds:List PyData} (hl:ds.length=n):JV N n F ds=F (jN N ds):=by
 unfold JV
 rw [if_pos hl]
end
end Rods
namespace Rods
open PySem L2 BX
open PyProof.Rows hiding St
theorem aqZ (ds:List PyData) (k:Nat):adp ds none (some (k:Int))=ds.take k:=by
 unfold adp
 rw [HT.sIx_none,HT.sIx_nat,List.drop_zero,Nat.sub_zero]
 by_cases h:k<=ds.length
 ·rw [Nat.min_eq_left h]
 ·rw [Nat.min_eq_right (by omega),List.take_of_length_le (by omega),List.take_of_length_le (by omega)]
theorem aiR (ds:List PyData) (k:Nat):adp ds (some (k:Int)) none=ds.drop k:=by
 unfold adp
 rw [HT.sIx_none,HT.sIx_nat]
 by_cases h:k<=ds.length
 ·rw [Nat.min_eq_left h,List.take_of_length_le (by rw [List.length_drop]; omega)]
 ·rw [Nat.min_eq_right (by omega),List.drop_of_length_le (by omega),List.drop_of_length_le (by omega),List.take_nil]
noncomputable def whB (a b:Int):PyData->Bool
 | .int i=>decide (a<=i) && decide (i<=b)
 | _=>false
theorem ZC (d:PyData) (hd:noD d=true) (a b:Int):j5 [d,.int a,.int b]=some (.bool (whB a b d)):=by
 cases d with
 | int i=>exact qQ i a b
 | dict k=>simp [noD] at hd
 | _=>simp [j5,jC,aaQ,jN,jV,ifS,orB,tst,lkp,QK,tyn,asB,zO,chn,Jo,zD,zh,whB,cst]
noncomputable def adu (u l:Int):PyData->Bool
 | .tuple [x,y]=>whB 0 u x && whB 0 l y
 | _=>false
theorem amk {ds:List PyData} (h:noDs ds=true):∀ d ∈ ds,noD d=true:=by
 induction ds with
 | nil=>intro d hd; cases hd
 | cons x xs ih=>
  have h':noD x=true/\noDs xs=true:=by simpa [noDs] using h
  intro d hd
  rcases List.mem_cons.mp hd with rfl | q
  ·exact h'.1
  ·exact ih h'.2 d q
end Rods
namespace Rods
open PySem L2 BX
open PyProof.Rows hiding St
section
variable {u e l b:Int}
theorem aj1 (d:PyData) (hd:noD d=true) (h:∀ x y,d ≠ .tuple [x,y]):Zt [jm u e l b,d]=some (.bool false):=by
 cases d with
 | dict k=>simp [noD] at hd
 | tuple ds=>
  have hl:¬ (ds.length:Int)=2:=fun z=>by
   have z':ds.length=2:=by omega
   match ds,z' with
   | [x,y],_=>exact h x y rfl
  simp [Zt,jC,acT,jN,jV,ifS,orB,zO,tst,QK,tyn,asB,lkp,op2,jM,jr,jF,Jd,cst,dNe,QV,Z4,zh,zD,hl]
 | _=>simp [Zt,jC,acT,jN,jV,ifS,orB,zO,tst,QK,tyn,asB,lkp,op2,jM,jr,jF,Jd,cst,dNe,QV,Z4,zh,zD]
theorem aee (d:PyData) (hd:noD d=true):Zt [jm u e l b,d]=some (.bool (adu u l d)):=by
 by_cases h:∃ x y,d= .tuple [x,y]
 ·obtain ⟨x,y,rfl⟩:=h
  have hx:noD x=true/\noD y=true:=by simpa [noD,noDs] using hd
  have w1:=ZC x hx.1 0 u
  have w2:=ZC y hx.2 0 l
  cases c1:whB 0 u x <;> rw [c1] at w1 <;> simp [Zt,jC,acT,jN,jV,ifS,orB,zO,tst,QK,tyn,asB,lkp,op2,jM,jr,jF,Jd,cst,dNe,QV,Z4,zh,zD,afS,jm,dIx,atI,ixN,w1,w2,adu,c1]
 ·rw [aj1 d hd fun x y z=>h ⟨x,y,z⟩]
  congr 2
  unfold adu
  split
  ·exact absurd ⟨_,_,rfl⟩ h
  ·rfl
noncomputable def Q8 (u l:Int):PyData->Bool
 | .tuple ds=>decide (1<=ds.length) && decide (ds.length<=4) && ds.all (adu u l)
 | _=>false
theorem Z6 (hm:QS [jm u e l b]=some .none) (d:PyData) (hd:noD d=true):abx [jm u e l b,d]=some (.bool (Q8 u l d)):=by
 refine jO rfl ?_
 show acU.1 [some (jm u e l b),some d]=_
 simp only [acU]
 refine (jv (ρ1:=[some (jm u e l b),some d]) ?_).trans ?_
 ·simp only [QG,jM,jr,jF,lkp,zzA,zzB,zzC,zzD,zzE,hm]
 cases d with
 | dict k=>simp [noD] at hd
 | tuple ds=>
  by_cases h1:1<=ds.length
  ·by_cases h4:ds.length<=4
   ·have hf:few ds=true:=zN (by omega)
    have c1:Jo (fun i j=>decide (i<=j)) (.int 1) (.int (ds.length:Int))=some (.bool true):=by
     show some (PyData.bool (decide ((1:Int)<=(ds.length:Int))))=_
     rw [decide_eq_true (by omega)]
    have c2:Jo (fun i j=>decide (i<=j)) (.int (ds.length:Int)) (.int 4)=some (.bool true):=by
     show some (PyData.bool (decide ((ds.length:Int)<=4)))=_
     rw [decide_eq_true (by omega)]
    refine (jv (ρ1:=[some (jm u e l b),some (.tuple ds)]) ?_).trans ?_
    ·simp [ifS,orB,zO,tst,QK,tyn,asB,lkp,chn,jM,jr,jF,Jd,cst,zh,c1,c2]
    simp only [jV,zD,jM,jr,jF,qB,itT,lkp,acD,zzA,zzB,zzC,zzD,zzE,hf,zzM,JS,List.map_cons,List.map_nil,zzH]
    rw [ZI (fun d=> .bool (adu u l d))]
    ·have:bls (ds.map fun d=>PyData.bool (adu u l d))=some (ds.map (adu u l)):=afd (adu u l) _
     simp only [zzE,zzD,ano,this,Q8,decide_eq_true h1,decide_eq_true h4,Bool.true_and,List.all_map,Function.comp_def,id]
    ·intro d hd'
     simp [jM,jr,jF,lkp,aee (e:=e) (b:=b) d (amk (by simpa [noD] using hd) d hd')]
   ·have c1:Jo (fun i j=>decide (i<=j)) (.int 1) (.int (ds.length:Int))=some (.bool true):=by
     show some (PyData.bool (decide ((1:Int)<=(ds.length:Int))))=_
     rw [decide_eq_true (by omega)]
    have c2:Jo (fun i j=>decide (i<=j)) (.int (ds.length:Int)) (.int 4)=some (.bool false):=by
     show some (PyData.bool (decide ((ds.length:Int)<=4)))=_
     rw [decide_eq_false (by omega)]
    simp [jV,ifS,orB,zO,tst,QK,tyn,asB,lkp,chn,jM,jr,jF,Jd,cst,zh,c1,c2,zD,Q8,h4]
  ·have c1:Jo (fun i j=>decide (i<=j)) (.int 1) (.int (ds.length:Int))=some (.bool false):=by
    show some (PyData.bool (decide ((1:Int)<=(ds.length:Int))))=_
    rw [decide_eq_false (by omega)]
   simp [jV,ifS,orB,zO,tst,QK,tyn,asB,lkp,chn,jM,jr,jF,Jd,cst,zh,c1,zD,Q8,h1]
 | _=>simp [jV,ifS,orB,zO,tst,QK,tyn,asB,lkp,chn,jM,jr,jF,cst,zh,zD,Q8]
theorem ahP (hm:QS [jm u e l b]=some .none) (d:PyData) (hd:noD d=true) (hs:Q8 u l d=true):jS [jm u e l b,d]=some .none:=by
 have g:=Z6 (e:=e) hm d hd
 rw [hs] at g
 simp [jS,jC,aaT,jN,jV,ifS,zO,tst,asB,jM,jr,jF,lkp,g,zh]
theorem ahQ (hm:QS [jm u e l b]=some .none) (d:PyData) (hd:noD d=true) (hs:Q8 u l d=false):jS [jm u e l b,d]=none:=by
 have g:=Z6 (e:=e) hm d hd
 rw [hs] at g
 simp [jS,jC,aaT,jN,jV,ifS,zO,tst,asB,jM,jr,jF,lkp,g,aeF]
end
end Rods
namespace Rods
open PySem L2 BX
open PyProof.Rows hiding St
theorem aj2 {d:PyData} (h:j1 [d]=some (.bool false)):QS [d]=none:=by
 simp [QS,jC,aeX,jN,jV,ifS,zO,tst,asB,jM,jr,jF,lkp,h,aeF]
theorem aj3 {d:PyData} (h:j1 [d]=some (.bool false)):ae7 [d]=some ("NoManner":Str):=by
 refine (Jk rfl).trans ?_
 show abG.1 [some d]=_
 simp [abG,ifX,zO,tst,asB,jM,jr,jF,lkp,h]
theorem aj4 {d:PyData} (h:j1 [d]=some (.bool true)):ae7 [d]=none:=by
 refine (Jk rfl).trans ?_
 show abG.1 [some d]=_
 simp [abG,ifX,zO,tst,asB,jM,jr,jF,lkp,h,ajG]
theorem ahR {m d:PyData} (h:j1 [m]=some (.bool false)):abx [m,d]=none:=by
 have g:=aj2 h
 simp [abx,jC,acU,jN,jV,QG,jM,jr,jF,lkp,g]
theorem ahS {m d:PyData} (h:j1 [m]=some (.bool false)):ae8 [m,d]=some ("NoManner":Str):=by
 have g:=aj3 h
 refine (Jk rfl).trans ?_
 show abH.1 [some m,some d]=_
 simp [abH,jM,jr,jF,lkp,g]
theorem aef {m d:PyData} (h:j1 [m]=some (.bool true)):ae8 [m,d]=none:=by
 have g:=aj4 h
 refine (Jk rfl).trans ?_
 show abH.1 [some m,some d]=_
 simp [abH,jM,jr,jF,lkp,g]
theorem agr {m d:PyData} (h:j1 [m]=some (.bool false)):jS [m,d]=none:=by
 have g:=ahR (d:=d) h
 simp [jS,jC,aaT,jN,jV,ifS,zO,tst,asB,jM,jr,jF,lkp,g]
theorem ags {m d:PyData} (h:j1 [m]=some (.bool false)):qf [m,d]=some ("NoManner":Str):=by
 have g:=ahS (d:=d) h
 refine (Jk rfl).trans ?_
 show Qa.1 [some m,some d]=_
 simp [Qa,orX,jM,jr,jF,lkp,g]
theorem ahT {u e l b:Int} (hM:j1 [jm u e l b]=some (.bool true)) {d:PyData} (hd:noD d=true) (hs:Q8 u l d=false):qf [jm u e l b,d]=some ("NoSetting":Str):=by
 have g:=Z6 (e:=e) (Z5 hM) d hd
 rw [hs] at g
 have g2:=aef (d:=d) hM
 refine (Jk rfl).trans ?_
 show Qa.1 [some (jm u e l b),some d]=_
 simp [Qa,orX,ifX,zO,tst,asB,jM,jr,jF,lkp,g,g2]
theorem ahU {u e l b:Int} (hM:j1 [jm u e l b]=some (.bool true)) {d:PyData} (hd:noD d=true) (hs:Q8 u l d=true):qf [jm u e l b,d]=none:=by
 have g:=Z6 (e:=e) (Z5 hM) d hd
 rw [hs] at g
 have g2:=aef (d:=d) hM
 refine (Jk rfl).trans ?_
 show Qa.1 [some (jm u e l b),some d]=_
 simp [Qa,orX,ifX,zO,tst,asB,jM,jr,jF,lkp,g,g2,ajG]
theorem aiS {u l:Int} (p:Int × Int):adu u l (pr p)=okP u l p:=by
 simp [adu,pr,whB,okP,Bool.and_assoc]
theorem aeg {u l:Int} (ps:List (Int × Int)):Q8 u l (jh ps)=okS u l ps:=by
 simp only [Q8,jh,okS,List.length_map,List.all_map]
 congr 2
 funext p
 exact aiS p
theorem aiT:∀ ps:List (Int × Int),noDs (ps.map pr)=true
 | []=>rfl
 | p::ps=>by simp [noDs,noD,pr,aiT ps]
theorem aa8 (ps:List (Int × Int)):noD (jh ps)=true:=by
 simp [noD,jh,aiT]
theorem arH {i j:Int} (h:-1000<=i/\i<=1000):Qh (.int i) (.int j)=some (.int (i*j)):=by
 show (if (-(2 ^ 64) < i/\i < 2 ^ 64) ∨ (-(2 ^ 64) < j/\j < 2 ^ 64) then some (PyData.int (i*j)) else none)=_
 rw [if_pos (.inl ⟨by omega,by omega⟩)]
theorem arI {i j:Int} (h:-1000<=j/\j<=1000):Qh (.int i) (.int j)=some (.int (i*j)):=by
 show (if (-(2 ^ 64) < i/\i < 2 ^ 64) ∨ (-(2 ^ 64) < j/\j < 2 ^ 64) then some (PyData.int (i*j)) else none)=_
 rw [if_pos (.inr ⟨by omega,by omega⟩)]
end Rods
namespace Rods
open PySem L2 BX
open PyProof.Rows hiding St
section
variable {u e l b:Int}
theorem abV (h:okN u e l b=true) {S:PyData}:∀ (qs:List (Int × Int)) (acc:Int) (x y:Option PyData),
  ∃ x' y',jP (JR 2 (jR (jJ 3) (jR (jJ 4) zi))) aaZ.1 (qs.map pr) [some (jm u e l b),some S,some (.int acc),x,y]=some (.nx [some (jm u e l b),some S,some (.int (qs.foldl (fun n p=>n*b+wt e p) acc)),x',y'])
 | [],acc,x,y=>⟨x,y,rfl⟩
 | q::qs,acc,x,y=>by
  obtain ⟨a1,a2,a3,a4,a5,a6,a7,a8,a9,a10⟩:=qR h
  have m1:Qh (.int b) (.int acc)=some (.int (b*acc)):=arH (by omega)
  have m2:Qh (.int q.1) (.int e)=some (.int (q.1*e)):=arI (by omega)
  have step:aaZ.1 [some (jm u e l b),some S,some (.int acc),some (.int q.1),some (.int q.2)]=some (.nx [some (jm u e l b),some S,some (.int (acc*b+wt e q)),some (.int q.1),some (.int q.2)]):=by
   have:acc*b+wt e q=b*acc+q.1*e+q.2:=by unfold wt; rw [Int.mul_comm acc b]; omega
   rw [this]
   simp only [aaZ,jV,zA,op2,lkp,cst,jJ,zzA,zzB,zzC,zzD,zzE,ix3,ix1,m1,m2,add_int,zzF,zzG,zh]
  obtain ⟨x',y',hy⟩:=abV h (S:=S) qs (acc*b+wt e q) (some (.int q.1)) (some (.int q.2))
  refine ⟨x',y',?_⟩
  rw [List.map_cons]
  have ga:JR 2 (jR (jJ 3) (jR (jJ 4) zi)) (pr q) [some (jm u e l b),some S,some (.int acc),x,y]=some [some (jm u e l b),some S,some (.int acc),some (.int q.1),some (.int q.2)]:=rfl
  simp only [jP,ga,zzD,step]
  exact hy
theorem QW (h:okN u e l b=true) (ps:List (Int × Int)):Jw [jm u e l b,jh ps]=some (.int (val b e ps)):=by
 obtain ⟨x',y',hy⟩:=abV h (S:=jh ps) ps 0 none none
 refine jO rfl ?_
 show ack.1 [some (jm u e l b),some (jh ps),none,none,none]=_
 simp only [ack]
 refine (jv (ρ1:=[some (jm u e l b),some (jh ps),some (.int 0),none,none]) rfl).trans ?_
 refine (jv (ρ1:=[some (jm u e l b),some (jh ps),some (.int (val b e ps)),x',y']) ?_).trans rfl
 show (itS (lkp 1) _).bind _=_
 rw [show itS (lkp 1) [some (jm u e l b),some (jh ps),some (.int 0),none,none]=some (ps.map pr) from rfl]
 exact hy
theorem an3 (i n:Nat):(zt 0 n).map (fun d=>PyData.tuple [.int (i:Int),d])=zb i n:=by
 simp [zt,zb]
theorem aeh (hu:0<=u) (hu':u < 50) (hl:0<=l) (hl':l < 50):ac1 [jm u e l b]=some (.list (j7 u l)):=by
 have r1:QH [.int (u+1)]=some (zt 0 (u+1).toNat):=Z3 (by omega) (by omega)
 have r2:QH [.int (l+1)]=some (zt 0 (l+1).toNat):=Z3 (by omega) (by omega)
 have f2:few (zt 0 (l+1).toNat)=true:=zN (by simp [zt]; omega)
 obtain ⟨ρ',hl1,hI⟩:=Jj (ga:=jJ 2) (F:=ae9.1) (fun i ρ=>i<=(u+1).toNat->∃ x,ρ=[some (jm u e l b),some (.list (zx i (l+1).toNat)),x]) (zt 0 (u+1).toNat) 0 [some (jm u e l b),some (.list []),none] (fun _=>⟨none,rfl⟩) (fun j d ρ hd hi=>by
  obtain ⟨hj,rfl⟩:=QB hd
  rw [Nat.zero_add] at hi ⊢
  obtain ⟨x,rfl⟩:=hi (by omega)
  have cm:jX (jJ 0) Zc (Qn (jr (lkp 1) (jr (lkp 0) jF))) (zt 0 (l+1).toNat) [none,some (.int (j:Int))]=some (zb j (l+1).toNat):=by
   rw [ZI (fun d=>PyData.tuple [.int (j:Int),d]),an3]
   intro d hd
   have f1:few [PyData.int (j:Int),d]=true:=zN (by simp)
   simp only [Qn,jr,jF,lkp,zzG,zzA,zzB,zzC,zzD,zzE,f1,zzM]
  have ad:zB (.list (zx j (l+1).toNat)) (.list (zb j (l+1).toNat))=some (.list (zx (j+1) (l+1).toNat)):=by
   rw [QQ]
   show (if few (zx j (l+1).toNat++zb j (l+1).toNat)=true then some (PyData.list (zx j (l+1).toNat++zb j (l+1).toNat)) else none)=_
   rw [if_pos]
   refine zN ?_
   rw [List.length_append,aaR,aeV]
   have:j*(l+1).toNat<=50*50:=Nat.mul_le_mul (by omega) (by omega)
   omega
  refine ⟨_,_,rfl,?_,fun _=>⟨some (.int (j:Int)),rfl⟩⟩
  simp only [ae9,jV,zA,op2,qB,lkp,cst,jr,jF,jJ,JS,List.map_cons,List.map_nil,zzA,zzB,zzC,zzD,zzH,zzE,ix2,add_int,r2,f2,zzM,cm,ad,zzF,zzG,zh])
 rw [QC,Nat.zero_add] at hI
 obtain ⟨x,rfl⟩:=hI (Nat.le_refl _)
 refine jO rfl ?_
 show afa.1 [some (jm u e l b),none,none]=_
 simp only [afa]
 refine (jv (ρ1:=[some (jm u e l b),some (.list []),none]) rfl).trans ?_
 refine (jv (ρ1:=[some (jm u e l b),some (.list (zx (u+1).toNat (l+1).toNat)),x]) ?_).trans rfl
 simp only [Jn,jr,jF,op2,lkp,cst,zzA,zzB,zzC,zzD,zzE,ix0,add_int,r1]
 exact hl1
theorem agt {ft:Rho->Option Bool}{fe:Rho->Option PyData} (t:Int × Int->Bool) (g:Int × Int->PyData) {τ:Rho} (h1:∀ p,ft (some (pr p)::τ)=some (t p)) (h2:∀ p,fe (some (pr p)::τ)=some (g p)):∀ (ps:List (Int × Int)) (x:Option PyData),jX (jJ 0) ft fe (ps.map pr) (x::τ)=some ((ps.filter t).map g)
 | [],x=>rfl
 | p::ps,x=>by
  have ih:=agt t g h1 h2 ps (some (pr p))
  simp only [List.map_cons,jX,jJ,zzD,zzG,h1,h2,ih]
  by_cases hp:t p=true
  ·simp [hp,List.filter_cons]
  ·simp [hp,List.filter_cons]
end
end Rods
namespace Rods
open PySem L2 BX
open PyProof.Rows hiding St
theorem zg {N:List Str}{n:Nat}{F:Rho->Option Str}{ds:List PyData}{c:Option Str} (hl:ds.length=n) (h:F (jN N ds)=c):JV N n F ds=c:=(Jk hl).trans h
end Rods
namespace Rods
open PySem L2 BX
open PyProof.Rows hiding St
section
variable {u e l b:Int}{ps qs:List (Int × Int)}
theorem aml (H:QA=true) (h:okN u e l b=true) {d:PyData} (hd:noD d=true) (hs:Q8 u l d=false):jS [jm u e l b,d]=none/\qf [jm u e l b,d]=some ("NoSetting":Str):=by
 have hM:=apN H h
 exact ⟨ahQ (Z5 hM) _ hd hs,ahT hM hd hs⟩
end
end Rods
namespace Rods
open PySem L2 BX
open PyProof.Rows hiding St
theorem apR {d:PyData} (hd:noD d=true) (w:whB 0 99999 d=false):zr [d]=none/\ZY [d]=some ("NoNumber":Str):=by
 have gw:=ZC d hd 0 99999
 rw [w] at gw
 constructor
 ·simp [zr,jC,acd,jN,jV,ifS,zO,tst,asB,cst,jM,jr,jF,lkp,gw,aeF]
 ·refine zg rfl ?_
  show aci.1 [some d]=_
  simp [aci,orX,ifX,zO,tst,asB,cst,jM,jr,jF,lkp,gw]
theorem ahV {ds:List PyData} (h:ds.length < 50):few ds=true:=zN (by omega)
theorem fw1 {a:PyData}:few [a]=true:=ahV (by simp)
theorem fw2 {a b:PyData}:few [a,b]=true:=ahV (by simp)
theorem fw3 {a b c:PyData}:few [a,b,c]=true:=ahV (by simp)
theorem fw4 {a b c d:PyData}:few [a,b,c,d]=true:=ahV (by simp)
theorem fw5 {a b c d e:PyData}:few [a,b,c,d,e]=true:=ahV (by simp)
theorem ng1:afL (.int 1)=some (.int (-1)):=rfl
noncomputable def shl (n:Nat) (d:PyData):Prop:=d.canLay0=true/\d.depth<=n
theorem aco {ds:List PyData}:PyData.canLayAll0 ds=true ↔ ∀ d ∈ ds,d.canLay0=true:=by
 induction ds with
 | nil=>simp [PyData.canLayAll0]
 | cons x xs ih=>simp [PyData.canLayAll0,ih]
theorem acp {ds:List PyData}{n:Nat}:PyData.depthAll ds<=n ↔ ∀ d ∈ ds,d.depth<=n:=by
 induction ds with
 | nil=>simp [PyData.depthAll]
 | cons x xs ih=>simp only [PyData.depthAll,List.mem_cons,forall_eq_or_imp,←ih]; omega
theorem acq {n:Nat}{ds:List PyData}:shl (n+1) (.tuple ds) ↔ ∀ d ∈ ds,shl n d:=by
 constructor
 ·rintro ⟨h1,h2⟩ d hd
  refine ⟨aco.mp (by simpa [PyData.canLay0] using h1) d hd,acp.mp ?_ d hd⟩
  simp only [PyData.depth] at h2; omega
 ·intro h
  refine ⟨by simp only [PyData.canLay0]; exact aco.mpr fun d hd=>(h d hd).1,?_⟩
  have:=acp.mpr fun d hd=>(h d hd).2
  simp only [PyData.depth]; omega
theorem afi {n:Nat}{ds:List PyData}:shl (n+1) (.list ds) ↔ ∀ d ∈ ds,shl n d:=by
 constructor
 ·rintro ⟨h1,h2⟩ d hd
  refine ⟨aco.mp (by simpa [PyData.canLay0] using h1) d hd,acp.mp ?_ d hd⟩
  simp only [PyData.depth] at h2; omega
 ·intro h
  refine ⟨by simp only [PyData.canLay0]; exact aco.mpr fun d hd=>(h d hd).1,?_⟩
  have:=acp.mpr fun d hd=>(h d hd).2
  simp only [PyData.depth]; omega
theorem amm {n:Nat}{d:PyData} (h:shl n d) (hn:n < 30):okD d=true:=by
 unfold okD
 rw [h.1,decide_eq_true (show d.depth < 30 by have:=h.2; omega)]; rfl
theorem aa9 (i:Int):shl 1 (.int i):=⟨rfl,by simp [PyData.depth]⟩
theorem apS (p:Int × Int):shl 2 (pr p):=acq.mpr fun d hd=>by
 simp only [List.mem_cons,List.not_mem_nil,or_false] at hd
 rcases hd with rfl | rfl <;> exact aa9 _
theorem an4 (ps:List (Int × Int)):shl 3 (jh ps):=acq.mpr fun d hd=>by
 obtain ⟨p,_,rfl⟩:=List.mem_map.mp hd
 exact apS p
theorem apT {ds:List PyData}{k:Int} (h0:0<=k) (hk:k < ds.length) (hl:ds.length < 9999):∃ v,dIx (.list ds) (.int k)=some v/\v ∈ ds:=by
 have hlt:k.toNat < ds.length:=by omega
 refine ⟨ds[k.toNat],?_,List.getElem_mem _⟩
 have e1:ixN ds.length k=some k.toNat:=ahJ h0 hlt
 show (if ds.length < 1000000 then atI ds k else none)=_
 rw [if_pos (by omega)]
 unfold atI
 rw [e1]
 show ds[k.toNat]?=_
 rw [List.getElem?_eq_getElem hlt]
theorem aba {ps:List (Int × Int)}{i:Nat}{p:Int × Int} (h4:ps.length<=4) (hd:ps[i]?=some p):dIx (jh ps) (.int (i:Int))=some (pr p):=by
 have hi:i < ps.length:=(List.getElem?_eq_some_iff.mp hd).1
 show (if (ps.map pr).length < 1000000 then atI (ps.map pr) (i:Int) else none)=_
 rw [if_pos (by rw [List.length_map]; omega)]
 unfold atI
 rw [ahJ (by omega) (by rw [List.length_map]; simpa using hi),zzD,List.getElem?_map]
 rw [show ((i:Int)).toNat=i by simp,hd]; rfl
noncomputable def shP (p:Int × Int) (k:Bool) (c:Int):Int × Int:=if k=true then (p.1,p.2+c) else (p.1+c,p.2)
theorem arJ {x y z:PyData}:dIx (.tuple [x,y,z]) (.int 0)=some x:=rfl
theorem arK {x y z:PyData}:dIx (.tuple [x,y,z]) (.int 1)=some y:=rfl
theorem arL {x y z:PyData}:dIx (.tuple [x,y,z]) (.int 2)=some z:=rfl
theorem lnt {x y z:PyData}:Jd [.tuple [x,y,z]]=some (.int 3):=rfl
theorem itt {xs:List PyData}:ab3 "tuple" (.tuple xs)=some (.bool true):=rfl
theorem an5:dNe (.int 3) (.int 3)=some (.bool false):=by kernel_rfl
theorem aq0 (k:Bool):dIn true (qC k) (.tuple [.str "upper",.str "lower"])=some (.bool false):=by cases k <;> kernel_rfl
theorem an6 {c:Int} (hc:c=1 ∨ c=-1):j5 [.int c,.int (-1),.int 1]=some (.bool true)/\dNe (.int c) (.int 0)=some (.bool true)/\dIn true (.int c) (.tuple [.int 1,.int (-1)])=some (.bool false)/\ab3 "bool" (.int c)=some (.bool false):=by
 rcases hc with rfl | rfl <;> exact ⟨by kernel_rfl,by kernel_rfl,by kernel_rfl,rfl⟩
end Rods
namespace Rods
open PySem L2 BX
open PyProof.Rows hiding St
section
variable {u e l b:Int}{ps:List (Int × Int)}
theorem amn (x y z:PyData) {X Y Z N:Bool} (ln:Jd [jh ps]=some (.int (ps.length:Int))) (wx:j5 [x,.int 0,.int ((ps.length:Int) - 1)]=some (.bool X)) (iy:X=true->dIn true y (.tuple [.str "upper",.str "lower"])=some (.bool !Y)) (wz:X=true->Y=true->j5 [z,.int (-1),.int 1]=some (.bool Z)) (nz:X=true->Y=true->Z=true->dNe z (.int 0)=some (.bool N)):JZ [jh ps,.tuple [x,y,z]]=some (.bool (X && Y && Z && N)):=by
 have sb:aaa (.int (ps.length:Int)) (.int 1)=some (.int ((ps.length:Int) - 1)):=rfl
 have e0:=arJ (x:=x) (y:=y) (z:=z)
 have e1:=arK (x:=x) (y:=y) (z:=z)
 have e2:=arL (x:=x) (y:=y) (z:=z)
 have e3:=lnt (x:=x) (y:=y) (z:=z)
 have e4:=itt (xs:=[x,y,z])
 generalize PyData.tuple [x,y,z]=D at*
 generalize (ps.length:Int)=n at*
 refine jO rfl ?_
 show zc.1 [some (jh ps),some D]=_
 cases X with
 | false=>dsimp? [zc,e0,e3,e4,an5,ln,sb,wx,Bool.false_and]
 | true=>
  have iy:=iy rfl
  cases Y with
  | false=>dsimp? [zc,e0,e1,e3,e4,an5,ln,sb,wx,iy,Bool.false_and,Bool.true_and]
  | true=>
   have wz:=wz rfl rfl
   cases Z with
   | false=>dsimp? [zc,afS,e0,e1,e2,e3,e4,an5,ln,sb,wx,iy,wz,ng1,Bool.false_and,Bool.true_and]
   | true=>
    have nz:=nz rfl rfl rfl
    dsimp? [zc,afS,e0,e1,e2,e3,e4,an5,ln,sb,wx,iy,wz,nz,ng1,Bool.false_and,Bool.true_and]
theorem arM {r:Nat} (hr:r < ps.length):j5 [.int (r:Int),.int 0,.int ((ps.length:Int) - 1)]=some (.bool true):=by
 rw [qQ,decide_eq_true (by omega),decide_eq_true (by omega)]; rfl
end
end Rods
namespace Rods
open PySem L2 BX
open PyProof.Rows hiding St
theorem aei (p:Int × Int) (k:Bool) (c:Int):ach [pr p,qC k,.int c]=some (pr (shP p k c)):=by
 have i0:dIx (pr p) (.int 0)=some (.int p.1):=rfl
 have i1:dIx (pr p) (.int 1)=some (.int p.2):=rfl
 have a1:zB (.int p.1) (.int c)=some (.int (p.1+c)):=rfl
 have a2:zB (.int p.2) (.int c)=some (.int (p.2+c)):=rfl
 refine jO rfl ?_
 show aaV.1 [some (pr p),some (qC k),some (.int c)]=_
 cases k with
 | false=>
  have q:dEq (qC false) (.str "upper")=some (.bool true):=by kernel_rfl
  dsimp? [aaV,q,i0,i1,a1,fw2]
  rfl
 | true=>
  have q:dEq (qC true) (.str "upper")=some (.bool false):=by kernel_rfl
  dsimp? [aaV,q,i0,i1,a2,fw2]
  rfl
theorem aej {α:Type}:∀ (ps:List α) (r:Nat) (q:α),r < ps.length->ps.set r q=ps.take r++[q]++ps.drop (r+1)
 | [],r,q,h=>by simp at h
 | p::ps,0,q,h=>rfl
 | p::ps,r+1,q,h=>by
  simp only [zzF,List.take_succ_cons,List.drop_succ_cons,List.cons_append]
  rw [aej ps r q (by simpa using h)]
end Rods
namespace Rods
open PySem L2 BX
open PyProof.Rows hiding St
section
variable {u e l b:Int}{ps:List (Int × Int)}
theorem aq1 {r:Nat} (hr:r < ps.length) (h4:ps.length<=4) (q:Int × Int):∃ A1 A2 A3,ads (jh ps) none (some (r:Int))=some A1/\zB A1 (.tuple [pr q])=some A2/\ads (jh ps) (some ((r:Int)+1)) none=some A3/\zB A2 A3=some (jh (ps.set r q)):=by
 refine ⟨.tuple ((ps.map pr).take r),.tuple ((ps.map pr).take r++[pr q]),.tuple ((ps.map pr).drop (r+1)),?_,?_,?_,?_⟩
 ·show some (PyData.tuple (adp _ none (some (r:Int))))=_
  rw [aqZ]
 ·exact aa7 (.inr trivial) (by rw [List.length_take,List.length_map]; simp; omega)
 ·show some (PyData.tuple (adp _ (some ((r:Int)+1)) none))=_
  rw [show (r:Int)+1=((r+1:Nat):Int) by omega,aiR]
 ·rw [aa7 (.inr trivial) (by rw [List.length_append,List.length_take,List.length_drop,List.length_map]; simp only [List.length_cons,List.length_nil]; omega),aej ps r q hr]
  show some (PyData.tuple _)=some (PyData.tuple (List.map pr _))
  rw [List.map_append,List.map_append,List.map_take,List.map_drop]; rfl
theorem an7 (hs:okS u l ps=true) (r:Nat) {q:Int × Int} (hq:okP u l q=true):okS u l (ps.set r q)=true:=by
 obtain ⟨h1,h4,hp⟩:=ql hs
 refine aff (by rw [List.length_set]; exact h1) (by rw [List.length_set]; exact h4) (List.all_eq_true.mpr fun x hx=>?_)
 rcases List.mem_or_eq_of_mem_set hx with z | rfl
 ·exact List.all_eq_true.mp hp x z
 ·exact hq
end
end Rods
namespace Rods
open PySem L2 BX
open PyProof.Rows hiding St
structure Th (u e l b:Int) (ps:List (Int × Int)) (d:PyData) (o:Option (List (Int × Int))):Prop where
 cm:Zv [jm u e l b,jh ps,d]=some (.bool o.isSome)
 bm:∀ qs,o=some qs->zy [jh ps,d]=some (jh qs)/\okS u l qs=true
end Rods
namespace Rods
open PySem L2 BX
open PyProof.Rows hiding St
section
variable {u e l b:Int}{ps:List (Int × Int)}
theorem agu (hs:okS u l ps=true) {r:Nat}{p:Int × Int} (hp:ps[r]?=some p) (k:Bool) {c:Int} (hc:c=1 ∨ c=-1):Th u e l b ps (mv (r:Int) k c) (if okP u l (shP p k c)=true then some (ps.set r (shP p k c)) else none):=by
 obtain ⟨h1,h4,hall⟩:=ql hs
 obtain ⟨hr,hpe⟩:=List.getElem?_eq_some_iff.mp hp
 have hpo:okP u l p=true:=List.all_eq_true.mp hall p (by rw [←hpe]; exact List.getElem_mem _)
 have hpo':0<=p.1/\p.1<=u/\0<=p.2/\p.2<=l:=by simp only [okP,Bool.and_eq_true,decide_eq_true_eq] at hpo; omega
 obtain ⟨f1,f2,f3,f4⟩:=an6 hc
 have ixT:=aba h4 hp
 have k1:=amn (X:=true) (Y:=true) (Z:=true) (N:=true) (.int (r:Int)) (qC k) (.int c) (zo ps) (arM hr) (fun _=>aq0 k) (fun _ _=>f1) (fun _ _ _=>f2)
 obtain ⟨A1,A2,A3,s1,s2,s3,s4⟩:=aq1 hr h4 (shP p k c)
 have gr:=aee (u:=u) (e:=e) (l:=l) (b:=b) (pr (shP p k c)) rfl
 rw [aiS] at gr
 refine ⟨?_,fun qs z=>?_⟩
 ·have e0:dIx (mv (r:Int) k c) (.int 0)=some (.int (r:Int)):=rfl
  have e1:dIx (mv (r:Int) k c) (.int 1)=some (qC k):=rfl
  have e2:dIx (mv (r:Int) k c) (.int 2)=some (.int c):=rfl
  have pu:=aei p k c
  have k1':JZ [jh ps,mv (r:Int) k c]=some (.bool true):=k1
  have io:(if okP u l (shP p k c)=true then some (ps.set r (shP p k c)) else none).isSome=okP u l (shP p k c):=by split <;> simp_all
  rw [io]
  generalize mv (r:Int) k c=D at*
  generalize okP u l (shP p k c)=OK at*
  generalize pr (shP p k c)=Q at*
  refine jO rfl ?_
  show aaX.1 [some (jm u e l b),some (jh ps),some D]=_
  dsimp? [aaX,k1',e0,e1,e2,ixT,pu,gr]
 ·by_cases ho:okP u l (shP p k c)=true
  ·rw [if_pos ho] at z
   cases z
   refine ⟨?_,an7 hs r ho⟩
   have e0:dIx (mv (r:Int) k c) (.int 0)=some (.int (r:Int)):=rfl
   have e1:dIx (mv (r:Int) k c) (.int 1)=some (qC k):=rfl
   have e2:dIx (mv (r:Int) k c) (.int 2)=some (.int c):=rfl
   have a1:zB (.int (r:Int)) (.int 1)=some (.int ((r:Int)+1)):=rfl
   have pu:=aei p k c
   generalize mv (r:Int) k c=D at*
   generalize pr (shP p k c)=Q at*
   generalize jh (ps.set r (shP p k c))=R at*
   refine jO rfl ?_
   show J9.1 [some (jh ps),some D,none]=_
   dsimp? [J9,acQ,JW,inI,e0,e1,e2,a1,ixT,pu,s1,fw1,s2,s3,s4]
  ·rw [if_neg ho] at z; cases z
theorem aek (H:QA=true) (h:okN u e l b=true) (hs:okS u l ps=true):jS [jm u e l b,jh ps]=some .none/\True:=by
 have hM:=apN H h
 have hb:Q8 u l (jh ps)=true:=by rw [aeg]; exact hs
 exact ⟨ahP (Z5 hM) _ (aa8 ps) hb,trivial⟩
end
end Rods
namespace Rods
open PySem L2 BX
open PyProof.Rows hiding St
noncomputable def tM (M T d:PyData):Bool:=match Zv [M,T,d] with
 | some (.bool x)=>x
 | _=>false
noncomputable def c4 (r:Nat):List PyData:=[mv (r:Int) false 1,mv (r:Int) false (-1),mv (r:Int) true 1,mv (r:Int) true (-1)]
noncomputable def ahW (M T:PyData) (r:Nat):List PyData:=(c4 r).filter (tM M T)
noncomputable def ab6 (M T:PyData) (n:Nat):List PyData:=(List.range n).flatMap (ahW M T)
theorem ael (M T:PyData) (k:Nat):ab6 M T (k+1)=ab6 M T k++ahW M T k:=by
 unfold ab6
 rw [List.range_succ,List.flatMap_append]
 simp
theorem amo (M T:PyData) (r:Nat):(ahW M T r).length<=4:=List.length_filter_le _ _
theorem ac9 (M T:PyData):∀ n:Nat,(ab6 M T n).length<=4*n
 | 0=>by simp [ab6]
 | n+1=>by
  rw [ael,List.length_append]
  have:=amo M T n
  have:=ac9 M T n
  omega
theorem amp {u e l b:Int}{ps:List (Int × Int)}{d:PyData}{o:Option (List (Int × Int))} (t:Th u e l b ps d o):tM (jm u e l b) (jh ps) d=o.isSome:=by
 unfold tM
 rw [t.cm]
end Rods
namespace Rods
open PySem L2 BX
open PyProof.Rows hiding St
section
variable {u e l b:Int}{ps:List (Int × Int)}
theorem aoL (hs:okS u l ps=true) {r:Nat} (hr:r < ps.length):∀ d ∈ c4 r,∃ o,Th u e l b ps d o:=fun d hd=>by
 have hp:ps[r]?=some ps[r]:=List.getElem?_eq_getElem hr
 simp only [c4,List.mem_cons,List.not_mem_nil,or_false] at hd
 rcases hd with rfl | rfl | rfl | rfl
 ·exact ⟨_,agu hs hp false (.inl rfl)⟩
 ·exact ⟨_,agu hs hp false (.inr rfl)⟩
 ·exact ⟨_,agu hs hp true (.inl rfl)⟩
 ·exact ⟨_,agu hs hp true (.inr rfl)⟩
theorem agv (hs:okS u l ps=true) {n:Nat} (hn:n<=ps.length) {d:PyData} (hd:d ∈ ab6 (jm u e l b) (jh ps) n):(∃ qs,Th u e l b ps d (some qs))/\noL d=true/\shl 2 d:=by
 obtain ⟨r,hr,hm⟩:=List.mem_flatMap.mp hd
 obtain ⟨h1,h2⟩:=List.mem_filter.mp hm
 obtain ⟨o,t⟩:=aoL (e:=e) (b:=b) hs (show r < ps.length by have:=List.mem_range.mp hr; omega) d h1
 rw [amp t] at h2
 refine ⟨?_,?_⟩
 ·cases o with
  | none=>cases h2
  | some qs=>exact ⟨qs,t⟩
 ·simp only [c4,List.mem_cons,List.not_mem_nil,or_false] at h1
  rcases h1 with rfl | rfl | rfl | rfl
  all_goals exact ⟨by kernel_rfl,acq.mpr fun x hx=>by
   simp only [List.mem_cons,List.not_mem_nil,or_false] at hx
   rcases hx with rfl | rfl | rfl
   ·exact aa9 _
   ·exact ⟨by kernel_rfl,by simp [qC,PyData.depth]⟩
   ·exact aa9 _⟩
theorem aiU (hs:okS u l ps=true) {r:Nat} (hr:r < ps.length) {F:List PyData} (hF:F.length < 1000) (k:Bool) {x:Option PyData}:∃ y,aao.1 [some (jm u e l b),some (jh ps),some (.list F),some (.int (r:Int)),some (qC k),x]=some (.nx [some (jm u e l b),some (jh ps),some (.list (F++[mv (r:Int) k 1,mv (r:Int) k (-1)].filter (tM (jm u e l b) (jh ps)))),some (.int (r:Int)),some (qC k),y]):=by
 refine ⟨some (.list [mv (r:Int) k 1,mv (r:Int) k (-1)]),?_⟩
 have hin:∀ d ∈ [mv (r:Int) k 1,mv (r:Int) k (-1)],d ∈ c4 r:=fun d hd=>by
  simp only [List.mem_cons,List.not_mem_nil,or_false] at hd
  cases k <;> rcases hd with rfl | rfl <;> simp [c4]
 have cp:=aaD (ft:=tst (jM Zv (jr (lkp 1) (jr (lkp 2) (jr (lkp 0) jF))))) (fe:=lkp 0) (i:=0) (tM (jm u e l b) (jh ps)) id [mv (r:Int) k 1,mv (r:Int) k (-1)] [none,some (jm u e l b),some (jh ps)] (fun d hd=>by
   obtain ⟨o,t⟩:=aoL (e:=e) (b:=b) hs hr d (hin d hd)
   have cm:=t.cm
   rw [amp t]
   dsimp? [cm]) (fun d hd _=>by dsimp? [id])
 rw [List.map_id] at cp
 have w1:jX (jJ 0) Zc (Qn (jr (lkp 1) (jr (lkp 2) (jr (lkp 0) jF)))) [.int 1,.int (-1)] [none,some (.int (r:Int)),some (qC k)]=some [mv (r:Int) k 1,mv (r:Int) k (-1)]:=by
  dsimp? [jX,Zc,fw3]
  rfl
 have el:als (some (.list F)) (some (.list ([mv (r:Int) k 1,mv (r:Int) k (-1)].filter (tM (jm u e l b) (jh ps)))))=some (.list (F++[mv (r:Int) k 1,mv (r:Int) k (-1)].filter (tM (jm u e l b) (jh ps)))):=by
  have hl:([mv (r:Int) k 1,mv (r:Int) k (-1)].filter (tM (jm u e l b) (jh ps))).length<=2:=List.length_filter_le _ _
  have hn:noLs ([mv (r:Int) k 1,mv (r:Int) k (-1)].filter (tM (jm u e l b) (jh ps)))=true:=Zi fun d hd=>by
   have:=(List.mem_filter.mp hd).1
   simp only [List.mem_cons,List.not_mem_nil,or_false] at this
   rcases this with rfl | rfl <;> rfl
  show (if _/\_ then _ else _)=_
  rw [if_pos ⟨hn,by omega⟩]
 have iw:items (.tuple [.int 1,.int (-1)])=some [.int 1,.int (-1)]:=rfl
 simp only [aao]
 refine (jv (ρ1:=[some (jm u e l b),some (jh ps),some (.list F),some (.int (r:Int)),some (qC k),some (.list [mv (r:Int) k 1,mv (r:Int) k (-1)])]) ?_).trans ?_
 ·dsimp? [brw,hid,okB,Q6,aaH,aab,qB,itS,iw,JS,List.map_cons,List.map_nil,fw2]
  try simp only [jV,ifS,ifD,ifX,adl,orB,zO,tst,op2,chn,jM,Qn,Q5,jr,jF,lkp,cst,zD,QG,zA,jJ,zh,nxX,orX,ajG,aeF,asB,zzA,zzB,zzC,zzD,zzH,zzE,zzI,zzF,zzG,zzJ,zzK,zzL,zzM,zzN] at w1
  dsimp? [w1]
 have it:items (.list [mv (r:Int) k 1,mv (r:Int) k (-1)])=some [mv (r:Int) k 1,mv (r:Int) k (-1)]:=rfl
 have f2:few [mv (r:Int) k 1,mv (r:Int) k (-1)]=true:=fw2
 generalize [mv (r:Int) k 1,mv (r:Int) k (-1)]=TWO at*
 generalize PyData.list TWO=C at*
 try simp only [jV,ifS,ifD,ifX,adl,orB,zO,tst,op2,chn,jM,Qn,Q5,jr,jF,lkp,cst,zD,QG,zA,jJ,zh,nxX,orX,ajG,aeF,asB,zzA,zzB,zzC,zzD,zzH,zzE,zzI,zzF,zzG,zzJ,zzK,zzL,zzM,zzN] at cp
 dsimp? [brw,hid,okB,Q6,aaH,aab,qB,itS,it,JS,List.map_cons,List.map_nil,f2,cp,el]
theorem an8 (hs:okS u l ps=true) {r:Nat} (hr:r < ps.length) {F:List PyData} (hF:F.length < 900) {x4 x5:Option PyData}:∃ y4 y5,JJ.1 [some (jm u e l b),some (jh ps),some (.list F),some (.int (r:Int)),x4,x5]=some (.nx [some (jm u e l b),some (jh ps),some (.list (F++ahW (jm u e l b) (jh ps) r)),some (.int (r:Int)),y4,y5]):=by
 obtain ⟨y,s1⟩:=aiU (e:=e) (b:=b) hs hr (F:=F) (by omega) false (x:=x5)
 have hl:([mv (r:Int) false 1,mv (r:Int) false (-1)].filter (tM (jm u e l b) (jh ps))).length<=2:=List.length_filter_le _ _
 obtain ⟨y',s2⟩:=aiU (e:=e) (b:=b) hs hr (F:=F++[mv (r:Int) false 1,mv (r:Int) false (-1)].filter (tM (jm u e l b) (jh ps))) (by rw [List.length_append]; omega) true (x:=y)
 refine ⟨some (qC true),y',?_⟩
 have iw:items (.tuple [.str "upper",.str "lower"])=some [qC false,qC true]:=rfl
 have eR:F++ahW (jm u e l b) (jh ps) r=(F++[mv (r:Int) false 1,mv (r:Int) false (-1)].filter (tM (jm u e l b) (jh ps)))++[mv (r:Int) true 1,mv (r:Int) true (-1)].filter (tM (jm u e l b) (jh ps)):=by
  rw [List.append_assoc,←List.filter_append]; rfl
 rw [eR]
 simp only [JJ]
 refine (jv (ρ1:=[some (jm u e l b),some (jh ps),some (.list ((F++[mv (r:Int) false 1,mv (r:Int) false (-1)].filter (tM (jm u e l b) (jh ps)))++[mv (r:Int) true 1,mv (r:Int) true (-1)].filter (tM (jm u e l b) (jh ps)))),some (.int (r:Int)),some (qC true),y']) ?_).trans rfl
 generalize mv (r:Int) false 1=m1 at*
 generalize mv (r:Int) false (-1)=m2 at*
 generalize mv (r:Int) true 1=m3 at*
 generalize mv (r:Int) true (-1)=m4 at*
 dsimp? [Jn,itS,brw,hid,okB,Q6,aaH,aab,iw,jP,s1,s2]
theorem amq {M T:PyData}{n:Int}{RR F:List PyData}{x3 x4 x5:Option PyData} (ck:jS [M,T]=some .none) (ln:Jd [T]=some (.int n)) (rg:QH [.int n]=some RR) (lp:jP (jJ 3) JJ.1 RR [some M,some T,some (.list []),none,none,none]=some (.nx [some M,some T,some (.list F),x3,x4,x5])):Qs [M,T]=some (.list F):=by
 refine jO rfl ?_
 show ZU.1 [some M,some T,none,none,none,none]=_
 simp only [ZU]
 refine (jv (ρ1:=[some M,some T,none,none,none,none]) ?_).trans ?_
 ·dsimp? [ck]
 have key:∀ {Y:Rho->Option Out} {d:PyData},Y [some M,some T,some (.list []),none,none,none]=some (.rt d)->Zk 2 (Q5 jF) Y [some M,some T,none,none,none,none]=some (.rt d):=fun {Y d} hy=>by
  have l8:2 < [some M,some T,none,none,none,none].length:=by simp
  dsimp? [Zk,Jc,hy]
  rw [if_pos l8]
 refine key ?_
 refine (jv (ρ1:=[some M,some T,some (.list F),x3,x4,x5]) ?_).trans ?_
 ·dsimp? [Jn,brw,hid,okB,Q6,aaH,aab,ln,rg]
  exact lp
 dsimp? [zzA]
end
end Rods
namespace Rods
open PySem L2 BX
open PyProof.Rows hiding St
inductive Path (u e l b:Int):List (Int × Int)->List PyData->List (Int × Int)->Prop
 | nil (ps:List (Int × Int)):Path u e l b ps [] ps
 | cons {ps qs rs:List (Int × Int)} {d:PyData} {ms:List PyData}:Th u e l b ps d (some qs)->Path u e l b qs ms rs->Path u e l b ps (d::ms) rs
end Rods
namespace Rods
open PySem L2 BX
open PyProof.Rows hiding St
section
variable {u e l b:Int}
theorem Path.ok {ps qs:List (Int × Int)}{ms:List PyData} (p:Path u e l b ps ms qs) (hs:okS u l ps=true):okS u l qs=true:=by
 induction p with
 | nil ps=>exact hs
 | cons t _ ih=>exact ih (t.bm _ rfl).2
end
end Rods
namespace Rods
open PySem L2 BX
open PyProof.Rows hiding St
section
variable {u e l b:Int}{ps:List (Int × Int)}
theorem afj (H:QA=true) (h:okN u e l b=true) (hs:okS u l ps=true):Qs [jm u e l b,jh ps]=some (.list (ab6 (jm u e l b) (jh ps) ps.length)):=by
 obtain ⟨h1,h4,hall⟩:=ql hs
 have ck:=(aek H h hs).1
 have rg:QH [.int (ps.length:Int)]=some (zt 0 ps.length):=by
  have:QH [.int (ps.length:Int)]=some (zt 0 (ps.length:Int).toNat):=Z3 (by omega) (by omega)
  rw [Int.toNat_natCast] at this; exact this
 have ln:=zo ps
 obtain ⟨ρ',lp,x3,x4,x5,e'⟩:=Jj (ga:=jJ 3) (F:=JJ.1) (fun k ρ=>∃ x3 x4 x5,ρ=[some (jm u e l b),some (jh ps),some (.list (ab6 (jm u e l b) (jh ps) k)),x3,x4,x5]) (zt 0 ps.length) 0 [some (jm u e l b),some (jh ps),some (.list []),none,none,none] ⟨none,none,none,rfl⟩ (fun j d ρ hd ⟨x3,x4,x5,e⟩=>by
  obtain ⟨hj,rfl⟩:=QB hd
  subst e
  have hl:=ac9 (jm u e l b) (jh ps) j
  obtain ⟨y4,y5,q⟩:=an8 (e:=e) (b:=b) hs (r:=j) hj (F:=ab6 (jm u e l b) (jh ps) (0+j)) (by rw [Nat.zero_add]; omega) (x4:=x4) (x5:=x5)
  refine ⟨_,_,rfl,q,⟨some (.int (j:Int)),y4,y5,?_⟩⟩
  rw [Nat.zero_add,ael])
 rw [QC,Nat.zero_add] at e'
 subst e'
 exact amq ck ln rg lp
end
end Rods
namespace Rods
open PySem L2 BX
open PyProof.Rows hiding St
section
variable {u e l b:Int}
theorem agw (ds:List PyData):Jd [.list ds]=some (.int (ds.length:Int)):=rfl
end
end Rods
namespace Rods
open PySem L2 BX
open PyProof.Rows hiding St
noncomputable abbrev SL:=List (List (Int × Int))
noncomputable def eS (ss:SL):PyData:= .list (ss.map jh)
theorem ahX {ds:List PyData} (h:ds.length < 1000000):few ds=true:=decide_eq_true h
theorem aem:∀ (ns:List Int) (a:Int),let m:=ns.foldl (fun a b=>if decide (b < a)=true then b else a) a; (m=a ∨ m ∈ ns)/\m<=a/\∀ x ∈ ns,m<=x
 | [],a=>⟨.inl rfl,Int.le_refl _,fun _ h=>nomatch h⟩
 | n::ns,a=>by
  obtain ⟨h1,h2,h3⟩:=aem ns (if decide (n < a)=true then n else a)
  simp only [List.foldl_cons]
  by_cases c:n < a
  ·rw [if_pos (decide_eq_true c)] at h1 h2 h3 ⊢
   refine ⟨.inr ?_,by omega,fun x hx=>?_⟩
   ·rcases h1 with z | z
    ·rw [z]; exact List.mem_cons_self
    ·exact List.mem_cons_of_mem _ z
   ·rcases List.mem_cons.mp hx with rfl | z
    ·exact h2
    ·exact h3 x z
  ·rw [if_neg (by simpa using c)] at h1 h2 h3 ⊢
   refine ⟨?_,h2,fun x hx=>?_⟩
   ·rcases h1 with z | z
    ·exact .inl z
    ·exact .inr (List.mem_cons_of_mem _ z)
   ·rcases List.mem_cons.mp hx with rfl | z
    ·omega
    ·exact h3 x z
theorem amr {ns:List Int}{v:Int} (h1:v ∈ ns) (h2:∀ x ∈ ns,v<=x):adR (fun i j=>decide (i < j)) [.list (ns.map .int)]=some (.int v):=by
 show (qU (ns.map PyData.int)).bind _=_
 rw [aat,zzD]
 cases ns with
 | nil=>exact nomatch h1
 | cons n ns=>
  obtain ⟨k1,k2,k3⟩:=aem ns n
  show (some (PyData.int (ns.foldl (fun a b=>if decide (b < a)=true then b else a) n)))=_
  generalize ns.foldl (fun a b=>if decide (b < a)=true then b else a) n=m at*
  have a1:m<=v:=by
   rcases List.mem_cons.mp h1 with rfl | z
   ·exact k2
   ·exact k3 v z
  have a2:v<=m:=by
   rcases k1 with z | z
   ·rw [z]; exact h2 n List.mem_cons_self
   ·exact h2 m (List.mem_cons_of_mem _ z)
  rw [show m=v by omega]
noncomputable def Qd (R:List (Int × Int)) (A:SL):SL:=A.flatMap fun s=>R.map fun p=>s++[p]
noncomputable def aac (u l:Int):Nat->SL
 | 0=>[[]]
 | k+1=>Qd (rp u l) (aac u l k)
theorem agx (R:List (Int × Int)):∀ A:SL,(Qd R A).length=A.length*R.length
 | []=>by simp [Qd]
 | s::A=>by
  have:=agx R A
  unfold Qd at*
  rw [List.flatMap_cons,List.length_append,this,List.length_map,List.length_cons,Nat.succ_mul]
  omega
theorem agy (s:List (Int × Int)) (p:Int × Int) (hl:s.length < 100):zB (jh s) (.tuple [pr p])=some (jh (s++[p])):=by
 have:=aa7 (xs:=s.map pr) (ys:=[pr p]) (.inr trivial) (by rw [List.length_map]; simp; omega)
 unfold jh
 rw [List.map_append]
 exact this
theorem ams (s:List (Int × Int)) (hl:s.length < 100) (R:List (Int × Int)):jX (jJ 0) Zc (op2 zB (lkp 1) (Qn (jr (lkp 0) jF))) (R.map pr) [none,some (jh s)]=some ((R.map fun p=>s++[p]).map jh):=by
 have:=agt (τ:=[some (jh s)]) (fun _=>true) (fun p=>jh (s++[p])) (ft:=Zc) (fe:=op2 zB (lkp 1) (Qn (jr (lkp 0) jF))) (fun p=>rfl) (fun p=>by
  have f1:few [pr p]=true:=zN (by simp)
  dsimp? [f1,agy s p hl]) R none
 rw [this,List.filter_eq_self.mpr fun _ _=>rfl,List.map_map]
 rfl
theorem aiV {xs ys:List PyData} (h:xs.length+ys.length < 100000):zB (.list xs) (.list ys)=some (.list (xs++ys)):=by
 show (if few (xs++ys)=true then some (PyData.list (xs++ys)) else none)=_
 rw [if_pos (ahX (by rw [List.length_append]; omega))]
end Rods
namespace Rods
open PySem L2 BX
open PyProof.Rows hiding St
section
variable {u e l b:Int}
theorem an9 (h:okN u e l b=true) {R F k:Option PyData}{acc:SL}{s:List (Int × Int)} (hs:s.length < 100) (ha:acc.length < 90000):afb.1 [some (jm u e l b),R,F,k,some (eS acc),some (jh s)]=some (.nx [some (jm u e l b),R,F,k,some (eS (acc++(rp u l).map fun p=>s++[p])),some (jh s)]):=by
 obtain ⟨a1,a2,a3,a4,a5,a6,a7,a8,a9,a10⟩:=qR h
 have lr:=aeh (e:=e) (b:=b) a1 (show u < 50 by omega) (show 0<=l by omega) (show l < 50 by omega)
 have fw:=ac5 (u:=u) (l:=l) (by omega) (by omega)
 rw [afg] at lr fw
 have rc:=ams s hs (rp u l)
 have h48:=abM h
 have ad:zB (eS acc) (.list (((rp u l).map fun p=>s++[p]).map jh))=some (eS (acc++(rp u l).map fun p=>s++[p])):=by
  unfold eS
  rw [List.map_append]
  exact aiV (by simp only [List.length_map]; omega)
 generalize jm u e l b=M at*
 generalize jh s=S at*
 generalize eS acc=AC at*
 dsimp? [afb,qB,itS,items,JS,List.map_cons,List.map_nil,lr,fw,rc,ad]
theorem aj5 (h:okN u e l b=true) {R F k:Option PyData} (A:SL):∀ (acc:SL) (x:Option PyData),(∀ s ∈ A,s.length < 100)->acc.length+A.length*(rp u l).length < 90000->∃ y,jP (jJ 5) afb.1 (A.map jh) [some (jm u e l b),R,F,k,some (eS acc),x]=some (.nx [some (jm u e l b),R,F,k,some (eS (acc++Qd (rp u l) A)),y]):=by
 induction A with
 | nil=>intro acc x _ _; exact ⟨x,by simp [jP,Qd]⟩
 | cons s A ih=>
  intro acc x hA hl
  rw [List.length_cons,Nat.succ_mul] at hl
  obtain ⟨y,hy⟩:=ih (acc++(rp u l).map fun p=>s++[p]) (some (jh s)) (fun t ht=>hA t (List.mem_cons_of_mem _ ht)) (by rw [List.length_append,List.length_map]; omega)
  refine ⟨y,?_⟩
  have st:=an9 h (R:=R) (F:=F) (k:=k) (acc:=acc) (hA s List.mem_cons_self) (by omega)
  have ga:jJ 5 (jh s) [some (jm u e l b),R,F,k,some (eS acc),x]=some [some (jm u e l b),R,F,k,some (eS acc),some (jh s)]:=rfl
  rw [List.map_cons]
  simp only [jP,ga,zzD,st]
  rw [hy]
  simp [Qd]
theorem ZD:∀ (k:Nat) (t:List (Int × Int)),t ∈ aac u l k ↔ t.length=k/\t.all (okP u l)=true
 | 0,t=>by
  constructor
  ·intro ht
   rw [List.mem_singleton.mp ht]; exact ⟨rfl,rfl⟩
  ·rintro ⟨h1,_⟩
   rw [List.eq_nil_of_length_eq_zero h1]; exact List.mem_singleton.mpr rfl
 | k+1,t=>by
  show t ∈ Qd (rp u l) (aac u l k) ↔ _
  unfold Qd
  rw [List.mem_flatMap]
  constructor
  ·rintro ⟨s,hs,ht⟩
   obtain ⟨p,hp,rfl⟩:=List.mem_map.mp ht
   obtain ⟨k1,k2⟩:=(ZD k s).mp hs
   refine ⟨by rw [List.length_append,k1]; rfl,?_⟩
   rw [List.all_append,k2]
   simp [aoK hp]
  ·rintro ⟨h1,h2⟩
   have hne:t ≠ []:=fun z=>by rw [z] at h1; cases h1
   have e:=(List.dropLast_concat_getLast hne).symm
   rw [e,List.all_append,Bool.and_eq_true] at h2
   refine ⟨t.dropLast,(ZD k _).mpr ⟨by rw [List.length_dropLast,h1]; omega,h2.1⟩,List.mem_map.mpr ⟨t.getLast hne,ahM (by simpa using h2.2),e.symm⟩⟩
theorem agz (k:Nat):(aac u l k).length=(rp u l).length ^ k:=by
 induction k with
 | zero=>rfl
 | succ k ih=>show (Qd (rp u l) (aac u l k)).length=_; rw [agx,ih,Nat.pow_succ]
theorem amt (h:okN u e l b=true) {R x4 x5:Option PyData}{k:PyData}{A:SL} (hA:∀ s ∈ A,s.length < 100) (hl:A.length*48 < 90000):∃ y4 y5,ac2.1 [some (jm u e l b),R,some (eS A),some k,x4,x5]=some (.nx [some (jm u e l b),R,some (eS (Qd (rp u l) A)),some k,y4,y5]):=by
 have h48:=abM h
 have hm:A.length*(rp u l).length<=A.length*48:=Nat.mul_le_mul_left _ h48
 obtain ⟨y,hy⟩:=aj5 h (R:=R) (F:=some (eS A)) (k:=some k) A [] x5 hA (by simp; omega)
 rw [List.nil_append] at hy
 refine ⟨some (eS (Qd (rp u l) A)),y,?_⟩
 have it:items (eS A)=some (A.map jh):=rfl
 have n0:(PyData.list [])=eS []:=rfl
 simp only [ac2]
 refine (jv (ρ1:=[some (jm u e l b),R,some (eS A),some k,some (eS []),x5]) rfl).trans ?_
 refine (jv (ρ1:=[some (jm u e l b),R,some (eS A),some k,some (eS (Qd (rp u l) A)),y]) ?_).trans ?_
 ·generalize jm u e l b=M at*
  generalize hq:eS A=Q at*
  dsimp? [Jn,itS,it]
  exact hy
 generalize jm u e l b=M at*
 generalize eS (Qd (rp u l) A)=Q at*
 generalize eS A=Q2 at*
 dsimp? [zzA]
theorem aj6 {M Q:PyData}{rr:Int}{RR:List PyData}{y3 y4 y5:Option PyData} (rg:QH [.int rr]=some RR) (lp:jP (jJ 3) ac2.1 RR [some M,some (.int rr),some (.list [.tuple []]),none,none,none]=some (.nx [some M,some (.int rr),some Q,y3,y4,y5])):agi [M,.int rr]=some Q:=by
 refine jO rfl ?_
 show aiJ.1 [some M,some (.int rr),none,none,none,none]=_
 simp only [aiJ]
 refine (jv (ρ1:=[some M,some (.int rr),some (.list [.tuple []]),none,none,none]) rfl).trans ?_
 refine (jv (ρ1:=[some M,some (.int rr),some Q,y3,y4,y5]) ?_).trans ?_
 ·dsimp? [Jn,rg]
  exact lp
 dsimp? [zzA]
theorem aoa (h:okN u e l b=true) (j:Nat) (hj:j < 2):(aac u l j).length*48 < 90000:=by
 have h48:=abM h
 rw [agz]
 generalize (rp u l).length=k at*
 rcases (show j=0 ∨ j=1 by omega) with rfl | rfl
 ·rw [Nat.pow_zero]; omega
 ·rw [Nat.pow_one]; omega
theorem amu (h:okN u e l b=true) {r:Nat} (hr:r<=2):agi [jm u e l b,.int (r:Int)]=some (eS (aac u l r)):=by
 obtain ⟨ρ',lp,y3,y4,y5,e'⟩:=Jj (ga:=jJ 3) (F:=ac2.1) (fun i ρ=>∃ y3 y4 y5,ρ=[some (jm u e l b),some (.int (r:Int)),some (eS (aac u l i)),y3,y4,y5]) (zt 0 r) 0
  [some (jm u e l b),some (.int (r:Int)),some (.list [.tuple []]),none,none,none] ⟨none,none,none,rfl⟩ (fun j d ρ hd hi=>by
   obtain ⟨hj,rfl⟩:=QB hd
   obtain ⟨x3,x4,x5,rfl⟩:=hi
   rw [Nat.zero_add]
   obtain ⟨y4,y5,st⟩:=amt h (R:=some (.int (r:Int))) (x4:=x4) (x5:=x5) (k:= .int (j:Int)) (A:=aac u l j) (fun s hs=>by have:=((ZD j s).mp hs).1; omega) (aoa h j (by omega))
   exact ⟨_,_,rfl,st,_,_,_,rfl⟩)
 rw [QC,Nat.zero_add] at e'
 subst e'
 exact aj6 (ahO (by omega)) lp
end
end Rods
namespace Rods
open PySem L2 BX
open PyProof.Rows hiding St
theorem abW:∀ (A B:SL),PyData.eqvAll (A.map jh) (B.map jh)=decide (A=B)
 | [],[]=>by simp [PyData.eqvAll]
 | [],b::B=>by simp [PyData.eqvAll]
 | a::A,[]=>by simp [PyData.eqvAll]
 | a::A,b::B=>by
  simp only [List.map_cons,PyData.eqvAll,ago,abW A B]
  by_cases h:a=b <;> by_cases h':A=B <;> simp [h,h']
theorem ada (A:SL):okD (eS A)=true:=amm (n:=4) (afi.mpr fun d hd=>by obtain ⟨t,_,rfl⟩:=List.mem_map.mp hd; exact an4 t) (by omega)
theorem amv (A B:SL):PyData.eqv (eS A) (eS B)=decide (A=B):=by
 unfold eS PyData.eqv
 exact abW A B
theorem aq2 (A B:SL):dNe (eS A) (eS B)=some (.bool (!decide (A=B))):=by
 show (if okD (eS A)=true/\okD (eS B)=true then some (PyData.bool (!PyData.eqv (eS A) (eS B))) else none)=_
 rw [if_pos ⟨ada A,ada B⟩,amv]
theorem aq3 (A B:SL):dEq (eS A) (eS B)=some (.bool (decide (A=B))):=by
 show (if okD (eS A)=true/\okD (eS B)=true then some (PyData.bool (PyData.eqv (eS A) (eS B))) else none)=_
 rw [if_pos ⟨ada A,ada B⟩,amv]
noncomputable def far:List (Int × Int)->List (Int × Int)->Int
 | p::ps,q::qs=>fd p q+far ps qs
 | _,_=>0
theorem afk (p q:Int × Int):ZX [pr p,pr q]=some (.int (fd p q)):=by
 have i0:∀ p:Int × Int,dIx (pr p) (.int 0)=some (.int p.1):=fun _=>rfl
 have i1:∀ p:Int × Int,dIx (pr p) (.int 1)=some (.int p.2):=fun _=>rfl
 have s1:∀ i j:Int,aaa (.int i) (.int j)=some (.int (i - j)):=fun _ _=>rfl
 have a1:∀ i:Int,afX [.int i]=some (.int (ab i)):=fun _=>rfl
 refine jO rfl ?_
 show ZW.1 [some (pr p),some (pr q)]=_
 dsimp? [ZW,i0,i1,s1,a1,add_int]
 rfl
theorem adb:∀ (ps qs:List (Int × Int)) (x y:Option PyData),jX (JR 2 (jR (jJ 0) (jR (jJ 1) zi))) Zc (jM ZX (jr (lkp 0) (jr (lkp 1) jF))) (zS (ps.map pr) (qs.map pr)) [x,y]=some ((List.zipWith fd ps qs).map .int)
 | [],qs,x,y=>rfl
 | p::ps,[],x,y=>rfl
 | p::ps,q::qs,x,y=>by
  have ih:=adb ps qs (some (pr p)) (some (pr q))
  have g:=afk p q
  have ga:JR 2 (jR (jJ 0) (jR (jJ 1) zi)) (.tuple [pr p,pr q]) [x,y]=some [some (pr p),some (pr q)]:=rfl
  simp only [List.map_cons,zS,jX,ga,zzD,Zc,zzM,List.zipWith_cons_cons]
  generalize pr p=P at*
  generalize pr q=Q at*
  dsimp? [g,ih]
theorem afl:∀ ps qs:List (Int × Int),(List.zipWith fd ps qs).sum=far ps qs
 | [],qs=>by simp [far]
 | p::ps,[]=>by simp [far]
 | p::ps,q::qs=>by simp [far,afl ps qs]
theorem aen (ps qs:List (Int × Int)) (h:ps.length<=4):few (zS (ps.map pr) (qs.map pr))=true:=ahV (by rw [abq,List.length_map]; omega)
theorem Z7 (ps qs:List (Int × Int)) (h:ps.length<=4):aap [jh ps,jh qs]=some (.int (far ps qs)):=by
 have c:=adb ps qs none none
 have z:afV [jh ps,jh qs]=some (zS (ps.map pr) (qs.map pr)):=rfl
 have f:=aen ps qs h
 have sm:anp [.list ((List.zipWith fd ps qs).map .int)]=some (.int (far ps qs)):=by
  show (qU ((List.zipWith fd ps qs).map PyData.int)).map _=_
  rw [aat,←afl]
  rfl
 refine jO rfl ?_
 show ae6.1 [some (jh ps),some (jh qs)]=_
 generalize jh ps=S at*
 generalize jh qs=T at*
 dsimp? [ae6,qB,JS,List.map_cons,List.map_nil,z,f,c,sm]
noncomputable def sg (i:Int):Int:=if 0 < i then 1 else -1
noncomputable def mvD (r:Int) (k:Bool) (c:Int):List PyData:=List.replicate c.natAbs (mv r k (sg c))
theorem amw (r:Int) (k:Bool) (c:Int):noL (mv r k c)=true:=by cases k <;> rfl
theorem aob (r:Int) (k:Bool) (c:Int):noLs (mvD r k c)=true:=Zi fun d hd=>by rw [List.eq_of_mem_replicate hd]; exact amw _ _ _
theorem adv (r:Int) (k:Bool) {c:Int} (hc:-1000 < c/\c < 1000):aar [.int r,qC k,.int c]=some (.list (mvD r k c)):=by
 have gt:Jo (fun i j=>decide (i > j)) (.int c) (.int 0)=some (.bool (decide (c > 0))):=rfl
 have ng:afL (.int 1)=some (.int (-1)):=rfl
 have a1:afX [.int c]=some (.int (ab c)):=rfl
 have hab:ab c=(c.natAbs:Int):=by unfold ab; split <;> omega
 have rp:∀ s:Int,abR (.list [mv r k s]) (.int (ab c))=some (.list (List.replicate c.natAbs (mv r k s))):=fun s=>by
  show (if [mv r k s].length < 1000/\-1000 < ab c/\ab c < 1000 then some (PyData.list (List.replicate (ab c).toNat [mv r k s]).flatten) else none)=_
  rw [if_pos ⟨by simp,by omega,by omega⟩,aiP,hab,Int.toNat_natCast]
 have rp:∀ s:Int,abR (.list [.tuple [.int r,qC k,.int s]]) (.int (ab c))=some (.list (List.replicate c.natAbs (mv r k s))):=rp
 refine jO rfl ?_
 show JK.1 [some (.int r),some (qC k),some (.int c),none]=_
 unfold mvD sg
 generalize qC k=K at*
 by_cases h:c > 0
 ·rw [decide_eq_true h] at gt
  rw [if_pos h]
  dsimp? [JK,gt,fw3,fw1,a1,rp]
 ·rw [decide_eq_false h] at gt
  rw [if_neg h]
  dsimp? [JK,gt,ng,fw3,fw1,a1,rp]
noncomputable def mvR (r:Int) (p q:Int × Int):List PyData:=mvD r false (q.1 - p.1)++mvD r true (q.2 - p.2)
noncomputable def mvL:Nat->List (Int × Int)->List (Int × Int)->List PyData
 | i,p::ps,q::qs=>mvR (i:Int) p q++mvL (i+1) ps qs
 | _,_,_=>[]
theorem Z8 (r:Int) (k:Bool) (c:Int):((mvD r k c).length:Int)=ab c:=by
 unfold mvD ab
 rw [List.length_replicate]
 split <;> omega
theorem aiW (r:Int) (p q:Int × Int):((mvR r p q).length:Int)=fd p q:=by
 unfold mvR fd
 rw [List.length_append,Int.natCast_add,Z8,Z8]
theorem apU {F ms:List PyData} (hn:noLs ms=true) (hl:F.length+ms.length < 1000000):als (some (.list F)) (some (.list ms))=some (.list (F++ms)):=by
 show (if _/\_ then _ else _)=_
 rw [if_pos ⟨hn,hl⟩]
theorem amx {M T Q Z:PyData}{i c z w:Int}{k:Bool}{F:List PyData}{jj:Int} (hc:-1000 < c/\c < 1000) (hF:F.length < 900000) (q1:dIx Q (.int i)=some Z) (q2:dIx Z (.int jj)=some (.int z)) (q3:∀ P:PyData,True) {P:PyData} (q4:dIx P (.int jj)=some (.int w)) (hz:z - w=c):
  abC.1 [some M,some T,some Q,some (.list F),some (.int i),some P,some (.int jj),some (qC k)]=some (.nx [some M,some T,some Q,some (.list (F++mvD i k c)),some (.int i),some P,some (.int jj),some (qC k)]):=by
 have s1:aaa (.int z) (.int w)=some (.int c):=by show some (PyData.int (z - w))=_; rw [hz]
 have g:=adv i k hc
 have hl:(mvD i k c).length < 1000:=by have:=Z8 i k c; unfold ab at this; split at this <;> omega
 have el:=apU (F:=F) (aob i k c) (by omega)
 generalize qC k=K at*
 dsimp? [abC,brw,hid,okB,Q6,aab,aaH,q1,q2,q4,s1,g,el]
theorem ahY:af8 [.tuple [.str "upper",.str "lower"]]=some [.tuple [.int 0,qC false],.tuple [.int 1,qC true]]:=rfl
theorem apV {M T Q:PyData}{i:Int}{F:List PyData}{p q:Int × Int}{x6 x7:Option PyData} (hF:F.length < 800000) (q1:dIx Q (.int i)=some (pr q)) (h1:-1000 < q.1 - p.1/\q.1 - p.1 < 1000) (h2:-1000 < q.2 - p.2/\q.2 - p.2 < 1000):
  ∃ y6 y7,Qt.1 [some M,some T,some Q,some (.list F),some (.int i),some (pr p),x6,x7]=some (.nx [some M,some T,some Q,some (.list (F++mvR i p q)),some (.int i),some (pr p),y6,y7]):=by
 have hl:(mvD i false (q.1 - p.1)).length < 1000:=by have:=Z8 i false (q.1 - p.1); unfold ab at this; split at this <;> omega
 have a:=amx (M:=M) (T:=T) (k:=false) (F:=F) h1 (by omega) q1 (jj:=0) (show dIx (pr q) (.int 0)=some (.int q.1) from rfl) (fun _=>trivial) (P:=pr p) (show dIx (pr p) (.int 0)=some (.int p.1) from rfl) rfl
 have c:=amx (M:=M) (T:=T) (k:=true) (F:=F++mvD i false (q.1 - p.1)) h2 (by rw [List.length_append]; omega) q1 (jj:=1) (show dIx (pr q) (.int 1)=some (.int q.2) from rfl) (fun _=>trivial) (P:=pr p) (show dIx (pr p) (.int 1)=some (.int p.2) from rfl) rfl
 rw [List.append_assoc] at c
 have g0:∀ x6 x7:Option PyData,JR 2 (jR (jJ 6) (jR (jJ 7) zi)) (.tuple [.int 0,qC false]) [some M,some T,some Q,some (.list F),some (.int i),some (pr p),x6,x7]=some [some M,some T,some Q,some (.list F),some (.int i),some (pr p),some (.int 0),some (qC false)]:=fun _ _=>rfl
 have g1:∀ (L:PyData) (x6 x7:Option PyData),JR 2 (jR (jJ 6) (jR (jJ 7) zi)) (.tuple [.int 1,qC true]) [some M,some T,some Q,some L,some (.int i),some (pr p),x6,x7]=some [some M,some T,some Q,some L,some (.int i),some (pr p),some (.int 1),some (qC true)]:=fun _ _ _=>rfl
 refine ⟨some (.int 1),some (qC true),?_⟩
 show _=some (Out.nx [some M,some T,some Q,some (.list (F++(mvD i false (q.1 - p.1)++mvD i true (q.2 - p.2)))),some (.int i),some (pr p),some (.int 1),some (qC true)])
 simp only [Qt]
 refine (jv ?_).trans rfl
 have e:=ahY
 generalize qC false=D0 at*
 generalize qC true=D1 at*
 dsimp? [Jn,brw,hid,okB,Q6,aab,aaH,e,jP,g0,g1,a,c]
end Rods
namespace Rods
open PySem L2 BX
open PyProof.Rows hiding St
section
variable {u e l b:Int}
theorem aoc {M T:PyData}{Q0:List (Int × Int)} (h4:Q0.length<=4) (ps:List (Int × Int)):∀ (i:Nat) (qs:List (Int × Int)) (F:List PyData) (x4 x5 x6 x7:Option PyData),Q0.drop i=qs->ps.length=qs.length->ps.length<=4->ps.all (okP u l)=true->qs.all (okP u l)=true->u<=100->l<=100->F.length+500*ps.length < 800000->
  ∃ y4 y5 y6 y7,jP (JR 2 (jR (jJ 4) (jR (jJ 5) zi))) Qt.1 (Zp i (ps.map pr)) [some M,some T,some (jh Q0),some (.list F),x4,x5,x6,x7]=some (.nx [some M,some T,some (jh Q0),some (.list (F++mvL i ps qs)),y4,y5,y6,y7]):=by
 induction ps with
 | nil=>intro i qs F x4 x5 x6 x7 _ _ _ _ _ _ _ _; exact ⟨x4,x5,x6,x7,by simp [Zp,jP,mvL]⟩
 | cons p ps ih=>
  intro i qs F x4 x5 x6 x7 hd hl h4' hp hq hu hl2 hF
  cases qs with
  | nil=>cases hl
  | cons q qs=>
   rw [List.all_cons,Bool.and_eq_true] at hp hq
   obtain ⟨p1,p2,p3,p4⟩:=qJ hp.1
   obtain ⟨r1,r2,r3,r4⟩:=qJ hq.1
   have hget:Q0[i]?=some q:=by
    have:(Q0.drop i)[0]?=some q:=by rw [hd]; rfl
    rw [List.getElem?_drop,Nat.add_zero] at this
    exact this
   have q1:=aba h4 hget
   have hr:=aiW (i:Int) p q
   have hfd:fd p q<=400:=by unfold fd ab; split <;> split <;> omega
   rw [List.length_cons] at hF
   obtain ⟨y6,y7,st⟩:=apV (M:=M) (T:=T) (Q:=jh Q0) (i:=(i:Int)) (F:=F) (p:=p) (q:=q) (x6:=x6) (x7:=x7) (by omega) q1 (by omega) (by omega)
   have hd2:Q0.drop (i+1)=qs:=by
    have:(Q0.drop i).drop 1=qs:=by rw [hd]; rfl
    rw [List.drop_drop] at this
    exact this
   obtain ⟨z4,z5,z6,z7,hz⟩:=ih (i+1) qs (F++mvR (i:Int) p q) (some (.int (i:Int))) (some (pr p)) y6 y7 hd2 (by simpa using hl) (by rw [List.length_cons] at h4'; omega) hp.2 hq.2 hu hl2 (by rw [List.length_append]; omega)
   refine ⟨z4,z5,z6,z7,?_⟩
   have ga:JR 2 (jR (jJ 4) (jR (jJ 5) zi)) (.tuple [.int (i:Int),pr p]) [some M,some T,some (jh Q0),some (.list F),x4,x5,x6,x7]=some [some M,some T,some (jh Q0),some (.list F),some (.int (i:Int)),some (pr p),x6,x7]:=rfl
   rw [List.map_cons]
   simp only [Zp,jP,ga,zzD,st,mvL]
   rw [List.append_assoc] at hz
   exact hz
theorem aod {M T Q:PyData}{n:Int}{es F:List PyData}{y4 y5 y6 y7:Option PyData} (c1:jS [M,T]=some .none) (c2:jS [M,Q]=some .none) (l1:Jd [T]=some (.int n)) (l2:Jd [Q]=some (.int n)) (en:af8 [T]=some es) (lp:jP (JR 2 (jR (jJ 4) (jR (jJ 5) zi))) Qt.1 es [some M,some T,some Q,some (.list []),none,none,none,none]=some (.nx [some M,some T,some Q,some (.list F),y4,y5,y6,y7])):qW [M,T,Q]=some (.list F):=by
 have nn:dNe (.int n) (.int n)=some (.bool false):=by rw [afh]; simp
 refine jO rfl ?_
 show JM.1 [some M,some T,some Q,none,none,none,none,none]=_
 simp only [JM]
 refine (jv (ρ1:=[some M,some T,some Q,none,none,none,none,none]) ?_).trans ?_
 ·dsimp? [c1]
 refine (jv (ρ1:=[some M,some T,some Q,none,none,none,none,none]) ?_).trans ?_
 ·dsimp? [c2]
 refine (jv (ρ1:=[some M,some T,some Q,none,none,none,none,none]) ?_).trans ?_
 ·dsimp? [l1,l2,nn]
 have key:∀ {Y:Rho->Option Out} {d:PyData},Y [some M,some T,some Q,some (.list []),none,none,none,none]=some (.rt d)->Zk 3 (Q5 jF) Y [some M,some T,some Q,none,none,none,none,none]=some (.rt d):=fun {Y d} hy=>by
  have l8:3 < [some M,some T,some Q,none,none,none,none,none].length:=by simp
  dsimp? [Zk,Jc,hy]
  rw [if_pos l8]
 refine key ?_
 refine (jv (ρ1:=[some M,some T,some Q,some (.list F),y4,y5,y6,y7]) ?_).trans ?_
 ·dsimp? [Jn,brw,hid,okB,Q6,aab,aaH,en]
  exact lp
 dsimp? [zzA]
theorem agA (H:QA=true) (h:okN u e l b=true) {ps qs:List (Int × Int)} (hs:okS u l ps=true) (ht:okS u l qs=true) (hl:ps.length=qs.length):qW [jm u e l b,jh ps,jh qs]=some (.list (mvL 0 ps qs)):=by
 obtain ⟨a1,a2,a3,a4,a5,a6,a7,a8,a9,a10⟩:=qR h
 obtain ⟨h1,h4,hp⟩:=ql hs
 obtain ⟨_,h4',hq⟩:=ql ht
 obtain ⟨y4,y5,y6,y7,lp⟩:=aoc (u:=u) (l:=l) (M:=jm u e l b) (T:=jh ps) (Q0:=qs) h4' ps 0 qs [] none none none none rfl hl h4 hp hq (by omega) (by omega) (by simp; omega)
 have l2:=zo qs
 rw [←hl] at l2
 exact aod (aek H h hs).1 (aek H h ht).1 (zo ps) l2 rfl lp
end
end Rods
namespace Rods
open PySem L2 BX
open PyProof.Rows hiding St
section
variable {α:Type}
noncomputable abbrev KV (α:Type):=List (Int × α)
noncomputable def Qj (f:α->PyData) (kv:KV α):List (PyData × PyData):=kv.map fun p=>(.int p.1,f p.2)
noncomputable def dV (f:α->PyData) (kv:KV α):PyData:= .dict ((.none,.none)::Qj f kv)
noncomputable def qm (kv:KV α) (k:Int):Option α:=(kv.find? fun p=>decide (p.1=k)).map (·.2)
noncomputable def abb (kv:KV α) (k:Int) (v:α):KV α:=if kv.any (fun p=>decide (p.1=k))=true then kv.map (fun p=>if p.1=k then (p.1,v) else p) else kv++[(k,v)]
theorem abN (f:α->PyData) (kv:KV α) (k:Int):Q7 (Qj f kv) k=(qm kv k).map f:=by
 induction kv with
 | nil=>rfl
 | cons p kv ih=>
  by_cases h:p.1=k
  ·simp [Q7,Qj,qm,isI,h]
  ·have e1:Q7 (Qj f (p::kv)) k=Q7 (Qj f kv) k:=by simp [Q7,Qj,isI,h,List.find?_cons]
   have e2:qm (p::kv) k=qm kv k:=by simp [qm,h,List.find?_cons]
   rw [e1,e2,ih]
theorem aj7 (f:α->PyData) (kv:KV α) (k:Int) (v:α):ahs (Qj f kv) k (f v)=Qj f (abb kv k v):=by
 have h1:(Qj f kv).any (fun p=>isI k p.1)=kv.any fun p=>decide (p.1=k):=by simp [Qj,List.any_map,Function.comp_def,isI]
 unfold ahs abb
 rw [h1]
 by_cases c:kv.any (fun p=>decide (p.1=k))=true
 ·rw [if_pos c,if_pos c]
  simp only [Qj,List.map_map]
  apply List.map_congr_left
  intro p _
  by_cases h:p.1=k <;> simp [isI,h]
 ·rw [if_neg c,if_neg c]
  simp [Qj]
theorem JD (p:Int × α) (kv:KV α) (x:Int):qm (p::kv) x=if p.1=x then some p.2 else qm kv x:=by
 by_cases h:p.1=x <;> simp [qm,List.find?_cons,h]
theorem agB (k:Int) (v:α) (x:Int):∀ kv:KV α,qm (kv.map fun p=>if p.1=k then (p.1,v) else p) x=if x=k then (if kv.any (fun p=>decide (p.1=k))=true then some v else none) else qm kv x
 | []=>by simp [qm]
 | p::kv=>by
  rw [List.map_cons,JD,JD,agB k v x kv]
  by_cases hp:p.1=k
  ·by_cases hx:x=k
   ·subst hx; simp [hp]
   ·have hkx:¬ k=x:=fun z=>hx z.symm
    simp [hp,hx,hkx]
  ·by_cases hx:x=k
   ·subst hx; rw [List.any_cons,decide_eq_false hp,Bool.false_or]; simp [hp]
   ·by_cases hq:p.1=x <;> simp [hp,hx,hq]
theorem agC (k:Int) (v:α) (x:Int):∀ kv:KV α,qm (kv++[(k,v)]) x=if kv.any (fun p=>decide (p.1=x))=true then qm kv x else if k=x then some v else none
 | []=>by rw [List.nil_append,JD]; simp [qm]
 | p::kv=>by
  rw [List.cons_append,JD,JD,agC k v x kv]
  by_cases hp:p.1=x
  ·simp [hp]
  ·rw [List.any_cons,decide_eq_false hp,Bool.false_or,if_neg hp,if_neg hp]
theorem adc (kv:KV α) (k:Int) (v:α) (x:Int):qm (abb kv k v) x=if x=k then some v else qm kv x:=by
 unfold abb
 by_cases c:kv.any (fun p=>decide (p.1=k))=true
 ·rw [if_pos c,agB,if_pos c]
 ·rw [if_neg c,agC]
  by_cases hx:x=k
  ·subst hx
   rw [if_neg c,if_pos rfl,if_pos rfl]
  ·have hkx:¬ k=x:=fun z=>hx z.symm
   rw [if_neg hx,if_neg hkx]
   by_cases c':kv.any (fun p=>decide (p.1=x))=true
   ·rw [if_pos c']
   ·rw [if_neg c']
    unfold qm
    rw [List.find?_eq_none.mpr fun p hp=>by
     have:=fun z=>c' (List.any_eq_true.mpr ⟨p,hp,z⟩)
     exact this]
    rfl
theorem agD (kv:KV α) (k:Int) (v:α):(abb kv k v).length<=kv.length+1:=by
 unfold abb; split <;> simp
theorem amy {kv:KV α}{p:Int × α} (h:p ∈ kv):∃ v,qm kv p.1=some v:=by
 unfold qm
 cases hf:kv.find? fun q=>decide (q.1=p.1) with
 | none=>exact absurd (List.find?_eq_none.mp hf p h) (by simp)
 | some q=>exact ⟨_,rfl⟩
theorem aoe {kv:KV α}{k:Int}{v:α} (h:qm kv k=some v):∃ p ∈ kv,p.1=k:=by
 unfold qm at h
 cases hf:kv.find? fun q=>decide (q.1=k) with
 | none=>rw [hf] at h; cases h
 | some q=>exact ⟨q,List.mem_of_find?_eq_some hf,by simpa using List.find?_some hf⟩
theorem aof (f:α->PyData) (kv:KV α):(BX.Js (dV f kv)).map (fun r=>r.map (·.1))=some (kv.map fun p=>PyData.int p.1):=by
 show some ((Qj f kv).map (·.1))=_
 simp [Qj,List.map_map,Function.comp_def]
theorem apW {f:α->PyData}{kv:KV α}{k:Int}{v:α} (hl:kv.length < 1000000):alc (some (dV f kv)) (some (f v)) (some (.int k))=some (dV f (abb kv k v)):=by
 have hle:(Qj f kv).length < 1000000:=by simp only [Qj,List.length_map]; omega
 show (if (Qj f kv).length < 1000000 then some (PyData.dict ((.none,.none)::ahs (Qj f kv) k (f v))) else none)=_
 rw [if_pos hle,aj7]
 rfl
theorem amz {f:α->PyData}{kv:KV α}{k:Int}{v:α} (h:qm kv k=some v):ajt (dV f kv) (.int k)=some (f v):=by
 show Q7 (Qj f kv) k=_
 rw [abN,h]; rfl
theorem apX {f:α->PyData}{kv:KV α}{k:Int}:aju true (.int k) (dV f kv)=some (.bool (!(qm kv k).isSome)):=by
 show some (PyData.bool (if true=true then !(Q7 (Qj f kv) k).isSome else _))=_
 rw [if_pos rfl,abN]
 cases qm kv k <;> rfl
end
end Rods
namespace Rods
open PySem L2 BX
open PyProof.Rows hiding St
section
variable {u e l b:Int}
theorem Path.app {ps qs rs:List (Int × Int)}{ms ns:List PyData} (p:Path u e l b ps ms qs) (q:Path u e l b qs ns rs):Path u e l b ps (ms++ns) rs:=by
 induction p with
 | nil ps=>exact q
 | cons t _ ih=>exact .cons t (ih q)
theorem amA {p:Int × Int}:okP u l p=true ↔ (0<=p.1/\p.1<=u)/\0<=p.2/\p.2<=l:=by
 simp only [okP,Bool.and_eq_true,decide_eq_true_eq]; omega
end
end Rods
namespace Rods
open PySem L2 BX
open PyProof.Rows hiding St
noncomputable abbrev St1:=List (Int × Int)
noncomputable def ZE (here:St1) (acc:KV St1) (q:Int × St1):KV St1:=match qm acc q.1 with
 | none=>abb acc q.1 q.2
 | some t=>if far here q.2 < far here t then abb acc q.1 q.2 else acc
theorem agE (here:St1) (acc:KV St1) (q:Int × St1):(ZE here acc q).length<=acc.length+1:=by
 unfold ZE
 split
 ·exact agD _ _ _
 ·split
  ·exact agD _ _ _
  ·omega
theorem aeo (here:St1) (xs:KV St1):∀ acc:KV St1,(xs.foldl (ZE here) acc).length<=acc.length+xs.length:=by
 induction xs with
 | nil=>intro acc; simp
 | cons q xs ih=>intro acc; have:=ih (ZE here acc q); have:=agE here acc q; simp only [List.foldl_cons,List.length_cons]; omega
noncomputable def Qk (here:St1) (d:Option St1) (P:St1->Prop):Prop:=(∀ s,d=some s->P s)/\∀ s,P s->∃ t,d=some t/\far here t<=far here s
theorem Qk.iff {here:St1}{d:Option St1}{P P':St1->Prop} (h:Qk here d P) (hi:∀ s,P s ↔ P' s):Qk here d P':=
 ⟨fun s hs=>(hi s).mp (h.1 s hs),fun s hs=>h.2 s ((hi s).mpr hs)⟩
theorem aj8 (here:St1) (acc:KV St1) (q:Int × St1) (k:Int) {P:St1->Prop} (h:Qk here (qm acc k) P):Qk here (qm (ZE here acc q) k) fun s=>P s ∨ (k,s)=q:=by
 obtain ⟨qk,qs⟩:=q
 unfold ZE
 by_cases hk:k=qk
 ·subst hk
  cases hf:qm acc k with
  | none=>
   simp only
   rw [adc,if_pos rfl]
   refine ⟨fun s hs=> .inr (by cases hs; rfl),fun s hs=>⟨qs,rfl,?_⟩⟩
   rcases hs with z | z
   ·obtain ⟨t,ht,_⟩:=h.2 s z
    rw [hf] at ht; cases ht
   ·have:s=qs:=congrArg Prod.snd z
    rw [this]; exact Int.le_refl _
  | some t=>
   simp only
   have ht:=h.1 t hf
   by_cases hlt:far here qs < far here t
   ·rw [if_pos hlt,adc,if_pos rfl]
    refine ⟨fun s hs=> .inr (by cases hs; rfl),fun s hs=>⟨qs,rfl,?_⟩⟩
    rcases hs with z | z
    ·obtain ⟨t',ht',hle⟩:=h.2 s z
     rw [hf] at ht'; cases ht'
     omega
    ·have:s=qs:=congrArg Prod.snd z
     rw [this]; exact Int.le_refl _
   ·rw [if_neg hlt,hf]
    refine ⟨fun s hs=> .inl (by cases hs; exact ht),fun s hs=>⟨t,rfl,?_⟩⟩
    rcases hs with z | z
    ·obtain ⟨t',ht',hle⟩:=h.2 s z
     rw [hf] at ht'; cases ht'
     exact hle
    ·have:s=qs:=congrArg Prod.snd z
     rw [this]; omega
 ·have e1:∀ v,qm (abb acc qk v) k=qm acc k:=fun v=>by rw [adc,if_neg hk]
  have e2:qm (match qm acc qk with | none=>abb acc qk qs | some t=>if far here qs < far here t then abb acc qk qs else acc) k=qm acc k:=by
   split
   ·exact e1 _
   ·split
    ·exact e1 _
    ·rfl
  rw [e2]
  refine h.iff fun s=>⟨.inl,fun z=>z.resolve_right fun z=>hk (congrArg Prod.fst z)⟩
theorem ahZ (here:St1) (k:Int) (xs:KV St1):∀ (acc:KV St1) (P:St1->Prop),Qk here (qm acc k) P->Qk here (qm (xs.foldl (ZE here) acc) k) fun s=>P s ∨ (k,s) ∈ xs:=by
 induction xs with
 | nil=>intro acc P h; exact h.iff fun s=>by simp
 | cons q xs ih=>
  intro acc P h
  refine (ih (ZE here acc q) _ (aj8 here acc q k h)).iff fun s=>?_
  rw [List.mem_cons]
  constructor
  ·rintro ((z | z) | z)
   ·exact .inl z
   ·exact .inr (.inl z)
   ·exact .inr (.inr z)
  ·rintro (z | z | z)
   ·exact .inl (.inl z)
   ·exact .inl (.inr z)
   ·exact .inr z
theorem aq4 (here:St1) (k:Int) (xs:KV St1):Qk here (qm (xs.foldl (ZE here) []) k) fun s=>(k,s) ∈ xs:=
 (ahZ here k xs [] (fun _=>False) ⟨fun s hs=>by simp [qm] at hs,fun s hs=>hs.elim⟩).iff fun s=>by simp
theorem aog {m S A:Option PyData}{D acc:KV St1}{here t:St1}{n k:Int}{p:Int × Int}{x9:Option PyData} (hD:qm D n=some t) (ht:t.length<=4) (hh:here.length<=4) (hl:acc.length < 1000000):
  Ja.1 [m,S,A,some (dV jh D),some (jh here),some (dV jh acc),some (.int n),some (pr p),some (.int k),x9]=some (.nx [m,S,A,some (dV jh D),some (jh here),some (dV jh (ZE here acc (k,p::t))),some (.int n),some (pr p),some (.int k),some (jh (p::t))]):=by
 have g1:ajt (dV jh D) (.int n)=some (jh t):=amz hD
 have ad:zB (.tuple [pr p]) (jh t)=some (jh (p::t)):=aa7 (xs:=[pr p]) (ys:=t.map pr) (.inr trivial) (by rw [List.length_map]; simp; omega)
 have f1:few [pr p]=true:=fw1
 have hs:=apX (f:=jh) (kv:=acc) (k:=k)
 have a1:=Z7 here (p::t) hh
 have nd:∀ s:St1,noD (jh s)=true:=fun s=>aa8 s
 have dd:∀ d,okB (dV jh acc) d=noD d:=fun _=>rfl
 have pt:=apW (f:=jh) (k:=k) (v:=p::t) hl
 simp only [Ja]
 refine (jv (ρ1:=[m,S,A,some (dV jh D),some (jh here),some (dV jh acc),some (.int n),some (pr p),some (.int k),some (jh (p::t))]) ?_).trans ?_
 ·generalize jh (p::t)=Z at*
  generalize dV jh acc=DA at*
  generalize dV jh D=DD at*
  generalize pr p=PP at*
  dsimp? [brw,hid,okB,Q6,aab,aaH,g1,f1,ad]
 unfold ZE
 cases hf:qm acc k with
 | none=>
  rw [hf] at hs
  have hs:aju true (.int k) (dV jh acc)=some (.bool true):=hs
  simp only
  have nz:=nd (p::t)
  generalize jh (p::t)=Z at*
  generalize dV jh (abb acc k (p::t))=DB at*
  generalize dV jh acc=DA at*
  dsimp? [ajs,brw,hid,Option.join_none,dd,nz,hs,pt]
 | some t'=>
  rw [hf] at hs
  have hs:aju true (.int k) (dV jh acc)=some (.bool false):=hs
  have g2:ajt (dV jh acc) (.int k)=some (jh t'):=amz hf
  have a2:=Z7 here t' hh
  have lt:Jo (fun i j=>decide (i < j)) (.int (far here (p::t))) (.int (far here t'))=some (.bool (decide (far here (p::t) < far here t'))):=rfl
  simp only
  have nz:=nd (p::t)
  by_cases c:far here (p::t) < far here t'
  ·rw [if_pos c]
   rw [decide_eq_true c] at lt
   generalize jh (p::t)=Z at*
   generalize dV jh (abb acc k (p::t))=DB at*
   generalize dV jh acc=DA at*
   generalize jh t'=Z' at*
   generalize jh here=HH at*
   dsimp? [ajs,brw,hid,Option.join_none,dd,nz,hs,g2,a1,a2,lt,pt]
  ·rw [if_neg c]
   rw [decide_eq_false c] at lt
   generalize jh (p::t)=Z at*
   generalize dV jh acc=DA at*
   generalize jh t'=Z' at*
   generalize jh here=HH at*
   dsimp? [ajs,brw,hid,Option.join_none,dd,nz,hs,g2,a1,a2,lt]
theorem aj9 {m S A:Option PyData}{D:KV St1}{here t:St1}{n:Int} (hD:qm D n=some t) (ht:t.length<=4) (hh:here.length<=4) (qs:List ((Int × Int) × Int)):∀ (acc:KV St1) (x7 x8 x9:Option PyData),acc.length+qs.length < 1000000->
  ∃ y7 y8 y9,jP (JR 2 (jR (jJ 7) (jR (jJ 8) zi))) Ja.1 (qs.map amg) [m,S,A,some (dV jh D),some (jh here),some (dV jh acc),some (.int n),x7,x8,x9]=some (.nx [m,S,A,some (dV jh D),some (jh here),some (dV jh ((qs.map fun q=>(q.2,q.1::t)).foldl (ZE here) acc)),some (.int n),y7,y8,y9]):=by
 induction qs with
 | nil=>intro acc x7 x8 x9 _; exact ⟨x7,x8,x9,rfl⟩
 | cons q qs ih=>
  intro acc x7 x8 x9 hl
  rw [List.length_cons] at hl
  have h2:=agE here acc (q.2,q.1::t)
  obtain ⟨y7,y8,y9,ih⟩:=ih (ZE here acc (q.2,q.1::t)) (some (pr q.1)) (some (.int q.2)) (some (jh (q.1::t))) (by omega)
  refine ⟨y7,y8,y9,?_⟩
  have s:=aog (m:=m) (S:=S) (A:=A) (acc:=acc) (k:=q.2) (p:=q.1) (x9:=x9) hD ht hh (by omega)
  have ga:JR 2 (jR (jJ 7) (jR (jJ 8) zi)) (amg q) [m,S,A,some (dV jh D),some (jh here),some (dV jh acc),some (.int n),x7,x8,x9]=some [m,S,A,some (dV jh D),some (jh here),some (dV jh acc),some (.int n),some (pr q.1),some (.int q.2),x9]:=rfl
  rw [List.map_cons,jP,ga,zzD,s,zzD]
  exact ih
noncomputable def add (D:KV St1) (k:Int):St1:=(qm D k).getD []
noncomputable def ntr (u e l b:Int) (a:Nat) (D:KV St1) (p:Int × St1):KV St1:=(lps u e l b a p.1).map fun q=>(q.2,q.1::add D p.1)
theorem aiX (u e l b:Int) (a:Nat) (D:KV St1) (p:Int × St1):(ntr u e l b a D p).length<=(rp u l).length:=by unfold ntr; rw [List.length_map]; exact aiQ ..
noncomputable def aiY (u e l b:Int) (a:Nat) (here:St1) (D:KV St1):KV St1:=(D.flatMap (ntr u e l b a D)).foldl (ZE here) []
end Rods
namespace Rods
open PySem L2 BX
open PyProof.Rows hiding St
section
variable {u e l b:Int}
theorem ade {D:KV St1}{p:Int × St1} (hp:p ∈ D):qm D p.1=some (add D p.1):=by
 obtain ⟨v,hv⟩:=amy hp
 unfold add
 rw [hv]; rfl
theorem amB (h:okN u e l b=true) (a:Nat) (ha:a < 4) {S:Option PyData}{D acc:KV St1}{here:St1} (hh:here.length<=4) {p:Int × St1} (hp:p ∈ D) (ht:(add D p.1).length<=4) (hacc:acc.length+(rp u l).length < 1000000) {x7 x8 x9:Option PyData}:
  ∃ y7 y8 y9,zn.1 [some (jm u e l b),S,some (.int (a:Int)),some (dV jh D),some (jh here),some (dV jh acc),some (.int p.1),x7,x8,x9]=some (.nx [some (jm u e l b),S,some (.int (a:Int)),some (dV jh D),some (jh here),some (dV jh ((ntr u e l b a D p).foldl (ZE here) acc)),some (.int p.1),y7,y8,y9]):=by
 have h1:=ajZ (n:=p.1) h a ha
 have hq:=aiQ u e l b a p.1
 obtain ⟨y7,y8,y9,lp⟩:=aj9 (m:=some (jm u e l b)) (S:=S) (A:=some (.int (a:Int))) (ade hp) ht hh (lps u e l b a p.1) acc x7 x8 x9 (by omega)
 refine ⟨y7,y8,y9,?_⟩
 unfold ntr
 have it:items (.list ((lps u e l b a p.1).map amg))=some ((lps u e l b a p.1).map amg):=rfl
 simp only [zn]
 refine (jv ?_).trans rfl
 generalize dV jh D=DD at*
 generalize dV jh acc=DA at*
 generalize jm u e l b=M at*
 generalize jh here=HH at*
 dsimp? [Jn,itS,brw,hid,okB,Q6,aab,aaH,h1,it]
 exact lp
theorem aka (h:okN u e l b=true) (a:Nat) (ha:a < 4) {S:Option PyData}{D:KV St1}{here:St1} (hh:here.length<=4) (ps:KV St1):∀ (acc:KV St1) (x6 x7 x8 x9:Option PyData),(∀ p ∈ ps,p ∈ D/\(add D p.1).length<=4)->acc.length+(ps.length+1)*48 < 1000000->
  ∃ y6 y7 y8 y9,jP (jJ 6) zn.1 (ps.map fun p=> .int p.1) [some (jm u e l b),S,some (.int (a:Int)),some (dV jh D),some (jh here),some (dV jh acc),x6,x7,x8,x9]=some (.nx [some (jm u e l b),S,some (.int (a:Int)),some (dV jh D),some (jh here),some (dV jh ((ps.flatMap (ntr u e l b a D)).foldl (ZE here) acc)),y6,y7,y8,y9]):=by
 have h48:=abM h
 induction ps with
 | nil=>intro acc x6 x7 x8 x9 _ _; exact ⟨x6,x7,x8,x9,rfl⟩
 | cons p ps ih=>
  intro acc x6 x7 x8 x9 hp hl
  rw [List.length_cons] at hl
  obtain ⟨hp1,hp2⟩:=hp p List.mem_cons_self
  obtain ⟨y7,y8,y9,s⟩:=amB h a ha (S:=S) (D:=D) (acc:=acc) hh hp1 hp2 (x7:=x7) (x8:=x8) (x9:=x9) (by omega)
  have h2:=aeo here (ntr u e l b a D p) acc
  have h3:=aiX u e l b a D p
  obtain ⟨z6,z7,z8,z9,ih⟩:=ih ((ntr u e l b a D p).foldl (ZE here) acc) (some (.int p.1)) y7 y8 y9 (fun q hq=>hp q (List.mem_cons_of_mem _ hq)) (by omega)
  refine ⟨z6,z7,z8,z9,?_⟩
  have ga:jJ 6 (.int p.1) [some (jm u e l b),S,some (.int (a:Int)),some (dV jh D),some (jh here),some (dV jh acc),x6,x7,x8,x9]=some [some (jm u e l b),S,some (.int (a:Int)),some (dV jh D),some (jh here),some (dV jh acc),some (.int p.1),x7,x8,x9]:=rfl
  rw [List.map_cons,jP,ga,zzD,s,zzD,List.flatMap_cons,List.foldl_append]
  exact ih
theorem akb {M S DD HH D':PyData}{a:Int}{ks:List PyData}{y6 y7 y8 y9:Option PyData} (sl:ads S (some a) none=some HH) (kk:(BX.Js DD).map (fun r=>r.map (·.1))=some ks) (lp:jP (jJ 6) zn.1 ks [some M,some S,some (.int a),some DD,some HH,some (.dict [(.none,.none)]),none,none,none,none]=some (.nx [some M,some S,some (.int a),some DD,some HH,some D',y6,y7,y8,y9])):zK [M,S,.int a,DD]=some D':=by
 refine jO rfl ?_
 show Jt.1 [some M,some S,some (.int a),some DD,none,none,none,none,none,none]=_
 simp only [Jt]
 refine (jv (ρ1:=[some M,some S,some (.int a),some DD,some HH,none,none,none,none,none]) ?_).trans ?_
 ·dsimp? [JW,inI,sl]
 have key:∀ {Y:Rho->Option Out} {d:PyData},Y [some M,some S,some (.int a),some DD,some HH,some (.dict [(.none,.none)]),none,none,none,none]=some (.rt d)->Zk 5 (cst (.dict [(.none,.none)])) Y [some M,some S,some (.int a),some DD,some HH,none,none,none,none,none]=some (.rt d):=fun {Y d} hy=>by
  have l8:5 < [some M,some S,some (.int a),some DD,some HH,none,none,none,none,none].length:=by simp
  dsimp? [Zk,hy]
  rw [if_pos l8]
 refine key ?_
 refine (jv (ρ1:=[some M,some S,some (.int a),some DD,some HH,some D',y6,y7,y8,y9]) ?_).trans ?_
 ·dsimp? [Jn,itD,hid,kk]
  exact lp
 dsimp? [zzA]
theorem afm (h:okN u e l b=true) (a:Nat) (ha:a < 4) {ps:St1} (h4:ps.length<=4) {D:KV St1} (hD:∀ p ∈ D,(add D p.1).length<=4) (hl:(D.length+1)*48 < 1000000):zK [jm u e l b,jh ps,.int (a:Int),dV jh D]=some (dV jh (aiY u e l b a (ps.drop a) D)):=by
 obtain ⟨y6,y7,y8,y9,lp⟩:=aka h a ha (S:=some (jh ps)) (D:=D) (here:=ps.drop a) (by rw [List.length_drop]; omega) D [] none none none none (fun p hp=>⟨hp,hD p hp⟩) (by simpa using hl)
 have sl:ads (jh ps) (some (a:Int)) none=some (jh (ps.drop a)):=by
  show some (PyData.tuple (adp _ (some (a:Int)) none))=_
  rw [aiR,←List.map_drop]; rfl
 exact akb sl (aof jh D) lp
theorem aiZ {a:Nat}{D:KV St1}{k:Int}{s:St1} (hb:0 < b):(k,s) ∈ D.flatMap (ntr u e l b a D) ↔ ∃ p t,okP u l p=true/\qm D (k*b+wt e p)=some t/\0<=k/\k<=Ji u e l b a/\s=p::t:=by
 constructor
 ·intro h
  obtain ⟨q,hq,h2⟩:=List.mem_flatMap.mp h
  obtain ⟨x,hx,h3⟩:=List.mem_map.mp h2
  obtain ⟨p,hp,rfl⟩:=List.mem_map.mp hx
  obtain ⟨hp1,hp2⟩:=List.mem_filter.mp hp
  simp only [okQ,Bool.and_eq_true,decide_eq_true_eq] at hp2
  obtain ⟨o1,o2,o3⟩:=hp2
  have hk:(q.1 - wt e p) / b=k:=congrArg Prod.fst h3
  have hv:p::add D q.1=s:=congrArg Prod.snd h3
  have hd:=Int.mul_ediv_add_emod (q.1 - wt e p) b
  rw [o1,hk,Int.mul_comm] at hd
  have e1:k*b+wt e p=q.1:=by omega
  refine ⟨p,add D q.1,aoK hp1,by rw [e1]; exact ade hq,?_,?_,hv.symm⟩
  ·rw [←hk]; exact Int.ediv_nonneg o2 (by omega)
  ·rw [←hk]
   exact Int.le_of_lt_add_one (Int.ediv_lt_of_lt_mul hb (by
    have:(Ji u e l b a+1)*b=b*Ji u e l b a+b:=by rw [Int.add_mul,Int.mul_comm]; omega
    omega))
 ·rintro ⟨p,t,hp,hc,h0,h1,rfl⟩
  obtain ⟨q,hq,hq1⟩:=aoe hc
  have hg:add D q.1=t:=by unfold add; rw [hq1,hc]; rfl
  refine List.mem_flatMap.mpr ⟨q,hq,List.mem_map.mpr ⟨(p,k),?_,?_⟩⟩
  ·refine List.mem_map.mpr ⟨p,List.mem_filter.mpr ⟨ahM hp,?_⟩,?_⟩
   ·simp only [okQ,Bool.and_eq_true,decide_eq_true_eq]
    have e1:q.1 - wt e p=k*b:=by omega
    rw [e1]
    refine ⟨Int.mul_emod_left _ _,Int.mul_nonneg h0 (by omega),?_⟩
    rw [Int.mul_comm]
    exact Int.mul_le_mul_of_nonneg_left h1 (by omega)
   ·have e1:q.1 - wt e p=k*b:=by omega
    rw [e1,Int.mul_ediv_cancel _ (by omega)]
  ·rw [hg]
noncomputable def NkD (u e l b N:Int) (ps:St1) (j:Nat) (D:KV St1):Prop:=∀ k,Qk (ps.drop (ps.length - j)) (qm D k) fun t=>(j=0 ∨ (0<=k/\k<=Ji u e l b (ps.length - j)))/\t.length=j/\t.all (okP u l)=true/\k*b ^ j+val b e t=N
theorem aoh (N:Int) (ps:St1):NkD u e l b N ps 0 [(N,[])]:=fun k=>by
 rw [JD]
 refine ⟨fun s hs=>?_,fun s ⟨_,h1,h2,h3⟩=>?_⟩
 ·by_cases hk:N=k
  ·rw [if_pos hk] at hs
   cases hs
   exact ⟨.inl rfl,rfl,rfl,by subst hk; simp [val]⟩
  ·rw [if_neg hk] at hs; simp [qm] at hs
 ·have:s=[]:=List.eq_nil_of_length_eq_zero h1
  subst this
  have:N=k:=by simp [val] at h3; omega
  exact ⟨[],by rw [if_pos this],Int.le_refl _⟩
theorem aoi (h:okN u e l b=true) {N:Int}{ps:St1}{j:Nat} (hj:j < ps.length) {D:KV St1} (H:NkD u e l b N ps j D):NkD u e l b N ps (j+1) (aiY u e l b (ps.length - (j+1)) (ps.drop (ps.length - (j+1))) D):=fun k=>by
 obtain ⟨a1,a2,a3,a4,a5,a6,a7,a8,a9,a10⟩:=qR h
 have hb:0 < b:=by omega
 obtain ⟨p0,hp0⟩:∃ p0,ps.drop (ps.length - (j+1))=p0::ps.drop (ps.length - j):=by
  have hlt:ps.length - (j+1) < ps.length:=by omega
  refine ⟨ps[ps.length - (j+1)],?_⟩
  rw [List.drop_eq_getElem_cons hlt,show ps.length - (j+1)+1=ps.length - j by omega]
 have q:=aq4 (ps.drop (ps.length - (j+1))) k (D.flatMap (ntr u e l b (ps.length - (j+1)) D))
 refine ⟨fun s hs=>?_,fun s hs=>?_⟩
 ·obtain ⟨p,t,hp,hc,h0,h1,rfl⟩:=(aiZ hb).mp (q.1 s hs)
  obtain ⟨_,t1,t2,t3⟩:=(H _).1 t hc
  refine ⟨.inr ⟨h0,h1⟩,by rw [List.length_cons,t1],by rw [List.all_cons,hp,t2]; rfl,?_⟩
  rw [agq,t1,←t3,Int.add_mul,Int.pow_succ,Int.mul_comm (b ^ j) b,←Int.mul_assoc]
  omega
 ·obtain ⟨hk,t1,t2,t3⟩:=hs
  obtain ⟨h0,h1⟩:=hk.resolve_left (by omega)
  cases s with
  | nil=>cases t1
  | cons p t=>
   rw [List.all_cons,Bool.and_eq_true] at t2
   have t1':t.length=j:=by simpa using t1
   have w0:=aiM a3 t2.1
   obtain ⟨q1,q2,q3,q4⟩:=qJ t2.1
   have w1:wt e p<=wt e (u,l):=by
    have:=Int.mul_le_mul_of_nonneg_right q2 (show 0<=e by omega)
    unfold wt; show p.1*e+p.2<=u*e+l; omega
   have hr:ps.length - j=(ps.length - (j+1))+1:=by omega
   have hm:=ahN (u:=u) (e:=e) (l:=l) (b:=b) (ps.length - (j+1))
   have hkb:k*b<=Ji u e l b (ps.length - (j+1))*b:=Int.mul_le_mul_of_nonneg_right h1 (by omega)
   have hkb0:0<=k*b:=Int.mul_nonneg h0 (by omega)
   obtain ⟨c,hc,hl⟩:=(H (k*b+wt e p)).2 t ⟨.inr ⟨by omega,by rw [hr,hm]; omega⟩,t1',t2.2,by
    rw [agq,t1',Int.pow_succ,Int.mul_comm (b ^ j) b,←Int.mul_assoc] at t3
    rw [Int.add_mul]; omega⟩
   obtain ⟨x,hx,hx2⟩:=q.2 (p::c) ((aiZ hb).mpr ⟨p,c,t2.1,hc,h0,h1,rfl⟩)
   refine ⟨x,hx,?_⟩
   rw [hp0] at hx2 ⊢
   have e1:far (p0::ps.drop (ps.length - j)) (p::c)=fd p0 p+far (ps.drop (ps.length - j)) c:=rfl
   have e2:far (p0::ps.drop (ps.length - j)) (p::t)=fd p0 p+far (ps.drop (ps.length - j)) t:=rfl
   omega
theorem akc (a:Nat) (here:St1) (D:KV St1) (h:okN u e l b=true):(aiY u e l b a here D).length<=D.length*48:=by
 have h48:=abM h
 unfold aiY
 have h1:=aeo here (D.flatMap (ntr u e l b a D)) []
 have h2:=agp (ntr u e l b a D) 48 (fun x=>Nat.le_trans (aiX u e l b a D x) h48) D
 rw [List.length_nil] at h1
 omega
noncomputable def oS:Option St1->PyData
 | some s=>jh s
 | none=> .none
theorem akd {M S N A DD D':PyData} (g:zK [M,S,A,DD]=some D'):Qv.1 [some M,some S,some N,some DD,some A]=some (.nx [some M,some S,some N,some D',some A]):=by
 dsimp? [Qv,g]
theorem afn {M S D0 D' X:PyData}{n r:Int}{RR:List PyData}{x4:Option PyData} (c1:jS [M,S]=some .none) (c2:zr [.int n]=some .none) (d0:PyData.dict [(.none,.none),(.int n,.tuple [])]=D0) (ln:Jd [S]=some (.int r)) (rg:aln [.int (r - 1),.int (-1),.int (-1)]=some RR) (lp:jP (jJ 4) Qv.1 RR [some M,some S,some (.int n),some D0,none]=some (.nx [some M,some S,some (.int n),some D',x4])) (g1:afN D' (.int 0)=some X):qw [M,S,.int n]=some X:=by
 have s1:aaa (.int r) (.int 1)=some (.int (r - 1)):=rfl
 have ng:afL (.int 1)=some (.int (-1)):=rfl
 have fn:few ([]:List PyData)=true:=Jc
 refine jO rfl ?_
 show Qw.1 [some M,some S,some (.int n),none,none]=_
 simp only [Qw]
 refine (jv (ρ1:=[some M,some S,some (.int n),none,none]) ?_).trans ?_
 ·dsimp? [c1]
 refine (jv (ρ1:=[some M,some S,some (.int n),none,none]) ?_).trans ?_
 ·dsimp? [c2]
 refine (jv (ρ1:=[some M,some S,some (.int n),some D0,none]) ?_).trans ?_
 ·dsimp? [ajy,fn,d0]
 refine (jv (ρ1:=[some M,some S,some (.int n),some D',x4]) ?_).trans ?_
 ·dsimp? [Jn,ln,s1,ng,rg]
  exact lp
 dsimp? [g1]
theorem agF (H:QA=true) (h:okN u e l b=true) {ps:St1} (hs:okS u l ps=true) (h3:ps.length<=3) {n:Int} (h0:0<=n) (hn:n<=99999):∃ d,qw [jm u e l b,jh ps,.int n]=some (oS d)/\Qk ps d fun t=>t.length=ps.length/\t.all (okP u l)=true/\val b e t=n:=by
 obtain ⟨h1,h4,hp⟩:=ql hs
 have p48:∀ j:Nat,j<=2->(48:Nat) ^ j<=2304:=fun j hj=>by
  rcases (show j=0 ∨ j=1 ∨ j=2 by omega) with rfl | rfl | rfl <;> decide
 obtain ⟨ρ',hl,hI⟩:=Jj (ga:=jJ 4) (F:=Qv.1) (fun i ρ=>∃ D x4,ρ=[some (jm u e l b),some (jh ps),some (.int n),some (dV jh D),x4]/\NkD u e l b n ps i D/\D.length<=48 ^ i) ((List.range ps.length).map fun (j:Nat)=> .int (((ps.length - (j+1):Nat):Int))) 0
  [some (jm u e l b),some (jh ps),some (.int n),some (dV jh [(n,[])]),none] ⟨_,_,rfl,aoh n ps,by simp⟩ (fun j d ρ hd hi=>by
   obtain ⟨hj,rfl⟩:=amh hd
   obtain ⟨D,x4,rfl,i2,i4⟩:=hi
   rw [Nat.zero_add] at i2 i4
   have pj:=p48 j (by omega)
   have ht:∀ p ∈ D,(add D p.1).length<=4:=fun p hp=>by
    have:=((i2 p.1).1 _ (ade hp)).2.1
    omega
   have g:=afm h (ps.length - (j+1)) (by omega) h4 ht (by omega)
   refine ⟨_,_,rfl,akd g,_,_,rfl,by rw [Nat.zero_add]; exact aoi h hj i2,?_⟩
   have:=akc (ps.length - (j+1)) (ps.drop (ps.length - (j+1))) D h
   rw [Nat.zero_add,Nat.pow_succ]
   omega)
 obtain ⟨D,x4,rfl,i2,i4⟩:=hI
 rw [List.length_map,List.length_range,Nat.zero_add] at i2
 refine ⟨qm D 0,?_,?_⟩
 ·have g1:afN (dV jh D) (.int 0)=some (oS (qm D 0)):=by
   show some ((Q7 (Qj jh D) 0).getD .none)=_
   rw [abN]
   cases qm D 0 <;> rfl
  exact afn (aek H h hs).1 (agn h0 hn) rfl (zo ps) (aj0 h1 h3) hl g1
 ·have q:=i2 0
  rw [Nat.sub_self,List.drop_zero] at q
  refine q.iff fun t=>?_
  constructor
  ·rintro ⟨_,t1,t2,t3⟩
   exact ⟨t1,t2,by rw [Int.zero_mul] at t3; omega⟩
  ·rintro ⟨t1,t2,t3⟩
   exact ⟨.inr ⟨Int.le_refl _,Int.le_refl _⟩,t1,t2,by rw [Int.zero_mul]; omega⟩
theorem ah0 {M S N Z:PyData}{v:Int} (g:qw [M,S,N]=some Z) (nz:alq Z=false) (a:aap [S,Z]=some (.int v)):qh [M,S,N]=some (.int v):=by
 have is:ajA Z .none=some (.bool false):=by show some (PyData.bool (alq Z))=_; rw [nz]
 refine jO rfl ?_
 show qP.1 [some M,some S,some N,none]=_
 dsimp? [qP,g,is,a]
noncomputable def nuB (b e:Int) (ps:St1) (d:PyData):Int:=match zy [jh ps,d] with
 | some (.tuple xs)=>match Zr xs with
  | some qs=>val b e qs
  | none=>0
 | _=>0
theorem agG:∀ qs:St1,Zr (qs.map pr)=some qs
 | []=>rfl
 | q::qs=>by
  have:=agG qs
  simp only [List.map_cons,Zr]
  have e1:aiB (pr q)=some q:=rfl
  rw [e1,this]
  rfl
theorem amC {ps qs:St1}{d:PyData} (t:Th u e l b ps d (some qs)):nuB b e ps d=val b e qs:=by
 unfold nuB
 rw [(t.bm _ rfl).1]
 show (match Zr (qs.map pr) with | some qs=>val b e qs | none=>0)=_
 rw [agG]
noncomputable def agH (u e l b:Int) (ps:St1) (n:Int):List PyData:=(ab6 (jm u e l b) (jh ps) ps.length).filter fun d=>decide (nuB b e ps d=n)
theorem ah1 {M S:PyData}{ms zs:List PyData}{n:Int} (c1:jS [M,S]=some .none) (c2:zr [.int n]=some .none) (am:Qs [M,S]=some (.list ms)) (fw:few ms=true) (cp:jX (jJ 0) (tst (op2 dEq (jM ahF (jr (lkp 2) (jr (jM zy (jr (lkp 3) (jr (lkp 0) jF))) jF))) (lkp 1))) (lkp 0) ms [none,some (.int n),some M,some S]=some zs):Qi [M,S,.int n]=some (.list zs):=by
 have it:items (.list ms)=some ms:=rfl
 refine jO rfl ?_
 show abF.1 [some M,some S,some (.int n),none]=_
 simp only [abF]
 refine (jv (ρ1:=[some M,some S,some (.int n),none]) ?_).trans ?_
 ·dsimp? [c1]
 refine (jv (ρ1:=[some M,some S,some (.int n),none]) ?_).trans ?_
 ·dsimp? [c2]
 refine (jv (ρ1:=[some M,some S,some (.int n),some (.list ms)]) ?_).trans ?_
 ·dsimp? [am]
 dsimp? [qB,itS,JS,List.map_cons,List.map_nil,it,fw,cp]
theorem aep (H:QA=true) (h:okN u e l b=true) {ps:St1} (hs:okS u l ps=true) {n:Int} (h0:0<=n) (hn:n<=99999):Qi [jm u e l b,jh ps,.int n]=some (.list (agH u e l b ps n)):=by
 obtain ⟨h1,h4,hp⟩:=ql hs
 have ml:=ac9 (jm u e l b) (jh ps) ps.length
 refine ah1 (aek H h hs).1 (agn h0 hn) (afj H h hs) (ahV (by omega)) ?_
 have cp:=aaD (ft:=tst (op2 dEq (jM ahF (jr (lkp 2) (jr (jM zy (jr (lkp 3) (jr (lkp 0) jF))) jF))) (lkp 1))) (fe:=lkp 0) (i:=0) (fun d=>decide (nuB b e ps d=n)) id (ab6 (jm u e l b) (jh ps) ps.length) [none,some (.int n),some (jm u e l b),some (jh ps)] (fun d hd=>by
   obtain ⟨⟨qs,t⟩,_⟩:=agv hs (Nat.le_refl _) hd
   obtain ⟨bm,ok⟩:=t.bm _ rfl
   obtain ⟨_,q4,qp⟩:=ql ok
   have g:=aiO (e:=e) h q4 qp
   have dq:=acn (val b e qs) n
   rw [amC t]
   generalize jm u e l b=M at*
   generalize jh ps=T at*
   generalize jh qs=Q at*
   dsimp? [bm,g,dq]) (fun d hd _=>by dsimp? [id])
 rw [List.map_id] at cp
 exact cp
theorem ai0:∀ (ps qs:List (Int × Int)) (i:Nat),∀ d ∈ mvL i ps qs,shl 2 d
 | [],_,_,d,hd=>by simp [mvL] at hd
 | _::_,[],_,d,hd=>by simp [mvL] at hd
 | p::ps,q::qs,i,d,hd=>by
  simp only [mvL] at hd
  have hm:∀ (r:Int) (k:Bool) (c:Int),shl 2 (mv r k c):=fun r k c=>acq.mpr fun x hx=>by
   simp only [List.mem_cons,List.not_mem_nil,or_false] at hx
   rcases hx with rfl | rfl | rfl
   ·exact aa9 _
   ·exact ⟨by cases k <;> kernel_rfl,by simp [qC,PyData.depth]⟩
   ·exact aa9 _
  rcases List.mem_append.mp hd with z | z
  ·rcases List.mem_append.mp z with w | w
   ·rw [List.eq_of_mem_replicate w]; exact hm _ _ _
   ·rw [List.eq_of_mem_replicate w]; exact hm _ _ _
  ·exact ai0 ps qs (i+1) d z
theorem amD (h:okN u e l b=true) {n:Int} (A:SL):jX (jJ 0) (tst (op2 dEq (jM Jw (jr (lkp 2) (jr (lkp 0) jF))) (lkp 1))) (lkp 0) (A.map jh) [none,some (.int n),some (jm u e l b)]=some ((A.filter fun t=>decide (val b e t=n)).map jh):=by
 have q:∀ (A:SL) (x:Option PyData),jX (jJ 0) (tst (op2 dEq (jM Jw (jr (lkp 2) (jr (lkp 0) jF))) (lkp 1))) (lkp 0) (A.map jh) [x,some (.int n),some (jm u e l b)]=some ((A.filter fun t=>decide (val b e t=n)).map jh):=by
  intro A
  induction A with
  | nil=>intro x; rfl
  | cons t A ih=>
   intro x
   have g:=QW h t
   have ih:=ih (some (jh t))
   have dq:=acn (val b e t) n
   rw [List.map_cons]
   generalize hM:jm u e l b=M at*
   generalize hT:jh t=Z at*
   dsimp? [jX,g,dq,ih]
   by_cases hp:val b e t=n
   ·simp [hp,List.filter_cons,hT]
   ·simp [hp,List.filter_cons]
 exact q A none
end
noncomputable abbrev rfd (i:Int):PyData:= .tuple [.str "refused",.int i]
theorem afo:qI [Jm "NoManner"]=some (rfd 0):=by kernel_rfl
theorem afp:("NoManner":Str) ∈ qV:=by decide
theorem aaj:qI [Jm "NoSetting"]=some (rfd 1):=by kernel_rfl
theorem aak:("NoSetting":Str) ∈ qV:=by decide
theorem QX:qI [Jm "NoNumber"]=some (rfd 2):=by kernel_rfl
theorem QY:("NoNumber":Str) ∈ qV:=by decide
theorem ah2:qI [Jm "NoMove"]=some (rfd 3):=by kernel_rfl
theorem ah3:("NoMove":Str) ∈ qV:=by decide
theorem Qe {α:Type} (x:Unit->Option α):(none:Option α).orElse x=x ():=rfl
theorem Qf {α:Type} (a:α) (x:Unit->Option α):(some a).orElse x=some a:=rfl
theorem agI:dIx (.list [fnD "nearest",fnD "fewest_moves",fnD "slips",fnD "moves_to"]) (.int 0)=some (fnD "nearest"):=rfl
theorem agJ:zw "nearest" (fnD "fewest_moves")=false:=by decide
theorem agK:zw "nearest" (fnD "slips")=false:=by decide
theorem agL:zw "nearest" (fnD "moves_to")=false:=by decide
theorem agM:dIx (.list [fnD "nearest",fnD "fewest_moves",fnD "slips",fnD "moves_to"]) (.int 1)=some (fnD "fewest_moves"):=rfl
theorem agN:zw "fewest_moves" (fnD "nearest")=false:=by decide
theorem agO:zw "fewest_moves" (fnD "slips")=false:=by decide
theorem agP:zw "fewest_moves" (fnD "moves_to")=false:=by decide
theorem agQ:dIx (.list [fnD "nearest",fnD "fewest_moves",fnD "slips",fnD "moves_to"]) (.int 2)=some (fnD "slips"):=rfl
theorem agR:zw "slips" (fnD "nearest")=false:=by decide
theorem agS:zw "slips" (fnD "fewest_moves")=false:=by decide
theorem agT:zw "slips" (fnD "moves_to")=false:=by decide
theorem agU:dIx (.list [fnD "nearest",fnD "fewest_moves",fnD "slips",fnD "moves_to"]) (.int 3)=some (fnD "moves_to"):=rfl
theorem agV:zw "moves_to" (fnD "nearest")=false:=by decide
theorem agW:zw "moves_to" (fnD "fewest_moves")=false:=by decide
theorem agX:zw "moves_to" (fnD "slips")=false:=by decide
theorem aq5 {m s t d:PyData} (g:qw [m,s,t]=some d):jH [.int 0,m,s,t]=some d:=by
 refine jO rfl ?_
 show qY.1 [some (.int 0),some m,some s,some t,none]=_
 dsimp? [qY,Zq,agI,agM,agQ,agU,agJ,agK,agL,agN,agO,agP,agR,agS,agT,agV,agW,agX,za,Qe,Qf,orD,abt,Qq,fw4,g]
theorem amE {m s t d:PyData}{c:Str} (g:qw [m,s,t]=none) (x:JQ [m,s,t]=some c) (hc:c ∈ qV) (hr:qI [Jm c]=some d):jH [.int 0,m,s,t]=some d:=by
 refine jO rfl ?_
 show qY.1 [some (.int 0),some m,some s,some t,none]=_
 have hb:lkp 4 ((aaf 5).set 4 (some (Jm c)))=some (Jm c):=rfl
 unfold lkp at hb
 dsimp? [qY,Zq,agI,agM,agQ,agU,agJ,agK,agL,agN,agO,agP,agR,agS,agT,agV,agW,agX,za,Qe,Qf,orD,abt,Qq,fw4,g,x,hc,hb,hr]
theorem aq6 {m s t d:PyData} (g:qh [m,s,t]=some d):jH [.int 1,m,s,t]=some d:=by
 refine jO rfl ?_
 show qY.1 [some (.int 1),some m,some s,some t,none]=_
 dsimp? [qY,Zq,agI,agM,agQ,agU,agJ,agK,agL,agN,agO,agP,agR,agS,agT,agV,agW,agX,za,Qe,Qf,orD,abt,Qq,fw4,g]
theorem amF {m s t d:PyData}{c:Str} (g:qh [m,s,t]=none) (x:Jv [m,s,t]=some c) (hc:c ∈ qV) (hr:qI [Jm c]=some d):jH [.int 1,m,s,t]=some d:=by
 refine jO rfl ?_
 show qY.1 [some (.int 1),some m,some s,some t,none]=_
 have hb:lkp 4 ((aaf 5).set 4 (some (Jm c)))=some (Jm c):=rfl
 unfold lkp at hb
 dsimp? [qY,Zq,agI,agM,agQ,agU,agJ,agK,agL,agN,agO,agP,agR,agS,agT,agV,agW,agX,za,Qe,Qf,orD,abt,Qq,fw4,g,x,hc,hb,hr]
theorem aoM {m s t d:PyData} (g:Qi [m,s,t]=some d):jH [.int 2,m,s,t]=some d:=by
 refine jO rfl ?_
 show qY.1 [some (.int 2),some m,some s,some t,none]=_
 dsimp? [qY,Zq,agI,agM,agQ,agU,agJ,agK,agL,agN,agO,agP,agR,agS,agT,agV,agW,agX,za,Qe,Qf,orD,abt,Qq,fw4,g]
theorem amG {m s t d:PyData}{c:Str} (g:Qi [m,s,t]=none) (x:acZ [m,s,t]=some c) (hc:c ∈ qV) (hr:qI [Jm c]=some d):jH [.int 2,m,s,t]=some d:=by
 refine jO rfl ?_
 show qY.1 [some (.int 2),some m,some s,some t,none]=_
 have hb:lkp 4 ((aaf 5).set 4 (some (Jm c)))=some (Jm c):=rfl
 unfold lkp at hb
 dsimp? [qY,Zq,agI,agM,agQ,agU,agJ,agK,agL,agN,agO,agP,agR,agS,agT,agV,agW,agX,za,Qe,Qf,orD,abt,Qq,fw4,g,x,hc,hb,hr]
theorem aq7 {m s t d:PyData} (g:qW [m,s,t]=some d):jH [.int 3,m,s,t]=some d:=by
 refine jO rfl ?_
 show qY.1 [some (.int 3),some m,some s,some t,none]=_
 dsimp? [qY,Zq,agI,agM,agQ,agU,agJ,agK,agL,agN,agO,agP,agR,agS,agT,agV,agW,agX,za,Qe,Qf,orD,abt,Qq,fw4,g]
theorem ah4 {m s t d:PyData}{c:Str} (g:qW [m,s,t]=none) (x:Qx [m,s,t]=some c) (hc:c ∈ qV) (hr:qI [Jm c]=some d):jH [.int 3,m,s,t]=some d:=by
 refine jO rfl ?_
 show qY.1 [some (.int 3),some m,some s,some t,none]=_
 have hb:lkp 4 ((aaf 5).set 4 (some (Jm c)))=some (Jm c):=rfl
 unfold lkp at hb
 dsimp? [qY,Zq,agI,agM,agQ,agU,agJ,agK,agL,agN,agO,agP,agR,agS,agT,agV,agW,agX,za,Qe,Qf,orD,abt,Qq,fw4,g,x,hc,hb,hr]
section
variable {m s t:PyData}{c:Str}
theorem apY (g:jS [m,s]=none) (x:qf [m,s]=some c):qw [m,s,t]=none/\JQ [m,s,t]=some c:=by
 constructor
 ·simp [qw,jC,Qw,jN,jV,QG,jM,jr,jF,lkp,g]
 ·refine zg rfl ?_
  show Qy.1 [some m,some s,some t,none,none]=_
  simp [Qy,orX,jM,jr,jF,lkp,x]
theorem apZ (g:jS [m,s]=some .none) (x:qf [m,s]=none) (g2:zr [t]=none) (x2:ZY [t]=some c):qw [m,s,t]=none/\JQ [m,s,t]=some c:=by
 constructor
 ·simp [qw,jC,Qw,jN,jV,QG,jM,jr,jF,lkp,g,g2]
 ·refine zg rfl ?_
  show Qy.1 [some m,some s,some t,none,none]=_
  simp [Qy,orX,nxX,QG,jM,jr,jF,lkp,g,x,g2,x2]
theorem aoN (g:qw [m,s,t]=none) (x:JQ [m,s,t]=some c):qh [m,s,t]=none/\Jv [m,s,t]=some c:=by
 constructor
 ·simp [qh,jC,qP,jN,jV,zA,jM,jr,jF,lkp,g]
 ·refine zg rfl ?_
  show Ju.1 [some m,some s,some t,none]=_
  simp [Ju,orX,jM,jr,jF,lkp,x]
theorem ap0 (g:jS [m,s]=none) (x:qf [m,s]=some c):Qi [m,s,t]=none/\acZ [m,s,t]=some c:=by
 constructor
 ·simp [Qi,jC,abF,jN,jV,QG,jM,jr,jF,lkp,g]
 ·refine zg rfl ?_
  show abI.1 [some m,some s,some t,none]=_
  simp [abI,orX,jM,jr,jF,lkp,x]
theorem ap1 (g:jS [m,s]=some .none) (x:qf [m,s]=none) (g2:zr [t]=none) (x2:ZY [t]=some c):Qi [m,s,t]=none/\acZ [m,s,t]=some c:=by
 constructor
 ·simp [Qi,jC,abF,jN,jV,QG,jM,jr,jF,lkp,g,g2]
 ·refine zg rfl ?_
  show abI.1 [some m,some s,some t,none]=_
  simp [abI,orX,nxX,QG,jM,jr,jF,lkp,g,x,g2,x2]
theorem arN (g:jS [m,s]=none) (x:qf [m,s]=some c):qW [m,s,t]=none/\Qx [m,s,t]=some c:=by
 constructor
 ·simp [qW,jC,JM,jN,jV,QG,jM,jr,jF,lkp,g]
 ·refine zg rfl ?_
  show Jh.1 [some m,some s,some t,none,none,none,none,none]=_
  simp [Jh,orX,jM,jr,jF,lkp,x]
theorem aq8 (g:jS [m,s]=some .none) (x:qf [m,s]=none) (g2:jS [m,t]=none) (x2:qf [m,t]=some c):qW [m,s,t]=none/\Qx [m,s,t]=some c:=by
 constructor
 ·simp [qW,jC,JM,jN,jV,QG,jM,jr,jF,lkp,g,g2]
 ·refine zg rfl ?_
  show Jh.1 [some m,some s,some t,none,none,none,none,none]=_
  simp [Jh,orX,nxX,QG,jM,jr,jF,lkp,g,x,g2,x2]
theorem ap2 {i j:Int} (g:jS [m,s]=some .none) (x:qf [m,s]=none) (g2:jS [m,t]=some .none) (x2:qf [m,t]=none) (l1:Jd [s]=some (.int i)) (l2:Jd [t]=some (.int j)) (ne:dNe (.int i) (.int j)=some (.bool true)):qW [m,s,t]=none/\Qx [m,s,t]=some ("NoMove":Str):=by
 constructor
 ·simp [qW,jC,JM,jN,jV,QG,ifS,tst,asB,op2,aeF,jM,jr,jF,lkp,g,g2,l1,l2,ne]
 ·refine zg rfl ?_
  show Jh.1 [some m,some s,some t,none,none,none,none,none]=_
  simp [Jh,orX,nxX,QG,ifX,tst,asB,op2,jM,jr,jF,lkp,g,x,g2,x2,l1,l2,ne]
theorem aoO {i:Int} (g:jS [m,s]=none) (x:qf [m,s]=some c) (hc:c ∈ qV) (hr:qI [Jm c]=some (rfd i)):jH [.int 0,m,s,t]=some (rfd i)/\jH [.int 1,m,s,t]=some (rfd i)/\jH [.int 2,m,s,t]=some (rfd i)/\jH [.int 3,m,s,t]=some (rfd i):=by
 obtain ⟨a1,a2⟩:=apY (t:=t) g x
 obtain ⟨b1,b2⟩:=aoN a1 a2
 obtain ⟨c1,c2⟩:=ap0 (t:=t) g x
 obtain ⟨d1,d2⟩:=arN (t:=t) g x
 exact ⟨amE a1 a2 hc hr,amF b1 b2 hc hr,amG c1 c2 hc hr,ah4 d1 d2 hc hr⟩
end
section
variable {u e l b:Int}{ps:List (Int × Int)}
theorem ck2 (H:QA=true) (h:okN u e l b=true) (hs:okS u l ps=true):jS [jm u e l b,jh ps]=some .none/\qf [jm u e l b,jh ps]=none:=by
 have hb:Q8 u l (jh ps)=true:=by rw [aeg]; exact hs
 exact ⟨(aek H h hs).1,ahU (apN H h) (aa8 ps) hb⟩
theorem ap3 (H:QA=true) (h:okN u e l b=true) {d t:PyData} (hd:noD d=true) (hs:Q8 u l d=false):jH [.int 0,jm u e l b,d,t]=some (rfd 1)/\jH [.int 1,jm u e l b,d,t]=some (rfd 1)/\jH [.int 2,jm u e l b,d,t]=some (rfd 1)/\jH [.int 3,jm u e l b,d,t]=some (rfd 1):=by
 obtain ⟨g,x⟩:=aml H h hd hs
 exact aoO g x aak aaj
theorem ap4 (H:QA=true) (h:okN u e l b=true) (hs:okS u l ps=true) {d:PyData} (hd:noD d=true) (w:whB 0 99999 d=false) (ht:Q8 u l d=false):jH [.int 0,jm u e l b,jh ps,d]=some (rfd 2)/\jH [.int 1,jm u e l b,jh ps,d]=some (rfd 2)/\jH [.int 2,jm u e l b,jh ps,d]=some (rfd 2)/\jH [.int 3,jm u e l b,jh ps,d]=some (rfd 1):=by
 obtain ⟨g,x⟩:=ck2 H h hs
 obtain ⟨g2,x2⟩:=apR hd w
 obtain ⟨a1,a2⟩:=apZ g x g2 x2
 obtain ⟨b1,b2⟩:=aoN a1 a2
 obtain ⟨c1,c2⟩:=ap1 g x g2 x2
 obtain ⟨g3,x3⟩:=aml H h hd ht
 obtain ⟨d1,d2⟩:=aq8 g x g3 x3
 exact ⟨amE a1 a2 QY QX,amF b1 b2 QY QX,amG c1 c2 QY QX,ah4 d1 d2 aak aaj⟩
theorem aoj (b l e u:Int) (s t:PyData):jH [.int 0,.tuple [.int b,.int l,.int e,.int u,.int 0],s,t]=some (rfd 0)/\jH [.int 1,.tuple [.int b,.int l,.int e,.int u,.int 0],s,t]=some (rfd 0)/\jH [.int 2,.tuple [.int b,.int l,.int e,.int u,.int 0],s,t]=some (rfd 0)/\jH [.int 3,.tuple [.int b,.int l,.int e,.int u,.int 0],s,t]=some (rfd 0):=by
 have hM:j1 [.tuple [.int b,.int l,.int e,.int u,.int 0]]=some (.bool false):=rfl
 exact aoO (agr hM) (ags hM) afp afo
theorem aok (H:QA=true) (h:okN u e l b=true) (hs:okS u l ps=true) {qs:List (Int × Int)} (ht:okS u l qs=true) (hl:qs.length=ps.length+1):jH [.int 3,jm u e l b,jh ps,jh qs]=some (rfd 3):=by
 obtain ⟨g,x⟩:=ck2 H h hs
 obtain ⟨g2,x2⟩:=ck2 H h ht
 obtain ⟨d1,d2⟩:=ap2 g x g2 x2 (zo ps) (zo qs) (by rw [afh,decide_eq_false (by omega)]; rfl)
 exact ah4 d1 d2 ah3 ah2
end
theorem amH (i j:Int):ab (i - j)=ab (j - i):=by unfold ab; split <;> split <;> omega
theorem aeq:∀ (ps qs:List (Int × Int)) (x y:Option PyData),jX (JR 2 (jR (jJ 0) (jR (jJ 1) zi))) Zc (op2 zB (jM afX (jr (op2 aaa (op2 dIx (lkp 0) (cst (.int 0))) (op2 dIx (lkp 1) (cst (.int 0)))) jF)) (jM afX (jr (op2 aaa (op2 dIx (lkp 0) (cst (.int 1))) (op2 dIx (lkp 1) (cst (.int 1)))) jF))) (zS (ps.map pr) (qs.map pr)) [x,y]=some ((List.zipWith fd ps qs).map .int)
 | [],qs,x,y=>rfl
 | p::ps,[],x,y=>rfl
 | p::ps,q::qs,x,y=>by
  have ih:=aeq ps qs (some (pr p)) (some (pr q))
  have i0:∀ p:Int × Int,dIx (pr p) (.int 0)=some (.int p.1):=fun _=>rfl
  have i1:∀ p:Int × Int,dIx (pr p) (.int 1)=some (.int p.2):=fun _=>rfl
  have s1:∀ i j:Int,aaa (.int i) (.int j)=some (.int (i - j)):=fun _ _=>rfl
  have a1:∀ i:Int,afX [.int i]=some (.int (ab i)):=fun _=>rfl
  have ga:JR 2 (jR (jJ 0) (jR (jJ 1) zi)) (.tuple [pr p,pr q]) [x,y]=some [some (pr p),some (pr q)]:=rfl
  have ef:ab (p.1 - q.1)+ab (p.2 - q.2)=fd p q:=by unfold fd; rw [amH p.1,amH p.2]
  simp only [List.map_cons,zS,jX,ga,zzD,Zc,zzM,List.zipWith_cons_cons]
  dsimp? [i0,i1,s1,a1,add_int,ef,ih]
theorem adf (ps qs:List (Int × Int)) (h:ps.length<=4):abT [jh ps,jh qs]=some (.int (far ps qs)):=by
 have c:=aeq ps qs none none
 have z:afV [jh ps,jh qs]=some (zS (ps.map pr) (qs.map pr)):=rfl
 have f:=aen ps qs h
 have sm:anp [.list ((List.zipWith fd ps qs).map .int)]=some (.int (far ps qs)):=by
  show (qU ((List.zipWith fd ps qs).map PyData.int)).map _=_
  rw [aat,←afl]
  rfl
 refine jO rfl ?_
 show aiL.1 [some (jh ps),some (jh qs)]=_
 generalize jh ps=S at*
 generalize jh qs=T at*
 dsimp? [aiL,qB,JS,List.map_cons,List.map_nil,z,f,c,sm]
theorem aoP {M T:PyData}{Z1 Z2:PyData}{r jj z w c:Int}{k:Bool}{F:List PyData}{x5:Option PyData} (hc:-1000 < c/\c < 1000) (hF:F.length < 50000) (dk:dIx (.tuple [.str "upper",.str "lower"]) (.int jj)=some (qC k)) (q1:dIx T (.int r)=some Z1) (q2:dIx Z1 (.int jj)=some (.int z)) (q3:dIx M (.int r)=some Z2) (q4:dIx Z2 (.int jj)=some (.int w)) (hz:z - w=c):
  aa3.1 [some M,some T,some (.list F),some (.int r),some (.int jj),x5]=some (.nx [some M,some T,some (.list (F++mvD r k c)),some (.int r),some (.int jj),some (.int c)]):=by
 have s1:aaa (.int z) (.int w)=some (.int c):=by show some (PyData.int (z - w))=_; rw [hz]
 have gt:Jo (fun i j=>decide (i > j)) (.int c) (.int 0)=some (.bool (decide (c > 0))):=rfl
 have ng:afL (.int 1)=some (.int (-1)):=rfl
 have a1:afX [.int c]=some (.int (ab c)):=rfl
 have hab:ab c=(c.natAbs:Int):=by unfold ab; split <;> omega
 have rp:∀ s:Int,abR (.list [.tuple [.int r,qC k,.int s]]) (.int (ab c))=some (.list (List.replicate c.natAbs (mv r k s))):=fun s=>by
  show (if [mv r k s].length < 1000/\-1000 < ab c/\ab c < 1000 then some (PyData.list (List.replicate (ab c).toNat [mv r k s]).flatten) else none)=_
  rw [if_pos ⟨by simp,by omega,by omega⟩,aiP,hab,Int.toNat_natCast]
 have ad:zB (.list F) (.list (mvD r k c))=some (.list (F++mvD r k c)):=aiV (by have:=Z8 r k c; omega)
 unfold mvD sg at ad ⊢
 generalize qC k=K at*
 by_cases h:c > 0
 ·rw [decide_eq_true h] at gt
  have h':0 < c:=h
  rw [if_pos h'] at ad ⊢
  dsimp? [aa3,q1,q2,q3,q4,s1,dk,gt,fw3,fw1,a1,rp,ad]
 ·rw [decide_eq_false h] at gt
  have h':¬ 0 < c:=h
  rw [if_neg h'] at ad ⊢
  dsimp? [aa3,q1,q2,q3,q4,s1,dk,gt,ng,fw3,fw1,a1,rp,ad]
theorem rg2:QH [.int 2]=some [.int 0,.int 1]:=by kernel_rfl
theorem ap5 {M T:PyData}{r:Int}{F:List PyData}{p q:Int × Int}{x4 x5:Option PyData} (hF:F.length < 40000) (q1:dIx T (.int r)=some (pr q)) (q3:dIx M (.int r)=some (pr p)) (h1:-1000 < q.1 - p.1/\q.1 - p.1 < 1000) (h2:-1000 < q.2 - p.2/\q.2 - p.2 < 1000):
  ∃ y4 y5,ZA.1 [some M,some T,some (.list F),some (.int r),x4,x5]=some (.nx [some M,some T,some (.list (F++mvR r p q)),some (.int r),y4,y5]):=by
 have a:=aoP (k:=false) (F:=F) (x5:=x5) h1 (by omega) (jj:=0) rfl q1 (show dIx (pr q) (.int 0)=some (.int q.1) from rfl) q3 (show dIx (pr p) (.int 0)=some (.int p.1) from rfl) rfl
 have hl:=Z8 r false (q.1 - p.1)
 have hl2:ab (q.1 - p.1) < 1000:=by unfold ab; split <;> omega
 have c:=aoP (k:=true) (F:=F++mvD r false (q.1 - p.1)) (x5:=some (.int (q.1 - p.1))) h2 (by rw [List.length_append]; omega) (jj:=1) rfl q1 (show dIx (pr q) (.int 1)=some (.int q.2) from rfl) q3 (show dIx (pr p) (.int 1)=some (.int p.2) from rfl) rfl
 rw [List.append_assoc] at c
 refine ⟨some (.int 1),some (.int (q.2 - p.2)),?_⟩
 show _=some (Out.nx [some M,some T,some (.list (F++(mvD r false (q.1 - p.1)++mvD r true (q.2 - p.2)))),some (.int r),some (.int 1),some (.int (q.2 - p.2))])
 simp only [ZA]
 refine (jv ?_).trans rfl
 dsimp? [Jn,rg2,jP,a,c]
theorem ai1:∀ (ps qs:List (Int × Int)) (i:Nat) (p q:Int × Int),ps.length=qs.length->mvL i (ps++[p]) (qs++[q])=mvL i ps qs++mvR ((i+ps.length:Nat):Int) p q
 | [],[],i,p,q,_=>by simp [mvL]
 | [],_::_,i,p,q,h=>by cases h
 | _::_,[],i,p,q,h=>by cases h
 | a::ps,c::qs,i,p,q,h=>by
  have ih:=ai1 ps qs (i+1) p q (by simpa using h)
  simp only [List.cons_append,mvL,ih,List.length_cons,List.append_assoc]
  rw [show i+1+ps.length=i+(ps.length+1) by omega]
section
variable {u e l b:Int}
theorem agY {M T:PyData}{n:Int}{RR F:List PyData}{y3 y4 y5:Option PyData} (ln:Jd [M]=some (.int n)) (rg:QH [.int n]=some RR) (lp:jP (jJ 3) ZA.1 RR [some M,some T,some (.list []),none,none,none]=some (.nx [some M,some T,some (.list F),y3,y4,y5])):aa4 [M,T]=some (.list F):=by
 refine jO rfl ?_
 show acm.1 [some M,some T,none,none,none,none]=_
 simp only [acm]
 refine (jv (ρ1:=[some M,some T,some (.list []),none,none,none]) ?_).trans ?_
 ·dsimp? [Jc]
 refine (jv (ρ1:=[some M,some T,some (.list F),y3,y4,y5]) ?_).trans ?_
 ·dsimp? [Jn,ln,rg]
  exact lp
 dsimp? [zzA]
theorem ah5 {ps qs:List (Int × Int)} (hs:okS u l ps=true) (ht:okS u l qs=true) (hl:ps.length=qs.length) (hu:u<=100) (hl2:l<=100):aa4 [jh ps,jh qs]=some (.list (mvL 0 ps qs)):=by
 obtain ⟨h1,h4,hp⟩:=ql hs
 obtain ⟨_,h4',hq⟩:=ql ht
 have bd:∀ k:Nat,(mvL 0 (ps.take k) (qs.take k)).length<=400*k:=by
  have key:∀ (as bs:List (Int × Int)) (i:Nat),as.all (okP u l)=true->bs.all (okP u l)=true->(mvL i as bs).length<=400*as.length:=by
   intro as
   induction as with
   | nil=>intro bs i _ _; simp [mvL]
   | cons a as ih=>
    intro bs i ha hb
    cases bs with
    | nil=>simp [mvL]
    | cons c bs=>
     rw [List.all_cons,Bool.and_eq_true] at ha hb
     obtain ⟨p1,p2,p3,p4⟩:=qJ ha.1
     obtain ⟨r1,r2,r3,r4⟩:=qJ hb.1
     have hr:=aiW (i:Int) a c
     have hfd:fd a c<=400:=by unfold fd ab; split <;> split <;> omega
     have:=ih bs (i+1) ha.2 hb.2
     simp only [mvL,List.length_append,List.length_cons]
     omega
  intro k
  have sub:∀ (xs:List (Int × Int)),xs.all (okP u l)=true->(xs.take k).all (okP u l)=true:=fun xs hx=>List.all_eq_true.mpr fun y hy=>List.all_eq_true.mp hx y (List.mem_of_mem_take hy)
  have:=key (ps.take k) (qs.take k) 0 (sub ps hp) (sub qs hq)
  rw [List.length_take] at this
  omega
 obtain ⟨ρ',lp,y3,y4,y5,e'⟩:=Jj (ga:=jJ 3) (F:=ZA.1) (fun i ρ=>∃ y3 y4 y5,ρ=[some (jh ps),some (jh qs),some (.list (mvL 0 (ps.take i) (qs.take i))),y3,y4,y5]) (zt 0 ps.length) 0
  [some (jh ps),some (jh qs),some (.list []),none,none,none] ⟨none,none,none,rfl⟩ (fun j d ρ hd hi=>by
   obtain ⟨hj,rfl⟩:=QB hd
   obtain ⟨y3,y4,y5,rfl⟩:=hi
   rw [Nat.zero_add]
   have hpj:ps[j]?=some ps[j]:=List.getElem?_eq_getElem hj
   have hqj:qs[j]?=some (qs[j]'(by omega)):=List.getElem?_eq_getElem (by omega)
   obtain ⟨p1,p2,p3,p4⟩:=qJ (List.all_eq_true.mp hp _ (List.getElem_mem hj))
   obtain ⟨r1,r2,r3,r4⟩:=qJ (List.all_eq_true.mp hq _ (List.getElem_mem (show j < qs.length by omega)))
   have b:=bd j
   obtain ⟨z4,z5,st⟩:=ap5 (M:=jh ps) (T:=jh qs) (r:=(j:Int)) (F:=mvL 0 (ps.take j) (qs.take j)) (p:=ps[j]) (q:=qs[j]'(by omega)) (x4:=y4) (x5:=y5) (by omega) (aba h4' hqj) (aba h4 hpj) (by omega) (by omega)
   refine ⟨_,_,rfl,st,some (.int (j:Int)),z4,z5,?_⟩
   have e1:ps.take (j+1)=ps.take j++[ps[j]]:=by rw [List.take_succ,hpj]; rfl
   have e2:qs.take (j+1)=qs.take j++[qs[j]'(by omega)]:=by rw [List.take_succ,hqj]; rfl
   rw [e1,e2,ai1 _ _ 0 _ _ (by rw [List.length_take,List.length_take]; omega),Nat.zero_add,List.length_take,show min j ps.length=j by omega])
 rw [QC,Nat.zero_add,List.take_length,hl,List.take_length] at e'
 subst e'
 exact agY (zo ps) (ahO (by omega)) lp
theorem ap6 {j i:Nat}{fe fk fv:Rho->Option PyData}{ρ:Rho}{d nw:PyData} (he:fe (ρ.set j none)=some d) (hij:i < ρ.length/\i ≠ j) (hs:ajB (lkp i ((ρ.set j none).set i (some d))) (brw (some i) fv ((ρ.set j none).set i (some d))) (brw (some i) fk ((ρ.set j none).set i (some d)))=some nw):ahC j i fe fk fv ρ=some (.nx (ρ.set i (some nw))):=by
 unfold ahC
 rw [he,zzD,if_pos hij,hs]
 rfl
noncomputable def slT (u l b e n:Int) (ps:List (Int × Int)) (p:Int × Int) (r:Nat) (k:Bool) (c:Int):Bool:=okP u l (shP p k c) && decide (val b e (ps.set r (shP p k c))=n)
noncomputable def one (k:Bool):Int:=if k=true then 1 else 0
noncomputable def hiK (u l:Int) (k:Bool):Int:=if k=true then l else u
noncomputable def Jq (p:Int × Int) (k:Bool):Int:=if k=true then p.2 else p.1
theorem aoQ (h:okN u e l b=true) {ps:List (Int × Int)} (hs:okS u l ps=true) {r:Nat}{p:Int × Int} (hp:ps[r]?=some p) (k:Bool) {c:Int}{n:Int}{F:List PyData} (hF:F.length < 1000) {x7 x8:Option PyData}:
  ∃ y7 y8,ac3.1 [some (jm u e l b),some (jh ps),some (.int n),some (.list F),some (.int (r:Int)),some (.int (one k)),some (.int c),x7,x8]=some (.nx [some (jm u e l b),some (jh ps),some (.int n),some (.list (F++if slT u l b e n ps p r k c=true then [mv (r:Int) k c] else [])),some (.int (r:Int)),some (.int (one k)),some (.int c),y7,y8]):=by
 obtain ⟨h1,h4,hall⟩:=ql hs
 obtain ⟨hr,hpe⟩:=List.getElem?_eq_some_iff.mp hp
 have hpo:okP u l p=true:=List.all_eq_true.mp hall p (by rw [←hpe]; exact List.getElem_mem _)
 obtain ⟨⟨a1,a2⟩,a3,a4⟩:=amA.mp hpo
 have ixT:=aba h4 hp
 have lo:QM [pr p]=some (.list [.int p.1,.int p.2]):=rfl
 have ix7:dIx (.list [.int p.1,.int p.2]) (.int (one k))=some (.int (Jq p k)):=by cases k <;> rfl
 have az:zB (.int (Jq p k)) (.int c)=some (.int (Jq p k+c)):=rfl
 have okb:okB (.list [.int p.1,.int p.2]) (.int (Jq p k+c))=true:=rfl
 have st:ajB (some (.list [.int p.1,.int p.2])) (some (.int (Jq p k+c))) (some (.int (one k)))=some (.list [.int (shP p k c).1,.int (shP p k c).2]):=by cases k <;> rfl
 have tp:ahv [.list [.int (shP p k c).1,.int (shP p k c).2]]=some (pr (shP p k c)):=rfl
 have ix8:dIx (.list [.int (shP p k c).1,.int (shP p k c).2]) (.int (one k))=some (.int (Jq p k+c)):=by cases k <;> rfl
 obtain ⟨A1,A2,A3,s1,s2,s3,s4⟩:=aq1 hr h4 (shP p k c)
 have ad1:zB (.int (r:Int)) (.int 1)=some (.int ((r:Int)+1)):=rfl
 have i0:=ix0 u e l b
 have i2:=ix2 u e l b
 have ih:dIx (.tuple [.int u,.int l]) (.int (one k))=some (.int (hiK u l k)):=by cases k <;> rfl
 have le1:Jo (fun i j=>decide (i<=j)) (.int 0) (.int (Jq p k+c))=some (.bool (decide (0<=Jq p k+c))):=rfl
 have le2:Jo (fun i j=>decide (i<=j)) (.int (Jq p k+c)) (.int (hiK u l k))=some (.bool (decide (Jq p k+c<=hiK u l k))):=rfl
 have lv:=QW h (ps.set r (shP p k c))
 have dq:=acn (val b e (ps.set r (shP p k c))) n
 have dk:dIx (.tuple [.str "upper",.str "lower"]) (.int (one k))=some (qC k):=by cases k <;> rfl
 have ap:ajr (some (.list F)) (some (mv (r:Int) k c))=some (.list (F++[mv (r:Int) k c])):=by
  show (if noL (mv (r:Int) k c)=true/\F.length < 1000000 then _ else _)=_
  rw [if_pos ⟨amw _ _ _,by omega⟩]
 have ap:ajr (some (.list F)) (some (.tuple [.int (r:Int),qC k,.int c]))=some (.list (F++[mv (r:Int) k c])):=ap
 have hsl:slT u l b e n ps p r k c=(decide (0<=Jq p k+c) && decide (Jq p k+c<=hiK u l k) && decide (val b e (ps.set r (shP p k c))=n)):=by
  unfold slT
  congr 1
  rw [Bool.eq_iff_iff,amA,Bool.and_eq_true,decide_eq_true_eq,decide_eq_true_eq]
  cases k
  ·show (0<=p.1+c/\p.1+c<=u)/\0<=p.2/\p.2<=l ↔ 0<=p.1+c/\p.1+c<=u
   omega
  ·show (0<=p.1/\p.1<=u)/\0<=p.2+c/\p.2+c<=l ↔ 0<=p.2+c/\p.2+c<=l
   omega
 have hij:7 < [some (jm u e l b),some (jh ps),some (.int n),some (.list F),some (.int (r:Int)),some (.int (one k)),some (.int c),x7,x8].length/\7 ≠ 3:=by simp
 refine ⟨some (.list [.int (shP p k c).1,.int (shP p k c).2]),some (jh (ps.set r (shP p k c))),?_⟩
 rw [hsl]
 simp only [ac3]
 refine (jv (ρ1:=[some (jm u e l b),some (jh ps),some (.int n),some (.list F),some (.int (r:Int)),some (.int (one k)),some (.int c),some (.list [.int (shP p k c).1,.int (shP p k c).2]),x8]) ?_).trans ?_
 ·refine ap6 (d:= .list [.int p.1,.int p.2]) ?_ hij ?_
  ·generalize PyData.list [.int p.1,.int p.2]=Y at*
   generalize pr p=PP at*
   generalize jh ps=SS at*
   generalize jm u e l b=MM at*
   dsimp? [ixT,lo]
  ·generalize PyData.list [.int (shP p k c).1,.int (shP p k c).2]=Z at*
   generalize PyData.list [.int p.1,.int p.2]=Y at*
   generalize jh ps=SS at*
   generalize jm u e l b=MM at*
   dsimp? [brw,hid,Option.join_none,ix7,az,okb,st]
 refine (jv (ρ1:=[some (jm u e l b),some (jh ps),some (.int n),some (.list F),some (.int (r:Int)),some (.int (one k)),some (.int c),some (.list [.int (shP p k c).1,.int (shP p k c).2]),some (jh (ps.set r (shP p k c)))]) ?_).trans ?_
 ·generalize PyData.list [.int (shP p k c).1,.int (shP p k c).2]=Z at*
  generalize pr (shP p k c)=PP at*
  generalize jh (ps.set r (shP p k c))=NN at*
  generalize jh ps=SS at*
  generalize jm u e l b=MM at*
  dsimp? [brw,hid,acQ,JW,inI,s1,tp,fw1,s2,ad1,s3,s4]
 refine (jv (ρ1:=[some (jm u e l b),some (jh ps),some (.int n),some (.list (F++if (decide (0<=Jq p k+c) && decide (Jq p k+c<=hiK u l k) && decide (val b e (ps.set r (shP p k c))=n))=true then [mv (r:Int) k c] else [])),some (.int (r:Int)),some (.int (one k)),some (.int c),some (.list [.int (shP p k c).1,.int (shP p k c).2]),some (jh (ps.set r (shP p k c)))]) ?_).trans rfl
 generalize PyData.list [.int (shP p k c).1,.int (shP p k c).2]=Z at*
 generalize jh (ps.set r (shP p k c))=NN at*
 generalize jh ps=SS at*
 generalize jm u e l b=MM at*
 generalize decide (0<=Jq p k+c)=B1 at*
 generalize decide (Jq p k+c<=hiK u l k)=B2 at*
 generalize decide (val b e (ps.set r (shP p k c))=n)=B3 at*
 generalize mv (r:Int) k c=MV at*
 generalize qC k=DK at*
 cases B1 with
 | false=>dsimp? [ix8,i0,i2,fw2,ih,le1,Bool.false_and,List.append_nil]
 | true=>
  cases B2 with
  | false=>dsimp? [ix8,i0,i2,fw2,ih,le1,le2,Bool.false_and,Bool.true_and,List.append_nil]
  | true=>
   cases B3 with
   | false=>dsimp? [ix8,i0,i2,fw2,ih,le1,le2,lv,dq,Bool.true_and,List.append_nil]
   | true=>dsimp? [brw,hid,okB,Q6,aab,aaH,ix8,i0,i2,fw2,fw3,ih,le1,le2,lv,dq,Bool.true_and,dk,ap]
theorem amI (h:okN u e l b=true) {ps:List (Int × Int)} (hs:okS u l ps=true) {r:Nat}{p:Int × Int} (hp:ps[r]?=some p) (k:Bool) {n:Int}{F:List PyData} (hF:F.length < 900) {x6 x7 x8:Option PyData}:
  ∃ y6 y7 y8,Zy.1 [some (jm u e l b),some (jh ps),some (.int n),some (.list F),some (.int (r:Int)),some (.int (one k)),x6,x7,x8]=some (.nx [some (jm u e l b),some (jh ps),some (.int n),some (.list ((F++if slT u l b e n ps p r k 1=true then [mv (r:Int) k 1] else [])++if slT u l b e n ps p r k (-1)=true then [mv (r:Int) k (-1)] else [])),some (.int (r:Int)),some (.int (one k)),y6,y7,y8]):=by
 obtain ⟨y7,y8,s1⟩:=aoQ h hs hp k (c:=1) (n:=n) (F:=F) (by omega) (x7:=x7) (x8:=x8)
 have hl:(F++if slT u l b e n ps p r k 1=true then [mv (r:Int) k 1] else []).length < 1000:=by
  rw [List.length_append]; split <;> simp <;> omega
 obtain ⟨z7,z8,s2⟩:=aoQ h hs hp k (c:=-1) (n:=n) (F:=F++if slT u l b e n ps p r k 1=true then [mv (r:Int) k 1] else []) hl (x7:=y7) (x8:=y8)
 have ng:afL (.int 1)=some (.int (-1)):=rfl
 have it:items (.tuple [.int 1,.int (-1)])=some [.int 1,.int (-1)]:=rfl
 refine ⟨some (.int (-1)),z7,z8,?_⟩
 simp only [Zy]
 refine (jv ?_).trans rfl
 generalize (F++if slT u l b e n ps p r k 1=true then [mv (r:Int) k 1] else [])=F1 at*
 generalize jm u e l b=MM at*
 generalize jh ps=SS at*
 dsimp? [Jn,itS,brw,hid,okB,Q6,aab,aaH,ng,fw2,it,jP,s1,s2]
noncomputable def slR (u l b e n:Int) (ps:List (Int × Int)) (p:Int × Int) (r:Nat):List PyData:=(if slT u l b e n ps p r false 1=true then [mv (r:Int) false 1] else [])++((if slT u l b e n ps p r false (-1)=true then [mv (r:Int) false (-1)] else [])++((if slT u l b e n ps p r true 1=true then [mv (r:Int) true 1] else [])++(if slT u l b e n ps p r true (-1)=true then [mv (r:Int) true (-1)] else [])))
theorem aol (u l b e n:Int) (ps:List (Int × Int)) (p:Int × Int) (r:Nat):(slR u l b e n ps p r).length<=4:=by
 unfold slR
 simp only [List.length_append]
 have:∀ (c:Bool) (x:PyData),(if c=true then [x] else []).length<=1:=fun c x=>by cases c <;> simp
 have h1:=this (slT u l b e n ps p r false 1) (mv (r:Int) false 1)
 have h2:=this (slT u l b e n ps p r false (-1)) (mv (r:Int) false (-1))
 have h3:=this (slT u l b e n ps p r true 1) (mv (r:Int) true 1)
 have h4:=this (slT u l b e n ps p r true (-1)) (mv (r:Int) true (-1))
 omega
theorem ap7 (h:okN u e l b=true) {ps:List (Int × Int)} (hs:okS u l ps=true) {r:Nat}{p:Int × Int} (hp:ps[r]?=some p) {n:Int}{F:List PyData} (hF:F.length < 800) {x5 x6 x7 x8:Option PyData}:
  ∃ y5 y6 y7 y8,Zz.1 [some (jm u e l b),some (jh ps),some (.int n),some (.list F),some (.int (r:Int)),x5,x6,x7,x8]=some (.nx [some (jm u e l b),some (jh ps),some (.int n),some (.list (F++slR u l b e n ps p r)),some (.int (r:Int)),y5,y6,y7,y8]):=by
 obtain ⟨y6,y7,y8,s1⟩:=amI h hs hp false (n:=n) (F:=F) (by omega) (x6:=x6) (x7:=x7) (x8:=x8)
 obtain ⟨F1,hF1⟩:∃ F1,F1=(F++if slT u l b e n ps p r false 1=true then [mv (r:Int) false 1] else [])++if slT u l b e n ps p r false (-1)=true then [mv (r:Int) false (-1)] else []:=⟨_,rfl⟩
 rw [←hF1] at s1
 have hl:F1.length < 900:=by
  rw [hF1,List.length_append,List.length_append]; split <;> split <;> simp <;> omega
 obtain ⟨z6,z7,z8,s2⟩:=amI h hs hp true (n:=n) (F:=F1) hl (x6:=y6) (x7:=y7) (x8:=y8)
 refine ⟨some (.int 1),z6,z7,z8,?_⟩
 have e1:F++slR u l b e n ps p r=(F1++if slT u l b e n ps p r true 1=true then [mv (r:Int) true 1] else [])++if slT u l b e n ps p r true (-1)=true then [mv (r:Int) true (-1)] else []:=by
  rw [hF1]; unfold slR; simp only [List.append_assoc]
 rw [e1]
 have s1:Zy.1 [some (jm u e l b),some (jh ps),some (.int n),some (.list F),some (.int (r:Int)),some (.int 0),x6,x7,x8]=_:=s1
 have s2:Zy.1 [some (jm u e l b),some (jh ps),some (.int n),some (.list F1),some (.int (r:Int)),some (.int 1),y6,y7,y8]=_:=s2
 have o0:one false=0:=rfl
 have o1:one true=1:=rfl
 rw [o0] at s1
 rw [o1] at s2
 simp only [Zz]
 refine (jv ?_).trans rfl
 generalize jm u e l b=MM at*
 generalize jh ps=SS at*
 generalize (F1++if slT u l b e n ps p r true 1=true then [mv (r:Int) true 1] else [])++(if slT u l b e n ps p r true (-1)=true then [mv (r:Int) true (-1)] else [])=F2 at*
 dsimp? [Jn,brw,hid,okB,Q6,aab,aaH,rg2,jP,s1,s2]
theorem agZ {M S:PyData}{n m:Int}{RR F:List PyData}{y4 y5 y6 y7 y8:Option PyData} (ln:Jd [S]=some (.int m)) (rg:QH [.int m]=some RR) (lp:jP (jJ 4) Zz.1 RR [some M,some S,some (.int n),some (.list []),none,none,none,none,none]=some (.nx [some M,some S,some (.int n),some (.list F),y4,y5,y6,y7,y8])):Qb [M,S,.int n]=some (.list F):=by
 refine jO rfl ?_
 show acl.1 [some M,some S,some (.int n),none,none,none,none,none,none]=_
 simp only [acl]
 have key:∀ {Y:Rho->Option Out} {d:PyData},Y [some M,some S,some (.int n),some (.list []),none,none,none,none,none]=some (.rt d)->Zk 3 (Q5 jF) Y [some M,some S,some (.int n),none,none,none,none,none,none]=some (.rt d):=fun {Y d} hy=>by
  have l8:3 < [some M,some S,some (.int n),none,none,none,none,none,none].length:=by simp
  dsimp? [Zk,Jc,hy]
  rw [if_pos l8]
 refine key ?_
 refine (jv (ρ1:=[some M,some S,some (.int n),some (.list F),y4,y5,y6,y7,y8]) ?_).trans ?_
 ·dsimp? [Jn,brw,hid,okB,Q6,aab,aaH,ln,rg]
  exact lp
 dsimp? [zzA]
noncomputable def slF (u l b e n:Int) (ps:List (Int × Int)) (k:Nat):List PyData:=(List.range k).flatMap fun r=>slR u l b e n ps (ps.getD r (0,0)) r
theorem ag0 (n:Int) (ps:List (Int × Int)) (k:Nat):slF u l b e n ps (k+1)=slF u l b e n ps k++slR u l b e n ps (ps.getD k (0,0)) k:=by
 unfold slF
 rw [List.range_succ,List.flatMap_append]
 simp
theorem ai2 (n:Int) (ps:List (Int × Int)):∀ k:Nat,(slF u l b e n ps k).length<=4*k
 | 0=>by simp [slF]
 | k+1=>by
  rw [ag0,List.length_append]
  have:=ai2 n ps k
  have:=aol u l b e n ps (ps.getD k (0,0)) k
  omega
theorem ag1 (h:okN u e l b=true) {ps:List (Int × Int)} (hs:okS u l ps=true) {n:Int}:Qb [jm u e l b,jh ps,.int n]=some (.list (slF u l b e n ps ps.length)):=by
 obtain ⟨h1,h4,hall⟩:=ql hs
 obtain ⟨ρ',lp,y4,y5,y6,y7,y8,e'⟩:=Jj (ga:=jJ 4) (F:=Zz.1) (fun i ρ=>∃ y4 y5 y6 y7 y8,ρ=[some (jm u e l b),some (jh ps),some (.int n),some (.list (slF u l b e n ps i)),y4,y5,y6,y7,y8]) (zt 0 ps.length) 0
  [some (jm u e l b),some (jh ps),some (.int n),some (.list []),none,none,none,none,none] ⟨none,none,none,none,none,rfl⟩ (fun j d ρ hd hi=>by
   obtain ⟨hj,rfl⟩:=QB hd
   obtain ⟨y4,y5,y6,y7,y8,rfl⟩:=hi
   rw [Nat.zero_add]
   have hl:=ai2 (u:=u) (l:=l) (b:=b) (e:=e) n ps j
   have hpj:ps[j]?=some (ps.getD j (0,0)):=by
    rw [List.getD_eq_getElem?_getD,List.getElem?_eq_getElem hj]; rfl
   obtain ⟨z5,z6,z7,z8,st⟩:=ap7 h hs hpj (n:=n) (F:=slF u l b e n ps j) (by omega) (x5:=y5) (x6:=y6) (x7:=y7) (x8:=y8)
   refine ⟨_,_,rfl,st,some (.int (j:Int)),z5,z6,z7,z8,?_⟩
   rw [ag0])
 rw [QC,Nat.zero_add] at e'
 subst e'
 exact agZ (zo ps) (ahO (by omega)) lp
theorem afq {ps:List (Int × Int)} (hs:okS u l ps=true) {r:Nat}{p:Int × Int} (hp:ps[r]?=some p) (k:Bool) {c:Int} (hc:c=1 ∨ c=-1) (n:Int):(tM (jm u e l b) (jh ps) (mv (r:Int) k c) && decide (nuB b e ps (mv (r:Int) k c)=n))=slT u l b e n ps p r k c:=by
 have t:=agu (e:=e) (b:=b) hs hp k hc
 rw [amp t]
 unfold slT
 by_cases ho:okP u l (shP p k c)=true
 ·rw [if_pos ho] at t ⊢
  rw [amC t,ho]; rfl
 ·rw [if_neg ho]
  rw [show okP u l (shP p k c)=false by simpa using ho]
  rfl
theorem aq9 {α:Type} (f g:α->Bool) (a b c d:α):([a,b,c,d].filter f).filter g=(if (f a && g a)=true then [a] else [])++((if (f b && g b)=true then [b] else [])++((if (f c && g c)=true then [c] else [])++(if (f d && g d)=true then [d] else []))):=by
 cases ha:f a <;> cases hb:f b <;> cases hc:f c <;> cases hd:f d <;> cases ga:g a <;> cases gb:g b <;> cases gc:g c <;> cases gd:g d <;> simp [List.filter_cons,ha,hb,hc,hd,ga,gb,gc,gd]
theorem ake {ps:List (Int × Int)} (hs:okS u l ps=true) (n:Int):agH u e l b ps n=slF u l b e n ps ps.length:=by
 unfold agH slF ab6
 rw [List.filter_flatMap]
 have key:∀ ks:List Nat,(∀ r ∈ ks,r < ps.length)->ks.flatMap (fun r=>(ahW (jm u e l b) (jh ps) r).filter fun d=>decide (nuB b e ps d=n))=ks.flatMap fun r=>slR u l b e n ps (ps.getD r (0,0)) r:=by
  intro ks
  induction ks with
  | nil=>intro _; rfl
  | cons r ks ih=>
   intro hk
   rw [List.flatMap_cons,List.flatMap_cons,ih fun j hj=>hk j (List.mem_cons_of_mem _ hj)]
   congr 1
   have hr:=hk r List.mem_cons_self
   have hp:ps[r]?=some (ps.getD r (0,0)):=by
    rw [List.getD_eq_getElem?_getD,List.getElem?_eq_getElem hr]; rfl
   unfold ahW c4
   rw [aq9,afq hs hp false (.inl rfl),afq hs hp false (.inr rfl),afq hs hp true (.inl rfl),afq hs hp true (.inr rfl)]
   rfl
 exact key _ fun r hr=>List.mem_range.mp hr
theorem adg {ps:List (Int × Int)} (h:okN u e l b=true) (hs:okS u l ps=true) {n:Int}:Qb [jm u e l b,jh ps,.int n]=some (.list (agH u e l b ps n)):=by
 rw [ake hs]; exact ag1 h hs
end
theorem rg4:QH [.int 4]=some [.int 0,.int 1,.int 2,.int 3]:=by kernel_rfl
theorem rg3:QH [.int 3]=some [.int 0,.int 1,.int 2]:=by kernel_rfl
theorem arO:abR (.list [.tuple [.str "refused",.int 2]]) (.int 3)=some (.list [rfd 2,rfd 2,rfd 2]):=by kernel_rfl
theorem arP:abR (.list [.tuple [.str "refused",.int 1]]) (.int 4)=some (.list [rfd 1,rfd 1,rfd 1,rfd 1]):=by kernel_rfl
theorem arQ:abR (.list [.tuple [.str "refused",.int 0]]) (.int 4)=some (.list [rfd 0,rfd 0,rfd 0,rfd 0]):=by kernel_rfl
theorem arR:dNe (.list [rfd 2,rfd 2,rfd 2]) (.list [rfd 2,rfd 2,rfd 2])=some (.bool false):=by kernel_rfl
theorem arS:dNe (.list [rfd 1,rfd 1,rfd 1,rfd 1]) (.list [rfd 1,rfd 1,rfd 1,rfd 1])=some (.bool false):=by kernel_rfl
theorem arT:dEq (.list [rfd 0,rfd 0,rfd 0,rfd 0]) (.list [rfd 0,rfd 0,rfd 0,rfd 0])=some (.bool true):=by kernel_rfl
theorem arU:dNe (rfd 3) (.tuple [.str "refused",.int 3])=some (.bool false):=by kernel_rfl
theorem arV:dNe (rfd 1) (.tuple [.str "refused",.int 1])=some (.bool false):=by kernel_rfl
theorem ai3 {M T:PyData}{S a2 a4 a5 a6 a7 a8 a9 a10 a11 x13:Option PyData}{x:PyData}{L1:PyData} (s1:Qb [M,T,x]=some L1) (t2:jH [.int 2,M,T,x]=some L1) (nl:dNe L1 L1=some (.bool false)):al3.1 [S,some M,a2,some T,a4,a5,a6,a7,a8,a9,a10,a11,some x,x13,none,none]=some (.nx [S,some M,a2,some T,a4,a5,a6,a7,a8,a9,a10,a11,some x,some L1,none,none]):=by
 dsimp? [al3,s1,t2,nl]
theorem amJ {S M RL T ROWS O NE FW O2 ODD BAD LT MR M5:PyData}{rs due fars MS L1 L2:List PyData}{k w r k2 q2 v q3 off n ev bv q4 stp v0 mm a q5 q6:Int}{B:Bool}
  (d0:ZT [S,.int 0]=some M) (lr:ac1 [M]=some RL) (ln:Jd [RL]=some (.int k)) (di:aeU [.bool (decide (k < 20))]=some (.int w)) (g1:anW [S,.int 10,M,.int (1+w)]=some T) (lnT:Jd [T]=some (.int r))
  (la:agi [M,.int r]=some ROWS) (ln2:Jd [ROWS]=some (.int k2)) (d2:JI [S,.int 20,.int k2]=some (.int q2)) (ix:dIx ROWS (.int q2)=some O) (lv:Jw [M,O]=some (.int v)) (d3:JI [S,.int 21,.int 5]=some (.int q3)) (ix3:dIx (.list [.int 0,.int 0,.int 0,.int 1,.int 50]) (.int q3)=some (.int off)) (hn:v+off=n)
  (it:items ROWS=some rs) (fr:few rs=true) (cp:jX (jJ 0) (tst (op2 dEq (jM Jw (jr (lkp 2) (jr (lkp 0) jF))) (lkp 1))) (lkp 0) rs [none,some (.int n),some M]=some due) (fd:few due=true) (cf:jX (jJ 0) Zc (jM abT (jr (lkp 1) (jr (lkp 0) jF))) due [none,some T]=some fars) (t0:jH [.int 0,M,T,.int n]=some NE) (nd:dNe (.list due) (.list [])=some (.bool B)) (mn:B=true->adR (fun i j=>decide (i < j)) [.list fars]=some FW) (mn0:B=false->FW= .none)
  (isn:ajA NE .none=some (.bool (!B))) (eq:dEq (.list due) (.list [])=some (.bool (!B))) (t1:jH [.int 1,M,T,.int n]=some FW) (nf:dNe FW FW=some (.bool false)) (ntn:aiv NE .none=some (.bool B)) (inn:B=true->dIn true NE (.list due)=some (.bool false)) (lfn:B=true->abT [T,NE]=some FW)
  (m1:dIx M (.int 1)=some (.int ev)) (m3:dIx M (.int 3)=some (.int bv)) (d4:JI [S,.int 22,.int 5]=some (.int q4)) (ix4:dIx (.list [.int 1,.int (-1),.int ev,.int bv,.int (0 - bv)]) (.int q4)=some (.int stp)) (lt:Jw [M,T]=some (.int v0)) (mx:afK [.int 0,.int (v0+stp)]=some (.int mm))
  (s1:Qb [M,T,.int n]=some (.list L1)) (t2:jH [.int 2,M,T,.int n]=some (.list L1)) (nl1:dNe (.list L1) (.list L1)=some (.bool false)) (s2:Qb [M,T,.int mm]=some (.list L2)) (t2b:jH [.int 2,M,T,.int mm]=some (.list L2)) (nl2:dNe (.list L2) (.list L2)=some (.bool false))
  (ap:aap [T,O]=some (.int a)) (lf2:abT [T,O]=some (.int a)) (t3:jH [.int 3,M,T,O]=some (.list MS)) (lm:aa4 [T,O]=some (.list MS)) (nm:dNe (.list MS) (.list MS)=some (.bool false)) (ad:zB O (.tuple [.tuple [.int 0,.int 0]])=some O2) (t4:jH [.int 3,M,T,O2]=some (rfd 3))
  (d5:JI [S,.int 23,.int 4]=some (.int q5)) (ix5:dIx (.list [.int (-1),.int 100000,.none,.bool true]) (.int q5)=some ODD) (oo:jH [.int 0,M,T,ODD]=some (rfd 2)/\jH [.int 1,M,T,ODD]=some (rfd 2)/\jH [.int 2,M,T,ODD]=some (rfd 2)/\jH [.int 3,M,T,ODD]=some (rfd 1))
  (lo:QM [T]=some LT) (d6:JI [S,.int 24,.int 3]=some (.int q6)) (ix6:dIx (.list [.none,.tuple [],LT]) (.int q6)=some BAD) (bb:jH [.int 0,M,BAD,ODD]=some (rfd 1)/\jH [.int 1,M,BAD,ODD]=some (rfd 1)/\jH [.int 2,M,BAD,ODD]=some (rfd 1)/\jH [.int 3,M,BAD,ODD]=some (rfd 1))
  (rv:anN M=some MR) (a5:zB MR (.tuple [.int 0])=some M5) (mm0:jH [.int 0,M5,BAD,ODD]=some (rfd 0)/\jH [.int 1,M5,BAD,ODD]=some (rfd 0)/\jH [.int 2,M5,BAD,ODD]=some (rfd 0)/\jH [.int 3,M5,BAD,ODD]=some (rfd 0)):
  al4.1 [some S,none,none,none,none,none,none,none,none,none,none,none,none,none,none,none]=some (.rt (.bool true)):=by
 have lt20:Jo (fun i j=>decide (i < j)) (.int k) (.int 20)=some (.bool (decide (k < 20))):=rfl
 have a1:zB (.int 1) (.int w)=some (.int (1+w)):=rfl
 have a3:zB (.int v) (.int off)=some (.int n):=by show some (PyData.int (v+off))=_; rw [hn]
 have ng:afL (.int 1)=some (.int (-1)):=rfl
 have nb:∀ B:Bool,dNe (.bool B) (.bool B)=some (.bool false):=fun B=>by cases B <;> kernel_rfl
 have nd0:∀ i:Int,dNe (.int i) (.int i)=some (.bool false):=fun i=>by rw [afh]; simp
 have sb:aaa (.int 0) (.int bv)=some (.int (0 - bv)):=rfl
 have av:zB (.int v0) (.int stp)=some (.int (v0+stp)):=rfl
 obtain ⟨o0,o1,o2,o3⟩:=oo
 obtain ⟨b0,b1,b2,b3⟩:=bb
 obtain ⟨m0',m1',m2',m3'⟩:=mm0
 have it2:items (.list due)=some due:=rfl
 simp only [al4]
 refine (jv (ρ1:=[some S,some (M),none,none,none,none,none,none,none,none,none,none,none,none,none,none]) ?_).trans ?_
 ·dsimp? [d0]
 refine (jv (ρ1:=[some S,some (M),some (.int (1+w)),none,none,none,none,none,none,none,none,none,none,none,none,none]) ?_).trans ?_
 ·dsimp? [lr,ln,lt20,di,a1]
 refine (jv (ρ1:=[some S,some (M),some (.int (1+w)),some (T),none,none,none,none,none,none,none,none,none,none,none,none]) ?_).trans ?_
 ·dsimp? [g1]
 refine (jv (ρ1:=[some S,some (M),some (.int (1+w)),some (T),some (ROWS),none,none,none,none,none,none,none,none,none,none,none]) ?_).trans ?_
 ·dsimp? [lnT,la]
 refine (jv (ρ1:=[some S,some (M),some (.int (1+w)),some (T),some (ROWS),some (O),none,none,none,none,none,none,none,none,none,none]) ?_).trans ?_
 ·dsimp? [ln2,d2,ix]
 refine (jv (ρ1:=[some S,some (M),some (.int (1+w)),some (T),some (ROWS),some (O),some (.int n),none,none,none,none,none,none,none,none,none]) ?_).trans ?_
 ·dsimp? [lv,d3,ix3,a3]
 refine (jv (ρ1:=[some S,some (M),some (.int (1+w)),some (T),some (ROWS),some (O),some (.int n),some (.list due),none,none,none,none,none,none,none,none]) ?_).trans ?_
 ·dsimp? [qB,itS,JS,List.map_cons,List.map_nil,it,fr,cp]
 refine (jv (ρ1:=[some S,some (M),some (.int (1+w)),some (T),some (ROWS),some (O),some (.int n),some (.list due),some (.list fars),none,none,none,none,none,none,none]) ?_).trans ?_
 ·dsimp? [qB,itS,JS,List.map_cons,List.map_nil,it2,fd,cf]
 refine (jv (ρ1:=[some S,some (M),some (.int (1+w)),some (T),some (ROWS),some (O),some (.int n),some (.list due),some (.list fars),some (NE),none,none,none,none,none,none]) ?_).trans ?_
 ·dsimp? [t0]
 refine (jv (ρ1:=[some S,some (M),some (.int (1+w)),some (T),some (ROWS),some (O),some (.int n),some (.list due),some (.list fars),some (NE),some FW,none,none,none,none,none]) ?_).trans ?_
 ·cases B with
  | true=>
   have mn:=mn rfl
   dsimp? [Jc,nd,mn]
  | false=>
   have mn0:=mn0 rfl
   subst mn0
   dsimp? [Jc,nd]
 refine (jv (ρ1:=[some S,some (M),some (.int (1+w)),some (T),some (ROWS),some (O),some (.int n),some (.list due),some (.list fars),some (NE),some FW,none,none,none,none,none]) ?_).trans ?_
 ·dsimp? [Jc,isn,eq,nb,t1,nf]
 refine (jv (ρ1:=[some S,some (M),some (.int (1+w)),some (T),some (ROWS),some (O),some (.int n),some (.list due),some (.list fars),some (NE),some FW,none,none,none,none,none]) ?_).trans ?_
 ·cases B with
  | true=>
   have inn:=inn rfl
   have lfn:=lfn rfl
   dsimp? [ntn,inn,lfn,nf]
  | false=>dsimp? [ntn]
 refine (jv (ρ1:=[some S,some (M),some (.int (1+w)),some (T),some (ROWS),some (O),some (.int n),some (.list due),some (.list fars),some (NE),some FW,some (.int stp),none,none,none,none]) ?_).trans ?_
 ·dsimp? [ng,m1,m3,sb,fw5,d4,ix4]
 refine (jv (ρ1:=[some S,some (M),some (.int (1+w)),some (T),some (ROWS),some (O),some (.int n),some (.list due),some (.list fars),some (NE),some FW,some (.int stp),some (.int mm),some (.list L2),none,none]) ?_).trans ?_
 ·have e1:=ai3 (S:=some S) (a2:=some (.int (1+w))) (a4:=some ROWS) (a5:=some O) (a6:=some (.int n)) (a7:=some (.list due)) (a8:=some (.list fars)) (a9:=some NE) (a10:=some FW) (a11:=some (.int stp)) (x13:=none) s1 t2 nl1
  have e2:=ai3 (S:=some S) (a2:=some (.int (1+w))) (a4:=some ROWS) (a5:=some O) (a6:=some (.int n)) (a7:=some (.list due)) (a8:=some (.list fars)) (a9:=some NE) (a10:=some FW) (a11:=some (.int stp)) (x13:=some (.list L1)) s2 t2b nl2
  have it3:items (.tuple [.int n,.int mm])=some [.int n,.int mm]:=rfl
  dsimp? [Jn,itS,lt,av,mx,fw2,it3,jP,e1,e2]
 refine (jv (ρ1:=[some S,some (M),some (.int (1+w)),some (T),some (ROWS),some (O),some (.int n),some (.list due),some (.list fars),some (NE),some FW,some (.int stp),some (.int mm),some (.list L2),none,none]) ?_).trans ?_
 ·dsimp? [ap,lf2,nd0]
 refine (jv (ρ1:=[some S,some (M),some (.int (1+w)),some (T),some (ROWS),some (O),some (.int n),some (.list due),some (.list fars),some (NE),some FW,some (.int stp),some (.int mm),some (.list L2),none,none]) ?_).trans ?_
 ·dsimp? [t3,lm,nm]
 refine (jv (ρ1:=[some S,some (M),some (.int (1+w)),some (T),some (ROWS),some (O),some (.int n),some (.list due),some (.list fars),some (NE),some FW,some (.int stp),some (.int mm),some (.list L2),none,none]) ?_).trans ?_
 ·dsimp? [ad,t4,arU]
 refine (jv (ρ1:=[some S,some (M),some (.int (1+w)),some (T),some (ROWS),some (O),some (.int n),some (.list due),some (.list fars),some (NE),some FW,some (.int stp),some (.int mm),some (.list L2),some (ODD),none]) ?_).trans ?_
 ·dsimp? [ng,fw4,d5,ix5]
 refine (jv (ρ1:=[some S,some (M),some (.int (1+w)),some (T),some (ROWS),some (O),some (.int n),some (.list due),some (.list fars),some (NE),some FW,some (.int stp),some (.int mm),some (.list L2),some (ODD),none]) ?_).trans ?_
 ·dsimp? [qB,jX,Zc,JS,List.map_cons,List.map_nil,rg3,fw3,o0,o1,o2,arO,arR]
 refine (jv (ρ1:=[some S,some (M),some (.int (1+w)),some (T),some (ROWS),some (O),some (.int n),some (.list due),some (.list fars),some (NE),some FW,some (.int stp),some (.int mm),some (.list L2),some (ODD),none]) ?_).trans ?_
 ·dsimp? [o3,arV]
 refine (jv (ρ1:=[some S,some (M),some (.int (1+w)),some (T),some (ROWS),some (O),some (.int n),some (.list due),some (.list fars),some (NE),some FW,some (.int stp),some (.int mm),some (.list L2),some (ODD),some (BAD)]) ?_).trans ?_
 ·dsimp? [Jc,lo,fw3,d6,ix6]
 refine (jv (ρ1:=[some S,some (M),some (.int (1+w)),some (T),some (ROWS),some (O),some (.int n),some (.list due),some (.list fars),some (NE),some FW,some (.int stp),some (.int mm),some (.list L2),some (ODD),some (BAD)]) ?_).trans ?_
 ·dsimp? [qB,jX,Zc,JS,List.map_cons,List.map_nil,rg4,fw4,b0,b1,b2,b3,arP,arS]
 dsimp? [qB,jX,Zc,JS,List.map_cons,List.map_nil,rg4,fw4,rv,a5,m0',m1',m2',m3',arQ,arT]
section
variable {u e l b:Int}
theorem amK (T:List (Int × Int)) (h4:T.length<=4) (A:SL):∀ x:Option PyData,jX (jJ 0) Zc (jM abT (jr (lkp 1) (jr (lkp 0) jF))) (A.map jh) [x,some (jh T)]=some ((A.map (far T)).map .int):=by
 induction A with
 | nil=>intro x; rfl
 | cons t A ih=>
  intro x
  have ih:=ih (some (jh t))
  have g:=adf T t h4
  rw [List.map_cons,List.map_cons,List.map_cons]
  generalize jh t=Z at*
  generalize jh T=TT at*
  dsimp? [jX,Zc,g,ih]
theorem ara {ps:List (Int × Int)}{L:SL} (h:ps ∈ L):dIn true (jh ps) (eS L)=some (.bool false):=by
 have o1:okD (jh ps)=true:=amc ps
 have o2:okD (eS L)=true:=ada L
 have an:((L.map jh).any fun z=>PyData.eqv z (jh ps))=true:=by
  rw [List.any_map]
  exact List.any_eq_true.mpr ⟨ps,h,by show PyData.eqv (jh ps) (jh ps)=true; rw [ago]; simp⟩
 show (if okD (jh ps)=true/\okD (eS L)=true then some (PyData.bool (if true=true then !((L.map jh).any fun z=>PyData.eqv z (jh ps)) else _)) else none)=_
 rw [if_pos ⟨o1,o2⟩,an]
 rfl
theorem ah6 {M S N:PyData} (g:qw [M,S,N]=some .none):qh [M,S,N]=some .none:=by
 have is:ajA .none .none=some (.bool true):=rfl
 refine jO rfl ?_
 show qP.1 [some M,some S,some N,none]=_
 dsimp? [qP,g,is]
theorem afr {ms:List PyData} (h:∀ d ∈ ms,shl 2 d):dNe (.list ms) (.list ms)=some (.bool false):=by
 have o1:okD (.list ms)=true:=amm (n:=3) (afi.mpr h) (by omega)
 show (if okD (.list ms)=true/\okD (.list ms)=true then some (PyData.bool (!PyData.eqv (.list ms) (.list ms))) else none)=_
 rw [if_pos ⟨o1,o1⟩,(PySem.SeqAt.eqv_refl _ ((afi (n:=2)).mpr h).1)]
 rfl
theorem aom (q:Int) (h0:0<=q) (h5:q < 4):∃ d,dIx (.list [.int (-1),.int 100000,.none,.bool true]) (.int q)=some d/\noD d=true/\whB 0 99999 d=false/\Q8 u l d=false:=by
 rcases (show q=0 ∨ q=1 ∨ q=2 ∨ q=3 by omega) with rfl | rfl | rfl | rfl
 ·exact ⟨_,rfl,rfl,rfl,rfl⟩
 ·exact ⟨_,rfl,rfl,rfl,rfl⟩
 ·exact ⟨_,rfl,rfl,rfl,rfl⟩
 ·exact ⟨_,rfl,rfl,rfl,rfl⟩
theorem aon (xs:List PyData) (hx:noDs xs=true) (q:Int) (h0:0<=q) (h5:q < 3):∃ d,dIx (.list [.none,.tuple [],.list xs]) (.int q)=some d/\noD d=true/\Q8 u l d=false:=by
 rcases (show q=0 ∨ q=1 ∨ q=2 by omega) with rfl | rfl | rfl
 ·exact ⟨_,rfl,rfl,rfl⟩
 ·exact ⟨_,rfl,rfl,rfl⟩
 ·exact ⟨_,rfl,hx,rfl⟩
theorem aoo (q:Int) (h0:0<=q) (h5:q < 5):∃ d:Int,dIx (.list [.int 0,.int 0,.int 0,.int 1,.int 50]) (.int q)=some (.int d)/\0<=d/\d<=50:=by
 rcases (show q=0 ∨ q=1 ∨ q=2 ∨ q=3 ∨ q=4 by omega) with rfl | rfl | rfl | rfl | rfl
 ·exact ⟨_,rfl,by decide,by decide⟩
 ·exact ⟨_,rfl,by decide,by decide⟩
 ·exact ⟨_,rfl,by decide,by decide⟩
 ·exact ⟨_,rfl,by decide,by decide⟩
 ·exact ⟨_,rfl,by decide,by decide⟩
theorem aop (he:1<=e/\e<=5) (hb:2<=b/\b<=16) (q:Int) (h0:0<=q) (h5:q < 5):∃ d:Int,dIx (.list [.int 1,.int (-1),.int e,.int b,.int (0 - b)]) (.int q)=some (.int d)/\-16<=d/\d<=16:=by
 rcases (show q=0 ∨ q=1 ∨ q=2 ∨ q=3 ∨ q=4 by omega) with rfl | rfl | rfl | rfl | rfl
 ·exact ⟨_,rfl,by decide,by decide⟩
 ·exact ⟨_,rfl,by decide,by decide⟩
 ·exact ⟨_,rfl,by omega,by omega⟩
 ·exact ⟨_,rfl,by omega,by omega⟩
 ·exact ⟨_,rfl,by omega,by omega⟩
end
theorem akf (H:QA=true) (ns:List Int) (hn:ns.length < 1000000):anY [scr ns]=some (.bool true):=by
 obtain ⟨u,e,l,b,d0,om⟩:=ahK ns hn 0 (by omega)
 have h:=anZ om
 obtain ⟨a1,a2,a3,a4,a5,a6,a7,a8,a9,a10⟩:=qR h
 have lr:=aeh (e:=e) (b:=b) a1 (show u < 50 by omega) (show 0<=l by omega) (show l < 50 by omega)
 have hw:∃ w:Int,aeU [.bool (decide (((j7 u l).length:Int) < 20))]=some (.int w)/\0<=w/\w<=1:=by
  by_cases c:((j7 u l).length:Int) < 20
  ·exact ⟨1,by rw [decide_eq_true c]; rfl,by omega,by omega⟩
  ·exact ⟨0,by rw [decide_eq_false c]; rfl,by omega,by omega⟩
 obtain ⟨w,di,w0,w1⟩:=hw
 obtain ⟨ps,g1,hs,hl2⟩:=ami hn h (at_:=10) (by omega) (mo:=1+w) (by omega) (by omega)
 obtain ⟨h1,h4,hp⟩:=ql hs
 obtain ⟨r,hr⟩:∃ r,r=ps.length:=⟨_,rfl⟩
 have r1:1<=r:=by omega
 have r2:r<=2:=by omega
 have la:=amu h r2
 have lnT:=zo ps
 rw [←hr] at lnT
 have h48:=abM h
 have hpos:1<=(rp u l).length:=by
  have:((0:Int),(0:Int)) ∈ rp u l:=ahM (by simp [okP]; omega)
  exact List.length_pos_of_mem this
 have hal:(aac u l r).length < 9000/\1<=(aac u l r).length:=by
  rw [agz]
  rcases (show r=1 ∨ r=2 by omega) with z | z
  ·rw [z,Nat.pow_one]; omega
  ·rw [z,Nat.pow_two]
   have:(rp u l).length*(rp u l).length<=48*48:=Nat.mul_le_mul h48 h48
   have:1*1<=(rp u l).length*(rp u l).length:=Nat.mul_le_mul hpos hpos
   omega
 obtain ⟨q2,d2,q20,q21⟩:=qj ns hn 20 (((aac u l r).map jh).length:Int) (by omega) (by rw [List.length_map]; omega)
 obtain ⟨T0,ix,hT⟩:=apT (ds:=(aac u l r).map jh) q20 q21 (by rw [List.length_map]; omega)
 obtain ⟨t,ht,rfl⟩:=List.mem_map.mp hT
 obtain ⟨tl,tp⟩:=(ZD r t).mp ht
 have hot:okS u l t=true:=aff (by omega) (by omega) tp
 obtain ⟨q3,d3,q30,q31⟩:=qj ns hn 21 5 (by omega) (by omega)
 obtain ⟨off,ixo,o0,o1⟩:=aoo q3 q30 q31
 have v0:=amb (e:=e) h tp
 have vb:=amj (e:=e) h tp
 have pv0:=amb (e:=e) h hp
 have pvb:=amj (e:=e) h hp
 have p16:∀ k:Nat,k<=2->(2:Int)*16 ^ k<=512:=fun k hk=>by
  rcases (show k=0 ∨ k=1 ∨ k=2 by omega) with rfl | rfl | rfl <;> decide
 have p1:=p16 t.length (by omega)
 have p2:=p16 ps.length (by omega)
 obtain ⟨n,hnv⟩:∃ n,val b e t+off=n:=⟨_,rfl⟩
 have n0:0<=n:=by omega
 have n9:n<=99999:=by omega
 obtain ⟨DL,hDL⟩:∃ DL,DL=(aac u l r).filter (fun t=>decide (val b e t=n)):=⟨_,rfl⟩
 have mem:∀ s,s ∈ DL ↔ s.length=ps.length/\s.all (okP u l)=true/\val b e s=n:=fun s=>by
  rw [hDL,List.mem_filter,ZD,←hr]
  simp [and_assoc]
 have hDl:DL.length < 9000:=by
  have:DL.length<=(aac u l r).length:=by rw [hDL]; exact List.length_filter_le _ _
  omega
 have cp:=amD h (n:=n) (aac u l r)
 rw [←hDL] at cp
 have cf:=amK ps h4 DL none
 obtain ⟨dn,gn,near⟩:=agF H h hs (by omega) n0 n9
 have t0:=aq5 gn
 have hmin:∃ (B:Bool) (FW:PyData),dNe (eS DL) (eS [])=some (.bool B)/\(B=true->adR (fun i j=>decide (i < j)) [.list ((DL.map (far ps)).map .int)]=some FW)/\(B=false->FW= .none)/\ajA (oS dn) .none=some (.bool (!B))/\dEq (eS DL) (eS [])=some (.bool (!B))/\qh [jm u e l b,jh ps,.int n]=some FW/\dNe FW FW=some (.bool false)/\aiv (oS dn) .none=some (.bool B)/\(B=true->dIn true (oS dn) (eS DL)=some (.bool false))/\(B=true->abT [jh ps,oS dn]=some FW):=by
  rw [aq2,aq3]
  cases dn with
  | none=>
   have hD:DL=[]:=by
    cases hq:DL with
    | nil=>rfl
    | cons s DL'=>
     obtain ⟨t',ht',_⟩:=near.2 s ((mem s).mp (by rw [hq]; exact List.mem_cons_self))
     cases ht'
   refine ⟨false,.none,by rw [decide_eq_true hD]; rfl,fun z=>(by cases z),fun _=>rfl,rfl,by rw [decide_eq_true hD]; rfl,ah6 gn,by kernel_rfl,rfl,fun z=>(by cases z),fun z=>by cases z⟩
  | some s=>
   have hm:=(mem s).mpr (near.1 s rfl)
   have hD:DL ≠ []:=fun z=>by rw [z] at hm; cases hm
   refine ⟨true,.int (far ps s),by rw [decide_eq_false hD]; rfl,fun _=>?_,fun z=>(by cases z),rfl,by rw [decide_eq_false hD]; rfl,ah0 gn rfl (Z7 ps s h4),by rw [afh]; simp,rfl,fun _=>ara hm,fun _=>adf ps s h4⟩
   refine amr (List.mem_map.mpr ⟨s,hm,rfl⟩) fun x hx=>?_
   obtain ⟨y,hy,rfl⟩:=List.mem_map.mp hx
   obtain ⟨t',ht',hle⟩:=near.2 y ((mem y).mp hy)
   cases ht'
   exact hle
 obtain ⟨B,FW,nd,mn,mn0,isn,eq,fm,nf,ntn,inn,lfn⟩:=hmin
 obtain ⟨q4,d4,q40,q41⟩:=qj ns hn 22 5 (by omega) (by omega)
 obtain ⟨stp,ix4,st1,st2⟩:=aop (e:=e) (b:=b) ⟨a3,a4⟩ ⟨a8,a9⟩ q4 q40 q41
 obtain ⟨mm,hmm⟩:∃ mm:Int,mm=if val b e ps+stp > 0 then val b e ps+stp else 0:=⟨_,rfl⟩
 have mx:afK [.int 0,.int (val b e ps+stp)]=some (.int mm):=by rw [hmm]; rfl
 have mm0:0<=mm/\mm<=99999:=by rw [hmm]; split <;> omega
 have msl:∀ x:Int,∀ d ∈ agH u e l b ps x,shl 2 d:=fun x d hd=>(agv hs (Nat.le_refl _) (List.mem_filter.mp hd).1).2.2
 obtain ⟨q5,d5,q50,q51⟩:=qj ns hn 23 4 (by omega) (by omega)
 obtain ⟨ODD,ix5,od1,od2,od3⟩:=aom (u:=u) (l:=l) q5 q50 q51
 obtain ⟨q6,d6,q60,q61⟩:=qj ns hn 24 3 (by omega) (by omega)
 obtain ⟨BAD,ix6,ba1,ba2⟩:=aon (u:=u) (l:=l) (ps.map pr) (by have:=aa8 ps; simpa [jh,noD] using this) q6 q60 q61
 have ad:=agy t (0,0) (by omega)
 have hot2:okS u l (t++[(0,0)])=true:=aff (by simp) (by rw [List.length_append]; simp; omega) (by
  rw [List.all_append,tp]
  simp [okP]; omega)
 refine jO rfl ?_
 show al4.1 [some (scr ns),none,none,none,none,none,none,none,none,none,none,none,none,none,none,none]=_
 exact amJ (B:=B) (FW:=FW) d0 lr (agw _) di g1 lnT la (agw _) d2 ix (QW h t) d3 ixo hnv rfl (ahX (by rw [List.length_map]; omega)) cp (ahX (by rw [List.length_map]; omega)) cf t0 nd mn mn0 isn eq (aq6 fm) nf ntn inn lfn
  (ix1 u e l b) (ix3 u e l b) d4 ix4 (QW h ps) mx (adg h hs) (aoM (aep H h hs n0 n9)) (afr (msl n)) (adg h hs) (aoM (aep H h hs mm0.1 mm0.2)) (afr (msl mm))
  (Z7 ps t h4) (adf ps t h4) (aq7 (agA H h hs hot (by omega))) (ah5 (u:=u) (l:=l) hs hot (by omega) (by omega) (by omega)) (afr (ai0 ps t 0)) ad (aok H h hs hot2 (by rw [List.length_append,tl,←hr]; rfl))
  d5 ix5 (ap4 H h hs od1 od2 od3) rfl d6 ix6 (ap3 H h ba1 ba2) rfl rfl (aoj b l e u _ _)
end Rods
end
section
namespace BX
open PySem L2
open PyProof.Rows hiding St
theorem jY.thr {P:Program}{w:World}{K:PySem.W.Frag}{mg:Str->Option Value}{base h:Heap}{x:Str}{st:Stmt}{ps:List Str}{k n:Nat}{g:List PyData->Option Str} (T:jY K x st) (X:K.In h) (G:h.Ns mainGlobals mg)
  (pa:ju x st ps) (ok:∀ f fd,Fun K x x st f fd->FnOk P w K mg base (CXt P w) k f fd ps (ajH K mg n g)):Jf P w K mg base x ps k n g:=by
 obtain ⟨f,oc,od,an,kV,doc,pm,cdv,ct,osl,a,l,c,kp⟩:=T
 have F1:=aeB (st:=st) l c kp
 exact ⟨f,_,ok f _ F1,PySem.W.mg_of X G a,kp,F1.binds pa⟩
theorem jY.hdl {P:Program}{w:World}{K:PySem.W.Frag}{mg:Str->Option Value}{base h:Heap}{x:Str}{st:Stmt}{ps:List Str}{k n:Nat}{g:List PyData->Option PyData} (T:jY K x st) (X:K.In h) (G:h.Ns mainGlobals mg)
  (pa:ju x st ps) (ok:∀ f fd,Fun K x x st f fd->FnH P w K mg base k f fd ps (Pur K n g)):aca P w K mg base x ps k n g:=by
 obtain ⟨f,oc,od,an,kV,doc,pm,cdv,ct,osl,a,l,c,kp⟩:=T
 have F1:=aeB (st:=st) l c kp
 exact ⟨f,_,ok f _ F1,PySem.W.mg_of X G a,kp,F1.binds pa⟩
end BX
namespace Rods
open PySem L2 BX
open PyProof.Rows hiding St
structure Tops (K:PySem.W.Frag):Prop where
 isWhole:jY K "is_whole" aaO
 rodWorth:jY K "rod_worth" ZN
 allRods:jY K "all_rods" aaP
 hasAll:jY K "has_all_digits" ZO
 isManner:jY K "is_manner" ZP
 check:jY K "check_manner" acS
 chkNum:jY K "check_number" zH
 num:jY K "number_on" Jz
 full:jY K "full_rods" ZQ
 last:jY K "last_rods" JA
 isRod:jY K "is_rod" ae0
 isSet:jY K "is_setting" zV
 chkSet:jY K "check_setting" zm
 cell:jY K "_law_cell" aiH
 drawn:jY K "_law_drawn" ae1
 manner:jY K "_law_manner" ace
 setting:jY K "_law_setting" Qr
 NamesBeads:jY K "names_beads" JY
 Pushed:jY K "pushed" acg
 CanMove:jY K "can_move" aaW
 BehindMove:jY K "behind_move" J1
 AllMoves:jY K "all_moves" qH
 RodApart:jY K "rod_apart" ZV
 Apart:jY K "apart" acX
 DeckMoves:jY K "deck_moves" QT
 MovesTo:jY K "moves_to" zI
 NearestEnds:jY K "nearest_ends" qv
 Nearest:jY K "nearest" JN
 FewestMoves:jY K "fewest_moves" zL
 Slips:jY K "slips" abD
 LValue:jY K "_law_value" ZZ
 LRods:jY K "_law_rods" aas
 LAll:jY K "_law_all" aa1
 LFar:jY K "_law_far" agj
 LRefused:jY K "_law_refused" JB
 LTold:jY K "_law_told" abK
 LSlips:jY K "_law_slips" Jb
 LMoves:jY K "_law_moves" Qc
 law:jY K "law" ac4
structure Consts (K:PySem.W.Frag) (mg:Str->Option Value):Prop where
 b:Bare mg
 least:GC K mg "LEAST_PARTS" (.tuple [.int 0,.int 1,.int 0,.int 2])
 most:GC K mg "MOST_PARTS" (.tuple [.int 3,.int 16,.int 12,.int 16])
 mostRods:GC K mg "MOST_RODS" (.int 4)
 mostNumber:GC K mg "MOST_NUMBER" (.int 99999)
 decks:GC K mg "DECKS" (.tuple [.str "upper",.str "lower"])
 ways:GC K mg "WAYS" (.tuple [.int 1,.int (-1)])
 errT:ErrT K mg "BeadError" qV
theorem ah7:ju "is_whole" aaO ["thing","least","most"]:=fun _ _ _ _ _ _ us hl=>by obtain ⟨v0,v1,v2,rfl⟩:=abZ us hl; rfl
theorem ag2:ju "rod_worth" ZN ["manner","rod"]:=fun _ _ _ _ _ _ us hl=>by obtain ⟨v0,v1,rfl⟩:=Q4 us hl; rfl
theorem ah8:ju "all_rods" aaP ["manner"]:=fun _ _ _ _ _ _ us hl=>by obtain ⟨v0,rfl⟩:=afz us hl; rfl
theorem akg:ju "has_all_digits" ZO ["manner"]:=fun _ _ _ _ _ _ us hl=>by obtain ⟨v0,rfl⟩:=afz us hl; rfl
theorem ag3:ju "is_manner" ZP ["thing"]:=fun _ _ _ _ _ _ us hl=>by obtain ⟨v0,rfl⟩:=afz us hl; rfl
theorem ag4:ju "check_manner" acS ["thing"]:=fun _ _ _ _ _ _ us hl=>by obtain ⟨v0,rfl⟩:=afz us hl; rfl
theorem aer:ju "check_number" zH ["number"]:=fun _ _ _ _ _ _ us hl=>by obtain ⟨v0,rfl⟩:=afz us hl; rfl
theorem ap8:ju "number_on" Jz ["manner","setting"]:=fun _ _ _ _ _ _ us hl=>by obtain ⟨v0,v1,rfl⟩:=Q4 us hl; rfl
theorem aoq:ju "full_rods" ZQ ["manner","rods"]:=fun _ _ _ _ _ _ us hl=>by obtain ⟨v0,v1,rfl⟩:=Q4 us hl; rfl
theorem aor:ju "last_rods" JA ["manner","ahead","number"]:=fun _ _ _ _ _ _ us hl=>by obtain ⟨v0,v1,v2,rfl⟩:=abZ us hl; rfl
theorem amL:ju "is_rod" ae0 ["manner","thing"]:=fun _ _ _ _ _ _ us hl=>by obtain ⟨v0,v1,rfl⟩:=Q4 us hl; rfl
theorem ag5:ju "is_setting" zV ["manner","thing"]:=fun _ _ _ _ _ _ us hl=>by obtain ⟨v0,v1,rfl⟩:=Q4 us hl; rfl
theorem aes:ju "check_setting" zm ["manner","thing"]:=fun _ _ _ _ _ _ us hl=>by obtain ⟨v0,v1,rfl⟩:=Q4 us hl; rfl
theorem aos:ju "_law_cell" aiH ["_law_script","_law_k"]:=fun _ _ _ _ _ _ us hl=>by obtain ⟨v0,v1,rfl⟩:=Q4 us hl; rfl
theorem amM:ju "_law_drawn" ae1 ["_law_script","_law_k","_law_many"]:=fun _ _ _ _ _ _ us hl=>by obtain ⟨v0,v1,v2,rfl⟩:=abZ us hl; rfl
theorem akh:ju "_law_manner" ace ["_law_script","_law_at"]:=fun _ _ _ _ _ _ us hl=>by obtain ⟨v0,v1,rfl⟩:=Q4 us hl; rfl
theorem ah9:ju "_law_setting" Qr ["_law_script","_law_at","_law_manner_here","_law_most"]:=fun _ _ _ _ _ _ us hl=>by obtain ⟨v0,v1,v2,v3,rfl⟩:=ape us hl; rfl
theorem adw:ju "names_beads" JY ["setting","thing"]:=fun _ _ _ _ _ _ us hl=>by obtain ⟨v0,v1,rfl⟩:=Q4 us hl; rfl
theorem aki:ju "pushed" acg ["rod","deck","by"]:=fun _ _ _ _ _ _ us hl=>by obtain ⟨v0,v1,v2,rfl⟩:=abZ us hl; rfl
theorem aia:ju "can_move" aaW ["manner","setting","thing"]:=fun _ _ _ _ _ _ us hl=>by obtain ⟨v0,v1,v2,rfl⟩:=abZ us hl; rfl
theorem adx:ju "behind_move" J1 ["setting","move"]:=fun _ _ _ _ _ _ us hl=>by obtain ⟨v0,v1,rfl⟩:=Q4 us hl; rfl
theorem abX:ju "all_moves" qH ["manner","setting"]:=fun _ _ _ _ _ _ us hl=>by obtain ⟨v0,v1,rfl⟩:=Q4 us hl; rfl
theorem ag6:ju "rod_apart" ZV ["rod","goal"]:=fun _ _ _ _ _ _ us hl=>by obtain ⟨v0,v1,rfl⟩:=Q4 us hl; rfl
theorem amN:ju "apart" acX ["one","other"]:=fun _ _ _ _ _ _ us hl=>by obtain ⟨v0,v1,rfl⟩:=Q4 us hl; rfl
theorem afs:ju "deck_moves" QT ["at","deck","change"]:=fun _ _ _ _ _ _ us hl=>by obtain ⟨v0,v1,v2,rfl⟩:=abZ us hl; rfl
theorem adh:ju "moves_to" zI ["manner","one","other"]:=fun _ _ _ _ _ _ us hl=>by obtain ⟨v0,v1,v2,rfl⟩:=abZ us hl; rfl
theorem adi:ju "nearest_ends" qv ["manner","setting","ahead","ends"]:=fun _ _ _ _ _ _ us hl=>by obtain ⟨v0,v1,v2,v3,rfl⟩:=ape us hl; rfl
theorem adj:ju "nearest" JN ["manner","setting","number"]:=fun _ _ _ _ _ _ us hl=>by obtain ⟨v0,v1,v2,rfl⟩:=abZ us hl; rfl
theorem ZF:ju "fewest_moves" zL ["manner","setting","number"]:=fun _ _ _ _ _ _ us hl=>by obtain ⟨v0,v1,v2,rfl⟩:=abZ us hl; rfl
theorem ag7:ju "slips" abD ["manner","setting","number"]:=fun _ _ _ _ _ _ us hl=>by obtain ⟨v0,v1,v2,rfl⟩:=abZ us hl; rfl
theorem akj:ju "_law_value" ZZ ["_law_manner_here","_law_setting_here"]:=fun _ _ _ _ _ _ us hl=>by obtain ⟨v0,v1,rfl⟩:=Q4 us hl; rfl
theorem amO:ju "_law_rods" aas ["_law_manner_here"]:=fun _ _ _ _ _ _ us hl=>by obtain ⟨v0,rfl⟩:=afz us hl; rfl
theorem aot:ju "_law_all" aa1 ["_law_manner_here","_law_rods_here"]:=fun _ _ _ _ _ _ us hl=>by obtain ⟨v0,v1,rfl⟩:=Q4 us hl; rfl
theorem aou:ju "_law_far" agj ["_law_one","_law_other"]:=fun _ _ _ _ _ _ us hl=>by obtain ⟨v0,v1,rfl⟩:=Q4 us hl; rfl
theorem ag8:ju "_law_refused" JB ["_law_e"]:=fun _ _ _ _ _ _ us hl=>by obtain ⟨v0,rfl⟩:=afz us hl; rfl
theorem amP:ju "_law_told" abK ["_law_way","_law_manner_here","_law_setting_here","_law_thing"]:=fun _ _ _ _ _ _ us hl=>by obtain ⟨v0,v1,v2,v3,rfl⟩:=ape us hl; rfl
theorem akk:ju "_law_slips" Jb ["_law_manner_here","_law_setting_here","_law_number"]:=fun _ _ _ _ _ _ us hl=>by obtain ⟨v0,v1,v2,rfl⟩:=abZ us hl; rfl
theorem akl:ju "_law_moves" Qc ["_law_setting_here","_law_other"]:=fun _ _ _ _ _ _ us hl=>by obtain ⟨v0,v1,rfl⟩:=Q4 us hl; rfl
theorem arW (HT:QA=true) {P:Program}{w:World}{K:PySem.W.Frag}{h:Heap}{mg:Str->Option Value}{base:Heap} (X:K.In h) (G:h.Ns mainGlobals mg) (T:Tops K) (C:Consts K mg):CLaw P w K mg base:=by
 have c_isWhole:jn P w K mg base "is_whole" ["thing","least","most"] 1 3 j5:=T.isWhole.callee X G ah7 fun f fd F=>jL F ahD fun cdv A outer s H E hr=>aaQ.2 P w K mg base f cdv A outer s H E C.b hr
 have c_rodWorth:jn P w K mg base "rod_worth" ["manner","rod"] 1 2 ze:=T.rodWorth.callee X G ag2 fun f fd F=>jL F aga fun cdv A outer s H E hr=>abv.2 P w K mg base f cdv A outer s H E trivial hr
 have c_allRods:jn P w K mg base "all_rods" ["manner"] 1 1 Jg:=T.allRods.callee X G ah8 fun f fd F=>ahE F C.b
 have c_hasAll:jn P w K mg base "has_all_digits" ["manner"] 2 1 aaS:=T.hasAll.callee X G akg fun f fd F=>jL F ad2 fun cdv A outer s H E hr=>aeW.2 P w K mg base f cdv A outer s H E ⟨C.b,c_allRods,c_rodWorth⟩ hr
 have c_isManner:jn P w K mg base "is_manner" ["thing"] 3 1 j1:=T.isManner.callee X G ag3 fun f fd F=>jL F JX fun cdv A outer s H E hr=>abw.2 P w K mg base f cdv A outer s H E ⟨C.b,C.least,C.most,c_isWhole,c_hasAll⟩ hr
 have c_check:jn P w K mg base "check_manner" ["thing"] 4 1 QS:=T.check.callee X G ag4 fun f fd F=>jL F agd fun cdv A outer s H E hr=>aeX.2 P w K mg base f cdv A outer s H E ⟨c_isManner⟩ hr
 have c_chkNum:jn P w K mg base "check_number" ["number"] 2 1 zr:=T.chkNum.callee X G aer fun f fd F=>jL F ad3 fun cdv A outer s H E hr=>acd.2 P w K mg base f cdv A outer s H E ⟨c_isWhole,C.mostNumber⟩ hr
 have c_num:jn P w K mg base "number_on" ["manner","setting"] 2 2 ahF:=T.num.callee X G ap8 fun f fd F=>jL F aeY fun cdv A outer s H E hr=>anR.2 P w K mg base f cdv A outer s H E ⟨c_rodWorth⟩ hr
 have c_full:jn P w K mg base "full_rods" ["manner","rods"] 1 2 alS:=T.full.callee X G aoq fun f fd F=>jL F anS fun cdv A outer s H E hr=>aiD.2 P w K mg base f cdv A outer s H E trivial hr
 have c_last:jn P w K mg base "last_rods" ["manner","ahead","number"] 3 3 aiG:=T.last.callee X G aor fun f fd F=>jL F ZR fun cdv A outer s H E hr=>aiF.2 P w K mg base f cdv A outer s H E ⟨c_allRods,c_rodWorth,c_num,c_full⟩ hr
 have c_isRod:jn P w K mg base "is_rod" ["manner","thing"] 2 2 Zt:=T.isRod.callee X G amL fun f fd F=>jL F alT fun cdv A outer s H E hr=>acT.2 P w K mg base f cdv A outer s H E ⟨C.b,c_isWhole⟩ hr
 have c_isSet:jn P w K mg base "is_setting" ["manner","thing"] 5 2 abx:=T.isSet.callee X G ag5 fun f fd F=>jL F age fun cdv A outer s H E hr=>acU.2 P w K mg base f cdv A outer s H E ⟨C.b,c_check,c_isRod,C.mostRods⟩ hr
 have c_chkSet:jn P w K mg base "check_setting" ["manner","thing"] 6 2 jS:=T.chkSet.callee X G aes fun f fd F=>jL F ad4 fun cdv A outer s H E hr=>aaT.2 P w K mg base f cdv A outer s H E ⟨c_isSet⟩ hr
 have c_cell:jn P w K mg base "_law_cell" ["_law_script","_law_k"] 1 2 agf:=T.cell.callee X G aos fun f fd F=>jL F anT fun cdv A outer s H E hr=>aiI.2 P w K mg base f cdv A outer s H E C.b hr
 have c_drawn:jn P w K mg base "_law_drawn" ["_law_script","_law_k","_law_many"] 2 3 JI:=T.drawn.callee X G amM fun f fd F=>jL F acV fun cdv A outer s H E hr=>ahG.2 P w K mg base f cdv A outer s H E ⟨c_cell⟩ hr
 have c_manner:jn P w K mg base "_law_manner" ["_law_script","_law_at"] 3 2 ZT:=T.manner.callee X G akh fun f fd F=>jL F zW fun cdv A outer s H E hr=>acf.2 P w K mg base f cdv A outer s H E ⟨C.b,c_drawn⟩ hr
 have c_setting:jn P w K mg base "_law_setting" ["_law_script","_law_at","_law_manner_here","_law_most"] 3 4 anW:=T.setting.callee X G ah9 fun f fd F=>jL F abA fun cdv A outer s H E hr=>anV.2 P w K mg base f cdv A outer s H E ⟨C.b,c_drawn⟩ hr
 have x_check:Jf P w K mg base "check_manner" ["thing"] 4 1 ae7:=T.check.thr X G ag4 fun f fd F=>QP F agd fun cdv A outer s H E hr=>abG.2 P w K mg base f cdv A outer s H E ⟨c_isManner,(C.errT.err (by decide))⟩ hr
 have x_isSet:Jf P w K mg base "is_setting" ["manner","thing"] 5 2 ae8:=T.isSet.thr X G ag5 fun f fd F=>QP F age fun cdv A outer s H E hr=>abH.2 P w K mg base f cdv A outer s H E ⟨x_check⟩ hr
 have x_chkSet:Jf P w K mg base "check_setting" ["manner","thing"] 6 2 qf:=T.chkSet.thr X G aes fun f fd F=>QP F ad4 fun cdv A outer s H E hr=>Qa.2 P w K mg base f cdv A outer s H E ⟨c_isSet,x_isSet,(C.errT.err (by decide))⟩ hr
 have x_chkNum:Jf P w K mg base "check_number" ["number"] 2 1 ZY:=T.chkNum.thr X G aer fun f fd F=>QP F ad3 fun cdv A outer s H E hr=>aci.2 P w K mg base f cdv A outer s H E ⟨c_isWhole,C.mostNumber,(C.errT.err (by decide))⟩ hr
 have c_NamesBeads:jn P w K mg base "names_beads" ["setting","thing"] 2 2 JZ:=T.NamesBeads.callee X G adw fun f fd F=>jL F adt fun cdv A outer s H E hr=>zc.2 P w K mg base f cdv A outer s H E ⟨C.b,c_isWhole,C.decks⟩ hr
 have c_Pushed:jn P w K mg base "pushed" ["rod","deck","by"] 1 3 ach:=T.Pushed.callee X G aki fun f fd F=>jL F ajV fun cdv A outer s H E hr=>aaV.2 P w K mg base f cdv A outer s H E ⟨trivial⟩ hr
 have c_CanMove:jn P w K mg base "can_move" ["manner","setting","thing"] 3 3 Zv:=T.CanMove.callee X G aia fun f fd F=>jL F ahH fun cdv A outer s H E hr=>aaX.2 P w K mg base f cdv A outer s H E ⟨c_NamesBeads,c_isRod,c_Pushed⟩ hr
 have c_BehindMove:jn P w K mg base "behind_move" ["setting","move"] 2 2 zy:=T.BehindMove.callee X G adx fun f fd F=>jL F aai fun cdv A outer s H E hr=>J9.2 P w K mg base f cdv A outer s H E ⟨c_Pushed⟩ hr
 have c_AllMoves:jn P w K mg base "all_moves" ["manner","setting"] 7 2 Qs:=T.AllMoves.callee X G abX fun f fd F=>jL F zz fun cdv A outer s H E hr=>ZU.2 P w K mg base f cdv A outer s H E ⟨C.b,c_chkSet,c_CanMove,C.decks,C.ways⟩ hr
 have c_RodApart:jn P w K mg base "rod_apart" ["rod","goal"] 1 2 ZX:=T.RodApart.callee X G ag6 fun f fd F=>jL F agg fun cdv A outer s H E hr=>ZW.2 P w K mg base f cdv A outer s H E ⟨C.b⟩ hr
 have c_Apart:jn P w K mg base "apart" ["one","other"] 2 2 aap:=T.Apart.callee X G amN fun f fd F=>jL F alW fun cdv A outer s H E hr=>ae6.2 P w K mg base f cdv A outer s H E ⟨C.b,c_RodApart⟩ hr
 have c_DeckMoves:jn P w K mg base "deck_moves" ["at","deck","change"] 1 3 aar:=T.DeckMoves.callee X G afs fun f fd F=>jL F aaY fun cdv A outer s H E hr=>JK.2 P w K mg base f cdv A outer s H E ⟨C.b⟩ hr
 have c_MovesTo:jn P w K mg base "moves_to" ["manner","one","other"] 7 3 qW:=T.MovesTo.callee X G adh fun f fd F=>jL F zu fun cdv A outer s H E hr=>JM.2 P w K mg base f cdv A outer s H E ⟨C.b,c_chkSet,c_DeckMoves,C.decks⟩ hr
 have g_MovesTo:GC K mg "moves_to" (fnD "moves_to"):=by
  obtain ⟨f,oc,od,an,kV,doc,pm,cdv,ct,osl,a,_⟩:=T.MovesTo
  exact ⟨.ref f,.ref f,PySem.W.mg_of X G a,rfl,fun H=>⟨f,rfl,.inr (.inr (.inl ⟨_,rfl,a⟩))⟩⟩
 have c_NearestEnds:jn P w K mg base "nearest_ends" ["manner","setting","ahead","ends"] 4 4 zK:=T.NearestEnds.callee X G adi fun f fd F=>jL F qo fun cdv A outer s H E hr=>Jt.2 P w K mg base f cdv A outer s H E ⟨c_last,c_Apart⟩ hr
 have c_Nearest:jn P w K mg base "nearest" ["manner","setting","number"] 7 3 qw:=T.Nearest.callee X G adj fun f fd F=>jL F JO fun cdv A outer s H E hr=>Qw.2 P w K mg base f cdv A outer s H E ⟨C.b,c_chkSet,c_chkNum,c_NearestEnds⟩ hr
 have g_Nearest:GC K mg "nearest" (fnD "nearest"):=by
  obtain ⟨f,oc,od,an,kV,doc,pm,cdv,ct,osl,a,_⟩:=T.Nearest
  exact ⟨.ref f,.ref f,PySem.W.mg_of X G a,rfl,fun H=>⟨f,rfl,.inr (.inr (.inl ⟨_,rfl,a⟩))⟩⟩
 have c_FewestMoves:jn P w K mg base "fewest_moves" ["manner","setting","number"] 8 3 qh:=T.FewestMoves.callee X G ZF fun f fd F=>jL F JP fun cdv A outer s H E hr=>qP.2 P w K mg base f cdv A outer s H E ⟨c_Nearest,c_Apart⟩ hr
 have g_FewestMoves:GC K mg "fewest_moves" (fnD "fewest_moves"):=by
  obtain ⟨f,oc,od,an,kV,doc,pm,cdv,ct,osl,a,_⟩:=T.FewestMoves
  exact ⟨.ref f,.ref f,PySem.W.mg_of X G a,rfl,fun H=>⟨f,rfl,.inr (.inr (.inl ⟨_,rfl,a⟩))⟩⟩
 have c_Slips:jn P w K mg base "slips" ["manner","setting","number"] 8 3 Qi:=T.Slips.callee X G ag7 fun f fd F=>jL F acY fun cdv A outer s H E hr=>abF.2 P w K mg base f cdv A outer s H E ⟨c_chkSet,c_chkNum,c_AllMoves,c_num,c_BehindMove⟩ hr
 have g_Slips:GC K mg "slips" (fnD "slips"):=by
  obtain ⟨f,oc,od,an,kV,doc,pm,cdv,ct,osl,a,_⟩:=T.Slips
  exact ⟨.ref f,.ref f,PySem.W.mg_of X G a,rfl,fun H=>⟨f,rfl,.inr (.inr (.inl ⟨_,rfl,a⟩))⟩⟩
 have x_AllMoves:Jf P w K mg base "all_moves" ["manner","setting"] 7 2 ad6:=T.AllMoves.thr X G abX fun f fd F=>QP F zz fun cdv A outer s H E hr=>ad5.2 P w K mg base f cdv A outer s H E ⟨x_chkSet⟩ hr
 have x_MovesTo:Jf P w K mg base "moves_to" ["manner","one","other"] 7 3 Qx:=T.MovesTo.thr X G adh fun f fd F=>QP F zu fun cdv A outer s H E hr=>Jh.2 P w K mg base f cdv A outer s H E ⟨C.b,c_chkSet,x_chkSet,(C.errT.err (by decide))⟩ hr
 have x_Nearest:Jf P w K mg base "nearest" ["manner","setting","number"] 7 3 JQ:=T.Nearest.thr X G adj fun f fd F=>QP F JO fun cdv A outer s H E hr=>Qy.2 P w K mg base f cdv A outer s H E ⟨c_chkSet,x_chkSet,x_chkNum⟩ hr
 have x_FewestMoves:Jf P w K mg base "fewest_moves" ["manner","setting","number"] 8 3 Jv:=T.FewestMoves.thr X G ZF fun f fd F=>QP F JP fun cdv A outer s H E hr=>Ju.2 P w K mg base f cdv A outer s H E ⟨x_Nearest⟩ hr
 have x_Slips:Jf P w K mg base "slips" ["manner","setting","number"] 8 3 acZ:=T.Slips.thr X G ag7 fun f fd F=>QP F acY fun cdv A outer s H E hr=>abI.2 P w K mg base f cdv A outer s H E ⟨c_chkNum,c_chkSet,x_chkSet,x_chkNum,x_AllMoves⟩ hr
 have c_LValue:jn P w K mg base "_law_value" ["_law_manner_here","_law_setting_here"] 1 2 Jw:=T.LValue.callee X G akj fun f fd F=>jL F Qz fun cdv A outer s H E hr=>ack.2 P w K mg base f cdv A outer s H E ⟨trivial⟩ hr
 have c_LRods:jn P w K mg base "_law_rods" ["_law_manner_here"] 1 1 ac1:=T.LRods.callee X G amO fun f fd F=>jL F aa0 fun cdv A outer s H E hr=>afa.2 P w K mg base f cdv A outer s H E ⟨C.b⟩ hr
 have c_LAll:jn P w K mg base "_law_all" ["_law_manner_here","_law_rods_here"] 2 2 agi:=T.LAll.callee X G aot fun f fd F=>jL F QU fun cdv A outer s H E hr=>aiJ.2 P w K mg base f cdv A outer s H E ⟨C.b,c_LRods⟩ hr
 have c_LFar:jn P w K mg base "_law_far" ["_law_one","_law_other"] 1 2 abT:=T.LFar.callee X G aou fun f fd F=>jL F anX fun cdv A outer s H E hr=>aiL.2 P w K mg base f cdv A outer s H E ⟨C.b⟩ hr
 have h_LRefused:aca P w K mg base "_law_refused" ["_law_e"] 1 1 qI:=T.LRefused.hdl X G ag8 fun f fd F=>arE F Zx fun cdv A outer s H E hr=>ad8.2 P w K mg base f cdv A outer s H E ⟨C.b,C.errT⟩ hr
 have c_LTold:jn P w K mg base "_law_told" ["_law_way","_law_manner_here","_law_setting_here","_law_thing"] 9 4 jH:=T.LTold.callee X G amP fun f fd F=>alD F agl fun cdv A outer s H E hr=>qY.2 P w K mg base f cdv A outer s H E ⟨c_Nearest,c_FewestMoves,c_Slips,c_MovesTo,g_Nearest,g_FewestMoves,g_Slips,g_MovesTo,x_Nearest,x_FewestMoves,x_Slips,x_MovesTo,h_LRefused,C.errT⟩ hr
 have c_LSlips:jn P w K mg base "_law_slips" ["_law_manner_here","_law_setting_here","_law_number"] 2 3 Qb:=T.LSlips.callee X G akk fun f fd F=>jL F zX fun cdv A outer s H E hr=>acl.2 P w K mg base f cdv A outer s H E ⟨C.b,c_LValue⟩ hr
 have c_LMoves:jn P w K mg base "_law_moves" ["_law_setting_here","_law_other"] 1 2 aa4:=T.LMoves.callee X G akl fun f fd F=>jL F JC fun cdv A outer s H E hr=>acm.2 P w K mg base f cdv A outer s H E ⟨C.b⟩ hr
 exact ⟨C.b,c_manner,c_LRods,c_setting,c_LAll,c_drawn,c_LValue,c_LFar,c_LTold,c_LSlips,c_Apart,c_LMoves⟩
theorem ap9 (HT:QA=true) {P:Program}{w:World}{K:PySem.W.Frag}{h:Heap}{mg:Str->Option Value}{fa:Addr} (X:K.In h) (G:h.Ns mainGlobals mg) (hfa:mg "law"=some (.ref fa)) (T:Tops K) (C:Consts K mg):
  ∃ fd:FuncData,(∀ (s:Shared) (v:Value),BindsTo s fd ⟨[v],[]⟩ [("_law_script",v)])/\∀ base:Heap,K.In base->base.Ns mainGlobals mg->FnOk P w K mg base CX0 10 fa fd ["_law_script"] (Pur K 1 anY):=by
 have Q:∀ base:Heap,CLaw P w K mg base:=fun base=>arW HT X G T C
 obtain ⟨f,oc,od,an,kV,doc,pm,cdv,ct,osl,a,l,c,kp⟩:=T.law
 have e:=hfa.symm.trans (PySem.W.mg_of X G a)
 cases e
 have F1:=aeB (st:=ac4) l c kp
 exact ⟨_,fun s v=> .of_eq rfl,fun base _ _=>jL F1 zj fun cdv A outer s H E hr=>al4.2 P w K mg base fa cdv A outer s H E (Q base) hr⟩
theorem arb (HT:QA=true) (K:PySem.W.Frag) (H:Hp) (a:Addr) (ns:List Int) (hl:ns.length<=63) (hS:SqL K H a (ns.map V.int)):Pur K 1 anY [.ref a] H (fun v _=>v= .bl true) fun _ _ _=>False:=
 ⟨[scr ns],.bool true,rfl,⟨_,_,rfl,⟨a,rfl,.inl ⟨ns,hS,rfl⟩⟩,rfl⟩,akf HT ns (by omega),fun v H' _ r=>r⟩
theorem arX (HT:QA=true) {l:PySem.W.OpenLaw}{q:Program}{loose:List Str}{XP:(Str->Option Value)->Heap->Prop}{YP:World->Heap->Prop}{d:DefRec}{K:Params->PySem.W.Frag} (hn:l.most=some 63) (hdf:d.params.defaults=[])
  (hY:∀ (w:World) (h:Heap),YP w h->(K w.params).In h) (hnm:d.name="law")
  (F:∀ (w:World) (mg:Str->Option Value) (h:Heap),(K w.params).In h->h.Ns mainGlobals mg->Tops (K w.params)/\Consts (K w.params) mg):
  PySem.W.WalkO q loose XP YP l.row.toRowW d [] (fun f vs=>PySem.call f vs):=
 L2.am6 (n:=63) (k:=10) (x:="_law_script") (CX:=fun _=>CX0) (sp:=fun w=>Pur (K w.params) 1 anY) hn (by decide) hdf ⟨rfl,by decide,by decide⟩ hY (fun w mg fa h KX G hm=>by
  obtain ⟨T,C⟩:=F w mg h KX G
  rw [hnm] at hm
  exact ap9 HT KX G hm T C) (fun w H a ns hl _ hS=>arb HT (K w.params) H a ns hl hS) fun _ _ _ _ _ z=>z
theorem aov {K:PySem.W.Frag}{mg:Str->Option Value}{h:Heap} (X:K.In h) (G:h.Ns mainGlobals mg) (z1:PySem.W.nsIn K mainGlobals "isinstance"=some none) (z2:PySem.W.nsIn K mainGlobals "bool"=some none) (z3:PySem.W.nsIn K mainGlobals "int"=some none) (z4:PySem.W.nsIn K mainGlobals "tuple"=some none) (z5:PySem.W.nsIn K mainGlobals "zip"=some none) (z6:PySem.W.nsIn K mainGlobals "range"=some none) (z7:PySem.W.nsIn K mainGlobals "all"=some none) (z8:PySem.W.nsIn K mainGlobals "len"=some none) (z9:PySem.W.nsIn K mainGlobals "max"=some none) (z10:PySem.W.nsIn K mainGlobals "min"=some none) (z11:PySem.W.nsIn K mainGlobals "sum"=some none) (z12:PySem.W.nsIn K mainGlobals "sorted"=some none) (z13:PySem.W.nsIn K mainGlobals "abs"=some none) (z14:PySem.W.nsIn K mainGlobals "list"=some none) (z15:PySem.W.nsIn K mainGlobals "enumerate"=some none) (z16:PySem.W.nsIn K mainGlobals "ValueError"=some none) (z17:PySem.W.nsIn K mainGlobals "str"=some none) (z18:PySem.W.nsIn K mainGlobals "set"=some none) (z19:PySem.W.nsIn K mainGlobals "dict"=some none):Bare mg:=
 have f:∀ {x:Str},PySem.W.nsIn K mainGlobals x=some none->mg x=none:=fun z=>PySem.W.mg_none_of X G z
 ⟨f z1,f z2,f z3,f z4,f z5,f z6,f z7,f z8,f z9,f z10,f z11,f z12,f z13,f z14,f z15,f z16,f z17,f z18,f z19⟩
theorem gc4 {K:PySem.W.Frag}{mg:Str->Option Value}{h:Heap}{x:Str}{a:Addr}{od:Option Addr}{n:Nat}{osl:Array (Option Value)}{i1 i2 i3 i4:Int}{t1 t2 t3 t4:Tok} (X:K.In h) (G:h.Ns mainGlobals mg) (e:PySem.W.nsIn K mainGlobals x=some (some (.ref a)))
  (l:K.lookup a=some ⟨.type "tuple",od,.seq #[.int i1 t1,.int i2 t2,.int i3 t3,.int i4 t4] n,osl⟩):GC K mg x (.tuple [.int i1,.int i2,.int i3,.int i4]):=
 acH X G e l rfl ⟨_,_,[.int i1,.int i2,.int i3,.int i4],rfl,(by show 4<=sizeLine; rw [sizeLine_eq]; decide),.cons ⟨_,rfl⟩ (.cons ⟨_,rfl⟩ (.cons ⟨_,rfl⟩ (.cons ⟨_,rfl⟩ .nil))),fun H=>⟨_,_,rfl,rfl,_,_,rfl,rfl,_,_,rfl,rfl,_,_,rfl,rfl,rfl⟩⟩
theorem gcI {K:PySem.W.Frag}{mg:Str->Option Value}{h:Heap}{x:Str}{i:Int}{t:Tok} (X:K.In h) (G:h.Ns mainGlobals mg) (e:PySem.W.nsIn K mainGlobals x=some (some (.int i t))):GC K mg x (.int i):=
 ⟨.int i,_,PySem.W.mg_of X G e,⟨t,rfl⟩,fun H=>rfl⟩
theorem amQ {K:PySem.W.Frag}{mg:Str->Option Value}{h:Heap}{x:Str}{a:Addr}{od:Option Addr}{n:Nat}{osl:Array (Option Value)}{i1 i2:Str}{t1 t2:Tok} (X:K.In h) (G:h.Ns mainGlobals mg) (e:PySem.W.nsIn K mainGlobals x=some (some (.ref a)))
  (l:K.lookup a=some ⟨.type "tuple",od,.seq #[.str i1 t1,.str i2 t2] n,osl⟩):GC K mg x (.tuple [.str i1,.str i2]):=
 acH X G e l rfl ⟨_,_,[.str i1,.str i2],rfl,(by show 2<=sizeLine; rw [sizeLine_eq]; decide),.cons ⟨_,rfl⟩ (.cons ⟨_,rfl⟩ .nil),fun H=>⟨_,_,rfl,rfl,_,_,rfl,rfl,rfl⟩⟩
theorem aow {K:PySem.W.Frag}{mg:Str->Option Value}{h:Heap}{x:Str}{a:Addr}{od:Option Addr}{n:Nat}{osl:Array (Option Value)}{i1 i2:Int}{t1 t2:Tok} (X:K.In h) (G:h.Ns mainGlobals mg) (e:PySem.W.nsIn K mainGlobals x=some (some (.ref a)))
  (l:K.lookup a=some ⟨.type "tuple",od,.seq #[.int i1 t1,.int i2 t2] n,osl⟩):GC K mg x (.tuple [.int i1,.int i2]):=
 acH X G e l rfl ⟨_,_,[.int i1,.int i2],rfl,(by show 2<=sizeLine; rw [sizeLine_eq]; decide),.cons ⟨_,rfl⟩ (.cons ⟨_,rfl⟩ .nil),fun H=>⟨_,_,rfl,rfl,_,_,rfl,rfl,rfl⟩⟩
theorem aox {K:PySem.W.Frag}{mg:Str->Option Value}{h:Heap}{y:Str}{cs:List Str} (X:K.In h) (G:h.Ns mainGlobals mg) (q:aeT K y cs=true):ErrT K mg y cs:=
 ⟨q,fun c C e=>PySem.W.mg_of X G (aiA e)⟩
end Rods
def PySem.W.Fast.tw7417878962516177478:Unit:=()
def PySem.W.Fast.tw2702411582913489262:Unit:=()
def PySem.W.Fast.tw5356490967299350893:Unit:=()
def PySem.W.Fast.tw18181581354417595957:Unit:=()
def PySem.W.Fast.tw4741786622516548115:Unit:=()
def PySem.W.Fast.tw12486395204952430197:Unit:=()
def PySem.W.Fast.tw8925912306150313465:Unit:=()
def PySem.W.Fast.tw5661285011991106076:Unit:=()
open PySem PySem.W PyProof.Rows
set_option maxRecDepth 100000 in
set_option maxHeartbeats 0 in
theorem PySem.Challenge.cw_beadrods_k21_nearest_holds : PySem.Challenge.rw_beadrods_k21_nearest.Holds := by
  w_on; o_law; k_head; (case hw => w_witness2)
  k_fill
  refine Rods.arX Rods.allN_true (l := PySem.Challenge.rw_beadrods_k21_nearest) rfl rfl (fun w h Y => PySem.W.kIn_of Y) rfl ?F
  case F =>
    intro w mg h KX G
    refine ⟨⟨?f1, ?f2, ?f3, ?f4, ?f5, ?f6, ?f7, ?f8, ?f9, ?f10, ?f11, ?f12, ?f13, ?f14, ?f15, ?f16, ?f17, ?f18, ?f19, ?f20, ?f21, ?f22, ?f23, ?f24, ?f25, ?f26, ?f27, ?f28, ?f29, ?f30, ?f31, ?f32, ?f33, ?f34, ?f35, ?f36, ?f37, ?f38, ?f39⟩, ⟨?b, ?c1, ?c2, ?c3, ?c4, ?c5, ?c6, ?et⟩⟩
    case b => refine' Rods.aov KX G ?_ ?_ ?_ ?_ ?_ ?_ ?_ ?_ ?_ ?_ ?_ ?_ ?_ ?_ ?_ ?_ ?_ ?_ ?_ <;> k_is
    case c1 =>
      refine' Rods.gc4 KX G ?a ?l
      (case a => k_is); (case l => k_is)
    case c2 =>
      refine' Rods.gc4 KX G ?a ?l
      (case a => k_is); (case l => k_is)
    case c3 =>
      refine' Rods.gcI KX G ?a
      (case a => k_is)
    case c4 =>
      refine' Rods.gcI KX G ?a
      (case a => k_is)
    case c5 =>
      refine' Rods.amQ KX G ?a ?l
      (case a => k_is); (case l => k_is)
    case c6 =>
      refine' Rods.aow KX G ?a ?l
      (case a => k_is); (case l => k_is)
    case et => exact Rods.aox KX G (by kernel_rfl)
    all_goals
      refine' BX.ak8 ?a ?l ?c ?k
      (case a => k_is); (case l => k_is); (case c => k_is); (case k => k_is)
#print axioms PySem.Challenge.cw_beadrods_k21_nearest_holds
end
