import PyProof.Rows.All
import Wide.All
import OpenK.AllK
import Wide.FinOn
import Lean
import PyProof.EqAt
import PyProof.EqKinds
import PyProof.TupleCall
import PyProof.DictWalks
import PyProof.ListMulRoad
import PyProof.Rows.Range3
import PyProof.StationsW
import OpenK.KOwn
import PyProof.ExcBaseAll.ValueError
import PyProof.MaxThree
import KE.KIsAll
import KE.KIsNot
import PyProof.RulesAs
import PyProof.ExcArgsOwn
import PyProof.ExcAttrAll.ValueError
import KE.KRevSl
import PySem.Challenge.RW_beadrods_k67_counting
set_option Elab.async false
set_option linter.all false
set_option maxRecDepth 100000
set_option maxHeartbeats 4000000
theorem zzA {α : Type _} {a : α} {l : List α} : (a :: l)[0]? = some a := rfl
theorem zzB {α : Type _} {a : α} {i : Nat} {l : List α} : (a :: l)[i + 1]? = l[i]? := rfl
theorem zzC {α : Type _} {o : Option α} : (some o).join = o := rfl
theorem zzD {α β : Type _} (a : α) (f : α → Option β) : (some a).bind f = f a := rfl
theorem zzE {α β : Type _} (a : α) (f : α → β) : Option.map f (some a) = some (f a) := rfl
theorem zzF {α : Type _} {x : α} {xs : List α} {i : Nat} {a : α} : (x :: xs).set (i + 1) a = x :: xs.set i a := rfl
theorem zzG {α : Type _} {x : α} {xs : List α} {a : α} : (x :: xs).set 0 a = a :: xs := rfl
theorem zzH {α β : Type _} (f : α → Option β) : (none : Option α).bind f = none := rfl
theorem zzI {α β : Type _} (f : α → β) : Option.map f (none : Option α) = none := rfl
theorem zzJ : (!true) = false := rfl
theorem zzK : (!false) = true := rfl
theorem zzL : (false = true) = False := Bool.false_eq_true
theorem zzM {α : Sort _} {x : Decidable True} (a b : α) : ite True a b = a := if_true a b
theorem zzN {α : Sort _} {x : Decidable False} (a b : α) : ite False a b = b := if_false a b
section
namespace L2
open PySem PySem.Spec PyProof.Rows
noncomputable abbrev Key:=Sum Int Str
noncomputable def alF:Key->Value->Bool
 | .inl k,v=>Value.isInt k v
 | .inr x,v=>Value.isStrOf x v
noncomputable def aoa (w:World):Key->Int
 | .inl k=>hashInt k
 | .inr x=>hashStr w x
theorem qj:∀ {k:Key}{v:Value},alF k v=true->(∃ i t,k=Sum.inl i/\v=Value.int i t) ∨ (∃ x t,k=Sum.inr x/\v=Value.str x t)
 | .inl i,v,h=>by
  obtain ⟨t,e⟩:=Value.isInt_shape (k:=i) (v:=v) h
  exact .inl ⟨i,t,rfl,e⟩
 | .inr x,v,h=>by
  obtain ⟨t,e⟩:=Value.isStrOf_shape (x:=x) (v:=v) h
  exact .inr ⟨x,t,rfl,e⟩
theorem alR (a b:Int):decide ((Sum.inl a:Key)=Sum.inl b)=(a == b):=by
 by_cases e:a=b
 ·subst e; simp
 ·have h:¬ (Sum.inl a:Key)=Sum.inl b:=fun q=>e (Sum.inl.inj q)
  rw [decide_eq_false h]
  exact (beq_eq_false_iff_ne.mpr e).symm
theorem alS (a b:Str):decide ((Sum.inr a:Key)=Sum.inr b)=decide (a=b):=by
 by_cases e:a=b
 ·subst e; simp
 ·have h:¬ (Sum.inr a:Key)=Sum.inr b:=fun q=>e (Sum.inr.inj q)
  rw [decide_eq_false h,decide_eq_false e]
theorem alT (a:Int) (b:Str):decide ((Sum.inl a:Key)=Sum.inr b)=false:=decide_eq_false (fun q=>nomatch q)
theorem alU (a:Str) (b:Int):decide ((Sum.inr a:Key)=Sum.inl b)=false:=decide_eq_false (fun q=>nomatch q)
noncomputable def Zz (prog:Program) (w:World):PySem.KeyKind prog w Key where
 is:=alF
 hash:=aoa w
 inj:=fun v a b ha hb=>by
  rcases qj ha with ⟨i,t,rfl,rfl⟩ | ⟨x,t,rfl,rfl⟩
  ·rcases qj hb with ⟨j,u,rfl,e⟩ | ⟨y,u,rfl,e⟩
   ·injection e with e1 _; rw [e1]
   ·exact nomatch e
  ·rcases qj hb with ⟨j,u,rfl,e⟩ | ⟨y,u,rfl,e⟩
   ·exact nomatch e
   ·injection e with e1 _; rw [e1]
 byValue:=fun k v h=>by
  rcases qj h with ⟨i,t,rfl,rfl⟩ | ⟨x,t,rfl,rfl⟩ <;> rfl
 pyHash:=fun hv h=>by
  rcases qj hv with ⟨i,t,rfl,rfl⟩ | ⟨x,t,rfl,rfl⟩
  ·exact wpAny_pyHash_int h
  ·exact wpAny_pyHash_str h
 eqBool:=fun hu hv h=>by
  rcases qj hu with ⟨i,t,rfl,rfl⟩ | ⟨x,t,rfl,rfl⟩
  ·rcases qj hv with ⟨j,u,rfl,rfl⟩ | ⟨y,u,rfl,rfl⟩
   ·rw [alR] at h; exact wpAny_eqBool_int h
   ·rw [alT] at h; exact SeqAt.EqAt.int_str i t y u _ _ _ _ h
  ·rcases qj hv with ⟨j,u,rfl,rfl⟩ | ⟨y,u,rfl,rfl⟩
   ·rw [alU] at h; exact SeqAt.EqAt.str_int x t j u _ _ _ _ h
   ·rw [alS] at h; exact wpAny_eqBool_str h
 «strs»:=fun k x t v h=>by
  rcases qj h with ⟨i,u,rfl,e⟩ | ⟨y,u,rfl,e⟩
  ·exact nomatch e
  ·injection e with e1 _
   subst e1
   cases v <;> rfl
end L2
namespace L2
open PySem PySem.Spec PyProof.Rows
inductive V where
 | non | bl (b:Bool) | int (i:Int) | str (x:Str) | byt (b:Array UInt8) | flt (b:UInt64) | ref (a:Addr) | ty (n:String)
 deriving DecidableEq
noncomputable def jQ:V->Value->Prop
 | .non,u=>u=Value.none
 | .bl b,u=>u=Value.bool b
 | .int i,u=>∃ t,u=Value.int i t
 | .str x,u=>∃ t,u=Value.str x t
 | .byt b,u=>∃ t,u=Value.bytes b t
 | .flt b,u=>∃ t,u=Value.float b t
 | .ref a,u=>u=Value.ref a
 | .ty n,u=>u=Value.type n
noncomputable abbrev jC:List V->List Value->Prop:=Paired jQ
theorem jC.length {xs:List V}{us:List Value} (r:jC xs us):xs.length=us.length:=Paired.length r
theorem jC.get:∀ {xs:List V}{us:List Value}{i:Nat}{x:V},jC xs us->xs[i]?=some x->∃ u,us[i]?=some u/\jQ x u
 | _,_,_,_,.nil,e=>by simp at e
 | _,_,0,_,.cons r _,e=>by simp at e; subst e; exact ⟨_,rfl,r⟩
 | _,_,i+1,x,.cons _ t,e=>by
  obtain ⟨u,h1,h2⟩:=jC.get (i:=i) (x:=x) t (by simpa using e)
  exact ⟨u,by simpa using h1,h2⟩
theorem jC.set {x:V}{u:Value} (r:jQ x u):∀ {xs:List V}{us:List Value} (i:Nat),jC xs us->jC (xs.set i x) (us.set i u)
 | _,_,_,.nil=> .nil
 | _,_,0,.cons _ t=> .cons r t
 | _,_,i+1,.cons q t=> .cons q (jC.set r i t)
theorem jC.append:∀ {xs ys:List V}{us ws:List Value},jC xs us->jC ys ws->jC (xs++ys) (us++ws)
 | _,_,_,_,.nil,s=>s
 | _,_,_,_,.cons r t,s=> .cons r (jC.append t s)
theorem jC.take:∀ {xs:List V}{us:List Value} (n:Nat),jC xs us->jC (xs.take n) (us.take n)
 | _,_,0,_=> .nil
 | _,_,_+1,.nil=> .nil
 | _,_,n+1,.cons r t=> .cons r (jC.take n t)
theorem jC.drop:∀ {xs:List V}{us:List Value} (n:Nat),jC xs us->jC (xs.drop n) (us.drop n)
 | _,_,0,r=>r
 | _,_,_+1,.nil=> .nil
 | _,_,n+1,.cons _ t=>jC.drop n t
noncomputable def aem:Option V->Option Value->Prop
 | some v,some u=>jQ v u
 | none,none=>True
 | _,_=>False
noncomputable def KV {κ:Type}:List (κ × V)->List (κ × Value)->Prop:=Paired fun (p:κ × V) (q:κ × Value)=>p.1=q.1/\jQ p.2 q.2
noncomputable def kV:Key->V
 | .inl i=> .int i
 | .inr x=> .str x
inductive HO where
 | lst (xs:List V)
 | tup (xs:List V)
 | dK (kvs:List (Key × V)) | dT (kvs:List (List Key × V))
 | set (S:Int->Bool) (n:Nat)
 | ins (C dx:Addr) (fs:List (Str × V))
 | own (x:Addr)
 | xd (fs:List (Str × V))
 | met (f x:Addr)
 | rng (lo hi:Int)
 | frz (o:Obj) (u:HO)
 | tbl (ps:Array Value)
 | ext (φ:Heap->Prop)
noncomputable abbrev Hp:=Addr->Option HO
noncomputable def upd (H:Hp) (a:Addr) (o:HO):Hp:=fun b=>if b=a then some o else H b
theorem jq {H:Hp}{a:Addr}{o:HO}:upd H a o a=some o:=by unfold upd; rw [if_pos rfl]
theorem jm {H:Hp}{a b:Addr}{o:HO} (h:b ≠ a):upd H a o b=H b:=by unfold upd; rw [if_neg h]
theorem agh {H:Hp}{a:Addr}{o u:HO}:upd (upd H a o) a u=upd H a u:=by
 funext b; unfold upd; split <;> rfl
theorem qr {H:Hp}{a b:Addr}{o:HO} (h:H a=some o) (h':H b=none):a ≠ b:=by
 intro e; subst e; rw [h] at h'; cases h'
section
variable (P:Program) (w:World)
noncomputable def qO (H:Hp) (h:Heap) (a:Addr):HO->Prop
 | .lst xs=>xs.length<=sizeLine/\∃ (its:List Value) (n:Nat),jC xs its/\h.get? a=some { cls:= .type "list",data:= .seq its.toArray n }
 | .tup xs=>xs.length<=sizeLine/\∃ its:List Value,jC xs its/\IsTup h a its.toArray
 | .dK kvs=>kvs.length<=sizeLine/\(a == sysModules)=false/\∃ vs,KV kvs vs/\h.DictOf (Zz P w) a vs
 | .dT kvs=>kvs.length<=sizeLine/\(a == sysModules)=false/\∃ xs:List (List Key × Addr × Value),
   Paired (fun (p:List Key × V) (q:List Key × Addr × Value)=>p.1=q.1/\H q.2.1=some (.tup (p.1.map kV))/\jQ p.2 q.2.2) kvs xs/\
   ∃ o es ep,h.get? a=some o/\o.ExactDict/\o.data= .dict es ep/\es.toList=xs.map (entryOfKey (tupleKind (Zz P w)))/\(xs.map (·.1)).Nodup
 | .set S n=>h.SetOf (intKind P w) a S n
 | .ins C dx fs=>H dx=some (.own a)/\fs.length<=1000/\dx ≠ a/\h.get? a=some (PySem.W.instObj C dx)/\
   ∃ mA,h.Ns1 dx mA/\(∀ f,aem (fs.lookup f) (mA f))/\PySem.Within mA (fs.map (·.1))
 | .own _=>∃ o,h.get? a=some o
 | .xd fs=>∃ mA,h.Ns1 a mA/\∀ f,aem (fs.lookup f) (mA f)
 | .rng lo hi=>∃ t u v,h.get? a=some { cls:= .type "range",data:= .fields #[.int lo t,.int hi u,.int 1 v] }
 | .frz o u=>h.get? a=some o/\qO H h a u
 | .tbl ps=>h.get? a=some { cls:= .none,data:= .fields ps }
 | .met f x=>h.get? a=some (PySem.W.methodObj (.ref f) (.ref x))
 | .ext φ=>φ h/\(∃ o,h.get? a=some o)/\∀ h1 h2:Heap,φ h1->(∀ o,h1.get? a=some o->h2.get? a=some o)->φ h2
noncomputable def HOk (H:Hp) (h:Heap):Prop:=∀ a o,H a=some o->qO P w H h a o
end
section
variable {P:Program}{w:World}{H H':Hp}{h h':Heap}{a:Addr}{o:HO}
theorem qO.lt (x:qO P w H h a o):a < h.objs.size:=by
 cases o with
 | lst xs=>obtain ⟨_,_,_,_,e⟩:=x; exact Heap.lt_size e
 | tup xs=>obtain ⟨_,_,_,p⟩:=x; exact p.lt
 | dK kvs=>obtain ⟨_,_,_,_,o,_,_,e,_⟩:=x; exact Heap.lt_size e
 | dT kvs=>obtain ⟨_,_,_,_,o,_,_,e,_⟩:=x; exact Heap.lt_size e
 | set S n=>obtain ⟨o,_,_,_,e,_⟩:=x; exact Heap.lt_size e
 | ins C dx fs=>obtain ⟨_,_,_,e,_⟩:=x; exact Heap.lt_size e
 | own y=>obtain ⟨_,e⟩:=x; exact Heap.lt_size e
 | xd fs=>obtain ⟨_,⟨_,_,_,e,_⟩,_⟩:=x; exact Heap.lt_size e
 | rng lo hi=>obtain ⟨_,_,_,e⟩:=x; exact Heap.lt_size e
 | frz ob u=>obtain ⟨e,_⟩:=x; exact Heap.lt_size e
 | tbl ps=>exact Heap.lt_size (show h.get? a=some _ from x)
 | met f y=>exact Heap.lt_size (show h.get? a=some _ from x)
 | ext φ=>obtain ⟨_,⟨_,e⟩,_⟩:=x; exact Heap.lt_size e
theorem Paired.mapP {α β:Type}{F G:α->β->Prop}:∀ {l₁:List α}{l₂:List β},Paired F l₁ l₂->(∀ a b,F a b->G a b)->Paired G l₁ l₂
 | _,_,.nil,_=> .nil
 | _,_,.cons r t,f=> .cons (f _ _ r) (Paired.mapP t f)
theorem qO.stay (x:qO P w H h a o) (k:∀ b u,(b=a ∨ H b=some (.own a))->h.get? b=some u->h'.get? b=some u)
  (ho:∀ b,H b=some (.own a)->H' b=some (.own a)) (ht:∀ b xs,H b=some (.tup xs)->H' b=some (.tup xs)):qO P w H' h' a o:=by
 induction o with
 | lst xs=>obtain ⟨z,its,n,r,e⟩:=x; exact ⟨z,its,n,r,k _ _ (.inl rfl) e⟩
 | tup xs=>obtain ⟨z,its,r,ob,e,c⟩:=x; exact ⟨z,its,r,ob,k _ _ (.inl rfl) e,c⟩
 | dK kvs=>obtain ⟨z,y,vs,r,ob,es,ep,e,c⟩:=x; exact ⟨z,y,vs,r,ob,es,ep,k _ _ (.inl rfl) e,c⟩
 | dT kvs=>
  obtain ⟨z,y,xs,r,ob,es,ep,e,c⟩:=x
  exact ⟨z,y,xs,Paired.mapP r fun p q z=>⟨z.1,ht _ _ z.2.1,z.2.2⟩,ob,es,ep,k _ _ (.inl rfl) e,c⟩
 | set S n=>obtain ⟨ob,es,ep,t,e,c⟩:=x; exact ⟨ob,es,ep,t,k _ _ (.inl rfl) e,c⟩
 | ins C dx fs=>
  obtain ⟨d,z,ne,e,mA,⟨od,es,ep,e2,c⟩,r⟩:=x
  exact ⟨ho _ d,z,ne,k _ _ (.inl rfl) e,mA,⟨od,es,ep,k _ _ (.inr d) e2,c⟩,r⟩
 | own y=>obtain ⟨ob,e⟩:=x; exact ⟨ob,k _ _ (.inl rfl) e⟩
 | xd fs=>obtain ⟨mA,⟨od,es,ep,e,c⟩,r⟩:=x; exact ⟨mA,⟨od,es,ep,k _ _ (.inl rfl) e,c⟩,r⟩
 | rng lo hi=>obtain ⟨t,u,v,e⟩:=x; exact ⟨t,u,v,k _ _ (.inl rfl) e⟩
 | frz ob u ih=>obtain ⟨e,q⟩:=x; exact ⟨k _ _ (.inl rfl) e,ih q⟩
 | tbl ps=>
  have e:h.get? a=some { cls:= .none,data:= .fields ps }:=x
  show h'.get? a=some { cls:= .none,data:= .fields ps }
  exact k a _ (.inl rfl) e
 | met f y=>
  have e:h.get? a=some (PySem.W.methodObj (.ref f) (.ref y)):=x
  show h'.get? a=some (PySem.W.methodObj (.ref f) (.ref y))
  exact k a _ (.inl rfl) e
 | ext φ=>obtain ⟨p,⟨o,e⟩,st⟩:=x; exact ⟨st _ _ p fun o q=>k _ _ (.inl rfl) q,⟨o,k _ _ (.inl rfl) e⟩,st⟩
theorem HOk.lt (x:HOk P w H h) (e:H a=some o):a < h.objs.size:=(x a o e).lt
theorem HOk.fresh (x:HOk P w H h) (e:h.objs.size<=a):H a=none:=by
 cases q:H a with
 | none=>rfl
 | some u=>exact absurd (Nat.lt_of_lt_of_le (x.lt q) e) (Nat.lt_irrefl _)
theorem HOk.kept (x:HOk P w H h) (k:∀ b u,h.get? b=some u->h'.get? b=some u):HOk P w H h':=fun a o e=>
 (x a o e).stay (fun b u _ q=>k b u q) (fun _ q=>q) fun _ _ q=>q
theorem HOk.laid (x:HOk P w H h) (k:∀ b u,h.get? b=some u->h'.get? b=some u) (hp:h.objs.size<=a) (new:qO P w (upd H a o) h' a o):HOk P w (upd H a o) h':=fun b u e=>by
 have hn:=x.fresh hp
 by_cases hb:b=a
 ·subst hb; rw [jq] at e; cases e; exact new
 ·rw [jm hb] at e
  exact (x b u e).stay (fun c v _ q=>k c v q) (fun c q=>by rw [jm (qr q hn)]; exact q) fun c xs q=>by rw [jm (qr q hn)]; exact q
end
noncomputable def Rd (H:Hp) (a:Addr) (u:HO):Prop:=H a=some u ∨ ∃ o,H a=some (.frz o u)
theorem Rd.of {H:Hp}{a:Addr}{u:HO} (h:H a=some u):Rd H a u:= .inl h
theorem Rd.ok {P:Program}{w:World}{H:Hp}{h:Heap}{a:Addr}{u:HO} (r:Rd H a u) (x:HOk P w H h):qO P w H h a u:=by
 rcases r with r | ⟨o,r⟩
 ·exact x a u r
 ·obtain ⟨_,q⟩:=x a _ r
  exact q
noncomputable def Mut:Option HO->Prop
 | some (.lst _)=>True
 | some (.dK _)=>True
 | some (.dT _)=>True
 | some (.set _ _)=>True
 | some (.ins _ _ _)=>True
 | some (.ext _)=>True
 | _=>False
section
variable {P:Program}{w:World}{H:Hp}{h h':Heap}{x e:Addr}{o':HO}
theorem HOk.write (ok:HOk P w H h) (mu:Mut (H x)) (he:e=x ∨ H e=some (.own x)) (k:∀ b u,b ≠ e->h.get? b=some u->h'.get? b=some u) (heo:∃ u,h'.get? e=some u)
  (new:qO P w (upd H x o') h' x o'):HOk P w (upd H x o') h':=fun b u q=>by
 have nown:∀ c y,H c=some (.own y)->c ≠ x:=fun c y r z=>by subst z; rw [r] at mu; exact mu
 have ntup:∀ c xs,H c=some (.tup xs)->c ≠ x:=fun c xs r z=>by subst z; rw [r] at mu; exact mu
 by_cases hb:b=x
 ·subst hb; rw [jq] at q; cases q; exact new
 ·rw [jm hb] at q
  by_cases hbe:b=e
  ·have q':H b=some (.own x):=by
    rcases he with z | z
    ·exact absurd (hbe.trans z) hb
    ·rw [hbe]; exact z
   rw [q] at q'; cases q'
   obtain ⟨v,hv⟩:=heo
   exact ⟨v,by rw [hbe]; exact hv⟩
  ·refine (ok b u q).stay (fun c v hc r=>k c v ?_ r) (fun c r=>by rw [jm (nown c b r)]; exact r) fun c xs r=>by rw [jm (ntup c xs r)]; exact r
   rcases hc with rfl | hc
   ·exact hbe
   ·rintro rfl
    rcases he with z | z
    ·exact nown c b hc z
    ·rw [hc] at z; cases z; exact hb rfl
end
structure Un (fs ex:List Addr) (H H':Hp) (h h':Heap):Prop where
 keep:∀ b o,h.get? b=some o->H b=none->b ∉ fs->b ∉ ex->h'.get? b=some o
 slot:∀ b o,h.get? b=some o->H b=none->b ∈ fs->b ∉ ex->∃ sl,h'.get? b=some { o with slots:=sl }
 free:∀ b o,h.get? b=some o->H b=none->b ∉ ex->H' b=none
 there:∀ b o,h.get? b=some o->b ∉ ex->∃ o',h'.get? b=some o'
 tups:∀ b xs,H b=some (.tup xs)->H' b=some (.tup xs)
 frzs:∀ b o u,H b=some (.frz o u)->H' b=some (.frz o u)
 tbls:∀ b ps,H b=some (.tbl ps)->∃ more,H' b=some (.tbl (ps++more))
section
variable {fs fs' ex ex':List Addr}{H H1 H2:Hp}{h h1 h2 h':Heap}{a x e:Addr}{o:HO}
theorem Un.any (u:Un fs ex H H1 h h1) {b:Addr}{ob:Obj} (q:h.get? b=some ob) (n:H b=none) (hx:b ∉ ex):∃ sl,h1.get? b=some { ob with slots:=sl }:=by
 by_cases hb:b ∈ fs
 ·exact u.slot b ob q n hb hx
 ·exact ⟨ob.slots,u.keep b ob q n hb hx⟩
theorem Un.trans (a:Un fs ex H H1 h h1) (b:Un fs ex H1 H2 h1 h2):Un fs ex H H2 h h2 where
 keep:=fun c ob q n hc hx=>b.keep c ob (a.keep c ob q n hc hx) (a.free c ob q n hx) hc hx
 slot:=fun c ob q n hc hx=>by
  obtain ⟨sl,e1⟩:=a.slot c ob q n hc hx
  obtain ⟨sl',e2⟩:=b.slot c _ e1 (a.free c ob q n hx) hc hx
  exact ⟨sl',e2⟩
 free:=fun c ob q n hx=>by
  obtain ⟨o',e1⟩:=a.there c ob q hx
  exact b.free c o' e1 (a.free c ob q n hx) hx
 there:=fun c ob q hx=>by
  obtain ⟨o',e1⟩:=a.there c ob q hx
  exact b.there c o' e1 hx
 tups:=fun c xs q=>b.tups c xs (a.tups c xs q)
 frzs:=fun c ob xs q=>b.frzs c ob xs (a.frzs c ob xs q)
 tbls:=fun c ps q=>by
  obtain ⟨m1,e1⟩:=a.tbls c ps q
  obtain ⟨m2,e2⟩:=b.tbls c _ e1
  exact ⟨m1++m2,by rw [e2,Array.append_assoc]⟩
theorem Un.kept (k:∀ b u,h.get? b=some u->h'.get? b=some u):Un fs ex H H h h':=
 ⟨fun b ob q _ _ _=>k b ob q,fun b ob q _ _ _=>⟨ob.slots,k b ob q⟩,fun _ _ _ n _=>n,fun b ob q _=>⟨ob,k b ob q⟩,fun _ _ q=>q,fun _ _ _ q=>q,fun _ ps q=>⟨#[],by rw [q]; simp⟩⟩
theorem Un.refl:Un fs ex H H h h:=Un.kept fun _ _ q=>q
theorem Un.laid (k:∀ b u,h.get? b=some u->h'.get? b=some u) (hp:h.objs.size<=a) (hn:H a=none):Un fs ex H (upd H a o) h h' where
 keep:=fun b u q _ _ _=>k b u q
 slot:=fun b u q _ _ _=>⟨u.slots,k b u q⟩
 free:=fun b u q n _=>by rw [jm (Nat.ne_of_lt (Nat.lt_of_lt_of_le (Heap.lt_size q) hp))]; exact n
 there:=fun b u q _=>⟨u,k b u q⟩
 tups:=fun b xs q=>by rw [jm (qr q hn)]; exact q
 frzs:=fun b u xs q=>by rw [jm (qr q hn)]; exact q
 tbls:=fun b ps q=>⟨#[],by rw [jm (qr q hn),q]; simp⟩
theorem Un.write (mu:Mut (H x)) (he:e=x ∨ H e=some (.own x)) (k:∀ b u,b ≠ e->h.get? b=some u->h'.get? b=some u) (heo:∃ u,h'.get? e=some u):Un fs ex H (upd H x o) h h':=by
 have hx:∀ b,H b=none->b ≠ x:=fun b n z=>by subst z; rw [n] at mu; exact mu
 have hb:∀ b,H b=none->b ≠ e:=fun b n z=>by
  subst z
  rcases he with r | r
  ·exact hx b n r
  ·rw [n] at r; cases r
 have hm:∀ b u,H b=some u->¬ Mut (some u)->b ≠ x:=fun b u q nm z=>by subst z; rw [q] at mu; exact nm mu
 refine ⟨fun b u q n _ _=>k b u (hb b n) q,fun b u q n _ _=>⟨u.slots,k b u (hb b n) q⟩,fun b u q n _=>by rw [jm (hx b n)]; exact n,fun b u q _=>?_,
  fun b xs q=>by rw [jm (hm b _ q fun z=>z)]; exact q,fun b u xs q=>by rw [jm (hm b _ q fun z=>z)]; exact q,fun b ps q=>⟨#[],by rw [jm (hm b _ q fun z=>z),q]; simp⟩⟩
 by_cases hbe:b=e
 ·subst hbe; exact heo
 ·exact ⟨u,k b u hbe q⟩
theorem Un.mono (u:Un fs ex H H1 h h1) (hs:∀ b ∈ fs,b ∈ fs') (hx:∀ b ∈ ex,b ∈ ex'):Un fs' ex' H H1 h h1:=
 ⟨fun b ob q n hb he=>u.keep b ob q n (fun z=>hb (hs b z)) fun z=>he (hx b z),fun _ _ q n _ he=>u.any q n fun z=>he (hx _ z),fun b ob q n he=>u.free b ob q n fun z=>he (hx b z),fun b ob q he=>u.there b ob q fun z=>he (hx b z),u.tups,u.frzs,u.tbls⟩
end
noncomputable def trk (h:Heap) (H:Hp):List Addr:=(List.range h.objs.size).filter fun a=>(H a).isSome
noncomputable def adg (h:Heap) (H:Hp):Heap:=PySem.W.hideAll h (trk h H)
theorem agV (h:Heap) (H:Hp):(adg h H).objs.size=h.objs.size:=PySem.W.hideAll_size _ _
theorem ahZ {h:Heap}{H:Hp}{b:Addr}{o:Obj} (e:h.get? b=some o) (n:H b=none):(adg h H).get? b=some o:=
 PySem.W.hideAll_get _ e fun hm=>by
  have q:(H b).isSome=true:=(List.mem_filter.mp hm).2
  rw [n] at q; simp at q
theorem aj7 {h:Heap}{H:Hp}{b:Addr}{o:Obj} (e:(adg h H).get? b=some o):h.get? b=some o/\H b=none:=by
 have e':h.get? b=some o:=PySem.W.of_hideAll (trk h H) e
 refine ⟨e',?_⟩
 cases q:H b with
 | none=>rfl
 | some x=>
  have hm:b ∈ trk h H:=List.mem_filter.mpr ⟨List.mem_range.mpr (Heap.lt_size e'),by simp [q]⟩
  have z:(adg h H).get? b=none:=PySem.W.hideAll_none (trk h H) hm
  rw [z] at e; cases e
noncomputable def Ji (g h:Heap) (L:Addr):List (Addr × Obj):=(List.range h.objs.size).filterMap fun a=>if a=L ∨ (g.get? a).isSome=true then none else (h.get? a).map fun o=>(a,o)
theorem aaF {g h:Heap}{L a:Addr}{o:Obj} (h1:a ≠ L) (h2:g.get? a=none) (h3:h.get? a=some o):(a,o) ∈ Ji g h L:=
 List.mem_filterMap.mpr ⟨a,List.mem_range.mpr (Heap.lt_size h3),by simp [h1,h2,h3]⟩
theorem abk {g h:Heap}{L:Addr}{p:Addr × Obj} (hp:p ∈ Ji g h L):p.1 ≠ L/\g.get? p.1=none/\h.get? p.1=some p.2:=by
 obtain ⟨b,_,e⟩:=List.mem_filterMap.mp hp
 split at e
 ·cases e
 ·rename_i hn
  cases q:h.get? b with
  | none=>rw [q] at e; simp at e
  | some u=>
   rw [q] at e
   simp only [zzE,Option.some.injEq] at e
   subst e
   refine ⟨fun z=>hn (.inl z),?_,q⟩
   show g.get? b=none
   cases r:g.get? b with
   | none=>rfl
   | some v=>exact (hn (.inr (by simp [r]))).elim
noncomputable def jT (g h:Heap) (L d:Addr):List (Addr × Obj):=(Ji g h L).filter fun p=>decide (p.1 ≠ d)
theorem ah0 {g h:Heap}{L:Addr}:News g L h (Ji g h L):=fun p hp=>let ⟨a,b,c⟩:=abk hp; ⟨c,a,b⟩
end L2
namespace L2
open PySem PySem.Spec PyProof.Rows
structure Mod (K:PySem.W.Frag) (mg:Str->Option Value) (base:Heap):Prop where
 kin:K.In base
 glob:base.Ns mainGlobals mg
 blt:∃ mb,base.Ns builtinsNs mb/\∀ x:Str,x ≠ "__name__"->mb x=bootBuiltins x
 nolimit:base.NoLimit
structure Cx where
 prog:Program
 w:World
 K:PySem.W.Frag
 mg:Str->Option Value
 base:Heap
 A:Around
 N:List Str
 s₀:Shared
 H₀:Hp
 env:Env
 outer:List Env
 stack:List Env
 ex:List Addr
 fn:Str->Bool
 calm:Bool
 pn:List (Addr × Obj)
 xe:Value->Shared->Prop
noncomputable def frs (l:List Env):List Addr:=l.filterMap (·.frame)
noncomputable abbrev Cx.fs (X:Cx):List Addr:=frs X.outer
noncomputable def Vis (sc:Scope) (x:Str):Prop:=sc.names.lookup x=some .local ∨ sc.names.lookup x=some .cell ∨ sc.names.lookup x=some .free
noncomputable def Loc (sc:Scope) (x:Str):Prop:=sc.names.lookup x=some .local ∨ sc.names.lookup x=some .cell
noncomputable def aob (env:Env) (h:Heap) (m:Str->Option Value) (x:Str) (u:Value):Prop:=
 (env.kindOf x=some .local/\m x=some u) ∨ ((env.kindOf x=some .cell ∨ env.kindOf x=some .free)/\∃ c,env.cells.lookup x=some c/\h.IsCell c (some u))
structure Cx.Ok (X:Cx):Prop where
 mod:Mod X.K X.mg X.base
 kind:X.env.scope.kind= .function
 glob:X.env.globals=mainGlobals
 blt:X.env.builtins=builtinsNs
 above:X.s₀.heap.objs.size<=X.env.locals
 inj:∀ x y c,X.env.cells.lookup x=some c->X.env.cells.lookup y=some c->x=y
 has:∀ x,(X.env.kindOf x=some .cell ∨ X.env.kindOf x=some .free)->∃ c,X.env.cells.lookup x=some c
 cab:∀ x c,X.fn x=true->X.env.cells.lookup x=some c->X.s₀.heap.objs.size<=c
 hd:X.calm=true->X.A.handled=none
 frames:X.A.frames=some X.stack
 stk:X.stack=X.outer ∨ (X.stack=X.env::X.outer/\X.env.frame=some X.env.locals)
 exf:∀ b ∈ X.ex,b ≠ X.env.locals/\∀ x c,X.env.cells.lookup x=some c->c ≠ b
 bs:∀ b o,X.base.get? b=some o->X.s₀.heap.get? b=some o/\X.H₀ b=none
 bsz:X.base.objs.size<=X.s₀.heap.objs.size
 noex:∀ b o,X.base.get? b=some o->b ∉ X.ex
 exfs:∀ b ∈ X.ex,b ∉ X.fs
 funs:X.s₀.heap.FunFrames X.base X.outer
 frf:∀ b ∈ X.fs,X.H₀ b=none
structure Inv (X:Cx) (pins:List (Addr × Obj)) (σ:List (Option V)) (H:Hp) (s:Shared):Prop where
 ok:X.Ok
 os:s.os=X.s₀.os
 bare:AllBare s.gens
 base:Un X.fs X.ex X.H₀ H X.s₀.heap s.heap
 loc:∃ m,s.heap.Ns X.env.locals m/\∀ (i:Nat) (x:Str) (v:V),X.N[i]?=some x->σ[i]?=some (some v)->Vis X.env.scope x->∃ u,jQ v u/\aob X.env s.heap m x u
 cell:∀ x c,X.env.cells.lookup x=some c->∃ v,s.heap.IsCell c v
 free:H X.env.locals=none
 freeC:∀ x c,X.env.cells.lookup x=some c->H c=none
 pin:∀ p ∈ X.pn++pins,s.heap.get? p.1=some p.2/\H p.1=none/\p.1 ≠ X.env.locals/\p.1 ∉ X.fs/\∀ v,p.2.data ≠ .cell v
 hok:HOk X.prog X.w H s.heap
 len:σ.length=X.N.length
section
variable {X:Cx}{pins:List (Addr × Obj)}{σ:List (Option V)}{H H':Hp}{s:Shared}{h':Heap}
theorem Cx.Ok.nofr (ok:X.Ok) {b:Addr}{o:Obj} (e:X.base.get? b=some o):b ∉ X.fs:=fun hb=>by
 have:=(ok.funs.mem hb).1
 rw [e] at this; cases this
theorem Inv.bs (I:Inv X pins σ H s):∀ b o,X.base.get? b=some o->s.heap.get? b=some o/\H b=none:=fun b o e=>
 ⟨I.base.keep b o (I.ok.bs b o e).1 (I.ok.bs b o e).2 (I.ok.nofr e) (I.ok.noex b o e),I.base.free b o (I.ok.bs b o e).1 (I.ok.bs b o e).2 (I.ok.noex b o e)⟩
theorem Inv.bk (I:Inv X pins σ H s):∀ b o,X.base.get? b=some o->s.heap.get? b=some o:=fun b o e=>(I.bs b o e).1
theorem Inv.mod (I:Inv X pins σ H s):Mod X.K X.mg X.base:=I.ok.mod
theorem Inv.kIn (I:Inv X pins σ H s):X.K.In s.heap:=I.ok.mod.kin.keeps I.bk
theorem Inv.nolimit (I:Inv X pins σ H s):s.heap.NoLimit:=I.ok.mod.nolimit.keeps I.bk
theorem Inv.fr (I:Inv X pins σ H s):∃ m,Fr X.base X.env.locals s.heap m:=
 let ⟨m,hn,_⟩:=I.loc
 ⟨m,hn,I.bk,Nat.le_trans I.ok.bsz I.ok.above⟩
theorem Inv.lt (I:Inv X pins σ H s):X.env.locals < s.heap.objs.size:=let ⟨_,hn,_⟩:=I.loc; hn.lt
theorem Inv.sz (I:Inv X pins σ H s):X.s₀.heap.objs.size<=s.heap.objs.size:=Nat.le_trans I.ok.above (Nat.le_of_lt I.lt)
theorem Inv.nofs (I:Inv X pins σ H s) {a:Addr} (h:s.heap.objs.size<=a):a ∉ X.fs:=fun hb=>by
 obtain ⟨_,o,ho,_⟩:=I.ok.funs.mem hb
 exact absurd (Nat.lt_of_lt_of_le (Heap.lt_size ho) (Nat.le_trans I.sz h)) (Nat.lt_irrefl _)
theorem Inv.cne (I:Inv X pins σ H s):∀ x c,X.env.cells.lookup x=some c->c ≠ X.env.locals:=fun x c e z=>by
 obtain ⟨v,o,ho,hd⟩:=I.cell x c e
 obtain ⟨m,⟨o',es,ep,ho',hd',_⟩,_⟩:=I.loc
 rw [z,ho'] at ho; cases ho; rw [hd'] at hd; cases hd
theorem Inv.funs (I:Inv X pins σ H s):s.heap.FunFrames X.base X.outer:=by
 have all:∀ (l:List Env),(∀ b ∈ frs l,b ∈ X.fs)->X.s₀.heap.FunFrames X.base l->s.heap.FunFrames X.base l:=by
  intro l
  induction l with
  | nil=>intro _ _; trivial
  | cons env r ih=>
   intro hs hl
   obtain ⟨hk,⟨L,o,hf,hn,ho,hd⟩,hr⟩:=hl
   have hL:L ∈ X.fs:=hs L (by unfold frs; rw [List.filterMap_cons,hf]; exact List.mem_cons_self)
   obtain ⟨sl,e⟩:=I.base.slot L o ho (I.ok.frf L hL) hL fun z=>I.ok.exfs L z hL
   exact ⟨hk,⟨L,_,hf,hn,e,hd⟩,ih (fun b hb=>hs b (by unfold frs; rw [List.filterMap_cons,hf]; exact List.mem_cons_of_mem _ hb)) hr⟩
 exact all X.outer (fun _ hb=>hb) I.ok.funs
theorem Inv.stack (I:Inv X pins σ H s):s.heap.FunFrames X.base X.stack:=by
 rcases I.ok.stk with e | ⟨e,hf⟩
 ·rw [e]; exact I.funs
 ·rw [e]
  obtain ⟨m,hn,_⟩:=I.loc
  refine .cons (by rw [I.ok.kind]; decide) hf hn ?_ I.funs
  exact Heap.get?_none_of_le (Nat.le_trans I.ok.bsz I.ok.above)
theorem Inv.stkSub (I:Inv X pins σ H s):∀ b ∈ frs X.stack,b ∈ X.env.locals::X.fs:=fun b hb=>by
 rcases I.ok.stk with e | ⟨e,hf⟩
 ·rw [e] at hb; exact List.mem_cons_of_mem _ hb
 ·rw [e] at hb
  unfold frs at hb
  rw [List.filterMap_cons,hf] at hb
  exact hb
theorem Inv.stkFree (I:Inv X pins σ H s):∀ b ∈ frs X.stack,H b=none:=fun b hb=>by
 rcases List.mem_cons.mp (I.stkSub b hb) with e | hb
 ·rw [e]; exact I.free
 ·obtain ⟨_,o,ho,_⟩:=I.ok.funs.mem hb
  exact I.base.free b o ho (I.ok.frf b hb) fun z=>I.ok.exfs b z hb
theorem Inv.step {g':Array GenState}{t':Nat}{d':Drawn}{ch:List Addr} (I:Inv X pins σ H s)
  (hch:∀ b ∈ ch,(b ∈ X.ex ∨ X.s₀.heap.objs.size<=b)/\b ≠ X.env.locals/\(∀ x c,X.env.cells.lookup x=some c->c ≠ b)/\∀ p ∈ X.pn++pins,p.1 ≠ b)
  (keep:∀ b o,b ≠ X.env.locals->b ∉ X.fs->b ∉ ch->s.heap.get? b=some o->H b=none->h'.get? b=some o)
  (slot:∀ b o,b ≠ X.env.locals->b ∈ X.fs->b ∉ ch->s.heap.get? b=some o->H b=none->∃ sl,h'.get? b=some { o with slots:=sl }) (free:∀ b o,b ∉ ch->s.heap.get? b=some o->H b=none->H' b=none)
  (there:∀ b o,b ∉ ch->s.heap.get? b=some o->∃ o',h'.get? b=some o')
  (tups:∀ b xs,H b=some (.tup xs)->H' b=some (.tup xs)) (frzs:∀ b o u,H b=some (.frz o u)->H' b=some (.frz o u)) (tbls:∀ b ps,H b=some (.tbl ps)->∃ more,H' b=some (.tbl (ps++more)))
  (ns:∀ m,s.heap.Ns X.env.locals m->h'.Ns X.env.locals m) (hok:HOk X.prog X.w H' h') (hg:AllBare g'):
  Inv X pins σ H' { s with heap:=h',gens:=g',drawn:=d',toks:=t' }:=by
 have neL:∀ b o,X.s₀.heap.get? b=some o->b ≠ X.env.locals:=fun b o e=>Nat.ne_of_lt (Nat.lt_of_lt_of_le (Heap.lt_size e) I.ok.above)
 have neC:∀ b o,X.s₀.heap.get? b=some o->b ∉ X.ex->b ∉ ch:=fun b o e hx hb=>by
  rcases (hch b hb).1 with z | z
  ·exact hx z
  ·exact absurd (Nat.lt_of_lt_of_le (Heap.lt_size e) z) (Nat.lt_irrefl _)
 have cellK:∀ x c,X.env.cells.lookup x=some c->∀ v,s.heap.IsCell c v->h'.IsCell c v:=fun x c e v ⟨o,ho,hd⟩=>by
  have nch:c ∉ ch:=fun z=>(hch c z).2.2.1 x c e rfl
  by_cases hc:c ∈ X.fs
  ·obtain ⟨sl,q⟩:=slot c o (I.cne x c e) hc nch ho (I.freeC x c e)
   exact ⟨_,q,hd⟩
  ·exact ⟨o,keep c o (I.cne x c e) hc nch ho (I.freeC x c e),hd⟩
 refine ⟨I.ok,I.os,hg,⟨fun b o e n hb hx=>?_,fun b o e n hb hx=>?_,fun b o e n hx=>?_,fun b o e hx=>?_,fun b xs e=>tups b xs (I.base.tups b xs e),fun b o xs e=>frzs b o xs (I.base.frzs b o xs e),fun b ps e=>?_⟩,?_,fun x c e=>?_,?_,fun x c e=>?_,fun p hp=>?_,hok,I.len⟩
 ·exact keep b o (neL b o e) hb (neC b o e hx) (I.base.keep b o e n hb hx) (I.base.free b o e n hx)
 ·obtain ⟨sl,e1⟩:=I.base.slot b o e n hb hx
  obtain ⟨sl',e2⟩:=slot b _ (neL b o e) hb (neC b o e hx) e1 (I.base.free b o e n hx)
  exact ⟨sl',e2⟩
 ·obtain ⟨o',e1⟩:=I.base.there b o e hx
  exact free b o' (neC b o e hx) e1 (I.base.free b o e n hx)
 ·obtain ⟨o',e1⟩:=I.base.there b o e hx
  exact there b o' (neC b o e hx) e1
 ·obtain ⟨m1,e1⟩:=I.base.tbls b ps e
  obtain ⟨m2,e2⟩:=tbls b _ e1
  exact ⟨m1++m2,by rw [e2,Array.append_assoc]⟩
 ·obtain ⟨m,hn,hl⟩:=I.loc
  refine ⟨m,ns m hn,fun i x v e1 e2 e3=>?_⟩
  obtain ⟨u,r,l⟩:=hl i x v e1 e2 e3
  refine ⟨u,r,?_⟩
  rcases l with l | ⟨k,c,e,z⟩
  ·exact .inl l
  ·exact .inr ⟨k,c,e,cellK x c e _ z⟩
 ·obtain ⟨v,z⟩:=I.cell x c e
  exact ⟨v,cellK x c e v z⟩
 ·obtain ⟨m,⟨o,_,_,ho,_⟩,_⟩:=I.loc
  exact free _ o (fun z=>(hch _ z).2.1 rfl) ho I.free
 ·obtain ⟨v,o,ho,hd⟩:=I.cell x c e
  exact free c o (fun z=>(hch c z).2.2.1 x c e rfl) ho (I.freeC x c e)
 ·obtain ⟨e,n,ne,nf,d⟩:=I.pin p hp
  have nch:p.1 ∉ ch:=fun z=>(hch p.1 z).2.2.2 p hp rfl
  exact ⟨keep p.1 p.2 ne nf nch e n,free p.1 p.2 nch e n,ne,nf,d⟩
theorem Inv.un {t':Nat} (I:Inv X pins σ H s) (u:Un X.fs [] H H' s.heap h') (hok:HOk X.prog X.w H' h'):Inv X pins σ H' { s with heap:=h',toks:=t' }:=by
 obtain ⟨m,⟨o,es,ep,ho,r⟩,_⟩:=id I.loc
 obtain ⟨sl,hL⟩:=u.any ho I.free (by simp)
 exact I.step (g':=s.gens) (d':=s.drawn) (ch:=[]) (fun _ z=>nomatch z) (fun b o _ hb _ e n=>u.keep b o e n hb (by simp)) (fun b o _ hb _ e n=>u.slot b o e n hb (by simp)) (fun b o _ e n=>u.free b o e n (by simp)) (fun b o _ e=>u.there b o e (by simp)) u.tups u.frzs u.tbls (fun m' hm=>by
  obtain ⟨o',es',ep',ho',r'⟩:=hm
  rw [ho] at ho'; cases ho'
  exact ⟨_,es',ep',hL,r'⟩) hok I.bare
theorem Inv.call {g':Array GenState}{t':Nat}{d':Drawn}{ch:List Addr} (I:Inv X pins σ H s) (u:Un (frs X.stack) ch H H' s.heap h') (hok:HOk X.prog X.w H' h') (hg:AllBare g')
  (hch:∀ b ∈ ch,(b ∈ X.ex ∨ X.s₀.heap.objs.size<=b)/\b ≠ X.env.locals/\(∀ x c,X.env.cells.lookup x=some c->c ≠ b)/\∀ p ∈ X.pn++pins,p.1 ≠ b):
  Inv X pins σ H' { s with heap:=h',gens:=g',drawn:=d',toks:=t' }:=by
 obtain ⟨m,⟨o,es,ep,ho,r⟩,_⟩:=id I.loc
 obtain ⟨sl,hL⟩:=u.any ho I.free fun z=>(hch _ z).2.1 rfl
 exact I.step (ch:=ch) hch (fun b o hL hb hc e n=>u.keep b o e n (fun z=>(List.mem_cons.mp (I.stkSub b z)).elim hL hb) hc) (fun b o _ _ hc e n=>u.any e n hc) (fun b o hc e n=>u.free b o e n hc) (fun b o hc e=>u.there b o e hc) u.tups u.frzs u.tbls (fun m' hm=>by
  obtain ⟨o',es',ep',ho',r'⟩:=hm
  rw [ho] at ho'; cases ho'
  exact ⟨_,es',ep',hL,r'⟩) hok hg
theorem Inv.turned {t':Nat}{it:Addr} (I:Inv X pins σ H s) (k:∀ b o,b ≠ it->s.heap.get? b=some o->h'.get? b=some o) (hn:H it=none) (hL:it ≠ X.env.locals)
  (h1:it ∈ X.ex ∨ X.s₀.heap.objs.size<=it) (h2:∀ x c,X.env.cells.lookup x=some c->c ≠ it) (h3:∀ p ∈ X.pn++pins,p.1 ≠ it):Inv X pins σ H { s with heap:=h',toks:=t' }:=by
 have nit:∀ b u,H b=some u->b ≠ it:=fun b u e z=>by rw [z,hn] at e; cases e
 refine I.step (g':=s.gens) (d':=s.drawn) (ch:=[it]) (fun b hb=>?_) (fun b o _ _ hc e _=>k b o (fun z=>hc (by simp [z])) e) (fun b o _ _ hc e _=>⟨o.slots,k b o (fun z=>hc (by simp [z])) e⟩) (fun _ _ _ _ n=>n)
  (fun b o hc e=>⟨o,k b o (fun z=>hc (by simp [z])) e⟩) (fun _ _ e=>e) (fun _ _ _ e=>e) (fun b ps e=>⟨#[],by rw [e]; simp⟩) (fun m hm=>?_) (fun b u e=>?_) I.bare
 ·have e:b=it:=by simpa using hb
  subst e
  exact ⟨h1,hL,h2,h3⟩
 ·obtain ⟨o,es,ep,ho,r⟩:=hm
  exact ⟨o,es,ep,k _ o (Ne.symm hL) ho,r⟩
 ·refine (I.hok b u e).stay (fun c v hc q=>k c v ?_ q) (fun _ q=>q) fun _ _ q=>q
  rcases hc with z | z
  ·rw [z]; exact nit b u e
  ·exact nit c _ z
theorem Inv.tok (I:Inv X pins σ H s) (t:Nat):Inv X pins σ H { s with toks:=t }:=I.un (h':=s.heap) (t':=t) Un.refl I.hok
theorem Inv.kept {t':Nat} (I:Inv X pins σ H s) (k:∀ b u,s.heap.get? b=some u->h'.get? b=some u):Inv X pins σ H { s with heap:=h',toks:=t' }:=I.un (Un.kept k) (I.hok.kept k)
theorem Inv.laid {a:Addr}{o:HO}{t':Nat} (I:Inv X pins σ H s) (k:∀ b u,s.heap.get? b=some u->h'.get? b=some u) (hp:s.heap.objs.size<=a) (new:qO X.prog X.w (upd H a o) h' a o):
  Inv X pins σ (upd H a o) { s with heap:=h',toks:=t' }:=I.un (Un.laid k hp (I.hok.fresh hp)) (I.hok.laid k hp new)
theorem Inv.write {x e:Addr}{o:HO}{t':Nat} (I:Inv X pins σ H s) (mu:Mut (H x)) (he:e=x ∨ H e=some (.own x)) (k:∀ b u,b ≠ e->s.heap.get? b=some u->h'.get? b=some u) (heo:∃ u,h'.get? e=some u)
  (new:qO X.prog X.w (upd H x o) h' x o):Inv X pins σ (upd H x o) { s with heap:=h',toks:=t' }:=I.un (Un.write mu he k heo) (I.hok.write mu he k heo new)
theorem Inv.pins_of {pins':List (Addr × Obj)} (I:Inv X pins σ H s) (h:∀ p ∈ pins',s.heap.get? p.1=some p.2/\H p.1=none/\p.1 ≠ X.env.locals/\p.1 ∉ X.fs/\∀ v,p.2.data ≠ .cell v):Inv X pins' σ H s:=
 ⟨I.ok,I.os,I.bare,I.base,I.loc,I.cell,I.free,I.freeC,fun p hp=>(List.mem_append.mp hp).elim (fun z=>I.pin p (List.mem_append_left _ z)) (h p),I.hok,I.len⟩
theorem aen {N:List Str} (hN:N.Nodup) {i j:Nat}{x:Str} (a:N[i]?=some x) (b:N[j]?=some x):i=j:=by
 obtain ⟨h1,e1⟩:=List.getElem?_eq_some_iff.mp a
 obtain ⟨h2,e2⟩:=List.getElem?_eq_some_iff.mp b
 exact (List.getElem_inj hN).mp (e1.trans e2.symm)
theorem acB {M:Model}{A:Around}{E:Value->Shared->Prop}{i:Nat}{x:Str}{v:V}{u:Value}{Q:Unit->Shared->Prop} (I:Inv X pins σ H s) (hN:X.N.Nodup) (hi:X.N[i]?=some x) (hx:Loc X.env.scope x) (r:jQ v u)
  (h:∀ s',Inv X pins (σ.set i (some v)) H s'->(∃ a,Heap.SameBut a s.heap s'.heap/\(a=X.env.locals ∨ X.env.cells.lookup x=some a))->Q () s') (hf:X.fn x=true ∨ X.env.scope.names.lookup x=some .local:=by first | exact .inl rfl | exact .inr rfl | assumption):wpAny M A (storeName X.env x u) Q E s:=by
 obtain ⟨m,hn,hl⟩:=id I.loc
 have hcls:(X.env.scope.kind == .class || (X.env.scope.kind == .module && X.env.locals != X.env.globals))=false:=by rw [I.ok.kind]; rfl
 have hiσ:i < σ.length:=by rw [I.len]; exact (List.getElem?_eq_some_iff.mp hi).1
 have cne:=I.cne
 have tracked:∀ {a:Addr} {h':Heap},(∃ o,s.heap.get? a=some o/\H a=none)->Heap.SameBut a s.heap h'->HOk X.prog X.w H h':=fun {a h'} ha hs b ob e=>by
  obtain ⟨_,_,hfree⟩:=ha
  refine (I.hok b ob e).stay (fun c w' hc q=>(hs.2 c ?_).trans q) (fun _ q=>q) fun _ _ q=>q
  rintro rfl
  rcases hc with rfl | hc
  ·rw [hfree] at e; cases e
  ·rw [hfree] at hc; cases hc
 rcases hx with hk | hk
 ·refine wpAny_storeName_local hk hn (fun h' hn' hs=>?_) hcls
  obtain ⟨oL,_,_,hoL,_⟩:=id hn
  refine h _ ⟨I.ok,I.os,I.bare,⟨fun b o e n hb hx=>?_,fun b o e n hb hx=>?_,I.base.free,fun b o e hx=>?_,I.base.tups,I.base.frzs,I.base.tbls⟩,⟨_,hn',fun j y v' e1 e2 e3=>?_⟩,fun y c e=>?_,I.free,I.freeC,fun p hp=>?_,tracked ⟨oL,hoL,I.free⟩ hs,by simpa using I.len⟩ ⟨_,hs,.inl rfl⟩
  ·exact (hs.2 b (Nat.ne_of_lt (Nat.lt_of_lt_of_le (Heap.lt_size e) I.ok.above))).trans (I.base.keep b o e n hb hx)
  ·obtain ⟨sl,e1⟩:=I.base.slot b o e n hb hx
   exact ⟨sl,(hs.2 b (Nat.ne_of_lt (Nat.lt_of_lt_of_le (Heap.lt_size e) I.ok.above))).trans e1⟩
  ·obtain ⟨o',e1⟩:=I.base.there b o e hx
   exact ⟨o',(hs.2 b (Nat.ne_of_lt (Nat.lt_of_lt_of_le (Heap.lt_size e) I.ok.above))).trans e1⟩
  ·by_cases hj:j=i
   ·subst hj
    rw [hi] at e1; cases e1
    rw [List.getElem?_set_self hiσ] at e2
    cases e2
    exact ⟨u,r,.inl ⟨hk,by simp⟩⟩
   ·rw [List.getElem?_set_ne (Ne.symm hj)] at e2
    obtain ⟨u',r',q⟩:=hl j y v' e1 e2 e3
    refine ⟨u',r',?_⟩
    rcases q with ⟨k,e⟩ | ⟨k,c,e,z⟩
    ·refine .inl ⟨k,?_⟩
     have:y ≠ x:=fun e=>hj (aen hN e1 (e ▸ hi))
     simp [this,e]
    ·exact .inr ⟨k,c,e,z.sameBut hs (cne y c e)⟩
  ·obtain ⟨w',z⟩:=I.cell y c e
   exact ⟨w',z.sameBut hs (cne y c e)⟩
  ·obtain ⟨e,n,ne,nf,d⟩:=I.pin p hp
   exact ⟨(hs.2 p.1 ne).trans e,n,ne,nf,d⟩
 ·have hfn:X.fn x=true:=by
   rcases hf with z | z
   ·exact z
   ·rw [z] at hk; cases hk
  obtain ⟨c,hc⟩:=I.ok.has x (.inl hk)
  obtain ⟨w',z⟩:=I.cell x c hc
  refine wpAny_storeName_cell I.ok.kind hk hc z (fun h' hc' hs=>?_)
  obtain ⟨oc,hoc,hocd⟩:=id z
  refine h { s with heap:=h' } ⟨I.ok,I.os,I.bare,⟨fun b o e n hb hx=>?_,fun b o e n hb hx=>?_,I.base.free,fun b o e hx=>?_,I.base.tups,I.base.frzs,I.base.tbls⟩,⟨m,hn.sameBut hs (Ne.symm (cne x c hc)),fun j y v' e1 e2 e3=>?_⟩,fun y c' e=>?_,I.free,I.freeC,fun p hp=>?_,tracked ⟨oc,hoc,I.freeC x c hc⟩ hs,by simpa using I.len⟩ ⟨c,hs,.inr hc⟩
  ·exact (hs.2 b (Nat.ne_of_lt (Nat.lt_of_lt_of_le (Heap.lt_size e) (I.ok.cab x c hfn hc)))).trans (I.base.keep b o e n hb hx)
  ·obtain ⟨sl,e1⟩:=I.base.slot b o e n hb hx
   exact ⟨sl,(hs.2 b (Nat.ne_of_lt (Nat.lt_of_lt_of_le (Heap.lt_size e) (I.ok.cab x c hfn hc)))).trans e1⟩
  ·obtain ⟨o',e1⟩:=I.base.there b o e hx
   exact ⟨o',(hs.2 b (Nat.ne_of_lt (Nat.lt_of_lt_of_le (Heap.lt_size e) (I.ok.cab x c hfn hc)))).trans e1⟩
  ·by_cases hj:j=i
   ·subst hj
    rw [hi] at e1; cases e1
    rw [List.getElem?_set_self hiσ] at e2
    cases e2
    exact ⟨u,r,.inr ⟨.inl hk,c,hc,hc'⟩⟩
   ·rw [List.getElem?_set_ne (Ne.symm hj)] at e2
    obtain ⟨u',r',q⟩:=hl j y v' e1 e2 e3
    refine ⟨u',r',?_⟩
    rcases q with q | ⟨k,c',e,z'⟩
    ·exact .inl q
    ·refine .inr ⟨k,c',e,z'.sameBut hs ?_⟩
     rintro rfl
     exact hj (aen hN e1 (I.ok.inj _ _ _ e hc ▸ hi))
  ·by_cases hcc:c'=c
   ·subst hcc; exact ⟨_,hc'⟩
   ·obtain ⟨w2,z2⟩:=I.cell y c' e
    exact ⟨w2,z2.sameBut hs hcc⟩
  ·obtain ⟨e,n,ne,nf,d⟩:=I.pin p hp
   refine ⟨(hs.2 p.1 ?_).trans e,n,ne,nf,d⟩
   intro q
   rw [q,hoc] at e
   have q':oc=p.2:=Option.some.inj e
   exact d w' (by rw [←q']; exact hocd)
theorem abl {M:Model}{A:Around}{E:Value->Shared->Prop}{i:Nat}{x:Str}{v:V}{u:Value}{Q:Unit->Shared->Prop} (I:Inv X pins σ H s) (hN:X.N.Nodup) (hi:X.N[i]?=some x) (hx:Loc X.env.scope x) (r:jQ v u)
  (h:∀ s',Inv X pins (σ.set i (some v)) H s'->Q () s') (hf:X.fn x=true ∨ X.env.scope.names.lookup x=some .local:=by first | exact .inl rfl | exact .inr rfl | assumption):wpAny M A (storeName X.env x u) Q E s:=
 acB I hN hi hx r (fun s' I' _=>h s' I') hf
theorem Inv.call' {s':Shared}{ch:List Addr} (I:Inv X pins σ H s) (ho:s'.os=s.os) (u:Un (frs X.stack) ch H H' s.heap s'.heap) (hok:HOk X.prog X.w H' s'.heap) (hg:AllBare s'.gens)
  (hch:∀ b ∈ ch,(b ∈ X.ex ∨ X.s₀.heap.objs.size<=b)/\b ≠ X.env.locals/\(∀ x c,X.env.cells.lookup x=some c->c ≠ b)/\∀ p ∈ X.pn++pins,p.1 ≠ b):Inv X pins σ H' s':=by
 obtain ⟨h',g',d',t',o'⟩:=s'
 have e:o'=s.os:=ho
 subst e
 exact I.call (g':=g') (t':=t') (d':=d') u hok hg hch
end
noncomputable abbrev XK:=Value->Option Addr->Hp->Prop
noncomputable abbrev St:=List (Option V)
noncomputable abbrev VK:=V->Hp->Prop
noncomputable abbrev TE:=St->Hp->VK->Prop
noncomputable abbrev TT:=St->Hp->(Bool->Hp->Prop)->Prop
noncomputable abbrev TA:=St->Hp->(List V->Hp->Prop)->Prop
structure Ends where
 nx:St->Hp->Prop
 rt:VK
 bk:St->Hp->Prop:=fun _ _=>False
 ct:St->Hp->Prop:=fun _ _=>False
noncomputable abbrev TS:=Ends->St->Hp->Prop
noncomputable def EP (X:Cx) (pins:List (Addr × Obj)) (σ:St) (Q:VK) (u:Value) (s':Shared):Prop:=∃ v H',Inv X pins σ H' s'/\jQ v u/\Q v H'
noncomputable def TP (X:Cx) (pins:List (Addr × Obj)) (σ:St) (Q:Bool->Hp->Prop) (b:Bool) (s':Shared):Prop:=∃ H',Inv X pins σ H' s'/\Q b H'
noncomputable def AP (X:Cx) (pins:List (Addr × Obj)) (σ:St) (Q:List V->Hp->Prop) (us:List Value) (s':Shared):Prop:=∃ vs H',Inv X pins σ H' s'/\jC vs us/\Q vs H'
noncomputable def SP (X:Cx) (pins:List (Addr × Obj)) (D:Ends) (f:Flow) (s':Shared):Prop:=
 match f with
 | .next=>∃ σ' H',Inv X pins σ' H' s'/\D.nx σ' H'
 | .brk=>∃ σ' H',Inv X pins σ' H' s'/\D.bk σ' H'
 | .cont=>∃ σ' H',Inv X pins σ' H' s'/\D.ct σ' H'
 | .ret u=>∃ v σ' H',Inv X pins σ' H' s'/\jQ v u/\D.rt v H'
noncomputable def PE (X:Cx) (e:Expr) (t:TE):Prop:=
 ∀ (pins:List (Addr × Obj)) (s:Shared) (σ:St) (H:Hp) (Q:VK),Inv X pins σ H s->t σ H Q->wpAny (model X.prog X.w) X.A (eval e X.env) (EP X pins σ Q) X.xe s
noncomputable def PT (X:Cx) (e:Expr) (t:TT):Prop:=
 ∀ (pins:List (Addr × Obj)) (s:Shared) (σ:St) (H:Hp) (Q:Bool->Hp->Prop),Inv X pins σ H s->t σ H Q->wpAny (model X.prog X.w) X.A (isTrue e X.env (eval e X.env)) (TP X pins σ Q) X.xe s
noncomputable def PW (X:Cx) (e:Expr) (t:TT):Prop:=
 ∀ (whole:Sem Value) (pins:List (Addr × Obj)) (s:Shared) (σ:St) (H:Hp) (Q:Bool->Hp->Prop),Inv X pins σ H s->t σ H Q->wpAny (model X.prog X.w) X.A (isTrue e X.env whole) (TP X pins σ Q) X.xe s
theorem PW.pt {X:Cx}{e:Expr}{t:TT} (h:PW X e t):PT X e t:=h _
noncomputable def PA (X:Cx) (es:List Expr) (t:TA):Prop:=
 ∀ (pos:Pos) (pins:List (Addr × Obj)) (s:Shared) (σ:St) (H:Hp) (Q:List V->Hp->Prop),Inv X pins σ H s->t σ H Q->wpAny (model X.prog X.w) X.A (spliced (backTo pos (starEach es X.env))) (AP X pins σ Q) X.xe s
noncomputable def PS (X:Cx) (st:Stmt) (t:TS):Prop:=
 ∀ (pins:List (Addr × Obj)) (s:Shared) (σ:St) (H:Hp) (D:Ends),Inv X pins σ H s->t D σ H->wpAny (model X.prog X.w) X.A (exec st X.env) (SP X pins D) X.xe s
noncomputable def PSs (X:Cx) (st:List Stmt) (t:TS):Prop:=
 ∀ (pins:List (Addr × Obj)) (s:Shared) (σ:St) (H:Hp) (D:Ends),Inv X pins σ H s->t D σ H->wpAny (model X.prog X.w) X.A (execs st X.env) (SP X pins D) X.xe s
theorem thn {α:Type}{t:Sem α}{Q Q':α->Shared->Prop}{M:Model}{A:Around}{E:Value->Shared->Prop}{s:Shared} (h:wpAny M A t Q E s) (hQ:∀ a s,Q a s->Q' a s):wpAny M A t Q' E s:=wpAny_mono h hQ fun _ _ x=>x
end L2
namespace L2
open PySem PySem.Spec PyProof.Rows
section
variable {X:Cx}
noncomputable def am7 (i:Nat):TE:=fun σ H Q=>∃ v,σ[i]?=some (some v)/\Q v H
noncomputable def tC (v:V):TE:=fun _ H Q=>Q v H
theorem adh {i:Nat}{x:Str}{pos:Pos} (hN:X.N[i]?=some x) (hv:Vis X.env.scope x) (hd:(x == ("__debug__":Str))=false:=by decide) (hcd:(x == ("__classdict__":Str))=false:=by decide):PE X (.Name x pos) (am7 i):=by
 intro pins s σ H Q I h
 obtain ⟨v,e,h⟩:=h
 obtain ⟨m,hn,hl⟩:=I.loc
 obtain ⟨u,r,l⟩:=hl i x v hN e hv
 have fin:EP X pins σ Q u s:=⟨v,H,I,r,h⟩
 rcases l with ⟨hk,hm⟩ | ⟨hk,c,hc,hcell⟩
 ·exact wpAny_Name (wpAny_loadName_local I.ok.kind hk hn hm fin) hd
 ·rcases hk with hk | hk
  ·exact wpAny_Name (wpAny_loadName_cell I.ok.kind hk hc hcell fin) hd
  ·exact wpAny_Name (wpAny_loadName_free I.ok.kind hk hc hcell fin hcd) hd
theorem alV {i j pos}:PE X (.Constant (.int i) j pos) (tC (.int i)):=fun _ _ _ H _ I h=>wpAny_Constant_int ⟨.int i,H,I.tok _,⟨_,rfl⟩,h⟩
theorem am8 {b j pos}:PE X (.Constant (.bool b) j pos) (tC (.bl b)):=fun _ _ _ H _ I h=>Constant_bool ⟨.bl b,H,I,rfl,h⟩
theorem ah1 {j pos}:PE X (.Constant .none j pos) (tC .non):=fun _ _ _ H _ I h=>Constant_none ⟨.non,H,I,rfl,h⟩
theorem ah2 {x j pos}:PE X (.Constant (.str x) j pos) (tC (.str x)):=fun _ _ _ H _ I h=>Calls.Constant_str ⟨.str x,H,I.tok _,⟨_,rfl⟩,h⟩
noncomputable def Gl (X:Cx) (x:Str):Prop:=X.env.kindOf x=some .globalImplicit
theorem QM {E:Value->Shared->Prop}{pins:List (Addr × Obj)}{s:Shared}{σ:St}{H:Hp}{x:Str}{u:Value}{pos:Pos}{Q:Value->Shared->Prop} (I:Inv X pins σ H s) (hg:Gl X x) (hm:X.mg x=some u) (h:Q u s)
  (hd:(x == ("__debug__":Str))=false:=by decide):wpAny (model X.prog X.w) X.A (eval (.Name x pos) X.env) Q E s:=
 Calls.Name_function_global I.ok.kind hg (Calls.loadGlobal_global (by rw [I.ok.glob]; exact I.mod.glob.keeps I.bk) hm h) hd
theorem JT {E:Value->Shared->Prop}{pins:List (Addr × Obj)}{s:Shared}{σ:St}{H:Hp}{x:Str}{u:Value}{pos:Pos}{Q:Value->Shared->Prop} (I:Inv X pins σ H s) (hg:Gl X x) (hm:X.mg x=none) (hv:bootBuiltins x=some u) (h:Q u s)
  (hn:x ≠ "__name__":=by decide) (hd:(x == ("__debug__":Str))=false:=by decide):wpAny (model X.prog X.w) X.A (eval (.Name x pos) X.env) Q E s:=by
 obtain ⟨mb,h1,h2⟩:=I.mod.blt
 exact Calls.Name_function_global I.ok.kind hg (Calls.loadGlobal_builtin (by rw [I.ok.glob]; exact I.mod.glob.keeps I.bk) hm (by rw [I.ok.blt]; exact h1.keeps I.bk) ((h2 x hn).trans hv) h) hd
theorem aaZ {x:Str}{v:V}{u:Value}{pos:Pos} (hg:Gl X x) (hm:X.mg x=some u) (r:jQ v u) (hd:(x == ("__debug__":Str))=false:=by decide):PE X (.Name x pos) (tC v):=
 fun _ _ _ H _ I h=>QM I hg hm ⟨v,H,I,r,h⟩ hd
theorem agi {x:Str}{v:V}{u:Value}{pos:Pos} (hg:Gl X x) (hm:X.mg x=none) (hv:bootBuiltins x=some u) (r:jQ v u) (hn:x ≠ "__name__":=by decide) (hd:(x == ("__debug__":Str))=false:=by decide):PE X (.Name x pos) (tC v):=
 fun _ _ _ H _ I h=>JT I hg hm hv ⟨v,H,I,r,h⟩ hn hd
variable {a b:Expr}{ta tb:TE}{pos:Pos}
noncomputable def tB (t:TE):TT:=fun σ H Q=>t σ H fun x H1=>∃ c,x= .bl c/\Q c H1
theorem alW {e:Expr}{t:TE} (h:PE X e t) (he:∀ whole,isTrue e X.env whole=(do let v ←whole; standAt e.pos; holding [v] (truthy v)):=by intro _; rfl):PT X e (tB t):=by
 intro pins s σ H Q I hw
 refine isTrue_plain (thn (h pins s σ H _ I hw) fun v s1 ⟨x,H1,I1,r1,q1⟩=>?_) (he _)
 obtain ⟨d,rfl,q⟩:=q1
 cases r1
 exact wpAny_truthy_bool ⟨H1,I1,q⟩
variable {tA tB':TT}{jT:List Expr}
noncomputable def tOr (t u:TT):TT:=fun σ H Q=>t σ H fun c H1=>if c=true then Q true H1 else u σ H1 Q
noncomputable def aoc (t:TT):TT:=fun σ H Q=>t σ H fun c H1=>Q (!c) H1
theorem alX (ha:PT X a tA):PW X (.BoolOp .Or [a] pos) tA:=by
 intro wh pins s σ H Q I h
 refine isTrue_or (thn (ha pins s σ H Q I h) fun c s1 e=>?_)
 cases c with
 | false=>exact isTrue_or_nil e
 | true=>exact e
theorem am9 (ha:PT X a tA) (hb:PW X (.BoolOp .Or (b::jT) pos) tB'):PW X (.BoolOp .Or (a::b::jT) pos) (tOr tA tB'):=by
 intro wh pins s σ H Q I h
 refine isTrue_or (thn (ha pins s σ H _ I h) fun c s1 ⟨H1,I1,q1⟩=>?_)
 cases c with
 | true=>exact ⟨H1,I1,q1⟩
 | false=>exact hb wh pins s1 σ H1 Q I1 q1
theorem alY (ha:PT X a tA):PT X (.UnaryOp .Not a pos) (aoc tA):=by
 intro pins s σ H Q I h
 exact isTrue_not (ha pins s σ H (fun c H1=>Q (!c) H1) I h)
noncomputable def tIf (t:TT) (ta tb:TE):TE:=fun σ H Q=>t σ H fun c H1=>if c=true then ta σ H1 Q else tb σ H1 Q
theorem ah3 {c:Expr} (hc:PT X c tA) (ha:PE X a ta) (hb:PE X b tb):PE X (.IfExp c a b pos) (tIf tA ta tb):=by
 intro pins s σ H Q I h
 refine wpAny_IfExp (thn (hc pins s σ H _ I h) fun d s1 ⟨H1,I1,q1⟩=>?_)
 cases d with
 | true=>exact ha pins s1 σ H1 Q I1 q1
 | false=>exact hb pins s1 σ H1 Q I1 q1
end
end L2
namespace L2
open PySem PySem.Spec PyProof.Rows
noncomputable def SqL (K:PySem.W.Frag) (H:Hp) (a:Addr) (xs:List V):Prop:=
 Rd H a (.lst xs) ∨
  ∃ (o:Obj) (its:Array Value) (n:Nat),K.lookup a=some o/\o.cls= .type "list"/\o.dict=none/\o.data= .seq its n/\its.size<=sizeLine/\jC xs its.toList
noncomputable def SqT (K:PySem.W.Frag) (H:Hp) (a:Addr) (xs:List V):Prop:=
 Rd H a (.tup xs) ∨
  ∃ (o:Obj) (its:Array Value) (n:Nat),K.lookup a=some o/\o.cls= .type "tuple"/\o.data= .seq its n/\its.size<=sizeLine/\jC xs its.toList
noncomputable def aod:Value->Option V
 | .none=>some .non
 | .bool b=>some (.bl b)
 | .int i _=>some (.int i)
 | .str x _=>some (.str x)
 | .bytes b _=>some (.byt b)
 | .float b _=>some (.flt b)
 | .ref a=>some (.ref a)
 | .type n=>some (.ty n)
 | _=>none
theorem jQ.abs {x:V}{u:Value} (r:jQ x u):aod u=some x:=by
 cases x with
 | non=>cases r; rfl
 | bl _=>cases r; rfl
 | int _=>obtain ⟨t,rfl⟩:=r; rfl
 | str _=>obtain ⟨t,rfl⟩:=r; rfl
 | byt _=>obtain ⟨t,rfl⟩:=r; rfl
 | flt _=>obtain ⟨t,rfl⟩:=r; rfl
 | ref _=>cases r; rfl
 | ty _=>cases r; rfl
theorem jQ.inj {x y:V}{u:Value} (r:jQ x u) (q:jQ y u):x=y:=Option.some.inj (r.abs.symm.trans q.abs)
theorem jC.inj:∀ {xs ys:List V}{us:List Value},jC xs us->jC ys us->xs=ys
 | _,_,_,.nil,.nil=>rfl
 | _,_,_,.cons r t,.cons r' t'=>by rw [r.inj r',jC.inj t t']
section
variable {X:Cx}{pins:List (Addr × Obj)}{σ:St}{H:Hp}{s:Shared}{a:Addr}{xs ys:List V}
theorem SqL.of {K:PySem.W.Frag} (h:H a=some (.lst xs)):SqL K H a xs:= .inl (.inl h)
theorem SqT.of {K:PySem.W.Frag} (h:H a=some (.tup xs)):SqT K H a xs:= .inl (.inl h)
theorem Inv.list (I:Inv X pins σ H s) (h:SqL X.K H a xs):∃ its:List Value,jC xs its/\PlainL s.heap a its.toArray/\xs.length<=sizeLine:=by
 rcases h with h | ⟨o,its,n,hk,hc,hd,hs,hz,r⟩
 ·obtain ⟨z,its,n,r,e⟩:=h.ok I.hok
  exact ⟨its,r,⟨_,n,e,rfl,rfl,rfl⟩,z⟩
 ·refine ⟨its.toList,r,⟨o,n,I.kIn a o hk,hc,hd,by simpa using hs⟩,?_⟩
  have e:=r.length
  simp only [Array.length_toList] at e
  omega
theorem Inv.tuple (I:Inv X pins σ H s) (h:SqT X.K H a xs):∃ its:List Value,jC xs its/\IsTup s.heap a its.toArray/\xs.length<=sizeLine:=by
 rcases h with h | ⟨o,its,n,hk,hc,hs,hz,r⟩
 ·obtain ⟨z,its,r,p⟩:=h.ok I.hok
  exact ⟨its,r,p,z⟩
 ·refine ⟨its.toList,r,⟨o,I.kIn a o hk,hc,n,by simpa using hs⟩,?_⟩
  have e:=r.length
  simp only [Array.length_toList] at e
  omega
theorem Inv.list_inj (I:Inv X pins σ H s) (h:SqL X.K H a xs) (h':SqL X.K H a ys):xs=ys:=by
 obtain ⟨its,r,⟨o,n,e,_,_,d⟩,_⟩:=I.list h
 obtain ⟨its',r',⟨o',n',e',_,_,d'⟩,_⟩:=I.list h'
 rw [e] at e'; cases e'
 rw [d] at d'
 injection d' with d1 _
 have:its=its':=by simpa using congrArg Array.toList d1
 subst this
 exact r.inj r'
theorem Inv.tuple_inj (I:Inv X pins σ H s) (h:SqT X.K H a xs) (h':SqT X.K H a ys):xs=ys:=by
 obtain ⟨its,r,⟨o,e,_,n,d⟩,_⟩:=I.tuple h
 obtain ⟨its',r',⟨o',e',_,n',d'⟩,_⟩:=I.tuple h'
 rw [e] at e'; cases e'
 rw [d] at d'
 injection d' with d1 _
 have:its=its':=by simpa using congrArg Array.toList d1
 subst this
 exact r.inj r'
end
noncomputable abbrev Cx.wish (X:Cx) (E:Value->Shared->Prop):Cx:={ X with xe:=E }
noncomputable abbrev Cx.nox (X:Cx):Cx:=X.wish fun _ _=>False
theorem Cx.Ok.wish {X:Cx} (ok:X.Ok) (E:Value->Shared->Prop):(X.wish E).Ok:=
 ⟨ok.mod,ok.kind,ok.glob,ok.blt,ok.above,ok.inj,ok.has,ok.cab,ok.hd,ok.frames,ok.stk,ok.exf,ok.bs,ok.bsz,ok.noex,ok.exfs,ok.funs,ok.frf⟩
theorem Cx.Ok.unwish {X:Cx}{E:Value->Shared->Prop} (ok:(X.wish E).Ok):X.Ok:=
 ⟨ok.mod,ok.kind,ok.glob,ok.blt,ok.above,ok.inj,ok.has,ok.cab,ok.hd,ok.frames,ok.stk,ok.exf,ok.bs,ok.bsz,ok.noex,ok.exfs,ok.funs,ok.frf⟩
section
variable {X:Cx}{pins:List (Addr × Obj)}{σ:St}{H:Hp}{s:Shared}{E:Value->Shared->Prop}
theorem Inv.wish (I:Inv X pins σ H s) (E:Value->Shared->Prop):Inv (X.wish E) pins σ H s:=⟨I.ok.wish E,I.os,I.bare,I.base,I.loc,I.cell,I.free,I.freeC,I.pin,I.hok,I.len⟩
theorem Inv.unwish (I:Inv (X.wish E) pins σ H s):Inv X pins σ H s:=⟨I.ok.unwish,I.os,I.bare,I.base,I.loc,I.cell,I.free,I.freeC,I.pin,I.hok,I.len⟩
theorem SP.unwish {D:Ends}{f:Flow}{s':Shared} (h:SP (X.wish E) pins D f s'):SP X pins D f s':=by
 cases f with
 | next=>obtain ⟨σ',H',I,q⟩:=h; exact ⟨σ',H',I.unwish,q⟩
 | brk=>obtain ⟨σ',H',I,q⟩:=h; exact ⟨σ',H',I.unwish,q⟩
 | cont=>obtain ⟨σ',H',I,q⟩:=h; exact ⟨σ',H',I.unwish,q⟩
 | ret u=>obtain ⟨v,σ',H',I,r,q⟩:=h; exact ⟨v,σ',H',I.unwish,r,q⟩
theorem PE.nox {e:Expr}{t:TE} (h:PE X.nox e t):PE X e t:=fun pins s σ H Q I hw=>
 wpAny_mono (h pins s σ H Q (I.wish _) hw) (fun _ _ ⟨v,H',I',r,q⟩=>⟨v,H',I'.unwish,r,q⟩) fun _ _ z=>False.elim z
theorem PT.nox {e:Expr}{t:TT} (h:PT X.nox e t):PT X e t:=fun pins s σ H Q I hw=>
 wpAny_mono (h pins s σ H Q (I.wish _) hw) (fun _ _ ⟨H',I',q⟩=>⟨H',I'.unwish,q⟩) fun _ _ z=>False.elim z
theorem PSs.nox {st:List Stmt}{t:TS} (h:PSs X.nox st t):PSs X st t:=fun pins s σ H D I hw=>
 wpAny_mono (h pins s σ H D (I.wish _) hw) (fun _ _ q=>q.unwish) fun _ _ z=>False.elim z
end
section
variable {X:Cx}{st:Stmt}{jT:List Stmt}{t u:TS}{e:Expr}{te:TE}{pos:Pos}
noncomputable def ana:TS:=fun D σ H=>D.nx σ H
noncomputable def aoe (t u:TS):TS:=fun D σ H=>t { D with nx:=u D } σ H
theorem agj:PSs X [] ana:=fun _ _ σ H _ I h=>wpAny_execs_nil ⟨σ,H,I,h⟩
theorem zX (h1:PS X st t) (h2:PSs X jT u):PSs X (st::jT) (aoe t u):=by
 intro pins s σ H D I h
 refine wpAny_execs_cons (thn (h1 pins s σ H { D with nx:=u D } I h) fun f s1 q=>?_)
 cases f with
 | next=>
  obtain ⟨σ',H',I',q⟩:=q
  exact h2 pins s1 σ' H' D I' q
 | ret v=>exact q
 | brk=>exact q
 | cont=>exact q
theorem adi (h1:PS X st t):PSs X [st] t:=by
 intro pins s σ H D I h
 refine wpAny_execs_cons (thn (h1 pins s σ H D I h) fun f s1 q=>?_)
 cases f with
 | next=>exact wpAny_execs_nil q
 | ret v=>exact q
 | brk=>exact q
 | cont=>exact q
theorem Inv.quiet {pins:List (Addr × Obj)}{σ:St}{H:Hp}{s:Shared} (I:Inv X pins σ H s):interactive X.env=false:=by simp [interactive,I.ok.kind]
noncomputable def anb (te:TE):TS:=fun D σ H=>te σ H fun _ H1=>D.nx σ H1
theorem adj (he:PE X e te) (hs:swapsWith e none pos.line X.env=pure false:=by rfl):PS X (.Expr e pos) (anb te):=by
 intro pins s σ H D I h
 exact wpAny_Expr_any (thn (he pins s σ H _ I h) fun v s1 ⟨x,H1,I1,r1,q1⟩=>⟨σ,H1,I1,q1⟩) I.quiet hs
noncomputable def aof (te:TE):TS:=fun D σ H=>te σ H D.rt
theorem afr (he:PE X e te):PS X (.Return (some e) pos) (aof te):=by
 intro pins s σ H D I h
 exact wpAny_Return_some (thn (he pins s σ H _ I h) fun v s1 ⟨x,H1,I1,r1,q1⟩=>⟨x,σ,H1,I1,r1,q1⟩)
noncomputable def aog (c:TT) (t u:TS):TS:=fun D σ H=>c σ H fun b H1=>if b=true then t D σ H1 else u D σ H1
theorem anc {c:Expr}{a b:List Stmt}{tc:TT} (hc:PT X c tc) (ha:PSs X a t) (hb:PSs X b u):PS X (.If c a b pos) (aog tc t u):=by
 intro pins s σ H D I h
 refine wpAny_If (thn (hc pins s σ H _ I h) fun d s1 ⟨H1,I1,q1⟩=>?_)
 cases d with
 | true=>exact ha pins s1 σ H1 D I1 q1
 | false=>exact hb pins s1 σ H1 D I1 q1
noncomputable def ah4:TS:=fun _ _ _=>False
theorem ah5:PS X st ah4:=fun _ _ _ _ _ _ h=>h.elim
theorem agW {sts:List Stmt}:PSs X sts ah4:=fun _ _ _ _ _ _ h=>h.elim
end
noncomputable abbrev TG:=V->St->Hp->(St->Hp->Prop)->Prop
noncomputable abbrev TGs:=List V->St->Hp->(St->Hp->Prop)->Prop
noncomputable def PG (X:Cx) (target:Expr) (t:TG):Prop:=
 ∀ (pins:List (Addr × Obj)) (s:Shared) (σ:St) (H:Hp) (v:V) (u:Value) (Q:St->Hp->Prop),Inv X pins σ H s->jQ v u->t v σ H Q->
  wpAny (model X.prog X.w) X.A (assign target X.env u) (fun _ s'=>∃ σ' H',Inv X pins σ' H' s'/\Q σ' H') X.xe s
noncomputable def PGs (X:Cx) (ts:List Expr) (t:TGs):Prop:=
 ∀ (pins:List (Addr × Obj)) (s:Shared) (σ:St) (H:Hp) (vs:List V) (us:List Value) (Q:St->Hp->Prop),Inv X pins σ H s->jC vs us->t vs σ H Q->
  wpAny (model X.prog X.w) X.A (assignInOrder ((assignEach ts X.env).map (·.2)) us) (fun _ s'=>∃ σ' H',Inv X pins σ' H' s'/\Q σ' H') X.xe s
section
variable {X:Cx}{pos:Pos}
noncomputable def ah6 (i:Nat):TG:=fun v σ H Q=>Q (σ.set i (some v)) H
theorem aa0 {i:Nat}{x:Str} (hN:X.N.Nodup) (hi:X.N[i]?=some x) (hx:Loc X.env.scope x) (hf:X.fn x=true ∨ X.env.scope.names.lookup x=some .local:=by first | exact .inl rfl | exact .inr rfl | assumption):PG X (.Name x pos) (ah6 i):=by
 intro pins s σ H v u Q I r h
 exact wpAny_assign_Name (abl I hN hi hx r (fun s' I'=>⟨_,H,I',h⟩) hf)
noncomputable def aoh:TGs:=fun vs σ H Q=>vs=[]/\Q σ H
noncomputable def ane (t:TG) (u:TGs):TGs:=fun vs σ H Q=>∃ v r,vs=v::r/\t v σ H fun σ' H'=>u r σ' H' Q
theorem aj8:PGs X [] aoh:=by
 intro pins s σ H vs us Q I r h
 obtain ⟨e,h⟩:=h
 subst e
 cases r
 exact assignInOrder_nil ⟨σ,H,I,h⟩
theorem ah7 {e:Expr}{es:List Expr}{t:TG}{u:TGs} (h1:PG X e t) (h2:PGs X es u)
  (hs:(assignEach (e::es) X.env).map (·.2)=assign e X.env::(assignEach es X.env).map (·.2):=by rfl):PGs X (e::es) (ane t u):=by
 intro pins s σ H vs us Q I r h
 obtain ⟨v,vr,e1,h⟩:=h
 subst e1
 cases r with
 | cons r rr=>
  rw [hs]
  refine assignInOrder_cons (thn (h1 pins s σ H _ _ _ I r h) fun _ s1 ⟨σ1,H1,I1,q1⟩=>?_)
  exact h2 pins s1 σ1 H1 _ _ Q I1 rr q1
noncomputable def aoi (K:PySem.W.Frag) (n:Nat) (t:TGs):TG:=fun v σ H Q=>∃ a xs,v= .ref a/\SqT K H a xs/\xs.length=n/\t xs σ H Q
theorem alZ {es:List Expr}{k:Nat}{t:TGs}{n:Nat} (hc:X.calm=true) (h:PGs X es t)
  (hn:(assignEach es X.env).length=n:=by rfl) (hst:(assignEach es X.env).findIdx? (·.1)=none:=by rfl):PG X (.Tuple es k pos) (aoi X.K n t):=by
 intro pins s σ H v u Q I r hw
 obtain ⟨a,xs,e1,hq,hl,hw⟩:=hw
 subst e1
 cases r
 obtain ⟨its,rv,ht,hz⟩:=I.tuple hq
 refine assign_Tuple_tuple (I.ok.hd hc) ht (by simp [hn,←hl,rv.length]) hst fun h' hx=>?_
 have I1:Inv X pins σ H { s with heap:=h' }:=I.kept (t':=s.toks) fun b o e=>hx b o (Nat.ne_of_lt (Heap.lt_size e)) e
 exact h pins _ σ H xs _ Q I1 (by simpa using rv) hw
noncomputable def anf (te:TE) (g:TG):TS:=fun D σ H=>te σ H fun x H1=>g x σ H1 D.nx
theorem abm {i:Nat}{x:Str}{e:Expr}{te:TE}{pos':Pos} (hN:X.N.Nodup) (hi:X.N[i]?=some x) (hx:Loc X.env.scope x) (he:PE X e te) (hs:swapsWith e (some (.Name x pos')) pos.line X.env=pure false:=by rfl) (hf:X.fn x=true ∨ X.env.scope.names.lookup x=some .local:=by first | exact .inl rfl | exact .inr rfl | assumption):
  PS X (.Assign [.Name x pos'] e pos) (anf te (ah6 i)):=by
 intro pins s σ H D I h
 refine wpAny_Assign_Name (thn (he pins s σ H _ I h) fun v s1 ⟨y,H1,I1,r1,q1⟩=>?_) hs
 exact abl I1 hN hi hx r1 (fun s2 I2=>⟨_,H1,I2,q1⟩) hf
end
section
variable {X:Cx}{pos:Pos}
noncomputable def al0 (c:TT) (tb:TS):TS:=fun D σ H=>∃ W:Nat->St->Hp->Prop,(∃ m,W m σ H)/\∀ m σ H,W m σ H->
 c σ H fun b H1=>if b=true then ∃ N:St->Hp->Prop,(∀ σ' H',N σ' H'->∃ m',m' < m/\W m' σ' H')/\tb { D with nx:=N,ct:=N,bk:=D.nx } σ H1 else D.nx σ H1
theorem ah8 {c:Expr}{body:List Stmt}{tc:TT}{tb:TS} (hp:PassesOwn (model X.prog X.w) X.A X.env X.xe) (hc:PT X c tc) (hb:PSs X body tb):PS X (.While c body [] pos) (al0 tc tb):=by
 intro pins s σ H D I h
 obtain ⟨W,⟨m0,w0⟩,turn⟩:=h
 refine wpAny_While (codeAny_whileLoop (fun n s'=>∃ σ' H',Inv X pins σ' H' s'/\W n σ' H') ?_ m0 ⟨σ,H,I,w0⟩)
 rintro n s1 ⟨σ1,H1,I1,w1⟩
 refine wpAny_passesOwn hp (thn (hc pins s1 σ1 H1 _ I1 (turn n σ1 H1 w1)) fun b s2 ⟨H2,I2,q2⟩=>?_)
 cases b with
 | true=>
  obtain ⟨N,hN,q2⟩:=q2
  rw [if_pos rfl]
  refine wpAny_passesOwn hp (thn (hb pins s2 σ1 H2 _ I2 q2) fun f s3 q3=>?_)
  cases f with
  | next=>
   obtain ⟨σ3,H3,I3,n3⟩:=q3
   obtain ⟨m',hm,w3⟩:=hN σ3 H3 n3
   exact ⟨m',hm,σ3,H3,I3,w3⟩
  | cont=>
   obtain ⟨σ3,H3,I3,n3⟩:=q3
   obtain ⟨m',hm,w3⟩:=hN σ3 H3 n3
   exact ⟨m',hm,σ3,H3,I3,w3⟩
  | brk=>exact q3
  | ret v=>exact q3
 | false=>
  rw [if_neg Bool.false_ne_true]
  exact wpAny_execs_nil ⟨σ1,H2,I2,q2⟩
end
structure It where
 go:Nat->Hp->Prop
 yld:Nat->Hp->V->Hp->Prop
 stop:Nat->Hp->Prop
noncomputable def abn (X:Cx) (pins:List (Addr × Obj)) (H:Hp) (b:Addr):Prop:=
 H b=none/\b ≠ X.env.locals/\b ∉ X.fs/\(b ∈ X.ex ∨ X.s₀.heap.objs.size<=b)/\(∀ x c,X.env.cells.lookup x=some c->c ≠ b)/\∀ p ∈ X.pn++pins,p.1 ≠ b
theorem Inv.fpOk {X:Cx}{pins:List (Addr × Obj)}{σ:St}{H H':Hp}{s:Shared}{b:Addr} (I:Inv X pins σ H s) (hb:s.heap.objs.size<=b) (hn:H' b=none):abn X pins H' b:=by
 refine ⟨hn,Nat.ne_of_gt (Nat.lt_of_lt_of_le I.lt hb),I.nofs hb,.inr (Nat.le_trans I.sz hb),fun x c e z=>?_,fun p hp z=>?_⟩
 ·obtain ⟨v,q⟩:=I.cell x c e
  exact absurd (Nat.lt_of_lt_of_le q.lt (by rw [z]; exact hb)) (Nat.lt_irrefl _)
 ·exact absurd (Nat.lt_of_lt_of_le (Heap.lt_size (I.pin p hp).1) (by rw [z]; exact hb)) (Nat.lt_irrefl _)
structure Turn (P:Program) (w:World) (K:PySem.W.Frag) (tg:Expr) (J:It) (fp:List Addr) (it:Addr) (tn:Nat->Heap->Prop):Prop where
 mem:it ∈ fp
 obj:∀ i h,tn i h->∀ b ∈ fp,∃ o,h.get? b=some o/\∀ v,o.data ≠ .cell v
 keep:∀ i h h',tn i h->(∀ b ∈ fp,∀ o,h.get? b=some o->h'.get? b=some o)->tn i h'
 item:∀ (X:Cx),X.prog=P->X.w=w->X.K=K->X.calm=true->∀ (i:Nat) (pins:List (Addr × Obj)) (s:Shared) (σ:St) (H:Hp) (E:Value->Shared->Prop),Inv X pins σ H s->(∀ b ∈ fp,abn X pins H b)->tn i s.heap->J.go i H->
  wpAny (model P w) X.A (pyNext (.ref it)) (fun r s1=>∃ u,r=some u/\
   wpAny (model P w) X.A (letOwnedTupleGo tg (.ref it) u) (fun _ s2=>∃ x H',Inv X pins σ H' s2/\jQ x u/\J.yld i H x H'/\tn (i+1) s2.heap/\∀ b ∈ fp,H' b=none) E s1) E s
 done:∀ (X:Cx),X.prog=P->X.w=w->X.K=K->X.calm=true->∀ (i:Nat) (pins:List (Addr × Obj)) (s:Shared) (σ:St) (H:Hp) (E:Value->Shared->Prop),Inv X pins σ H s->(∀ b ∈ fp,abn X pins H b)->tn i s.heap->J.stop i H->
  wpAny (model P w) X.A (pyNext (.ref it)) (fun r s1=>r=none/\Inv X pins σ H s1) E s
 self:∀ (A:Around) (i:Nat) (s:Shared) (Q:Value->Shared->Prop) (E:Value->Shared->Prop),tn i s.heap->Q (.ref it) s->wpAny (model P w) A (pyIter (.ref it)) Q E s
noncomputable abbrev TI:=St->Hp->(It->Hp->Prop)->Prop
noncomputable def PIE (X:Cx) (pins:List (Addr × Obj)) (σ:St) (tg:Expr) (R:It->Hp->Prop) (itv:Value) (s2:Shared):Prop:=
 ∃ (it:Addr) (fp:List Addr) (tn:Nat->Heap->Prop) (J:It) (H':Hp),itv= .ref it/\Inv X pins σ H' s2/\Turn X.prog X.w X.K tg J fp it tn/\tn 0 s2.heap/\(∀ b ∈ fp,abn X pins H' b)/\R J H'
noncomputable def PI (X:Cx) (tg iter:Expr) (wi:TI):Prop:=
 ∀ (pins:List (Addr × Obj)) (s:Shared) (σ:St) (H:Hp) (R:It->Hp->Prop),Inv X pins σ H s->wi σ H R->
  wpAny (model X.prog X.w) X.A (eval iter X.env) (fun v s1=>wpAny (model X.prog X.w) X.A (pyIter v) (PIE X pins σ tg R) X.xe s1) X.xe s
theorem ah9 {M : Model} {A : Around} {E : Value -> Shared -> Prop} {s : Shared} {tg : Expr} {it : Addr} {u : Value} {o : Obj} {n : String} {vs : Array Value} {Q : Unit -> Shared -> Prop} (ho : s.heap.get? it = some o) (hc : o.cls = .type n) (hd : o.data = .fields vs)
    (hn : ["enumerate", "zip", "dict_itemiterator", "dict_reverseitemiterator", "odict_iterator", "itertools.zip_longest", "itertools.pairwise"].contains n = false) (hQ : Q () s) : wpAny M A (letOwnedTupleGo tg (.ref it) u) Q E s := by
  unfold letOwnedTupleGo
  cases tg <;> first
    | exact wpAny_pure hQ
    | (cases u <;> first
        | exact wpAny_pure hQ
        | (refine wpAny_bind (wpAny_load ho ?_)
           rw [hc, hd]
           show wpAny M A (if (["enumerate", "zip", "dict_itemiterator", "dict_reverseitemiterator", "odict_iterator", "itertools.zip_longest", "itertools.pairwise"].contains n && vs[0]? == some (rawInt _)) = true then _ else _) Q E s
           rw [if_neg (by intro h; rw [hn, Bool.false_and] at h; cases h)]
           exact wpAny_pure hQ))
noncomputable def Itl (K:PySem.W.Frag) (a:Addr):It:=
 ⟨fun i H=>∃ xs x,SqL K H a xs/\xs[i]?=some x,fun i H x H'=>H'=H/\∀ xs,SqL K H a xs->xs[i]?=some x,fun i H=>∃ xs,SqL K H a xs/\xs.length<=i⟩
noncomputable def Itt (K:PySem.W.Frag) (a:Addr):It:=
 ⟨fun i H=>∃ xs x,SqT K H a xs/\xs[i]?=some x,fun i H x H'=>H'=H/\∀ xs,SqT K H a xs->xs[i]?=some x,fun i H=>∃ xs,SqT K H a xs/\xs.length<=i⟩
noncomputable def Itr (lo:Int) (n:Nat):It:=⟨fun i _=>i < n,fun i H x H'=>H'=H/\x= .int (lo+i),fun i _=>n<=i⟩
theorem agX {P:Program}{w:World}{K:PySem.W.Frag}{tg:Expr} (a it:Addr):Turn P w K tg (Itl K a) [it] it (fun i h=>h.IsListIter it a i) where
 mem:=by simp
 obj:=fun i h st b hb=>by
  have e:b=it:=by simpa using hb
  subst e
  obtain ⟨o,e,c,d⟩:=st
  exact ⟨o,e,fun v z=>by rw [d] at z; cases z⟩
 keep:=fun i h h' st k=>st.at fun o e=>k it (by simp) o e
 item:=by
  intro X hP hw hK hc i pins s σ H E I hf st hg
  subst hP hw hK
  obtain ⟨xs,x,hq,hx⟩:=hg
  obtain ⟨its,rv,p,hz⟩:=I.list hq
  obtain ⟨u,hu,ru⟩:=rv.get hx
  obtain ⟨f0,f1,f2,f3,f4,f5⟩:=hf it (by simp)
  refine wpAny_pyNext_list_item st p.isList (x:=u) (by simpa using hu) fun h' st' sb=>?_
  have I1:Inv X pins σ H { s with heap:=h' }:=I.turned (t':=s.toks) (fun b o hb e=>(sb.2 b hb).trans e) f0 f1 f3 f4 f5
  obtain ⟨o,e,c,d⟩:=id st'
  exact ⟨u,rfl,ah9 (s:={ s with heap:=h' }) e c d (by decide) ⟨x,H,I1,ru,⟨rfl,fun ys hy=>by rw [I.list_inj hy hq]; exact hx⟩,st',fun b hb=>(hf b hb).1⟩⟩
 done:=by
  intro X hP hw hK hc i pins s σ H E I hf st hg
  subst hP hw hK
  obtain ⟨xs,hq,hx⟩:=hg
  obtain ⟨its,rv,p,hz⟩:=I.list hq
  obtain ⟨f0,f1,f2,f3,f4,f5⟩:=hf it (by simp)
  have hl:=rv.length
  exact wpAny_pyNext_list_end (I.ok.hd hc) st p.isList (by simp; omega) fun h' eb=>⟨rfl,I.turned (t':=s.toks) (fun b o hb e=>eb b o hb e) f0 f1 f3 f4 f5⟩
 self:=fun _ _ _ _ _ st h=>wpAny_pyIter_listiter st h
theorem afs {P:Program}{w:World}{K:PySem.W.Frag}{tg:Expr} (a it:Addr):Turn P w K tg (Itt K a) [it] it (fun i h=>h.IsTupleIter it a i) where
 mem:=by simp
 obj:=fun i h st b hb=>by
  have e:b=it:=by simpa using hb
  subst e
  obtain ⟨o,e,c,d⟩:=st
  exact ⟨o,e,fun v z=>by rw [d] at z; cases z⟩
 keep:=fun i h h' st k=>st.at fun o e=>k it (by simp) o e
 item:=by
  intro X hP hw hK hc i pins s σ H E I hf st hg
  subst hP hw hK
  obtain ⟨xs,x,hq,hx⟩:=hg
  obtain ⟨its,rv,p,hz⟩:=I.tuple hq
  obtain ⟨u,hu,ru⟩:=rv.get hx
  obtain ⟨f0,f1,f2,f3,f4,f5⟩:=hf it (by simp)
  refine wpAny_pyNext_tuple_item st (show s.heap.IsTuple a its.toArray from p) (x:=u) (by simpa using hu) fun h' st' sb=>?_
  have I1:Inv X pins σ H { s with heap:=h' }:=I.turned (t':=s.toks) (fun b o hb e=>(sb.2 b hb).trans e) f0 f1 f3 f4 f5
  obtain ⟨o,e,c,d⟩:=id st'
  exact ⟨u,rfl,ah9 (s:={ s with heap:=h' }) e c d (by decide) ⟨x,H,I1,ru,⟨rfl,fun ys hy=>by rw [I.tuple_inj hy hq]; exact hx⟩,st',fun b hb=>(hf b hb).1⟩⟩
 done:=by
  intro X hP hw hK hc i pins s σ H E I hf st hg
  subst hP hw hK
  obtain ⟨xs,hq,hx⟩:=hg
  obtain ⟨its,rv,p,hz⟩:=I.tuple hq
  obtain ⟨f0,f1,f2,f3,f4,f5⟩:=hf it (by simp)
  have hl:=rv.length
  exact wpAny_pyNext_tuple_end (I.ok.hd hc) st (show s.heap.IsTuple a its.toArray from p) (by simp; omega) fun h' eb=>⟨rfl,I.turned (t':=s.toks) (fun b o hb e=>eb b o hb e) f0 f1 f3 f4 f5⟩
 self:=fun _ _ _ _ _ st h=>wpAny_pyIter_tupleiter st h
theorem aft {P:Program}{w:World}{K:PySem.W.Frag}{tg:Expr} (it:Addr) (lo:Int) (n:Nat):Turn P w K tg (Itr lo n) [it] it (fun i h=>IsRangeIter h it (lo+(i:Nat)*1) ((n:Int) - (i:Nat)) 1) where
 mem:=by simp
 obj:=fun i h st b hb=>by
  have e:b=it:=by simpa using hb
  subst e
  exact ⟨_,st,fun v z=>by
   have z':Data.fields _=Data.cell v:=z
   cases z'⟩
 keep:=fun i h h' st k=>k it (by simp) _ st
 item:=by
  intro X hP hw hK hc i pins s σ H E I hf st hg
  subst hP hw hK
  obtain ⟨f0,f1,f2,f3,f4,f5⟩:=hf it (by simp)
  have W:=Walks.range (prog:=X.prog) (w:=X.w) (I.ok.hd hc) it lo 1 n
  refine W.item i s _ _ hg st fun v h' tk hv st' kk=>?_
  obtain ⟨t,rfl⟩:=hv
  have I1:Inv X pins σ H { s with heap:=h',toks:=tk }:=I.turned (fun b o hb e=>kk b o (by simpa using hb) e) f0 f1 f3 f4 f5
  refine ⟨_,rfl,ah9 (s:={ s with heap:=h',toks:=tk }) (n:="range_iterator") st' rfl rfl (by decide) ⟨.int (lo+i),H,I1,⟨t,?_⟩,⟨rfl,rfl⟩,st',fun b hb=>(hf b hb).1⟩⟩
  rw [Int.mul_one]
 done:=by
  intro X hP hw hK hc i pins s σ H E I hf st hg
  subst hP hw hK
  obtain ⟨f0,f1,f2,f3,f4,f5⟩:=hf it (by simp)
  exact wpAny_pyNext_range_end (I.ok.hd hc) st (by have:n<=i:=hg; omega) fun h' eb=>⟨rfl,I.turned (t':=s.toks) (fun b o hb e=>eb b o hb e) f0 f1 f3 f4 f5⟩
 self:=fun _ _ _ _ _ st h=>wpAny_pyIter_rangeiter st h
end L2
namespace L2
open PySem PySem.Spec PyProof.Rows
section
variable {X:Cx}{tg:Expr}
noncomputable def ang (K:PySem.W.Frag) (tl:TE):TI:=fun σ H R=>tl σ H fun x H1=>∃ a,x= .ref a/\(∃ xs,SqL K H1 a xs)/\R (Itl K a) H1
noncomputable def aoj (K:PySem.W.Frag) (tl:TE):TI:=fun σ H R=>tl σ H fun x H1=>∃ a,x= .ref a/\(∃ xs,SqT K H1 a xs)/\R (Itt K a) H1
theorem aj9 {l:Expr}{tl:TE} (hl:PE X l tl):PI X tg l (ang X.K tl):=by
 intro pins s σ H R I h
 refine thn (hl pins s σ H _ I h) fun v s1 ⟨x,H1,I1,r1,q1⟩=>?_
 obtain ⟨a,e,⟨xs,hq⟩,q⟩:=q1
 subst e
 cases r1
 obtain ⟨its,rv,p,hz⟩:=I1.list hq
 refine wpAny_pyIter_list p.isList ?_
 refine ⟨s1.heap.objs.size,[s1.heap.objs.size],_,_,H1,rfl,I1.kept (t':=s1.toks) fun b o e=>Heap.get?_push_of_some _ e,agX a _,⟨_,Heap.get?_push_size _ rfl,rfl,rfl⟩,fun b hb=>?_,q⟩
 have e:b=s1.heap.objs.size:=by simpa using hb
 subst e
 exact I1.fpOk (Nat.le_refl _) (I1.hok.fresh (Nat.le_refl _))
theorem al1 {l:Expr}{tl:TE} (hl:PE X l tl):PI X tg l (aoj X.K tl):=by
 intro pins s σ H R I h
 refine thn (hl pins s σ H _ I h) fun v s1 ⟨x,H1,I1,r1,q1⟩=>?_
 obtain ⟨a,e,⟨xs,hq⟩,q⟩:=q1
 subst e
 cases r1
 obtain ⟨its,rv,p,hz⟩:=I1.tuple hq
 refine wpAny_pyIter_tuple (show s1.heap.IsTuple a its.toArray from p) ?_
 refine ⟨s1.heap.objs.size,[s1.heap.objs.size],_,_,H1,rfl,I1.kept (t':=s1.toks) fun b o e=>Heap.get?_push_of_some _ e,afs a _,⟨_,Heap.get?_push_size _ rfl,rfl,rfl⟩,fun b hb=>?_,q⟩
 have e:b=s1.heap.objs.size:=by simpa using hb
 subst e
 exact I1.fpOk (Nat.le_refl _) (I1.hok.fresh (Nat.le_refl _))
theorem aeo {pins:List (Addr × Obj)}{σ:St}{H:Hp}{s:Shared}{R:It->Hp->Prop}{E:Value->Shared->Prop}{lo hi:Int}{t u v:Tok}{tk:Nat} (I:Inv X pins σ H s) (h1:-(2 ^ 62)<=lo) (h2:lo < 2 ^ 62) (h3:-(2 ^ 62)<=hi) (h4:hi < 2 ^ 62)
  (q:R (Itr lo (hi - lo).toNat) H):wpAny (model X.prog X.w) X.A (pyIter (.ref s.heap.objs.size)) (PIE X pins σ tg R) E { s with heap:=s.heap.push { cls:= .type "range",data:= .fields #[.int lo t,.int hi u,.int 1 v] },toks:=tk }:=by
 refine wpAny_pyIter_range (IsRange.new ..) (small_one h1 h2 h3 h4) ?_
 have I1:Inv X pins σ H { s with heap:=s.heap.push { cls:= .type "range",data:= .fields #[.int lo t,.int hi u,.int 1 v] },toks:=tk }:=I.kept fun b o e=>Heap.get?_push_of_some _ e
 refine ⟨(s.heap.push { cls:= .type "range",data:= .fields #[.int lo t,.int hi u,.int 1 v] }).objs.size,[(s.heap.push { cls:= .type "range",data:= .fields #[.int lo t,.int hi u,.int 1 v] }).objs.size],_,_,H,rfl,
  I1.kept (t':=tk) fun b o e=>Heap.get?_push_of_some _ e,aft _ lo (hi - lo).toNat,?_,fun b hb=>?_,q⟩
 ·have e1:lo+((0:Nat):Int)*1=lo:=by simp
  have e2:(((hi - lo).toNat:Nat):Int) - ((0:Nat):Int)=Builtin.Range.rangeSize lo hi 1:=by rw [rangeSize_one]; split <;> omega
  show IsRangeIter _ _ (lo+((0:Nat):Int)*1) ((((hi - lo).toNat:Nat):Int) - ((0:Nat):Int)) 1
  rw [e1,e2]
  exact Heap.get?_push_size _ rfl
 ·have e:b=(s.heap.push { cls:= .type "range",data:= .fields #[.int lo t,.int hi u,.int 1 v] }).objs.size:=by simpa using hb
  subst e
  exact I1.fpOk (Nat.le_refl _) (I1.hok.fresh (Nat.le_refl _))
noncomputable def anh (ta:TA):TI:=fun σ H R=>ta σ H fun vs H1=>∃ j:Int,vs=[.int j]/\-(2 ^ 62)<=j/\j < 2 ^ 62/\R (Itr 0 j.toNat) H1
noncomputable def ani (ta:TA):TI:=fun σ H R=>ta σ H fun vs H1=>∃ i j:Int,vs=[.int i,.int j]/\(-(2 ^ 62)<=i/\i < 2 ^ 62/\-(2 ^ 62)<=j/\j < 2 ^ 62)/\R (Itr i (j - i).toNat) H1
theorem aaf {a:Expr}{ta:TA}{p pos:Pos} (hg:Gl X "range") (hm:X.mg "range"=none) (ha:PA X [a] ta) (hs:starEach [a] X.env=[(false,eval a X.env)]:=by rfl):PI X tg (.Call (.Name "range" p) [a] [] pos) (anh ta):=by
 intro pins s σ H R I h
 refine Call_ (JT I hg hm boot_range (PyProof.Rows.callWith_type1 (thn (ha pos pins s σ H _ I h) fun us s1 ⟨vs,H1,I1,r1,q1⟩=>?_) hs rfl))
 obtain ⟨j,e,q1,q2,q⟩:=q1
 subst e
 cases r1 with
 | cons r rr=>
  cases rr
  obtain ⟨t,rfl⟩:=r
  exact call_range_1 (aeo I1 (by omega) (by omega) q1 q2 (by simpa using q))
theorem agY {a b:Expr}{ta:TA}{p pos:Pos} (hg:Gl X "range") (hm:X.mg "range"=none) (ha:PA X [a,b] ta) (hs:starEach [a,b] X.env=[(false,eval a X.env),(false,eval b X.env)]:=by rfl) (hs2:starEach [b] X.env=[(false,eval b X.env)]:=by rfl):
  PI X tg (.Call (.Name "range" p) [a,b] [] pos) (ani ta):=by
 intro pins s σ H R I h
 refine Call_ (JT I hg hm boot_range (PyProof.Rows.callWith_type1 (thn (ha pos pins s σ H _ I h) fun us s1 ⟨vs,H1,I1,r1,q1⟩=>?_) (by rw [hs,hs2]) (by rw [hs2]; rfl)))
 obtain ⟨i,j,e,⟨q1,q2,q3,q4⟩,q⟩:=q1
 subst e
 cases r1 with
 | cons r rr=>
  cases rr with
  | cons r' rr=>
   cases rr
   obtain ⟨t,rfl⟩:=r
   obtain ⟨t',rfl⟩:=r'
   exact call_range_2 (aeo I1 q1 q2 q3 q4 q)
noncomputable def aok (wi:TI) (g:TG) (tb:TS):TS:=fun D σ H=>wi σ H fun J H1=>∃ W:Nat->Nat->St->Hp->Prop,(∃ m,W 0 m σ H1)/\∀ i m σ H,W i m σ H->
 (J.stop i H/\D.nx σ H) ∨ (J.go i H/\∃ N:St->Hp->Prop,(∀ σ' H',N σ' H'->∃ m',m' < m/\W (i+1) m' σ' H')/\∀ x H',J.yld i H x H'->g x σ H' fun σ2 H2=>tb { D with nx:=N,ct:=N,bk:=D.nx } σ2 H2)
noncomputable def Qq (fp:List Addr) (h:Heap):List (Addr × Obj):=fp.filterMap fun b=>(h.get? b).map fun o=>(b,o)
theorem qk {fp:List Addr}{h:Heap}{b:Addr}{o:Obj} (hb:b ∈ fp) (e:h.get? b=some o):(b,o) ∈ Qq fp h:=List.mem_filterMap.mpr ⟨b,hb,by rw [e]; rfl⟩
theorem agZ {fp:List Addr}{h:Heap}{p:Addr × Obj} (hp:p ∈ Qq fp h):p.1 ∈ fp/\h.get? p.1=some p.2:=by
 obtain ⟨b,hb,e⟩:=List.mem_filterMap.mp hp
 cases q:h.get? b with
 | none=>rw [q] at e; cases e
 | some o=>
  rw [q] at e
  have e':(b,o)=p:=Option.some.inj e
  subst e'
  exact ⟨hb,q⟩
theorem Inv.pinned {pins:List (Addr × Obj)}{σ:St}{H:Hp}{s:Shared}{fp:List Addr} (I:Inv X pins σ H s) (hf:∀ b ∈ fp,abn X pins H b) (ho:∀ b ∈ fp,∃ o,s.heap.get? b=some o/\∀ v,o.data ≠ .cell v):Inv X (pins++Qq fp s.heap) σ H s:=
 I.pins_of fun p hp=>(List.mem_append.mp hp).elim (fun z=>I.pin p (List.mem_append_right _ z)) fun z=>by
  obtain ⟨hb,e⟩:=agZ z
  obtain ⟨f0,f1,f2,_⟩:=hf p.1 hb
  obtain ⟨o,e',d⟩:=ho p.1 hb
  rw [e] at e'; cases e'
  exact ⟨e,f0,f1,f2,d⟩
theorem Inv.unpinned {pins pl:List (Addr × Obj)}{σ:St}{H:Hp}{s:Shared} (I:Inv X (pins++pl) σ H s):Inv X pins σ H s:=I.pins_of fun p hp=>I.pin p (List.mem_append_right _ (List.mem_append_left _ hp))
theorem adk {iter:Expr}{body:List Stmt}{wi:TI}{g:TG}{tb:TS}{pos:Pos} (hp:PassesOwn (model X.prog X.w) X.A X.env X.xe) (hc:X.calm=true) (hi:PI X tg iter wi) (hg:PG X tg g) (hb:PSs X body tb)
  (hs:∀ x,foldedSetIterable iter X.env x=pure x:=by intro _; rfl):PS X (.For tg iter body [] pos) (aok wi g tb):=by
 intro pins s σ H D I h
 refine wpAny_For (thn (hi pins s σ H _ I h) fun v s1 h1=>thn h1 fun itv s2 h2=>?_) hs
 obtain ⟨it,fp,tn,J,H2,e,I2,T,st2,f2,W,⟨m0,w0⟩,turn⟩:=h2
 subst e
 have stat:∀ {H':Hp},(∀ b ∈ fp,H' b=none)->∀ b ∈ fp,abn X pins H' b:=fun hn b hb=>⟨hn b hb,(f2 b hb).2⟩
 refine codeAny_forLoop_any (fun n s'=>∃ i σ' H',Inv X pins σ' H' s'/\tn i s'.heap/\(∀ b ∈ fp,H' b=none)/\W i n σ' H') ?_ m0 ⟨0,σ,H2,I2,st2,fun b hb=>(f2 b hb).1,w0⟩
 rintro n s3 ⟨i,σ3,H3,I3,st3,fr3,w3⟩
 rcases turn i n σ3 H3 w3 with ⟨stop,qn⟩ | ⟨go,N,hN,step⟩
 ·refine wpAny_passesOwn hp (thn (T.done X rfl rfl rfl hc i pins s3 σ3 H3 X.xe I3 (stat fr3) st3 stop) fun r s4 ⟨hr,I4⟩=>?_)
  subst hr
  exact wpAny_execs_nil ⟨σ3,H3,I4,qn⟩
 ·refine wpAny_passesOwn hp (thn (T.item X rfl rfl rfl hc i pins s3 σ3 H3 X.xe I3 (stat fr3) st3 go) fun r s4 ⟨u,hr,h4⟩=>?_)
  subst hr
  refine wpAny_passesOwn hp (thn h4 fun _ s5 ⟨x,H5,I5,r5,y5,st5,fr5⟩=>?_)
  have I5':=I5.pinned (stat fr5) (T.obj _ _ st5)
  refine wpAny_passesOwn hp (thn (hg _ s5 σ3 H5 x u _ I5' r5 (step x H5 y5)) fun _ s6 ⟨σ6,H6,I6,q6⟩=>?_)
  refine wpAny_passesOwn hp (thn (hb _ s6 σ6 H6 _ I6 q6) fun f s7 q7=>?_)
  have again:∀ {σ7:St} {H7:Hp},Inv X (pins++Qq fp s5.heap) σ7 H7 s7->N σ7 H7->∃ m,m < n/\∃ i σ' H',Inv X pins σ' H' s7/\tn i s7.heap/\(∀ b ∈ fp,H' b=none)/\W i m σ' H':=fun {σ7 H7} I7 n7=>by
   obtain ⟨m',hm,w7⟩:=hN σ7 H7 n7
   refine ⟨m',hm,i+1,σ7,H7,I7.unpinned,T.keep _ _ _ st5 fun b hb o e=>(I7.pin (b,o) (List.mem_append_right _ (List.mem_append_right _ (qk hb e)))).1,fun b hb=>?_,w7⟩
   obtain ⟨o,e,d⟩:=T.obj _ _ st5 b hb
   exact (I7.pin (b,o) (List.mem_append_right _ (List.mem_append_right _ (qk hb e)))).2.1
  cases f with
  | next=>obtain ⟨σ7,H7,I7,n7⟩:=q7; exact again I7 n7
  | cont=>obtain ⟨σ7,H7,I7,n7⟩:=q7; exact again I7 n7
  | brk=>obtain ⟨σ7,H7,I7,q7⟩:=q7; exact ⟨σ7,H7,I7.unpinned,q7⟩
  | ret v=>obtain ⟨x7,σ7,H7,I7,r7,q7⟩:=q7; exact ⟨x7,σ7,H7,I7.unpinned,r7,q7⟩
end
theorem acC {lo:Int}{n:Nat}{g:TG}{tb:TS}{D:Ends}{σ:St}{H:Hp} (Pv:Nat->St->Hp->Prop) (h0:Pv 0 σ H)
  (hs:∀ i σ H,i < n->Pv i σ H->g (.int (lo+i)) σ H fun σ2 H2=>tb { D with nx:=Pv (i+1),ct:=Pv (i+1),bk:=D.nx } σ2 H2) (hd:∀ σ H,Pv n σ H->D.nx σ H):
  ∃ W:Nat->Nat->St->Hp->Prop,(∃ m,W 0 m σ H)/\∀ i m σ H,W i m σ H->
   ((Itr lo n).stop i H/\D.nx σ H) ∨ ((Itr lo n).go i H/\∃ N:St->Hp->Prop,(∀ σ' H',N σ' H'->∃ m',m' < m/\W (i+1) m' σ' H')/\∀ x H',(Itr lo n).yld i H x H'->g x σ H' fun σ2 H2=>tb { D with nx:=N,ct:=N,bk:=D.nx } σ2 H2):=by
 refine ⟨fun i m σ H=>m=n - i/\i<=n/\Pv i σ H,⟨n,by simp,Nat.zero_le _,h0⟩,?_⟩
 rintro i m σ H ⟨rfl,hi,p⟩
 by_cases hlt:i < n
 ·refine .inr ⟨hlt,Pv (i+1),fun σ' H' p'=>⟨n - (i+1),by omega,rfl,hlt,p'⟩,fun x H' y=>?_⟩
  obtain ⟨e,y⟩:=y
  subst e y
  exact hs i σ _ hlt p
 ·have e:i=n:=by omega
  subst e
  exact .inl ⟨Nat.le_refl _,hd σ H p⟩
end L2
namespace L2
open PySem PySem.Spec PyProof.Rows
noncomputable abbrev R2:=V->V->Hp->VK->Prop
noncomputable def OpR (X:Cx) (f:Value->Value->Sem Value) (r:R2):Prop:=
 ∀ (pins:List (Addr × Obj)) (s:Shared) (σ:St) (H:Hp) (x y:V) (v u:Value) (Q:VK),Inv X pins σ H s->jQ x v->jQ y u->r x y H Q->
  wpAny (model X.prog X.w) X.A (f v u) (EP X pins σ Q) X.xe s
noncomputable def UnR (X:Cx) (f:Value->Sem Value) (r:V->Hp->VK->Prop):Prop:=
 ∀ (pins:List (Addr × Obj)) (s:Shared) (σ:St) (H:Hp) (x:V) (v:Value) (Q:VK),Inv X pins σ H s->jQ x v->r x H Q->
  wpAny (model X.prog X.w) X.A (f v) (EP X pins σ Q) X.xe s
noncomputable def qX (X:Cx) (f:Value) (r:List V->Hp->VK->Prop):Prop:=
 ∀ (pins:List (Addr × Obj)) (s:Shared) (σ:St) (H:Hp) (xs:List V) (us:List Value) (Q:VK),Inv X pins σ H s->jC xs us->r xs H Q->
  wpAny (model X.prog X.w) X.A (call f us) (EP X pins σ Q) X.xe s
noncomputable def aol (X:Cx) (r:V->Hp->(Bool->Hp->Prop)->Prop):Prop:=
 ∀ (pins:List (Addr × Obj)) (s:Shared) (σ:St) (H:Hp) (x:V) (v:Value) (Q:Bool->Hp->Prop),Inv X pins σ H s->jQ x v->r x H Q->
  wpAny (model X.prog X.w) X.A (truthy v) (TP X pins σ Q) X.xe s
noncomputable def tOp (r:R2) (ta tb:TE):TE:=fun σ H Q=>ta σ H fun x H1=>tb σ H1 fun y H2=>r x y H2 Q
noncomputable def tUn (r:V->Hp->VK->Prop) (ta:TE):TE:=fun σ H Q=>ta σ H fun x H1=>r x H1 Q
noncomputable def rI (C:Int->Int->Prop) (g:Int->Int->V):R2:=fun x y H Q=>∃ i j,x= .int i/\y= .int j/\C i j/\Q (g i j) H
noncomputable def rI0 (g:Int->Int->V):R2:=fun x y H Q=>∃ i j,x= .int i/\y= .int j/\Q (g i j) H
noncomputable def rU (g:Int->V):V->Hp->VK->Prop:=fun x H Q=>∃ i,x= .int i/\Q (g i) H
section
variable {X:Cx}{a b c:Expr}{ta tb tc:TE}{pos:Pos}
theorem al2 (ha:PE X a ta) (hb:PE X b tb) {pins:List (Addr × Obj)}{s:Shared}{σ:St}{H:Hp}{R:V->V->Hp->Prop} (I:Inv X pins σ H s)
  (h:ta σ H fun x H1=>tb σ H1 fun y H2=>R x y H2) {Q:Value->Shared->Prop} {f:Value->Value->Sem Value}
  (hf:∀ v u s2 x y H2,Inv X pins σ H2 s2->jQ x v->jQ y u->R x y H2->wpAny (model X.prog X.w) X.A (f v u) Q X.xe s2):
  wpAny (model X.prog X.w) X.A (eval a X.env) (fun v s₁=>wpAny (model X.prog X.w) X.A (eval b X.env) (fun u s₂=>wpAny (model X.prog X.w) X.A (f v u) Q X.xe s₂) X.xe s₁) X.xe s:=by
 refine thn (ha pins s σ H _ I h) fun v s1 ⟨x,H1,I1,r1,q1⟩=>?_
 refine thn (hb pins s1 σ H1 _ I1 q1) fun u s2 ⟨y,H2,I2,r2,q2⟩=>?_
 exact hf v u s2 x y H2 I2 r1 r2 q2
theorem anj {op:Operator}{r:R2} (ho:OpR X (binaryOp op) r) (ha:PE X a ta) (hb:PE X b tb):PE X (.BinOp a op b pos) (tOp r ta tb):=by
 intro pins s σ H Q I h
 exact wpAny_BinOp (al2 ha hb I h fun v u s2 x y H2 I2 rx ry q=>ho pins s2 σ H2 x y v u Q I2 rx ry q)
theorem ank {op:UnaryOp}{r:V->Hp->VK->Prop} (ho:UnR X (unaryOp op) r) (ha:PE X a ta):PE X (.UnaryOp op a pos) (tUn r ta):=by
 intro pins s σ H Q I h
 exact UnaryOp_ (thn (ha pins s σ H _ I h) fun v s1 ⟨x,H1,I1,r1,q1⟩=>ho pins s1 σ H1 x v Q I1 r1 q1)
theorem opI {f:Value->Value->Sem Value}{C:Int->Int->Prop}{g:Int->Int->Int}
  (rule:∀ (i j:Int) (t u:Tok) (s:Shared) (Q:Value->Shared->Prop) (E:Value->Shared->Prop),C i j->Q (.int (g i j) s.toks) { s with toks:=s.toks+1 }->wpAny (model X.prog X.w) X.A (f (.int i t) (.int j u)) Q E s):
  OpR X f (rI C fun i j=> .int (g i j)):=by
 intro pins s σ H x y v u Q I rx ry h
 obtain ⟨i,j,rfl,rfl,hc,q⟩:=h
 obtain ⟨t,rfl⟩:=rx
 obtain ⟨t',rfl⟩:=ry
 exact rule i j t t' s _ _ hc ⟨.int (g i j),H,I.tok _,⟨_,rfl⟩,q⟩
theorem anl {f:Value->Value->Sem Value}{g:Int->Int->Int}
  (rule:∀ (i j:Int) (t u:Tok) (s:Shared) (Q:Value->Shared->Prop) (E:Value->Shared->Prop),Q (.int (g i j) s.toks) { s with toks:=s.toks+1 }->wpAny (model X.prog X.w) X.A (f (.int i t) (.int j u)) Q E s):
  OpR X f (rI0 fun i j=> .int (g i j)):=by
 intro pins s σ H x y v u Q I rx ry h
 obtain ⟨i,j,rfl,rfl,q⟩:=h
 obtain ⟨t,rfl⟩:=rx
 obtain ⟨t',rfl⟩:=ry
 exact rule i j t t' s _ _ ⟨.int (g i j),H,I.tok _,⟨_,rfl⟩,q⟩
theorem al3 {f:Value->Value->Sem Value}{g:Int->Int->Bool}
  (rule:∀ (i j:Int) (t u:Tok) (s:Shared) (Q:Value->Shared->Prop) (E:Value->Shared->Prop),Q (.bool (g i j)) s->wpAny (model X.prog X.w) X.A (f (.int i t) (.int j u)) Q E s):
  OpR X f (rI0 fun i j=> .bl (g i j)):=by
 intro pins s σ H x y v u Q I rx ry h
 obtain ⟨i,j,rfl,rfl,q⟩:=h
 obtain ⟨t,rfl⟩:=rx
 obtain ⟨t',rfl⟩:=ry
 exact rule i j t t' s _ _ ⟨.bl (g i j),H,I,rfl,q⟩
noncomputable def aom (i j:Int):Prop:=0 < j/\j < 1073741824
noncomputable def al4 (i j:Int):Prop:=(-(2 ^ 64) < i/\i < 2 ^ 64) ∨ (-(2 ^ 64) < j/\j < 2 ^ 64)
theorem al4.ok {i j:Int} (h:al4 i j):IntMulOk i j:=by
 rcases h with ⟨h1,h2⟩ | ⟨h1,h2⟩
 ·exact .of_left (intBits_le_64 h1 h2)
 ·exact .of_right (intBits_le_64 h1 h2)
theorem al5:OpR X (binaryOp .Add) (rI0 fun i j=> .int (i+j)):=anl fun _ _ _ _ _ _ _ q=>add_int q
theorem al6:OpR X (binaryOp .Sub) (rI0 fun i j=> .int (i - j)):=anl fun _ _ _ _ _ _ _ q=>sub_int q
theorem al7:OpR X (binaryOp .Mult) (rI al4 fun i j=> .int (i*j)):=opI fun _ _ _ _ _ _ _ hc q=>mul_int q hc.ok
theorem aka:OpR X (binaryOp .FloorDiv) (rI aom fun i j=> .int (i / j)):=opI fun i j _ _ _ _ _ hc q=>by
 have h1:(0:Int) < j:=hc.1
 have h2:j < 1073741824:=hc.2
 exact floordiv_int (by omega) (by rw [Int.fdiv_eq_ediv_of_nonneg i (by omega)]; exact q) (.inl (PyProof.noPylong_small (by omega)))
theorem al8:OpR X (binaryOp .Mod) (rI (fun _ j=>0 < j) fun i j=> .int (i % j)):=opI fun i j _ _ _ _ _ hc q=>by
 have h1:(0:Int) < j:=hc
 exact mod_int' (by omega) (by rw [Int.fmod_eq_emod_of_nonneg i (by omega)]; exact q)
theorem unI {f:Value->Sem Value}{g:Int->Int}
  (rule:∀ (i:Int) (t:Tok) (s:Shared) (Q:Value->Shared->Prop) (E:Value->Shared->Prop),Q (.int (g i) s.toks) { s with toks:=s.toks+1 }->wpAny (model X.prog X.w) X.A (f (.int i t)) Q E s):
  UnR X f (rU fun i=> .int (g i)):=by
 intro pins s σ H x v Q I rx h
 obtain ⟨i,rfl,q⟩:=h
 obtain ⟨t,rfl⟩:=rx
 exact rule i t s _ _ ⟨.int (g i),H,I.tok _,⟨_,rfl⟩,q⟩
theorem al9:UnR X (unaryOp .USub) (rU fun i=> .int (-i)):=unI fun _ _ _ _ _ q=>neg_int q
end
section
variable {X:Cx}{a b c:Expr}{ta tb tc:TE}{pos:Pos}
theorem ama {pins:List (Addr × Obj)}{σ:St}{H:Hp}{s:Shared}{Q:VK}{k k':Bool} (I:Inv X pins σ H s) (q:Q (.bl k) H) (e:k=k'):EP X pins σ Q (.bool k') s:=by
 subst e
 exact ⟨.bl k,H,I,rfl,q⟩
theorem anm:OpR X (compareOp .Lt) (rI0 fun i j=> .bl (decide (i < j))):=al3 fun _ _ _ _ _ _ _ q=>lt_int q
theorem ann:OpR X (compareOp .LtE) (rI0 fun i j=> .bl (decide (i<=j))):=al3 fun _ _ _ _ _ _ _ q=>le_int q
theorem ano:OpR X (compareOp .GtE) (rI0 fun i j=> .bl (decide (j<=i))):=al3 fun _ _ _ _ _ _ _ q=>ge_int q
theorem amb:OpR X (compareOp .Is) (fun x y H Q=>y= .non/\Q (.bl (decide (x= .non))) H):=by
 intro pins s σ H x y v u Q I rx ry h
 obtain ⟨rfl,q⟩:=h
 cases ry
 refine is_none_gen (ama I q ?_)
 cases x <;> first
  | (cases rx; rfl)
  | (obtain ⟨t,rfl⟩:=rx; rfl)
theorem OpR.or {f:Value->Value->Sem Value}{r r':R2} (h:OpR X f r) (h':OpR X f r'):OpR X f (fun x y H Q=>r x y H Q ∨ r' x y H Q):=by
 intro pins s σ H x y v u Q I rx ry q
 rcases q with q | q
 ·exact h pins s σ H x y v u Q I rx ry q
 ·exact h' pins s σ H x y v u Q I rx ry q
theorem aia (b:Expr) {op:CmpOp} (h:op ≠ .In:=by decide) (h2:op ≠ .NotIn:=by decide):behindInMarks op b=false:=by
 have e1:(op == CmpOp.In)=false:=by cases op <;> first | rfl | exact absurd rfl h
 have e2:(op == CmpOp.NotIn)=false:=by cases op <;> first | rfl | exact absurd rfl h2
 cases b <;> simp [behindInMarks,e1,e2]
theorem akb {op:CmpOp}{r:R2} (ho:OpR X (compareOp op) r) (ha:PE X a ta) (hb:PE X b tb) (hm:behindInMarks op b=false):PE X (.Compare a [op] [b] pos) (tOp r ta tb):=by
 intro pins s σ H Q I h
 exact wpAny_Compare1 (al2 ha hb I h fun v u s2 x y H2 I2 rx ry q=>ho pins s2 σ H2 x y v u Q I2 rx ry q) hm
noncomputable def alG (t:TE):TT:=fun σ H Q=>t σ H fun x H'=>∃ k,x= .bl k/\Q k H'
theorem akc {op:CmpOp}{r:R2} (ho:OpR X (compareOp op) r) (ha:PE X a ta) (hb:PE X b tb) (hm:behindInMarks op b=false):PT X (.Compare a [op] [b] pos) (alG (tOp r ta tb)):=by
 intro pins s σ H Q I h
 refine wpAny_isTrue_Compare1 (thn (ha pins s σ H _ I h) fun v s1 ⟨x,H1,I1,r1,q1⟩=>thn (hb pins s1 σ H1 _ I1 q1) fun u s2 ⟨y,H2,I2,r2,q2⟩=>
  thn (ho pins s2 σ H2 x y v u _ I2 r1 r2 q2) fun c s3 ⟨z,H3,I3,r3,k,e,q3⟩=>?_) hm
 subst e
 cases r3
 exact wpAny_truthy_bool ⟨H3,I3,q3⟩
noncomputable def afu (r r':R2) (ta tb tc:TE):TE:=fun σ H Q=>ta σ H fun x H1=>tb σ H1 fun y H2=>r x y H2 fun z H3=>∃ k,z= .bl k/\
 (if k=true then tc σ H3 fun w' H4=>r' y w' H4 Q else Q (.bl false) H3)
theorem aib {op op':CmpOp}{r r':R2} (ho:OpR X (compareOp op) r) (ho':OpR X (compareOp op') r') (ha:PE X a ta) (hb:PE X b tb) (hc:PE X c tc)
  (hm:lastMarks [op,op'] [b,c]=false:=by with_unfolding_all rfl):PE X (.Compare a [op,op'] [b,c] pos) (afu r r' ta tb tc):=by
 intro pins s σ H Q I h
 refine Compare_chain (thn (ha pins s σ H _ I h) fun v s1 ⟨x,H1,I1,r1,q1⟩=>chain_link (thn (hb pins s1 σ H1 _ I1 q1) fun u s2 ⟨y,H2,I2,r2,q2⟩=>
  thn (ho pins s2 σ H2 x y v u _ I2 r1 r2 q2) fun d s3 ⟨z,H3,I3,r3,k,e,q3⟩=>?_)) hm
 subst e
 cases r3
 refine wpAny_truthy_bool ?_
 cases k with
 | false=>exact ite_ff ⟨.bl false,H3,I3,rfl,q3⟩
 | true=>exact ite_tt (chain_last (thn (hc pins s3 σ H3 _ I3 q3) fun w' s4 ⟨z',H4,I4,r4,q4⟩=>ho' pins s4 σ H4 y z' u w' Q I4 r2 r4 q4))
theorem aic {op op':CmpOp}{r r':R2} (ho:OpR X (compareOp op) r) (ho':OpR X (compareOp op') r') (ha:PE X a ta) (hb:PE X b tb) (hc:PE X c tc)
  (hm:lastMarks [op,op'] [b,c]=false:=by with_unfolding_all rfl):PT X (.Compare a [op,op'] [b,c] pos) (alG (afu r r' ta tb tc)):=by
 intro pins s σ H Q I h
 refine isTrue_chain (thn (ha pins s σ H _ I h) fun v s1 ⟨x,H1,I1,r1,q1⟩=>test_link (thn (hb pins s1 σ H1 _ I1 q1) fun u s2 ⟨y,H2,I2,r2,q2⟩=>
  thn (ho pins s2 σ H2 x y v u _ I2 r1 r2 q2) fun d s3 ⟨z,H3,I3,r3,k,e,q3⟩=>?_)) hm
 subst e
 cases r3
 refine wpAny_truthy_bool ?_
 cases k with
 | false=>
  obtain ⟨k',e',q'⟩:=q3
  cases e'
  exact ite_ff ⟨H3,I3,q'⟩
 | true=>
  refine ite_tt (test_last (thn (hc pins s3 σ H3 _ I3 q3) fun w' s4 ⟨z',H4,I4,r4,q4⟩=>thn (ho' pins s4 σ H4 y z' u w' _ I4 r2 r4 q4) fun d' s5 ⟨z2,H5,I5,r5,k2,e2,q5⟩=>?_))
  subst e2
  cases r5
  exact wpAny_truthy_bool ⟨H5,I5,q5⟩
noncomputable def anp (K:PySem.W.Frag) (x:V) (H:Hp) (k:Bool):Prop:=
 match x with
 | .non=>k=false
 | .bl b=>k=b
 | .int i=>k=(i != 0)
 | .str y=>y.length<=sizeLine/\k=((y.length:Int) != 0)
 | .byt y=>y.size<=sizeLine/\k=((y.size:Int) != 0)
 | .ref p=>(∃ xs,SqL K H p xs/\k=!xs.isEmpty) ∨ (∃ xs,SqT K H p xs/\k=!xs.isEmpty) ∨ ∃ kvs,H p=some (.dK kvs)/\k=!kvs.isEmpty
 | _=>False
theorem afv {κ:Type}{kvs:List (κ × V)}{vs:List (κ × Value)} (r:KV kvs vs):(!vs.isEmpty)=!kvs.isEmpty:=by
 cases r <;> rfl
theorem abo {xs:List V}{its:List Value} (r:jC xs its):(!its.toArray.isEmpty)=!xs.isEmpty:=by
 cases r <;> simp
theorem aag:(sizeLine:Nat) < 2 ^ 63:=by rw [sizeLine_eq]; decide
theorem amc:aol X (fun x H Q=>∃ k,anp X.K x H k/\Q k H):=by
 intro pins s σ H x v Q I rx h
 obtain ⟨k,e,q⟩:=h
 have hl:=aag
 have hs:sizeLine=16777216:=sizeLine_eq
 cases x with
 | non=>
  cases rx
  have e':k=false:=e
  subst e'
  exact truthy_none ⟨H,I,q⟩
 | bl b=>
  cases rx
  have e':k=b:=e
  subst e'
  exact wpAny_truthy_bool ⟨H,I,q⟩
 | int i=>
  obtain ⟨t,rfl⟩:=rx
  have e':k=(i != 0):=e
  subst e'
  exact PySem.P.truthy_int ⟨H,I,q⟩
 | str y=>
  obtain ⟨t,rfl⟩:=rx
  obtain ⟨hy,e'⟩:y.length<=sizeLine/\k=((y.length:Int) != 0):=e
  subst e'
  exact PySem.P.truthy_str (by omega) ⟨H,I.tok _,q⟩
 | byt y=>
  obtain ⟨t,rfl⟩:=rx
  obtain ⟨hy,e'⟩:y.size<=sizeLine/\k=((y.size:Int) != 0):=e
  subst e'
  exact PySem.W.truthy_bytes (by omega) ⟨H,I.tok _,q⟩
 | ref p=>
  cases rx
  have e':(∃ xs,SqL X.K H p xs/\k=!xs.isEmpty) ∨ (∃ xs,SqT X.K H p xs/\k=!xs.isEmpty) ∨ ∃ kvs,H p=some (.dK kvs)/\k=!kvs.isEmpty:=e
  rcases e' with ⟨xs,hx,e'⟩ | ⟨xs,hx,e'⟩ | ⟨kvs,hx,e'⟩
  ·subst e'
   obtain ⟨its,r,pl,hz⟩:=I.list hx
   have hlen:=r.length
   exact wpAny_truthy_list pl.isList (by simp only [List.size_toArray]; omega) ⟨H,I.tok _,by rw [abo r]; exact q⟩
  ·subst e'
   obtain ⟨its,r,pl,hz⟩:=I.tuple hx
   have hlen:=r.length
   exact truthy_tuple pl (by simp only [List.size_toArray]; omega) ⟨H,I.tok _,by rw [abo r]; exact q⟩
  ·subst e'
   obtain ⟨hz,hS,vs,r,m⟩:kvs.length<=sizeLine/\(p == sysModules)=false/\∃ vs,KV kvs vs/\s.heap.DictOf (Zz X.prog X.w) p vs:=I.hok p _ hx
   have hlen:kvs.length=vs.length:=Paired.length r
   exact wpAny_truthy_dict hS m (by omega) ⟨H,I.tok _,by rw [afv r]; exact q⟩
 | _=>exact (show False from e).elim
theorem aid (ha:PE X a ta) (he:∀ whole,isTrue a X.env whole=(do let v ←whole; standAt a.pos; holding [v] (truthy v))):
  PT X a (fun σ H Q=>ta σ H fun x H'=>∃ k,anp X.K x H' k/\Q k H'):=by
 intro pins s σ H Q I h
 exact isTrue_plain (thn (ha pins s σ H _ I h) fun v s1 ⟨x,H1,I1,r1,q1⟩=>amc pins s1 σ H1 x v Q I1 r1 q1) (he _)
theorem aaG {x:V}{us:List Value} (r:jC [x] us):∃ u,us=[u]/\jQ x u:=by
 cases r with
 | cons r1 r2=>cases r2; exact ⟨_,rfl,r1⟩
theorem aep {x y:V}{us:List Value} (r:jC [x,y] us):∃ u w',us=[u,w']/\jQ x u/\jQ y w':=by
 cases r with
 | cons r1 r2=>
  cases r2 with
  | cons r3 r4=>cases r4; exact ⟨_,_,rfl,r1,r3⟩
theorem aie:qX X (.builtin "abs") (fun xs H Q=>∃ i,xs=[.int i]/\Q (.int (if i < 0 then -i else i)) H):=by
 intro pins s σ H xs us Q I r h
 obtain ⟨i,rfl,q⟩:=h
 obtain ⟨u,rfl,t,rfl⟩:=aaG r
 exact call_abs_int fun u tk=>⟨.int (if i < 0 then -i else i),H,I.tok _,⟨_,rfl⟩,q⟩
theorem ag0 (hc:X.calm=true):qX X (.builtin "max") (fun xs H Q=>∃ i j,xs=[.int i,.int j]/\Q (.int (if j > i then j else i)) H):=by
 intro pins s σ H xs us Q I r h
 obtain ⟨i,j,rfl,q⟩:=h
 obtain ⟨u,w',rfl,⟨t,rfl⟩,⟨t',rfl⟩⟩:=aep r
 refine max_two_ints (I.ok.hd hc) fun h' tk k=>⟨_,H,I.kept k,?_,q⟩
 by_cases hj:j > i
 ·rw [if_pos hj,if_pos hj]; exact ⟨_,rfl⟩
 ·rw [if_neg hj,if_neg hj]; exact ⟨_,rfl⟩
theorem ag1 (hc:X.calm=true):qX X (.builtin "min") (fun xs H Q=>∃ i j,xs=[.int i,.int j]/\Q (.int (if j < i then j else i)) H):=by
 intro pins s σ H xs us Q I r h
 obtain ⟨i,j,rfl,q⟩:=h
 obtain ⟨u,w',rfl,⟨t,rfl⟩,⟨t',rfl⟩⟩:=aep r
 refine min_two_ints (I.ok.hd hc) fun h' tk k=>⟨_,H,I.kept k,?_,q⟩
 by_cases hj:j < i
 ·rw [if_pos hj,if_pos hj]; exact ⟨_,rfl⟩
 ·rw [if_neg hj,if_neg hj]; exact ⟨_,rfl⟩
end
end L2
namespace L2
open PySem PySem.Spec PyProof.Rows
structure ObjM (h:Heap) (x dx C:Addr) (mA:Str->Option Value):Prop where
 obj:h.get? x=some (PySem.W.instObj C dx)
 ns:h.Ns1 dx mA
 ne:dx ≠ x
section
variable {prog:Program}{w:World}{A:Around}{E:Value->Shared->Prop}{s:Shared}{K:PySem.W.Frag}{x dx C f:Addr}{mA:Str->Option Value}{name:Str}{v:Value}
end
section
variable {P:Program}{w:World}{H H':Hp}{h h':Heap}{a C dx:Addr}{fs fs':List (Str × V)}
end
structure Cls (K:PySem.W.Frag) (C:Addr):Prop where
 pg:PySem.W.plainGet K C Str.empty=true
 hd:PySem.W.hasDictIn K C=true
 po:PySem.W.plainOver K C=true
 sa:PySem.W.findIn K (.ref C) "__setattr__"=some (some (.builtin "object.__setattr__"))
theorem Cls.get {K:PySem.W.Frag}{C:Addr} (c:Cls K C) (f:Str):PySem.W.plainGet K C f=true:=c.pg
structure Con (K:PySem.W.Frag) (C:Addr) (f:Str) (v:V) (u:Value):Prop where
 at_:PySem.W.findIn K (.ref C) f=some (some u)
 rel:jQ v u
 get:PySem.W.specialIn K u "__get__"=some none
 cp:PySem.W.copiedNames.contains f=false
structure Meth (K:PySem.W.Frag) (C:Addr) (m:Str) (f:Addr):Prop where
 at_:PySem.W.findIn K (.ref C) m=some (some (.ref f))
 fn:PySem.W.isFn K (.ref f)=true
 kp:PySem.W.keepIn K (.ref f)=true
section
variable {X:Cx}{pins:List (Addr × Obj)}{σ:St}{H:Hp}{s:Shared}{a C dx:Addr}{fs:List (Str × V)}{f:Str}{v:V}{A:Around}{E:Value->Shared->Prop}
theorem Inv.made (I:Inv X pins σ H s):Inv X pins σ (upd (upd H s.heap.objs.size (.own (s.heap.objs.size+1))) (s.heap.objs.size+1) (.ins C s.heap.objs.size []))
  { s with heap:=(s.heap.push PySem.W.emptyDict).push (PySem.W.instObj C s.heap.objs.size) }:=by
 have e1:(s.heap.push PySem.W.emptyDict).get? s.heap.objs.size=some PySem.W.emptyDict:=Heap.get?_push_size s.heap rfl
 have e2:((s.heap.push PySem.W.emptyDict).push (PySem.W.instObj C s.heap.objs.size)).get? (s.heap.objs.size+1)=some (PySem.W.instObj C s.heap.objs.size):=by
  have:=Heap.get?_push_size (s.heap.push PySem.W.emptyDict) (o:=PySem.W.instObj C s.heap.objs.size) rfl
  rwa [Heap.size_push] at this
 have e3:(s.heap.push PySem.W.emptyDict).Ns s.heap.objs.size (fun _=>none):=⟨PySem.W.emptyDict,#[],_,e1,rfl,(fun e he=>absurd he (by simp)),fun _=>rfl⟩
 have I1:=I.laid (a:=s.heap.objs.size) (o:= .own (s.heap.objs.size+1)) (h':=s.heap.push PySem.W.emptyDict) (t':=s.toks) (fun b u q=>Heap.get?_push_of_some _ q) (Nat.le_refl _) ⟨_,e1⟩
 refine I1.laid (a:=s.heap.objs.size+1) (o:= .ins C s.heap.objs.size []) (t':=s.toks) (fun b u q=>Heap.get?_push_of_some _ q) (Nat.le_of_eq (Heap.size_push _ _)) ?_
 have ne:s.heap.objs.size ≠ s.heap.objs.size+1:=Nat.ne_of_lt (Nat.lt_succ_self _)
 refine ⟨by rw [jm ne,jq],Nat.zero_le _,ne,e2,fun _=>none,(Heap.Ns1.of_empty e3).at fun o q=>Heap.get?_push_of_some _ q,fun _=>True.intro,fun y hy=>absurd rfl hy⟩
end
section
variable {X:Cx}{o e value:Expr}{f:Str}{pos pos' tpos:Pos}{ta tv:TE}
end
section
variable {X:Cx}{pins:List (Addr × Obj)}{σ:St}{H:Hp}{s:Shared}{A:Around}{E:Value->Shared->Prop}{Q:Value->Shared->Prop}{c:Value}{b:Bool}
inductive TyOf (K:PySem.W.Frag) (H:Hp):V->Value->Prop where
 | non:TyOf K H .non (.type "NoneType")
 | bl (x:Bool):TyOf K H (.bl x) (.type "bool")
 | int (i:Int):TyOf K H (.int i) (.type "int")
 | str (x:Str):TyOf K H (.str x) (.type "str")
 | flt (x:UInt64):TyOf K H (.flt x) (.type "float")
 | lst {a:Addr} {xs:List V} (e:H a=some (.lst xs)):TyOf K H (.ref a) (.type "list")
 | frz {a:Addr} {o:Obj} {xs:List V} (e:H a=some (.frz o (.lst xs))):TyOf K H (.ref a) (.type "list")
 | tup {a:Addr} {xs:List V} (e:H a=some (.tup xs)):TyOf K H (.ref a) (.type "tuple")
 | dK {a:Addr} {kvs:List (Key × V)} (e:H a=some (.dK kvs)):TyOf K H (.ref a) (.type "dict")
 | dT {a:Addr} {kvs:List (List Key × V)} (e:H a=some (.dT kvs)):TyOf K H (.ref a) (.type "dict")
 | ins {a C dx:Addr} {fs:List (Str × V)} (e:H a=some (.ins C dx fs)) (cl:Cls K C) (ha:PySem.W.findIn K (.ref C) "__class__"=some (some (.builtin "object.__class__")))
   (hn:PySem.W.specialIn K (.builtin "object.__class__") "__get__"=some (some (.builtin "getset_descriptor.__get__"))) (htk:PySem.W.takesIn K (.builtin "object.__class__")=some true)
   (hm:PySem.W.mroIn K C (.type "object")=some true):TyOf K H (.ref a) (.ref C)
end
end L2
namespace L2
open PySem PySem.Spec PyProof.Rows
structure Room (k:Nat) (A:Around):Prop where
 hd:A.handled=none
 dp:A.depth+3*k+5 < recursionLimit
 un:A.units+16*k+200 < cLine
theorem Room.mono {j k:Nat}{A:Around} (r:Room k A) (h:j<=k):Room j A:=⟨r.hd,by have:=r.dp; omega,by have:=r.un; omega⟩
theorem Room.deeper {k:Nat}{A:Around} (r:Room (k+1) A) (env:Env):Room k (A.deeper env):=
 ⟨r.hd,by have:=r.dp; show A.depth+1+3*k+5 < _; omega,by have:=r.un; show A.units+3+16*k+200 < _; omega⟩
theorem Room.in1 {k:Nat}{A:Around} (r:Room (k+1) A):Room k A.in1:=
 ⟨r.hd,by have:=r.dp; show A.depth+3*k+5 < _; omega,by have:=r.un; show A.units+1+16*k+200 < _; omega⟩
theorem Room.depth {k:Nat}{A:Around} (r:Room k A):A.depth < recursionLimit:=by have:=r.dp; omega
theorem Room.units {k:Nat}{A:Around} (r:Room k A):A.units+64 < cLine:=by have:=r.un; omega
noncomputable def akd:TA:=fun _ H Q=>Q [] H
noncomputable def aeq (ta:TE) (tr:TA):TA:=fun σ H Q=>ta σ H fun x H1=>tr σ H1 fun xs H2=>Q (x::xs) H2
section
variable {X:Cx}{e:Expr}{es:List Expr}{te:TE}{t:TA}{pos:Pos}
theorem abp {α:Type}:∀ (us:List α),us.length=1->∃ a,us=[a]
 | [a],_=>⟨a,rfl⟩
theorem acl {α:Type} (us:List α) (h:us.length=2):∃ a b,us=[a,b]:=by
 cases us with
 | nil=>cases h
 | cons a r=>obtain ⟨b,rfl⟩:=abp r (Nat.succ.inj h); exact ⟨a,b,rfl⟩
theorem afw {α:Type} (us:List α) (h:us.length=3):∃ a b c,us=[a,b,c]:=by
 cases us with
 | nil=>cases h
 | cons a r=>obtain ⟨b,c,rfl⟩:=acl r (Nat.succ.inj h); exact ⟨a,b,c,rfl⟩
theorem aif {α:Type} (us:List α) (h:us.length=4):∃ a b c d,us=[a,b,c,d]:=by
 cases us with
 | nil=>cases h
 | cons a r=>obtain ⟨b,c,d,rfl⟩:=afw r (Nat.succ.inj h); exact ⟨a,b,c,d,rfl⟩
theorem aon {α:Type} (us:List α) (h:us.length=5):∃ a b c d e,us=[a,b,c,d,e]:=by
 cases us with
 | nil=>cases h
 | cons a r=>obtain ⟨b,c,d,e,rfl⟩:=aif r (Nat.succ.inj h); exact ⟨a,b,c,d,e,rfl⟩
theorem qY:PA X [] akd:=fun _ _ _ _ H Q I h=>Calls.spliced_nil ⟨[],H,I,.nil,h⟩
theorem qg (ha:PE X e te) (hr:PA X es t) (hs:starEach (e::es) X.env=(false,eval e X.env)::starEach es X.env:=by rfl):PA X (e::es) (aeq te t):=by
 intro pos pins s σ H Q I h
 rw [hs]
 show wpAny _ _ (spliced ((false,eval e X.env)::backTo pos (starEach es X.env))) _ _ s
 refine Calls.spliced_cons (thn (ha pins s σ H _ I h) fun u s1 ⟨x,H1,I1,r1,q1⟩=>?_)
 exact thn (hr pos pins s1 σ H1 _ I1 q1) fun us s2 ⟨xs,H2,I2,r2,q2⟩=>⟨x::xs,H2,I2,.cons r1 r2,q2⟩
noncomputable def aoo (t:TA):TE:=fun σ H Q=>t σ H fun xs H1=>xs.length<=sizeLine/\∀ p,H1 p=none->Q (.ref p) (upd H1 p (.tup xs))
noncomputable def aop (t:TA):TE:=fun σ H Q=>t σ H fun xs H1=>xs.length<=sizeLine/\∀ p,H1 p=none->Q (.ref p) (upd H1 p (.lst xs))
theorem aig {x1} (h:PA X es t):PE X (.Tuple es x1 pos) (aoo t):=by
 intro pins s σ H Q I hq
 refine wpAny_Tuple_spliced (thn (h pos pins s σ H _ I hq) fun us s1 ⟨xs,H1,I1,r,z,q⟩=>⟨by rw [←r.length]; exact z,?_⟩)
 have hf:H1 s1.heap.objs.size=none:=I1.hok.fresh (Nat.le_refl _)
 refine ⟨.ref s1.heap.objs.size,upd H1 s1.heap.objs.size (.tup xs),I1.laid (t':=s1.toks) (fun b u e=>Heap.get?_push_of_some _ e) (Nat.le_refl _) ?_,rfl,q _ hf⟩
 exact ⟨z,us,r,⟨_,Heap.get?_push_size _ rfl,rfl,_,rfl⟩⟩
theorem afx (h:PA X es t):PE X (.List es pos) (aop t):=by
 intro pins s σ H Q I hq
 refine wpAny_List_spliced (thn (h pos pins s σ H _ I hq) fun us s1 ⟨xs,H1,I1,r,z,q⟩=>⟨by rw [←r.length]; exact z,?_⟩)
 have hf:H1 s1.heap.objs.size=none:=I1.hok.fresh (Nat.le_refl _)
 refine ⟨.ref s1.heap.objs.size,upd H1 s1.heap.objs.size (.lst xs),I1.laid (t':=s1.toks) (fun b u e=>Heap.get?_push_of_some _ e) (Nat.le_refl _) ?_,rfl,q _ hf⟩
 exact ⟨z,us,0,r,Heap.get?_push_size _ rfl⟩
end
noncomputable abbrev Sp:=List V->Hp->VK->XK->Prop
noncomputable abbrev CXT:=List Env->Hp->Shared->XK->Value->Shared->Prop
structure Env0 (P:Program) (w:World) (K:PySem.W.Frag) (mg:Str->Option Value) (base:Heap) (A:Around) (outer:List Env) (s:Shared) (H:Hp):Prop where
 frames:A.frames=some outer
 mod:Mod K mg base
 bs:∀ b o,base.get? b=some o->s.heap.get? b=some o/\H b=none
 bsz:base.objs.size<=s.heap.objs.size
 funs:s.heap.FunFrames base outer
 frf:∀ b ∈ frs outer,H b=none
 hok:HOk P w H s.heap
 bare:AllBare s.gens
noncomputable def CE (outer:List Env) (P:Program) (w:World) (H:Hp) (s:Shared) (Q:VK) (u:Value) (s':Shared):Prop:=
 ∃ v H',s'.os=s.os/\AllBare s'.gens/\Un (frs outer) [] H H' s.heap s'.heap/\HOk P w H' s'.heap/\jQ v u/\Q v H'
noncomputable def CR (CX:CXT) (outer:List Env) (P:Program) (w:World) (H:Hp) (s:Shared) (Q:VK) (E:XK) (r:Result) (s':Shared):Prop:=
 match r with
 | .ok (.ret u)=>CE outer P w H s Q u s'
 | .ok _=>False
 | .error e=>CX outer H s E e s'
structure FnOk (P:Program) (w:World) (K:PySem.W.Frag) (mg:Str->Option Value) (base:Heap) (CX:CXT) (k:Nat) (f:Addr) (fd:FuncData) (ps:List Str) (sp:Sp):Prop where
 len:∀ vs H Q E,sp vs H Q E->vs.length=ps.length
 run:∀ (A:Around) (outer:List Env) (s:Shared) (H:Hp) (args:Args) (us:List Value) (vs:List V) (Q:VK) (E:XK),Room k A->Env0 P w K mg base A outer s H->BindsTo s fd args (ps.zip us)->jC vs us->sp vs H Q E->
  codeAny (model P w) A (.call (.ref f) args) (CR CX outer P w H s Q E) s
theorem FnOk.mono {P:Program}{w:World}{K:PySem.W.Frag}{mg:Str->Option Value}{base:Heap}{CX:CXT}{j k:Nat}{f:Addr}{fd:FuncData}{ps:List Str}{sp:Sp} (F:FnOk P w K mg base CX j f fd ps sp) (h:j<=k):
  FnOk P w K mg base CX k f fd ps sp:=⟨F.len,fun A outer s H args us vs Q E hr=>F.run A outer s H args us vs Q E (hr.mono h)⟩
theorem FnOk.imp {P:Program}{w:World}{K:PySem.W.Frag}{mg:Str->Option Value}{base:Heap}{CX:CXT}{k:Nat}{f:Addr}{fd:FuncData}{ps:List Str}{sp sp':Sp} (F:FnOk P w K mg base CX k f fd ps sp)
  (h:∀ vs H Q E,sp' vs H Q E->sp vs H Q E):FnOk P w K mg base CX k f fd ps sp':=
 ⟨fun vs H Q E q=>F.len vs H Q E (h _ _ _ _ q),fun A outer s H args us vs Q E hr he hb hv hs=>F.run A outer s H args us vs Q E hr he hb hv (h _ _ _ _ hs)⟩
theorem Env0.in1 {P:Program}{w:World}{K:PySem.W.Frag}{mg:Str->Option Value}{base:Heap}{A:Around}{outer:List Env}{s:Shared}{H:Hp} (e:Env0 P w K mg base A outer s H):
  Env0 P w K mg base A.in1 outer s H:=⟨e.frames,e.mod,e.bs,e.bsz,e.funs,e.frf,e.hok,e.bare⟩
section
variable {X:Cx}{pins:List (Addr × Obj)}{σ:St}{H:Hp}{s s':Shared}
theorem Inv.env0 (I:Inv X pins σ H s):Env0 X.prog X.w X.K X.mg X.base X.A X.stack s H:=
 ⟨I.ok.frames,I.ok.mod,I.bs,Nat.le_trans I.ok.bsz I.sz,I.stack,I.stkFree,I.hok,I.bare⟩
theorem Inv.after {Q:VK}{u:Value} (I:Inv X pins σ H s) (h:CE X.stack X.prog X.w H s Q u s'):EP X pins σ Q u s':=by
 obtain ⟨v,H',os,bare,un,hok,r,q⟩:=h
 obtain ⟨hh,g,d,t,os'⟩:=s'
 obtain rfl:os'=s.os:=os
 exact ⟨v,H',I.call (h':=hh) (g':=g) (d':=d) (t':=t) (ch:=[]) un hok bare (fun b z=>absurd z (by simp)),r,q⟩
end
noncomputable def alH (sp:Sp) (dvs:List V) (E:XK) (t:TA):TE:=fun σ H Q=>t σ H fun vs H1=>sp (vs++dvs) H1 Q E
noncomputable def Qr (K:PySem.W.Frag) (fd:FuncData) (ps:List Str) (ds:List Value):Prop:=
 ∀ (s:Shared) (us:List Value),K.In s.heap->(us++ds).length=ps.length->BindsTo s fd ⟨us,[]⟩ (ps.zip (us++ds))
theorem Qr.all {K:PySem.W.Frag}{fd:FuncData}{ps:List Str} (h:∀ us:List Value,us.length=ps.length->bindArgs fd ⟨us,[]⟩=pure (ps.zip us)):Qr K fd ps []:=fun s us _ hl=>by
 rw [List.append_nil] at hl ⊢
 exact .of_eq (h us hl)
noncomputable def afy (CX:CXT) (X:Cx) (E:XK):Prop:=∀ (pins:List (Addr × Obj)) (σ:St) (H:Hp) (s:Shared) (e:Value) (s':Shared),Inv X pins σ H s->CX X.stack H s E e s'->X.xe e s'
section
variable {X:Cx}{CX:CXT}{k:Nat}{f C:Addr}{fd:FuncData}{ps:List Str}{sp:Sp}{dvs:List V}{ds:List Value}{E:XK}{x m:Str}{p pos apos:Pos}{e o:Expr}{es:List Expr}{ta:TE}{t:TA}
theorem aih {pins:List (Addr × Obj)}{σ:St}{H:Hp}{s:Shared}{Q:VK}{us:List Value}{vs:List V} (F:FnOk X.prog X.w X.K X.mg X.base CX k f fd ps sp) (hr:Room k X.A) (hb:Qr X.K fd ps ds) (hd:jC dvs ds) (hx:afy CX X E)
  (I:Inv X pins σ H s) (r:jC vs us) (h:sp (vs++dvs) H Q E):wpAny (model X.prog X.w) X.A (call (.ref f) us) (EP X pins σ Q) X.xe s:=by
 have r2:jC (vs++dvs) (us++ds):=r.append hd
 have hl:(us++ds).length=ps.length:=by rw [←r2.length]; exact F.len _ _ _ _ h
 refine wpAny_call (codeAny_mono (F.run X.A X.stack s H ⟨us,[]⟩ (us++ds) (vs++dvs) Q E hr I.env0 (hb s us I.kIn hl) r2 h) fun r s' hq=>?_)
 cases r with
 | error e=>exact hx pins σ H s e s' I hq
 | ok fl=>
  cases fl with
  | ret u=>exact I.after hq
  | next=>exact False.elim hq
  | brk=>exact False.elim hq
  | cont=>exact False.elim hq
theorem ake (F:FnOk X.prog X.w X.K X.mg X.base CX k f fd ps sp) (hr:Room k X.A) (hg:Gl X x) (hm:X.mg x=some (.ref f)) (hk:PySem.W.keepIn X.K (.ref f)=true) (hb:Qr X.K fd ps ds) (hd:jC dvs ds) (hx:afy CX X E)
  (ha:PA X (e::es) t) (hdb:(x == ("__debug__":Str))=false:=by decide) (he:starEach (e::es) X.env=(false,eval e X.env)::starEach es X.env:=by rfl) (hpl:(backTo pos (starEach es X.env)).any (·.1)=false:=by rfl):
  PE X (.Call (.Name x p) (e::es) [] pos) (alH sp dvs E t):=by
 intro pins s σ H Q I h
 refine wpAny_Call_Name_kw (QM I hg hm ?_ hdb)
 refine PySem.W.callWith_K (h₀:=X.base) I.ok.mod.kin hk (thn (ha pos pins s σ H _ I h) fun us s1 ⟨vs,H1,I1,r,q⟩=>⟨I1.kIn,?_⟩) he hpl
 exact aih F hr hb hd hx I1 r q
structure Mk (K:PySem.W.Frag) (C f:Addr):Prop where
 makes:PySem.W.makesIn K C=true
 init:PySem.W.findIn K (.ref C) "__init__"=some (some (.ref f))
 fn:PySem.W.isFn K (.ref f)=true
 kp:PySem.W.keepIn K (.ref C)=true
end
noncomputable def PK (X:Cx) (kws:List Keyword) (t:TA):Prop:=
 ∀ (pos:Pos) (pins:List (Addr × Obj)) (s:Shared) (σ:St) (H:Hp) (Q:List V->Hp->Prop),Inv X pins σ H s->t σ H Q->wpAny (model X.prog X.w) X.A (evalAll ((backToKw pos (keywordEach kws X.env)).map (·.2))) (AP X pins σ Q) X.xe s
section
variable {X:Cx}{CX:CXT}{k:Nat}{f C:Addr}{fd:FuncData}{ps ks:List Str}{sp:Sp}{E:XK}{x m:Str}{p pos apos kpos:Pos}{e o:Expr}{es:List Expr}{kws:List Keyword}{te ta:TE}{t tk:TA}{nm:Option Str}
theorem amd:PK X [] akd:=fun _ _ _ _ H Q I h=>wpAny_evalAll_nil ⟨[],H,I,.nil,h⟩
theorem agk (ha:PE X e te) (hr:PK X kws t):PK X (⟨nm,e,kpos⟩::kws) (aeq te t):=by
 intro pos pins s σ H Q I h
 show wpAny _ _ (evalAll ((do let v ←eval e X.env; standAt pos; pure v)::(backToKw pos (keywordEach kws X.env)).map (·.2))) _ _ s
 refine wpAny_evalAll_cons (wpAny_bind (thn (ha pins s σ H _ I h) fun u s1 ⟨x,H1,I1,r1,q1⟩=>wpAny_bind (wpAny_standAt (wpAny_pure ?_))))
 exact thn (hr pos pins s1 σ H1 _ I1 q1) fun us s2 ⟨xs,H2,I2,r2,q2⟩=>⟨x::xs,H2,I2,.cons r1 r2,q2⟩
structure KBinds (K:PySem.W.Frag) (fd:FuncData) (ps ks:List Str) (g:List Value->List Value->List Value) (gV:List V->List V->List V):Prop where
 to:∀ (s:Shared) (us ws:List Value),K.In s.heap->(g us ws).length=ps.length->BindsTo s fd ⟨us,ks.zip ws⟩ (ps.zip (g us ws))
 rel:∀ {vs:List V} {us:List Value} {zs:List V} {ws:List Value},jC vs us->jC zs ws->jC (gV vs zs) (g us ws)
variable {g:List Value->List Value->List Value}{gV:List V->List V->List V}
end
structure FnScope (N P:List Str) (sc:Scope):Prop where
 kind:sc.kind= .function
 co:sc.isCoroutine=false
 gen:sc.isGenerator=false
 nd:N.Nodup
 pre:N.take P.length=P
 par:∀ x ∈ P,sc.names.lookup x=some .local ∨ sc.names.lookup x=some .cell
 nofree:∀ y ∈ sc.names,y.2 ≠ .free
theorem acD {kindOf:Str->Option NameKind}{x:Str}:∀ {binds:List (Str × Value)}{m:Str->Option Value},(∀ v,(x,v) ∉ binds)->bindL kindOf binds m x=m x
 | [],_,_=>rfl
 | (n,v)::r,m,h=>by
  unfold bindL
  rw [acD fun w hw=>h w (List.mem_cons_of_mem _ hw)]
  split
  ·have:x ≠ n:=by rintro rfl; exact h v List.mem_cons_self
   simp [this]
  ·rfl
theorem acE {kindOf:Str->Option NameKind}{x:Str}:∀ {binds:List (Str × Value)}{m:Str->Option Value},(∀ v,(x,v) ∉ binds)->bindC kindOf binds m x=m x
 | [],_,_=>rfl
 | (n,v)::r,m,h=>by
  unfold bindC
  rw [acE fun w hw=>h w (List.mem_cons_of_mem _ hw)]
  split
  ·rfl
  ·have:x ≠ n:=by rintro rfl; exact h v List.mem_cons_self
   simp [this]
theorem acF {kindOf:Str->Option NameKind}{x:Str}{v:Value}:∀ {P:List Str}{vs:List Value}{i:Nat}{m:Str->Option Value},P.Nodup->P[i]?=some x->vs[i]?=some v->kindOf x=some .local->
  bindL kindOf (P.zip vs) m x=some v
 | [],_,_,_,_,h,_,_=>by simp at h
 | _::_,[],_,_,_,_,h,_=>by simp at h
 | p::P,w::vs,0,m,nd,h1,h2,hk=>by
  simp at h1 h2; subst h1; subst h2
  show bindL kindOf ((p,w)::P.zip vs) m p=_
  unfold bindL
  rw [acD fun v hv=>(List.nodup_cons.mp nd).1 (List.of_mem_zip hv).1,if_pos hk]
  simp
 | p::P,w::vs,i+1,m,nd,h1,h2,hk=>by
  show bindL kindOf ((p,w)::P.zip vs) m x=_
  unfold bindL
  exact acF (i:=i) (List.nodup_cons.mp nd).2 (by simpa using h1) (by simpa using h2) hk
theorem acG {kindOf:Str->Option NameKind}{x:Str}{v:Value}:∀ {P:List Str}{vs:List Value}{i:Nat}{m:Str->Option Value},P.Nodup->P[i]?=some x->vs[i]?=some v->kindOf x ≠ some .local->
  bindC kindOf (P.zip vs) m x=some v
 | [],_,_,_,_,h,_,_=>by simp at h
 | _::_,[],_,_,_,_,h,_=>by simp at h
 | p::P,w::vs,0,m,nd,h1,h2,hk=>by
  simp at h1 h2; subst h1; subst h2
  show bindC kindOf ((p,w)::P.zip vs) m p=_
  unfold bindC
  rw [acE fun v hv=>(List.nodup_cons.mp nd).1 (List.of_mem_zip hv).1,if_neg hk]
  simp
 | p::P,w::vs,i+1,m,nd,h1,h2,hk=>by
  show bindC kindOf ((p,w)::P.zip vs) m x=_
  unfold bindC
  exact acG (i:=i) (List.nodup_cons.mp nd).2 (by simpa using h1) (by simpa using h2) hk
noncomputable def zl (N:List Str) (vs:List V):St:=vs.map some++List.replicate (N.length - vs.length) none
noncomputable def zY (CX:CXT) (P:Program) (w:World) (K:PySem.W.Frag) (mg:Str->Option Value) (base:Heap) (N:List Str) (qual:Str) (scope:Scope) (f:Addr) (cd:Value) (A:Around) (outer:List Env) (s:Shared) (H:Hp) (E:XK):Cx where
 prog:=P
 w:=w
 K:=K
 mg:=mg
 base:=base
 A:=A.deeper (envOfC qual scope s.heap.objs.size f cd)
 N:=N
 s₀:=s
 H₀:=H
 env:=envOfC qual scope s.heap.objs.size f cd
 outer:=outer
 stack:=envOfC qual scope s.heap.objs.size f cd::outer
 ex:=[]
 calm:=true
 fn:=fun _=>true
 pn:=[]
 xe:=fun e s'=>wpAny (model P w) (A.deeper (envOfC qual scope s.heap.objs.size f cd)) (leaving (envOfC qual scope s.heap.objs.size f cd) e) (fun _ s''=>CX outer H s E e s'') (fun e' s''=>CX outer H s E e' s'') s'
theorem aer {sc:Scope}{n:Nat}{x:Str} (h:sc.names.lookup x=some .cell):∃ c,(cellsFrom n sc.names []).lookup x=some c:=by
 have q:=PySem.W.cellsFrom_some sc.names n [] (.inl h)
 exact Option.isSome_iff_exists.mp q
theorem aah {CX:CXT}{P:Program}{w:World}{K:PySem.W.Frag}{mg:Str->Option Value}{base:Heap}{N ps:List Str}{qual:Str}{scope:Scope}{f:Addr}{cd:Value}{A:Around}{outer:List Env}{s s1:Shared}{H:Hp}{E:XK}{us:List Value}{vs:List V}
  (S:FnScope N ps scope) (hd:A.handled=none) (e0:Env0 P w K mg base A outer s H) (hl:vs.length=ps.length) (r:jC vs us)
  (x:InCallC s s.heap.objs.size (bindL (envOfC qual scope s.heap.objs.size f cd).kindOf (ps.zip us) fun _=>none) (cellsFrom (s.heap.objs.size+1) scope.names []) (bindC (envOfC qual scope s.heap.objs.size f cd).kindOf (ps.zip us) fun _=>none) s1):
  Inv (zY CX P w K mg base N qual scope f cd A outer s H E) [] (zl N vs) H s1:=by
 have hpl:ps.length<=N.length:=by have:=congrArg List.length S.pre; rw [List.length_take] at this; omega
 obtain ⟨h1,tk,rfl,hk⟩:=x.done
 have noA:∀ b:Addr,b ∉ (zY CX P w K mg base N qual scope f cd A outer s H E).ex:=fun b z=>absurd (show b ∈ ([]:List Addr) from z) (by simp)
 refine ⟨⟨e0.mod,S.kind,rfl,rfl,Nat.le_refl _,fun y z c h1 h2=>?_,fun y hy=>?_,fun y c _ h=>?_,fun _=>hd,Around.frames_deeper e0.frames,.inr ⟨rfl,rfl⟩,fun b z=>absurd z (noA b),e0.bs,e0.bsz,fun b _ _=>noA b,fun b z=>absurd z (noA b),e0.funs,e0.frf⟩,
  rfl,e0.bare,Un.kept hk,⟨_,x.toInCall.ns,fun i y v h1 h2 h3=>?_⟩,fun y c h=>⟨_,x.cell y c h⟩,e0.hok.fresh (Nat.le_refl _),fun y c h=>?_,fun p hp=>absurd (show p ∈ ([]:List (Addr × Obj)) from hp) (by simp),e0.hok.kept hk,?_⟩
 ·exact name_of_addr x.apart (PySem.mem_of_lookup h1) (PySem.mem_of_lookup h2)
 ·have hy:scope.names.lookup y=some .cell ∨ scope.names.lookup y=some .free:=hy
  rcases hy with hy | hy
  ·exact aer hy
  ·exact absurd rfl (S.nofree _ (PySem.mem_of_lookup hy))
 ·exact Nat.le_of_lt (x.above y c (PySem.mem_of_lookup h))
 ·have hi:i < vs.length:=by
   unfold zl at h2
   by_cases hi:i < vs.length
   ·exact hi
   ·rw [List.getElem?_append_right (by simpa using hi)] at h2
    rw [List.getElem?_replicate] at h2
    split at h2 <;> cases h2
  have ha:vs[i]?=some v:=by
   unfold zl at h2
   rw [List.getElem?_append_left (by simpa using hi),List.getElem?_map] at h2
   cases e:vs[i]? with
   | none=>rw [e] at h2; cases h2
   | some a=>rw [e] at h2; cases h2; rfl
  obtain ⟨u,hu,rv⟩:=r.get ha
  have hp:ps[i]?=some y:=by
   rw [←S.pre,List.getElem?_take_of_lt (by omega)]; exact h1
  have ndP:ps.Nodup:=by rw [←S.pre]; exact S.nd.sublist (List.take_sublist _ _)
  refine ⟨u,rv,?_⟩
  rcases S.par y (List.mem_of_getElem? hp) with k | k
  ·exact .inl ⟨k,acF ndP hp hu k⟩
  ·obtain ⟨c,e⟩:=aer (n:=s.heap.objs.size+1) k
   refine .inr ⟨.inl k,c,e,?_⟩
   have q:=x.cell y c e
   rw [acG ndP hp hu (by show scope.names.lookup y ≠ _; rw [k]; decide)] at q
   exact q
 ·exact e0.hok.fresh (Nat.le_of_lt (x.above y c (PySem.mem_of_lookup h)))
 ·unfold zl
  show _=N.length
  rw [List.length_append,List.length_map,List.length_replicate]
  omega
theorem anq {CX:CXT}{P:Program}{w:World}{K:PySem.W.Frag}{mg:Str->Option Value}{base:Heap}{k:Nat}{f:Addr}{name qual:Str}{params:Arguments}{body:List Stmt}{scope:Scope}{dV kV doc pm cdv ct oc:Value}{an od:Option Addr}
  {osl:Array (Option Value)} {N ps:List Str} {sp:Sp} (lk:K.lookup f=some ⟨oc,od,.func (PySem.W.fnOf name qual params body scope dV kV doc pm an cdv ct),osl⟩) (hcd:PySem.W.codeIn K cdv qual=true) (S:FnScope N ps scope)
  (len:∀ vs H Q E,sp vs H Q E->vs.length=ps.length)
  (hbody:∀ (A:Around) (outer:List Env) (s:Shared) (H:Hp) (vs:List V) (Q:VK) (E:XK),Room k (A.deeper (envOfC qual scope s.heap.objs.size f cdv))->sp vs H Q E->
   ∃ t,PSs (zY CX P w K mg base N qual scope f cdv A outer s H E) body t/\t { nx:=fun _ H'=>Q .non H',rt:=Q } (zl N vs) H):
  FnOk P w K mg base CX (k+1) f (PySem.W.fnOf name qual params body scope dV kV doc pm an cdv ct) ps sp:=by
 refine ⟨len,fun A outer s H args us vs Q E hr e0 hb r hsp=>?_⟩
 have hl:=len _ _ _ _ hsp
 have KX:K.In s.heap:=e0.mod.kin.keeps fun b o e=>(e0.bs b o e).1
 have lim:s.heap.NoLimit:=e0.mod.nolimit.keeps fun b o e=>(e0.bs b o e).1
 have hkind:∀ y ∈ ps.zip us,scope.names.lookup y.1=some .local ∨ (scope.names.lookup y.1=some .cell/\((cellsFrom (s.heap.objs.size+1) scope.names []).lookup y.1).isSome=true):=fun ⟨n,v⟩ hy=>by
  rcases S.par n (List.of_mem_zip hy).1 with q | q
  ·exact .inl q
  ·exact .inr ⟨q,PySem.W.cellsFrom_some _ _ _ (.inl q)⟩
 refine codeAny_call_function hr.depth (KX _ _ lk) rfl S.co S.gen rfl (PySem.W.codeRec_of KX hcd) (hb _ _ _ _ ?_)
 refine wpAny_newFunctionEnv_cells S.kind hkind fun env he s1 x=>?_
 subst he
 refine ⟨lim.keeps x.toInCall.keep,codeAny_func ?_⟩
 obtain ⟨t,ht,hq⟩:=hbody A outer s H vs Q E (hr.deeper _) hsp
 have I:Inv (zY CX P w K mg base N qual scope f cdv A outer s H E) [] (zl N vs) H s1:=aah S hr.hd e0 hl r x
 refine wpAny_mono (ht [] s1 (zl N vs) H _ I hq) (fun fl s' hs=>?_) fun e s' hs=>hs
 have fin:∀ {σ':St} {H':Hp} {v:V} {u:Value},Inv (zY CX P w K mg base N qual scope f cdv A outer s H E) [] σ' H' s'->jQ v u->Q v H'->CE outer P w H s Q u s':=
  fun {σ' H' v u} J rv q=>⟨v,H',J.os,J.bare,J.base,J.hok,rv,q⟩
 cases fl with
 | ret u=>
  obtain ⟨v,σ',H',J,rv,q⟩:=hs
  exact fin J rv q
 | next=>
  obtain ⟨σ',H',J,q⟩:=hs
  exact fin (v:=V.non) (u:=Value.none) J rfl q
 | brk=>
  obtain ⟨_,_,_,q⟩:=hs
  exact False.elim q
 | cont=>
  obtain ⟨_,_,_,q⟩:=hs
  exact False.elim q
end L2
namespace L2
open PySem PySem.Spec PyProof.Rows
section
variable {X:Cx}{x:Str}{p pos:Pos}{e:Expr}{es:List Expr}{t:TA}{id T:String}{r:List V->Hp->VK->Prop}
noncomputable def tCB (r:List V->Hp->VK->Prop) (t:TA):TE:=fun σ H Q=>t σ H fun vs H1=>r vs H1 Q
theorem ZA (hc:qX X (.builtin id) r) (hg:Gl X x) (hm:X.mg x=none) (hv:bootBuiltins x=some (.builtin id)) (ha:PA X (e::es) t) (hn:x ≠ "__name__":=by decide) (hdb:(x == ("__debug__":Str))=false:=by decide)
  (he:starEach (e::es) X.env=(false,eval e X.env)::starEach es X.env:=by rfl) (hpl:(backTo pos (starEach es X.env)).any (·.1)=false:=by rfl):PE X (.Call (.Name x p) (e::es) [] pos) (tCB r t):=by
 intro pins s σ H Q I h
 refine wpAny_Call_Name_kw (JT I hg hm hv ?_ hn hdb)
 exact PyProof.Rows.callWith_builtin1 (thn (ha pos pins s σ H _ I h) fun us s1 ⟨vs,H1,I1,r1,q1⟩=>hc pins s1 σ H1 vs us Q I1 r1 q1) he hpl
theorem ag2 (hc:qX X (.type T) r) (hg:Gl X x) (hm:X.mg x=none) (hv:bootBuiltins x=some (.type T)) (ha:PA X (e::es) t) (hn:x ≠ "__name__":=by decide) (hdb:(x == ("__debug__":Str))=false:=by decide)
  (he:starEach (e::es) X.env=(false,eval e X.env)::starEach es X.env:=by rfl) (hpl:(backTo pos (starEach es X.env)).any (·.1)=false:=by rfl):PE X (.Call (.Name x p) (e::es) [] pos) (tCB r t):=by
 intro pins s σ H Q I h
 refine wpAny_Call_Name_kw (JT I hg hm hv ?_ hn hdb)
 exact PyProof.Rows.callWith_type1 (thn (ha pos pins s σ H _ I h) fun us s1 ⟨vs,H1,I1,r1,q1⟩=>hc pins s1 σ H1 vs us Q I1 r1 q1) he hpl
end
end L2
namespace HT
open PySem PyProof.Rows
noncomputable def lexLt:List Int->List Int->Bool
 | [],[]=>false
 | [],_::_=>true
 | _::_,[]=>false
 | x::xs,y::ys=>if x=y then lexLt xs ys else decide (x < y)
theorem lexLt_cons (x y:Int) (xs ys:List Int):lexLt (x::xs) (y::ys)=if x=y then lexLt xs ys else decide (x < y):=rfl
theorem lexLt_nil_nil:lexLt [] []=false:=rfl
theorem abq (y:Int) (ys:List Int):lexLt [] (y::ys)=true:=rfl
theorem abr (x:Int) (xs:List Int):lexLt (x::xs) []=false:=rfl
theorem aii (A:Around) (s:Shared) (a:Int) (t:Tok) (c:Int) (u:Tok):∃ e,SeqAt.EqAt A s (.int a t) (.int c u) e/\(e=true ↔ a=c):=
 ⟨(a == c),SeqAt.EqAt.int_int a t c u,by simp⟩
theorem aij (A:Around) (s:Shared) (a:Int) (t:Tok) (c:Int) (u:Tok) (prog:Program) (w:World) (E:Value->Shared->Prop) (Q:Value->Shared->Prop) (h:Q (.bool (decide (a < c))) s):
  wpAny (model prog w) A (richCompare .Lt (.int a t) (.int c u)) Q E s:=
 (PyProof.Rows.lt_int h:wpAny (model prog w) A (compareOp .Lt (.int a t) (.int c u)) Q E s)
section
open PySem.SeqAt
open PySem.AutoSeq1 (wpAny_loadPart')
open PySem.MeetsSeq PySem.MeetsSeq2 PySem.MeetsSeq3
theorem acm (l b:Addr) (items items2:Array Value) (n n2:Nat) (dd dd2:Option Addr) (sl sl2:Array (Option Value)) (ns ms:List Int) (hi:IntsAre items.toList ns) (hj:IntsAre items2.toList ms):
  Meets (Builtin.«tuple.__lt__» ⟨[.ref l,.ref b],[]⟩)
   (fun _ R s=>s.heap.get? l=some { cls:= .type "tuple",dict:=dd,data:= .seq items n,slots:=sl }/\s.heap.get? b=some { cls:= .type "tuple",dict:=dd2,data:= .seq items2 n2,slots:=sl2 }/\
    R (.ok (.ret (.bool (lexLt ns ms)))) s):=
 .of_wp fun prog w A R s h=>by
  obtain ⟨hp,g,d,tk,os⟩:=s; obtain ⟨hl,hb,h⟩:=h
  have f2:=AutoSeq1.sub_tuple_tuple
  have z1:items.size=ns.length:=by rw [←hi.length]; simp
  have z2:items2.size=ms.length:=by rw [←hj.length]; simp
  wp_walk using wpAny_loadPart' hl,wpAny_loadPart' hb,wpAny_forIn_list _ (fun jT b s'=>b.1=none/\s'=⟨hp,g,d,tk,os⟩/\∃ (vs ws:List Value) (ns' ms':List Int),jT=vs.zip ws/\
   IntsAre vs ns'/\IntsAre ws ms'/\ns'.length+items2.size=ms'.length+items.size/\R (.ok (.ret (.bool (lexLt ns' ms')))) ⟨hp,g,d,tk,os⟩) _
  case turn=>
   rintro ⟨y,x⟩ jT b s' ⟨hb',rfl,vs,ws,ns',ms',hz,hvi,hwi,hlen,hR⟩
   cases hvi with
   | nil=>rw [List.zip_nil_left] at hz; cases hz
   | cons a t hvi'=>
    cases hwi with
    | nil=>rw [List.zip_nil_right] at hz; cases hz
    | cons c u hwi'=>
     rw [List.zip_cons_cons] at hz
     injection hz with hyx hrest
     injection hyx with hy hx
     subst hy hx
     rw [lexLt_cons] at hR
     simp only [List.length_cons] at hlen
     obtain ⟨e,he,hiff⟩:=aii A.in1 ⟨hp,g,d,tk,os⟩ a t c u
     refine wpAny_bind (he prog w _ _ ?_)
     cases e with
     | true=>
      rw [if_pos (hiff.mp rfl)] at hR
      wp_walk
      exact ⟨rfl,rfl,_,_,_,_,hrest,hvi',hwi',by omega,hR⟩
     | false=>
      rw [if_neg (fun q=>absurd (hiff.mpr q) Bool.false_ne_true)] at hR
      have hri:=aij A.in1 ⟨hp,g,d,tk,os⟩ a t c u prog w
      wp_walk using hri
      exact ⟨_,rfl,by simpa using hR⟩
  case fin=>
   rintro ⟨b1,b2⟩ s' ⟨hb',rfl,vs,ws,ns',ms',hz,hvi,hwi,hlen,hR⟩
   simp only at hb'
   subst hb'
   have hv:lexLt ns' ms'=decide (items.size < items2.size):=by
    cases hvi with
    | nil=>
     cases hwi with
     | nil=>
      simp only [List.length_nil] at hlen
      rw [lexLt_nil_nil]
      exact (decide_eq_false (by omega)).symm
     | cons c u hw=>
      simp only [List.length_nil,List.length_cons] at hlen
      rw [abq]
      exact (decide_eq_true (by omega)).symm
    | cons a t hv=>
     cases hwi with
     | nil=>
      simp only [List.length_nil,List.length_cons] at hlen
      rw [abr]
      exact (decide_eq_false (by omega)).symm
     | cons c u hw=>
      rw [List.zip_cons_cons] at hz
      cases hz
   rw [hv] at hR
   wp_walk
   exact ⟨_,rfl,by simpa [Builtin.Tuple.tupleCompareSizes] using hR⟩
  case h=>
   exact ⟨rfl,rfl,items.toList,items2.toList,ns,ms,rfl,hi,hj,by omega,h⟩
end
section
variable {prog:Program}{w:World}{A:Around}{E:Value->Shared->Prop}{s:Shared}
theorem lt_tupInts {l b:Addr}{items items2:Array Value}{ns ms:List Int}{Q:Value->Shared->Prop} (hl:IsTup s.heap l items) (hb:IsTup s.heap b items2) (hi:IntsAre items.toList ns) (hj:IntsAre items2.toList ms)
  (hu:A.units < cLine) (h:Q (.bool (lexLt ns ms)) s):wpAny (model prog w) A (compareOp .Lt (.ref l) (.ref b)) Q E s:=by
 obtain ⟨⟨cls,dd,data,sl⟩,ho,hc,n,hd⟩:=id hl
 obtain ⟨⟨cls2,dd2,data2,sl2⟩,ho2,hc2,n2,hd2⟩:=id hb
 simp only at hc hd hc2 hd2
 subst hc hd hc2 hd2
 exact richCompare_meets_room (op:= .Lt) ⟨_,ho,rfl⟩ ⟨_,ho2,rfl⟩ PySem.F.slot_tuple_lt PySem.F.entry_tuple_lt (PySem.F.args_tuple_lt_2 _ _) (acm l b items items2 n n2 dd dd2 sl sl2 ns ms hi hj)
  ⟨ho,ho2,show Value.bool (lexLt ns ms) ≠ Value.notImplemented/\Q (.bool (lexLt ns ms)) s from ⟨(fun x=>nomatch x),h⟩⟩ hu
theorem cat_tup {t b:Addr}{vs ws:List Value}{Q:Value->Shared->Prop} (ht:IsTup s.heap t vs.toArray) (hb:IsTup s.heap b ws.toArray) (hv:vs ≠ [])
  (h1:ws=[]->Q (.ref t) s) (h2:ws ≠ []->Q (.ref s.heap.objs.size) { s with heap:=s.heap.push { cls:= .type "tuple",data:= .seq (vs++ws).toArray } })
  (hsz:vs.length+ws.length<=sizeLine):wpAny (model prog w) A (binaryOp .Add (.ref t) (.ref b)) Q E s:=by
 obtain ⟨⟨cls,dd,data,sl⟩,ho,hc,n,hd⟩:=id ht
 obtain ⟨⟨cls2,dd2,data2,sl2⟩,ho2,hc2,n2,hd2⟩:=id hb
 simp only at hc hd hc2 hd2
 subst hc hd hc2 hd2
 have e:vs.toArray++ws.toArray=(vs++ws).toArray:=by simp
 by_cases hw:ws=[]
 ·exact concat_meets ⟨_,ho,rfl⟩ ⟨_,ho2,rfl⟩ noFill_tuple_add seq_tuple_add PySem.F.slot_tuple_add PySem.F.entry_tuple_add (PySem.F.args_tuple_add_2 _ _)
   (tuple_addW1 t b vs.toArray ws.toArray n n2 dd dd2 sl sl2 (by simpa using hv) (by simp [hw])) ⟨ho,ho2,h1 hw⟩
 ·refine concat_meets ⟨_,ho,rfl⟩ ⟨_,ho2,rfl⟩ noFill_tuple_add seq_tuple_add PySem.F.slot_tuple_add PySem.F.entry_tuple_add (PySem.F.args_tuple_add_2 _ _)
   (tuple_addW2 t b vs.toArray ws.toArray n n2 dd dd2 sl sl2 (by simpa using hv) (by simpa using hw) (by rw [List.size_toArray,List.size_toArray]; exact hsz)) ⟨ho,ho2,?_⟩
  rw [e]
  exact h2 hw
noncomputable def sIx (n d:Nat):Option Int->Nat
 | none=>d
 | some v=>if v < 0 then (v+(n:Int)).toNat else min v.toNat n
theorem sIx_none (n d:Nat):sIx n d none=d:=rfl
theorem sIx_nat (n d k:Nat):sIx n d (some (k:Int))=min k n:=by
 show (if (k:Int) < 0 then ((k:Int)+(n:Int)).toNat else min (k:Int).toNat n)=min k n
 rw [if_neg (by omega),Int.toNat_natCast]
theorem ame (n d:Nat) (hd:d<=n) (o:Option Int):sIx n d o<=n:=by
 cases o with
 | none=>exact hd
 | some v=>
  show (if v < 0 then (v+(n:Int)).toNat else min v.toNat n)<=n
  by_cases hv:v < 0
  ·rw [if_pos hv]; omega
  ·rw [if_neg hv]; exact Nat.min_le_right _ _
theorem agl (v:Int) (n d:Nat):(if v < 0 then max (v+(n:Int)) 0 else min v (n:Int))=((sIx n d (some v):Nat):Int):=by
 show (if v < 0 then max (v+(n:Int)) 0 else min v (n:Int))=(((if v < 0 then (v+(n:Int)).toNat else min v.toNat n):Nat):Int)
 by_cases hv:v < 0
 ·simp only [if_pos hv]; omega
 ·simp only [if_neg hv]; omega
theorem afz (lo hi:Option Int) (n:Nat):Builtin.Slice.sliceAdjust lo hi 1 (n:Int)=(((sIx n 0 lo:Nat):Int),((sIx n n hi:Nat):Int)):=by
 have h1:¬ ((1:Int) < 0):=by omega
 unfold Builtin.Slice.sliceAdjust
 simp only [h1,zzN]
 refine Prod.ext ?_ ?_
 ·cases lo with
  | none=>rfl
  | some v=>exact agl v n 0
 ·cases hi with
  | none=>rfl
  | some v=>exact agl v n n
theorem afA (i j:Nat):Builtin.Slice.slicePlaces (i:Int) (j:Int) 1=j - i:=by
 unfold Builtin.Slice.slicePlaces
 have h1:(1:Int) > 0:=by omega
 simp only [h1,zzM,Int.ediv_one]
 split <;> omega
theorem abt {v:Value}{o:Option Int}{Q:Option Int->Shared->Prop} (p:IsPart v o) (h:Q o s):wpAny (model prog w) A (Builtin.Slice.slicePartIndex v) Q E s:=by
 cases p with
 | none=>exact slicePart_none h
 | int i t=>exact slicePart_int h
theorem sliceApplied_gen {sl:Addr}{vl vu:Value}{lo hi:Option Int}{n:Nat}{Q:Int × Int × Nat->Shared->Prop} (hs:s.heap.IsSliceOf sl vl vu .none) (pl:IsPart vl lo) (pu:IsPart vu hi)
  (h:Q (((sIx n 0 lo:Nat):Int),1,sIx n n hi - sIx n 0 lo) s):wpAny (model prog w) A (Builtin.Slice.sliceApplied (.ref sl) (pure (n:Int))) Q E s:=by
 obtain ⟨os,hos,hcs,hds⟩:=id hs
 unfold Builtin.Slice.sliceApplied Builtin.Slice.sliceFields
 refine wpAny_bind (wpAny_bind (wpAny_field hos hds (x:=vl) rfl (wpAny_bind (wpAny_field hos hds (x:=vu) rfl (wpAny_bind (wpAny_field hos hds (x:= .none) rfl (wpAny_pure ?_)))))))
 refine wpAny_bind (slicePart_none ?_)
 show wpAny _ _ (if ((1:Int) == 0)=true then _ else _) _ _ s
 rw [if_neg (by decide)]
 refine wpAny_bind (abt pl (wpAny_bind (abt pu (wpAny_bind (wpAny_pure ?_)))))
 show wpAny _ _ (match Builtin.Slice.sliceAdjust lo hi 1 (n:Int) with | (lo,hi)=>pure (lo,(1:Int),Builtin.Slice.slicePlaces lo hi 1)) _ _ s
 rw [afz lo hi n]
 show wpAny _ _ (pure (((sIx n 0 lo:Nat):Int),(1:Int),Builtin.Slice.slicePlaces ((sIx n 0 lo:Nat):Int) ((sIx n n hi:Nat):Int) 1)) _ _ s
 rw [afA]
 exact wpAny_pure h
theorem aik (xs:Array Value) (i k:Nat):((List.range k).filterMap fun (m:Nat)=>xs[((i:Int)+(m:Int)*1).toNat]?).toArray=((xs.toList.drop i).take k).toArray:=by
 have e:(fun (m:Nat)=>xs[((i:Int)+(m:Int)*1).toNat]?)=fun m=>xs[i+m]?:=by
  funext m
  have:((i:Int)+(m:Int)*1).toNat=i+m:=by omega
  rw [this]
 rw [e]
 have:=pick_run xs i k
 rw [List.filterMap_map] at this
 have e2:((fun x=>xs[x]?) ∘ fun x=>i+x)=fun m=>xs[i+m]?:=rfl
 rw [e2] at this
 rw [this]
theorem getItem_tuple_cut {t sl:Addr}{items:Array Value}{vl vu:Value}{lo hi:Option Int}{Q:Value->Shared->Prop} (ht:IsTup s.heap t items) (hs:s.heap.IsSliceOf sl vl vu .none) (pl:IsPart vl lo) (pu:IsPart vu hi)
  (hw:¬ (sIx items.size 0 lo=0/\sIx items.size items.size hi=items.size))
  (h:Q (.ref s.heap.objs.size) { s with heap:=s.heap.push { cls:= .type "tuple",data:= .seq ((items.toList.drop (sIx items.size 0 lo)).take (sIx items.size items.size hi - sIx items.size 0 lo)).toArray } })
  (hsz:items.size<=sizeLine):wpAny (model prog w) A (getItem (.ref t) (.ref sl)) Q E s:=by
 have htake:sizeOk (.seq ((items.toList.drop (sIx items.size 0 lo)).take (sIx items.size items.size hi - sIx items.size 0 lo)).toArray):=by
  show ((items.toList.drop (sIx items.size 0 lo)).take (sIx items.size items.size hi - sIx items.size 0 lo)).toArray.size<=sizeLine
  rw [List.size_toArray,List.length_take,List.length_drop,Array.length_toList]
  omega
 have hj:sIx items.size items.size hi<=items.size:=ame _ _ (Nat.le_refl _) hi
 obtain ⟨os,hos,hcs,hds⟩:=id hs
 have hTs:s.TypeIs (.ref sl) "slice":=⟨os,hos,hcs⟩
 unfold getItem
 try with_reducible refine wpAny_holding ?_
 first | refine wpAny_bind (wpAny_pure ?_) | skip
 refine wpAny_bind (wpAny_sequenceKey ht.typeIs (by decide) ?_)
 refine wpAny_bind (wpAny_callSpecial?_slot (name:=Str.ofString "__getitem__") ht.typeIs PyProof.Rows.slot_tuple_getitem
  (wpAny_call_entry PyProof.Rows.slot_tuple_getitem ht.typeIs entry_tuple_getitem ?_ (args_tuple_getitem _ _)))
 show wpAny _ _ (Builtin.Tuple.tupleItemsOf (.ref t) >>= _) _ _ s
 refine wpAny_bind (tupleItemsOf_ ht ?_)
 refine wpAny_bind (wpAny_typeOf hTs ?_)
 rw [if_pos (by decide)]
 refine wpAny_bind (sliceApplied_gen hs pl pu ?_)
 have hno:¬ ((((sIx items.size 0 lo:Nat):Int) == 0 && (1:Int) == 1 && (sIx items.size items.size hi - sIx items.size 0 lo) == items.size)=true):=by
  intro q
  rw [Bool.and_eq_true,Bool.and_eq_true] at q
  have q1:((sIx items.size 0 lo:Nat):Int)=0:=eq_of_beq q.1.1
  have q2:sIx items.size items.size hi - sIx items.size 0 lo=items.size:=eq_of_beq q.2
  exact hw ⟨by omega,by omega⟩
 show wpAny _ _ (if (((sIx items.size 0 lo:Nat):Int) == 0 && (1:Int) == 1 && (sIx items.size items.size hi - sIx items.size 0 lo) == items.size)=true then _ else _) _ _ s
 rw [if_neg hno,aik]
 first
  | exact wpAny_bind (m:=Builtin.Tuple.tupleExact _) (wpAny_newObj_type (wpAny_pure ⟨_,rfl,wpAny_pure h⟩) htake)
  | exact wpAny_bind (m:=Builtin.Tuple.tupleExact _) (wpAny_newObj_type (wpAny_bind (wpAny_pure (wpAny_pure ⟨_,rfl,wpAny_pure h⟩))) htake)
  | exact wpAny_bind (wpAny_bind (m:=Builtin.Tuple.tupleExact _) (wpAny_newObj_type (wpAny_pure (wpAny_pure ⟨_,rfl,wpAny_pure h⟩)) htake))
  | exact wpAny_bind (wpAny_bind (m:=Builtin.Tuple.tupleExact _) (wpAny_newObj_type (wpAny_pure ⟨_,rfl,wpAny_pure h⟩) htake))
end
end HT
namespace L2
open PySem PySem.Spec PyProof.Rows
noncomputable abbrev TO:=St->Hp->(Option Int->Hp->Prop)->Prop
noncomputable def PO (X:Cx) (e:Option Expr) (t:TO):Prop:=
 ∀ (pins:List (Addr × Obj)) (s:Shared) (σ:St) (H:Hp) (Q:Option Int->Hp->Prop),Inv X pins σ H s->t σ H Q->
  wpAny (model X.prog X.w) X.A (evalPart e X.env) (fun u s'=>∃ o H',Inv X pins σ H' s'/\IsPart u o/\Q o H') X.xe s
noncomputable def akf:TO:=fun _ H Q=>Q none H
noncomputable def anr (t:TE):TO:=fun σ H Q=>t σ H fun x H1=>∃ i,x= .int i/\Q (some i) H1
section
variable {X:Cx}{e:Expr}{te:TE}{lo hi:Option Expr}{tl th:TO}{pos p2:Pos}
theorem akg:PO X none akf:=by
 intro pins s σ H Q I h
 rw [evalPart_none]
 exact wpAny_pure ⟨none,H,I,.none,h⟩
theorem adl (h:PE X e te):PO X (some e) (anr te):=by
 intro pins s σ H Q I hw
 rw [evalPart_some]
 refine thn (h pins s σ H _ I hw) fun u s1 ⟨x,H1,I1,r1,q1⟩=>?_
 obtain ⟨i,rfl,q⟩:=q1
 obtain ⟨t,rfl⟩:=r1
 exact ⟨some i,H1,I1,.int i t,q⟩
noncomputable def SlR (X:Cx) (r:V->Option Int->Option Int->Hp->VK->Prop):Prop:=
 ∀ (pins:List (Addr × Obj)) (s:Shared) (σ:St) (H:Hp) (x:V) (v vl vu:Value) (lo hi:Option Int) (sl:Addr) (Q:VK),Inv X pins σ H s->jQ x v->s.heap.IsSliceOf sl vl vu .none->IsPart vl lo->IsPart vu hi->r x lo hi H Q->
  ∃ T id,typeLookup (.type T) "__getitem__"=pure (some (.builtin id))/\s.TypeIs v T/\wpAny (model X.prog X.w) X.A (getItem v (.ref sl)) (EP X pins σ Q) X.xe s
theorem SlR.or {r r':V->Option Int->Option Int->Hp->VK->Prop} (h:SlR X r) (h':SlR X r'):SlR X (fun x lo hi H Q=>r x lo hi H Q ∨ r' x lo hi H Q):=by
 intro pins s σ H x v vl vu lo hi sl Q I rx hs pl pu q
 rcases q with q | q
 ·exact h pins s σ H x v vl vu lo hi sl Q I rx hs pl pu q
 ·exact h' pins s σ H x v vl vu lo hi sl Q I rx hs pl pu q
noncomputable def tSl (r:V->Option Int->Option Int->Hp->VK->Prop) (te:TE) (tl th:TO):TE:=fun σ H Q=>te σ H fun x H1=>tl σ H1 fun l H2=>th σ H2 fun u H3=>r x l u H3 Q
theorem aes {r:V->Option Int->Option Int->Hp->VK->Prop} (hr:SlR X r) (he:PE X e te) (hl:PO X lo tl) (hu:PO X hi th):PE X (.Subscript e (.Slice lo hi none p2) pos) (tSl r te tl th):=by
 intro pins s σ H Q I h
 refine Subscript_ (thn (he pins s σ H _ I h) fun v s1 ⟨x,H1,I1,r1,q1⟩=>?_)
 refine wpAny_Slice (thn (hl pins s1 σ H1 _ I1 q1) fun vl s2 ⟨l,H2,I2,pl,q2⟩=>thn (hu pins s2 σ H2 _ I2 q2) fun vu s3 ⟨u,H3,I3,pu,q3⟩=>?_)
 rw [evalPart_none]
 refine wpAny_pure ?_
 have I4:Inv X pins σ H3 { s3 with heap:=s3.heap.push { cls:= .type "slice",data:= .fields #[vl,vu,.none] } }:=I3.kept (t':=s3.toks) fun b ob q=>Heap.get?_push_of_some _ q
 obtain ⟨T,id,hT,ht,hg⟩:=hr pins { s3 with heap:=s3.heap.push { cls:= .type "slice",data:= .fields #[vl,vu,.none] } } σ H3 x v vl vu l u s3.heap.objs.size Q I4 r1 (Heap.IsSliceOf.new ..) pl pu q3
 show wpAny (model X.prog X.w) X.A (subscriptTail e (.Slice lo hi none p2) v (.ref s3.heap.objs.size)) (EP X pins σ Q) X.xe { s3 with heap:=s3.heap.push { cls:= .type "slice",data:= .fields #[vl,vu,.none] } }
 exact tail_any (ops:=[.ref s3.heap.objs.size,v]) ht hT hg (by with_unfolding_all rfl)
noncomputable def ZB (xs:List V) (lo hi:Option Int):List V:=(xs.drop (HT.sIx xs.length 0 lo)).take (HT.sIx xs.length xs.length hi - HT.sIx xs.length 0 lo)
theorem aaH (xs:List V) (lo hi:Option Int):(ZB xs lo hi).length<=xs.length:=by
 unfold ZB
 rw [List.length_take,List.length_drop]
 omega
noncomputable def ans (K:PySem.W.Frag):V->Option Int->Option Int->Hp->VK->Prop:=fun x lo hi H Q=>∃ a xs,x= .ref a/\SqT K H a xs/\
 ¬ (HT.sIx xs.length 0 lo=0/\HT.sIx xs.length xs.length hi=xs.length)/\∀ p,H p=none->Q (.ref p) (upd H p (.tup (ZB xs lo hi)))
theorem amf:SlR X (ans X.K):=by
 intro pins s σ H x v vl vu lo hi sl Q I rx hs pl pu h
 obtain ⟨a,xs,rfl,hx,hw,q⟩:=h
 cases rx
 obtain ⟨its,r,ht,hz⟩:=I.tuple hx
 have hlen:its.toArray.size=xs.length:=by rw [List.size_toArray]; exact r.length.symm
 refine ⟨"tuple",_,PyProof.Rows.slot_tuple_getitem.lookup,ht.typeIs,?_⟩
 refine HT.getItem_tuple_cut ht hs pl pu (by rw [hlen]; exact hw) ?_ (by rw [hlen]; exact hz)
 rw [hlen]
 refine ⟨.ref s.heap.objs.size,_,I.laid (t':=s.toks) (o:= .tup (ZB xs lo hi)) (fun b ob q=>Heap.get?_push_of_some _ q) (Nat.le_refl _) ?_,rfl,q _ (I.hok.fresh (Nat.le_refl _))⟩
 exact ⟨Nat.le_trans (aaH xs lo hi) hz,_,(r.drop (HT.sIx xs.length 0 lo)).take (HT.sIx xs.length xs.length hi - HT.sIx xs.length 0 lo),IsTup.new _ _⟩
noncomputable def ant (K:PySem.W.Frag):R2:=fun x y H Q=>∃ a b xs ys,x= .ref a/\y= .ref b/\SqT K H a xs/\SqT K H b ys/\xs ≠ []/\xs.length+ys.length<=sizeLine/\
 (ys=[]->Q (.ref a) H)/\(ys ≠ []->∀ p,H p=none->Q (.ref p) (upd H p (.tup (xs++ys))))
theorem jC.nil_iff {xs:List V}{us:List Value} (r:jC xs us):us=[] ↔ xs=[]:=by
 cases r with
 | nil=>simp
 | cons _ _=>simp
theorem akh:OpR X (binaryOp .Add) (ant X.K):=by
 intro pins s σ H x y v u Q I rx ry h
 obtain ⟨a,b,xs,ys,rfl,rfl,ha,hb,hx,hz,q1,q2⟩:=h
 cases rx
 cases ry
 obtain ⟨its,r1,p1,_⟩:=I.tuple ha
 obtain ⟨its2,r2,p2,_⟩:=I.tuple hb
 refine HT.cat_tup p1 p2 (fun z=>hx (r1.nil_iff.mp z)) (fun z=>⟨.ref a,H,I,rfl,q1 (r2.nil_iff.mp z)⟩) (fun z=>?_) (by rw [←r1.length,←r2.length]; exact hz)
 refine ⟨.ref s.heap.objs.size,_,I.laid (t':=s.toks) (o:= .tup (xs++ys)) (fun b ob q=>Heap.get?_push_of_some _ q) (Nat.le_refl _) ?_,rfl,q2 (fun w=>z (r2.nil_iff.mpr w)) _ (I.hok.fresh (Nat.le_refl _))⟩
 exact ⟨by rw [List.length_append]; exact hz,_,r1.append r2,IsTup.new _ _⟩
end
end L2
namespace L2
open PySem PySem.Spec PyProof.Rows
noncomputable def ixN (n:Nat) (i:Int):Option Nat:=if 0<=i then (if i < n then some i.toNat else none) else if -(n:Int)<=i then some (i+n).toNat else none
noncomputable def atI {α:Type} (xs:List α) (i:Int):Option α:=(ixN xs.length i).bind fun j=>xs[j]?
theorem aki {n:Nat}{i:Int}{j:Nat} (h:ixN n i=some j):seqIndex? i n=some j/\j < n/\-(n:Int)<=i/\i < n:=by
 unfold ixN at h
 by_cases h0:0<=i
 ·rw [if_pos h0] at h
  by_cases h1:i < n
  ·rw [if_pos h1] at h
   have e:i.toNat=j:=Option.some.inj h
   exact ⟨by rw [seqIndex_of h0 h1,e],by omega,by omega,h1⟩
  ·rw [if_neg h1] at h; cases h
 ·rw [if_neg h0] at h
  by_cases h1:-(n:Int)<=i
  ·rw [if_pos h1] at h
   have e:(i+n).toNat=j:=Option.some.inj h
   exact ⟨by rw [seqIndex_neg (by omega) h1,e],by omega,h1,by omega⟩
  ·rw [if_neg h1] at h; cases h
theorem agm {α:Type}{xs:List α}{i:Int}{v:α} (h:atI xs i=some v):∃ j,seqIndex? i xs.length=some j/\xs[j]?=some v/\j < xs.length/\-(xs.length:Int)<=i/\i < xs.length:=by
 unfold atI at h
 cases e:ixN xs.length i with
 | none=>rw [e] at h; cases h
 | some j=>
  rw [e] at h
  obtain ⟨h1,h2,h3,h4⟩:=aki e
  exact ⟨j,h1,h,h2,h3,h4⟩
noncomputable def agn (b:Expr):Prop:=∀ o i,subscripted b false o i=operate [o,i] (getItem o i)
noncomputable def IxR (X:Cx) (r:R2):Prop:=
 ∀ (value slice:Expr) (pins:List (Addr × Obj)) (s:Shared) (σ:St) (H:Hp) (x y:V) (v u:Value) (Q:VK),Inv X pins σ H s->jQ x v->jQ y u->r x y H Q->
  subscripted slice false v u=operate [v,u] (getItem v u)->wpAny (model X.prog X.w) X.A (subscriptTail value slice v u) (EP X pins σ Q) X.xe s
noncomputable def MtR (X:Cx) (id:String) (r:V->List V->Hp->VK->Prop):Prop:=
 ∀ (pins:List (Addr × Obj)) (s:Shared) (σ:St) (H:Hp) (x:V) (xs:List V) (v:Value) (us:List Value) (Q:VK),Inv X pins σ H s->jQ x v->jC xs us->r x xs H Q->
  wpAny (model X.prog X.w) X.A (call (.builtin id) (v::us)) (EP X pins σ Q) X.xe s
section
variable {X:Cx}{a b:Expr}{ta tb:TE}{pos:Pos}
theorem IxR.or {r r':R2} (h:IxR X r) (h':IxR X r'):IxR X (fun x y H Q=>r x y H Q ∨ r' x y H Q):=by
 intro value slice pins s σ H x y v u Q I rx ry q hs
 rcases q with q | q
 ·exact h value slice pins s σ H x y v u Q I rx ry q hs
 ·exact h' value slice pins s σ H x y v u Q I rx ry q hs
theorem MtR.or {id:String}{r r':V->List V->Hp->VK->Prop} (h:MtR X id r) (h':MtR X id r'):MtR X id (fun x xs H Q=>r x xs H Q ∨ r' x xs H Q):=by
 intro pins s σ H x xs v us Q I rx rs q
 rcases q with q | q
 ·exact h pins s σ H x xs v us Q I rx rs q
 ·exact h' pins s σ H x xs v us Q I rx rs q
theorem anu {r:R2} (hr:IxR X r) (ha:PE X a ta) (hb:PE X b tb) (hs:agn b):PE X (.Subscript a b pos) (tOp r ta tb):=by
 intro pins s σ H Q I h
 exact Subscript_ (al2 ha hb I h fun v u s2 x y H2 I2 rx ry q=>hr a b pins s2 σ H2 x y v u Q I2 rx ry q (hs _ _))
noncomputable def aoq (K:PySem.W.Frag):R2:=fun x y H Q=>∃ p xs i v,x= .ref p/\y= .int i/\SqL K H p xs/\atI xs i=some v/\Q v H
noncomputable def aor (K:PySem.W.Frag):R2:=fun x y H Q=>∃ p xs i v,x= .ref p/\y= .int i/\SqT K H p xs/\atI xs i=some v/\Q v H
theorem akj:IxR X (aoq X.K):=by
 intro value slice pins s σ H x y v u Q I rx ry h hs
 obtain ⟨p,xs,i,z,rfl,rfl,hq,he,q⟩:=h
 cases rx
 obtain ⟨t,rfl⟩:=ry
 obtain ⟨its,r,pl,hz⟩:=I.list hq
 obtain ⟨j,h1,h2,h3,h4,h5⟩:=agm he
 obtain ⟨w,ew,rw'⟩:=r.get h2
 have hl:=r.length
 have hn:=aag
 have fin:EP X pins σ Q w s:=⟨z,H,I,rw',q⟩
 by_cases h0:0<=i
 ·have hj:i.toNat=j:=by
   rw [seqIndex_of h0 h5] at h1
   exact Option.some.inj h1
  exact item_listR pl.isList h0 (by omega) (by rw [hj]; simpa using ew) fin hs
 ·have hj:(i+(its.toArray.size:Int)).toNat=j:=by
   rw [seqIndex_neg (by omega) h4] at h1
   rw [List.size_toArray,←hl]
   exact Option.some.inj h1
  exact subscriptTail_builtinR (x:=w) pl.isList.typeIs slot_list_getitem.lookup
   (wpAny_getItem_list_neg (Q:=fun r s'=>r=w/\EP X pins σ Q r s') pl.isList (by omega) (by rw [List.size_toArray] <;> omega) (by omega) (by rw [hj]; simpa using ew) ⟨rfl,fin⟩) hs
theorem amg:IxR X (aor X.K):=by
 intro value slice pins s σ H x y v u Q I rx ry h hs
 obtain ⟨p,xs,i,z,rfl,rfl,hq,he,q⟩:=h
 cases rx
 obtain ⟨t,rfl⟩:=ry
 obtain ⟨its,r,pl,hz⟩:=I.tuple hq
 obtain ⟨j,h1,h2,h3,h4,h5⟩:=agm he
 obtain ⟨w,ew,rw'⟩:=r.get h2
 have hl:=r.length
 have hn:=aag
 have fin:EP X pins σ Q w s:=⟨z,H,I,rw',q⟩
 exact subscriptTail_builtinR (x:=w) pl.typeIs slot_tuple_getitem.lookup
  (getItem_tuple (j:=j) (Q:=fun r s'=>r=w/\EP X pins σ Q r s') pl (by omega) (by omega) (by rw [List.size_toArray,←hl]; exact h1) (by simpa using ew) ⟨rfl,fin⟩) hs
theorem Inv.lst {pins:List (Addr × Obj)}{σ:St}{H:Hp}{s:Shared}{p:Addr}{xs:List V} (I:Inv X pins σ H s) (h:H p=some (.lst xs)):
  ∃ (its:List Value) (n:Nat),jC xs its/\s.heap.get? p=some { cls:= .type "list",data:= .seq its.toArray n }/\xs.length<=sizeLine:=by
 obtain ⟨z,its,n,r,e⟩:=I.hok p _ h
 exact ⟨its,n,r,e,z⟩
theorem adm (lo hi:Option Int) (n:Nat):(sliceBounds lo hi none n).1=((HT.sIx n 0 lo:Nat):Int)/\(sliceBounds lo hi none n).2.1=((HT.sIx n n hi:Nat):Int)/\(sliceBounds lo hi none n).2.2=1:=by
 refine ⟨?_,?_,rfl⟩
 ·cases lo with
  | none=>simp [sliceBounds,HT.sIx]
  | some i=>
   simp only [sliceBounds,HT.sIx,Option.getD_none,show (1:Int) > 0 by decide,zzM]
   by_cases h:i < 0
   ·simp only [h,zzM] <;> omega
   ·simp only [h,zzN] <;> omega
 ·cases hi with
  | none=>simp [sliceBounds,HT.sIx]
  | some i=>
   simp only [sliceBounds,HT.sIx,Option.getD_none,show (1:Int) > 0 by decide,zzM]
   by_cases h:i < 0
   ·simp only [h,zzM] <;> omega
   ·simp only [h,zzN] <;> omega
theorem acn (its:List Value) (lo hi:Option Int):slicePick its.toArray lo hi none=((its.drop (HT.sIx its.length 0 lo)).take (HT.sIx its.length its.length hi - HT.sIx its.length 0 lo)).toArray:=by
 obtain ⟨h1,h2,h3⟩:=adm lo hi its.toArray.size
 unfold slicePick
 rw [h1,h2,h3]
 simp only [sliceRange_one,pick_run,List.size_toArray] <;> rfl
noncomputable def aos (K:PySem.W.Frag):V->Option Int->Option Int->Hp->VK->Prop:=fun x lo hi H Q=>∃ a xs,x= .ref a/\SqL K H a xs/\∀ p,H p=none->Q (.ref p) (upd H p (.lst (ZB xs lo hi)))
theorem akk:SlR X (aos X.K):=by
 intro pins s σ H x v vl vu lo hi sl Q I rx hs pl pu h
 obtain ⟨a,xs,rfl,hx,q⟩:=h
 cases rx
 obtain ⟨its,r,ht,hz⟩:=I.list hx
 have hlen:=r.length
 refine ⟨"list",_,slot_list_getitem.lookup,ht.isList.typeIs,?_⟩
 refine wpAny_getItem_list_slice ht.isList hs pl pu .none (by simp) ?_ (by rw [List.size_toArray] <;> omega)
 rw [acn,←hlen]
 refine ⟨.ref s.heap.objs.size,_,I.laid (t':=s.toks) (o:= .lst (ZB xs lo hi)) (fun b ob q=>Heap.get?_push_of_some _ q) (Nat.le_refl _) ?_,rfl,q _ (I.hok.fresh (Nat.le_refl _))⟩
 exact ⟨Nat.le_trans (aaH xs lo hi) hz,_,0,(r.drop (HT.sIx xs.length 0 lo)).take (HT.sIx xs.length xs.length hi - HT.sIx xs.length 0 lo),Heap.get?_push_size _ rfl⟩
theorem adn:qX X (.builtin "len") (fun xs H Q=>∃ p ys,xs=[.ref p]/\(SqL X.K H p ys ∨ SqT X.K H p ys)/\Q (.int ys.length) H):=by
 intro pins s σ H xs us Q I r h
 obtain ⟨p,ys,rfl,hq,q⟩:=h
 obtain ⟨u,rfl,rx⟩:=aaG r
 cases rx
 have hn:=aag
 rcases hq with hq | hq
 ·obtain ⟨its,r',pl,hz⟩:=I.list hq
  have hlen:=r'.length
  exact Calls.call_len_list pl.isList (by simp only [List.size_toArray] <;> omega) ⟨.int ys.length,H,I.tok _,⟨s.toks+1,by rw [List.size_toArray,hlen]⟩,q⟩
 ·obtain ⟨its,r',pl,hz⟩:=I.tuple hq
  have hlen:=r'.length
  exact len_tuple pl (by simp only [List.size_toArray] <;> omega) ⟨.int ys.length,H,I.tok _,⟨s.toks+1,by rw [List.size_toArray,hlen]⟩,q⟩
theorem qX.or {f:Value}{r r':List V->Hp->VK->Prop} (h:qX X f r) (h':qX X f r'):qX X f (fun xs H Q=>r xs H Q ∨ r' xs H Q):=by
 intro pins s σ H xs us Q I rs q
 rcases q with q | q
 ·exact h pins s σ H xs us Q I rs q
 ·exact h' pins s σ H xs us Q I rs q
theorem aco:qX X (.type "tuple") (fun xs H Q=>∃ p ys,xs=[.ref p]/\((SqL X.K H p ys/\∀ l,H l=none->Q (.ref l) (upd H l (.tup ys))) ∨ (SqT X.K H p ys/\Q (.ref p) H))):=by
 intro pins s σ H xs us Q I r h
 obtain ⟨p,ys,rfl,h⟩:=h
 obtain ⟨u,rfl,rx⟩:=aaG r
 cases rx
 rcases h with ⟨hq,q⟩ | ⟨hq,q⟩
 ·obtain ⟨its,r',pl,hz⟩:=I.list hq
  have hlen:=r'.length
  refine call_tuple_list pl.isList (fun h' kp=>?_) (by simp only [List.size_toArray] <;> omega)
  have I1:Inv X pins σ H { s with heap:=h' }:=I.kept (t':=s.toks) kp
  have I2:Inv X pins σ (upd H h'.objs.size (.tup ys)) { s with heap:=h'.push { cls:= .type "tuple",data:= .seq its.toArray } }:=
   I1.laid (t':=s.toks) (fun b o e=>Heap.get?_push_of_some _ e) (Nat.le_refl _) (show qO X.prog X.w _ _ _ (.tup ys) from ⟨hz,its,r',IsTup.new _ _⟩)
  exact ⟨.ref h'.objs.size,_,I2,rfl,q _ (I1.hok.fresh (Nat.le_refl _))⟩
 ·obtain ⟨its,r',pl,hz⟩:=I.tuple hq
  exact call_tuple_same pl ⟨.ref p,H,I,rfl,q⟩
noncomputable def tyV (K:PySem.W.Frag) (T:String) (x:V) (H:Hp):Prop:=match x with
 | .str _=>T="str"
 | .int _=>T="int"
 | .ref p=>(T="list"/\∃ xs,SqL K H p xs) ∨ (T="tuple"/\∃ o,K.lookup p=some o/\o.cls= .type "tuple"/\o.dict=none) ∨
   (T="dict"/\((∃ kvs,H p=some (.dK kvs)) ∨ ∃ kvs,H p=some (.dT kvs))) ∨ (T="set"/\∃ S n,H p=some (.set S n))
 | _=>False
theorem amh {pins:List (Addr × Obj)}{σ:St}{H:Hp}{s:Shared}{T:String}{x:V}{v:Value} (I:Inv X pins σ H s) (r:jQ x v) (ty:tyV X.K T x H):
  s.TypeIs v T/\∀ a,v= .ref a->∃ ob,s.heap.get? a=some ob/\ob.dict=none:=by
 cases x with
 | str z=>
  obtain ⟨t,rfl⟩:=r
  cases (show T="str" from ty)
  exact ⟨typeIs_str s z t,fun _ e=>nomatch e⟩
 | int i=>
  obtain ⟨t,rfl⟩:=r
  cases (show T="int" from ty)
  exact ⟨typeIs_int s i t,fun _ e=>nomatch e⟩
 | ref p=>
  cases r
  rcases ty with ⟨rfl,xs,hq⟩ | ⟨rfl,o,hk,hc,hd⟩ | ⟨rfl,hk⟩ | ⟨rfl,S,n,hk⟩
  ·obtain ⟨its,_,pl,_⟩:=I.list hq
   refine ⟨pl.isList.typeIs,fun a e=>?_⟩
   cases e
   obtain ⟨o,n,e,c,hd,_⟩:=pl
   exact ⟨o,e,hd⟩
  ·refine ⟨⟨o,I.kIn p o hk,hc⟩,fun a e=>?_⟩
   cases e
   exact ⟨o,I.kIn _ o hk,hd⟩
  ·have z:∃ o,s.heap.get? p=some o/\o.ExactDict:=by
    rcases hk with ⟨kvs,hk⟩ | ⟨kvs,hk⟩
    ·obtain ⟨_,_,_,_,o,_,_,e,ex,_⟩:=I.hok p _ hk
     exact ⟨o,e,ex⟩
    ·obtain ⟨_,_,_,_,o,_,_,e,ex,_⟩:=I.hok p _ hk
     exact ⟨o,e,ex⟩
   obtain ⟨o,e,ex⟩:=z
   refine ⟨⟨o,e,ex.1⟩,fun a e2=>?_⟩
   cases e2
   exact ⟨o,e,ex.2.1⟩
  ·obtain ⟨o,_,_,_,e,ex,_⟩:=I.hok p _ hk
   refine ⟨⟨o,e,ex.1⟩,fun a e2=>?_⟩
   cases e2
   exact ⟨o,e,ex.2.1⟩
 | _=>exact False.elim ty
noncomputable def tBM (K:PySem.W.Frag) (T:String) (r:V->List V->Hp->VK->Prop) (to:TE) (t:TA):TE:=fun σ H Q=>to σ H fun x H1=>tyV K T x H1/\t σ H1 fun xs H2=>r x xs H2 Q
variable {o e:Expr}{es:List Expr}{to:TE}{t:TA}{name:Str}{apos cpos:Pos}{T id:String}{r:V->List V->Hp->VK->Prop}
theorem acH (pa:PlainAttrs T) (slot:Slot T name id) (hty:typeOf (.builtin id)=pure (.type "method_descriptor")) (hm:MtR X id r) (ho:PE X o to) (ha:PA X (e::es) t)
  (hbase:attributeBase o name X.env (eval o X.env)=eval o X.env:=by rfl)
  (hfew:((backTo cpos (starEach (e::es) X.env)).all (fun x=>!x.1) && (backToKw cpos (keywordEach [] X.env)).all (fun x=>x.1.isSome)
   && decide ((e::es).length+([]:List Keyword).length+(if ([]:List Keyword).isEmpty then 0 else 1) < 30))=true:=by rfl)
  (hline:(apos.endLine == cpos.line)=true:=by rfl) (hs:starEach (e::es) X.env=(false,eval e X.env)::starEach es X.env:=by rfl) (hplain:(backTo cpos (starEach es X.env)).any (·.1)=false:=by rfl):
  PE X (.Call (.Attribute o name apos) (e::es) [] cpos) (tBM X.K T r to t):=by
 intro pins s σ H Q I h
 refine wpAny_Call_method_late hbase hfew hline rfl (thn (ho pins s σ H _ I h) fun v s1 ⟨x,H1,I1,r1,ty,q1⟩=>?_)
 obtain ⟨h1,h2⟩:=amh I1 r1 ty
 refine ⟨T,id,pa,slot,hty,h1,h2,?_⟩
 have hA:=ha cpos pins s1 σ H1 _ I1 q1
 rw [hs] at hA ⊢
 refine Calls.callWith_builtin (by show (false || (backTo cpos (starEach es X.env)).any (·.1))=false; rw [hplain] <;> rfl) (Calls.evalArgs_plain ?_)
 exact thn hA fun us s2 ⟨vs,H2,I2,r2,q2⟩=>hm pins s2 σ H2 x vs v us Q I2 r1 r2 q2
end
end L2
namespace L2
open PySem PySem.Spec PyProof.Rows
noncomputable def MtM (X:Cx) (id:String) (r:V->List V->Hp->VK->Prop):Prop:=
 ∀ (pins:List (Addr × Obj)) (s:Shared) (σ:St) (H:Hp) (x:V) (xs:List V) (v:Value) (us:List Value) (Q:VK),Inv X pins σ H s->jQ x v->jC xs us->r x xs H Q->
  wpAny (model X.prog X.w) X.A (call (.builtin id) (v::us)) (EP X pins σ Q) X.xe s
theorem jC.one:∀ {x:V}{us:List Value},jC [x] us->∃ u,us=[u]/\jQ x u
 | _,_,.cons r .nil=>⟨_,rfl,r⟩
theorem jC.two:∀ {x y:V}{us:List Value},jC [x,y] us->∃ u v,us=[u,v]/\jQ x u/\jQ y v
 | _,_,_,.cons r (.cons q .nil)=>⟨_,_,rfl,r,q⟩
theorem jC.zero:∀ {us:List Value},jC [] us->us=[]
 | _,.nil=>rfl
theorem jC.reverse {xs:List V}{us:List Value} (h:jC xs us):jC xs.reverse us.reverse:=by
 induction h with
 | nil=>exact .nil
 | cons r t ih=>rw [List.reverse_cons,List.reverse_cons]; exact jC.append ih (.cons r .nil)
theorem jC.rep {xs:List V}{us:List Value} (h:jC xs us):∀ k:Nat,jC (List.replicate k xs).flatten (List.replicate k us).flatten
 | 0=> .nil
 | k+1=>by
  rw [List.replicate_succ,List.replicate_succ,List.flatten_cons,List.flatten_cons]
  exact jC.append h (jC.rep h k)
theorem acI (its:List Value):∀ (k:Nat) (acc:List Value),
  List.foldl (fun x1 x2=>x1++x2) acc.toArray (List.replicate k its.toArray)=(acc++(List.replicate k its).flatten).toArray
 | 0,acc=>by simp
 | k+1,acc=>by
  have e:acc.toArray++its.toArray=(acc++its).toArray:=by simp
  have e2:(acc++its)++(List.replicate k its).flatten=acc++(List.replicate (k+1) its).flatten:=by
   rw [List.replicate_succ,List.flatten_cons,List.append_assoc]
  rw [←e2,←acI its k (acc++its),←e,List.replicate_succ,List.foldl_cons]
section
variable {X:Cx}{pins:List (Addr × Obj)}{σ:St}{H:Hp}{s:Shared}{l b:Addr}{xs ys zs:List V}
theorem Inv.lset {its its':List Value}{n:Nat}{f:Array Value->Array Value}{t':Nat} (I:Inv X pins σ H s) (hH:H l=some (.lst xs))
  (e:s.heap.get? l=some { cls:= .type "list",data:= .seq its.toArray n }) (hf:f its.toArray=its'.toArray) (hv:jC ys its') (hz:ys.length<=sizeLine):
  Inv X pins σ (upd H l (.lst ys)) { s with heap:=s.heap.update l (Obj.mapSeq f),toks:=t' }:=by
 have q:=PySem.IsL.update e f
 rw [hf] at q
 refine I.write (x:=l) (e:=l) (by rw [hH]; exact trivial) (.inl rfl) (fun b' u hb hu=>(Heap.get?_update_other s.heap (Obj.mapSeq f) (Ne.symm hb)).trans hu) ⟨_,q⟩ ?_
 exact ⟨hz,its',_,hv,q⟩
theorem Inv.lnew {its:List Value}{t':Nat} (I:Inv X pins σ H s) (hv:jC ys its) (hz:ys.length<=sizeLine):
  Inv X pins σ (upd H s.heap.objs.size (.lst ys)) { s with heap:=s.heap.push { cls:= .type "list",data:= .seq its.toArray },toks:=t' }:=
 I.laid (fun _ _ q=>Heap.get?_push_of_some _ q) (Nat.le_refl _) ⟨hz,its,0,hv,Heap.get?_push_size _ rfl⟩
theorem Inv.fresh (I:Inv X pins σ H s):H s.heap.objs.size=none:=I.hok.fresh (Nat.le_refl _)
theorem Inv.lstM (I:Inv X pins σ H s) (hH:H l=some (.lst xs)):xs.length<=sizeLine/\∃ (its:List Value) (n:Nat),jC xs its/\xs.length=its.length/\s.heap.get? l=some { cls:= .type "list",data:= .seq its.toArray n }:=by
 obtain ⟨z,its,n,r,e⟩:=I.hok l _ hH
 exact ⟨z,its,n,r,r.length,e⟩
theorem ail {n:Nat} (h:n<=sizeLine):Builtin.List.listTooLong n=false:=by
 unfold Builtin.List.listTooLong
 exact decide_eq_false (by omega)
end
section
variable {X:Cx}
noncomputable def akl:V->List V->Hp->VK->Prop:=fun x vs H Q=>∃ l xs y,x= .ref l/\vs=[y]/\H l=some (.lst xs)/\xs.length < sizeLine/\Q .non (upd H l (.lst (xs++[y])))
theorem acJ:MtM X "list.append" akl:=by
 intro pins s σ H x vs v us Q I rx rv h
 obtain ⟨l,xs,y,rfl,rfl,hH,hz,q⟩:=h
 cases rx
 obtain ⟨u,rfl,ru⟩:=rv.one
 obtain ⟨z,its,n,r,hl,e⟩:=I.lstM hH
 refine call_meets F.slot_list_append ⟨_,e,rfl⟩ F.entry_list_append (F.args_list_append_2 _ _) (PySem.list_append l its.toArray n u (by rw [List.size_toArray]; omega)) ⟨e,?_⟩
 refine ⟨.non,_,I.lset (its':=its++[u]) hH e (by simp) (r.append (.cons ru .nil)) ?_,rfl,q⟩
 rw [List.length_append,List.length_singleton]
 omega
noncomputable def aot:R2:=fun x y H Q=>∃ l b xs zs,x= .ref l/\y= .ref b/\H l=some (.lst xs)/\H b=some (.lst zs)/\xs.length+zs.length<=sizeLine/\∀ p,H p=none->Q (.ref p) (upd H p (.lst (xs++zs)))
theorem ami:OpR X (binaryOp .Add) aot:=by
 intro pins s σ H x y v u Q I rx ry h
 obtain ⟨l,b,xs,zs,rfl,rfl,hH,hB,hz,q⟩:=h
 cases rx
 cases ry
 obtain ⟨z,its,n,r,hl,e⟩:=I.lstM hH
 obtain ⟨z2,its2,n2,r2,hl2,e2⟩:=I.lstM hB
 refine PySem.P.add_list e e2 ?_ (by rw [List.size_toArray,List.size_toArray]; omega)
 have ea:its.toArray++its2.toArray=(its++its2).toArray:=by simp
 rw [ea]
 exact ⟨.ref _,_,I.lnew (t':=s.toks) (r.append r2) (by rw [List.length_append]; omega),rfl,q _ I.fresh⟩
noncomputable def aou:R2:=fun x y H Q=>∃ l k xs,x= .ref l/\y= .int k/\H l=some (.lst xs)/\-(2 ^ 63)<=k/\k < 2 ^ 63/\xs.length*k.toNat<=sizeLine/\
 ∀ p,H p=none->Q (.ref p) (upd H p (.lst (List.replicate k.toNat xs).flatten))
theorem akm {α:Type} (xs:List α) (k:Nat):(List.replicate k xs).flatten.length=k*xs.length:=by
 induction k with
 | zero=>simp
 | succ k ih=>rw [List.replicate_succ,List.flatten_cons,List.length_append,ih,Nat.succ_mul,Nat.add_comm]
theorem aim:OpR X (binaryOp .Mult) aou:=by
 intro pins s σ H x y v u Q I rx ry h
 obtain ⟨l,k,xs,rfl,rfl,hH,h1,h2,hz,q⟩:=h
 cases rx
 obtain ⟨t,rfl⟩:=ry
 obtain ⟨z,its,n,r,hl,e⟩:=I.lstM hH
 have hlen:its.toArray.size*k.toNat<=sizeLine:=by rw [List.size_toArray,←hl]; exact hz
 have hcap:¬ its.toArray.size*k.toNat > (2 ^ 63 - 1) / 8:=by
  have:(sizeLine:Nat)<=(2 ^ 63 - 1) / 8:=by decide
  omega
 have hfit:¬ (!Builtin.List.listFitsIndex k)=true:=by
  rw [fitsIndex_both h1 h2]
  exact Bool.false_ne_true
 have hlong:¬ Builtin.List.listTooLong (its.toArray.size*k.toNat)=true:=by
  rw [ail hlen]
  exact Bool.false_ne_true
 have hnew:List.foldl (fun x1 x2=>x1++x2) #[] (List.replicate (if its.toArray.isEmpty=true then 0 else k.toNat) its.toArray)=(List.replicate k.toNat its).flatten.toArray:=by
  have f0:∀ m:Nat,List.foldl (fun x1 x2=>x1++x2) #[] (List.replicate m its.toArray)=(List.replicate m its).flatten.toArray:=fun m=>by
   have:=acI its m []
   rw [List.nil_append] at this
   exact this
  rw [f0]
  cases its with
  | nil=>simp
  | cons a r'=>rw [if_neg (by simp)]
 refine wpAny_binaryOp_repeat_ref (T:="list") (U:="int") (by decide) ⟨_,e,rfl⟩ (fun s'=>typeIs_int s' k t) noFill_list_mul F.fills_int_mul F.slot_int_rmul repeat_list F.slot_int_index.lookup
  (call_meets F.slot_int_rmul (typeIs_int s k t) F.entry_int_rmul (F.args_int_rmul_2 _ _) (int___rmul___int_list k t l its.toArray n)
   ⟨e,rfl,⟨_,e,rfl⟩,call_meets F.slot_list_mul ⟨_,e,rfl⟩ F.entry_list_mul (F.args_list_mul_2 _ _) (AutoListH.list___mul___list_int_3 l its.toArray n k t hfit hcap hlong) ⟨e,?_⟩⟩)
 rw [hnew]
 exact ⟨.ref _,_,I.lnew (t':=s.toks) (r.rep k.toNat) (by rw [akm,Nat.mul_comm]; exact hz),rfl,q _ I.fresh⟩
end
section
variable {prog:Program}{w:World}{A:Around}{E:Value->Shared->Prop}{s:Shared}
set_option maxRecDepth 100000 in
end
section
variable {X:Cx}
end
end L2
namespace Att
open PySem PySem.W PySem.Calls PyProof.Rows
theorem aaU {P:Params}{h:Heap}:∀ (ns:List Int) (vs:List Value),WellAll P h vs (ns.map WData.int)->IntsAre vs ns:=by
 intro ns
 induction ns with
 | nil=>
  intro vs w
  rw [List.map_nil] at w
  cases w
  exact .nil
 | cons n ns ih=>
  intro vs w
  rw [List.map_cons] at w
  cases w with
  | cons a b=>
   cases a
   exact .cons _ _ (ih _ b)
theorem ag3 {l:OpenLaw}{n:Nat} (hn:l.most=some n) {P:Params}{h:Heap}{args:List WData}{vals:List Value}
  (hpre:l.row.toRowW.claim.pre args=true) (hwl:WellAll P h vals args):
  ∃ a vs ns,vals=[Value.ref a]/\args=[WData.list (ns.map WData.int)]/\h.get? a=some { cls:= .type "list",data:= .seq vs.toArray }/\IntsAre vs ns/\ns.length<=n:=by
 have hsh:WShape.hasAll [] args [.list .int]=true:=(pre_splitW hpre).1
 have hc:l.pre.holds [] { args:=args }=true:=(pre_splitW hpre).2
 obtain ⟨d,r,rfl,h1,h2⟩:=hasAllW_cons hsh
 obtain rfl:=hasAllW_nil h2
 obtain ⟨xs,rfl,h3⟩:=hasW_list h1
 obtain ⟨ns,rfl⟩:=items_int h3
 have hlen:ns.length<=n:=by
  unfold OpenLaw.pre at hc
  have h4:(WTm.not (.lt (.lit (.int (n:Int))) (.len (.arg 0)))).holds [] { args:=[.list (ns.map .int)] }=true:=by
   have h4:=(holds_andW hc).1
   rw [hn] at h4
   exact h4
  have h5:=condW_of h4 (w_not (w_lt w_lit (w_len_list (w_arg rfl))))
  rw [List.length_map] at h5
  refine Nat.le_of_not_lt fun q=>?_
  have q':(n:Int) < ((ns.length:Nat):Int):=by omega
  first
   | (rw [decide_eq_true q'] at h5; exact absurd h5 (by decide))
   | (simp at h5; omega)
 cases hwl with
 | cons w1 w2=>
  cases w2
  cases w1 with
  | list ho hall=>exact ⟨_,_,ns,rfl,rfl,ho,aaU ns _ hall,hlen⟩
theorem ag4 (l:OpenLaw) (args:List WData):l.row.toRowW.claim.post args (.bool true) args=true:=
 postW_of (r:=l.row.toRowW) (X:=(true == true))
  (show WShape.has [] (.bool true) .bool=true by first | rfl | decide | simp [WShape.has,WShape.arms,WShape.armsAll])
  (show (WTm.eq .res (.lit (.bool true))).value [] { args:=args,res:=some (.bool true),after:=args }=some (.bool (true == true)) from w_eq_bool (w_res rfl) w_lit) rfl
theorem attach_call {l:OpenLaw}{n:Nat}{q:Program}{loose:List Str}{XP:(Str->Option Value)->Heap->Prop}{YP:World->Heap->Prop}{d:DefRec}
  (hn:l.most=some n) (hdf:d.params.defaults=[])
  (call:∀ (w:World) (s₀ s₁:Shared) (mg mb:Str->Option Value) (fa:Addr) (o:Obj) (pm cd doc:Value) (a:Addr) (vs:List Value) (ns:List Int),
   Ground q loose [] XP w s₀ mg mb s₁.heap->YP w s₁.heap->
   s₁.heap.get? fa=some o->o.data= .func (docDef d.name d.params d.body d.scope pm cd doc)->s₁.heap.CodeRec cd d.name->mg d.name=some (.ref fa)->
   s₁.heap.get? a=some { cls:= .type "list",data:= .seq vs.toArray }->IntsAre vs ns->ns.length<=n->s₁.gens=#[]->
   codeAny (model l.prog w) callerA (.call (.ref fa) ⟨[.ref a],[]⟩) (fun r s'=>r= .ok (.ret (.bool true))/\OldK s₁.heap s'.heap/\s'.os=s₁.os/\AllBare s'.gens) s₁):
  WalkO q loose XP YP l.row.toRowW d [] (fun f vs=>PySem.call f vs):=by
 intro w s₀ s₁ mg mb G Y fa o pm cd doc dV kV ho hd hcd hD hmg hg args vals as hpre hlay hrd hwl hlo
 obtain rfl:dV= .none:=Dflts.none hD hdf
 obtain rfl:kV= .none:=Dflts.noKw hD
 obtain ⟨a,vs,ns,rfl,rfl,hobj,hints,hlen⟩:=ag3 hn hpre hwl
 refine enter_call (codeAny_mono (call w s₀ s₁ mg mb fa o pm cd doc a vs ns G Y ho (fd_plain hd) hcd hmg hobj hints hlen hg) fun r s' hq=>?_)
 obtain ⟨rfl,h2,h3,h4⟩:=hq
 exact ⟨.inl ⟨.bool true,.bool true,[],rfl,fun _=>rfl,.bool true,ag4 l _,fun _=>⟨List.Pairwise.nil,fun _ hm=>(nomatch hm)⟩⟩,h2,h3,h4⟩
section
variable {prog:Program}{w:World}{A:Around}{E:Value->Shared->Prop}{s:Shared}{K:Frag}
noncomputable def aov (h:Heap) (L d:Addr):List (Addr × Obj):=(List.range h.objs.size).filterMap fun a=>if a=L ∨ a=d then none else (h.get? a).map fun o=>(a,o)
end
end Att
namespace L2
open PySem PySem.Spec PyProof.Rows
theorem JB:∀ {vs:List Value}{ns:List Int},IntsAre vs ns->jC (ns.map V.int) vs
 | _,_,.nil=> .nil
 | _,_,.cons n t h=> .cons ⟨t,rfl⟩ (JB h)
noncomputable def amj (H:Hp):Prop:=∀ b,H b=none ∨ ∃ o xs,H b=some (.frz o (.lst xs))
theorem ain {P:Program}{w:World}{K:PySem.W.Frag}{mg mb:Str->Option Value}{CX:CXT}{k:Nat}{fa a:Addr}{fd:FuncData}{x:Str}{sp:Sp}{s₁:Shared}{vs:List Value}{ns:List Int}
  (KX:K.In s₁.heap) (hns:s₁.heap.Ns mainGlobals mg) (hb:s₁.heap.Ns builtinsNs mb) (hbb:∀ x:Str,x ≠ "__name__"->mb x=bootBuiltins x) (hlim:s₁.heap.NoLimit) (hg:s₁.gens=#[])
  (ha:s₁.heap.get? a=some { cls:= .type "list",data:= .seq vs.toArray }) (hi:IntsAre vs ns) (hl:ns.length<=sizeLine) (hr:Room k callerA)
  (F:∀ base:Heap,K.In base->base.Ns mainGlobals mg->FnOk P w K mg base CX k fa fd [x] sp) (hbind:∀ (s:Shared) (u:Value),BindsTo s fd ⟨[u],[]⟩ [(x,u)])
  (hsp:∀ H:Hp,amj H->SqL K H a (ns.map V.int)->sp [.ref a] H (fun v _=>v= .bl true) fun _ _ _=>False)
  (hCX:∀ H e s',CX [] H s₁ (fun _ _ _=>False) e s'->False):
  codeAny (model P w) callerA (.call (.ref fa) ⟨[.ref a],[]⟩) (fun r s'=>r= .ok (.ret (.bool true))/\OldK s₁.heap s'.heap/\s'.os=s₁.os/\AllBare s'.gens) s₁:=by
 have rv:=JB hi
 have lenV:=hi.length
 have core:∀ H:Hp,amj H->SqL K H a (ns.map V.int)->HOk P w H s₁.heap->(∀ b,H b ≠ none->b=a)->(H a ≠ none->K.lookup a=none)->
   codeAny (model P w) callerA (.call (.ref fa) ⟨[.ref a],[]⟩) (fun r s'=>r= .ok (.ret (.bool true))/\OldK s₁.heap s'.heap/\s'.os=s₁.os/\AllBare s'.gens) s₁:=by
  intro H hO hS hok hA hK
  have base_of:∀ {b:Addr} {o:Obj},s₁.heap.get? b=some o->H b=none->(adg s₁.heap H).get? b=some o:=fun e n=>ahZ e n
  have noA:∀ {b:Addr} {o:Obj} {es:Array DictEntry} {ep:Nat},s₁.heap.get? b=some o->o.data= .dict es ep->H b=none:=fun {b o es ep} e d=>by
   cases q:H b with
   | none=>rfl
   | some u=>
    have e':b=a:=hA b (by rw [q]; simp)
    subst e'
    rw [ha] at e; cases e
    have d':Data.seq vs.toArray _=Data.dict es ep:=d
    cases d'
  have nsK:∀ {b:Addr} {m:Str->Option Value},s₁.heap.Ns b m->(adg s₁.heap H).Ns b m:=fun {b m} ⟨o,es,ep,e,d,r⟩=>⟨o,es,ep,base_of e (noA e d),d,r⟩
  have hKb:K.In (adg s₁.heap H):=fun b o e=>base_of (KX b o e) (by
   cases q:H b with
   | none=>rfl
   | some u=>
    have e':b=a:=hA b (by rw [q]; simp)
    subst e'
    rw [hK (by rw [q]; simp)] at e; cases e)
  have hM:Mod K mg (adg s₁.heap H):=⟨hKb,nsK hns,⟨mb,nsK hb,hbb⟩,let ⟨mc,h1,h2⟩:=hlim; ⟨mc,nsK h1,h2⟩⟩
  have e0:Env0 P w K mg (adg s₁.heap H) callerA [] s₁ H:=⟨rfl,hM,fun b o e=>aj7 e,Nat.le_of_eq (agV _ _),trivial,fun b hb=>absurd (show b ∈ ([]:List Addr) from hb) (by simp),hok,.of_eq hg⟩
  refine codeAny_mono ((F _ hKb (nsK hns)).run callerA [] s₁ H ⟨[.ref a],[]⟩ [.ref a] [.ref a] _ _ hr e0 (hbind s₁ (.ref a)) (.cons rfl .nil) (hsp H hO hS)) fun r s' h=>?_
  cases r with
  | error e=>exact (hCX H e s' h).elim
  | ok fl=>
   cases fl with
   | next=>exact False.elim h
   | brk=>exact False.elim h
   | cont=>exact False.elim h
   | ret u=>
    obtain ⟨v,H',os,bare,un,hok',r',q⟩:=h
    have q':v= .bl true:=q
    subst q'
    obtain rfl:u=Value.bool true:=r'
    refine ⟨rfl,OldK.of_keep fun b o e=>?_,os,bare⟩
    cases q:H b with
    | none=>exact un.keep b o e q (by intro z; exact absurd (show b ∈ ([]:List Addr) from z) (by simp)) (by simp)
    | some u=>
     rcases hO b with z | ⟨ob,xs,z⟩
     ·rw [q] at z; cases z
     ·have z2:=un.frzs b ob _ z
      obtain ⟨e1,_⟩:=hok b _ z
      obtain ⟨e2,_⟩:=hok' b _ z2
      rw [e] at e1; cases e1
      exact e2
 cases hk:K.lookup a with
 | some o=>
  have e:=KX a o hk
  rw [ha] at e
  cases e
  refine core (fun _=>none) (fun _=> .inl rfl) (.inr ⟨_,vs.toArray,_,hk,rfl,rfl,rfl,by rw [List.size_toArray,lenV]; exact hl,by simpa using rv⟩) (fun b u z=>by have z':(none:Option HO)=some u:=z; cases z') (fun b z=>absurd rfl z) fun z=>absurd rfl z
 | none=>
  refine core (fun b=>if b=a then some (.frz { cls:= .type "list",data:= .seq vs.toArray } (.lst (ns.map V.int))) else none) (fun b=>?_) (.inl (.inr ⟨{ cls:= .type "list",data:= .seq vs.toArray },if_pos rfl⟩)) (fun b u z=>?_) (fun b z=>?_) fun _=>hk
  ·by_cases hb:b=a
   ·exact .inr ⟨_,_,if_pos hb⟩
   ·exact .inl (if_neg hb)
  ·by_cases hb:b=a
   ·have z':=(if_pos hb).symm.trans z
    cases z'
    subst hb
    exact ⟨ha,by rw [List.length_map]; exact hl,vs,_,rv,ha⟩
   ·have z':=(if_neg hb).symm.trans z
    cases z'
  ·by_cases hb:b=a
   ·exact hb
   ·exact absurd (if_neg hb) z
end L2
namespace L2
open PySem PySem.Spec PyProof.Rows
theorem akn {l:PySem.W.OpenLaw}{n k:Nat}{q:Program}{loose:List Str}{XP:(Str->Option Value)->Heap->Prop}{YP:World->Heap->Prop}{d:DefRec}{K:Params->PySem.W.Frag}{CX:World->CXT}{sp:World->Sp}{x:Str}
  (hn:l.most=some n) (hn2:n<=sizeLine) (hdf:d.params.defaults=[]) (hr:Room k callerA)
  (hY:∀ (w:World) (h:Heap),YP w h->(K w.params).In h)
  (F:∀ (w:World) (mg:Str->Option Value) (fa:Addr) (h:Heap),(K w.params).In h->h.Ns mainGlobals mg->mg d.name=some (.ref fa)->
   ∃ fd:FuncData,(∀ (s:Shared) (u:Value),BindsTo s fd ⟨[u],[]⟩ [(x,u)])/\
    ∀ base:Heap,(K w.params).In base->base.Ns mainGlobals mg->FnOk l.prog w (K w.params) mg base (CX w) k fa fd [x] (sp w))
  (hsp:∀ (w:World) (H:Hp) (a:Addr) (ns:List Int),ns.length<=n->amj H->SqL (K w.params) H a (ns.map V.int)->sp w [.ref a] H (fun v _=>v= .bl true) fun _ _ _=>False)
  (hCX:∀ (w:World) (H:Hp) (s:Shared) (e:Value) (s':Shared),CX w [] H s (fun _ _ _=>False) e s'->False):
  PySem.W.WalkO q loose XP YP l.row.toRowW d [] (fun f vs=>PySem.call f vs):=by
 refine Att.attach_call hn hdf fun w s₀ s₁ mg mb fa o pm cd doc a vs ns G Y ho hd hcd hmg hobj hints hlen hg=>?_
 have KX:=hY w _ Y
 obtain ⟨fd,hb,hF⟩:=F w mg fa _ KX G.T.g hmg
 exact ain KX G.T.g G.T.b G.T.builtins G.T.nolimit hg hobj hints (Nat.le_trans hlen hn2) hr hF hb (fun H hO hS=>hsp w H a ns hlen hO hS) fun H e s'=>hCX w H s₁ e s'
end L2
namespace L2
open PySem PySem.Spec PyProof.Rows
noncomputable def JU (s:Stmt):Arguments:=match s with
 | .FunctionDef _ a _ _ _ _ _ _ _ _=>a
 | _=>{ posonlyargs:=[],args:=[],vararg:=none,kwonlyargs:=[],kw_defaults:=[],kwarg:=none,defaults:=[] }
noncomputable def jU (s:Stmt):List Stmt:=match s with
 | .FunctionDef _ _ b _ _ _ _ _ _ _=>b
 | _=>[]
noncomputable def jf (s:Stmt):Scope:=match s with
 | .FunctionDef _ _ _ _ _ _ sc _ _ _=>sc
 | _=>{ kind:= .function,names:=[],isGenerator:=false,isCoroutine:=false }
noncomputable abbrev CX0:CXT:=fun _ _ _ _ _ _=>False
noncomputable abbrev E0:XK:=fun _ _ _=>False
theorem aio {X:Cx}:afy CX0 X E0:=fun _ _ _ _ _ _ _ h=>h.elim
structure Fun (K:PySem.W.Frag) (x qual:Str) (st:Stmt) (f:Addr) (fd:FuncData):Prop where
 ex:∃ (oc:Value) (od:Option Addr) (kV doc pm:Value) (an:Option Addr) (cdv ct:Value) (osl:Array (Option Value)),
  fd=PySem.W.fnOf x qual (JU st) (jU st) (jf st) .none kV doc pm an cdv ct/\K.lookup f=some ⟨oc,od,.func fd,osl⟩/\PySem.W.codeIn K cdv qual=true
 kp:PySem.W.keepIn K (.ref f)=true
section
variable {P:Program}{w:World}{K:PySem.W.Frag}{mg:Str->Option Value}{base:Heap}
theorem Fun.ok {x qual:Str}{st:Stmt}{f:Addr}{fd:FuncData}{N ps:List Str}{k:Nat}{sp:Sp} (F:Fun K x qual st f fd) (S:FnScope N ps (jf st)) (len:∀ vs H Q E,sp vs H Q E->vs.length=ps.length)
  (hbody:∀ (cdv:Value) (A:Around) (outer:List Env) (s:Shared) (H:Hp) (vs:List V) (Q:VK) (E:XK),Room k (A.deeper (envOfC qual (jf st) s.heap.objs.size f cdv))->sp vs H Q E->
   ∃ t,PSs (zY CX0 P w K mg base N qual (jf st) f cdv A outer s H E).nox (jU st) t/\t { nx:=fun _ H'=>Q .non H',rt:=Q } (zl N vs) H):FnOk P w K mg base CX0 (k+1) f fd ps sp:=by
 obtain ⟨oc,od,kV,doc,pm,an,cdv,ct,osl,rfl,lk,hcd⟩:=F.ex
 refine anq lk hcd S len fun A outer s H vs Q E hr hsp=>?_
 obtain ⟨t,h,q⟩:=hbody cdv A outer s H vs Q E hr hsp
 exact ⟨t,h.nox,q⟩
theorem Fun.binds {x qual:Str}{st:Stmt}{f:Addr}{fd:FuncData}{ps:List Str} (F:Fun K x qual st f fd)
  (h:∀ (kV doc pm:Value) (an:Option Addr) (cdv ct:Value) (us:List Value),us.length=ps.length->bindArgs (PySem.W.fnOf x qual (JU st) (jU st) (jf st) .none kV doc pm an cdv ct) ⟨us,[]⟩=pure (ps.zip us)):Qr K fd ps []:=by
 obtain ⟨oc,od,kV,doc,pm,an,cdv,ct,osl,rfl,lk,hcd⟩:=F.ex
 exact .all (h kV doc pm an cdv ct)
theorem ado {x qual:Str}{st:Stmt}{f:Addr}{oc:Value}{od an:Option Addr}{osl:Array (Option Value)}{kV doc pm cdv ct:Value} (l:K.lookup f=some ⟨oc,od,.func (PySem.W.fnOf x qual (JU st) (jU st) (jf st) .none kV doc pm an cdv ct),osl⟩)
  (c:PySem.W.codeIn K cdv qual=true) (k:PySem.W.keepIn K (.ref f)=true):Fun K x qual st f (PySem.W.fnOf x qual (JU st) (jU st) (jf st) .none kV doc pm an cdv ct):=⟨⟨oc,od,kV,doc,pm,an,cdv,ct,osl,rfl,l,c⟩,k⟩
end
section
variable {X:Cx}
theorem pv (i:Nat) {x:Str}{pos:Pos} (hN:X.N[i]?=some x:=by rfl) (hv:Vis X.env.scope x:=by first | exact Or.inl rfl | exact Or.inr (Or.inl rfl) | exact Or.inr (Or.inr rfl)) (hd:(x == ("__debug__":Str))=false:=by decide)
  (hcd:(x == ("__classdict__":Str))=false:=by decide):PE X (.Name x pos) (am7 i):=adh hN hv hd hcd
end
theorem ako {A B:Prop} (h:B):if false=true then A else B:=by
 rw [if_neg Bool.false_ne_true]
 exact h
theorem akp {A B:Prop} (h:A):if true=true then A else B:=by
 rw [if_pos rfl]
 exact h
noncomputable def jn (H H':Hp):Prop:=∀ b o,H b=some o->H' b=some o
theorem jn.refl (H:Hp):jn H H:=fun _ _ h=>h
theorem jn.trans {H H1 H2:Hp} (a:jn H H1) (b:jn H1 H2):jn H H2:=fun c o h=>b c o (a c o h)
theorem jn.free {H H':Hp} (e:jn H H') {l:Addr} (h:H' l=Option.none):H l=Option.none:=by
 cases q:H l with
 | none=>rfl
 | some o=>
  rw [e l o q] at h
  cases h
theorem jn.seq {K:PySem.W.Frag}{H H':Hp}{a:Addr}{xs:List V} (e:jn H H') (h:SqL K H a xs):SqL K H' a xs:=by
 rcases h with (h | ⟨o,h⟩) | h
 ·exact .inl (.inl (e _ _ h))
 ·exact .inl (.inr ⟨o,e _ _ h⟩)
 ·exact .inr h
section
variable {κ:Type} [DecidableEq κ]
noncomputable def aaV (kvs:List (κ × V)) (k:κ):Option V:=(kvs.find? fun kv=>decide (kv.1=k)).map (·.2)
noncomputable def acp (kvs:List (κ × V)) (k:κ) (v:V):List (κ × V):=
 if (kvs.any fun kv=>decide (kv.1=k))=true then kvs.map (fun kv=>if kv.1=k then (kv.1,v) else kv) else kvs++[(k,v)]
noncomputable def alI (kvs:List (κ × V)) (k:κ):List (κ × V):=kvs.filter fun kv=>decide (kv.1 ≠ k)
theorem abu {p:κ × V}{r:List (κ × V)}{k:κ} (e:p.1=k):aaV (p::r) k=some p.2:=by simp [aaV,List.find?_cons,e]
theorem abv {p:κ × V}{r:List (κ × V)}{k:κ} (e:¬ p.1=k):aaV (p::r) k=aaV r k:=by simp [aaV,List.find?_cons,e]
theorem aet (k:κ):∀ kvs:List (κ × V),(kvs.any fun kv=>decide (kv.1=k))=(aaV kvs k).isSome
 | []=>rfl
 | p::r=>by
  rw [List.any_cons]
  by_cases e:p.1=k
  ·simp only [abu e,decide_eq_true e,Bool.true_or,Option.isSome_some]
  ·rw [abv e,decide_eq_false e,Bool.false_or]; exact aet k r
theorem aem.isSome_eq {o:Option V}{u:Option Value} (r:aem o u):o.isSome=u.isSome:=by
 cases o with
 | none=>cases u with
  | none=>rfl
  | some _=>exact (show False from r).elim
 | some _=>cases u with
  | none=>exact (show False from r).elim
  | some _=>rfl
theorem aem.getD {o:Option V}{u:Option Value}{d:V}{d':Value} (r:aem o u) (rd:jQ d d'):jQ (o.getD d) (u.getD d'):=by
 cases o with
 | none=>cases u with
  | none=>exact rd
  | some _=>exact (show False from r).elim
 | some _=>cases u with
  | none=>exact (show False from r).elim
  | some _=>exact r
theorem KV.val {kvs:List (κ × V)}{vs:List (κ × Value)} (r:KV kvs vs) (k:κ):aem (aaV kvs k) (valueAt vs k):=by
 unfold KV at r
 induction r with
 | nil=>exact True.intro
 | @cons p q ps qs h t ih=>
  obtain ⟨h1,h2⟩:=h
  by_cases e:p.1=k
  ·have e':q.1=k:=h1.symm.trans e
   have b:valueAt (q::qs) k=some q.2:=by simp [valueAt,List.find?_cons,e']
   rw [abu e,b]; exact h2
  ·have e':¬ q.1=k:=fun z=>e (h1.trans z)
   have b:valueAt (q::qs) k=valueAt qs k:=by simp [valueAt,List.find?_cons,e']
   rw [abv e,b]; exact ih
theorem KV.any {kvs:List (κ × V)}{vs:List (κ × Value)} (r:KV kvs vs) (k:κ):(kvs.any fun kv=>decide (kv.1=k))=vs.any fun kv=>decide (kv.1=k):=by
 unfold KV at r
 induction r with
 | nil=>rfl
 | cons h t ih=>rw [List.any_cons,List.any_cons,ih,h.1]
theorem KV.repl {kvs:List (κ × V)}{vs:List (κ × Value)} (r:KV kvs vs) (k:κ) {y:V}{u:Value} (ry:jQ y u):
  KV (kvs.map fun kv=>if kv.1=k then (kv.1,y) else kv) (vs.map fun kv=>if kv.1=k then (kv.1,u) else kv):=by
 unfold KV at r ⊢
 induction r with
 | nil=>exact .nil
 | @cons p q ps qs h t ih=>
  rw [List.map_cons,List.map_cons]
  refine .cons ?_ ih
  obtain ⟨h1,h2⟩:=h
  by_cases e:p.1=k
  ·rw [if_pos e,if_pos (h1.symm.trans e)]; exact ⟨h1,ry⟩
  ·rw [if_neg e,if_neg (fun z=>e (h1.trans z))]; exact ⟨h1,h2⟩
theorem KV.put {kvs:List (κ × V)}{vs:List (κ × Value)} (r:KV kvs vs) (k:κ) {y:V}{u:Value} (ry:jQ y u):KV (acp kvs k y) (stored vs k u):=by
 unfold acp stored
 rw [r.any k]
 by_cases e:(vs.any fun kv=>decide (kv.1=k))=true
 ·rw [if_pos e,if_pos e]; exact r.repl k ry
 ·rw [if_neg e,if_neg e]; exact Paired.snoc r ⟨rfl,ry⟩
theorem KV.drop {kvs:List (κ × V)}{vs:List (κ × Value)} (r:KV kvs vs) (k:κ):KV (alI kvs k) (without vs k):=by
 unfold KV at r ⊢
 unfold alI without
 induction r with
 | nil=>exact .nil
 | @cons p q ps qs h t ih=>
  obtain ⟨h1,h2⟩:=h
  rw [List.filter_cons,List.filter_cons]
  by_cases e:p.1=k
  ·have a:¬ decide (p.1 ≠ k)=true:=by simp [e]
   have b:¬ decide (q.1 ≠ k)=true:=by simp [h1.symm.trans e]
   rw [if_neg a,if_neg b]; exact ih
  ·have e':¬ q.1=k:=fun z=>e (h1.trans z)
   have a:decide (p.1 ≠ k)=true:=by simp [e]
   have b:decide (q.1 ≠ k)=true:=by simp [e']
   rw [if_pos a,if_pos b]; exact .cons ⟨h1,h2⟩ ih
theorem KV.keys {kvs:List (κ × V)}{vs:List (κ × Value)} (r:KV kvs vs):kvs.map (·.1)=vs.map (·.1):=by
 unfold KV at r
 induction r with
 | nil=>rfl
 | cons h t ih=>rw [List.map_cons,List.map_cons,ih,h.1]
theorem KV.length {kvs:List (κ × V)}{vs:List (κ × Value)} (r:KV kvs vs):kvs.length=vs.length:=Paired.length r
end
noncomputable abbrev KT (H:Hp):List (List Key × V)->List (List Key × Addr × Value)->Prop:=Paired fun p q=>p.1=q.1/\H q.2.1=some (.tup (p.1.map kV))/\jQ p.2 q.2.2
theorem KT.val {H:Hp}{kvs:List (List Key × V)}{xs:List (List Key × Addr × Value)} (r:KT H kvs xs) (k:List Key):aem (aaV kvs k) ((atKey xs k).map (·.2)):=by
 induction r with
 | nil=>exact True.intro
 | @cons p q ps qs h t ih=>
  obtain ⟨h1,_,h2⟩:=h
  by_cases e:p.1=k
  ·have e':q.1=k:=h1.symm.trans e
   have b:atKey (q::qs) k=some q.2:=by simp [atKey,List.find?_cons,e']
   rw [abu e,b]; exact h2
  ·have e':¬ q.1=k:=fun z=>e (h1.trans z)
   have b:atKey (q::qs) k=atKey qs k:=by simp [atKey,List.find?_cons,e']
   rw [abv e,b]; exact ih
theorem KT.repl {H:Hp}{kvs:List (List Key × V)}{xs:List (List Key × Addr × Value)} (r:KT H kvs xs) (k:List Key) {y:V}{u:Value} (ry:jQ y u):
  KT H (kvs.map fun kv=>if kv.1=k then (kv.1,y) else kv) (xs.map (putAt k u)):=by
 induction r with
 | nil=>exact .nil
 | @cons p q ps qs h t ih=>
  rw [List.map_cons,List.map_cons]
  refine .cons ?_ ih
  obtain ⟨h1,h2,h3⟩:=h
  unfold putAt
  by_cases e:p.1=k
  ·rw [if_pos e,if_pos (h1.symm.trans e)]; exact ⟨h1,h2,ry⟩
  ·rw [if_neg e,if_neg (fun z=>e (h1.trans z))]; exact ⟨h1,h2,h3⟩
theorem KT.put {H:Hp}{kvs:List (List Key × V)}{xs:List (List Key × Addr × Value)} (r:KT H kvs xs) (k:List Key) {b:Addr}{y:V}{u:Value} (hb:H b=some (.tup (k.map kV))) (ry:jQ y u):
  KT H (acp kvs k y) (storedH xs k b u):=by
 have e:(kvs.any fun kv=>decide (kv.1=k))=(atKey xs k).isSome:=by
  rw [aet,(r.val k).isSome_eq,Option.isSome_map]
 unfold acp storedH
 rw [e]
 by_cases q:(atKey xs k).isSome=true
 ·rw [if_pos q,if_pos q]; exact r.repl k ry
 ·rw [if_neg q,if_neg q]; exact Paired.snoc r ⟨rfl,hb,ry⟩
theorem KT.keeps {H H':Hp}{kvs:List (List Key × V)}{xs:List (List Key × Addr × Value)} (r:KT H kvs xs) (ht:∀ b ys,H b=some (.tup ys)->H' b=some (.tup ys)):KT H' kvs xs:=
 Paired.mapP r fun _ _ z=>⟨z.1,ht _ _ z.2.1,z.2.2⟩
section
variable {P:Program}{w:World}{H:Hp}{h:Heap}{a:Addr}
theorem anv {u:HO} (ok:HOk P w H h) (e:Rd H a u):qO P w H h a u:=e.ok ok
theorem anw {kvs:List (Key × V)} (ok:HOk P w H h) (e:Rd H a (.dK kvs)):kvs.length<=sizeLine/\(a == sysModules)=false/\∃ vs,KV kvs vs/\h.DictOf (Zz P w) a vs:=
 show qO P w H h a (.dK kvs) from anv ok e
end
noncomputable def akq (H:Hp) (a:Addr) (y:V) (r:Option V):Prop:=
 (∃ kvs k,Rd H a (.dK kvs)/\y=kV k/\r=aaV kvs k) ∨ ∃ kvs k b,Rd H a (.dT kvs)/\y= .ref b/\H b=some (.tup (k.map kV))/\r=aaV kvs k
noncomputable def akr (H:Hp) (a:Addr) (y v:V) (H':Hp):Prop:=
 (∃ kvs k,H a=some (.dK kvs)/\y=kV k/\kvs.length < sizeLine/\H'=upd H a (.dK (acp kvs k v))) ∨
 ∃ kvs k b,H a=some (.dT kvs)/\y= .ref b/\H b=some (.tup (k.map kV))/\kvs.length < sizeLine/\H'=upd H a (.dT (acp kvs k v))
theorem akq.k {H:Hp}{a:Addr}{kvs:List (Key × V)}{k:Key} (e:H a=some (.dK kvs)):akq H a (kV k) (aaV kvs k):= .inl ⟨kvs,k,.inl e,rfl,rfl⟩
theorem akq.t {H:Hp}{a b:Addr}{kvs:List (List Key × V)}{k:List Key} (e:H a=some (.dT kvs)) (eb:H b=some (.tup (k.map kV))):akq H a (.ref b) (aaV kvs k):= .inr ⟨kvs,k,b,.inl e,rfl,eb,rfl⟩
theorem akr.k {H:Hp}{a:Addr}{kvs:List (Key × V)}{k:Key}{v:V} (e:H a=some (.dK kvs)) (hl:kvs.length < sizeLine):akr H a (kV k) v (upd H a (.dK (acp kvs k v))):= .inl ⟨kvs,k,e,rfl,hl,rfl⟩
theorem akr.t {H:Hp}{a b:Addr}{kvs:List (List Key × V)}{k:List Key}{v:V} (e:H a=some (.dT kvs)) (eb:H b=some (.tup (k.map kV))) (hl:kvs.length < sizeLine):
  akr H a (.ref b) v (upd H a (.dT (acp kvs k v))):= .inr ⟨kvs,k,b,e,rfl,eb,hl,rfl⟩
section
variable {X:Cx}{pins:List (Addr × Obj)}{σ:St}{H:Hp}{s:Shared}{a:Addr}{y v:V}{u r:Value}{o:Option V}{A:Around}{E:Value->Shared->Prop}
end
section
variable {X:Cx}{pins:List (Addr × Obj)}{σ:St}{H:Hp}{s:Shared}{a:Addr}{kvs:List (Key × V)}{k:Key}{u:Value}{A:Around}{E:Value->Shared->Prop}
end
section
variable {X:Cx}{o i e value:Expr}{pos pos' tpos:Pos}{td ty tv:TE}
end
section
variable {X:Cx}{pos:Pos}
end
structure M1 (X:Cx) (o:Expr) (m:Str) (apos:Pos) (e:Expr) (cpos:Pos):Prop where
 base:attributeBase o m X.env (eval o X.env)=eval o X.env
 few:((backTo cpos (starEach [e] X.env)).all (fun x=>!x.1) && (backToKw cpos (keywordEach [] X.env)).all (fun x=>x.1.isSome)
  && decide (([e]:List Expr).length+([]:List Keyword).length+(if ([]:List Keyword).isEmpty then 0 else 1) < 30))=true
 line:(apos.endLine == cpos.line)=true
 trees:backTo cpos (starEach [e] X.env)=[(false,eval e X.env)]
structure M2 (X:Cx) (o:Expr) (m:Str) (apos:Pos) (e f:Expr) (cpos:Pos):Prop where
 base:attributeBase o m X.env (eval o X.env)=eval o X.env
 few:((backTo cpos (starEach [e,f] X.env)).all (fun x=>!x.1) && (backToKw cpos (keywordEach [] X.env)).all (fun x=>x.1.isSome)
  && decide (([e,f]:List Expr).length+([]:List Keyword).length+(if ([]:List Keyword).isEmpty then 0 else 1) < 30))=true
 line:(apos.endLine == cpos.line)=true
 trees:backTo cpos (starEach [e,f] X.env)=[(false,eval e X.env),(false,eval f X.env)]
section
variable {X:Cx}{pins:List (Addr × Obj)}{σ:St}{H:Hp}{s:Shared}{a:Addr}{y d:V}{u r:Value}{o:Option V}{A:Around}{E:Value->Shared->Prop}
end
section
variable {X:Cx}{o e f:Expr}{apos cpos:Pos}{td ty tx:TE}
end
section
variable {X:Cx}{pins:List (Addr × Obj)}{σ:St}{H:Hp}{s:Shared}{a:Addr}{kvs:List (Key × V)}{A:Around}{E:Value->Shared->Prop}
end
section
variable {X:Cx}{pins:List (Addr × Obj)}{σ:St}{H:Hp}{s:Shared}{a:Addr}{y:V}{u:Value}{A:Around}{E:Value->Shared->Prop}
end
end L2
namespace L2
open PySem PySem.Spec PyProof.Rows
section
variable {X:Cx}
end
section
variable {κ:Type} [DecidableEq κ]
end
end L2
end
section
namespace BX
open PySem PySem.Spec L2
open PyProof.Rows hiding St
noncomputable abbrev NoX:Value->Shared->Prop:=fun _ _=>False
noncomputable def adp (ts:List Expr) (en:Env):Sem Bool:=
 forIn ts true fun c r=>if r=true then do let ok ←isTrue c en (eval c en); pure (ForInStep.yield ok) else pure (ForInStep.yield r)
section
variable {prog:Program}{w:World}{A:Around}{s:Shared}{R:Result->Shared->Prop}
theorem aai {el tg src:Expr}{ts:List Expr}{sc:Scope}{ps:Pos}{it acc:Value}{en:Env} (J:Nat->Shared->Prop)
  (turn:∀ n s,J n s->wpAny (model prog w) A (pyNext it) (fun r s1=>match r with
   | none=>R (.ok .next) s1
   | some v=>wpAny (model prog w) A (letOwnedTupleGo tg it v) (fun _ sg=>wpAny (model prog w) A (assign tg en v) (fun _ s2=>
     wpAny (model prog w) A (adp ts en) (fun ok s3=>
      if ok=true then wpAny (model prog w) A (eval el en) (fun y s4=>
       wpAny (model prog w) A (call (.builtin "list.append") [acc,y]) (fun _ s5=>∃ m,m < n/\J m s5) NoX s4) NoX s3
      else ∃ m,m < n/\J m s3) NoX s2) NoX sg) NoX s1) NoX s)
  (n:Nat) (h:J n s):
  codeAny (model prog w) A (.compLoop (.ListComp el [⟨tg,src,ts,0⟩] sc ps) 0 it acc en) R s:=by
 refine codeAny_loop rfl J (fun n s hJ=>?_) n h
 show wpAny _ A
  ((compTurn (.ListComp el [⟨tg,src,ts,0⟩] sc ps) 0 it acc en).onRaise
   (fun x=>do noteFrame x en; theTreesLotGoes x)) _ _ s
 refine wpAny_noted ?_
 rw [compTurn_list]
 have no:∀ {E:Value->Shared->Prop} (e:Value) (s':Shared),NoX e s'->E e s':=fun _ _ z=>z.elim
 refine wpAny_bind (wpAny_standAt (wpAny_bind (wpAny_mono (turn n s hJ) (fun r s1 h1=>?_) no)))
 cases r with
 | none=>exact wpAny_pure h1
 | some v=>
  refine wpAny_bind (wpAny_mono h1 (fun _ sg hg=>?_) no)
  refine wpAny_bind (wpAny_mono hg (fun _ s2 h2=>?_) no)
  refine wpAny_bind (wpAny_mono h2 (fun ok s3 h3=>?_) no)
  cases ok with
  | false=>exact wpAny_pure ⟨rfl,h3⟩
  | true=>
   refine wpAny_bind (wpAny_bind (wpAny_mono h3 (fun y s4 h4=>?_) no))
   exact wpAny_bind (wpAny_mono h4 (fun _ s5 h5=>wpAny_pure (wpAny_pure ⟨rfl,h5⟩)) no)
end
noncomputable def zF (en:Env):List (Str × NameKind)->List (Str × Addr)->List (Str × Addr)
 | [],cs=>cs
 | (n,k)::r,cs=>zF en r (if k == .free then (n,(en.cells.lookup n).getD 0)::cs else cs)
theorem aa1 (sc:Scope) (en:Env) (h:∀ x ∈ sc.names,x.2= .free->∃ c,en.cells.lookup x.1=some c):closureFor sc en=pure (zF en sc.names []):=by
 have go:∀ (l:List (Str × NameKind)) (cs:List (Str × Addr)),(∀ x ∈ l,x.2= .free->∃ c,en.cells.lookup x.1=some c)->
   (forIn l cs (fun (x:Str × NameKind) (r:List (Str × Addr))=>(do
    if x.2 == .free then do
     let c ←cellOf en x.1
     pure (ForInStep.yield ((x.1,c)::r))
    else pure (ForInStep.yield r):Sem (ForInStep (List (Str × Addr))))):Sem _)=pure (zF en l cs):=by
  intro l
  induction l with
  | nil=>intro cs _; rfl
  | cons x l ih=>
   intro cs hl
   obtain ⟨n,k⟩:=x
   rw [List.forIn_cons]
   by_cases hk:(k == NameKind.free)=true
   ·obtain ⟨c,e⟩:=hl (n,k) List.mem_cons_self (by simpa using hk)
    have e':en.cells.lookup n=some c:=e
    simp only [hk,zzM,cellOf,e',pure_bind,zF,Option.getD_some]
    exact ih _ fun y hy=>hl y (List.mem_cons_of_mem _ hy)
   ·simp only [hk,pure_bind,zF,zzL,zzN]
    exact ih _ fun y hy=>hl y (List.mem_cons_of_mem _ hy)
 have:=go sc.names [] h
 unfold closureFor
 rw [←this]
 first
  | (simp only [bind_pure_comp,id_map',map_pure]; done)
  | (simp only [bind_pure_comp,id_map',map_pure]; exact bind_pure _)
theorem JC (en:Env):∀ (l:List (Str × NameKind)) (cs:List (Str × Addr)),(∀ x ∈ l,x.2= .free->∃ c,en.cells.lookup x.1=some c)->(∀ p ∈ cs,en.cells.lookup p.1=some p.2)->
  ∀ p ∈ zF en l cs,en.cells.lookup p.1=some p.2
 | [],_,_,h,p,hp=>h p hp
 | (n,k)::r,cs,hl,h,p,hp=>by
  refine JC en r _ (fun y hy=>hl y (List.mem_cons_of_mem _ hy)) (fun q hq=>?_) p hp
  by_cases hk:(k == NameKind.free)=true
  ·rw [if_pos hk] at hq
   rcases List.mem_cons.mp hq with rfl | hq
   ·obtain ⟨c,e⟩:=hl (n,k) List.mem_cons_self (by simpa using hk)
    have e':en.cells.lookup n=some c:=e
    show en.cells.lookup n=some ((en.cells.lookup n).getD 0)
    rw [e']; rfl
   ·exact h q hq
  ·rw [if_neg hk] at hq
   exact h q hq
theorem aaI (en:Env):∀ (l:List (Str × NameKind)) (cs:List (Str × Addr)) (x:Str),(∃ c,(x,c) ∈ cs)->∃ c,(x,c) ∈ zF en l cs
 | [],_,_,h=>h
 | (n,k)::r,cs,x,⟨c,h⟩=>by
  refine aaI en r _ x ?_
  by_cases hk:(k == NameKind.free)=true
  ·rw [if_pos hk]; exact ⟨c,List.mem_cons_of_mem _ h⟩
  ·rw [if_neg hk]; exact ⟨c,h⟩
theorem qE (en:Env):∀ (l:List (Str × NameKind)) (cs:List (Str × Addr)) (x:Str),(x,NameKind.free) ∈ l->∃ c,(x,c) ∈ zF en l cs
 | (n,k)::r,cs,x,h=>by
  rcases List.mem_cons.mp h with e | h
  ·obtain ⟨e1,e2⟩:=Prod.mk.inj e
   subst e1; subst e2
   exact aaI en r _ _ ⟨_,by rw [if_pos (by rfl)]; exact List.mem_cons_self⟩
  ·exact qE en r _ x h
theorem j2 {β:Type}:∀ {l:List (Str × β)}{x:Str}{c:β},(x,c) ∈ l->∃ d,l.lookup x=some d
 | (n,k)::r,x,c,h=>by
  by_cases e:x=n
  ·subst e; exact ⟨k,by simp [List.lookup_cons]⟩
  ·have eb:(x == n)=false:=by simpa using e
   rcases List.mem_cons.mp h with z | h
   ·cases z; exact absurd rfl e
   ·obtain ⟨d,hd⟩:=j2 h
    exact ⟨d,by simp only [List.lookup_cons,eb]; exact hd⟩
theorem qU {sc:Scope}{en:Env}{x:Str}{k:NameKind} (h:(x,k) ∈ (relabel sc en).names) (hc:∀ y ∈ sc.names,y.2 ≠ .cell) (hk:k= .cell ∨ k= .free):(x,NameKind.free) ∈ sc.names:=by
 obtain ⟨⟨n,j⟩,hm,e⟩:=List.mem_map.mp h
 by_cases q:(j == NameKind.free && en.scope.kind == .function && en.kindOf n == some .cell)=true
 ·have e1:(n,NameKind.cell)=(x,k):=by simpa only [q,zzM] using e
  cases e1
  have hj:j= .free:=by
   simp only [Bool.and_eq_true] at q
   simpa using q.1.1
  rw [←hj]; exact hm
 ·have e1:(n,j)=(x,k):=by simpa only [q,zzL,zzN] using e
  cases e1
  rcases hk with rfl | rfl
  ·exact absurd rfl (hc _ hm)
  ·exact hm
theorem qZ {en:Env}:∀ {l:List (Str × NameKind)}{x:Str},l.lookup x=some .free->
  (l.map fun (n,k)=>if (k == NameKind.free && en.scope.kind == .function && en.kindOf n == some .cell) then (n,NameKind.cell) else (n,k)).lookup x=some .cell ∨
  (l.map fun (n,k)=>if (k == NameKind.free && en.scope.kind == .function && en.kindOf n == some .cell) then (n,NameKind.cell) else (n,k)).lookup x=some .free
 | (n,k)::r,x,h=>by
  rw [List.map_cons]
  cases hx:x == n with
  | true=>
   simp only [List.lookup_cons,hx] at h
   cases h
   by_cases q:(NameKind.free == NameKind.free && en.scope.kind == .function && en.kindOf n == some .cell)=true
   ·left; simp only [q,zzM,List.lookup_cons,hx]
   ·right; simp only [q,zzL,zzN,List.lookup_cons,hx]
  | false=>
   simp only [List.lookup_cons,hx] at h
   rcases qZ (en:=en) h with g | g
   ·left
    by_cases q:(k == NameKind.free && en.scope.kind == .function && en.kindOf n == some .cell)=true
    ·simp only [q,zzM,List.lookup_cons,hx]; exact g
    ·simp only [q,zzL,zzN,List.lookup_cons,hx]; exact g
   ·right
    by_cases q:(k == NameKind.free && en.scope.kind == .function && en.kindOf n == some .cell)=true
    ·simp only [q,zzM,List.lookup_cons,hx]; exact g
    ·simp only [q,zzL,zzN,List.lookup_cons,hx]; exact g
noncomputable def blk (X:Cx) (N':List Str) (sc:Scope) (cl:List (Str × Addr)) (C:Addr) (s0:Shared) (H0:Hp) (fp:List Addr) (pn:List (Addr × Obj)):Cx:=
 { X with N:=N',s₀:=s0,H₀:=H0,env:=compEnvC sc cl C X.env,outer:=X.stack,ex:=fp,fn:=fun _=>false,pn:=pn,xe:=NoX }
noncomputable def Js (cap:List (Option Nat)) (σ:St):St:=cap.map fun o=>o.bind fun i=>(σ[i]?).join
noncomputable def PTs (X:Cx) (ts:List Expr) (t:TT):Prop:=
 ∀ (pins:List (Addr × Obj)) (s:Shared) (σ:St) (H:Hp) (Q:Bool->Hp->Prop),Inv X pins σ H s->t σ H Q->wpAny (model X.prog X.w) X.A (adp ts X.env) (TP X pins σ Q) X.xe s
noncomputable def anx:TT:=fun _ H Q=>Q true H
theorem aks {X:Cx}:PTs X [] anx:=fun _ _ _ H _ I h=>wpAny_pure ⟨H,I,h⟩
theorem akt {X:Cx}{c:Expr}{t:TT} (h:PT X c t):PTs X [c] t:=fun pins s σ H Q I hq=>wpAny_tests_one (h pins s σ H Q I hq)
structure CompOk (X:Cx) (sc:Scope) (N':List Str) (cap:List (Option Nat)):Prop where
 fr:∀ x ∈ sc.names,x.2= .free->X.env.kindOf x.1=some .cell ∨ X.env.kindOf x.1=some .free
 nc:∀ x ∈ sc.names,x.2 ≠ .cell
 kind:sc.kind= .function
 nm:∀ x ∈ sc.names,x.2= .local->sc.names.lookup x.1=some .local
 len:cap.length=N'.length
 cp:∀ (j i:Nat) (x:Str),N'[j]?=some x->cap[j]?=some (some i)->X.N[i]?=some x/\sc.names.lookup x=some .free
noncomputable def ago (wi:TI) (cap:List (Option Nat)) (g:TG) (tt:TT) (te:TE):TE:=fun σ H Q=>wi σ H fun J H1=>
 ∃ W:Nat->Nat->St->List V->Hp->Prop,(∃ m,W 0 m (Js cap σ) [] H1)/\∀ i m τ ys H,W i m τ ys H->ys.length < sizeLine/\
  ((J.stop i H/\∀ l,H l=none->Q (.ref l) (upd H l (.lst ys))) ∨
   (J.go i H/\∀ x H',J.yld i H x H'->g x τ H' fun τ2 H2=>tt τ2 H2 fun b H3=>if b=true then te τ2 H3 fun y H4=>∃ m',m' < m/\W (i+1) m' τ2 (ys++[y]) H4 else ∃ m',m' < m/\W (i+1) m' τ2 ys H3))
theorem Inv.track {X:Cx}{pins:List (Addr × Obj)}{σ:St}{H:Hp}{s:Shared}{D:Addr}{o:HO} (I:Inv X pins σ H s) (hn:H D=none) (h1:X.s₀.heap.objs.size<=D) (h2:D ≠ X.env.locals) (h3:∀ x c,X.env.cells.lookup x=some c->c ≠ D)
  (h4:∀ p ∈ X.pn++pins,p.1 ≠ D) (new:qO X.prog X.w (upd H D o) s.heap D o):Inv X pins σ (upd H D o) s:=by
 have nd:∀ b u,H b=some u->b ≠ D:=fun b u e z=>by rw [z,hn] at e; cases e
 have hok:HOk X.prog X.w (upd H D o) s.heap:=fun b u e=>by
  by_cases hb:b=D
  ·subst hb; rw [jq] at e; cases e; exact new
  ·rw [jm hb] at e
   exact (I.hok b u e).stay (fun _ _ _ q=>q) (fun c q=>by rw [jm (nd c _ q)]; exact q) fun c xs q=>by rw [jm (nd c _ q)]; exact q
 refine I.step (h':=s.heap) (g':=s.gens) (d':=s.drawn) (t':=s.toks) (ch:=[D]) (fun b hb=>?_) (fun b o _ _ _ e _=>e) (fun b o _ _ _ e _=>⟨o.slots,e⟩) (fun b o hc _ n=>?_) (fun b o _ e=>⟨o,e⟩) (fun b xs e=>by rw [jm (nd b _ e)]; exact e)
  (fun b ob u e=>by rw [jm (nd b _ e)]; exact e) (fun b ps e=>⟨#[],by rw [jm (nd b _ e),e]; simp⟩) (fun m hm=>hm) hok I.bare
 ·have e:b=D:=by simpa using hb
  subst e
  exact ⟨.inr h1,h2,h3,h4⟩
 ·have e:b ≠ D:=by simpa using hc
  rw [jm e]; exact n
theorem aku {X : Cx} {el tg src : Expr} {ts : List Expr} {sc : Scope} {ps : Pos} {wi : TI} {g : TG} {tt : TT} {te : TE} {N' : List Str} {cap : List (Option Nat)} (hc : X.calm = true) (hi : PI X tg src wi) (ok : CompOk X sc N' cap)
    (body : ∀ cl C s0 H0 fp pn, PG (blk X N' sc cl C s0 H0 fp pn) tg g /\ PTs (blk X N' sc cl C s0 H0 fp pn) ts tt /\ PE (blk X N' sc cl C s0 H0 fp pn) el te)
    (hs : ∀ x, foldedSetIterable src X.env x = pure x := by intro _; rfl) : PE X (.ListComp el [⟨tg, src, ts, 0⟩] sc ps) (ago wi cap g tt te) := by
  intro pins s σ H Q I h
  have hfr : ∀ x ∈ sc.names, x.2 = .free -> ∃ c, X.env.cells.lookup x.1 = some c := fun x hx e => I.ok.has x.1 (ok.fr x hx e)
  have hcl := aa1 sc X.env hfr
  have clm : ∀ x c, (zF X.env sc.names []).lookup x = some c -> X.env.cells.lookup x = some c := fun x c e =>
    JC X.env sc.names [] hfr (fun _ z => nomatch z) (x, c) (PySem.mem_of_lookup e)
  generalize hgl : zF X.env sc.names [] = cl at hcl clm
  rw [eval_ListComp]
  refine wpAny_comprehension_free (use := none) rfl hs hcl ok.kind ok.nm ?_
  refine thn (hi pins s σ H _ I h) fun v s1 h1 => thn h1 fun itv s2 h2 => ?_
  obtain ⟨it, fp, tn, J, H2, e, I2, T, st2, f2, W, ⟨m0, w0⟩, turn⟩ := h2
  subst e
  refine wpAny_newObj_type (wpAny_newFunctionEnv ok.nc (by intro y hy; simp at hy) (fun h4 hns hsb => ?_) ok.kind)
  dsimp only at hns hsb ⊢
  generalize hH3 : s2.heap.push { cls := .type "list", dict := none, data := .seq ([] : List Value).toArray } = h3 at hns hsb ⊢
  have hC : h3.objs.size = s2.heap.objs.size + 1 := by rw [← hH3, Heap.size_push]
  generalize hCC : h3.objs.size = C at hns hsb hC ⊢
  generalize hDD : s2.heap.objs.size = D at hC ⊢
  have hDC : D ≠ C := by rw [hC]; exact Nat.ne_of_lt (Nat.lt_succ_self _)
  have old : ∀ b o, s2.heap.get? b = some o -> h4.get? b = some o := fun b o e => hsb.extBut b o (by have := Heap.lt_size e; rw [hDD] at this; rw [hC]; exact Nat.ne_of_lt (Nat.lt_succ_of_lt this)) (Heap.get?_push_of_some _ (hH3 ▸ Heap.get?_push_of_some _ e))
  have accO : h4.get? D = some { cls := .type "list", data := .seq ([] : List Value).toArray 0 } := hsb.extBut _ _ hDC (Heap.get?_push_of_some _ (by rw [← hH3, ← hDD]; exact Heap.get?_push_size _ rfl))
  have H2D : H2 D = none := I2.hok.fresh (by rw [hDD]; exact Nat.le_refl _)
  have H2C : H2 C = none := I2.hok.fresh (by rw [hDD, hC]; exact Nat.le_succ _)
  have cellsLt : ∀ x c, X.env.cells.lookup x = some c -> c < D := fun x c e => by
    obtain ⟨v, q⟩ := I2.cell x c e
    rw [← hDD]; exact q.lt
  have pinLt : ∀ p ∈ X.pn ++ pins, p.1 < D := fun p hp => by rw [← hDD]; exact Heap.lt_size (I2.pin p hp).1
  have stkLt : ∀ b ∈ frs X.stack, b < D := fun b hb => by
    obtain ⟨_, o, ho, _⟩ := I2.stack.mem hb
    rw [← hDD]; exact Heap.lt_size ho
  have fpLt : ∀ b ∈ fp, b < D := fun b hb => by
    obtain ⟨o, ho, _⟩ := T.obj _ _ st2 b hb
    rw [← hDD]; exact Heap.lt_size ho
  have ltC : ∀ {b : Addr}, b < D -> b ≠ C := fun hb => by rw [hC]; exact Nat.ne_of_lt (Nat.lt_succ_of_lt hb)
  have locLt : X.env.locals < D := by rw [← hDD]; exact I2.lt
  have hDge : s2.heap.objs.size <= D := by rw [hDD]; exact Nat.le_refl _
  have hCge : s2.heap.objs.size <= C := by rw [hDD, hC]; exact Nat.le_succ _
  have bok : (blk X N' sc cl C s2 H2 fp (X.pn ++ pins)).Ok := by
    refine ⟨I2.ok.mod, ok.kind, I2.ok.glob, I2.ok.blt, hCge, fun x y c e1 e2 => I2.ok.inj x y c (clm x c e1) (clm y c e2), fun x hx => ?_, fun x c z _ => ?_, I2.ok.hd, I2.ok.frames, .inl rfl, fun b hb => ?_, I2.bs, Nat.le_trans I2.ok.bsz I2.sz, fun b o e hb => ?_, fun b hb z => ?_, I2.stack, I2.stkFree⟩
    · have hx' : (relabel sc X.env).names.lookup x = some .cell ∨ (relabel sc X.env).names.lookup x = some .free := hx
      have hm : (x, NameKind.free) ∈ sc.names := by
        rcases hx' with z | z
        · exact qU (PySem.mem_of_lookup z) ok.nc (.inl rfl)
        · exact qU (PySem.mem_of_lookup z) ok.nc (.inr rfl)
      obtain ⟨c, hc⟩ := qE X.env sc.names [] x hm
      rw [hgl] at hc
      exact j2 hc
    · exact absurd (show false = true from z) Bool.false_ne_true
    · exact ⟨ltC (fpLt b hb), fun x c e => (f2 b hb).2.2.2.2.1 x c (clm x c e)⟩
    · rcases (f2 b hb).2.2.2.1 with z | z
      · exact I2.ok.noex b o e z
      · have := Heap.lt_size e
        exact absurd (Nat.lt_of_lt_of_le this (Nat.le_trans I2.ok.bsz z)) (Nat.lt_irrefl _)
    · rcases List.mem_cons.mp (I2.stkSub b z) with q | q
      · exact (f2 b hb).2.1 q
      · exact (f2 b hb).2.2.1 q
  have pinB : ∀ p ∈ X.pn ++ pins, p.1 ≠ C /\ p.1 ∉ frs X.stack := fun p hp => ⟨ltC (pinLt p hp), fun z => by
    rcases List.mem_cons.mp (I2.stkSub p.1 z) with q | q
    · exact (I2.pin p hp).2.2.1 q
    · exact (I2.pin p hp).2.2.2.1 q⟩
  have I4 : Inv (blk X N' sc cl C s2 H2 fp (X.pn ++ pins)) [] (Js cap σ) H2 { s2 with heap := h4, toks := s2.toks + ([] : List (Str × Value)).length } := by
    refine ⟨bok, rfl, I2.bare, Un.kept old, ⟨_, hns, fun j x v e1 e2 e3 => ?_⟩, fun x c e => ?_, H2C, fun x c e => I2.freeC x c (clm x c e), fun p hp => ?_, I2.hok.kept old, ?_⟩
    · unfold Js at e2
      rw [List.getElem?_map] at e2
      cases e4 : cap[j]? with
      | none => rw [e4] at e2; cases e2
      | some o =>
        rw [e4] at e2
        cases o with
        | none => cases e2
        | some i =>
          obtain ⟨hNi, hf⟩ := ok.cp j i x e1 e4
          have e5 : (σ[i]?).join = some v := by
            have := Option.some.inj e2
            simpa using this
          have e6 : σ[i]? = some (some v) := by
            cases e7 : σ[i]? with
            | none => rw [e7] at e5; cases e5
            | some z => rw [e7] at e5; cases z with
              | none => cases e5
              | some z => cases e5; rfl
          have hk := ok.fr (x, .free) (PySem.mem_of_lookup hf) rfl
          obtain ⟨m, hn, hl⟩ := I2.loc
          have hv : Vis X.env.scope x := by
            rcases hk with z | z
            · exact .inr (.inl z)
            · exact .inr (.inr z)
          obtain ⟨u, r, lk⟩ := hl i x v hNi e6 hv
          have cellX : ∃ c, X.env.cells.lookup x = some c /\ s2.heap.IsCell c (some u) := by
            rcases lk with ⟨k1, _⟩ | ⟨_, c, e, z⟩
            · rcases hk with z | z
              · have z' : X.env.kindOf x = some .cell := z
                rw [k1] at z'; cases z'
              · have z' : X.env.kindOf x = some .free := z
                rw [k1] at z'; cases z'
            · exact ⟨c, e, z⟩
          obtain ⟨c, hc1, ob, hc2, hc3⟩ := cellX
          obtain ⟨c', hc'⟩ := qE X.env sc.names [] x (PySem.mem_of_lookup hf)
          rw [hgl] at hc'
          obtain ⟨d, hd⟩ := j2 hc'
          have ed : d = c := by
            have := clm x d hd
            rw [hc1] at this; cases this; rfl
          subst ed
          refine ⟨u, r, .inr ⟨?_, d, hd, ob, old _ _ hc2, hc3⟩⟩
          exact qZ hf
    · obtain ⟨v, ob, ho, hd⟩ := I2.cell x c (clm x c e)
      exact ⟨v, ob, old _ _ ho, hd⟩
    · have hp' : p ∈ X.pn ++ pins := by simpa [blk] using hp
      obtain ⟨e1, e2, e3, e4, e5⟩ := I2.pin p hp'
      exact ⟨old _ _ e1, e2, (pinB p hp').1, (pinB p hp').2, e5⟩
    · show (Js cap σ).length = N'.length
      unfold Js
      rw [List.length_map]; exact ok.len
  have fpB : ∀ {H' : Hp} {pl : List (Addr × Obj)}, (∀ b ∈ fp, H' b = none) -> (∀ p ∈ pl, p.1 ∉ fp) -> ∀ b ∈ fp, abn (blk X N' sc cl C s2 H2 fp (X.pn ++ pins)) pl H' b := fun {H' pl} hn hpl b hb =>
    ⟨hn b hb, ltC (fpLt b hb), bok.exfs b hb, .inl hb, fun x c e => (f2 b hb).2.2.2.2.1 x c (clm x c e), fun p hp z => by
      rcases List.mem_append.mp (show p ∈ (X.pn ++ pins) ++ pl from hp) with q | q
      · exact (f2 b hb).2.2.2.2.2 p q z
      · exact hpl p q (by rw [z]; exact hb)⟩
  have Dfp : ∀ (o : Obj), ∀ p ∈ [(D, o)], p.1 ∉ fp := fun o p hp z => by
    have e : p = (D, o) := by simpa using hp
    subst e
    exact Nat.lt_irrefl _ (fpLt D z)
  have Dfs : D ∉ frs X.stack := fun z => Nat.lt_irrefl _ (stkLt D z)
  obtain ⟨bG, bT, bE⟩ := body cl C s2 H2 fp (X.pn ++ pins)
  have loop : codeAny (model X.prog X.w) X.A (.compLoop (.ListComp el [⟨tg, src, ts, 0⟩] sc ps) 0 (.ref it) (.ref D) (compEnvC sc cl C X.env)) (compPost (model X.prog X.w) X.A X.xe none (EP X pins σ Q) (.ref D) C)
      { s2 with heap := h4, toks := s2.toks + ([] : List (Str × Value)).length } := by
    refine aai (fun n s' => ∃ i τ ys us k H', Inv (blk X N' sc cl C s2 H2 fp (X.pn ++ pins)) [] τ H' s' /\ tn i s'.heap /\ (∀ b ∈ fp, H' b = none) /\ jC ys us /\ s'.heap.get? D = some { cls := .type "list", data := .seq us.toArray k } /\ H' D = none /\ W i n τ ys H') ?_ m0
      ⟨0, _, [], [], 0, H2, I4, T.keep _ _ _ st2 (fun b _ o e => old b o e), fun b hb => (f2 b hb).1, .nil, accO, H2D, w0⟩
    rintro n s5 ⟨i, τ, ys, us, k, H5, I5, st5, fr5, rv5, ho5, hD5, w5⟩
    obtain ⟨hsz, alt⟩ := turn i n τ ys H5 w5
    have I5p : Inv (blk X N' sc cl C s2 H2 fp (X.pn ++ pins)) [(D, { cls := .type "list", data := .seq us.toArray k })] τ H5 s5 := I5.pins_of fun p hp => by
      have e : p = (D, { cls := .type "list", data := .seq us.toArray k }) := by simpa using hp
      subst e
      exact ⟨ho5, hD5, hDC, Dfs, fun v z => by cases z⟩
    rcases alt with ⟨stop, fin⟩ | ⟨go, step⟩
    · refine thn (T.done (blk X N' sc cl C s2 H2 fp (X.pn ++ pins)) rfl rfl rfl hc i _ s5 τ H5 NoX I5p (fpB fr5 (Dfp _)) st5 stop) fun r s6 ⟨hr, I6⟩ => ?_
      subst hr
      have ho6 := (I6.pin (D, _) (List.mem_append_right _ (List.mem_singleton.mpr rfl))).1
      obtain ⟨m6, hn6, _⟩ := I6.loc
      refine ⟨m6, hn6, fun h7 hs7 => ?_⟩
      have J6 : Inv X pins σ H5 s6 := I2.call' (ch := fp) I6.os I6.base I6.hok I6.bare fun b hb => ⟨(f2 b hb).2.2.2.1, (f2 b hb).2.1, (f2 b hb).2.2.2.2.1, (f2 b hb).2.2.2.2.2⟩
      have H5C : H5 C = none := I6.free
      have cne : ∀ {b : Addr}, b < D -> b ≠ C := ltC
      have J7 : Inv X pins σ H5 { s6 with heap := h7, toks := s6.toks } := J6.turned (it := C) (fun b o hb e => hs7.extBut b o hb e) H5C (Ne.symm (ltC locLt)) (.inr (Nat.le_trans I2.sz hCge)) (fun x c e => ltC (cellsLt x c e)) (fun p hp => ltC (pinLt p hp))
      have ho7 : h7.get? D = some { cls := .type "list", data := .seq us.toArray k } := hs7.extBut D _ hDC ho6
      refine ⟨.ref D, upd H5 D (.lst ys), ?_, rfl, fin D hD5⟩
      exact Inv.track J7 hD5 (Nat.le_trans I2.sz hDge) (Ne.symm (Nat.ne_of_lt locLt)) (fun x c e => Nat.ne_of_lt (cellsLt x c e)) (fun p hp => Nat.ne_of_lt (pinLt p hp)) ⟨Nat.le_of_lt hsz, us, k, rv5, ho7⟩
    · refine thn (T.item (blk X N' sc cl C s2 H2 fp (X.pn ++ pins)) rfl rfl rfl hc i _ s5 τ H5 NoX I5p (fpB fr5 (Dfp _)) st5 go) fun r s6 ⟨u, hr, h6⟩ => ?_
      subst hr
      refine thn h6 fun _ s7 ⟨x, H7, I7, r7, y7, st7, fr7⟩ => ?_
      have I7p := I7.pinned (fpB fr7 (Dfp _)) (T.obj _ _ st7)
      refine thn (bG _ s7 τ H7 x u _ I7p r7 (step x H7 y7)) fun _ s8 ⟨τ8, H8, I8, q8⟩ => ?_
      have back : ∀ {τ9 : St} {H9 : Hp} {s9 : Shared}, Inv (blk X N' sc cl C s2 H2 fp (X.pn ++ pins)) ([(D, { cls := .type "list", data := .seq us.toArray k })] ++ Qq fp s7.heap) τ9 H9 s9 ->
          tn (i + 1) s9.heap /\ (∀ b ∈ fp, H9 b = none) /\ s9.heap.get? D = some { cls := .type "list", data := .seq us.toArray k } /\ H9 D = none := fun {τ9 H9 s9} I9 => by
        have pD := I9.pin (D, { cls := .type "list", data := .seq us.toArray k }) (List.mem_append_right _ (List.mem_append_left _ (List.mem_singleton.mpr rfl)))
        refine ⟨T.keep _ _ _ st7 fun b hb o e => (I9.pin (b, o) (List.mem_append_right _ (List.mem_append_right _ (qk hb e)))).1, fun b hb => ?_, pD.1, pD.2.1⟩
        obtain ⟨o, e, _⟩ := T.obj _ _ st7 b hb
        exact (I9.pin (b, o) (List.mem_append_right _ (List.mem_append_right _ (qk hb e)))).2.1
      have drop : ∀ {τ9 : St} {H9 : Hp} {s9 : Shared} {pl : List (Addr × Obj)}, Inv (blk X N' sc cl C s2 H2 fp (X.pn ++ pins)) pl τ9 H9 s9 -> Inv (blk X N' sc cl C s2 H2 fp (X.pn ++ pins)) [] τ9 H9 s9 := fun I9 => I9.pins_of fun p hp => nomatch hp
      refine thn (bT _ s8 τ8 H8 _ I8 q8) fun b s9 ⟨H9, I9, q9⟩ => ?_
      cases b with
      | false =>
        rw [if_neg Bool.false_ne_true] at q9 ⊢
        obtain ⟨m', hm, w9⟩ := q9
        obtain ⟨t9, f9, o9, d9⟩ := back I9
        exact ⟨m', hm, i + 1, τ8, ys, us, k, H9, drop I9, t9, f9, rv5, o9, d9, w9⟩
      | true =>
        rw [if_pos rfl] at q9 ⊢
        refine thn (bE _ s9 τ8 H9 _ I9 q9) fun y s10 ⟨z, H10, I10, r10, q10⟩ => ?_
        obtain ⟨m', hm, w10⟩ := q10
        obtain ⟨t10, f10, o10, d10⟩ := back I10
        have hl := rv5.length
        refine append_at (hsz := by show us.toArray.size <= sizeLine; rw [List.size_toArray, ← hl]; exact Nat.le_of_lt hsz) o10 fun h11 hs11 hD11 => ?_
        have I11 : Inv (blk X N' sc cl C s2 H2 fp (X.pn ++ pins)) [] τ8 H10 { s10 with heap := h11, toks := s10.toks } := (drop I10).turned (it := D) (fun b o hb e => hs11.extBut b o hb e) d10 hDC (.inr hDge) (fun x c e => Nat.ne_of_lt (cellsLt x c (clm x c e)))
          (fun p hp => by have hp' : p ∈ X.pn ++ pins := by simpa [blk] using hp
                          exact Nat.ne_of_lt (pinLt p hp'))
        refine ⟨m', hm, i + 1, τ8, ys ++ [z], us ++ [y], k + 1, H10, I11, T.keep _ _ _ t10 (fun b hb o e => hs11.extBut b o (Nat.ne_of_lt (fpLt b hb)) e), f10, rv5.append (.cons r10 .nil), ?_, d10, w10⟩
        rw [hD11]
        simp
  refine codeAny_compStart_list loop ?_
  exact T.self _ 0 _ _ _ (T.keep _ _ _ st2 (fun b _ o e => old b o e)) loop
theorem jn.tup {K:PySem.W.Frag}{H H':Hp}{a:Addr}{xs:List V} (e:jn H H') (h:SqT K H a xs):SqT K H' a xs:=by
 rcases h with (h | ⟨o,h⟩) | h
 ·exact .inl (.inl (e _ _ h))
 ·exact .inl (.inr ⟨o,e _ _ h⟩)
 ·exact .inr h
noncomputable def scr (ns:List Int):PyData:= .dict (ns.map fun n=>(.int n,.none))
mutual
noncomputable def Rep (K:PySem.W.Frag) (H:Hp):PyData->V->Prop
 | .none,v=>v= .non
 | .bool b,v=>v= .bl b
 | .int i,v=>v= .int i
 | .str x,v=>v= .str x
 | .tuple ds,v=>∃ a xs,v= .ref a/\SqT K H a xs/\Reps K H ds xs
 | .list ds,v=>∃ a xs,v= .ref a/\H a=some (.lst xs)/\Reps K H ds xs
 | .dict kvs,v=>∃ a,v= .ref a/\((∃ ns:List Int,SqL K H a (List.map V.int ns)/\kvs=ns.map (fun n=>(PyData.int n,PyData.none))) ∨ (∃ ks ob,H a=some (.frz ob (.dK ks))/\RepD K H kvs ks) ∨ (∃ x:Str,kvs=[(.str x,.none)]/\PySem.W.nsIn K mainGlobals x=some (some (.ref a))) ∨ ∃ (x:Str) (C:Addr) (oe:Obj),kvs=[(.str x,.bool true)]/\H a=some (.frz oe (.own a))/\PySem.W.nsIn K mainGlobals x=some (some (.ref C))/\oe.cls= .ref C/\oe.dict=none/\∃ vs,oe.data= .fields vs)
noncomputable def Reps (K:PySem.W.Frag) (H:Hp):List PyData->List V->Prop
 | [],xs=>xs=[]
 | d::ds,xs=>∃ x r,xs=x::r/\Rep K H d x/\Reps K H ds r
noncomputable def RepD (K:PySem.W.Frag) (H:Hp):List (PyData × PyData)->List (Key × V)->Prop
 | [],_=>False
 | (.none,_)::r,ks=>RepM K H r ks
 | _::_,_=>False
noncomputable def RepM (K:PySem.W.Frag) (H:Hp):List (PyData × PyData)->List (Key × V)->Prop
 | [],ks=>ks=[]
 | (k,d)::r,ks=>∃ i x s,k= .int i/\ks=(Sum.inl i,x)::s/\Rep K H d x/\RepM K H r s
end
noncomputable def zG (kvs:List (PyData × PyData)):Bool:=kvs.all fun p=>match p with
 | (.int _,.none)=>true
 | _=>false
theorem acK (ns:List Int):zG (ns.map fun n=>(PyData.int n,PyData.none))=true:=by
 simp [zG]
theorem RepD.out {K:PySem.W.Frag}{H:Hp}:∀ {kvs:List (PyData × PyData)}{ks:List (Key × V)},RepD K H kvs ks->∃ c r,kvs=(.none,c)::r/\RepM K H r ks
 | [],_,h=>h.elim
 | (.none,c)::r,ks,h=>⟨c,r,rfl,h⟩
 | (.bool _,_)::_,_,h=>h.elim
 | (.int _,_)::_,_,h=>h.elim
 | (.str _,_)::_,_,h=>h.elim
 | (.list _,_)::_,_,h=>h.elim
 | (.tuple _,_)::_,_,h=>h.elim
 | (.dict _,_)::_,_,h=>h.elim
theorem Rep.scrOut {K:PySem.W.Frag}{H:Hp}{kvs:List (PyData × PyData)}{v:V} (h:Rep K H (.dict kvs) v) (hs:zG kvs=true):∃ a ns,v= .ref a/\SqL K H a (List.map V.int ns)/\kvs=ns.map (fun n=>(PyData.int n,PyData.none)):=by
 obtain ⟨a,h1,h2 | ⟨ks,ob,h2,h3⟩ | ⟨x,h2,_⟩ | ⟨x,_,_,h2,_⟩⟩:=h
 ·obtain ⟨ns,q1,q2⟩:=h2; exact ⟨a,ns,h1,q1,q2⟩
 ·obtain ⟨c,r,rfl,_⟩:=h3.out
  simp [zG] at hs
 ·subst h2; simp [zG] at hs
 ·subst h2; simp [zG] at hs
noncomputable def Jt (x:Str):PyData:= .dict [(.str x,.bool true)]
noncomputable def fnD (x:Str):PyData:= .dict [(.str x,.none)]
noncomputable def jL (H H':Hp):Prop:=∀ b o,H b=some o->(∀ φ,o ≠ .ext φ)->H' b=some o
theorem jn.e {H H':Hp} (s:jn H H'):jL H H':=fun b o h _=>s b o h
theorem jL.refl (H:Hp):jL H H:=fun _ _ h _=>h
theorem jL.trans {H H1 H2:Hp} (a:jL H H1) (b:jL H1 H2):jL H H2:=fun c o h n=>b c o (a c o h n) n
theorem jL.tup {K:PySem.W.Frag}{H H':Hp}{a:Addr}{xs:List V} (e:jL H H') (h:SqT K H a xs):SqT K H' a xs:=by
 rcases h with (h | ⟨o,h⟩) | h
 ·exact .inl (.inl (e _ _ h fun _ z=>nomatch z))
 ·exact .inl (.inr ⟨o,e _ _ h fun _ z=>nomatch z⟩)
 ·exact .inr h
theorem jL.sql {K:PySem.W.Frag}{H H':Hp}{a:Addr}{xs:List V} (e:jL H H') (h:SqL K H a xs):SqL K H' a xs:=by
 rcases h with (h | ⟨o,h⟩) | h
 ·exact .inl (.inl (e _ _ h fun _ z=>nomatch z))
 ·exact .inl (.inr ⟨o,e _ _ h fun _ z=>nomatch z⟩)
 ·exact .inr h
section
variable {K:PySem.W.Frag}{H H':Hp}
mutual
theorem Rep.mono (e:jn H H'):∀ (d:PyData) (v:V),Rep K H d v->Rep K H' d v
 | .none,v,h=>h
 | .bool _,v,h=>h
 | .int _,v,h=>h
 | .str _,v,h=>h
 | .tuple ds,v,⟨a,xs,h1,h2,h3⟩=>⟨a,xs,h1,jn.tup e h2,Reps.mono e ds xs h3⟩
 | .list ds,v,⟨a,xs,h1,h2,h3⟩=>⟨a,xs,h1,e _ _ h2,Reps.mono e ds xs h3⟩
 | .dict kvs,v,⟨a,h1,h2⟩=>⟨a,h1,h2.imp (fun ⟨ns,q1,q2⟩=>⟨ns,e.seq q1,q2⟩) fun z=>z.imp (fun ⟨ks,ob,q1,q2⟩=>⟨ks,ob,e _ _ q1,RepD.mono e kvs ks q2⟩) fun y=>y.imp id fun ⟨x,C,oe,q1,q2,q3⟩=>⟨x,C,oe,q1,e _ _ q2,q3⟩⟩
theorem Reps.mono (e:jn H H'):∀ (ds:List PyData) (xs:List V),Reps K H ds xs->Reps K H' ds xs
 | [],xs,h=>h
 | d::ds,xs,⟨x,r,h1,h2,h3⟩=>⟨x,r,h1,Rep.mono e d x h2,Reps.mono e ds r h3⟩
theorem RepD.mono (e:jn H H'):∀ (kvs:List (PyData × PyData)) (ks:List (Key × V)),RepD K H kvs ks->RepD K H' kvs ks
 | [],_,h=>h
 | (.none,c)::r,ks,h=>RepM.mono e r ks h
 | (.bool _,_)::_,_,h=>h
 | (.int _,_)::_,_,h=>h
 | (.str _,_)::_,_,h=>h
 | (.list _,_)::_,_,h=>h
 | (.tuple _,_)::_,_,h=>h
 | (.dict _,_)::_,_,h=>h
theorem RepM.mono (e:jn H H'):∀ (kvs:List (PyData × PyData)) (ks:List (Key × V)),RepM K H kvs ks->RepM K H' kvs ks
 | [],_,h=>h
 | (k,d)::r,ks,⟨i,x,s,h1,h2,h3,h4⟩=>⟨i,x,s,h1,h2,Rep.mono e d x h3,RepM.mono e r s h4⟩
end
mutual
theorem Rep.monoE (e:jL H H'):∀ (d:PyData) (v:V),Rep K H d v->Rep K H' d v
 | .none,v,h=>h
 | .bool _,v,h=>h
 | .int _,v,h=>h
 | .str _,v,h=>h
 | .tuple ds,v,⟨a,xs,h1,h2,h3⟩=>⟨a,xs,h1,jL.tup e h2,Reps.monoE e ds xs h3⟩
 | .list ds,v,⟨a,xs,h1,h2,h3⟩=>⟨a,xs,h1,e _ _ h2 (fun _ z=>nomatch z),Reps.monoE e ds xs h3⟩
 | .dict kvs,v,⟨a,h1,h2⟩=>⟨a,h1,h2.imp (fun ⟨ns,q1,q2⟩=>⟨ns,jL.sql e q1,q2⟩) fun z=>z.imp (fun ⟨ks,ob,q1,q2⟩=>⟨ks,ob,e _ _ q1 (fun _ z=>nomatch z),RepD.monoE e kvs ks q2⟩) fun y=>y.imp id fun ⟨x,C,oe,q1,q2,q3⟩=>⟨x,C,oe,q1,e _ _ q2 (fun _ z=>nomatch z),q3⟩⟩
theorem Reps.monoE (e:jL H H'):∀ (ds:List PyData) (xs:List V),Reps K H ds xs->Reps K H' ds xs
 | [],xs,h=>h
 | d::ds,xs,⟨x,r,h1,h2,h3⟩=>⟨x,r,h1,Rep.monoE e d x h2,Reps.monoE e ds r h3⟩
theorem RepD.monoE (e:jL H H'):∀ (kvs:List (PyData × PyData)) (ks:List (Key × V)),RepD K H kvs ks->RepD K H' kvs ks
 | [],_,h=>h
 | (.none,c)::r,ks,h=>RepM.monoE e r ks h
 | (.bool _,_)::_,_,h=>h
 | (.int _,_)::_,_,h=>h
 | (.str _,_)::_,_,h=>h
 | (.list _,_)::_,_,h=>h
 | (.tuple _,_)::_,_,h=>h
 | (.dict _,_)::_,_,h=>h
theorem RepM.monoE (e:jL H H'):∀ (kvs:List (PyData × PyData)) (ks:List (Key × V)),RepM K H kvs ks->RepM K H' kvs ks
 | [],_,h=>h
 | (k,d)::r,ks,⟨i,x,s,h1,h2,h3,h4⟩=>⟨i,x,s,h1,h2,Rep.monoE e d x h3,RepM.monoE e r s h4⟩
end
theorem Reps.length:∀ {ds:List PyData}{xs:List V},Reps K H ds xs->xs.length=ds.length
 | [],xs,h=>by cases h; rfl
 | d::ds,xs,⟨x,r,h1,h2,h3⟩=>by subst h1; simp [Reps.length h3]
theorem Reps.get:∀ {ds:List PyData}{xs:List V}{i:Nat}{d:PyData},Reps K H ds xs->ds[i]?=some d->∃ x,xs[i]?=some x/\Rep K H d x
 | [],xs,i,d,h,e=>by simp at e
 | c::ds,xs,0,d,⟨x,r,h1,h2,h3⟩,e=>by subst h1; simp at e; subst e; exact ⟨x,rfl,h2⟩
 | c::ds,xs,i+1,d,⟨x,r,h1,h2,h3⟩,e=>by
  subst h1
  obtain ⟨y,e1,e2⟩:=Reps.get (i:=i) h3 (by simpa using e)
  exact ⟨y,by simpa using e1,e2⟩
theorem Reps.append:∀ {ds es:List PyData}{xs ys:List V},Reps K H ds xs->Reps K H es ys->Reps K H (ds++es) (xs++ys)
 | [],es,xs,ys,h,g=>by cases h; exact g
 | d::ds,es,xs,ys,⟨x,r,h1,h2,h3⟩,g=>by subst h1; exact ⟨x,r++ys,rfl,h2,Reps.append h3 g⟩
theorem Reps.take:∀ {ds:List PyData}{xs:List V} (n:Nat),Reps K H ds xs->Reps K H (ds.take n) (xs.take n)
 | ds,xs,0,h=>by simp; rfl
 | [],xs,n+1,h=>by cases h; rfl
 | d::ds,xs,n+1,⟨x,r,h1,h2,h3⟩=>by subst h1; exact ⟨x,_,rfl,h2,Reps.take n h3⟩
theorem Reps.drop:∀ {ds:List PyData}{xs:List V} (n:Nat),Reps K H ds xs->Reps K H (ds.drop n) (xs.drop n)
 | ds,xs,0,h=>by simpa using h
 | [],xs,n+1,h=>by cases h; rfl
 | d::ds,xs,n+1,⟨x,r,h1,h2,h3⟩=>by subst h1; simpa using Reps.drop n h3
theorem Reps.ints:∀ {ns:List Int}{xs:List V},Reps K H (ns.map PyData.int) xs->xs=ns.map V.int
 | [],xs,h=>h
 | n::ns,xs,⟨x,r,h1,h2,h3⟩=>by subst h1; cases (show x=V.int n from h2); rw [Reps.ints h3]; rfl
end
section
variable {X:Cx}{pins:List (Addr × Obj)}{σ:St}{H:Hp}{s:Shared}
mutual
theorem za (I:Inv X pins σ H s):∀ (d:PyData) (v:V) (u:Value),Rep X.K H d v->jQ v u->d.canLay0=true->∃ as,Reads s.heap u d as
 | .none,v,u,h,r,_=>by cases h; cases r; exact ⟨_,.none⟩
 | .bool b,v,u,h,r,_=>by cases h; cases r; exact ⟨_,.bool b⟩
 | .int i,v,u,h,r,_=>by cases h; obtain ⟨t,rfl⟩:=r; exact ⟨_,.int i t⟩
 | .str x,v,u,h,r,_=>by cases h; obtain ⟨t,rfl⟩:=r; exact ⟨_,.str x t⟩
 | .tuple ds,v,u,⟨a,xs,h1,h2,h3⟩,r,hc=>by
  subst h1; cases r
  obtain ⟨its,rv,⟨o,e1,e2,n,e3⟩,_⟩:=I.tuple h2
  obtain ⟨as,ra⟩:=readsAll_of I ds xs its h3 rv (by simpa [PyData.canLay0] using hc)
  exact ⟨as,.tuple e1 e2 e3 (by simpa using ra)⟩
 | .list ds,v,u,⟨a,xs,h1,h2,h3⟩,r,hc=>by
  subst h1; cases r
  obtain ⟨its,rv,⟨o,n,e1,e2,e3,e4⟩,_⟩:=I.list (SqL.of h2)
  obtain ⟨as,ra⟩:=readsAll_of I ds xs its h3 rv (by simpa [PyData.canLay0] using hc)
  exact ⟨a::as,.list e1 e2 e4 (by simpa using ra)⟩
 | .dict kvs,v,u,h,r,hc=>by simp [PyData.canLay0] at hc
theorem readsAll_of (I:Inv X pins σ H s):∀ (ds:List PyData) (xs:List V) (us:List Value),Reps X.K H ds xs->jC xs us->PyData.canLayAll0 ds=true->∃ as,ReadsAll s.heap us ds as
 | [],xs,us,h,r,_=>by cases h; cases r; exact ⟨_,.nil⟩
 | d::ds,xs,us,⟨x,q,h1,h2,h3⟩,r,hc=>by
  subst h1
  cases r with
  | cons r1 r2=>
   have hc':d.canLay0=true/\PyData.canLayAll0 ds=true:=by simpa [PyData.canLayAll0] using hc
   obtain ⟨as,ra⟩:=za I d x _ h2 r1 hc'.1
   obtain ⟨bs,rb⟩:=readsAll_of I ds q _ h3 r2 hc'.2
   exact ⟨_,.cons ra rb⟩
end
end
noncomputable abbrev Rho:=List (Option PyData)
structure EnvR (K:PySem.W.Frag) (H:Hp) (ρ:Rho) (σ:St):Prop where
 len:ρ.length=σ.length
 at':∀ (i:Nat) (d:PyData),ρ[i]?=some (some d)->∃ v,σ[i]?=some (some v)/\Rep K H d v
theorem EnvR.mono {K:PySem.W.Frag}{H H':Hp}{ρ:Rho}{σ:St} (e:EnvR K H ρ σ) (h:jn H H'):EnvR K H' ρ σ:=
 ⟨e.len,fun i d q=>let ⟨v,e1,e2⟩:=e.at' i d q; ⟨v,e1,Rep.mono h d v e2⟩⟩
theorem EnvR.set {K:PySem.W.Frag}{H:Hp}{ρ:Rho}{σ:St} (e:EnvR K H ρ σ) {i:Nat}{d:PyData}{v:V} (r:Rep K H d v):EnvR K H (ρ.set i (some d)) (σ.set i (some v)):=by
 refine ⟨by simp [e.len],fun j c q=>?_⟩
 by_cases hj:i=j
 ·subst hj
  rw [List.getElem?_set] at q ⊢
  simp only [zzM] at q ⊢
  by_cases hl:i < ρ.length
  ·rw [if_pos hl] at q
   rw [if_pos (by rw [←e.len]; exact hl)]
   cases q
   exact ⟨v,rfl,r⟩
  ·rw [if_neg hl] at q; cases q
 ·rw [List.getElem?_set_ne hj] at q ⊢
  exact e.at' j c q
noncomputable def lkp (i:Nat) (ρ:Rho):Option PyData:=(ρ[i]?).join
theorem zZ {i:Nat}{ρ:Rho}{d:PyData} (h:lkp i ρ=some d):ρ[i]?=some (some d):=by
 unfold lkp at h
 cases e:ρ[i]? with
 | none=>rw [e] at h; cases h
 | some o=>rw [e] at h; cases o with
  | none=>cases h
  | some c=>cases h; rfl
noncomputable def tD (K:PySem.W.Frag) (f:Rho->Option PyData):TE:=fun σ H Q=>∃ ρ d,EnvR K H ρ σ/\f ρ=some d/\∀ v H',jn H H'->Rep K H' d v->Q v H'
@[irreducible] noncomputable def PD (X:Cx) (e:Expr) (f:Rho->Option PyData):Prop:=PE X e (tD X.K f)
noncomputable def tDT (K:PySem.W.Frag) (f:Rho->Option Bool):TT:=fun σ H Q=>∃ ρ b,EnvR K H ρ σ/\f ρ=some b/\∀ H',jn H H'->Q b H'
@[irreducible] noncomputable def PTD (X:Cx) (e:Expr) (f:Rho->Option Bool):Prop:=PT X e (tDT X.K f)
noncomputable def tDA (K:PySem.W.Frag) (f:Rho->Option (List PyData)):TA:=fun σ H Q=>∃ ρ ds,EnvR K H ρ σ/\f ρ=some ds/\∀ vs H',jn H H'->Reps K H' ds vs->Q vs H'
@[irreducible] noncomputable def PAD (X:Cx) (es:List Expr) (f:Rho->Option (List PyData)):Prop:=PA X es (tDA X.K f)
inductive Out where
 | nx (ρ:Rho) | rt (d:PyData) | bk (ρ:Rho) | ct (ρ:Rho)
noncomputable def agp (K:PySem.W.Frag) (D:Ends) (H:Hp):Out->Prop
 | .nx ρ=>∀ σ H',jn H H'->EnvR K H' ρ σ->D.nx σ H'
 | .rt d=>∀ v H',jn H H'->Rep K H' d v->D.rt v H'
 | .bk ρ=>∀ σ H',jn H H'->EnvR K H' ρ σ->D.bk σ H'
 | .ct ρ=>∀ σ H',jn H H'->EnvR K H' ρ σ->D.ct σ H'
theorem agp.mono {K:PySem.W.Frag}{D:Ends}{H H':Hp}{o:Out} (h:agp K D H o) (e:jn H H'):agp K D H' o:=by
 cases o with
 | nx ρ=>exact fun σ H2 e2 r=>h σ H2 (e.trans e2) r
 | rt d=>exact fun v H2 e2 r=>h v H2 (e.trans e2) r
 | bk ρ=>exact fun σ H2 e2 r=>h σ H2 (e.trans e2) r
 | ct ρ=>exact fun σ H2 e2 r=>h σ H2 (e.trans e2) r
noncomputable def tDS (K:PySem.W.Frag) (F:Rho->Option Out):TS:=fun D σ H=>∃ ρ o,EnvR K H ρ σ/\F ρ=some o/\agp K D H o
@[irreducible] noncomputable def PSD (X:Cx) (st:Stmt) (F:Rho->Option Out):Prop:=PS X st (tDS X.K F)
@[irreducible] noncomputable def Qn (X:Cx) (st:List Stmt) (F:Rho->Option Out):Prop:=PSs X st (tDS X.K F)
noncomputable def tDG (K:PySem.W.Frag) (ga:PyData->Rho->Option Rho):TG:=fun v σ H Q=>∃ ρ d ρ',EnvR K H ρ σ/\Rep K H d v/\ga d ρ=some ρ'/\∀ σ' H',jn H H'->EnvR K H' ρ' σ'->Q σ' H'
@[irreducible] noncomputable def PGD (X:Cx) (tg:Expr) (ga:PyData->Rho->Option Rho):Prop:=PG X tg (tDG X.K ga)
section
variable {X:Cx}{e a b c:Expr}{es:List Expr}{fa fb fc:Rho->Option PyData}{pos:Pos}
theorem PE.imp {t t':TE} (h:PE X e t) (hi:∀ σ H Q,t' σ H Q->t σ H Q):PE X e t':=fun pins s σ H Q I q=>h pins s σ H Q I (hi σ H Q q)
theorem PT.imp {t t':TT} (h:PT X e t) (hi:∀ σ H Q,t' σ H Q->t σ H Q):PT X e t':=fun pins s σ H Q I q=>h pins s σ H Q I (hi σ H Q q)
theorem PA.imp {t t':TA} (h:PA X es t) (hi:∀ σ H Q,t' σ H Q->t σ H Q):PA X es t':=fun pos pins s σ H Q I q=>h pos pins s σ H Q I (hi σ H Q q)
theorem PS.imp {st:Stmt}{t t':TS} (h:PS X st t) (hi:∀ D σ H,t' D σ H->t D σ H):PS X st t':=fun pins s σ H D I q=>h pins s σ H D I (hi D σ H q)
theorem PSs.imp {st:List Stmt}{t t':TS} (h:PSs X st t) (hi:∀ D σ H,t' D σ H->t D σ H):PSs X st t':=fun pins s σ H D I q=>h pins s σ H D I (hi D σ H q)
theorem PG.imp {t t':TG} (h:PG X e t) (hi:∀ v σ H Q,t' v σ H Q->t v σ H Q):PG X e t':=fun pins s σ H v u Q I r q=>h pins s σ H v u Q I r (hi v σ H Q q)
theorem jb (i:Nat) {x:Str}{pos:Pos} (hN:X.N[i]?=some x:=by rfl) (hv:Vis X.env.scope x:=by first | exact Or.inl rfl | exact Or.inr (Or.inl rfl) | exact Or.inr (Or.inr rfl)) (hd:(x == ("__debug__":Str))=false:=by decide)
  (hcd:(x == ("__classdict__":Str))=false:=by decide):PD X (.Name x pos) (lkp i):=by
 with_unfolding_all exact (PE.imp (adh hN hv hd hcd) fun σ H Q ⟨ρ,d,e,h,k⟩=>let ⟨v,e1,e2⟩:=e.at' i d (zZ h); ⟨v,e1,k v H (jn.refl H) e2⟩)
noncomputable def cst (d:PyData) (_:Rho):Option PyData:=some d
theorem jh {i j pos}:PD X (.Constant (.int i) j pos) (cst (.int i)):=by
 with_unfolding_all exact (PE.imp alV fun σ H Q ⟨ρ,d,e,h,k⟩=>by cases h; exact k _ H (jn.refl H) rfl)
theorem Jj {i j pos}:PD X (.Constant (.bool i) j pos) (cst (.bool i)):=by
 with_unfolding_all exact (PE.imp am8 fun σ H Q ⟨ρ,d,e,h,k⟩=>by cases h; exact k _ H (jn.refl H) rfl)
theorem zo {j pos}:PD X (.Constant .none j pos) (cst .none):=by
 with_unfolding_all exact (PE.imp ah1 fun σ H Q ⟨ρ,d,e,h,k⟩=>by cases h; exact k _ H (jn.refl H) rfl)
theorem adq {i j pos}:PD X (.Constant (.str i) j pos) (cst (.str i)):=by
 with_unfolding_all exact (PE.imp ah2 fun σ H Q ⟨ρ,d,e,h,k⟩=>by cases h; exact k _ H (jn.refl H) rfl)
theorem akv {x:Str}{v:V}{u:Value}{d:PyData} (hg:Gl X x) (hm:X.mg x=some u) (r:jQ v u) (hr:∀ H,Rep X.K H d v) (hd:(x == ("__debug__":Str))=false:=by decide):PD X (.Name x pos) (cst d):=by
 with_unfolding_all exact (PE.imp (aaZ hg hm r hd) fun σ H Q ⟨ρ,d',e,h,k⟩=>by cases h; exact k _ H (jn.refl H) (hr H))
noncomputable def op2 (g:PyData->PyData->Option PyData) (fa fb:Rho->Option PyData):Rho->Option PyData:=fun ρ=>(fa ρ).bind fun x=>(fb ρ).bind fun y=>g x y
noncomputable def OpD (X:Cx) (f:Value->Value->Sem Value) (g:PyData->PyData->Option PyData):Prop:=
 ∃ r,OpR X f r/\∀ p q d x y H Q,g p q=some d->Rep X.K H p x->Rep X.K H q y->(∀ v H',jn H H'->Rep X.K H' d v->Q v H')->r x y H Q
theorem akw {g:PyData->PyData->Option PyData}{K:PySem.W.Frag}{r:R2} (hr:∀ p q d x y H Q,g p q=some d->Rep K H p x->Rep K H q y->(∀ v H',jn H H'->Rep K H' d v->Q v H')->r x y H Q)
  {σ:St} {H:Hp} {Q:VK} (h:tD K (op2 g fa fb) σ H Q):tOp r (tD K fa) (tD K fb) σ H Q:=by
 obtain ⟨ρ,d,e,h,k⟩:=h
 unfold op2 at h
 cases ha:fa ρ with
 | none=>rw [ha] at h; cases h
 | some p=>
  rw [ha] at h
  cases hb:fb ρ with
  | none=>rw [hb] at h; cases h
  | some q=>
   rw [hb] at h
   refine ⟨ρ,p,e,ha,fun x H1 s1 r1=>⟨ρ,q,e.mono s1,hb,fun y H2 s2 r2=>?_⟩⟩
   exact hr p q d x y H2 Q h (Rep.mono s2 p x r1) r2 fun v H' s3 r3=>k v H' (s1.trans (s2.trans s3)) r3
theorem jp {op:Operator}{g:PyData->PyData->Option PyData} (ho:OpD X (binaryOp op) g) (ha:PD X a fa) (hb:PD X b fb):PD X (.BinOp a op b pos) (op2 g fa fb):=by
 with_unfolding_all
  obtain ⟨r,h1,h2⟩:=ho
  exact PE.imp (anj h1 ha hb) fun σ H Q h=>akw h2 h
theorem aip {op:CmpOp}{g:PyData->PyData->Option PyData} (ho:OpD X (compareOp op) g) (ha:PD X a fa) (hb:PD X b fb) (hm:behindInMarks op b=false:=by first | exact aia _ | with_unfolding_all rfl):PD X (.Compare a [op] [b] pos) (op2 g fa fb):=by
 with_unfolding_all
  obtain ⟨r,h1,h2⟩:=ho
  exact PE.imp (akb h1 ha hb hm) fun σ H Q h=>akw h2 h
noncomputable def asB:PyData->Option Bool
 | .bool b=>some b
 | _=>none
noncomputable def tst (f:Rho->Option PyData):Rho->Option Bool:=fun ρ=>(f ρ).bind asB
theorem Qs {d:PyData}{b:Bool} (h:asB d=some b):d= .bool b:=by
 cases d <;> simp [asB] at h
 rw [h]
theorem jS {op:CmpOp}{g:PyData->PyData->Option PyData} (ho:OpD X (compareOp op) g) (ha:PD X a fa) (hb:PD X b fb) (hm:behindInMarks op b=false:=by first | exact aia _ | with_unfolding_all rfl):PTD X (.Compare a [op] [b] pos) (tst (op2 g fa fb)):=by
 with_unfolding_all
  obtain ⟨r,h1,h2⟩:=ho
  refine PT.imp (akc h1 ha hb hm) fun σ H Q ⟨ρ,t,e,h,k⟩=>?_
  cases hd:op2 g fa fb ρ with
  | none=>simp [tst,hd] at h
  | some d=>
   have ht:d= .bool t:=Qs (by simpa [tst,hd] using h)
   subst ht
   exact akw h2 ⟨ρ,_,e,hd,fun v H' s r=>⟨t,r,k H' s⟩⟩
theorem zb (h:PD X e fa) (he:∀ whole,isTrue e X.env whole=(do let v ←whole; standAt e.pos; holding [v] (truthy v)):=by intro _; rfl):PTD X e (tst fa):=by
 with_unfolding_all
  refine PT.imp (alW h he) fun σ H Q ⟨ρ,t,e,h,k⟩=>?_
  cases hd:fa ρ with
  | none=>simp [tst,hd] at h
  | some d=>
   have ht:d= .bool t:=Qs (by simpa [tst,hd] using h)
   subst ht
   exact ⟨ρ,_,e,hd,fun v H' s r=>⟨t,r,k H' s⟩⟩
variable {ta tb:Rho->Option Bool}{jT:List Expr}
@[irreducible] noncomputable def PWD (X:Cx) (e:Expr) (f:Rho->Option Bool):Prop:=PW X e (tDT X.K f)
theorem PW.imp {t t':TT} (h:PW X e t) (hi:∀ σ H Q,t' σ H Q->t σ H Q):PW X e t':=fun wh pins s σ H Q I q=>h wh pins s σ H Q I (hi σ H Q q)
noncomputable def akx (ta tb:Rho->Option Bool):Rho->Option Bool:=fun ρ=>(ta ρ).bind fun x=>if x=true then tb ρ else some false
noncomputable def orB (ta tb:Rho->Option Bool):Rho->Option Bool:=fun ρ=>(ta ρ).bind fun x=>if x=true then some true else tb ρ
noncomputable def zy (ta:Rho->Option Bool):Rho->Option Bool:=fun ρ=>(ta ρ).map (!·)
theorem ads (ha:PTD X a ta):PWD X (.BoolOp .Or [a] pos) ta:=by
 with_unfolding_all exact (alX ha)
theorem afB (ha:PTD X a ta) (hb:PWD X (.BoolOp .Or (b::jT) pos) tb):PWD X (.BoolOp .Or (a::b::jT) pos) (orB ta tb):=by
 with_unfolding_all
  refine PW.imp (am9 ha hb) fun σ H Q ⟨ρ,t,e,h,k⟩=>?_
  cases h1:ta ρ with
  | none=>simp [orB,h1] at h
  | some x=>
   refine ⟨ρ,x,e,h1,fun H' s=>?_⟩
   cases x with
   | false=>rw [if_neg Bool.false_ne_true]; exact ⟨ρ,t,e.mono s,by simpa [orB,h1] using h,fun H2 s2=>k H2 (s.trans s2)⟩
   | true=>
    rw [if_pos rfl]
    have:t=true:=by simpa [orB,h1] using h.symm
    subst this
    exact k H' s
theorem abw {op:BoolOp}{l:List Expr} (h:PWD X (.BoolOp op l pos) ta):PTD X (.BoolOp op l pos) ta:=by
 with_unfolding_all exact (h.pt)
theorem qx (ha:PTD X a ta):PTD X (.UnaryOp .Not a pos) (zy ta):=by
 with_unfolding_all
  refine PT.imp (alY ha) fun σ H Q ⟨ρ,t,e,h,k⟩=>?_
  cases h1:ta ρ with
  | none=>simp [zy,h1] at h
  | some x=>
   have:(!x)=t:=by simpa [zy,h1] using h
   subst this
   exact ⟨ρ,x,e,h1,fun H' s=>k H' s⟩
noncomputable def ifD (tc:Rho->Option Bool) (fa fb:Rho->Option PyData):Rho->Option PyData:=fun ρ=>(tc ρ).bind fun x=>if x=true then fa ρ else fb ρ
theorem aiq {tc:Rho->Option Bool} (hc:PTD X c tc) (ha:PD X a fa) (hb:PD X b fb):PD X (.IfExp c a b pos) (ifD tc fa fb):=by
 with_unfolding_all
  refine PE.imp (ah3 hc ha hb) fun σ H Q ⟨ρ,d,e,h,k⟩=>?_
  cases h1:tc ρ with
  | none=>simp [ifD,h1] at h
  | some x=>
   refine ⟨ρ,x,e,h1,fun H' s=>?_⟩
   cases x with
   | true=>rw [if_pos rfl]; exact ⟨ρ,d,e.mono s,by simpa [ifD,h1] using h,fun v H2 s2=>k v H2 (s.trans s2)⟩
   | false=>rw [if_neg Bool.false_ne_true]; exact ⟨ρ,d,e.mono s,by simpa [ifD,h1] using h,fun v H2 s2=>k v H2 (s.trans s2)⟩
noncomputable def ju (_:Rho):Option (List PyData):=some []
noncomputable def jg (fa:Rho->Option PyData) (fr:Rho->Option (List PyData)):Rho->Option (List PyData):=fun ρ=>(fa ρ).bind fun x=>(fr ρ).map fun r=>x::r
theorem jd:PAD X [] ju:=by
 with_unfolding_all exact (PA.imp qY fun σ H Q ⟨ρ,d,e,h,k⟩=>by cases h; exact k [] H (jn.refl H) rfl)
theorem ja {fr:Rho->Option (List PyData)} (ha:PD X e fa) (hr:PAD X es fr) (hs:starEach (e::es) X.env=(false,eval e X.env)::starEach es X.env:=by rfl):PAD X (e::es) (jg fa fr):=by
 with_unfolding_all
  refine PA.imp (qg ha hr hs) fun σ H Q ⟨ρ,ds,en,h,k⟩=>?_
  cases h1:fa ρ with
  | none=>simp [jg,h1] at h
  | some x=>
   cases h2:fr ρ with
   | none=>simp [jg,h1,h2] at h
   | some r=>
    have:x::r=ds:=by simpa [jg,h1,h2] using h
    subst this
    exact ⟨ρ,x,en,h1,fun v H1 s1 r1=>⟨ρ,r,en.mono s1,h2,fun vs H2 s2 r2=>k _ H2 (s1.trans s2) ⟨v,vs,rfl,Rep.mono s2 x v r1,r2⟩⟩⟩
noncomputable def few (ds:List PyData):Bool:=decide (ds.length < 1000000)
theorem abx {n:Nat} (h:n < 1000000):n<=sizeLine:=Nat.le_of_lt (Nat.lt_of_lt_of_le h (by rw [sizeLine_eq]; decide))
theorem jD {H:Hp}{p:Addr}{o:HO} (hp:H p=none):jn H (upd H p o):=fun b u h=>by rw [jm (qr h hp)]; exact h
noncomputable def Ju (fr:Rho->Option (List PyData)):Rho->Option PyData:=fun ρ=>(fr ρ).bind fun ds=>if few ds=true then some (.tuple ds) else none
noncomputable def zp (fr:Rho->Option (List PyData)):Rho->Option PyData:=fun ρ=>(fr ρ).bind fun ds=>if few ds=true then some (.list ds) else none
theorem Ja {x1}{fr:Rho->Option (List PyData)} (h:PAD X es fr):PD X (.Tuple es x1 pos) (Ju fr):=by
 with_unfolding_all
  refine PE.imp (aig h) fun σ H Q ⟨ρ,d,e,h,k⟩=>?_
  cases h1:fr ρ with
  | none=>simp [Ju,h1] at h
  | some ds=>
   by_cases hf:few ds=true
   ·have:PyData.tuple ds=d:=by simpa [Ju,h1,hf] using h
    subst this
    refine ⟨ρ,ds,e,h1,fun vs H1 s1 r1=>⟨abx (by rw [r1.length]; simpa [few] using hf),fun p hp=>k _ _ (s1.trans (jD hp)) ⟨p,vs,rfl,SqT.of jq,Reps.mono (jD hp) _ _ r1⟩⟩⟩
   ·simp [Ju,h1,hf] at h
theorem Zf {fr:Rho->Option (List PyData)} (h:PAD X es fr):PD X (.List es pos) (zp fr):=by
 with_unfolding_all
  refine PE.imp (afx h) fun σ H Q ⟨ρ,d,e,h,k⟩=>?_
  cases h1:fr ρ with
  | none=>simp [zp,h1] at h
  | some ds=>
   by_cases hf:few ds=true
   ·have:PyData.list ds=d:=by simpa [zp,h1,hf] using h
    subst this
    refine ⟨ρ,ds,e,h1,fun vs H1 s1 r1=>⟨abx (by rw [r1.length]; simpa [few] using hf),fun p hp=>k _ _ (s1.trans (jD hp)) ⟨p,vs,rfl,jq,Reps.mono (jD hp) _ _ r1⟩⟩⟩
   ·simp [zp,h1,hf] at h
end
end BX
end
section
namespace BX
open PySem PySem.Spec L2
open PyProof.Rows hiding St
section
variable {X:Cx}{e a b c tg src:Expr}{es:List Expr}{st:Stmt}{sts jT:List Stmt}{fa fb fc:Rho->Option PyData}{F G:Rho->Option Out}{pos:Pos}
noncomputable def ql (fa:Rho->Option PyData):Rho->Option Out:=fun ρ=>(fa ρ).map Out.rt
theorem jz (h:PD X e fa):PSD X (.Return (some e) pos) (ql fa):=by
 with_unfolding_all
  refine PS.imp (afr h) fun D σ H ⟨ρ,o,en,q,k⟩=>?_
  cases h1:fa ρ with
  | none=>simp [ql,h1] at q
  | some d=>
   have:Out.rt d=o:=by simpa [ql,h1] using q
   subst this
   exact ⟨ρ,d,en,h1,k⟩
noncomputable def ifS (tc:Rho->Option Bool) (F G:Rho->Option Out):Rho->Option Out:=fun ρ=>(tc ρ).bind fun x=>if x=true then F ρ else G ρ
theorem qe {l r:List Stmt}{tc:Rho->Option Bool} (hc:PTD X c tc) (hl:Qn X l F) (hr:Qn X r G):PSD X (.If c l r pos) (ifS tc F G):=by
 with_unfolding_all
  refine PS.imp (anc hc hl hr) fun D σ H ⟨ρ,o,en,q,k⟩=>?_
  cases h1:tc ρ with
  | none=>simp [ifS,h1] at q
  | some x=>
   refine ⟨ρ,x,en,h1,fun H1 s1=>?_⟩
   cases x with
   | true=>rw [if_pos rfl]; exact ⟨ρ,o,en.mono s1,by simpa [ifS,h1] using q,k.mono s1⟩
   | false=>rw [if_neg Bool.false_ne_true]; exact ⟨ρ,o,en.mono s1,by simpa [ifS,h1] using q,k.mono s1⟩
noncomputable def qM:Rho->Option Out:=fun ρ=>some (.nx ρ)
noncomputable def jJ (F G:Rho->Option Out):Rho->Option Out:=fun ρ=>(F ρ).bind fun o=>match o with
 | .nx ρ'=>G ρ'
 | o=>some o
theorem ji:Qn X [] qM:=by
 with_unfolding_all
  refine PSs.imp agj fun D σ H ⟨ρ,o,en,q,k⟩=>?_
  cases q
  exact k σ H (jn.refl H) en
theorem je (h1 : PSD X st F) (h2 : Qn X jT G) : Qn X (st :: jT) (jJ F G) := by
  with_unfolding_all
   refine PSs.imp (zX h1 h2) fun D σ H ⟨ρ, o, en, q, k⟩ => ?_
   cases hf : F ρ with
   | none => simp [jJ, hf] at q
   | some p =>
     refine ⟨ρ, p, en, hf, ?_⟩
     cases p with
     | nx ρ' => exact fun σ' H' s' r' => ⟨ρ', o, r', by simpa [jJ, hf] using q, k.mono s'⟩
     | rt d => have : Out.rt d = o := by simpa [jJ, hf] using q
               subst this; exact k
     | bk d => have : Out.bk d = o := by simpa [jJ, hf] using q
               subst this; exact k
     | ct d => have : Out.ct d = o := by simpa [jJ, hf] using q
               subst this; exact k
noncomputable def acq:Rho->Option Out:=fun _=>none
theorem acL:PSD X st acq:=by
 with_unfolding_all exact (PS.imp ah5 fun D σ H ⟨ρ,o,en,q,k⟩=>by cases q)
theorem JV:Qn X sts acq:=by
 with_unfolding_all exact (PSs.imp agW fun D σ H ⟨ρ,o,en,q,k⟩=>by cases q)
noncomputable def JD (fa:Rho->Option PyData):Rho->Option Out:=fun ρ=>(fa ρ).map fun _=> .nx ρ
theorem zc (h:PD X e fa) (hs:swapsWith e none pos.line X.env=pure false:=by rfl):PSD X (.Expr e pos) (JD fa):=by
 with_unfolding_all
  refine PS.imp (adj h hs) fun D σ H ⟨ρ,o,en,q,k⟩=>?_
  cases h1:fa ρ with
  | none=>simp [JD,h1] at q
  | some d=>
   have:Out.nx ρ=o:=by simpa [JD,h1] using q
   subst this
   exact ⟨ρ,d,en,h1,fun v H' s r=>k σ H' s (en.mono s)⟩
noncomputable def jH (i:Nat) (d:PyData) (ρ:Rho):Option Rho:=some (ρ.set i (some d))
theorem jw (i:Nat) {x:Str} (hN:X.N.Nodup) (hi:X.N[i]?=some x:=by rfl) (hx:Loc X.env.scope x:=by first | exact Or.inl rfl | exact Or.inr rfl)
  (hf:X.fn x=true ∨ X.env.scope.names.lookup x=some .local:=by first | exact .inl rfl | exact .inr rfl | assumption):PGD X (.Name x pos) (jH i):=by
 with_unfolding_all
  refine PG.imp (aa0 hN hi hx hf) fun v σ H Q ⟨ρ,d,ρ',en,r,q,k⟩=>?_
  cases q
  exact k _ H (jn.refl H) (en.set r)
@[irreducible] noncomputable def aky (X:Cx) (ts:List Expr) (ga:List PyData->Rho->Option Rho):Prop:=PGs X ts fun vs σ H Q=>∃ ρ ds ρ',EnvR X.K H ρ σ/\Reps X.K H ds vs/\ga ds ρ=some ρ'/\∀ σ' H',jn H H'->EnvR X.K H' ρ' σ'->Q σ' H'
noncomputable def Jb (ds:List PyData) (ρ:Rho):Option Rho:=match ds with
 | []=>some ρ
 | _=>none
noncomputable def jY (ga:PyData->Rho->Option Rho) (gr:List PyData->Rho->Option Rho) (ds:List PyData) (ρ:Rho):Option Rho:=match ds with
 | d::r=>(ga d ρ).bind fun ρ1=>gr r ρ1
 | []=>none
theorem PGs.imp {ts:List Expr}{t t':TGs} (h:PGs X ts t) (hi:∀ v σ H Q,t' v σ H Q->t v σ H Q):PGs X ts t':=fun pins s σ H v u Q I r q=>h pins s σ H v u Q I r (hi v σ H Q q)
theorem Jc:aky X [] Jb:=by
 with_unfolding_all
  refine PGs.imp aj8 fun vs σ H Q ⟨ρ,ds,ρ',en,r,q,k⟩=>?_
  cases ds with
  | nil=>cases r; cases q; exact ⟨rfl,k σ H (jn.refl H) en⟩
  | cons d ds=>cases q
theorem j0 {ga:PyData->Rho->Option Rho}{gr:List PyData->Rho->Option Rho} (h1:PGD X e ga) (h2:aky X es gr)
  (hs:(assignEach (e::es) X.env).map (·.2)=assign e X.env::(assignEach es X.env).map (·.2):=by rfl):aky X (e::es) (jY ga gr):=by
 with_unfolding_all
  refine PGs.imp (ah7 h1 h2 hs) fun vs σ H Q ⟨ρ,ds,ρ',en,r,q,k⟩=>?_
  cases ds with
  | nil=>cases q
  | cons d ds=>
   obtain ⟨x,rr,e1,r1,r2⟩:=r
   subst e1
   cases h3:ga d ρ with
   | none=>simp [jY,h3] at q
   | some ρ1=>
    refine ⟨x,rr,rfl,ρ,d,ρ1,en,r1,h3,fun σ1 H1 s1 e1=>⟨ρ1,ds,ρ',e1,Reps.mono s1 ds rr r2,by simpa [jY,h3] using q,fun σ2 H2 s2 e2=>k σ2 H2 (s1.trans s2) e2⟩⟩
noncomputable def ZC (n:Nat) (gr:List PyData->Rho->Option Rho) (d:PyData) (ρ:Rho):Option Rho:=match d with
 | .tuple ds=>if ds.length=n then gr ds ρ else none
 | _=>none
theorem JW {k n:Nat}{gr:List PyData->Rho->Option Rho} (hc:X.calm=true) (h:aky X es gr) (hn:(assignEach es X.env).length=n:=by rfl) (hst:(assignEach es X.env).findIdx? (·.1)=none:=by rfl):
  PGD X (.Tuple es k pos) (ZC n gr):=by
 with_unfolding_all
  refine PG.imp (alZ hc h hn hst) fun v σ H Q ⟨ρ,d,ρ',en,r,q,k⟩=>?_
  cases d with
  | tuple ds=>
   obtain ⟨a,xs,e1,e2,e3⟩:=r
   by_cases hl:ds.length=n
   ·exact ⟨a,xs,e1,e2,by rw [e3.length]; exact hl,ρ,ds,ρ',en,e3,by simpa [ZC,hl] using q,k⟩
   ·simp [ZC,hl] at q
  | _=>simp [ZC] at q
noncomputable def qS (fa:Rho->Option PyData) (ga:PyData->Rho->Option Rho):Rho->Option Out:=fun ρ=>(fa ρ).bind fun d=>(ga d ρ).map Out.nx
theorem jR (i:Nat) {x:Str}{pos':Pos} (hN:X.N.Nodup) (he:PD X e fa) (hi:X.N[i]?=some x:=by rfl) (hx:Loc X.env.scope x:=by first | exact Or.inl rfl | exact Or.inr rfl) (hs:swapsWith e (some (.Name x pos')) pos.line X.env=pure false:=by rfl)
  (hf:X.fn x=true ∨ X.env.scope.names.lookup x=some .local:=by first | exact .inl rfl | exact .inr rfl | assumption):PSD X (.Assign [.Name x pos'] e pos) (qS fa (jH i)):=by
 with_unfolding_all
  refine PS.imp (abm hN hi hx he hs hf) fun D σ H ⟨ρ,o,en,q,k⟩=>?_
  cases h1:fa ρ with
  | none=>simp [qS,h1] at q
  | some d=>
   have:Out.nx (ρ.set i (some d))=o:=by simpa [qS,h1,jH] using q
   subst this
   exact ⟨ρ,d,en,h1,fun v H1 s1 r1=>k _ H1 s1 ((en.mono s1).set r1)⟩
noncomputable def air (K:PySem.W.Frag) (J:It) (ds:List PyData) (H0:Hp):Prop:=∀ i H,jL H0 H->(i < ds.length->J.go i H)/\(ds.length<=i->J.stop i H)/\∀ x H',J.yld i H x H'->jn H H'/\∀ d,ds[i]?=some d->Rep K H' d x
noncomputable def tDI (K:PySem.W.Frag) (fi:Rho->Option (List PyData)):TI:=fun σ H R=>∃ ρ ds,EnvR K H ρ σ/\fi ρ=some ds/\∀ J H',jn H H'->air K J ds H'->R J H'
@[irreducible] noncomputable def PID (X:Cx) (tg src:Expr) (fi:Rho->Option (List PyData)):Prop:=PI X tg src (tDI X.K fi)
theorem PI.imp {t t':TI} (h:PI X tg src t) (hi:∀ σ H R,t' σ H R->t σ H R):PI X tg src t':=fun pins s σ H R I q=>h pins s σ H R I (hi σ H R q)
noncomputable def Zg:PyData->Option (List PyData)
 | .list ds=>some ds
 | _=>none
noncomputable def adt:PyData->Option (List PyData)
 | .tuple ds=>some ds
 | _=>none
noncomputable def itL (fa:Rho->Option PyData):Rho->Option (List PyData):=fun ρ=>(fa ρ).bind Zg
noncomputable def itT (fa:Rho->Option PyData):Rho->Option (List PyData):=fun ρ=>(fa ρ).bind adt
theorem ZD (h:PD X e fa):PID X tg e (itL fa):=by
 with_unfolding_all
  refine PI.imp (aj9 h) fun σ H R ⟨ρ,ds,en,q,k⟩=>?_
  cases h1:fa ρ with
  | none=>simp [itL,h1] at q
  | some d=>
   cases d with
   | list es=>
    have:es=ds:=by simpa [itL,h1,Zg] using q
    subst this
    refine ⟨ρ,_,en,h1,fun v H1 s1 r1=>?_⟩
    obtain ⟨a,xs,e1,e2,e3⟩:=r1
    refine ⟨a,e1,⟨xs,SqL.of e2⟩,k _ H1 s1 fun i H2 s2=>⟨fun hi=>?_,fun hi=>?_,fun x H' y=>?_⟩⟩
    ·exact ⟨xs,xs[i]'(by rw [e3.length]; exact hi),SqL.of (s2 _ _ e2 fun _ z=>nomatch z),by simp [e3.length,hi]⟩
    ·exact ⟨xs,SqL.of (s2 _ _ e2 fun _ z=>nomatch z),by rw [e3.length]; exact hi⟩
    ·obtain ⟨z1,z2⟩:=y
     subst z1
     refine ⟨jn.refl _,fun d hd=>?_⟩
     obtain ⟨y,e4,e5⟩:=(Reps.monoE s2 _ _ e3).get hd
     have:=z2 xs (SqL.of (s2 _ _ e2 fun _ z=>nomatch z))
     rw [e4] at this; cases this
     exact e5
   | _=>simp [itL,h1,Zg] at q
theorem akz (h:PD X e fa):PID X tg e (itT fa):=by
 with_unfolding_all
  refine PI.imp (al1 h) fun σ H R ⟨ρ,ds,en,q,k⟩=>?_
  cases h1:fa ρ with
  | none=>simp [itT,h1] at q
  | some d=>
   cases d with
   | tuple es=>
    have:es=ds:=by simpa [itT,h1,adt] using q
    subst this
    refine ⟨ρ,_,en,h1,fun v H1 s1 r1=>?_⟩
    obtain ⟨a,xs,e1,e2,e3⟩:=r1
    refine ⟨a,e1,⟨xs,e2⟩,k _ H1 s1 fun i H2 s2=>⟨fun hi=>?_,fun hi=>?_,fun x H' y=>?_⟩⟩
    ·exact ⟨xs,xs[i]'(by rw [e3.length]; exact hi),jL.tup s2 e2,by simp [e3.length,hi]⟩
    ·exact ⟨xs,jL.tup s2 e2,by rw [e3.length]; exact hi⟩
    ·obtain ⟨z1,z2⟩:=y
     subst z1
     refine ⟨jn.refl _,fun d hd=>?_⟩
     obtain ⟨y,e4,e5⟩:=(Reps.monoE s2 _ _ e3).get hd
     have:=z2 xs (jL.tup s2 e2)
     rw [e4] at this; cases this
     exact e5
   | _=>simp [itT,h1,adt] at q
noncomputable def qi (lo:Int) (n:Nat):List PyData:=(List.range n).map fun (k:Nat)=>PyData.int (lo+(k:Int))
noncomputable def Zh (ds:List PyData):Option (List PyData):=match ds with
 | [.int j]=>if -(2 ^ 62)<=j/\j < 2 ^ 62 then some (qi 0 j.toNat) else none
 | _=>none
noncomputable def adu (ds:List PyData):Option (List PyData):=match ds with
 | [.int i,.int j]=>if -(2 ^ 62)<=i/\i < 2 ^ 62/\-(2 ^ 62)<=j/\j < 2 ^ 62 then some (qi i (j - i).toNat) else none
 | _=>none
theorem ZE {K:PySem.W.Frag}{H:Hp} (lo:Int) (n:Nat):air K (Itr lo n) (qi lo n) H:=fun i H2 s2=>by
 have hl:(qi lo n).length=n:=by simp [qi]
 refine ⟨fun hi=>by rw [hl] at hi; exact hi,fun hi=>by rw [hl] at hi; exact hi,fun x H' y=>?_⟩
 obtain ⟨z1,z2⟩:=y
 subst z1
 refine ⟨jn.refl _,fun d hd=>?_⟩
 have hi:i < n:=by
  have:=(List.getElem?_eq_some_iff.mp hd).1
  rw [hl] at this; exact this
 have:d= .int (lo+i):=by
  simp [qi,hi] at hd
  exact hd.symm
 subst this
 exact z2
theorem j1 {p pos:Pos}{fr:Rho->Option (List PyData)} (hg:Gl X "range") (hm:X.mg "range"=none) (ha:PAD X [a] fr) (hs:starEach [a] X.env=[(false,eval a X.env)]:=by rfl):PID X tg (.Call (.Name "range" p) [a] [] pos) (fun ρ=>(fr ρ).bind Zh):=by
 with_unfolding_all
  refine PI.imp (aaf hg hm ha hs) fun σ H R ⟨ρ,ds,en,q,k⟩=>?_
  cases h1:fr ρ with
  | none=>simp [h1] at q
  | some as=>
   have q':Zh as=some ds:=by simpa [h1] using q
   refine ⟨ρ,as,en,h1,fun vs H1 s1 r1=>?_⟩
   unfold Zh at q'
   split at q'
   ·rename_i j
    split at q'
    ·rename_i hj
     cases q'
     obtain ⟨x,r,e1,e2,e3⟩:=r1
     cases (show x=V.int j from e2)
     cases (show r=[] from e3)
     exact ⟨j,e1,hj.1,hj.2,k _ H1 s1 (ZE 0 j.toNat)⟩
    ·cases q'
   ·cases q'
theorem Zi {p pos:Pos}{fr:Rho->Option (List PyData)} (hg:Gl X "range") (hm:X.mg "range"=none) (ha:PAD X [a,b] fr) (hs:starEach [a,b] X.env=[(false,eval a X.env),(false,eval b X.env)]:=by rfl) (hs2:starEach [b] X.env=[(false,eval b X.env)]:=by rfl):
  PID X tg (.Call (.Name "range" p) [a,b] [] pos) (fun ρ=>(fr ρ).bind adu):=by
 with_unfolding_all
  refine PI.imp (agY hg hm ha hs hs2) fun σ H R ⟨ρ,ds,en,q,k⟩=>?_
  cases h1:fr ρ with
  | none=>simp [h1] at q
  | some as=>
   have q':adu as=some ds:=by simpa [h1] using q
   refine ⟨ρ,as,en,h1,fun vs H1 s1 r1=>?_⟩
   unfold adu at q'
   split at q'
   ·rename_i i j
    split at q'
    ·rename_i hj
     cases q'
     obtain ⟨x,r,e1,e2,y,r',e3,e4,e5⟩:=r1
     cases (show x=V.int i from e2)
     cases (show y=V.int j from e4)
     cases (show r'=[] from e5)
     subst e3
     exact ⟨i,j,e1,hj,k _ H1 s1 (ZE i (j - i).toNat)⟩
    ·cases q'
   ·cases q'
noncomputable def j7 (ga:PyData->Rho->Option Rho) (F:Rho->Option Out):List PyData->Rho->Option Out
 | [],ρ=>some (.nx ρ)
 | d::r,ρ=>(ga d ρ).bind fun ρ1=>(F ρ1).bind fun o=>match o with
  | .nx ρ2=>j7 ga F r ρ2
  | .ct ρ2=>j7 ga F r ρ2
  | .bk ρ2=>some (.nx ρ2)
  | .rt d=>some (.rt d)
noncomputable def acr (fi:Rho->Option (List PyData)) (ga:PyData->Rho->Option Rho) (F:Rho->Option Out):Rho->Option Out:=fun ρ=>(fi ρ).bind fun ds=>j7 ga F ds ρ
theorem ZF {body:List Stmt}{fi:Rho->Option (List PyData)}{ga:PyData->Rho->Option Rho} (hp:PassesOwn (model X.prog X.w) X.A X.env X.xe) (hc:X.calm=true) (hi:PID X tg src fi) (hg:PGD X tg ga) (hb:Qn X body F)
  (hs:∀ x,foldedSetIterable src X.env x=pure x:=by intro _; rfl):PSD X (.For tg src body [] pos) (acr fi ga F):=by
 with_unfolding_all
  refine PS.imp (adk hp hc hi hg hb hs) fun D σ H ⟨ρ,o,en,q,k⟩=>?_
  cases h1:fi ρ with
  | none=>simp [acr,h1] at q
  | some ds=>
   have q':j7 ga F ds ρ=some o:=by simpa [acr,h1] using q
   refine ⟨ρ,ds,en,h1,fun J H1 s1 Y=>?_⟩
   refine ⟨fun i m σ H2=>m=ds.length - i/\i<=ds.length/\jn H1 H2/\∃ ρ2,EnvR X.K H2 ρ2 σ/\j7 ga F (ds.drop i) ρ2=some o,⟨ds.length,by simp,Nat.zero_le _,jn.refl _,ρ,en.mono s1,by simpa using q'⟩,?_⟩
   rintro i m σ2 H2 ⟨rfl,hi,s2,ρ2,en2,q2⟩
   obtain ⟨g1,g2,g3⟩:=Y i H2 (jn.e s2)
   by_cases hlt:i < ds.length
   ·right
    have hd:ds.drop i=ds[i]::ds.drop (i+1):=List.drop_eq_getElem_cons hlt
    rw [hd] at q2
    refine ⟨g1 hlt,fun σ3 H3=>jn H1 H3/\∃ ρ3,EnvR X.K H3 ρ3 σ3/\j7 ga F (ds.drop (i+1)) ρ3=some o,fun σ3 H3 ⟨a1,ρ3,a2,a3⟩=>⟨ds.length - (i+1),by omega,rfl,hlt,a1,ρ3,a2,a3⟩,fun x H3 y=>?_⟩
    obtain ⟨s3,r3⟩:=g3 x H3 y
    have r3':=r3 ds[i] (by simp [hlt])
    cases h4:ga ds[i] ρ2 with
    | none=>simp [j7,h4] at q2
    | some ρ4=>
     refine ⟨ρ2,ds[i],ρ4,en2.mono s3,r3',h4,fun σ5 H5 s5 en5=>?_⟩
     cases h5:F ρ4 with
     | none=>simp [j7,h4,h5] at q2
     | some p=>
      refine ⟨ρ4,p,en5,h5,?_⟩
      have s15:=s2.trans (s3.trans s5)
      cases p with
      | nx ρ6=>exact fun σ6 H6 s6 en6=>⟨s15.trans s6,ρ6,en6,by simpa [j7,h4,h5] using q2⟩
      | ct ρ6=>exact fun σ6 H6 s6 en6=>⟨s15.trans s6,ρ6,en6,by simpa [j7,h4,h5] using q2⟩
      | bk ρ6=>
       have:Out.nx ρ6=o:=by simpa [j7,h4,h5] using q2
       subst this
       exact fun σ6 H6 s6 en6=>k σ6 H6 (s1.trans (s15.trans s6)) en6
      | rt d=>
       have:Out.rt d=o:=by simpa [j7,h4,h5] using q2
       subst this
       exact fun v H6 s6 r6=>k v H6 (s1.trans (s15.trans s6)) r6
   ·left
    have he:i=ds.length:=by omega
    have hn:ds.drop i=[]:=by rw [he]; simp
    rw [hn] at q2
    have:Out.nx ρ2=o:=by simpa [j7] using q2
    subst this
    exact ⟨g2 (by omega),k σ2 H2 (s1.trans s2) en2⟩
noncomputable def zC (cap:List (Option Nat)) (ρ:Rho):Rho:=cap.map fun o=>o.bind fun i=>(ρ[i]?).join
theorem EnvR.cap {K:PySem.W.Frag}{H:Hp}{ρ:Rho}{σ:St} (e:EnvR K H ρ σ) (cap:List (Option Nat)):EnvR K H (zC cap ρ) (Js cap σ):=by
 refine ⟨by simp [zC,Js],fun j d q=>?_⟩
 unfold zC at q
 unfold Js
 rw [List.getElem?_map] at q ⊢
 cases h1:cap[j]? with
 | none=>rw [h1] at q; cases q
 | some o=>
  rw [h1] at q
  cases o with
  | none=>cases q
  | some i=>
   have q':lkp i ρ=some d:=by simpa [lkp] using q
   obtain ⟨v,e1,e2⟩:=e.at' i d (zZ q')
   exact ⟨v,by simp [e1],e2⟩
noncomputable def jF (ga:PyData->Rho->Option Rho) (ft:Rho->Option Bool) (fe:Rho->Option PyData):List PyData->Rho->Option (List PyData)
 | [],_=>some []
 | d::r,τ=>(ga d τ).bind fun τ2=>(ft τ2).bind fun b=>if b=true then (fe τ2).bind fun y=>(jF ga ft fe r τ2).map fun ys=>y::ys else jF ga ft fe r τ2
noncomputable def jZ (fi:Rho->Option (List PyData)) (cap:List (Option Nat)) (ga:PyData->Rho->Option Rho) (ft:Rho->Option Bool) (fe:Rho->Option PyData):Rho->Option PyData:=fun ρ=>(fi ρ).bind fun ds=>
 if few ds=true then (jF ga ft fe ds (zC cap ρ)).map PyData.list else none
@[irreducible] noncomputable def ag5 (X:Cx) (ts:List Expr) (f:Rho->Option Bool):Prop:=PTs X ts (tDT X.K f)
noncomputable def qP (_:Rho):Option Bool:=some true
theorem jO:ag5 X [] qP:=by
 with_unfolding_all exact (fun pins s σ H Q I ⟨ρ,b,en,q,k⟩=>by cases q; exact aks pins s σ H Q I (k H (jn.refl H)))
theorem aeu {ft:Rho->Option Bool} (h:PTD X c ft):ag5 X [c] ft:=by
 with_unfolding_all exact (akt h)
theorem qh {el:Expr}{ts:List Expr}{sc:Scope}{ps:Pos}{fi:Rho->Option (List PyData)}{ga:PyData->Rho->Option Rho}{ft:Rho->Option Bool}{fe:Rho->Option PyData} (N':List Str) (cap:List (Option Nat)) (hc:X.calm=true) (hi:PID X tg src fi) (ok:CompOk X sc N' cap)
  (body:∀ cl C s0 H0 fp pn,PGD (blk X N' sc cl C s0 H0 fp pn) tg ga/\ag5 (blk X N' sc cl C s0 H0 fp pn) ts ft/\PD (blk X N' sc cl C s0 H0 fp pn) el fe)
  (hs:∀ x,foldedSetIterable src X.env x=pure x:=by intro _; rfl):PD X (.ListComp el [⟨tg,src,ts,0⟩] sc ps) (jZ fi cap ga ft fe):=by
 with_unfolding_all
  refine PE.imp (aku (g:=tDG X.K ga) (tt:=tDT X.K ft) (te:=tD X.K fe) hc hi ok (fun cl C s0 H0 fp pn=>body cl C s0 H0 fp pn) hs) fun σ H Q ⟨ρ,d,en,q,k⟩=>?_
  cases h1:fi ρ with
  | none=>simp [jZ,h1] at q
  | some ds=>
   by_cases hf:few ds=true
   ·cases h2:jF ga ft fe ds (zC cap ρ) with
    | none=>simp [jZ,h1,hf,h2] at q
    | some ys=>
     have:PyData.list ys=d:=by simpa [jZ,h1,hf,h2] using q
     subst this
     refine ⟨ρ,ds,en,h1,fun J H1 s1 Y=>?_⟩
     refine ⟨fun i m τ us H2=>m=ds.length - i/\i<=ds.length/\jn H1 H2/\us.length<=i/\∃ ρ2 zs ws,EnvR X.K H2 ρ2 τ/\Reps X.K H2 zs us/\jF ga ft fe (ds.drop i) ρ2=some ws/\ys=zs++ws,
      ⟨ds.length,by simp,Nat.zero_le _,jn.refl _,Nat.le_refl _,zC cap ρ,[],ys,(en.mono s1).cap cap,rfl,by simpa using h2,rfl⟩,?_⟩
     rintro i m τ us H2 ⟨rfl,hi',s2,hu,ρ2,zs,ws,en2,r2,q2,ey⟩
     have hsm:us.length < sizeLine:=Nat.lt_of_le_of_lt (Nat.le_trans hu hi') (Nat.lt_of_lt_of_le (by simpa [few] using hf) (by rw [sizeLine_eq]; decide:1000000<=sizeLine))
     obtain ⟨g1,g2,g3⟩:=Y i H2 (jn.e s2)
     refine ⟨hsm,?_⟩
     by_cases hlt:i < ds.length
     ·right
      have hd:ds.drop i=ds[i]::ds.drop (i+1):=List.drop_eq_getElem_cons hlt
      rw [hd] at q2
      refine ⟨g1 hlt,fun x H3 y=>?_⟩
      obtain ⟨s3,r3⟩:=g3 x H3 y
      have r3':=r3 ds[i] (by simp [hlt])
      cases h4:ga ds[i] ρ2 with
      | none=>simp [jF,h4] at q2
      | some ρ4=>
       refine ⟨ρ2,ds[i],ρ4,en2.mono s3,r3',h4,fun σ5 H5 s5 en5=>?_⟩
       cases h5:ft ρ4 with
       | none=>simp [jF,h4,h5] at q2
       | some b=>
        refine ⟨ρ4,b,en5,h5,fun H6 s6=>?_⟩
        have s26:=s3.trans (s5.trans s6)
        cases b with
        | false=>
         refine ako ?_
         exact ⟨ds.length - (i+1),by omega,rfl,hlt,s2.trans s26,by omega,ρ4,zs,ws,en5.mono s6,Reps.mono s26 _ _ r2,by simpa [jF,h4,h5] using q2,ey⟩
        | true=>
         refine akp ?_
         cases h6:fe ρ4 with
         | none=>simp [jF,h4,h5,h6] at q2
         | some y=>
          cases h7:jF ga ft fe (ds.drop (i+1)) ρ4 with
          | none=>simp [jF,h4,h5,h6,h7] at q2
          | some ws'=>
           have hw:y::ws'=ws:=by simpa [jF,h4,h5,h6,h7] using q2
           refine ⟨ρ4,y,en5.mono s6,h6,fun v H7 s7 r7=>?_⟩
           refine ⟨ds.length - (i+1),by omega,rfl,hlt,s2.trans (s26.trans s7),by rw [List.length_append]; simp; omega,ρ4,zs++[y],ws',(en5.mono s6).mono s7,(Reps.mono (s26.trans s7) _ _ r2).append ⟨v,[],rfl,r7,rfl⟩,h7,?_⟩
           rw [ey,←hw]; simp
     ·left
      have he:i=ds.length:=by omega
      have hn:ds.drop i=[]:=by rw [he]; simp
      rw [hn] at q2
      have hw:[]=ws:=by simpa [jF] using q2
      subst hw
      have ey':ys=zs:=by simpa using ey
      subst ey'
      exact ⟨g2 (by omega),fun l hl=>k _ _ (s1.trans (s2.trans (jD hl))) ⟨l,us,rfl,jq,Reps.mono (jD hl) _ _ r2⟩⟩
   ·simp [jZ,h1,hf] at q
noncomputable def Pur (K:PySem.W.Frag) (n:Nat) (g:List PyData->Option PyData):Sp:=fun vs H Q _=>∃ ds d,ds.length=n/\Reps K H ds vs/\g ds=some d/\∀ v H',jn H H'->Rep K H' d v->Q v H'
noncomputable def jA (g:List PyData->Option PyData) (fr:Rho->Option (List PyData)):Rho->Option PyData:=fun ρ=>(fr ρ).bind g
theorem akA {k n:Nat}{f:Addr}{fd:FuncData}{ps:List Str}{g:List PyData->Option PyData}{x:Str}{p:Pos}{fr:Rho->Option (List PyData)} (FO:FnOk X.prog X.w X.K X.mg X.base CX0 k f fd ps (Pur X.K n g)) (hr:Room k X.A) (hm:X.mg x=some (.ref f)) (hk:PySem.W.keepIn X.K (.ref f)=true)
  (hb:Qr X.K fd ps []) (hn:(e::es).length=n) (ha:PAD X (e::es) fr) (hl:∀ ρ ds,fr ρ=some ds->ds.length=(e::es).length) (hg:Gl X x:=by rfl) (hdb:(x == ("__debug__":Str))=false:=by decide) (he:starEach (e::es) X.env=(false,eval e X.env)::starEach es X.env:=by rfl)
  (hpl:(backTo pos (starEach es X.env)).any (·.1)=false:=by rfl):PD X (.Call (.Name x p) (e::es) [] pos) (jA g fr):=by
 with_unfolding_all
  refine PE.imp (ake FO hr hg hm hk hb .nil aio ha hdb he hpl) fun σ H Q ⟨ρ,d,en,q,k⟩=>?_
  cases h1:fr ρ with
  | none=>simp [jA,h1] at q
  | some ds=>
   refine ⟨ρ,ds,en,h1,fun vs H1 s1 r1=>?_⟩
   refine ⟨ds,d,by rw [hl ρ ds h1,hn],by rw [List.append_nil]; exact r1,by simpa [jA,h1] using q,fun v H' s r=>k v H' (s1.trans s) r⟩
noncomputable def Qt (X:Cx) (f:Value) (g:List PyData->Option PyData):Prop:=∃ r,qX X f r/\∀ ds d xs H Q,g ds=some d->Reps X.K H ds xs->(∀ v H',jn H H'->Rep X.K H' d v->Q v H')->r xs H Q
theorem jM {id:String}{g:List PyData->Option PyData}{x:Str}{p:Pos}{fr:Rho->Option (List PyData)} (hc:Qt X (.builtin id) g) (hm:X.mg x=none) (hv:bootBuiltins x=some (.builtin id)) (ha:PAD X (e::es) fr) (hg:Gl X x:=by rfl) (hn:x ≠ "__name__":=by decide) (hdb:(x == ("__debug__":Str))=false:=by decide)
  (he:starEach (e::es) X.env=(false,eval e X.env)::starEach es X.env:=by rfl) (hpl:(backTo pos (starEach es X.env)).any (·.1)=false:=by rfl):PD X (.Call (.Name x p) (e::es) [] pos) (jA g fr):=by
 with_unfolding_all
  obtain ⟨r,h1,h2⟩:=hc
  refine PE.imp (ZA h1 hg hm hv ha hn hdb he hpl) fun σ H Q ⟨ρ,d,en,q,k⟩=>?_
  cases h3:fr ρ with
  | none=>simp [jA,h3] at q
  | some ds=>exact ⟨ρ,ds,en,h3,fun vs H1 s1 r1=>h2 ds d vs H1 Q (by simpa [jA,h3] using q) r1 fun v H' s r=>k v H' (s1.trans s) r⟩
theorem ag6 {T:String}{g:List PyData->Option PyData}{x:Str}{p:Pos}{fr:Rho->Option (List PyData)} (hc:Qt X (.type T) g) (hm:X.mg x=none) (hv:bootBuiltins x=some (.type T)) (ha:PAD X (e::es) fr) (hg:Gl X x:=by rfl) (hn:x ≠ "__name__":=by decide) (hdb:(x == ("__debug__":Str))=false:=by decide)
  (he:starEach (e::es) X.env=(false,eval e X.env)::starEach es X.env:=by rfl) (hpl:(backTo pos (starEach es X.env)).any (·.1)=false:=by rfl):PD X (.Call (.Name x p) (e::es) [] pos) (jA g fr):=by
 with_unfolding_all
  obtain ⟨r,h1,h2⟩:=hc
  refine PE.imp (ag2 h1 hg hm hv ha hn hdb he hpl) fun σ H Q ⟨ρ,d,en,q,k⟩=>?_
  cases h3:fr ρ with
  | none=>simp [jA,h3] at q
  | some ds=>exact ⟨ρ,ds,en,h3,fun vs H1 s1 r1=>h2 ds d vs H1 Q (by simpa [jA,h3] using q) r1 fun v H' s r=>k v H' (s1.trans s) r⟩
end
noncomputable def jB (N:List Str) (ds:List PyData):Rho:=ds.map some++List.replicate (N.length - ds.length) none
theorem QN {K:PySem.W.Frag}{H:Hp}{N:List Str}{ds:List PyData}{vs:List V} (r:Reps K H ds vs):EnvR K H (jB N ds) (L2.zl N vs):=by
 have hl:=r.length
 refine ⟨by simp [jB,L2.zl,hl],fun i d q=>?_⟩
 unfold jB at q
 by_cases hi:i < ds.length
 ·rw [List.getElem?_append_left (by simpa using hi),List.getElem?_map] at q
  cases e:ds[i]? with
  | none=>rw [e] at q; cases q
  | some c=>
   rw [e] at q; cases q
   obtain ⟨x,e1,e2⟩:=r.get e
   refine ⟨x,?_,e2⟩
   unfold L2.zl
   rw [List.getElem?_append_left (by simp; omega),List.getElem?_map,e1]; rfl
 ·rw [List.getElem?_append_right (by simpa using hi),List.getElem?_replicate] at q
  split at q <;> cases q
noncomputable def jy (N:List Str) (n:Nat) (B:Rho->Option Out) (ds:List PyData):Option PyData:=if ds.length=n then match B (jB N ds) with
 | some (.rt d)=>some d
 | some (.nx _)=>some .none
 | _=>none else none
section
variable {P:Program}{w:World}{K:PySem.W.Frag}{mg:Str->Option Value}{base:Heap}
theorem jN {x qual:Str}{st:Stmt}{f:Addr}{fd:FuncData}{N ps:List Str}{k:Nat}{B:Rho->Option Out} (F:Fun K x qual st f fd) (S:FnScope N ps (jf st))
  (body:∀ (cdv:Value) (A:Around) (outer:List Env) (s:Shared) (H:Hp) (E:XK),Room k (A.deeper (envOfC qual (jf st) s.heap.objs.size f cdv))->
   Qn (zY CX0 P w K mg base N qual (jf st) f cdv A outer s H E).nox (jU st) B):FnOk P w K mg base CX0 (k+1) f fd ps (Pur K ps.length (jy N ps.length B)):=by
 with_unfolding_all
  refine F.ok S (fun vs H Q E h=>?_) (fun cdv A outer s H vs Q E hr h=>?_)
  ·obtain ⟨ds,d,h1,h2,_⟩:=h
   rw [h2.length]; exact h1
  ·obtain ⟨ds,d,h1,h2,h3,h4⟩:=h
   refine ⟨_,body cdv A outer s H E hr,?_⟩
   unfold jy at h3
   rw [if_pos h1] at h3
   cases hB:B (jB N ds) with
   | none=>rw [hB] at h3; cases h3
   | some o=>
    refine ⟨jB N ds,o,QN h2,hB,?_⟩
    rw [hB] at h3
    cases o with
    | rt c=>cases h3; exact fun v H' s r=>h4 v H' s r
    | nx ρ=>cases h3; exact fun σ H' s r=>h4 .non H' s rfl
    | bk ρ=>cases h3
    | ct ρ=>cases h3
theorem anz {k n:Nat}{f:Addr}{fd:FuncData}{ps:List Str}{g g':List PyData->Option PyData} (F:FnOk P w K mg base CX0 k f fd ps (Pur K n g)) (h:∀ ds d,ds.length=n->g' ds=some d->g ds=some d):FnOk P w K mg base CX0 k f fd ps (Pur K n g'):=
 F.imp fun vs H Q E ⟨ds,d,h1,h2,h3,h4⟩=>⟨ds,d,h1,h2,h ds d h1 h3,h4⟩
end
section
variable {X:Cx}
noncomputable def anA (K:PySem.W.Frag):R2:=fun x y H Q=>∃ a b ys,x= .ref a/\y= .ref b/\SqT K H a []/\SqT K H b ys/\Q (.ref b) H
theorem akB:OpR X (binaryOp .Add) (anA X.K):=by
 intro pins s σ H x y v u Q I rx ry h
 obtain ⟨a,b,ys,rfl,rfl,ha,hb,q⟩:=h
 cases rx
 cases ry
 obtain ⟨its,r1,p1,_⟩:=I.tuple ha
 obtain ⟨its2,r2,p2,_⟩:=I.tuple hb
 cases r1
 obtain ⟨⟨c1,d1,t1,l1⟩,ho,hc,n,hd⟩:=id p1
 obtain ⟨⟨c2,d2,t2,l2⟩,ho2,hc2,n2,hd2⟩:=id p2
 simp only at hc hd hc2 hd2
 subst hc hd hc2 hd2
 exact concat_meets ⟨_,ho,rfl⟩ ⟨_,ho2,rfl⟩ noFill_tuple_add seq_tuple_add PySem.F.slot_tuple_add PySem.F.entry_tuple_add (PySem.F.args_tuple_add_2 _ _)
  (tuple_addW0 a b _ _ n n2 d1 d2 l1 l2 (by simp)) ⟨ho,ho2,⟨.ref b,H,I,rfl,q⟩⟩
noncomputable def qF:PyData->PyData->Option PyData
 | .int i,.int j=>some (.int (i+j))
 | .list xs,.list ys=>if few (xs++ys)=true then some (.list (xs++ys)) else none
 | .tuple [],.tuple ys=>some (.tuple ys)
 | .tuple (x::xs),.tuple ys=>if few ((x::xs)++ys)=true then some (.tuple ((x::xs)++ys)) else none
 | _,_=>none
theorem jE:OpD X (binaryOp .Add) qF:=by
 refine ⟨_,al5.or (ami.or (akB.or akh)),fun p q d x y H Q h rx ry k=>?_⟩
 unfold qF at h
 split at h
 ·cases h
  cases (show x=_ from rx)
  cases (show y=_ from ry)
  exact .inl ⟨_,_,rfl,rfl,k _ H (jn.refl H) rfl⟩
 ·rename_i xs ys
  split at h
  ·rename_i hf
   cases h
   obtain ⟨a,us,e1,e2,e3⟩:=rx
   obtain ⟨b,ws,e4,e5,e6⟩:=ry
   have hl:us.length+ws.length < 1000000:=by
    rw [e3.length,e6.length]
    simp [few] at hf
    try simp only [List.length_cons]
    omega
   exact .inr (.inl ⟨a,b,us,ws,e1,e4,e2,e5,abx hl,fun p hp=>k _ _ (jD hp) ⟨p,_,rfl,jq,Reps.mono (jD hp) _ _ (e3.append e6)⟩⟩)
  ·cases h
 ·rename_i ys
  cases h
  obtain ⟨a,us,e1,e2,e3⟩:=rx
  cases (show us=[] from e3)
  obtain ⟨b,ws,e4,e5,e6⟩:=ry
  exact .inr (.inr (.inl ⟨a,b,ws,e1,e4,e2,e5,k _ H (jn.refl H) ⟨b,ws,rfl,e5,e6⟩⟩))
 ·rename_i z xs ys
  split at h
  ·rename_i hf
   cases h
   obtain ⟨a,us,e1,e2,e3⟩:=rx
   obtain ⟨b,ws,e4,e5,e6⟩:=ry
   have hl:us.length+ws.length < 1000000:=by
    rw [e3.length,e6.length]
    simp [few] at hf
    try simp only [List.length_cons]
    omega
   refine .inr (.inr (.inr ⟨a,b,us,ws,e1,e4,e2,e5,fun z=>?_,abx hl,fun z=>?_,fun _ p hp=>?_⟩))
   ·have:=e3.length; rw [z] at this; simp at this
   ·subst z
    have:=e6.length
    have hy:ys=[]:=List.length_eq_zero_iff.mp (by simpa using this.symm)
    subst hy
    exact k _ H (jn.refl H) ⟨a,us,rfl,e2,by simpa using e3⟩
   ·exact k _ _ (jD hp) ⟨p,_,rfl,SqT.of jq,Reps.mono (jD hp) _ _ (e3.append e6)⟩
  ·cases h
 ·cases h
noncomputable def aby:PyData->PyData->Option PyData
 | .int i,.int j=>some (.int (i - j))
 | _,_=>none
theorem zI:OpD X (binaryOp .Sub) aby:=by
 refine ⟨_,al6,fun p q d x y H Q h rx ry k=>?_⟩
 unfold aby at h
 split at h
 ·cases h; cases (show x=_ from rx); cases (show y=_ from ry); exact ⟨_,_,rfl,rfl,k _ H (jn.refl H) rfl⟩
 ·cases h
theorem Reps.rep {K:PySem.W.Frag}{H:Hp}{ds:List PyData}{xs:List V} (h:Reps K H ds xs):∀ (n:Nat),Reps K H (List.replicate n ds).flatten (List.replicate n xs).flatten
 | 0=>rfl
 | n+1=>by rw [List.replicate_succ,List.replicate_succ,List.flatten_cons,List.flatten_cons]; exact h.append (Reps.rep h n)
noncomputable def Zj:PyData->PyData->Option PyData
 | .int i,.int j=>if (-(2 ^ 64) < i/\i < 2 ^ 64) ∨ (-(2 ^ 64) < j/\j < 2 ^ 64) then some (.int (i*j)) else none
 | .list xs,.int k=>if k < 1000/\xs.length < 1000/\-1000 < k then some (.list (List.replicate k.toNat xs).flatten) else none
 | _,_=>none
theorem zx:OpD X (binaryOp .Mult) Zj:=by
 refine ⟨_,al7.or aim,fun p q d x y H Q h rx ry k=>?_⟩
 unfold Zj at h
 split at h
 ·split at h
  ·rename_i hc
   cases h; cases (show x=_ from rx); cases (show y=_ from ry); exact .inl ⟨_,_,rfl,rfl,hc,k _ H (jn.refl H) rfl⟩
  ·cases h
 ·rename_i xs n
  split at h
  ·rename_i hc
   cases h
   obtain ⟨a,us,e1,e2,e3⟩:=rx
   cases (show y=_ from ry)
   have hl:=e3.length
   have hs:us.length*n.toNat<=sizeLine:=by
    rw [sizeLine_eq]
    have h1:us.length<=1000:=by omega
    have h2:n.toNat<=1000:=by omega
    exact Nat.le_trans (Nat.mul_le_mul h1 h2) (by decide)
   exact .inr ⟨a,n,us,e1,rfl,e2,by omega,by omega,hs,fun p hp=>k _ _ (jD hp) ⟨p,_,rfl,jq,Reps.mono (jD hp) _ _ (Reps.rep e3 n.toNat)⟩⟩
  ·cases h
 ·cases h
noncomputable def abz:PyData->PyData->Option PyData
 | .int i,.int j=>if 0 < j/\j < 1073741824 then some (.int (i / j)) else none
 | _,_=>none
theorem JE:OpD X (binaryOp .FloorDiv) abz:=by
 refine ⟨_,aka,fun p q d x y H Q h rx ry k=>?_⟩
 unfold abz at h
 split at h
 ·split at h
  ·rename_i hc
   cases h; cases (show x=_ from rx); cases (show y=_ from ry); exact ⟨_,_,rfl,rfl,hc,k _ H (jn.refl H) rfl⟩
  ·cases h
 ·cases h
noncomputable def afC:PyData->PyData->Option PyData
 | .int i,.int j=>if 0 < j then some (.int (i % j)) else none
 | _,_=>none
theorem Jk:OpD X (binaryOp .Mod) afC:=by
 refine ⟨_,al8,fun p q d x y H Q h rx ry k=>?_⟩
 unfold afC at h
 split at h
 ·split at h
  ·rename_i hc
   cases h; cases (show x=_ from rx); cases (show y=_ from ry); exact ⟨_,_,rfl,rfl,hc,k _ H (jn.refl H) rfl⟩
  ·cases h
 ·cases h
noncomputable def okD (d:PyData):Bool:=d.canLay0 && decide (d.depth < 30)
noncomputable def anB (K:PySem.W.Frag) (neg:Bool):R2:=fun x y H Q=>∃ p q,Rep K H p x/\Rep K H q y/\okD p=true/\okD q=true/\Q (.bl (if neg then !PyData.eqv p q else PyData.eqv p q)) H
theorem qG {d:PyData} (h:okD d=true):d.canLay0=true:=by simp [okD] at h; exact h.1
theorem adv {d:PyData} (h:okD d=true):d.depth < 30:=by simp [okD] at h; exact h.2
theorem amk (hu:X.A.units+64 < cLine):OpR X (compareOp .Eq) (anB X.K false):=by
 intro pins s σ H x y v u Q I rx ry ⟨p,q,h1,h2,h3,h4,k⟩
 obtain ⟨as,ra⟩:=za I p x v h1 rx (qG h3)
 obtain ⟨bs,rb⟩:=za I q y u h2 ry (qG h4)
 have d1:=adv h3
 exact SeqAt.compareEq_reads ra rb (qG h3) (qG h4) (by omega) ⟨.bl _,H,I,rfl,k⟩
theorem aml (hu:X.A.units+64 < cLine):OpR X (compareOp .NotEq) (anB X.K true):=by
 intro pins s σ H x y v u Q I rx ry ⟨p,q,h1,h2,h3,h4,k⟩
 obtain ⟨as,ra⟩:=za I p x v h1 rx (qG h3)
 obtain ⟨bs,rb⟩:=za I q y u h2 ry (qG h4)
 have d1:=adv h3
 exact SeqAt.compareNe_reads ra rb (qG h3) (qG h4) (by omega) ⟨.bl _,H,I,rfl,k⟩
noncomputable def anC (K:PySem.W.Frag):R2:=fun x y H Q=>∃ a b ns,x= .ref a/\y= .ref b/\SqL K H a (List.map V.int ns)/\H b=some (.lst [])/\Q (.bl ns.isEmpty) H
theorem Zc (h:Heap):∀ (ns:List Int) (us:List Value),jC (List.map V.int ns) us->∃ as,ReadsAll h us (ns.map PyData.int) as
 | [],us,r=>by cases r; exact ⟨_,.nil⟩
 | n::ns,us,r=>by
  cases r with
  | cons r1 r2=>
   obtain ⟨t,rfl⟩:=r1
   obtain ⟨as,ra⟩:=Zc h ns _ r2
   exact ⟨_,.cons (.int n t) ra⟩
theorem aev:∀ ns:List Int,PyData.canLayAll0 (ns.map PyData.int)=true
 | []=>rfl
 | n::ns=>by simp [PyData.canLayAll0,PyData.canLay0,aev ns]
theorem akC (hu:X.A.units+64 < cLine):OpR X (compareOp .Eq) (anC X.K):=by
 intro pins s σ H x y v u Q I rx ry ⟨a,b,ns,e1,e2,h1,h2,k⟩
 subst e1; subst e2
 cases rx; cases ry
 obtain ⟨its,rv,⟨o,n,g1,g2,g3,g4⟩,_⟩:=I.list h1
 obtain ⟨as,ra⟩:=Zc s.heap ns its rv
 obtain ⟨bs,rb⟩:=za I (.list []) (.ref b) (.ref b) ⟨b,[],rfl,h2,rfl⟩ rfl rfl
 have ra':Reads s.heap (.ref a) (.list (ns.map PyData.int)) (a::as):= .list g1 g2 g4 (by simpa using ra)
 refine SeqAt.compareEq_reads ra' rb (by simpa [PyData.canLay0] using aev ns) rfl ?_ ⟨.bl _,H,I,rfl,?_⟩
 ·have:(PyData.list []).depth=1:=rfl
  rw [this]; omega
 ·have:PyData.eqv (.list (ns.map PyData.int)) (.list [])=ns.isEmpty:=by cases ns <;> simp [PyData.eqv,PyData.eqvAll]
  rw [this]; exact k
noncomputable def dEq:PyData->PyData->Option PyData
 | .dict kvs,.list []=>if zG kvs=true then some (.bool kvs.isEmpty) else none
 | p,q=>if okD p=true/\okD q=true then some (.bool (PyData.eqv p q)) else none
theorem Jv (hu:X.A.units+64 < cLine):OpD X (compareOp .Eq) dEq:=by
 refine ⟨_,(akC hu).or (amk hu),fun p q d x y H Q h rx ry k=>?_⟩
 unfold dEq at h
 split at h
 ·split at h
  ·rename_i hs
   cases h
   obtain ⟨a,ns,e1,e2,e3⟩:=rx.scrOut hs
   obtain ⟨b,ws,e4,e5,e6⟩:=ry
   cases (show ws=[] from e6)
   refine .inl ⟨a,b,ns,e1,e4,e2,e5,?_⟩
   have:ns.isEmpty=(ns.map fun n=>(PyData.int n,PyData.none)).isEmpty:=by simp
   subst e3
   rw [this]
   exact k _ H (jn.refl H) rfl
  ·cases h
 ·split at h
  ·rename_i hc
   cases h
   exact .inr ⟨p,q,rx,ry,hc.1,hc.2,k _ H (jn.refl H) rfl⟩
  ·cases h
noncomputable def dNe:PyData->PyData->Option PyData:=fun p q=>if okD p=true/\okD q=true then some (.bool (!PyData.eqv p q)) else none
theorem Jw (hu:X.A.units+64 < cLine):OpD X (compareOp .NotEq) dNe:=by
 refine ⟨_,aml hu,fun p q d x y H Q h rx ry k=>?_⟩
 unfold dNe at h
 split at h
 ·rename_i hc
  cases h
  exact ⟨p,q,rx,ry,hc.1,hc.2,k _ H (jn.refl H) rfl⟩
 ·cases h
noncomputable def anD (K:PySem.W.Frag) (neg:Bool):R2:=fun x y H Q=>∃ p ds,Rep K H p x/\(Rep K H (.list ds) y ∨ Rep K H (.tuple ds) y)/\okD p=true/\okD (.list ds)=true/\Q (.bl (if neg then !(ds.any fun z=>PyData.eqv z p) else ds.any fun z=>PyData.eqv z p)) H
theorem amm (hu:X.A.units+64 < cLine):OpR X (compareOp .In) (anD X.K false):=by
 intro pins s σ H x y v u Q I rx ry ⟨p,ds,h1,h2,h3,h4,k⟩
 obtain ⟨as,ra⟩:=za I p x v h1 rx (qG h3)
 have d1:=adv h3
 have hc:PyData.canLayAll0 ds=true:=by simpa [PyData.canLay0] using qG h4
 rcases h2 with h2 | h2
 ·obtain ⟨bs,rb⟩:=za I (.list ds) y u h2 ry (qG h4)
  exact SeqAt.in_list_reads rb ra hc (qG h3) (by omega) ⟨.bl _,H,I,rfl,k⟩
 ·obtain ⟨bs,rb⟩:=za I (.tuple ds) y u h2 ry (by simpa [PyData.canLay0] using hc)
  exact SeqAt.in_tuple_reads rb ra hc (qG h3) (by omega) ⟨.bl _,H,I,rfl,k⟩
noncomputable def dIn (neg:Bool):PyData->PyData->Option PyData:=fun p q=>match q with
 | .list ds=>if okD p=true/\okD (.list ds)=true then some (.bool (if neg then !(ds.any fun z=>PyData.eqv z p) else ds.any fun z=>PyData.eqv z p)) else none
 | .tuple ds=>if okD p=true/\okD (.list ds)=true then some (.bool (if neg then !(ds.any fun z=>PyData.eqv z p) else ds.any fun z=>PyData.eqv z p)) else none
 | _=>none
theorem anE {neg:Bool}{p q d:PyData}{x y:V}{H:Hp}{Q:VK}{K:PySem.W.Frag} (h:dIn neg p q=some d) (rx:Rep K H p x) (ry:Rep K H q y) (k:∀ v H',jn H H'->Rep K H' d v->Q v H'):anD K neg x y H Q:=by
 unfold dIn at h
 split at h
 ·split at h
  ·rename_i ds hc
   cases h
   exact ⟨p,ds,rx,.inl ry,hc.1,hc.2,k _ H (jn.refl H) rfl⟩
  ·cases h
 ·split at h
  ·rename_i ds hc
   cases h
   exact ⟨p,ds,rx,.inr ry,hc.1,hc.2,k _ H (jn.refl H) rfl⟩
  ·cases h
 ·cases h
theorem amn (hu:X.A.units+64 < cLine):OpD X (compareOp .In) (dIn false):=⟨_,amm hu,fun p q d x y H Q h rx ry k=>anE h rx ry k⟩
noncomputable def Qo (f:Int->Int->Bool):PyData->PyData->Option PyData
 | .int i,.int j=>some (.bool (f i j))
 | _,_=>none
theorem afD {f:Int->Int->Bool}{p q d:PyData}{x y:V}{H:Hp}{Q:VK}{K:PySem.W.Frag} (h:Qo f p q=some d) (rx:Rep K H p x) (ry:Rep K H q y) (k:∀ v H',jn H H'->Rep K H' d v->Q v H'):rI0 (fun i j=> .bl (f i j)) x y H Q:=by
 unfold Qo at h
 split at h
 ·cases h; cases (show x=_ from rx); cases (show y=_ from ry); exact ⟨_,_,rfl,rfl,k _ H (jn.refl H) rfl⟩
 ·cases h
theorem ais:OpD X (compareOp .Lt) (Qo fun i j=>decide (i < j)):=⟨_,anm,fun p q d x y H Q h rx ry k=>afD h rx ry k⟩
theorem Qu:OpD X (compareOp .LtE) (Qo fun i j=>decide (i<=j)):=⟨_,ann,fun p q d x y H Q h rx ry k=>afD h rx ry k⟩
theorem ait:OpD X (compareOp .GtE) (Qo fun i j=>decide (j<=i)):=⟨_,ano,fun p q d x y H Q h rx ry k=>afD h rx ry k⟩
noncomputable def chn (g g':PyData->PyData->Option PyData) (fa fb fc:Rho->Option PyData):Rho->Option PyData:=fun ρ=>(fa ρ).bind fun x=>(fb ρ).bind fun y=>(g x y).bind fun z=>(asB z).bind fun t=>if t=true then (fc ρ).bind fun w=>g' y w else some (.bool false)
variable {a b c e:Expr}{fa fb fc:Rho->Option PyData}{pos:Pos}
theorem alJ {g g':PyData->PyData->Option PyData}{K:PySem.W.Frag}{r r':R2} (hr:∀ p q d x y H Q,g p q=some d->Rep K H p x->Rep K H q y->(∀ v H',jn H H'->Rep K H' d v->Q v H')->r x y H Q)
  (hr':∀ p q d x y H Q,g' p q=some d->Rep K H p x->Rep K H q y->(∀ v H',jn H H'->Rep K H' d v->Q v H')->r' x y H Q) {σ:St} {H:Hp} {Q:VK} (h:tD K (chn g g' fa fb fc) σ H Q):afu r r' (tD K fa) (tD K fb) (tD K fc) σ H Q:=by
 obtain ⟨ρ,d,en,h,k⟩:=h
 unfold chn at h
 cases ha:fa ρ with
 | none=>rw [ha] at h; cases h
 | some p=>
  cases hb:fb ρ with
  | none=>rw [ha,hb] at h; cases h
  | some q=>
   rw [ha,hb] at h
   cases hg:g p q with
   | none=>simp [hg] at h
   | some z=>
    cases ht:asB z with
    | none=>simp [hg,ht] at h
    | some t=>
     have hz:=Qs ht
     subst hz
     refine ⟨ρ,p,en,ha,fun x H1 s1 r1=>⟨ρ,q,en.mono s1,hb,fun y H2 s2 r2=>?_⟩⟩
     refine hr p q _ x y H2 _ hg (Rep.mono s2 p x r1) r2 fun v H3 s3 r3=>⟨t,r3,?_⟩
     have s13:=s1.trans (s2.trans s3)
     cases t with
     | false=>
      rw [if_neg Bool.false_ne_true]
      have hd:PyData.bool false=d:=by simpa [hg,asB] using h
      subst hd
      exact k _ H3 s13 rfl
     | true=>
      rw [if_pos rfl]
      cases hc:fc ρ with
      | none=>simp [hg,asB,hc] at h
      | some w=>
       refine ⟨ρ,w,en.mono s13,hc,fun z H4 s4 r4=>?_⟩
       exact hr' q w d y z H4 Q (by simpa [hg,asB,hc] using h) (Rep.mono (s3.trans s4) q y r2) r4 fun v H5 s5 r5=>k v H5 (s13.trans (s4.trans s5)) r5
theorem aiu {op op':CmpOp}{g g':PyData->PyData->Option PyData} (ho:OpD X (compareOp op) g) (ho':OpD X (compareOp op') g') (ha:PD X a fa) (hb:PD X b fb) (hc:PD X c fc)
  (hm:lastMarks [op,op'] [b,c]=false:=by with_unfolding_all rfl):PD X (.Compare a [op,op'] [b,c] pos) (chn g g' fa fb fc):=by
 with_unfolding_all
  obtain ⟨r,h1,h2⟩:=ho
  obtain ⟨r',h3,h4⟩:=ho'
  exact PE.imp (aib h1 h3 ha hb hc hm) fun σ H Q h=>alJ h2 h4 h
theorem aaj {op op':CmpOp}{g g':PyData->PyData->Option PyData} (ho:OpD X (compareOp op) g) (ho':OpD X (compareOp op') g') (ha:PD X a fa) (hb:PD X b fb) (hc:PD X c fc)
  (hm:lastMarks [op,op'] [b,c]=false:=by with_unfolding_all rfl):PTD X (.Compare a [op,op'] [b,c] pos) (tst (chn g g' fa fb fc)):=by
 with_unfolding_all
  obtain ⟨r,h1,h2⟩:=ho
  obtain ⟨r',h3,h4⟩:=ho'
  refine PT.imp (aic h1 h3 ha hb hc hm) fun σ H Q ⟨ρ,t,en,h,k⟩=>?_
  cases hd:chn g g' fa fb fc ρ with
  | none=>simp [tst,hd] at h
  | some d=>
   have ht:d= .bool t:=Qs (by simpa [tst,hd] using h)
   subst ht
   exact alJ h2 h4 ⟨ρ,_,en,hd,fun v H' s r=>⟨t,r,k H' s⟩⟩
noncomputable def dIx:PyData->PyData->Option PyData
 | .list ds,.int i=>if ds.length < 1000000 then atI ds i else none
 | .tuple ds,.int i=>if ds.length < 1000000 then atI ds i else none
 | .dict kvs,.int i=>if kvs.length < 1000000/\zG kvs=true then (atI kvs i).map (·.1) else none
 | _,_=>none
theorem agq {K:PySem.W.Frag}{H:Hp}{ds:List PyData}{xs:List V}{i:Int}{d:PyData} (r:Reps K H ds xs) (h:atI ds i=some d):∃ x,atI xs i=some x/\Rep K H d x:=by
 have hl:=r.length
 unfold atI at h ⊢
 rw [hl]
 cases e:ixN ds.length i with
 | none=>rw [e] at h; cases h
 | some j=>
  rw [e] at h
  obtain ⟨x,e1,e2⟩:=r.get (show ds[j]?=some d from h)
  exact ⟨x,e1,e2⟩
noncomputable def IxD (X:Cx) (g:PyData->PyData->Option PyData):Prop:=∃ r,IxR X r/\∀ p q d x y H Q,g p q=some d->Rep X.K H p x->Rep X.K H q y->(∀ v H',jn H H'->Rep X.K H' d v->Q v H')->r x y H Q
theorem ixd:IxD X dIx:=by
 refine ⟨_,akj.or amg,fun p q d x y H Q h rx ry k=>?_⟩
 unfold dIx at h
 split at h
 ·split at h
  ·obtain ⟨a,us,e1,e2,e3⟩:=rx
   cases (show y=_ from ry)
   obtain ⟨z,g1,g2⟩:=agq e3 h
   exact .inl ⟨a,us,_,z,e1,rfl,SqL.of e2,g1,k z H (jn.refl H) g2⟩
  ·cases h
 ·split at h
  ·obtain ⟨a,us,e1,e2,e3⟩:=rx
   cases (show y=_ from ry)
   obtain ⟨z,g1,g2⟩:=agq e3 h
   exact .inr ⟨a,us,_,z,e1,rfl,e2,g1,k z H (jn.refl H) g2⟩
  ·cases h
 ·split at h
  ·rename_i hs
   obtain ⟨a,ns,e1,e2,e3⟩:=rx.scrOut hs.2
   cases (show y=_ from ry)
   subst e3
   rename_i i
   unfold atI at h
   rw [List.length_map] at h
   cases e:ixN ns.length i with
   | none=>rw [e] at h; cases h
   | some j=>
    rw [e] at h
    have h':((ns.map fun n=>(PyData.int n,PyData.none))[j]?).map (·.1)=some d:=h
    rw [List.getElem?_map] at h'
    cases e4:ns[j]? with
    | none=>rw [e4] at h'; cases h'
    | some n=>
     rw [e4] at h'
     cases h'
     refine .inl ⟨a,List.map V.int ns,i,.int n,e1,rfl,e2,?_,k _ H (jn.refl H) rfl⟩
     unfold atI
     rw [List.length_map,e]
     show (List.map V.int ns)[j]?=_
     rw [List.getElem?_map,e4]; rfl
  ·cases h
 ·cases h
theorem j5 (ha:PD X a fa) (hb:PD X b fb) (hs:agn b:=by intro _ _; rfl):PD X (.Subscript a b pos) (op2 dIx fa fb):=by
 with_unfolding_all
  obtain ⟨r,h1,h2⟩:=ixd (X:=X)
  exact PE.imp (anu h1 ha hb hs) fun σ H Q h=>akw h2 h
noncomputable def afE (ds:List PyData):Option PyData:=match ds with
 | [.list xs]=>some (.int xs.length)
 | [.tuple xs]=>some (.int xs.length)
 | [.dict xs]=>if zG xs=true then some (.int xs.length) else none
 | _=>none
theorem Zk:Qt X (.builtin "len") afE:=by
 refine ⟨_,adn,fun ds d xs H Q h r k=>?_⟩
 unfold afE at h
 split at h
 ·cases h
  obtain ⟨x,q,e1,e2,e3⟩:=r
  cases (show q=[] from e3)
  obtain ⟨a,us,g1,g2,g3⟩:=e2
  subst g1
  exact ⟨a,us,e1,.inl (SqL.of g2),k _ H (jn.refl H) (by show _=_; rw [g3.length])⟩
 ·cases h
  obtain ⟨x,q,e1,e2,e3⟩:=r
  cases (show q=[] from e3)
  obtain ⟨a,us,g1,g2,g3⟩:=e2
  subst g1
  exact ⟨a,us,e1,.inr g2,k _ H (jn.refl H) (by show _=_; rw [g3.length])⟩
 ·split at h
  ·rename_i hs
   cases h
   obtain ⟨x,q,e1,e2,e3⟩:=r
   cases (show q=[] from e3)
   obtain ⟨a,ns,g1,g2,g3⟩:=e2.scrOut hs
   subst g1; subst g3
   exact ⟨a,_,e1,.inl g2,k _ H (jn.refl H) (by show _=_; simp)⟩
  ·cases h
 ·cases h
noncomputable def aiv (ds:List PyData):Option PyData:=match ds with
 | [.int i,.int j]=>some (.int (if j > i then j else i))
 | _=>none
noncomputable def aiw (ds:List PyData):Option PyData:=match ds with
 | [.int i,.int j]=>some (.int (if j < i then j else i))
 | _=>none
theorem akD (hc:X.calm=true):Qt X (.builtin "max") aiv:=by
 refine ⟨_,ag0 hc,fun ds d xs H Q h r k=>?_⟩
 unfold aiv at h
 split at h
 ·cases h
  obtain ⟨x,q,e1,e2,y,q',e3,e4,e5⟩:=r
  cases (show x=_ from e2); cases (show y=_ from e4); cases (show q'=[] from e5); subst e3
  exact ⟨_,_,e1,k _ H (jn.refl H) rfl⟩
 ·cases h
theorem akE (hc:X.calm=true):Qt X (.builtin "min") aiw:=by
 refine ⟨_,ag1 hc,fun ds d xs H Q h r k=>?_⟩
 unfold aiw at h
 split at h
 ·cases h
  obtain ⟨x,q,e1,e2,y,q',e3,e4,e5⟩:=r
  cases (show x=_ from e2); cases (show y=_ from e4); cases (show q'=[] from e5); subst e3
  exact ⟨_,_,e1,k _ H (jn.refl H) rfl⟩
 ·cases h
end
section
variable {X:Cx}{pins:List (Addr × Obj)}{σ:St}{H:Hp}{s:Shared}
theorem aak {prog:Program}{w:World}{A:Around}{E:Value->Shared->Prop}{l:Addr}{its:Array Value}{Q:Value->Shared->Prop} (hl:s.heap.IsList l its)
  (h:∀ (h2:Heap) (it:Addr),(h2.IsListIter it l 0/\h2.IsList l its)->(∀ b ∈ [it,l],b < h2.objs.size)->l ≠ it->(∀ b o,s.heap.get? b=some o->h2.get? b=some o)->s.heap.get? it=none->Q (.ref it) { s with heap:=h2 }):
  wpAny (model prog w) A (pyIter (.ref l)) Q E s:=by
 have hlt:l < s.heap.objs.size:=by
  obtain ⟨_,e,_⟩:=hl
  exact Heap.lt_size e
 refine wpAny_pyIter_list hl (h _ _ ⟨⟨_,Heap.get?_push_size _ rfl,rfl,rfl⟩,hl.push _⟩ (fun b hb=>?_) (Nat.ne_of_lt hlt) (fun b o e=>Heap.get?_push_of_some _ e) (Heap.get?_none_of_le (Nat.le_refl _)))
 rw [Heap.size_push]
 rcases List.mem_cons.mp hb with e | hb
 ·rw [e]; exact Nat.lt_succ_self _
 ·have e:b=l:=by simpa using hb
  rw [e]; exact Nat.lt_succ_of_lt hlt
theorem acM {prog:Program}{w:World}{A:Around}{E:Value->Shared->Prop}{l:Addr}{its:Array Value}{Q:Value->Shared->Prop} (hl:s.heap.IsTuple l its)
  (h:∀ (h2:Heap) (it:Addr),(h2.IsTupleIter it l 0/\h2.IsTuple l its)->(∀ b ∈ [it,l],b < h2.objs.size)->l ≠ it->(∀ b o,s.heap.get? b=some o->h2.get? b=some o)->s.heap.get? it=none->Q (.ref it) { s with heap:=h2 }):
  wpAny (model prog w) A (pyIter (.ref l)) Q E s:=by
 have hlt:l < s.heap.objs.size:=by
  obtain ⟨_,e,_⟩:=hl
  exact Heap.lt_size e
 have hl2:∀ o,(s.heap.push o).IsTuple l its:=fun o=>by
  obtain ⟨ob,e,r⟩:=hl
  exact ⟨ob,Heap.get?_push_of_some _ e,r⟩
 refine wpAny_pyIter_tuple hl (h _ _ ⟨⟨_,Heap.get?_push_size _ rfl,rfl,rfl⟩,hl2 _⟩ (fun b hb=>?_) (Nat.ne_of_lt hlt) (fun b o e=>Heap.get?_push_of_some _ e) (Heap.get?_none_of_le (Nat.le_refl _)))
 rw [Heap.size_push]
 rcases List.mem_cons.mp hb with e | hb
 ·rw [e]; exact Nat.lt_succ_self _
 ·have e:b=l:=by simpa using hb
  rw [e]; exact Nat.lt_succ_of_lt hlt
theorem ZG {h h2 h3 : Heap} {it : Addr} (k1 : ∀ b o, h.get? b = some o -> h2.get? b = some o) (hn : h.get? it = none) (k2 : ∀ b o, b ∉ [it] -> h2.get? b = some o -> h3.get? b = some o) : ∀ b o, h.get? b = some o -> h3.get? b = some o := fun b o e =>
  k2 b o (fun z => by have e1 : b = it := by simpa using z
                      rw [e1, hn] at e; cases e) (k1 b o e)
theorem agr:∀ {bs:List Bool}{us:List Value},jC (bs.map V.bl) us->us=bs.map Value.bool
 | [],us,r=>by cases r; rfl
 | b::bs,us,r=>by
  cases r with
  | cons r1 r2=>cases (show _=_ from r1); rw [agr r2]; rfl
theorem ag7 (bs:List Bool):(List.range bs.length).all (fun i=>bs.getD i false)=bs.all id:=by
 have:bs=(List.range bs.length).map (fun i=>bs.getD i false):=by
  apply List.ext_getElem?
  intro i
  rw [List.getElem?_map]
  by_cases h:i < bs.length
  ·rw [List.getElem?_range h]; simp [List.getD,h]
  ·simp [h]
 conv=>rhs; rw [this]
 rw [List.all_map]; rfl
noncomputable def aow (K:PySem.W.Frag):List V->Hp->VK->Prop:=fun xs H Q=>∃ a bs,xs=[.ref a]/\SqL K H a (List.map V.bl bs)/\Q (.bl (bs.all id)) H
theorem ag8 (hc:X.calm=true):qX X (.builtin "all") (aow X.K):=by
 intro pins s σ H xs us Q I r ⟨a,bs,e,hq,q⟩
 subst e
 obtain ⟨u,rfl,rx⟩:=aaG r
 cases rx
 obtain ⟨its,rv,pl,hz⟩:=I.list hq
 have ei:=agr rv
 have hh:=I.ok.hd hc
 refine call_all_walk (aak pl.isList fun h2 it st hlt hne k1 hn=>?_)
 refine ⟨it,[it,a],[it],its.toArray.size,(fun i v=>its.toArray[i]?=some v),_,fun i=>bs.getD i false,rfl,Walks.list (A:=X.A.in1) hh it a hne its.toArray,st,?_,fun h3 tk k2=>?_⟩
 ·intro i v s' Q' E' hP hq'
  have:v= .bool (bs.getD i false):=by
   have hP':its[i]?=some v:=by simpa using hP
   rw [ei,List.getElem?_map] at hP'
   cases hb:bs[i]? with
   | none=>rw [hb] at hP'; cases hP'
   | some b=>rw [hb] at hP'; cases hP'; simp [List.getD,hb]
  subst this
  exact wpAny_truthy_bool hq'
 ·have I3:=I.kept (t':=tk) (ZG k1 hn k2)
  have hl:its.toArray.size=bs.length:=by rw [ei]; simp
  refine ⟨.bl (bs.all id),H,I3,?_,q⟩
  show _=_
  rw [hl,ag7]
noncomputable def bls:List PyData->Option (List Bool)
 | []=>some []
 | d::r=>(asB d).bind fun b=>(bls r).map fun q=>b::q
theorem Reps.bls {K:PySem.W.Frag}{H:Hp}:∀ {ds:List PyData}{bs:List Bool}{xs:List V},BX.bls ds=some bs->Reps K H ds xs->xs=bs.map V.bl
 | [],bs,xs,h,r=>by simp [BX.bls] at h; subst h; exact r
 | d::ds,bs,xs,h,⟨x,q,e1,e2,e3⟩=>by
  subst e1
  cases h1:asB d with
  | none=>simp [BX.bls,h1] at h
  | some b=>
   cases h2:BX.bls ds with
   | none=>simp [BX.bls,h1,h2] at h
   | some r=>
    have:b::r=bs:=by simpa [BX.bls,h1,h2] using h
    subst this
    have hd:=Qs h1
    subst hd
    cases (show x=_ from e2)
    rw [Reps.bls h2 e3]; rfl
noncomputable def amo (ds:List PyData):Option PyData:=match ds with
 | [.list xs]=>(bls xs).map fun bs=> .bool (bs.all id)
 | _=>none
theorem amp (hc:X.calm=true):Qt X (.builtin "all") amo:=by
 refine ⟨_,ag8 hc,fun ds d xs H Q h r k=>?_⟩
 unfold amo at h
 split at h
 ·rename_i ys
  cases hb:bls ys with
  | none=>simp [hb] at h
  | some bs=>
   have:PyData.bool (bs.all id)=d:=by simpa [hb] using h
   subst this
   obtain ⟨x,q,e1,e2,e3⟩:=r
   cases (show q=[] from e3)
   obtain ⟨a,us,g1,g2,g3⟩:=e2
   subst g1
   have:=Reps.bls hb g3
   subst this
   exact ⟨a,bs,e1,SqL.of g2,k _ H (jn.refl H) rfl⟩
 ·cases h
noncomputable def JF:PyData->Option Int
 | .int i=>some i
 | _=>none
noncomputable def qp:List PyData->Option (List Int)
 | []=>some []
 | d::r=>(JF d).bind fun b=>(qp r).map fun q=>b::q
theorem zS:∀ {ds:List PyData}{ns:List Int},qp ds=some ns->ds=ns.map PyData.int
 | [],ns,h=>by simp [qp] at h; subst h; rfl
 | d::ds,ns,h=>by
  cases d with
  | int i=>
   cases h2:qp ds with
   | none=>simp [qp,JF,h2] at h
   | some r=>
    have:i::r=ns:=by simpa [qp,JF,h2] using h
    subst this
    rw [zS h2]; rfl
  | _=>simp [qp,JF] at h
theorem qV {ns:List Int}{us:List Value}{i:Nat}{v:Value} (r:jC (ns.map V.int) us) (h:us.toArray[i]?=some v):∃ t,v= .int (ns.getD i 0) t:=by
 have h':us[i]?=some v:=by simpa using h
 have hi:i < us.length:=(List.getElem?_eq_some_iff.mp h').1
 have hl:=r.length
 rw [List.length_map] at hl
 obtain ⟨u,e1,e2⟩:=r.get (show (ns.map V.int)[i]?=some (V.int (ns.getD i 0)) by
  rw [List.getElem?_map]
  have:i < ns.length:=by omega
  simp [List.getD,this])
 rw [h'] at e1; cases e1
 exact e2
theorem aaJ (ns:List Int):preSum (fun i=>ns.getD i 0) ns.length=ns.sum:=by
 have go:∀ k,k<=ns.length->preSum (fun i=>ns.getD i 0) k=(ns.take k).sum:=by
  intro k
  induction k with
  | zero=>intro _; simp [preSum]
  | succ k ih=>
   intro hk
   have hlt:k < ns.length:=by omega
   have h1:ns.take (k+1)=ns.take k++[ns[k]]:=by rw [List.take_succ]; simp [hlt]
   rw [h1]
   simp only [preSum,ih (by omega),List.sum_append,List.sum_cons,List.sum_nil,Int.add_zero]
   simp [List.getD,hlt]
 have:=go ns.length (Nat.le_refl _)
 simpa using this
noncomputable def aox (K:PySem.W.Frag):List V->Hp->VK->Prop:=fun xs H Q=>∃ a ns,xs=[.ref a]/\(SqL K H a (List.map V.int ns) ∨ SqT K H a (List.map V.int ns))/\Q (.int ns.sum) H
theorem ag9 (hc:X.calm=true):qX X (.builtin "sum") (aox X.K):=by
 intro pins s σ H xs us Q I r ⟨a,ns,e,hq,q⟩
 subst e
 obtain ⟨u,rfl,rx⟩:=aaG r
 cases rx
 have hh:=I.ok.hd hc
 rcases hq with hq | hq
 ·obtain ⟨its,rv,pl,hz⟩:=I.list hq
  have hl:its.toArray.size=ns.length:=by have:=rv.length; simp at this ⊢; omega
  refine call_sum_walkG (aak pl.isList fun h2 it st hlt hne k1 hn=>?_)
  refine ⟨it,[it,a],[it],its.toArray.size,(fun i v=>its.toArray[i]?=some v),_,fun i=>ns.getD i 0,rfl,Walks.list (A:=X.A.in1) hh it a hne its.toArray,st,hlt,fun i v hP=>qV rv hP,fun h3 tk t' k2=>?_⟩
  exact ⟨.int ns.sum,H,I.kept (t':=tk) (ZG k1 hn k2),⟨t',by rw [hl,aaJ]⟩,q⟩
 ·obtain ⟨its,rv,pl,hz⟩:=I.tuple hq
  have hl:its.toArray.size=ns.length:=by have:=rv.length; simp at this ⊢; omega
  refine call_sum_walkG (acM (show s.heap.IsTuple a its.toArray from pl) fun h2 it st hlt hne k1 hn=>?_)
  refine ⟨it,[it,a],[it],its.toArray.size,(fun i v=>its.toArray[i]?=some v),_,fun i=>ns.getD i 0,rfl,Walks.tuple (A:=X.A.in1) hh it a hne its.toArray,st,hlt,fun i v hP=>qV rv hP,fun h3 tk t' k2=>?_⟩
  exact ⟨.int ns.sum,H,I.kept (t':=tk) (ZG k1 hn k2),⟨t',by rw [hl,aaJ]⟩,q⟩
noncomputable def acs (ds:List PyData):Option PyData:=match ds with
 | [.list xs]=>(qp xs).map fun ns=> .int ns.sum
 | [.tuple xs]=>(qp xs).map fun ns=> .int ns.sum
 | _=>none
theorem Zl (hc:X.calm=true):Qt X (.builtin "sum") acs:=by
 refine ⟨_,ag9 hc,fun ds d xs H Q h r k=>?_⟩
 unfold acs at h
 split at h
 ·rename_i ys
  cases hb:qp ys with
  | none=>simp [hb] at h
  | some ns=>
   have:PyData.int ns.sum=d:=by simpa [hb] using h
   subst this
   obtain ⟨x,q,e1,e2,e3⟩:=r
   cases (show q=[] from e3)
   obtain ⟨a,us,g1,g2,g3⟩:=e2
   subst g1
   rw [zS hb] at g3
   have:=Reps.ints g3
   subst this
   exact ⟨a,ns,e1,.inl (SqL.of g2),k _ H (jn.refl H) rfl⟩
 ·rename_i ys
  cases hb:qp ys with
  | none=>simp [hb] at h
  | some ns=>
   have:PyData.int ns.sum=d:=by simpa [hb] using h
   subst this
   obtain ⟨x,q,e1,e2,e3⟩:=r
   cases (show q=[] from e3)
   obtain ⟨a,us,g1,g2,g3⟩:=e2
   subst g1
   rw [zS hb] at g3
   have:=Reps.ints g3
   subst this
   exact ⟨a,ns,e1,.inr g2,k _ H (jn.refl H) rfl⟩
 ·cases h
end
section
variable {prog:Program}{w:World}{A:Around}{E:Value->Shared->Prop}{s:Shared}
theorem JX {it t:Addr}{i:Nat}{ys:Array Value}{x:Value}{Q:Value->Shared->Prop} (hit:s.heap.IsTupleIter it t i) (ht:s.heap.IsTuple t ys) (hx:ys[i]?=some x)
  (hQ:∀ h',h'.IsTupleIter it t (i+1)->Heap.SameBut it s.heap h'->Q x { s with heap:=h' }):wpAny (model prog w) A (Builtin.SmallTypes.nextOf (.ref it)) Q E s:=by
 obtain ⟨o,ho,hc,hd⟩:=id hit
 obtain ⟨ot,hot,_,nt,hdt⟩:=ht
 unfold Builtin.SmallTypes.nextOf
 refine wpAny_bind (wpAny_callSpecial?_slot (name:=Str.ofString "__next__") hit.typeIs F.slot_tuple_iterator_next
  (wpAny_call_entry F.slot_tuple_iterator_next hit.typeIs F.entry_tuple_iterator_next ?_
   (F.args_tuple_iterator_next_1 _)))
 refine wpAny_bind (m:=field (.ref it) 0) (wpAny_field ho hd (x:= .ref t) rfl ?_)
 have no:¬ ((Value.ref t == Value.none)=true):=Bool.false_ne_true
 show wpAny _ _ (if (Value.ref t == Value.none)=true then _ else
  _) _ _ s
 rw [if_neg no]
 refine wpAny_bind (m:=field (.ref it) 1) (wpAny_field ho hd (x:= .int i 0) rfl ?_)
 refine wpAny_bind (m:=seqItems? (.ref t)) (wpAny_seqItems hot hdt ?_)
 simp only [Int.toNat_natCast,hx]
 refine wpAny_bind (wpAny_setField ho hd (by simp) (wpAny_pure ⟨x,rfl,wpAny_pure (hQ _ ?_ (Heap.SameBut.update ..))⟩))
 refine ⟨_,Heap.get?_update_self _ ho (Obj.isFreed_of_fields (Obj.data_mapFields hd _)),(Obj.cls_mapFields ..).trans hc,?_⟩
 rw [Obj.data_mapFields hd]
 simp [rawInt]
theorem acN {it t:Addr}{i:Nat}{ys:Array Value}{Q:Value->Shared->Prop} (hh:A.handled=none) (hit:s.heap.IsTupleIter it t i) (ht:s.heap.IsTuple t ys) (hx:ys[i]?=none)
  (hE:∀ h' e,Heap.ExtBut it s.heap h'->(∃ o,h'.get? e=some o/\o.cls= .type "StopIteration")->E (.ref e) { s with heap:=h' }):wpAny (model prog w) A (Builtin.SmallTypes.nextOf (.ref it)) Q E s:=by
 obtain ⟨o,ho,hc,hd⟩:=id hit
 obtain ⟨ot,hot,_,nt,hdt⟩:=ht
 unfold Builtin.SmallTypes.nextOf
 refine wpAny_bind (wpAny_callSpecial?_slot (name:=Str.ofString "__next__") hit.typeIs F.slot_tuple_iterator_next
  (wpAny_call_entry F.slot_tuple_iterator_next hit.typeIs F.entry_tuple_iterator_next ?_
   (F.args_tuple_iterator_next_1 _)))
 refine wpAny_bind (m:=field (.ref it) 0) (wpAny_field ho hd (x:= .ref t) rfl ?_)
 have no:¬ ((Value.ref t == Value.none)=true):=Bool.false_ne_true
 show wpAny _ _ (if (Value.ref t == Value.none)=true then _ else
  _) _ _ s
 rw [if_neg no]
 refine wpAny_bind (m:=field (.ref it) 1) (wpAny_field ho hd (x:= .int i 0) rfl ?_)
 refine wpAny_bind (m:=seqItems? (.ref t)) (wpAny_seqItems hot hdt ?_)
 simp only [Int.toNat_natCast,hx]
 refine wpAny_bind (wpAny_rule (wpAny_bind (wpAny_setField ho hd (by simp) ?_)))
 refine wpAny_bind (m:=newExc (.type "StopIteration") []) ?_
 simp only [newExc,newTuple]
 refine wpAny_bind (wpAny_newObj_type ?_ (by size_fits))
 refine wpAny_bind (m:=firstArgMember _ _) (wpAny_of_eq (a:=Value.none)
  (by first | rfl | (simp only [firstArgMember]; rfl)) ?_)
 refine wpAny_newObj_type ?_ (by size_fits)
 simp only [raiseNew]
 refine wpAny_bind (wpAny_handled ?_)
 rw [show A.in1.handled=none from hh]
 refine wpAny_bind (wpAny_pure (wpAny_throw ?_))
 exact hE _ _ (((Heap.SameBut.update ..).extBut.push _).push _) ⟨_,Heap.get?_push_size _ rfl,rfl⟩
noncomputable abbrev ZH (h:Heap) (T:Addr) (a b c:Value):Prop:=h.get? T=some { cls:= .type "tuple",data:= .seq #[a,b,c] }
theorem abA {T:Addr}{a b c x:Value}{k:Nat}{Q:Unit->Shared->Prop} (hT:ZH s.heap T a b c)
  (h:∀ h',h'.get? T=some { cls:= .type "tuple",data:= .seq ((#[a,b,c]:Array Value).setIfInBounds k x) }->Heap.SameBut T s.heap h'->Q () { s with heap:=h' }):
  wpAny (model prog w) A (updateSeq T (·.setIfInBounds k x)) Q E s:=by
 refine wpAny_updateSeq hT rfl (h _ ?_ (Heap.SameBut.update ..))
 rw [Heap.get?_update_self _ hT rfl]
 simp [Obj.mapSeq]
structure Apart3 (z TI TO i1 i2 i3 t1 t2 t3:Addr):Prop where
 nd:[z,TO,i1,i2,i3].Nodup
 ti:TI ∉ [z,TO,i1,i2,i3]
 s1:t1 ∉ [z,TO,i1,i2,i3]
 s2:t2 ∉ [z,TO,i1,i2,i3]
 s3:t3 ∉ [z,TO,i1,i2,i3]
structure Zip3 (h:Heap) (z TI TO i1 i2 i3 t1 t2 t3:Addr) (xs ys zs:Array Value) (f0:Value) (k:Nat):Prop where
 hz:IsZip h z TI TO f0
 hTI:ZH h TI (.ref i1) (.ref i2) (.ref i3)
 hTO:∃ a b c,ZH h TO a b c
 g1:h.IsTupleIter i1 t1 k
 g2:h.IsTupleIter i2 t2 k
 g3:h.IsTupleIter i3 t3 k
 a1:h.IsTuple t1 xs
 a2:h.IsTuple t2 ys
 a3:h.IsTuple t3 zs
theorem Zip3.keep {h h':Heap}{z TI TO i1 i2 i3 t1 t2 t3:Addr}{xs ys zs:Array Value}{f0:Value}{k:Nat} (S:Zip3 h z TI TO i1 i2 i3 t1 t2 t3 xs ys zs f0 k)
  (kp:∀ b ∈ [z,TI,TO,i1,i2,i3,t1,t2,t3],∀ o,h.get? b=some o->h'.get? b=some o):Zip3 h' z TI TO i1 i2 i3 t1 t2 t3 xs ys zs f0 k:=by
 obtain ⟨hz,hTI,⟨a,b,c,hTO⟩,⟨o1,e1,r1⟩,⟨o2,e2,r2⟩,⟨o3,e3,r3⟩,⟨p1,f1,q1⟩,⟨p2,f2,q2⟩,⟨p3,f3,q3⟩⟩:=S
 exact ⟨kp z (by simp) _ hz,kp TI (by simp) _ hTI,⟨a,b,c,kp TO (by simp) _ hTO⟩,⟨o1,kp i1 (by simp) _ e1,r1⟩,⟨o2,kp i2 (by simp) _ e2,r2⟩,⟨o3,kp i3 (by simp) _ e3,r3⟩,⟨p1,kp t1 (by simp) _ f1,q1⟩,⟨p2,kp t2 (by simp) _ f2,q2⟩,⟨p3,kp t3 (by simp) _ f3,q3⟩⟩
noncomputable def But (l:List Addr) (h h':Heap):Prop:=∀ b o,b ∉ l->h.get? b=some o->h'.get? b=some o
theorem But.of {b:Addr}{l:List Addr}{h h':Heap} (x:Heap.ExtBut b h h') (hb:b ∈ l):But l h h':=fun c o hc e=>x c o (fun z=>hc (by rw [z]; exact hb)) e
theorem But.trans {l:List Addr}{h h1 h2:Heap} (a:But l h h1) (b:But l h1 h2):But l h h2:=fun c o hc e=>b c o hc (a c o hc e)
theorem aha {z TI TO i1 i2 i3 t1 t2 t3:Addr}{xs ys zs:Array Value}{k:Nat}{x y v:Value}{Q:Value->Shared->Prop} (D:Apart3 z TI TO i1 i2 i3 t1 t2 t3) (S:Zip3 s.heap z TI TO i1 i2 i3 t1 t2 t3 xs ys zs .none k)
  (hx:xs[k]?=some x) (hy:ys[k]?=some y) (hv:zs[k]?=some v)
  (hQ:∀ h',Zip3 h' z TI TO i1 i2 i3 t1 t2 t3 xs ys zs (rawInt s.heap.objs.size) (k+1)->ZH h' s.heap.objs.size x y v->But [z,TO,i1,i2,i3] s.heap h'->Q (.ref s.heap.objs.size) { s with heap:=h' }):
  wpAny (model prog w) A (Builtin.«zip.__next__» ⟨[.ref z],[]⟩) (fun fin s'=>∃ v,fin= .done (.ret v)/\Q v s') E s:=by
 obtain ⟨hz,hTI,⟨a,b,c,hTO⟩,g1,g2,g3,a1,a2,a3⟩:=S
 obtain ⟨nd,ti,s1,s2,s3⟩:=D
 simp only [List.nodup_cons,List.mem_cons,List.not_mem_nil,or_false,not_or] at nd ti s1 s2 s3
 obtain ⟨⟨n1,n2,n3,n4⟩,⟨n5,n6,n7⟩,⟨n8,n9⟩,n10,_⟩:=nd
 obtain ⟨t1z,t1o,t11,t12,t13⟩:=s1
 obtain ⟨t2z,t2o,t21,t22,t23⟩:=s2
 obtain ⟨t3z,t3o,t31,t32,t33⟩:=s3
 obtain ⟨tiz,tio,ti1,ti2,ti3⟩:=ti
 refine wpAny_bind (m:=field (.ref z) 2) (wpAny_field hz rfl (x:= .bool false) rfl ?_)
 refine wpAny_bind (m:=field (.ref z) 3) (wpAny_field hz rfl (x:= .ref TI) rfl ?_)
 refine wpAny_bind (wpAny_seqItems hTI rfl ?_)
 refine wpAny_bind (m:=Builtin.SmallTypes.ownedTupleIsFree (.ref z)) ?_
 unfold Builtin.SmallTypes.ownedTupleIsFree
 refine wpAny_bind (wpAny_field hz rfl (x:= .none) rfl (wpAny_pure ?_))
 simp only [zzM]
 refine wpAny_bind (wpAny_rule ?_)
 refine wpAny_bind (wpAny_field hz rfl (x:= .ref TO) rfl ?_)
 refine wpAny_bind (wpAny_setField_rec hz (by simp) fun h1 hz1 b1=>?_)
 replace hz1:IsZip h1 z TI TO .ellipsis:=hz1
 refine wpAny_bind ?_
 simp only [List.zipIdx_cons,List.zipIdx_nil,List.forIn_cons,List.forIn_nil]
 refine wpAny_bind (wpAny_bind (wpAny_onRaise ?_))
 refine wpAny_bind (m:=Builtin.SmallTypes.nextOf (.ref i1)) ?_
 refine JX (g1.extBut b1.extBut (Ne.symm n2)) (a1.extBut b1.extBut t1z) hx fun h2 g1' b2=>wpAny_pure ?_
 have o2:ZH h2 TO a b c:=b2.extBut _ _ n5 (b1.extBut _ _ (Ne.symm n1) hTO)
 refine wpAny_bind (wpAny_seqItems o2 rfl ?_)
 refine wpAny_bind (abA o2 fun h3 o3 b3=>?_)
 replace o3:ZH h3 TO x b c:=o3
 refine wpAny_bind (wpAny_letGo (wpAny_pure ?_))
 refine wpAny_bind (wpAny_bind (wpAny_onRaise ?_))
 refine wpAny_bind (m:=Builtin.SmallTypes.nextOf (.ref i2)) ?_
 refine JX (((g2.extBut b1.extBut (Ne.symm n3)).extBut b2.extBut (Ne.symm n8)).extBut b3.extBut (Ne.symm n6)) (((a2.extBut b1.extBut t2z).extBut b2.extBut t21).extBut b3.extBut t2o) hy fun h4 g2' b4=>wpAny_pure ?_
 have o4:ZH h4 TO x b c:=b4.extBut _ _ n6 o3
 refine wpAny_bind (wpAny_seqItems o4 rfl ?_)
 refine wpAny_bind (abA o4 fun h5 o5 b5=>?_)
 replace o5:ZH h5 TO x y c:=o5
 refine wpAny_bind (wpAny_letGo (wpAny_pure ?_))
 refine wpAny_bind (wpAny_bind (wpAny_onRaise ?_))
 refine wpAny_bind (m:=Builtin.SmallTypes.nextOf (.ref i3)) ?_
 refine JX (((((g3.extBut b1.extBut (Ne.symm n4)).extBut b2.extBut (Ne.symm n9)).extBut b3.extBut (Ne.symm n7)).extBut b4.extBut (Ne.symm n10)).extBut b5.extBut (Ne.symm n7))
  (((((a3.extBut b1.extBut t3z).extBut b2.extBut t31).extBut b3.extBut t3o).extBut b4.extBut t32).extBut b5.extBut t3o) hv fun h6 g3' b6=>wpAny_pure ?_
 have o6:ZH h6 TO x y c:=b6.extBut _ _ n7 o5
 refine wpAny_bind (wpAny_seqItems o6 rfl ?_)
 refine wpAny_bind (abA o6 fun h7 o7 b7=>?_)
 replace o7:ZH h7 TO x y v:=o7
 refine wpAny_bind (wpAny_letGo (wpAny_pure (wpAny_pure ?_)))
 refine wpAny_bind (wpAny_seqItems o7 rfl ?_)
 refine wpAny_bind (wpAny_newTuple ?_)
 have sz:h7.objs.size=s.heap.objs.size:=by rw [b7.1,b6.1,b5.1,b4.1,b3.1,b2.1,b1.1]
 have B:But [z,TO,i1,i2,i3] s.heap h7:=
  ((((((But.of b1.extBut (by simp)).trans (But.of b2.extBut (by simp))).trans (But.of b3.extBut (by simp))).trans (But.of b4.extBut (by simp))).trans (But.of b5.extBut (by simp))).trans (But.of b6.extBut (by simp))).trans (But.of b7.extBut (by simp))
 have z7:IsZip h7 z TI TO .ellipsis:=b7.extBut _ _ n1 (b6.extBut _ _ n4 (b5.extBut _ _ n1 (b4.extBut _ _ n3 (b3.extBut _ _ n1 (b2.extBut _ _ n2 hz1)))))
 have i17:h7.IsTupleIter i1 t1 (k+1):=((((g1'.extBut b3.extBut (Ne.symm n5)).extBut b4.extBut n8).extBut b5.extBut (Ne.symm n5)).extBut b6.extBut n9).extBut b7.extBut (Ne.symm n5)
 have i27:h7.IsTupleIter i2 t2 (k+1):=((g2'.extBut b5.extBut (Ne.symm n6)).extBut b6.extBut n10).extBut b7.extBut (Ne.symm n6)
 have i37:h7.IsTupleIter i3 t3 (k+1):=g3'.extBut b7.extBut (Ne.symm n7)
 refine wpAny_bind (m:=Builtin.SmallTypes.ownedTupleHandOut (.ref z) (.ref h7.objs.size)) ?_
 unfold Builtin.SmallTypes.ownedTupleHandOut
 have z8:IsZip (h7.push { cls:= .type "tuple",data:= .seq #[x,y,v] }) z TI TO .ellipsis:=Heap.get?_push_of_some _ z7
 refine wpAny_bind (wpAny_setField_rec z8 (by simp) fun h9 z9 b9=>?_)
 replace z9:IsZip h9 z TI TO (rawInt h7.objs.size):=z9
 refine wpAny_setField_rec z9 (by simp) fun h10 z10 b10=>?_
 replace z10:IsZip h10 z TI TO (rawInt h7.objs.size):=z10
 have up:∀ c o,c ≠ z->h7.get? c=some o->h10.get? c=some o:=fun c o c1 e=>b10.extBut _ _ c1 (b9.extBut _ _ c1 (Heap.get?_push_of_some _ e))
 have zlt:z < h7.objs.size:=Heap.lt_size z7
 have T10:ZH h10 h7.objs.size x y v:=b10.extBut _ _ (Nat.ne_of_gt zlt) (b9.extBut _ _ (Nat.ne_of_gt zlt) (Heap.get?_push_size _ rfl))
 rw [sz] at z10 T10
 refine wpAny_pure ⟨_,rfl,?_⟩
 show Q (.ref h7.objs.size) _
 rw [sz]
 have itk:∀ {i t:Addr} {m:Nat},i ≠ z->h7.IsTupleIter i t m->h10.IsTupleIter i t m:=fun ne ⟨o,e,r⟩=>⟨o,up _ o ne e,r⟩
 have tuk:∀ {t:Addr} {us:Array Value},t ∉ [z,TO,i1,i2,i3]->s.heap.IsTuple t us->h10.IsTuple t us:=fun ne ⟨o,e,r⟩=>⟨o,up _ o (fun q=>ne (by simp [q])) (B _ o ne e),r⟩
 refine hQ h10 ⟨z10,up _ _ tiz (B _ _ (by simp [tiz,tio,ti1,ti2,ti3]) hTI),⟨x,y,v,up _ _ (Ne.symm n1) o7⟩,itk (Ne.symm n2) i17,itk (Ne.symm n3) i27,itk (Ne.symm n4) i37,
  tuk (by simp [t1z,t1o,t11,t12,t13]) a1,tuk (by simp [t2z,t2o,t21,t22,t23]) a2,tuk (by simp [t3z,t3o,t31,t32,t33]) a3⟩ T10 fun c o hc e=>up c o (fun q=>hc (by simp [q])) (B c o hc e)
theorem aix {z TI TO i1 i2 i3 t1 t2 t3:Addr}{xs ys zs:Array Value}{k:Nat}{Q:Fin->Shared->Prop} (hh:A.handled=none) (D:Apart3 z TI TO i1 i2 i3 t1 t2 t3) (S:Zip3 s.heap z TI TO i1 i2 i3 t1 t2 t3 xs ys zs .none k) (hx:xs[k]?=none)
  (hE:∀ h' e,But [z,TO,i1,i2,i3] s.heap h'->(∃ o,h'.get? e=some o/\o.cls= .type "StopIteration")->E (.ref e) { s with heap:=h' }):
  wpAny (model prog w) A (Builtin.«zip.__next__» ⟨[.ref z],[]⟩) Q E s:=by
 obtain ⟨hz,hTI,⟨a,b,c,hTO⟩,g1,g2,g3,a1,a2,a3⟩:=S
 obtain ⟨nd,ti,s1,s2,s3⟩:=D
 simp only [List.nodup_cons,List.mem_cons,List.not_mem_nil,or_false,not_or] at nd ti s1 s2 s3
 obtain ⟨⟨n1,n2,n3,n4⟩,⟨n5,n6,n7⟩,⟨n8,n9⟩,n10,_⟩:=nd
 refine wpAny_bind (m:=field (.ref z) 2) (wpAny_field hz rfl (x:= .bool false) rfl ?_)
 refine wpAny_bind (m:=field (.ref z) 3) (wpAny_field hz rfl (x:= .ref TI) rfl ?_)
 refine wpAny_bind (wpAny_seqItems hTI rfl ?_)
 refine wpAny_bind (m:=Builtin.SmallTypes.ownedTupleIsFree (.ref z)) ?_
 unfold Builtin.SmallTypes.ownedTupleIsFree
 refine wpAny_bind (wpAny_field hz rfl (x:= .none) rfl (wpAny_pure ?_))
 simp only [zzM]
 refine wpAny_bind (wpAny_rule ?_)
 refine wpAny_bind (wpAny_field hz rfl (x:= .ref TO) rfl ?_)
 refine wpAny_bind (wpAny_setField_rec hz (by simp) fun h1 hz1 b1=>?_)
 replace hz1:IsZip h1 z TI TO .ellipsis:=hz1
 refine wpAny_bind ?_
 simp only [List.zipIdx_cons,List.zipIdx_nil,List.forIn_cons,List.forIn_nil]
 refine wpAny_bind (wpAny_bind (wpAny_onRaise ?_))
 refine wpAny_bind (m:=Builtin.SmallTypes.nextOf (.ref i1)) ?_
 refine acN hh (g1.extBut b1.extBut (Ne.symm n2)) (a1.extBut b1.extBut s1.1) hx fun h2 e b2 he=>?_
 obtain ⟨oe,ho,hc⟩:=he
 have z2:IsZip h2 z TI TO .ellipsis:=b2 _ _ n2 hz1
 have ez:e ≠ z:=fun q=>by subst q; rw [z2] at ho; cases ho; simp at hc
 refine wpAny_setField_rec z2 (by simp) fun h3 _ b3=>?_
 exact hE h3 e (((But.of b1.extBut (by simp)).trans (But.of b2 (by simp))).trans (But.of b3.extBut (by simp))) ⟨oe,b3.extBut _ _ ez ho,hc⟩
end
structure ZipC (h:Heap) (z TI TO i1 i2 i3 t1 t2 t3:Addr) (f0:Value) (k:Nat):Prop where
 hz:IsZip h z TI TO f0
 hTI:ZH h TI (.ref i1) (.ref i2) (.ref i3)
 hTO:∃ a b c,ZH h TO a b c
 g1:h.IsTupleIter i1 t1 k
 g2:h.IsTupleIter i2 t2 k
 g3:h.IsTupleIter i3 t3 k
theorem ZipC.all {h:Heap}{z TI TO i1 i2 i3 t1 t2 t3:Addr}{f0:Value}{k:Nat} (S:ZipC h z TI TO i1 i2 i3 t1 t2 t3 f0 k) {xs ys zs:Array Value} (a1:h.IsTuple t1 xs) (a2:h.IsTuple t2 ys) (a3:h.IsTuple t3 zs):
  Zip3 h z TI TO i1 i2 i3 t1 t2 t3 xs ys zs f0 k:=⟨S.hz,S.hTI,S.hTO,S.g1,S.g2,S.g3,a1,a2,a3⟩
theorem Zip3.c {h:Heap}{z TI TO i1 i2 i3 t1 t2 t3:Addr}{xs ys zs:Array Value}{f0:Value}{k:Nat} (S:Zip3 h z TI TO i1 i2 i3 t1 t2 t3 xs ys zs f0 k):ZipC h z TI TO i1 i2 i3 t1 t2 t3 f0 k:=⟨S.hz,S.hTI,S.hTO,S.g1,S.g2,S.g3⟩
theorem ZipC.keep {h h':Heap}{z TI TO i1 i2 i3 t1 t2 t3:Addr}{f0:Value}{k:Nat} (S:ZipC h z TI TO i1 i2 i3 t1 t2 t3 f0 k) (kp:∀ b ∈ [z,TI,TO,i1,i2,i3],∀ o,h.get? b=some o->h'.get? b=some o):
  ZipC h' z TI TO i1 i2 i3 t1 t2 t3 f0 k:=by
 obtain ⟨hz,hTI,⟨a,b,c,hTO⟩,⟨o1,e1,r1⟩,⟨o2,e2,r2⟩,⟨o3,e3,r3⟩⟩:=S
 exact ⟨kp z (by simp) _ hz,kp TI (by simp) _ hTI,⟨a,b,c,kp TO (by simp) _ hTO⟩,⟨o1,kp i1 (by simp) _ e1,r1⟩,⟨o2,kp i2 (by simp) _ e2,r2⟩,⟨o3,kp i3 (by simp) _ e3,r3⟩⟩
noncomputable def Itz (K:PySem.W.Frag) (t1 t2 t3:Addr):It:=
 ⟨fun i H=>∃ xs ys zs x y v,SqT K H t1 xs/\SqT K H t2 ys/\SqT K H t3 zs/\xs[i]?=some x/\ys[i]?=some y/\zs[i]?=some v,
  fun i H u H'=>∃ p x y v,u= .ref p/\H p=none/\H'=upd H p (.tup [x,y,v])/\∀ xs ys zs,SqT K H t1 xs->SqT K H t2 ys->SqT K H t3 zs->xs[i]?=some x/\ys[i]?=some y/\zs[i]?=some v,
  fun i H=>∃ xs ys zs,SqT K H t1 xs/\SqT K H t2 ys/\SqT K H t3 zs/\xs.length<=i⟩
theorem aiy {P:Program}{w:World}{K:PySem.W.Frag}{elts:List Expr}{x1:Nat}{pos:Pos}{z TI TO i1 i2 i3 t1 t2 t3:Addr} (nd:[z,TO,i1,i2,i3].Nodup) (ti:TI ∉ [z,TO,i1,i2,i3]):
  Turn P w K (.Tuple elts x1 pos) (Itz K t1 t2 t3) [z,TI,TO,i1,i2,i3] z (fun i h=>ZipC h z TI TO i1 i2 i3 t1 t2 t3 .none i) where
 mem:=by simp
 obj:=fun i h st b hb=>by
  obtain ⟨hz,hTI,⟨a,b',c,hTO⟩,⟨o1,e1,_,d1⟩,⟨o2,e2,_,d2⟩,⟨o3,e3,_,d3⟩⟩:=st
  simp only [List.mem_cons,List.not_mem_nil,or_false] at hb
  rcases hb with rfl | rfl | rfl | rfl | rfl | rfl
  ·exact ⟨_,hz,fun v q=>by cases q⟩
  ·exact ⟨_,hTI,fun v q=>by cases q⟩
  ·exact ⟨_,hTO,fun v q=>by cases q⟩
  ·exact ⟨o1,e1,fun v q=>by rw [d1] at q; cases q⟩
  ·exact ⟨o2,e2,fun v q=>by rw [d2] at q; cases q⟩
  ·exact ⟨o3,e3,fun v q=>by rw [d3] at q; cases q⟩
 keep:=fun i h h' st k=>st.keep k
 item:=by
  intro X hP hw hK hc i pins s σ H E I hf st hg
  subst hP hw hK
  obtain ⟨xs,ys,zs,x,y,v,q1,q2,q3,ex,ey,ev⟩:=hg
  obtain ⟨us1,r1,p1,z1⟩:=I.tuple q1
  obtain ⟨us2,r2,p2,z2⟩:=I.tuple q2
  obtain ⟨us3,r3,p3,z3⟩:=I.tuple q3
  obtain ⟨u1,m1,l1⟩:=r1.get ex
  obtain ⟨u2,m2,l2⟩:=r2.get ey
  obtain ⟨u3,m3,l3⟩:=r3.get ev
  have trk:∀ {t:Addr} {ws:List V},SqT X.K H t ws->t ∉ [z,TO,i1,i2,i3]:=fun {t ws} hq hb=>by
   have hb':t ∈ [z,TI,TO,i1,i2,i3]:=by
    simp only [List.mem_cons,List.not_mem_nil,or_false] at hb ⊢
    rcases hb with e | e | e | e | e <;> simp [e]
   rcases hq with (e | ⟨o,e⟩) | ⟨o,its,n,hk,hcl,hs,_,_⟩
   ·have:=(hf t hb').1; rw [e] at this; cases this
   ·have:=(hf t hb').1; rw [e] at this; cases this
   ·-- an object of the module is no iterator of ours
    obtain ⟨f0,f1,f2,f3,f4,f5⟩:=hf t hb'
    have hbase:=I.mod.kin t o hk
    rcases f3 with q | q
    ·exact I.ok.noex t o hbase q
    ·exact absurd (Nat.lt_of_lt_of_le (Heap.lt_size hbase) (Nat.le_trans I.ok.bsz q)) (Nat.lt_irrefl _)
  have D:Apart3 z TI TO i1 i2 i3 t1 t2 t3:=⟨nd,ti,trk q1,trk q2,trk q3⟩
  have S:=st.all (xs:=us1.toArray) (ys:=us2.toArray) (zs:=us3.toArray) p1 p2 p3
  have hT:s.TypeIs (.ref z) "zip":=⟨_,st.hz,rfl⟩
  unfold pyNext
  refine wpAny_bind (wpAny_attempt (wpAny_callSpecial?_slot (name:=Str.ofString "__next__") hT F.slot_zip_next
   (wpAny_call_entry F.slot_zip_next hT F.entry_zip_next (aha D S (by simpa using m1) (by simpa using m2) (by simpa using m3) fun h1 S1 T1 B1=>wpAny_pure ?_)
    (F.args_zip_next_1 _))))
  refine ⟨_,rfl,?_⟩
  refine wpAny_letOwnedTupleGo_zip (s:={ s with heap:=h1 }) S1.hz fun h2 z2' b2=>?_
  have nT:H s.heap.objs.size=none:=I.hok.fresh (Nat.le_refl _)
  have zlt:z < s.heap.objs.size:=Heap.lt_size st.hz
  have T2:ZH h2 s.heap.objs.size u1 u2 u3:=b2.extBut _ _ (Nat.ne_of_gt zlt) T1
  have B2:But [z,TO,i1,i2,i3] s.heap h2:=B1.trans (But.of b2.extBut (by simp))
  have inF:∀ b ∈ [z,TO,i1,i2,i3],b ∈ [z,TI,TO,i1,i2,i3]:=fun b hb=>by
   simp only [List.mem_cons,List.not_mem_nil,or_false] at hb ⊢
   rcases hb with e | e | e | e | e <;> simp [e]
  have ntr:∀ b u,H b=some u->b ∉ [z,TO,i1,i2,i3]:=fun b u e hb=>by
   have:=(hf b (inF b hb)).1
   rw [e] at this; cases this
  have neT:∀ b u,H b=some u->b ≠ s.heap.objs.size:=fun b u e q=>by rw [q,nT] at e; cases e
  have hok2:HOk X.prog X.w (upd H s.heap.objs.size (.tup [x,y,v])) h2:=fun b u e=>by
   by_cases hb:b=s.heap.objs.size
   ·subst hb
    rw [jq] at e
    cases e
    exact ⟨by show 3<=sizeLine; rw [sizeLine_eq]; decide,[u1,u2,u3],.cons l1 (.cons l2 (.cons l3 .nil)),⟨_,T2,rfl,_,rfl⟩⟩
   ·rw [jm hb] at e
    refine (I.hok b u e).stay (fun c o hc' q=>B2 c o ?_ q) (fun c q=>by rw [jm (neT c _ q)]; exact q) fun c ws q=>by rw [jm (neT c _ q)]; exact q
    rcases hc' with q' | q'
    ·rw [q']; exact ntr b u e
    ·exact ntr c _ q'
  have I2:Inv X pins σ (upd H s.heap.objs.size (.tup [x,y,v])) { s with heap:=h2,toks:=s.toks }:=by
   refine I.step (g':=s.gens) (d':=s.drawn) (ch:=[z,TO,i1,i2,i3]) (fun b hb=>?_) (fun b o _ _ hb e _=>B2 b o hb e) (fun b o _ _ hb e _=>⟨o.slots,B2 b o hb e⟩) (fun b o hb e n=>?_) (fun b o hb e=>⟨o,B2 b o hb e⟩)
    (fun b ws e=>by rw [jm (neT b _ e)]; exact e) (fun b ob ws e=>by rw [jm (neT b _ e)]; exact e) (fun b ps e=>⟨#[],by rw [jm (neT b _ e),e]; simp⟩) (fun m hm=>?_) hok2 I.bare
   ·obtain ⟨f0,f1,f2,f3,f4,f5⟩:=hf b (inF b hb)
    exact ⟨f3,f1,f4,f5⟩
   ·rw [jm (Nat.ne_of_lt (Heap.lt_size e))]; exact n
   ·obtain ⟨o,es,ep,ho,r⟩:=hm
    refine ⟨o,es,ep,B2 _ o (fun hb=>?_) ho,r⟩
    exact (hf _ (inF _ hb)).2.1 rfl
  refine ⟨.ref s.heap.objs.size,_,I2,rfl,⟨_,x,y,v,rfl,nT,rfl,fun as bs cs g1 g2 g3=>?_⟩,?_,fun b hb=>?_⟩
  ·rw [I.tuple_inj g1 q1,I.tuple_inj g2 q2,I.tuple_inj g3 q3]
   exact ⟨ex,ey,ev⟩
  ·have c1:=S1.c
   obtain ⟨_,hTI,⟨a,b,c,hTO⟩,⟨o1,e1,w1⟩,⟨o2,e2,w2⟩,⟨o3,e3,w3⟩⟩:=c1
   simp only [List.nodup_cons,List.mem_cons,List.not_mem_nil,or_false,not_or] at nd ti
   obtain ⟨⟨n1,n2,n3,n4⟩,_⟩:=nd
   exact ⟨z2',b2.extBut _ _ ti.1 hTI,⟨a,b,c,b2.extBut _ _ (Ne.symm n1) hTO⟩,⟨o1,b2.extBut _ _ (Ne.symm n2) e1,w1⟩,⟨o2,b2.extBut _ _ (Ne.symm n3) e2,w2⟩,⟨o3,b2.extBut _ _ (Ne.symm n4) e3,w3⟩⟩
  ·obtain ⟨o,ho,_⟩:∃ o,s.heap.get? b=some o/\True:=by
    obtain ⟨hz,hTI,⟨a,b',c,hTO⟩,⟨o1,e1,_⟩,⟨o2,e2,_⟩,⟨o3,e3,_⟩⟩:=st
    simp only [List.mem_cons,List.not_mem_nil,or_false] at hb
    rcases hb with rfl | rfl | rfl | rfl | rfl | rfl
    ·exact ⟨_,hz,trivial⟩
    ·exact ⟨_,hTI,trivial⟩
    ·exact ⟨_,hTO,trivial⟩
    ·exact ⟨_,e1,trivial⟩
    ·exact ⟨_,e2,trivial⟩
    ·exact ⟨_,e3,trivial⟩
   rw [jm (Nat.ne_of_lt (Heap.lt_size ho))]
   exact (hf b hb).1
 done:=by
  intro X hP hw hK hc i pins s σ H E I hf st hg
  subst hP hw hK
  obtain ⟨xs,ys,zs,q1,q2,q3,hl⟩:=hg
  obtain ⟨us1,r1,p1,z1⟩:=I.tuple q1
  obtain ⟨us2,r2,p2,z2⟩:=I.tuple q2
  obtain ⟨us3,r3,p3,z3⟩:=I.tuple q3
  have trk:∀ {t:Addr} {ws:List V},SqT X.K H t ws->t ∉ [z,TO,i1,i2,i3]:=fun {t ws} hq hb=>by
   have hb':t ∈ [z,TI,TO,i1,i2,i3]:=by
    simp only [List.mem_cons,List.not_mem_nil,or_false] at hb ⊢
    rcases hb with e | e | e | e | e <;> simp [e]
   rcases hq with (e | ⟨o,e⟩) | ⟨o,its,n,hk,hcl,hs,_,_⟩
   ·have:=(hf t hb').1; rw [e] at this; cases this
   ·have:=(hf t hb').1; rw [e] at this; cases this
   ·obtain ⟨f0,f1,f2,f3,f4,f5⟩:=hf t hb'
    have hbase:=I.mod.kin t o hk
    rcases f3 with q | q
    ·exact I.ok.noex t o hbase q
    ·exact absurd (Nat.lt_of_lt_of_le (Heap.lt_size hbase) (Nat.le_trans I.ok.bsz q)) (Nat.lt_irrefl _)
  have D:Apart3 z TI TO i1 i2 i3 t1 t2 t3:=⟨nd,ti,trk q1,trk q2,trk q3⟩
  have S:=st.all (xs:=us1.toArray) (ys:=us2.toArray) (zs:=us3.toArray) p1 p2 p3
  have hT:s.TypeIs (.ref z) "zip":=⟨_,st.hz,rfl⟩
  have hlen:=r1.length
  unfold pyNext
  refine wpAny_bind (wpAny_attempt (wpAny_callSpecial?_slot (name:=Str.ofString "__next__") hT F.slot_zip_next
   (wpAny_call_entry F.slot_zip_next hT F.entry_zip_next (aix (I.ok.hd hc) D S (by simp; omega) fun h1 e B1 he=>?_)
    (F.args_zip_next_1 _))))
  obtain ⟨o,ho,hcl⟩:=he
  refine wpAny_bind (wpAny_isInstance (T:="StopIteration") (b:=true) ⟨o,ho,hcl⟩ isSubtype_stop ?_)
  refine wpAny_pure ⟨rfl,?_⟩
  have inF:∀ b ∈ [z,TO,i1,i2,i3],b ∈ [z,TI,TO,i1,i2,i3]:=fun b hb=>by
   simp only [List.mem_cons,List.not_mem_nil,or_false] at hb ⊢
   rcases hb with e | e | e | e | e <;> simp [e]
  have ntr:∀ b u,H b=some u->b ∉ [z,TO,i1,i2,i3]:=fun b u e hb=>by
   have:=(hf b (inF b hb)).1
   rw [e] at this; cases this
  refine I.step (t':=s.toks) (g':=s.gens) (d':=s.drawn) (ch:=[z,TO,i1,i2,i3]) (fun b hb=>?_) (fun b o _ _ hb e _=>B1 b o hb e) (fun b o _ _ hb e _=>⟨o.slots,B1 b o hb e⟩) (fun b o hb e n=>n) (fun b o hb e=>⟨o,B1 b o hb e⟩)
   (fun b ws e=>e) (fun b ob ws e=>e) (fun b ps e=>⟨#[],by rw [e]; simp⟩) (fun m hm=>?_) (fun b u e=>?_) I.bare
  ·obtain ⟨f0,f1,f2,f3,f4,f5⟩:=hf b (inF b hb)
   exact ⟨f3,f1,f4,f5⟩
  ·obtain ⟨o,es,ep,ho,r⟩:=hm
   refine ⟨o,es,ep,B1 _ o (fun hb=>?_) ho,r⟩
   exact (hf _ (inF _ hb)).2.1 rfl
  ·refine (I.hok b u e).stay (fun c o hc' q=>B1 c o ?_ q) (fun c q=>q) fun c ws q=>q
   rcases hc' with q' | q'
   ·rw [q']; exact ntr b u e
   ·exact ntr c _ q'
 self:=fun _ _ _ _ _ st h=>wpAny_pyIter_zip st.hz h
theorem act (a b c:Value):checkTypeCall "zip" ⟨[a,b,c],[]⟩=pure ():=by kernel_rfl
theorem adw (a b c:Value):checkBuiltinCall "zip.__new__" ⟨[.type "zip",a,b,c],[]⟩=pure ():=by kernel_rfl
theorem afF (a b c d:Value):argsOk "object.__init__" ⟨[a,b,c,d],[]⟩:=by
 unfold argsOk
 rw [signature?_of (id:="object.__init__") (n:=['_','_','t','i','n','i','_','_'])
  (o:=['t','c','e','j','b','o']) (by kernel_rfl) F.owner_object]
 kernel_rfl
noncomputable abbrev amq (t:Addr):Obj:={ cls:= .type "tuple_iterator",data:= .fields #[.ref t,.int 0 0] }
noncomputable abbrev zh1 (h:Heap) (a:Addr):Heap:=h.push (amq a)
noncomputable abbrev zh2 (h:Heap) (a b:Addr):Heap:=(zh1 h a).push (amq b)
noncomputable abbrev zh3 (h:Heap) (a b c:Addr):Heap:=(zh2 h a b).push (amq c)
noncomputable abbrev zh4 (h:Heap) (a b c:Addr):Heap:=(zh3 h a b c).push { cls:= .type "tuple",data:= .seq #[.ref h.objs.size,.ref (zh1 h a).objs.size,.ref (zh2 h a b).objs.size] }
noncomputable abbrev zh5 (h:Heap) (a b c:Addr):Heap:=(zh4 h a b c).push { cls:= .type "tuple",data:= .seq #[.none,.none,.none] }
noncomputable abbrev zh6 (h:Heap) (a b c:Addr):Heap:=(zh5 h a b c).push { cls:= .type "zip",data:= .fields #[.none,.bool false,.bool false,.ref (zh3 h a b c).objs.size,.ref (zh4 h a b c).objs.size] }
theorem aiz (a b c:Addr) (xs ys zs:Array Value):
  Meets (Builtin.«zip.__new__» ⟨[.type "zip",.ref a,.ref b,.ref c],[]⟩) (fun _ R s=>s.heap.IsTuple a xs/\s.heap.IsTuple b ys/\s.heap.IsTuple c zs/\
   R (.ok (.ret (.ref (zh5 s.heap a b c).objs.size))) { s with heap:=zh6 s.heap a b c }):=
 .of_wp fun prog w A R s h=>by
  obtain ⟨hp,g,d,tk,os⟩:=s
  obtain ⟨h1,h2,h3,h⟩:=h
  have hsub:=sub_zip
  have k1:Heap.IsTuple (Shared.heap ⟨hp,g,d,tk,os⟩) a xs:=h1
  have k2:Heap.IsTuple (Shared.heap ⟨zh1 hp a,g,d,tk,os⟩) b ys:=Heap.IsTuple.push h2 _
  have k3:Heap.IsTuple (Shared.heap ⟨zh2 hp a b,g,d,tk,os⟩) c zs:=Heap.IsTuple.push (Heap.IsTuple.push h3 _) _
  wp_walk using wpAny_pyIter_tuple k1,wpAny_pyIter_tuple k2,wpAny_pyIter_tuple k3
  exact ⟨_,rfl,h⟩
section
variable {X:Cx}
noncomputable def anF (K:PySem.W.Frag) (ta:TA):TI:=fun σ H R=>ta σ H fun vs H1=>∃ a b c xs ys zs,vs=[.ref a,.ref b,.ref c]/\SqT K H1 a xs/\SqT K H1 b ys/\SqT K H1 c zs/\R (Itz K a b c) H1
theorem akF {ea eb ec:Expr}{elts:List Expr}{x1:Nat}{tp:Pos}{ta:TA}{p pos:Pos} (hg:Gl X "zip") (hm:X.mg "zip"=none) (ha:PA X [ea,eb,ec] ta)
  (hs:starEach [ea,eb,ec] X.env=[(false,eval ea X.env),(false,eval eb X.env),(false,eval ec X.env)]:=by rfl) (hs2:starEach [eb,ec] X.env=[(false,eval eb X.env),(false,eval ec X.env)]:=by rfl):
  PI X (.Tuple elts x1 tp) (.Call (.Name "zip" p) [ea,eb,ec] [] pos) (anF X.K ta):=by
 intro pins s σ H R I h
 refine Call_ (JT I hg hm boot_zip (PyProof.Rows.callWith_type1 (thn (ha pos pins s σ H _ I h) fun us s1 ⟨vs,H1,I1,r1,q1⟩=>?_) (by rw [hs,hs2]) (by rw [hs2]; rfl)))
 obtain ⟨a,b,c,xs,ys,zs,e,q1,q2,q3,q⟩:=q1
 subst e
 cases r1 with
 | cons r1 rr=>
  cases rr with
  | cons r2 rr=>
   cases rr with
   | cons r3 rr=>
    cases rr
    cases r1; cases r2; cases r3
    obtain ⟨us1,v1,p1,z1⟩:=I1.tuple q1
    obtain ⟨us2,v2,p2,z2⟩:=I1.tuple q2
    obtain ⟨us3,v3,p3,z3⟩:=I1.tuple q3
    refine callType_new F.called_zip (by decide) (act _ _ _) (adw _ _ _) (fun obj=>afF obj _ _ _) F.entry_zip_new
     (aiz a b c us1.toArray us2.toArray us3.toArray) ⟨p1,p2,p3,?_⟩
    have n1:(zh1 s1.heap a).objs.size=s1.heap.objs.size+1:=Heap.size_push ..
    have n2:(zh2 s1.heap a b).objs.size=s1.heap.objs.size+2:=by rw [Heap.size_push,n1]
    have n3:(zh3 s1.heap a b c).objs.size=s1.heap.objs.size+3:=by rw [Heap.size_push,n2]
    have n4:(zh4 s1.heap a b c).objs.size=s1.heap.objs.size+4:=by rw [Heap.size_push,n3]
    have n5:(zh5 s1.heap a b c).objs.size=s1.heap.objs.size+5:=by rw [Heap.size_push,n4]
    have g6:(zh6 s1.heap a b c).get? (zh5 s1.heap a b c).objs.size=some _:=Heap.get?_push_size _ rfl
    have g5:(zh6 s1.heap a b c).get? (zh4 s1.heap a b c).objs.size=some _:=Heap.get?_push_of_some _ (Heap.get?_push_size _ rfl)
    have g4:(zh6 s1.heap a b c).get? (zh3 s1.heap a b c).objs.size=some _:=Heap.get?_push_of_some _ (Heap.get?_push_of_some _ (Heap.get?_push_size _ rfl))
    have up3:∀ x o,(zh3 s1.heap a b c).get? x=some o->(zh6 s1.heap a b c).get? x=some o:=fun x o e=>Heap.get?_push_of_some _ (Heap.get?_push_of_some _ (Heap.get?_push_of_some _ e))
    have g3:(zh6 s1.heap a b c).get? (zh2 s1.heap a b).objs.size=some _:=up3 _ _ (Heap.get?_push_size _ rfl)
    have g2:(zh6 s1.heap a b c).get? (zh1 s1.heap a).objs.size=some _:=up3 _ _ (Heap.get?_push_of_some _ (Heap.get?_push_size _ rfl))
    have g1:(zh6 s1.heap a b c).get? s1.heap.objs.size=some _:=up3 _ _ (Heap.get?_push_of_some _ (Heap.get?_push_of_some _ (Heap.get?_push_size _ rfl)))
    have kp:∀ x o,s1.heap.get? x=some o->(zh6 s1.heap a b c).get? x=some o:=fun x o e=>up3 _ _ (Heap.get?_push_of_some _ (Heap.get?_push_of_some _ (Heap.get?_push_of_some _ e)))
    show _/\_
    refine ⟨⟨_,g6,rfl⟩,?_⟩
    refine wpAny_pyIter_zip g6 ?_
    have I2:Inv X pins σ H1 { s1 with heap:=zh6 s1.heap a b c }:=I1.kept (t':=s1.toks) kp
    refine ⟨_,[(zh5 s1.heap a b c).objs.size,(zh3 s1.heap a b c).objs.size,(zh4 s1.heap a b c).objs.size,s1.heap.objs.size,(zh1 s1.heap a).objs.size,(zh2 s1.heap a b).objs.size],
     _,_,H1,rfl,I2,aiy (z:=(zh5 s1.heap a b c).objs.size) (TI:=(zh3 s1.heap a b c).objs.size) (TO:=(zh4 s1.heap a b c).objs.size) (i1:=s1.heap.objs.size) (i2:=(zh1 s1.heap a).objs.size) (i3:=(zh2 s1.heap a b).objs.size) (t1:=a) (t2:=b) (t3:=c) ?_ ?_,
     ⟨g6,g4,⟨_,_,_,g5⟩,⟨_,g1,rfl,rfl⟩,⟨_,g2,rfl,rfl⟩,⟨_,g3,rfl,rfl⟩⟩,fun x hx=>?_,q⟩
    ·rw [n5,n4,n1,n2]
     simp [List.nodup_cons]
    ·rw [n3,n5,n4,n1,n2]
     simp
    ·have hle:s1.heap.objs.size<=x:=by
      rw [n5,n3,n4,n1,n2] at hx
      simp only [List.mem_cons,List.not_mem_nil,or_false] at hx
      rcases hx with e | e | e | e | e | e <;> rw [e] <;> first | exact Nat.le_refl _ | exact Nat.le_add_right _ _
     exact I1.fpOk hle (I1.hok.fresh hle)
noncomputable def Qv:List PyData->List PyData->List PyData->List PyData
 | x::xs,y::ys,z::zs=> .tuple [x,y,z]::Qv xs ys zs
 | _,_,_=>[]
noncomputable def ags (ds:List PyData):Option (List PyData):=match ds with
 | [.tuple xs,.tuple ys,.tuple zs]=>if xs.length=ys.length/\ys.length=zs.length then some (Qv xs ys zs) else none
 | _=>none
theorem acO:∀ (xs ys zs:List PyData),xs.length=ys.length->ys.length=zs.length->(Qv xs ys zs).length=xs.length
 | [],_,_,_,_=>by simp [Qv]
 | x::xs,[],_,h,_=>by simp at h
 | x::xs,y::ys,[],_,h=>by simp at h
 | x::xs,y::ys,z::zs,h,g=>by simp [Qv,acO xs ys zs (by simpa using h) (by simpa using g)]
theorem acP:∀ (xs ys zs:List PyData) (i:Nat) (d:PyData),(Qv xs ys zs)[i]?=some d->∃ x y z,xs[i]?=some x/\ys[i]?=some y/\zs[i]?=some z/\d= .tuple [x,y,z]
 | [],_,_,i,d,h=>by simp [Qv] at h
 | x::xs,[],_,i,d,h=>by simp [Qv] at h
 | x::xs,y::ys,[],i,d,h=>by simp [Qv] at h
 | x::xs,y::ys,z::zs,0,d,h=>by simp [Qv] at h; exact ⟨x,y,z,rfl,rfl,rfl,h.symm⟩
 | x::xs,y::ys,z::zs,i+1,d,h=>by
  obtain ⟨a,b,c,e1,e2,e3,e4⟩:=acP xs ys zs i d (by simpa [Qv] using h)
  exact ⟨a,b,c,by simpa using e1,by simpa using e2,by simpa using e3,e4⟩
theorem aiA {ea eb ec:Expr}{elts:List Expr}{x1:Nat}{tp:Pos}{p pos:Pos}{fr:Rho->Option (List PyData)} (hm:X.mg "zip"=none) (ha:PAD X [ea,eb,ec] fr) (hg:Gl X "zip":=by rfl)
  (hs:starEach [ea,eb,ec] X.env=[(false,eval ea X.env),(false,eval eb X.env),(false,eval ec X.env)]:=by rfl) (hs2:starEach [eb,ec] X.env=[(false,eval eb X.env),(false,eval ec X.env)]:=by rfl):
  PID X (.Tuple elts x1 tp) (.Call (.Name "zip" p) [ea,eb,ec] [] pos) (fun ρ=>(fr ρ).bind ags):=by
 with_unfolding_all
  refine PI.imp (akF hg hm ha hs hs2) fun σ H R ⟨ρ,ds,en,q,k⟩=>?_
  cases h1:fr ρ with
  | none=>simp [h1] at q
  | some as=>
   have q':ags as=some ds:=by simpa [h1] using q
   refine ⟨ρ,as,en,h1,fun vs H1 s1 r1=>?_⟩
   unfold ags at q'
   split at q'
   ·rename_i xs ys zs
    split at q'
    ·rename_i hl
     cases q'
     obtain ⟨v1,w1,e1,⟨a,us1,ea',qa,ra⟩,v2,w2,e2,⟨b,us2,eb',qb,rb⟩,v3,w3,e3,⟨c,us3,ec',qc,rc⟩,e4⟩:=r1
     cases (show w3=[] from e4)
     subst ea'; subst eb'; subst ec'; subst e3; subst e2
     have l1:=ra.length
     have l2:=rb.length
     have l3:=rc.length
     have lz:=acO xs ys zs hl.1 hl.2
     refine ⟨a,b,c,us1,us2,us3,e1,qa,qb,qc,k _ H1 s1 fun i H2 s2=>⟨fun hi=>?_,fun hi=>?_,fun u H3 y=>?_⟩⟩
     ·rw [lz] at hi
      exact ⟨us1,us2,us3,us1[i]'(by omega),us2[i]'(by omega),us3[i]'(by omega),jL.tup s2 qa,jL.tup s2 qb,jL.tup s2 qc,by simp <;> omega,by simp <;> omega,by simp <;> omega⟩
     ·rw [lz] at hi
      exact ⟨us1,us2,us3,jL.tup s2 qa,jL.tup s2 qb,jL.tup s2 qc,by omega⟩
     ·obtain ⟨pp,x,y,v,e5,e6,e7,e8⟩:=y
      subst e5; subst e7
      refine ⟨jD e6,fun d hd=>?_⟩
      obtain ⟨dx,dy,dz,g1,g2,g3,g4⟩:=acP xs ys zs i d hd
      subst g4
      obtain ⟨f1,f2,f3⟩:=e8 us1 us2 us3 (jL.tup s2 qa) (jL.tup s2 qb) (jL.tup s2 qc)
      have m:=s2.trans (jn.e (jD (o:= .tup [x,y,v]) e6))
      obtain ⟨x',a1,a2⟩:=(Reps.monoE m _ _ ra).get g1
      obtain ⟨y',b1,b2⟩:=(Reps.monoE m _ _ rb).get g2
      obtain ⟨z',c1,c2⟩:=(Reps.monoE m _ _ rc).get g3
      rw [f1] at a1; cases a1
      rw [f2] at b1; cases b1
      rw [f3] at c1; cases c1
      exact ⟨pp,[x,y,v],rfl,SqT.of jq,x,_,rfl,a2,y,_,rfl,b2,v,_,rfl,c2,rfl⟩
    ·cases q'
   ·cases q'
noncomputable def tyn:PyData->String
 | .none=>"NoneType"
 | .bool _=>"bool"
 | .int _=>"int"
 | .str _=>"str"
 | .tuple _=>"tuple"
 | .list _=>"list"
 | .dict kvs=>if zG kvs then "list" else "dict"
noncomputable def isFn:PyData->Bool
 | .dict [(.str _,_)]=>true
 | _=>false
noncomputable def acu (T:String) (d:PyData):Option PyData:=if isFn d=true then none else some (.bool (tyn d == T || (T == "int" && tyn d == "bool")))
theorem aiB {pins:List (Addr × Obj)}{σ:St}{H:Hp}{s:Shared}{E:Value->Shared->Prop}{Q:Value->Shared->Prop}{d:PyData}{v:V}{u c:Value}{b:Bool} (I:Inv X pins σ H s) (r:Rep X.K H d v) (hF:isFn d=false) (rv:jQ v u)
  (e:PySem.W.kitOne X.K (.type (tyn d)) c=some b) (h:∀ tk,Q (.bool b) { s with toks:=tk }):wpAny (model X.prog X.w) X.A (call (.builtin "isinstance") [u,c]) Q E s:=by
 cases d with
 | none=>cases r; cases rv; exact PySem.W.kia_one PySem.W.kitx_none I.kIn True.intro e (fun z=>nomatch z) h
 | bool y=>cases r; cases rv; exact PySem.W.kia_one PySem.W.kitx_bool I.kIn True.intro e (fun z=>nomatch z) h
 | int i=>cases r; obtain ⟨t,rfl⟩:=rv; exact PySem.W.kia_one PySem.W.kitx_int I.kIn True.intro e (fun z=>nomatch z) h
 | str y=>cases r; obtain ⟨t,rfl⟩:=rv; exact PySem.W.kia_one PySem.W.kitx_str I.kIn True.intro e (fun z=>nomatch z) h
 | tuple ds=>
  obtain ⟨a,xs,e1,e2,e3⟩:=r
  subst e1; cases rv
  obtain ⟨its,_,⟨o,h1,h2,_⟩,_⟩:=I.tuple e2
  exact PySem.W.kia_one PySem.W.kitx_tuple I.kIn ⟨o,h1,h2⟩ e (fun z=>nomatch z) h
 | list ds=>
  obtain ⟨a,xs,e1,e2,e3⟩:=r
  subst e1; cases rv
  obtain ⟨its,_,⟨o,n,h1,h2,_⟩,_⟩:=I.list (SqL.of e2)
  exact PySem.W.kia_one PySem.W.kitx_list I.kIn ⟨o,h1,h2⟩ e (fun z=>nomatch z) h
 | dict ds=>
  obtain ⟨a,e1,⟨ns,e2,e3⟩ | ⟨ks,ob,e2,e3⟩ | ⟨x,e2,_⟩ | ⟨x,_,_,e2,_⟩⟩:=r
  ·subst e1; cases rv
   subst e3
   have e:PySem.W.kitOne X.K (.type "list") c=some b:=by simpa [tyn,acK] using e
   obtain ⟨its,_,⟨o,n,h1,h2,_⟩,_⟩:=I.list e2
   exact PySem.W.kia_one PySem.W.kitx_list I.kIn ⟨o,h1,h2⟩ e (fun z=>nomatch z) h
  ·subst e1; cases rv
   obtain ⟨cc,rr,rfl,e4⟩:=e3.out
   have e:PySem.W.kitOne X.K (.type "dict") c=some b:=by simpa [tyn,zG] using e
   obtain ⟨_,_,vs,_,dd⟩:=anw I.hok (.inr ⟨ob,e2⟩)
   obtain ⟨o,es,ep,h1,h2,_⟩:=dd
   exact PySem.W.kia_one PySem.W.kitx_dict I.kIn ⟨o,h1,h2.1⟩ e (fun z=>nomatch z) h
  ·subst e2; simp [isFn] at hF
  ·subst e2; simp [isFn] at hF
noncomputable def aoy (K:PySem.W.Frag) (T:String):List V->Hp->VK->Prop:=fun xs H Q=>∃ x d b,xs=[x,.ty T]/\Rep K H d x/\isFn d=false/\PySem.W.kitOne K (.type (tyn d)) (.type T)=some b/\Q (.bl b) H
theorem aiC {T:String}:qX X (.builtin "isinstance") (aoy X.K T):=by
 intro pins s σ H xs us Q I r ⟨x,d,b,e,h1,hF,h2,q⟩
 subst e
 obtain ⟨u,w',rfl,r1,r2⟩:=aep r
 cases (show w'=_ from r2)
 exact aiB I h1 hF r1 h2 fun tk=>⟨.bl b,H,I.tok tk,rfl,q⟩
noncomputable def aaW (T:String) (d:PyData):Bool:=tyn d == T || (T == "int" && tyn d == "bool")
@[simp] theorem am4 (T:String):acu T .none=some (.bool (aaW T .none)):=rfl
@[simp] theorem am5 (T:String) (b:Bool):acu T (.bool b)=some (.bool (aaW T (.bool b))):=rfl
@[simp] theorem anG (T:String) (i:Int):acu T (.int i)=some (.bool (aaW T (.int i))):=rfl
@[simp] theorem anH (T:String) (x:Str):acu T (.str x)=some (.bool (aaW T (.str x))):=rfl
@[simp] theorem amr (T:String) (ds:List PyData):acu T (.tuple ds)=some (.bool (aaW T (.tuple ds))):=rfl
@[simp] theorem am6 (T:String) (ds:List PyData):acu T (.list ds)=some (.bool (aaW T (.list ds))):=rfl
theorem aiD {T:String}{d e:PyData} (h:acu T d=some e):isFn d=false/\e= .bool (aaW T d):=by
 unfold acu at h
 split at h
 ·cases h
 ·rename_i hf; cases h; exact ⟨by simpa using hf,rfl⟩
theorem akG {K:PySem.W.Frag}{T:String} (hT:T="bool" ∨ T="int" ∨ T="tuple") (d:PyData):PySem.W.kitOne K (.type (tyn d)) (.type T)=some (aaW T d):=by
 rcases hT with rfl | rfl | rfl <;> cases d <;> first | rfl | (rename_i kvs; by_cases h:zG kvs=true <;> simp only [tyn,aaW,h] <;> rfl)
theorem afG {a:Expr}{fa:Rho->Option PyData}{T:Str}{Tn:String}{p p2 pos:Pos} (hT:Tn="bool" ∨ Tn="int" ∨ Tn="tuple") (hm1:X.mg "isinstance"=none) (hm2:X.mg T=none) (hv:bootBuiltins T=some (.type Tn)) (ha:PD X a fa)
  (hg1:Gl X "isinstance":=by rfl) (hg2:Gl X T:=by rfl) (hn:T ≠ "__name__":=by decide) (hd:(T == ("__debug__":Str))=false:=by decide)
  (he:starEach [a,.Name T p2] X.env=[(false,eval a X.env),(false,eval (.Name T p2) X.env)]:=by rfl) (he2:starEach [.Name T p2] X.env=[(false,eval (.Name T p2) X.env)]:=by rfl) (hpl:(backTo pos (starEach [.Name T p2] X.env)).any (·.1)=false:=by rfl):
  PD X (.Call (.Name "isinstance" p) [a,.Name T p2] [] pos) (fun ρ=>(fa ρ).bind fun d=>acu Tn d):=by
 with_unfolding_all
  have hT2:PE X (.Name T p2) (tC (.ty Tn)):=agi hg2 hm2 hv rfl hn hd
  refine PE.imp (ZA (aiC (T:=Tn)) hg1 hm1 (by decide +kernel) (qg ha (qg hT2 qY (by rw [he2]; rfl)) (by rw [he,he2])) (by decide) (by decide) (by rw [he,he2]) hpl) fun σ H Q ⟨ρ,d,en,q,k⟩=>?_
  cases h1:fa ρ with
  | none=>simp [h1] at q
  | some c=>
   obtain ⟨hF,rfl⟩:=aiD (show acu Tn c=some d by simpa [h1] using q)
   exact ⟨ρ,c,en,h1,fun v H1 s1 r1=>⟨v,c,_,rfl,r1,hF,akG hT c,k _ H1 s1 rfl⟩⟩
end
noncomputable def zm (H H':Hp):Prop:=∀ b o,H b=some o->(∀ xs,o ≠ .lst xs)->H' b=some o
theorem jn.n {H H':Hp} (e:jn H H'):zm H H':=fun b o h _=>e b o h
theorem zm.refl (H:Hp):zm H H:=fun _ _ h _=>h
theorem zm.trans {H H1 H2:Hp} (a:zm H H1) (b:zm H1 H2):zm H H2:=fun c o h n=>b c o (a c o h n) n
theorem zm.upd {H:Hp}{p:Addr}{xs ys:List V} (hp:H p=some (.lst xs)):zm H (upd H p (.lst ys)):=fun b o h n=>by
 have:b ≠ p:=fun e=>by subst e; rw [hp] at h; cases h; exact n _ rfl
 rw [jm this]; exact h
mutual
noncomputable def noL:PyData->Bool
 | .none=>true
 | .bool _=>true
 | .int _=>true
 | .str _=>true
 | .tuple ds=>noLs ds
 | .list _=>false
 | .dict _=>false
noncomputable def noLs:List PyData->Bool
 | []=>true
 | d::ds=>noL d && noLs ds
end
section
variable {K:PySem.W.Frag}{H H':Hp}
theorem zm.tup {a:Addr}{xs:List V} (e:zm H H') (h:SqT K H a xs):SqT K H' a xs:=by
 rcases h with (h | ⟨o,h⟩) | h
 ·exact .inl (.inl (e _ _ h fun _ z=>nomatch z))
 ·exact .inl (.inr ⟨o,e _ _ h fun _ z=>nomatch z⟩)
 ·exact .inr h
mutual
theorem Rep.monoN (e:zm H H'):∀ (d:PyData) (v:V),noL d=true->Rep K H d v->Rep K H' d v
 | .none,v,_,h=>h
 | .bool _,v,_,h=>h
 | .int _,v,_,h=>h
 | .str _,v,_,h=>h
 | .tuple ds,v,n,⟨a,xs,h1,h2,h3⟩=>⟨a,xs,h1,zm.tup e h2,Reps.monoN e ds xs (by simpa [noL] using n) h3⟩
 | .list ds,v,n,h=>by simp [noL] at n
 | .dict ds,v,n,h=>by simp [noL] at n
theorem Reps.monoN (e:zm H H'):∀ (ds:List PyData) (xs:List V),noLs ds=true->Reps K H ds xs->Reps K H' ds xs
 | [],xs,_,h=>h
 | d::ds,xs,n,⟨x,r,h1,h2,h3⟩=>by
  have n':noL d=true/\noLs ds=true:=by simpa [noLs] using n
  exact ⟨x,r,h1,Rep.monoN e d x n'.1 h2,Reps.monoN e ds r n'.2 h3⟩
end
theorem Qw:∀ (ds es:List PyData),noLs (ds++es)=(noLs ds && noLs es)
 | [],es=>by simp [noLs]
 | d::ds,es=>by simp [noLs,Qw ds es,Bool.and_assoc]
theorem abB:∀ {ds:List PyData},(∀ d ∈ ds,noL d=true)->noLs ds=true
 | [],_=>rfl
 | d::ds,h=>by simp [noLs,h d List.mem_cons_self,abB fun x hx=>h x (List.mem_cons_of_mem _ hx)]
end
end BX
end
section
namespace BX
open PySem PySem.Spec L2
open PyProof.Rows hiding St
noncomputable def jo (P:Program) (w:World) (K:PySem.W.Frag) (mg:Str->Option Value) (base:Heap) (x:Str) (ps:List Str) (k n:Nat) (g:List PyData->Option PyData):Prop:=
 ∃ (f:Addr) (fd:FuncData),FnOk P w K mg base CX0 k f fd ps (Pur K n g)/\mg x=some (.ref f)/\PySem.W.keepIn K (.ref f)=true/\Qr K fd ps []
theorem jk:∀ (ρ:Rho) (ds:List PyData),ju ρ=some ds->ds.length=0:=fun ρ ds h=>by cases h; rfl
theorem jc {fa:Rho->Option PyData}{fr:Rho->Option (List PyData)}{n:Nat} (h:∀ (ρ:Rho) (ds:List PyData),fr ρ=some ds->ds.length=n):∀ (ρ:Rho) (ds:List PyData),jg fa fr ρ=some ds->ds.length=n+1:=fun ρ ds q=>by
 cases h1:fa ρ with
 | none=>simp [jg,h1] at q
 | some x=>
  cases h2:fr ρ with
  | none=>simp [jg,h1,h2] at q
  | some r=>
   have:x::r=ds:=by simpa [jg,h1,h2] using q
   subst this
   simp [h ρ r h2]
section
variable {X:Cx}{e:Expr}{es:List Expr}{pos:Pos}
theorem jl {k j n:Nat}{ps:List Str}{g:List PyData->Option PyData}{x:Str}{p:Pos}{fr:Rho->Option (List PyData)} (c:jo X.prog X.w X.K X.mg X.base x ps k n g) (hr:Room j X.A) (hkj:k<=j) (ha:PAD X (e::es) fr)
  (hl:∀ (ρ:Rho) (ds:List PyData),fr ρ=some ds->ds.length=n) (hn:(e::es).length=n:=by rfl) (hg:Gl X x:=by rfl) (hdb:(x == ("__debug__":Str))=false:=by decide) (he:starEach (e::es) X.env=(false,eval e X.env)::starEach es X.env:=by rfl)
  (hpl:(backTo pos (starEach es X.env)).any (·.1)=false:=by rfl):PD X (.Call (.Name x p) (e::es) [] pos) (jA g fr):=by
 with_unfolding_all
  obtain ⟨f,fd,h1,h2,h3,h4⟩:=c
  exact akA h1 (hr.mono hkj) h2 h3 h4 hn ha (fun ρ ds q=>by rw [hl ρ ds q,hn]) hg hdb he hpl
end
theorem abC {ft:Rho->Option Bool}{fe:Rho->Option PyData}{i:Nat} (p:PyData->Bool) (h:PyData->PyData):∀ (ds:List PyData) (τ:Rho),(∀ d ∈ ds,ft (τ.set i (some d))=some (p d))->(∀ d ∈ ds,p d=true->fe (τ.set i (some d))=some (h d))->
  jF (jH i) ft fe ds τ=some ((ds.filter p).map h)
 | [],τ,_,_=>rfl
 | d::ds,τ,h1,h2=>by
  have ih:=abC p h ds (τ.set i (some d)) (fun c hc=>by rw [List.set_set]; exact h1 c (List.mem_cons_of_mem _ hc)) (fun c hc hp=>by rw [List.set_set]; exact h2 c (List.mem_cons_of_mem _ hc) hp)
  simp only [jF,jH,zzD,h1 d List.mem_cons_self]
  by_cases hp:p d=true
  ·simp [hp,h2 d List.mem_cons_self hp,ih,List.filter_cons]
  ·simp [hp,ih,List.filter_cons]
theorem JG {fe:Rho->Option PyData}{i:Nat} (h:PyData->PyData) (ds:List PyData) (τ:Rho) (h2:∀ d ∈ ds,fe (τ.set i (some d))=some (h d)):jF (jH i) qP fe ds τ=some (ds.map h):=by
 rw [abC (fun _=>true) h ds τ (fun _ _=>rfl) (fun d hd _=>h2 d hd),List.filter_eq_self.mpr (fun _ _=>rfl)]
noncomputable def agt (st:Scope) (N:List Str) (sc:Scope) (N':List Str) (cap:List (Option Nat)):Bool:=
 sc.names.all (fun x=>!decide (x.2= .free) || decide (st.names.lookup x.1=some .cell) || decide (st.names.lookup x.1=some .free)) && sc.names.all (fun x=>!decide (x.2= .cell)) && decide (sc.kind= .function) &&
 sc.names.all (fun x=>!decide (x.2= .local) || decide (sc.names.lookup x.1=some .local)) && decide (cap.length=N'.length) &&
 (List.range N'.length).all (fun j=>match N'[j]?,cap[j]? with
  | some x,some (some i)=>decide (N[i]?=some x) && decide (sc.names.lookup x=some .free)
  | _,_=>true)
theorem jV {X:Cx}{sc:Scope}{N':List Str}{cap:List (Option Nat)} (st:Scope) (N:List Str) (h:agt st N sc N' cap=true) (hst:X.env.scope=st:=by rfl) (hN:X.N=N:=by rfl):CompOk X sc N' cap:=by
 simp only [agt,Bool.and_eq_true,List.all_eq_true,Bool.or_eq_true,Bool.not_eq_true',decide_eq_true_eq,decide_eq_false_iff_not] at h
 obtain ⟨⟨⟨⟨⟨h1,h2⟩,h3⟩,h4⟩,h5⟩,h6⟩:=h
 subst hst; subst hN
 refine ⟨fun x hx e=>?_,h2,h3,fun x hx e=>?_,h5,fun j i x e1 e2=>?_⟩
 ·rcases h1 x hx with (z | z) | z
  ·exact absurd e z
  ·exact .inl z
  ·exact .inr z
 ·rcases h4 x hx with z | z
  ·exact absurd e z
  ·exact z
 ·have hj:j < N'.length:=(List.getElem?_eq_some_iff.mp e1).1
  have:=h6 j (List.mem_range.mpr hj)
  rw [e1,e2] at this
  simpa using this
noncomputable def Cx.inB (X:Cx):Cx:={ X with A:=X.A.in1,xe:=NoX }
theorem Cx.Ok.inB {X:Cx} (ok:X.Ok):(Cx.inB X).Ok:=
 ⟨ok.mod,ok.kind,ok.glob,ok.blt,ok.above,ok.inj,ok.has,ok.cab,fun h=>ok.hd h,ok.frames,ok.stk,ok.exf,ok.bs,ok.bsz,ok.noex,ok.exfs,ok.funs,ok.frf⟩
theorem Cx.Ok.outB {X:Cx} (ok:(Cx.inB X).Ok):X.Ok:=
 ⟨ok.mod,ok.kind,ok.glob,ok.blt,ok.above,ok.inj,ok.has,ok.cab,fun h=>ok.hd h,ok.frames,ok.stk,ok.exf,ok.bs,ok.bsz,ok.noex,ok.exfs,ok.funs,ok.frf⟩
section
variable {X:Cx}{pins:List (Addr × Obj)}{σ:St}{H:Hp}{s:Shared}
theorem Inv.inB (I:Inv X pins σ H s):Inv (Cx.inB X) pins σ H s:=⟨Cx.Ok.inB I.ok,I.os,I.bare,I.base,I.loc,I.cell,I.free,I.freeC,I.pin,I.hok,I.len⟩
theorem Inv.outB (I:Inv (Cx.inB X) pins σ H s):Inv X pins σ H s:=⟨Cx.Ok.outB I.ok,I.os,I.bare,I.base,I.loc,I.cell,I.free,I.freeC,I.pin,I.hok,I.len⟩
end
theorem anI {prog:Program}{w:World}{A:Around}{E:Value->Shared->Prop}{s:Shared}{a b:Int}{t u:Tok}{Q:Value->Shared->Prop} (h:Q (.bool (decide (a < b))) s):wpAny (model prog w) A (richCompare .Lt (.int a t) (.int b u)) Q E s:=
 CmpOf.ints_lt (prog:=prog) (w:=w) (A:=A) (P:=fun (i:Nat) v=>∃ t,v= .int (if i=0 then a else b) t) (fun i=>if i=0 then a else b) (fun _ _ q=>q) 0 1 _ _ _ _ _ ⟨t,rfl⟩ ⟨u,rfl⟩ h
noncomputable def JH (kf:PyData->Int):PyData->List PyData->PyData
 | b,[]=>b
 | b,d::r=>if kf d < kf b then JH kf d r else JH kf b r
noncomputable def abD (kf:PyData->Int):Option PyData->List PyData->PyData
 | none,[]=> .none
 | none,d::r=>JH kf d r
 | some b,r=>JH kf b r
noncomputable def lob (us:Array Value) (c:Nat):Obj:={ cls:= .type "list",data:= .seq us c }
structure Own1 (X:Cx) (pins:List (Addr × Obj)) (b:Addr):Prop where
 h1:b ≠ X.env.locals
 h2:b ∉ X.fs
 h3:X.s₀.heap.objs.size<=b
 h4:∀ x c,X.env.cells.lookup x=some c->c ≠ b
 h5:∀ p ∈ X.pn++pins,p.1 ≠ b
noncomputable def aiE (K:PySem.W.Frag) (H:Hp) (h:Heap) (S:Addr) (kf:PyData->Int):Option PyData->Prop
 | none=>∃ c,h.get? S=some (lob #[] c)
 | some b=>∃ x u t c,Rep K H b x/\jQ x u/\h.get? S=some (lob #[u,.int (kf b) t] c)
theorem adx {h:Heap}{S:Addr}{us ws:Array Value}{c:Nat} (ho:h.get? S=some (lob us c)):∃ c2,(h.update S (Obj.mapSeq fun _=>ws)).get? S=some (lob ws c2):=by
 have e:=Heap.get?_update_self (Obj.mapSeq fun _=>ws) ho rfl
 exact ⟨_,e⟩
theorem ZI:(toString "min"++toString ".loop":String)="min.loop":=by decide
theorem ahb {X:Cx}{k:Nat}{f:Addr}{fd:FuncData}{ps:List Str}{g:List PyData->Option PyData}{kf:PyData->Int}{ds:List PyData}{xs:List V}{l it S:Addr}{pins:List (Addr × Obj)}{σ:St}{R:Result->Shared->Prop} (hc:X.calm=true)
  (FO:FnOk X.prog X.w X.K X.mg X.base CX0 k f fd ps (Pur X.K 1 g)) (hr:Room (k+1) X.A) (hb:Qr X.K fd ps []) (hk:∀ d ∈ ds,g [d]=some (.int (kf d))) (oI:Own1 X pins it) (oS:Own1 X pins S) (nIS:it ≠ S) (nlI:l ≠ it) (nlS:l ≠ S):
  ∀ (r:List PyData) (i:Nat) (bo:Option PyData) (s:Shared) (H:Hp),ds.drop i=r->Inv (Cx.inB X) pins σ H s->H l=some (.lst xs)->Reps X.K H ds xs->H it=none->H S=none->s.heap.IsListIter it l i->aiE X.K H s.heap S kf bo->
   (∀ v u s' H',Inv (Cx.inB X) pins σ H' s'->jn H H'->jQ v u->Rep X.K H' (abD kf bo r) v->R (.ok (.ret u)) s')->
   codeAny (model X.prog X.w) X.A (.builtin "min.loop" ⟨[.ref it,.ref f,.ref S],[("default",.none)]⟩) R s:=by
 have fpo:∀ {b:Addr} {H:Hp} {pl:List (Addr × Obj)},Own1 X pins b->H b=none->(∀ p ∈ pl,p.1 ≠ b)->abn (Cx.inB X) (pins++pl) H b:=fun {b H pl} o hn hp=>⟨hn,o.h1,o.h2,.inr o.h3,o.h4,fun p hq z=>by
  rcases List.mem_append.mp (show p ∈ X.pn++(pins++pl) from hq) with q | q
  ·exact o.h5 p (List.mem_append_left _ q) z
  ·rcases List.mem_append.mp q with q | q
   ·exact o.h5 p (List.mem_append_right _ q) z
   ·exact hp p q z⟩
 intro r
 induction r with
 | nil=>
  intro i bo s H hd I hl hR hI hS st hB fin
  obtain ⟨its,rv,p,hz⟩:=I.list (SqL.of (K:=X.K) hl)
  have hle:ds.length<=i:=by
   have:=congrArg List.length hd
   simp at this; omega
  have hlen:=hR.length
  have hvl:=rv.length
  have f0:=fpo (pl:=[]) oI hI (fun _ z=>nomatch z)
  obtain ⟨q0,q1,q2,q3,q4,q5⟩:=f0
  refine codeAny_builtin PySem.F.entry_min_loop ?_
  rw [Around.under_plainId PySem.F.plain_min_loop _]
  cases bo with
  | none=>
   obtain ⟨c,hSo⟩:=hB
   refine wpAny_bind (m:=seqItems? (.ref S)) (wpAny_seqItems hSo rfl ?_)
   refine wpAny_bind (m:=tryCatch (pyNext (.ref it)) _) (wpAny_tryCatch (wpAny_pyNext_list_end (I.ok.hd hc) st p.isList (by simp; omega) fun h' eb=>?_))
   have I1:Inv (Cx.inB X) pins σ H { s with heap:=h' }:=I.turned (t':=s.toks) (it:=it) (fun b o hb e=>eb b o hb e) hI oI.h1 (.inr oI.h3) oI.h4 oI.h5
   refine wpAny_bind (m:=rule _) (wpAny_rule ?_)
   exact wpAny_pure (fin .non _ _ H I1 (jn.refl H) rfl rfl)
  | some b=>
   obtain ⟨x,u,t,c,rx,ru,hSo⟩:=hB
   refine wpAny_bind (m:=seqItems? (.ref S)) (wpAny_seqItems hSo rfl ?_)
   refine wpAny_bind (m:=tryCatch (pyNext (.ref it)) _) (wpAny_tryCatch (wpAny_pyNext_list_end (I.ok.hd hc) st p.isList (by simp; omega) fun h' eb=>?_))
   have I1:Inv (Cx.inB X) pins σ H { s with heap:=h' }:=I.turned (t':=s.toks) (it:=it) (fun b o hb e=>eb b o hb e) hI oI.h1 (.inr oI.h3) oI.h4 oI.h5
   have hS1:h'.get? S=some (lob #[u,.int (kf b) t] c):=eb S _ (Ne.symm nIS) hSo
   refine wpAny_bind (m:=updateSeq S fun _=>#[]) ?_
   refine wpAny_updateSeq hS1 rfl (wpAny_bind (wpAny_letGo (wpAny_pure ?_)))
   have I2:Inv (Cx.inB X) pins σ H { s with heap:=h'.update S (Obj.mapSeq fun _=>(#[]:Array Value)) }:=Inv.turned (s:={ s with heap:=h' }) I1 (t':=s.toks) (it:=S) (fun b o hb e=>((Heap.SameBut.update h' S _).2 b hb).trans e) hS oS.h1 (.inr oS.h3) oS.h4 oS.h5
   exact fin x u _ H I2 (jn.refl H) ru rx
 | cons d r ih=>
  intro i bo s H hd I hl hR hI hS st hB fin
  obtain ⟨its,rv,p,hz⟩:=I.list (SqL.of (K:=X.K) hl)
  have hi:ds[i]?=some d:=by
   have:(ds.drop i)[0]?=some d:=by rw [hd]; rfl
   simpa using this
  have hd':ds.drop (i+1)=r:=by
   have:(ds.drop i).drop 1=r:=by rw [hd]; rfl
   simpa [List.drop_drop,Nat.add_comm] using this
  have hmem:d ∈ ds:=List.mem_of_getElem? hi
  obtain ⟨x,hx,rx⟩:=hR.get hi
  obtain ⟨u,hu,ru⟩:=rv.get hx
  refine codeAny_builtin PySem.F.entry_min_loop ?_
  rw [Around.under_plainId PySem.F.plain_min_loop _]
  obtain ⟨olds,hSo⟩:∃ olds:Obj,s.heap.get? S=some olds/\(∀ v,olds.data ≠ .cell v):=by
   cases bo with
   | none=>obtain ⟨c,e⟩:=hB; exact ⟨_,e,fun v z=>by cases z⟩
   | some b=>obtain ⟨_,_,_,c,_,_,e⟩:=hB; exact ⟨_,e,fun v z=>by cases z⟩
  obtain ⟨hSo,hSc⟩:=hSo
  have nxt:∀ {Q2:Option Value->Shared->Prop} {E2:Value->Shared->Prop},(∀ h' oi,Inv (Cx.inB X) (pins++[(S,olds),(it,oi)]) σ H { s with heap:=h' }->(oi.cls= .type "list_iterator"/\oi.data= .fields #[.ref l,.int ((i+1:Nat):Int) 0])->Q2 (some u) { s with heap:=h' })->
    wpAny (model X.prog X.w) X.A.in1 (pyNext (.ref it)) Q2 E2 s:=by
   intro Q2 E2 go
   refine wpAny_pyNext_list_item st p.isList (x:=u) (by simpa using hu) fun h' st' sb=>?_
   have I1:Inv (Cx.inB X) pins σ H { s with heap:=h' }:=I.turned (t':=s.toks) (it:=it) (fun b o hb e=>(sb.2 b hb).trans e) hI oI.h1 (.inr oI.h3) oI.h4 oI.h5
   have hS1:h'.get? S=some olds:=(sb.2 S (Ne.symm nIS)).trans hSo
   obtain ⟨oi,hoi,hci,hdi⟩:=id st'
   refine go h' oi (I1.pins_of fun q hq=>?_) ⟨hci,hdi⟩
   rcases List.mem_append.mp hq with z | z
   ·exact I1.pin q (List.mem_append_right _ z)
   ·rcases List.mem_cons.mp z with e | z
    ·subst e; exact ⟨hS1,hS,oS.h1,oS.h2,hSc⟩
    ·have e:q=(it,oi):=by simpa using z
     subst e; exact ⟨hoi,hI,oI.h1,oI.h2,fun v z=>by rw [hdi] at z; cases z⟩
  have key:∀ {Q3:Value->Shared->Prop} {E3:Value->Shared->Prop} {h':Heap} {oi:Obj},Inv (Cx.inB X) (pins++[(S,olds),(it,oi)]) σ H { s with heap:=h' }->(oi.cls= .type "list_iterator"/\oi.data= .fields #[.ref l,.int ((i+1:Nat):Int) 0])->
    (∀ t s2 H2,Inv (Cx.inB X) pins σ H2 s2->jn H H2->H2 it=none->H2 S=none->s2.heap.IsListIter it l (i+1)->s2.heap.get? S=some olds->Q3 (.int (kf d) t) s2)->wpAny (model X.prog X.w) X.A.in1 (call (.ref f) [u]) Q3 E3 { s with heap:=h' }:=by
   intro Q3 E3 h' oi I1p ho go
   have kk:(Pur X.K 1 g) [x] H (fun v H2=>v= .int (kf d)/\jn H H2) E0:=⟨[d],.int (kf d),rfl,⟨x,[],rfl,rx,rfl⟩,hk d hmem,fun v H2 s2 r2=>⟨r2,s2⟩⟩
   refine wpAny_mono (aih (X:=Cx.inB X) (dvs:=[]) (ds:=[]) (E:=E0) FO (Room.in1 hr) hb .nil aio I1p (.cons ru .nil) (by simpa using kk)) (fun kv s2 h2=>?_) fun _ _ z=>z.elim
   obtain ⟨v2,H2,I2,r2,e2,s2'⟩:=h2
   subst e2
   obtain ⟨t,rfl⟩:=r2
   have pS:=I2.pin (S,olds) (List.mem_append_right _ (List.mem_append_right _ (by simp)))
   have pI:=I2.pin (it,oi) (List.mem_append_right _ (List.mem_append_right _ (by simp)))
   have I2d:Inv (Cx.inB X) pins σ H2 s2:=I2.pins_of fun q hq=>I2.pin q (List.mem_append_right _ (List.mem_append_left _ hq))
   exact go t s2 H2 I2d s2' pI.2.1 pS.2.1 ⟨oi,pI.1,ho.1,ho.2⟩ pS.1
  have back:∀ {b2:PyData} {s2:Shared} {H2:Hp},Inv (Cx.inB X) pins σ H2 s2->jn H H2->H2 it=none->H2 S=none->s2.heap.IsListIter it l (i+1)->aiE X.K H2 s2.heap S kf (some b2)->abD kf bo (d::r)=abD kf (some b2) r->
    codeAny (model X.prog X.w) X.A (.builtin "min.loop" ⟨[.ref it,.ref f,.ref S],[("default",.none)]⟩) R s2:=fun {b2 s2 H2} I2 s12 hI2 hS2 st2 hB2 em=>
   ih (i+1) (some b2) s2 H2 hd' I2 (s12 _ _ hl) (Reps.mono s12 _ _ hR) hI2 hS2 st2 hB2 fun v u s' H' I' s' r' q'=>fin v u _ H' I' (s12.trans s') r' (by rw [em]; exact q')
  cases bo with
  | none=>
   obtain ⟨c,hSn⟩:=hB
   rw [hSn] at hSo; cases hSo
   refine wpAny_bind (m:=seqItems? (.ref S)) (wpAny_seqItems hSn rfl ?_)
   refine wpAny_bind (m:=tryCatch (pyNext (.ref it)) _) (wpAny_tryCatch (nxt fun h' oi I1p ho=>?_))
   refine wpAny_bind (m:=tryCatch (holding [u] (call (.ref f) [u])) _) (wpAny_tryCatch (wpAny_holding (key I1p ho fun t s2 H2 I2 s12 hI2 hS2 st2 hS2o=>?_)))
   refine wpAny_bind (m:=updateSeq S fun _=>#[u,.int (kf d) t]) ?_
   refine wpAny_updateSeq hS2o rfl ?_
   obtain ⟨c2,hc2⟩:=adx (ws:=#[u,.int (kf d) t]) hS2o
   have sb:=Heap.SameBut.update s2.heap S (Obj.mapSeq fun _=>#[u,.int (kf d) t])
   have I3:Inv (Cx.inB X) pins σ H2 { s2 with heap:=s2.heap.update S (Obj.mapSeq fun _=>#[u,.int (kf d) t]) }:=I2.turned (t':=s2.toks) (it:=S) (fun b o hb e=>(sb.2 b hb).trans e) hS2 oS.h1 (.inr oS.h3) oS.h4 oS.h5
   obtain ⟨oi,e1,e2⟩:=st2
   rw [ZI]
   exact wpAny_pure ⟨plainId_quiet PySem.F.plain_min_loop _,back (b2:=d) I3 s12 hI2 hS2 ⟨oi,(sb.2 it nIS).trans e1,e2⟩ ⟨x,u,t,c2,Rep.mono s12 _ _ rx,ru,hc2⟩ rfl⟩
  | some b=>
   obtain ⟨xb,ub,tb,c,rb,rub,hSn⟩:=hB
   rw [hSn] at hSo; cases hSo
   refine wpAny_bind (m:=seqItems? (.ref S)) (wpAny_seqItems hSn rfl ?_)
   refine wpAny_bind (m:=tryCatch (pyNext (.ref it)) _) (wpAny_tryCatch (nxt fun h' oi I1p ho=>?_))
   refine wpAny_bind (m:=tryCatch (holding [u] (call (.ref f) [u])) _) (wpAny_tryCatch (wpAny_holding (key I1p ho fun t s2 H2 I2 s12 hI2 hS2 st2 hS2o=>?_)))
   refine wpAny_bind (m:=tryCatch (holding [u,.int (kf d) t] (richCompare .Lt (.int (kf d) t) (.int (kf b) tb) >>= _)) _) (wpAny_tryCatch (wpAny_holding (wpAny_bind (anI ?_))))
   refine wpAny_bind (wpAny_holding (wpAny_truthy_bool ?_))
   refine wpAny_bind (wpAny_letGo (wpAny_pure ?_))
   by_cases hlt:kf d < kf b
   ·simp only [hlt,decide_true,zzM]
    refine wpAny_bind (m:=updateSeq S fun _=>#[u,.int (kf d) t]) ?_
    refine wpAny_updateSeq hS2o rfl (wpAny_bind (wpAny_letGo ?_))
    obtain ⟨c2,hc2⟩:=adx (ws:=#[u,.int (kf d) t]) hS2o
    have sb:=Heap.SameBut.update s2.heap S (Obj.mapSeq fun _=>#[u,.int (kf d) t])
    have I3:Inv (Cx.inB X) pins σ H2 { s2 with heap:=s2.heap.update S (Obj.mapSeq fun _=>#[u,.int (kf d) t]) }:=I2.turned (t':=s2.toks) (it:=S) (fun b o hb e=>(sb.2 b hb).trans e) hS2 oS.h1 (.inr oS.h3) oS.h4 oS.h5
    obtain ⟨oi,e1,e2⟩:=st2
    rw [ZI]
    exact wpAny_pure ⟨plainId_quiet PySem.F.plain_min_loop _,back (b2:=d) I3 s12 hI2 hS2 ⟨oi,(sb.2 it nIS).trans e1,e2⟩ ⟨x,u,t,c2,Rep.mono s12 _ _ rx,ru,hc2⟩ (by simp [abD,JH,hlt])⟩
   ·simp only [hlt,decide_false,zzL,zzN]
    refine wpAny_bind (wpAny_letGo ?_)
    rw [ZI]
    exact wpAny_pure ⟨plainId_quiet PySem.F.plain_min_loop _,back (b2:=b) I2 s12 hI2 hS2 st2 ⟨xb,ub,tb,c,Rep.mono s12 _ _ rb,rub,hS2o⟩ (by simp [abD,JH,hlt])⟩
theorem afH (a v d:Value):argsOk "min" ⟨[a],[("key",v),("default",d)]⟩:=by unfold argsOk; kernel_rfl
theorem aew {X:Cx}{pins:List (Addr × Obj)}{σ:St}{H:Hp}{s:Shared} (I:Inv X pins σ H s) {b:Addr} (hb:s.heap.objs.size<=b):Own1 X pins b:=by
 obtain ⟨_,h1,h2,h3,h4,h5⟩:=I.fpOk (H':=fun _=>none) hb rfl
 exact ⟨h1,h2,Nat.le_trans I.sz hb,h4,h5⟩
theorem afI {X:Cx}{k:Nat}{f:Addr}{fd:FuncData}{ps:List Str}{g:List PyData->Option PyData}{kf:PyData->Int}{ds:List PyData}{xs:List V}{l:Addr}{pins:List (Addr × Obj)}{σ:St}{H:Hp}{s:Shared}{Q:VK} (hc:X.calm=true)
  (FO:FnOk X.prog X.w X.K X.mg X.base CX0 k f fd ps (Pur X.K 1 g)) (hr:Room (k+1) X.A) (hb:Qr X.K fd ps []) (hk:∀ d ∈ ds,g [d]=some (.int (kf d))) (I:Inv X pins σ H s) (hl:H l=some (.lst xs)) (hR:Reps X.K H ds xs)
  (q:∀ v H',jn H H'->Rep X.K H' (abD kf none ds) v->Q v H'):
  wpAny (model X.prog X.w) X.A (call (.builtin "min") [.ref l] [("key",.ref f),("default",.none)]) (EP X pins σ Q) X.xe s:=by
 obtain ⟨its,rv,p,hz⟩:=I.list (SqL.of (K:=X.K) hl)
 have hlt:l < s.heap.objs.size:=I.hok.lt hl
 refine PyProof.Rows.kmk_tree PySem.F.kind_min PySem.F.plain_min PySem.F.entry_min (afH _ _ _) ?_
 refine wpAny_bind (m:=Builtin.Builtins.bindParams "min" ["key","default"] 0 ⟨[],[("key",.ref f),("default",.none)]⟩)
  (wpAny_of_eq (show _=pure [some (.ref f),some .none] from rfl) ?_)
 refine wpAny_bind (wpAny_pure ?_)
 refine wpAny_bind (wpAny_pyIter_list p.isList ?_)
 refine wpAny_bind (wpAny_newList ?_ (Nat.zero_le _))
 rw [ZI]
 refine wpAny_pure ⟨plainId_quiet PySem.F.plain_min_loop _,?_⟩
 generalize hh1:s.heap.push { cls:= .type "list_iterator",data:= .fields #[.ref l,.int 0 0] }=h1
 have n1:h1.objs.size=s.heap.objs.size+1:=by rw [←hh1]; exact Heap.size_push ..
 have k2:∀ b o,s.heap.get? b=some o->(h1.push { cls:= .type "list",data:= .seq ([]:List Value).toArray }).get? b=some o:=fun b o e=>Heap.get?_push_of_some _ (by rw [←hh1]; exact Heap.get?_push_of_some _ e)
 have I2:Inv X pins σ H { s with heap:=h1.push { cls:= .type "list",data:= .seq ([]:List Value).toArray } }:=I.kept (t':=s.toks) k2
 refine ahb (kf:=kf) hc FO hr hb hk (aew I (Nat.le_refl _)) (aew I (b:=h1.objs.size) (by rw [n1]; exact Nat.le_succ _)) (by rw [n1]; exact Nat.ne_of_lt (Nat.lt_succ_self _)) (Nat.ne_of_lt hlt) (by rw [n1]; exact Nat.ne_of_lt (Nat.lt_succ_of_lt hlt))
  ds 0 none _ H rfl (Inv.inB I2) hl hR (I.hok.fresh (Nat.le_refl _)) (I.hok.fresh (by rw [n1]; exact Nat.le_succ _)) ⟨_,Heap.get?_push_of_some _ (by rw [←hh1]; exact Heap.get?_push_size _ rfl),rfl,rfl⟩ ⟨0,Heap.get?_push_size _ rfl⟩ fun v u s' H' I' s1 r' q'=>?_
 exact ⟨v,H',Inv.outB I',r',q v H' s1 q'⟩
noncomputable def Zm (g:List PyData->Option PyData) (ds:List PyData):Bool:=ds.all fun d=>((g [d]).bind JF).isSome
noncomputable def JI (g:List PyData->Option PyData) (d:PyData):Int:=((g [d]).bind JF).getD 0
noncomputable def Zn (g:List PyData->Option PyData):PyData->Option PyData
 | .list ds=>if Zm g ds=true then some (abD (JI g) none ds) else none
 | _=>none
theorem ahc {d:PyData}{i:Int} (h:JF d=some i):d= .int i:=by
 cases d <;> simp [JF] at h
 rw [h]
theorem aiF {g:List PyData->Option PyData}{ds:List PyData} (h:Zm g ds=true):∀ d ∈ ds,g [d]=some (.int (JI g d)):=fun d hd=>by
 have:=List.all_eq_true.mp h d hd
 cases e:g [d] with
 | none=>simp [e] at this
 | some c=>
  cases e2:JF c with
  | none=>simp [e,e2] at this
  | some i=>
   have:=ahc e2
   subst this
   simp [JI,e,JF]
theorem afJ:bootBuiltins "min"=some (.builtin "min"):=by decide +kernel
theorem abE:bootBuiltins "max"=some (.builtin "max"):=by decide +kernel
section
variable {X:Cx}{a:Expr}{fa:Rho->Option PyData}{pos p p2 p3 kp kp2:Pos}{j3:Nat}
theorem aiG {k j:Nat}{ps:List Str}{g:List PyData->Option PyData}{x:Str} (hc:X.calm=true) (c:jo X.prog X.w X.K X.mg X.base x ps k 1 g) (hr:Room j X.A) (hkj:k+1<=j) (hm:X.mg "min"=none) (ha:PD X a fa) (hg:Gl X "min":=by rfl) (hgx:Gl X x:=by rfl)
  (hdb:(x == ("__debug__":Str))=false:=by decide) (hs:starEach [a] X.env=[(false,eval a X.env)]:=by rfl):
  PD X (.Call (.Name "min" p) [a] [⟨some "key",.Name x p2,kp⟩,⟨some "default",.Constant .none j3 p3,kp2⟩] pos) (fun ρ=>(fa ρ).bind (Zn g)):=by
 with_unfolding_all
  obtain ⟨f,fd,FO,hmx,hkp,hb⟩:=c
  intro pins s σ H Q I h
  obtain ⟨ρ,d,en,q,kq⟩:=h
  cases h1:fa ρ with
  | none=>simp [h1] at q
  | some y=>
   have q':Zn g y=some d:=by simpa [h1] using q
   refine wpAny_Call_Name_kw (JT I hg hm afJ ?_)
   have hA:PA X [a] (aeq (tD X.K fa) akd):=qg ha qY (by rw [hs]; rfl)
   have hK:PK X [⟨some "key",.Name x p2,kp⟩,⟨some "default",.Constant .none j3 p3,kp2⟩] (aeq (tC (.ref f)) (aeq (tC .non) akd)):=agk (aaZ hgx hmx rfl hdb) (agk ah1 amd)
   refine callWith_kw (thn (hA pos pins s σ H (fun vs H1=>∃ v,vs=[v]/\jn H H1/\Rep X.K H1 y v) I ⟨ρ,y,en,h1,fun v H1 s1 r1=>⟨v,rfl,s1,r1⟩⟩) fun us s1 ⟨vs,H1,I1,r1,v,e1,s1',rv⟩=>?_) (by rw [hs]; rfl) (by rw [hs]; rfl)
   subst e1
   obtain ⟨u,rfl,ru⟩:=aaG r1
   refine thn (hK pos pins s1 σ H1 (fun zs H2=>zs=[.ref f,.non]/\H2=H1) I1 ⟨rfl,rfl⟩) fun ws s2 ⟨zs,H2,I2,r2,e2,e3⟩=>?_
   subst e2; subst e3
   obtain ⟨w1,w2,rfl,a1,a2⟩:=aep r2
   cases (show w1=_ from a1)
   cases (show w2=_ from a2)
   cases y with
   | list ds=>
    by_cases hko:Zm g ds=true
    ·have:abD (JI g) none ds=d:=by simpa [Zn,hko] using q'
     subst this
     obtain ⟨l,xs,e4,e5,e6⟩:=rv
     subst e4
     cases (show u=_ from ru)
     exact afI (kf:=JI g) hc FO (hr.mono hkj) hb (aiF hko) I2 e5 e6 fun v H' s' r'=>kq v H' (s1'.trans s') r'
    ·simp [Zn,hko] at q'
   | _=>simp [Zn] at q'
end
noncomputable def agu:Int->List Int->Int
 | b,[]=>b
 | b,d::r=>if d > b then agu d r else agu b r
noncomputable def ams:Option Int->List Int->PyData
 | none,[]=> .none
 | none,d::r=> .int (agu d r)
 | some b,r=> .int (agu b r)
section
variable {X:Cx}{a:Expr}{fa:Rho->Option PyData}{pos p p3 kp2:Pos}{j3:Nat}
end
end BX
end
section
namespace BX.Srt
open PySem PySem.W
open PyProof.Rows (mirror bubble mirror_size mirror_perm bubble_size bubble_perm getElem?_mirror_all getElem?_bubble)
section
variable (rk:Nat->Int) (n:Nat)
noncomputable def val (p:Array Nat) (k:Nat):Int:=rk (p.getD k 0)
noncomputable def JY (p:Array Nat) (m:Nat):Prop:=∀ i j,i<=j->j < m->val rk p i<=val rk p j
noncomputable def abF (p:Array Nat) (m:Nat):Prop:=∀ i j,i<=j->j < m->val rk p j<=val rk p i
noncomputable def aex (p:Array Nat) (m q:Nat):Prop:=∀ i,m - (q+1)<=i->i < m->val rk p i=val rk p (m - 1)
noncomputable def OKp (p:Array Nat):Prop:=p.Perm (List.range n).toArray
end
section
variable {rk:Nat->Int}{n:Nat}{p p':Array Nat}
theorem OKp.size (h:OKp n p):p.size=n:=by
 have:=h.size_eq
 simpa using this
theorem OKp.lt (h:OKp n p) {k:Nat} (hk:k < n):p.getD k 0 < n:=by
 have hs:=h.size
 have e:p.getD k 0=p[k]'(by omega):=by simp [Array.getD,hs,hk]
 have:p[k]'(by omega) ∈ (List.range n).toArray:=h.mem_iff.mp (Array.getElem_mem _)
 rw [e]
 simpa using this
theorem JZ (p:Array Nat) (k:Nat):p.getD k 0=(p[k]?).getD 0:=by simp [Array.getD_eq_getD_getElem?]
theorem aa2 {i j k:Nat} (hj:j<=p.size):val rk (kas_rev p i j) k=if i<=k/\k < j then val rk p (i+j - 1 - k) else val rk p k:=by
 unfold val kas_rev
 rw [JZ,getElem?_mirror_all hj]
 by_cases h:i<=k/\k < j
 ·rw [if_pos h,if_pos h,←JZ]
 ·rw [if_neg h,if_neg h,←JZ]
theorem agv {src d k:Nat} (hs:src < p.size) (hd:d<=src):val rk (bubble p src d) k=if k=src - d then val rk p src else if src - d < k/\k<=src then val rk p (k - 1) else val rk p k:=by
 unfold val
 rw [JZ,getElem?_bubble hs d hd k]
 by_cases h:k=src - d
 ·rw [if_pos h,if_pos h,←JZ]
 ·rw [if_neg h,if_neg h]
  by_cases h2:src - d < k/\k<=src
  ·rw [if_pos h2,if_pos h2,←JZ]
  ·rw [if_neg h2,if_neg h2,←JZ]
theorem OKp.rev (h:OKp n p) (i j:Nat):OKp n (kas_rev p i j):=(mirror_perm p i j _).trans h
theorem OKp.bub (h:OKp n p) (i j:Nat):OKp n (bubble p i j):=(bubble_perm p i j).trans h
theorem Zo {m q k:Nat} (hm:m<=p.size) (hq:q+1<=m) (h:aex rk p m q):val rk (kas_rev p (m - (q+1)) m) k=val rk p k:=by
 rw [aa2 hm]
 split
 ·rename_i hk
  rw [h _ (by omega) (by omega),h k hk.1 hk.2]
 ·rfl
end
variable {rk:Nat->Int}{n:Nat}{cmp:Nat->Nat->(Bool->Shared->Prop)->Shared->Prop}
section
variable {s:Shared} (hc:∀ i j (C:Bool->Shared->Prop),i < n->j < n->C (decide (rk i < rk j)) s->cmp i j C s)
include hc
theorem abG {α:Type}{p:Array Nat}{a b:Nat}{k:Bool->KasT α}{Q:α->Shared->Prop} (h:OKp n p) (ha:a < n) (hb:b < n) (h1:val rk p a < val rk p b->(k true).kasWp cmp Q s) (h2:val rk p b<=val rk p a->(k false).kasWp cmp Q s):
  (KasT.ask (p.getD a 0) (p.getD b 0) k).kasWp cmp Q s:=by
 refine hc _ _ _ (h.lt ha) (h.lt hb) ?_
 by_cases hl:rk (p.getD a 0) < rk (p.getD b 0)
 ·simp only [hl,decide_true]; exact h1 hl
 ·simp only [hl,decide_false]; exact h2 (Int.not_lt.mp hl)
theorem afK {p:Array Nat} (h:OKp n p):∀ (f m:Nat) (Q:Nat->Shared->Prop),1<=m->m+f<=n->JY rk p m->
  (∀ m',m<=m'->m'<=m+f->JY rk p m'->(m'=m+f ∨ val rk p m' < val rk p (m' - 1))->Q m' s)->(kas_asc p f m).kasWp cmp Q s
 | 0,m,Q,_,_,hs,k=>k m (Nat.le_refl _) (Nat.le_refl _) hs (.inl rfl)
 | f+1,m,Q,h1,h2,hs,k=>by
  refine abG hc h (by omega) (by omega) (fun hl=>?_) (fun hl=>?_)
  ·show (if true=true then KasT.ret m else kas_asc p f (m+1)).kasWp cmp Q s
   rw [if_pos rfl]
   exact k m (Nat.le_refl _) (by omega) hs (.inr hl)
  ·show (if false=true then KasT.ret m else kas_asc p f (m+1)).kasWp cmp Q s
   rw [if_neg Bool.false_ne_true]
   refine afK h f (m+1) Q (by omega) (by omega) (fun i j hij hj=>?_) fun m' a1 a2 a3 a4=>k m' (by omega) (by omega) a3 (a4.elim (fun e=> .inl (by omega)) .inr)
   by_cases hjm:j < m
   ·exact hs i j hij hjm
   ·have ej:j=m:=by omega
    subst ej
    by_cases him:i < j
    ·exact Int.le_trans (hs i (j - 1) (by omega) (by omega)) hl
    ·have ei:i=j:=by omega
     subst ei; exact Int.le_refl _
theorem aa3:∀ (f:Nat) (p:Array Nat) (m q:Nat) (Q:Array Nat × Nat × Nat->Shared->Prop),OKp n p->q+1<=m->m+f<=n->abF rk p m->aex rk p m q->
  (∀ p' m' q',OKp n p'->q'+1<=m'->m'<=m+f->abF rk p' m'->aex rk p' m' q'->Q (p',m',q') s)->(kas_desc f p m q).kasWp cmp Q s
 | 0,p,m,q,Q,h,h1,h2,hn,he,k=>k p m q h h1 (Nat.le_refl _) hn he
 | f+1,p,m,q,Q,h,h1,h2,hn,he,k=>by
  have hsz:=h.size
  have grow:∀ {p':Array Nat},(∀ i,val rk p' i=val rk p i)->val rk p m<=val rk p (m - 1)->abF rk p' (m+1):=fun {p'} hv hl i j hij hj=>by
   rw [hv,hv]
   by_cases hjm:j < m
   ·exact hn i j hij hjm
   ·have ej:j=m:=by omega
    subst ej
    by_cases him:i < j
    ·exact Int.le_trans hl (hn i (j - 1) (by omega) (by omega))
    ·have ei:i=j:=by omega
     subst ei; exact Int.le_refl _
  refine abG hc h (by omega) (by omega) (fun hl=>?_) (fun hl=>?_)
  ·show (if true=true then (if q > 0 then kas_desc f (kas_rev p (m - (q+1)) m) (m+1) 0 else kas_desc f p (m+1) 0) else _).kasWp cmp Q s
   rw [if_pos rfl]
   have er:∀ {p':Array Nat},aex rk p' (m+1) 0:=fun {p'} i h3 h4=>by
    have e:i=m+1 - 1:=by omega
    rw [e]
   by_cases hq:q > 0
   ·rw [if_pos hq]
    exact aa3 f _ (m+1) 0 Q (h.rev _ _) (by omega) (by omega) (grow (fun i=>Zo (by omega) h1 he) (Int.le_of_lt hl)) er fun p' m' q' a1 a2 a3 a4 a5=>k p' m' q' a1 a2 (by omega) a4 a5
   ·rw [if_neg hq]
    exact aa3 f p (m+1) 0 Q h (by omega) (by omega) (grow (fun _=>rfl) (Int.le_of_lt hl)) er fun p' m' q' a1 a2 a3 a4 a5=>k p' m' q' a1 a2 (by omega) a4 a5
  ·show (if false=true then _ else KasT.ask (p.getD (m - 1) 0) (p.getD m 0) fun d=>if d=true then .ret (p,m,q) else kas_desc f p (m+1) (q+1)).kasWp cmp Q s
   rw [if_neg Bool.false_ne_true]
   refine abG hc h (by omega) (by omega) (fun hl2=>?_) (fun hl2=>?_)
   ·show (if true=true then KasT.ret (p,m,q) else kas_desc f p (m+1) (q+1)).kasWp cmp Q s
    rw [if_pos rfl]
    exact k p m q h h1 (by omega) hn he
   ·show (if false=true then KasT.ret (p,m,q) else kas_desc f p (m+1) (q+1)).kasWp cmp Q s
    rw [if_neg Bool.false_ne_true]
    have eq:val rk p m=val rk p (m - 1):=Int.le_antisymm hl2 hl
    refine aa3 f p (m+1) (q+1) Q h (by omega) (by omega) (grow (fun _=>rfl) hl2) (fun i h3 h4=>?_) fun p' m' q' a1 a2 a3 a4 a5=>k p' m' q' a1 a2 (by omega) a4 a5
    have e1:m+1 - 1=m:=by omega
    rw [e1]
    by_cases him:i < m
    ·rw [he i (by omega) him,eq]
    ·have ei:i=m:=by omega
     rw [ei]
theorem agw {p:Array Nat}{m:Nat}{Q:Nat × Array Nat->Shared->Prop} (h:OKp n p) (h1:1<=m) (h2:m<=n) (hn:abF rk p m) (k:∀ m' p',OKp n p'->1<=m'->m'<=n->JY rk p' m'->Q (m',p') s):(kas_tail3 m n p).kasWp cmp Q s:=by
 have hsz:=h.size
 unfold kas_tail3
 rw [KasT.kasWp_bind]
 refine afK hc (h.rev 0 m) (n - m) m _ h1 (by omega) (fun i j hij hj=>?_) fun m' a1 a2 a3 _=>k m' _ (h.rev 0 m) (by omega) (by omega) a3
 rw [aa2 (by omega),aa2 (by omega),if_pos ⟨Nat.zero_le _,by omega⟩,if_pos ⟨Nat.zero_le _,hj⟩]
 exact hn _ _ (by omega) (by omega)
theorem aaK {p:Array Nat}{m:Nat}{Q:Nat × Array Nat->Shared->Prop} (h:OKp n p) (h2:m+1<=n) (hn:abF rk p (m+1)) (k:∀ m' p',OKp n p'->1<=m'->m'<=n->JY rk p' m'->Q (m',p') s):
  (kas_descPart m n p).kasWp cmp Q s:=by
 unfold kas_descPart
 rw [KasT.kasWp_bind]
 have er:aex rk p (m+1) 0:=fun i h3 h4=>by
  have e:i=m+1 - 1:=by omega
  rw [e]
 refine aa3 hc (n - (m+1)) p (m+1) 0 _ h (by omega) (by omega) hn er fun p' m' q' a1 a2 a3 a4 a5=>?_
 have hsz:=a1.size
 show (if q' > 0 then kas_tail3 m' n (kas_rev p' (m' - (q'+1)) m') else kas_tail3 m' n p').kasWp cmp Q s
 by_cases hq:q' > 0
 ·rw [if_pos hq]
  refine agw hc (a1.rev _ _) (by omega) (by omega) (fun i j hij hj=>?_) k
  rw [Zo (by omega) a2 a5,Zo (by omega) a2 a5]
  exact a4 i j hij hj
 ·rw [if_neg hq]
  exact agw hc a1 (by omega) (by omega) a4 k
theorem aiH {p:Array Nat}{Q:Nat × Array Nat->Shared->Prop} (h:OKp n p) (hn1:1<=n) (k:∀ m' p',OKp n p'->1<=m'->m'<=n->JY rk p' m'->Q (m',p') s):(kas_count n p).kasWp cmp Q s:=by
 have hsz:=h.size
 unfold kas_count
 rw [KasT.kasWp_bind]
 refine afK hc h (n - 1) 1 _ (Nat.le_refl _) (by omega) (fun i j hij hj=>by
  have e1:i=0:=by omega
  have e2:j=0:=by omega
  rw [e1,e2]; exact Int.le_refl _) fun m a1 a2 a3 a4=>?_
 by_cases hm:(m == n)=true
 ·rw [if_pos hm]
  exact k m p h a1 (by omega) a3
 ·rw [if_neg hm]
  have hmn:m ≠ n:=by simpa using hm
  have hlast:val rk p m < val rk p (m - 1):=a4.resolve_left (by omega)
  by_cases hm1:m > 1
  ·rw [if_pos hm1]
   refine abG hc h (by omega) (by omega) (fun hl=>?_) (fun hl=>?_)
   ·show (if true=true then KasT.ret (m,p) else _).kasWp cmp Q s
    rw [if_pos rfl]
    exact k m p h a1 (by omega) a3
   ·show (if false=true then KasT.ret (m,p) else kas_descPart m n (kas_rev p 0 m)).kasWp cmp Q s
    rw [if_neg Bool.false_ne_true]
    have alleq:∀ i,i < m->val rk p i=val rk p (m - 1):=fun i hi=>by
     have b1:=a3 i (m - 1) (by omega) (by omega)
     have b2:=a3 0 i (Nat.zero_le _) hi
     omega
    have hv:∀ i,val rk (kas_rev p 0 m) i=val rk p i:=fun i=>by
     rw [aa2 (by omega)]
     split
     ·rename_i hi
      rw [alleq _ (by omega),alleq i hi.2]
     ·rfl
    refine aaK hc (h.rev _ _) (by omega) (fun i j hij hj=>?_) k
    rw [hv,hv]
    by_cases hjm:j < m
    ·rw [alleq j hjm,alleq i (by omega)]; exact Int.le_refl _
    ·have ej:j=m:=by omega
     subst ej
     by_cases him:i < j
     ·rw [alleq i him]; exact Int.le_of_lt hlast
     ·have ei:i=j:=by omega
      rw [ei]; exact Int.le_refl _
  ·rw [if_neg hm1]
   have em:m=1:=by omega
   subst em
   refine aaK hc h (by omega) (fun i j hij hj=>?_) k
   by_cases hj0:j=0
   ·have:i=0:=by omega
    rw [this,hj0]; exact Int.le_refl _
   ·have ej:j=1:=by omega
    subst ej
    by_cases hi0:i=0
    ·rw [hi0]; exact Int.le_of_lt hlast
    ·have ei:i=1:=by omega
     rw [ei]; exact Int.le_refl _
theorem abH {p:Array Nat}{k:Nat} (h:OKp n p) (hk:k < n) (hs:JY rk p k):∀ (f l r:Nat) (Q:Nat->Shared->Prop),l<=r->r<=k->r - l<=f->(∀ i,i < l->val rk p i<=val rk p k)->(∀ i,r<=i->i < k->val rk p k < val rk p i)->
  (∀ l',l'<=k->(∀ i,i < l'->val rk p i<=val rk p k)->(∀ i,l'<=i->i < k->val rk p k < val rk p i)->Q l' s)->(kas_place p k f l r).kasWp cmp Q s
 | 0,l,r,Q,h1,h2,h3,a,b,q=>by
  have e:l=r:=by omega
  subst e
  exact q l h2 a b
 | f+1,l,r,Q,h1,h2,h3,a,b,q=>by
  show (if l >= r then KasT.ret l else .ask (p.getD k 0) (p.getD ((l+r) / 2) 0) fun c=>if c=true then kas_place p k f l ((l+r) / 2) else kas_place p k f ((l+r) / 2+1) r).kasWp cmp Q s
  by_cases hlr:l >= r
  ·rw [if_pos hlr]
   have e:l=r:=by omega
   subst e
   exact q l h2 a b
  ·rw [if_neg hlr]
   refine abG hc h hk (by omega) (fun hl=>?_) (fun hl=>?_)
   ·show (if true=true then kas_place p k f l ((l+r) / 2) else kas_place p k f ((l+r) / 2+1) r).kasWp cmp Q s
    rw [if_pos rfl]
    refine abH h hk hs f l ((l+r) / 2) Q (by omega) (by omega) (by omega) a (fun i h4 h5=>?_) q
    exact Int.lt_of_lt_of_le hl (hs _ i h4 h5)
   ·show (if false=true then kas_place p k f l ((l+r) / 2) else kas_place p k f ((l+r) / 2+1) r).kasWp cmp Q s
    rw [if_neg Bool.false_ne_true]
    refine abH h hk hs f ((l+r) / 2+1) r Q (by omega) h2 (by omega) (fun i h4=>?_) b q
    exact Int.le_trans (hs i ((l+r) / 2) (by omega) (by omega)) hl
theorem aiI:∀ (f:Nat) (p:Array Nat) (k:Nat) (Q:Array Nat->Shared->Prop),OKp n p->k+f=n->JY rk p k->(∀ p',OKp n p'->JY rk p' n->Q p' s)->(kas_bin f p k).kasWp cmp Q s
 | 0,p,k,Q,h,hk,hs,q=>by
  have e:k=n:=by omega
  exact q p h (by rw [←e]; exact hs)
 | f+1,p,k,Q,h,hk,hs,q=>by
  have hsz:=h.size
  show ((kas_place p k k 0 k).bind fun l=>kas_bin f (bubble p k (k - l)) (k+1)).kasWp cmp Q s
  rw [KasT.kasWp_bind]
  refine abH hc h (by omega) hs k 0 k _ (Nat.zero_le _) (Nat.le_refl _) (by omega) (fun i hi=>absurd hi (Nat.not_lt_zero _)) (fun i h1 h2=>absurd h2 (by omega)) fun l hl a b=>?_
  refine aiI f _ (k+1) Q (h.bub _ _) (by omega) (fun i j hij hj=>?_) q
  have hb:k - (k - l)=l:=by omega
  rw [agv (by omega) (by omega),agv (by omega) (by omega),hb]
  by_cases hi1:i=l
  ·rw [if_pos hi1]
   by_cases hj1:j=l
   ·rw [if_pos hj1]; exact Int.le_refl _
   ·rw [if_neg hj1,if_pos ⟨by omega,by omega⟩]
    exact Int.le_of_lt (b _ (by omega) (by omega))
  ·rw [if_neg hi1]
   by_cases hi2:l < i/\i<=k
   ·rw [if_pos hi2,if_neg (by omega),if_pos ⟨by omega,by omega⟩]
    exact hs _ _ (by omega) (by omega)
   ·rw [if_neg hi2]
    by_cases hj1:j=l
    ·rw [if_pos hj1]; exact a i (by omega)
    ·rw [if_neg hj1]
     by_cases hj2:l < j/\j<=k
     ·rw [if_pos hj2]
      exact hs _ _ (by omega) (by omega)
     ·rw [if_neg hj2]
      exact hs _ _ hij (by omega)
theorem sort_ok {Q:Array Nat->Shared->Prop} (hn1:1<=n) (q:∀ p',OKp n p'->JY rk p' n->Q p' s):(kas_sort n).kasWp cmp Q s:=by
 unfold kas_sort
 rw [KasT.kasWp_bind]
 refine aiH hc (p:=(List.range n).toArray) (Array.Perm.refl _) hn1 fun m p h h1 h2 hs=>?_
 show (if m < n then kas_bin (n - max m 1) p (max m 1) else KasT.ret p).kasWp cmp Q s
 have em:max m 1=m:=by omega
 by_cases hm:m < n
 ·rw [if_pos hm,em]
  exact aiI hc (n - m) p m Q h (by omega) hs q
 ·rw [if_neg hm]
  have e:m=n:=by omega
  exact q p h (by rw [←e]; exact hs)
end
end BX.Srt
end
section
namespace BX
open PySem PySem.Spec L2
open PyProof.Rows hiding St
theorem akH (vs:List Value):(vs.toArray.zip vs.toArray).map (·.2)=vs.toArray:=by
 apply Array.toList_inj.mp
 simp [List.map_snd_zip]
theorem akI (vs:List Value):(arrOf (SortSt.mk' general' (vs.toArray.zip vs.toArray) #[] 7 none)).map (·.2)=vs.toArray:=akH vs
section
variable {prog:Program}{w:World}{A:Around}{E:Value->Shared->Prop}{s:Shared}
theorem afL {l:Addr}{vs:List Value}{Q:Value->Shared->Prop} (hl:s.heap.IsList l vs.toArray) (h2:vs.length < 2)
  (h:∀ h' D c,(∀ b o,s.heap.get? b=some o->h'.get? b=some o)->h'.get? D=some (lob vs.toArray c)->s.heap.objs.size<=D->Q (.ref D) { s with heap:=h' }):
  wpAny (model prog w) A (call (.builtin "sorted") [.ref l]) Q E s:=by
 have small:vs.length<=sizeLine:=by rw [sizeLine_eq]; omega
 refine Calls.call_function_entry kind_sorted plain_sorted entry_sorted (args_sorted1 _) ?_
 unfold Builtin.«sorted»
 refine wpAny_bind (m:=checkCount "sorted" 1 1 _) (wpAny_pure ?_)
 refine wpAny_bind (collect_list hl ?_ small)
 refine wpAny_bind (wpAny_newList ?_ small)
 generalize hh1:(s.heap.push (seqObj "list" #[] 0)).update s.heap.objs.size (Obj.mapSeq (·++vs.toArray))=h1
 have n1:h1.objs.size=s.heap.objs.size+1:=by rw [←hh1,Heap.size_update,size_push']
 have k1:∀ b o,s.heap.get? b=some o->h1.get? b=some o:=fun b o q=>by
  have hlt:b < s.heap.objs.size:=Heap.lt_size q
  rw [←hh1,Heap.get?_update_ne _ _ _ _ (Nat.ne_of_lt hlt),Heap.get?_push_ne _ _ _ (Nat.ne_of_lt hlt)]
  exact q
 have hD:(h1.push (seqObj "list" vs.toArray 0)).get? h1.objs.size=some (seqObj "list" vs.toArray 0):=Heap.get?_push_size _ rfl
 refine wpAny_bind (wpAny_holding (wpAny_call_entry (s:={ s with heap:=h1.push (seqObj "list" vs.toArray 0) }) slot_list_sort ⟨_,hD,rfl⟩ entry_list_sort ?body (args_list_sort _)))
 case body=>
  rw [list_sort_plain]
  refine wpAny_bind (listItems_at hD rfl ?_)
  refine wpAny_bind (listUpdate_at hD rfl ?_ (by rw [List.size_toArray]; exact small) (Nat.zero_le _))
  obtain ⟨e1,ho1⟩:∃ e1,((h1.push (seqObj "list" vs.toArray 0)).update h1.objs.size (Obj.mapSeq fun _=>(#[]:Array Value))).get? h1.objs.size=some (seqObj "list" #[] e1):=⟨_,get?_update_seq hD fun _=>#[]⟩
  refine wpAny_bind (seqEpoch_at ho1 rfl ?_)
  refine wpAny_bind (wpAny_newTuple ?_ small)
  refine wpAny_bind (wpAny_newList ?_ (Nat.zero_le _))
  refine wpAny_holding ?_
  dsimp only
  have hlt:vs.toArray.size < 2:=by rw [List.size_toArray]; exact h2
  rw [if_pos hlt,if_pos hlt]
  refine wpAny_bind (wpAny_pure ?_)
  rw [StateT.run_pure]
  refine wpAny_bind (wpAny_pure ?_)
  dsimp only
  have ho3:((((h1.push (seqObj "list" vs.toArray 0)).update h1.objs.size (Obj.mapSeq fun _=>(#[]:Array Value))).push (seqObj "tuple" vs.toArray 0)).push (seqObj "list" #[] 0)).get? h1.objs.size=some (seqObj "list" #[] e1):=Heap.get?_push_of_some _ (Heap.get?_push_of_some _ ho1)
  refine wpAny_bind (seqEpoch_at ho3 rfl ?_)
  rw [akI]
  refine wpAny_bind (listUpdate_at ho3 rfl ?_ (Nat.zero_le _) (by rw [List.size_toArray]; exact Nat.le_succ_of_le small))
  obtain ⟨c2,hc2⟩:=adx (ws:=vs.toArray) (show _=some (lob #[] e1) from ho3)
  simp only [bne_self_eq_false,zzL,zzN]
  refine wpAny_pure ⟨_,rfl,?_⟩
  refine wpAny_pure ⟨_,rfl,?_⟩
  refine h _ _ c2 (fun b o q=>?_) hc2 (by rw [n1]; exact Nat.le_succ _)
  have q1:=k1 b o q
  have lt1:b < h1.objs.size:=Heap.lt_size q1
  have u1:=Heap.SameBut.update (h1.push (seqObj "list" vs.toArray 0)) h1.objs.size (Obj.mapSeq fun _=>(#[]:Array Value))
  have q2:=(u1.2 b (Nat.ne_of_lt lt1)).trans (Heap.get?_push_of_some _ q1)
  have q3:=Heap.get?_push_of_some { cls:= .type "list",data:= .seq (#[]:Array Value) } (Heap.get?_push_of_some { cls:= .type "tuple",data:= .seq vs.toArray } q2)
  exact ((Heap.SameBut.update _ h1.objs.size (Obj.mapSeq fun _=>vs.toArray)).2 b (Nat.ne_of_lt lt1)).trans q3
end
theorem qO.there {P:Program}{w:World}{H:Hp}{h:Heap}{a:Addr}{o:HO} (x:qO P w H h a o):∃ u,h.get? a=some u:=by
 cases o with
 | lst xs=>obtain ⟨_,_,_,_,e⟩:=x; exact ⟨_,e⟩
 | tup xs=>obtain ⟨_,_,_,u,e,_⟩:=x; exact ⟨_,e⟩
 | dK kvs=>obtain ⟨_,_,_,_,o,_,_,e,_⟩:=x; exact ⟨_,e⟩
 | dT kvs=>obtain ⟨_,_,_,_,o,_,_,e,_⟩:=x; exact ⟨_,e⟩
 | set S n=>obtain ⟨o,_,_,_,e,_⟩:=x; exact ⟨_,e⟩
 | ins C dx fs=>obtain ⟨_,_,_,e,_⟩:=x; exact ⟨_,e⟩
 | own y=>obtain ⟨_,e⟩:=x; exact ⟨_,e⟩
 | xd fs=>obtain ⟨_,⟨_,_,_,e,_⟩,_⟩:=x; exact ⟨_,e⟩
 | rng lo hi=>obtain ⟨_,_,_,e⟩:=x; exact ⟨_,e⟩
 | frz ob u=>obtain ⟨e,_⟩:=x; exact ⟨_,e⟩
 | tbl ps=>exact ⟨_,(show h.get? a=some _ from x)⟩
 | met f y=>exact ⟨_,(show h.get? a=some _ from x)⟩
 | ext φ=>obtain ⟨_,⟨_,e⟩,_⟩:=x; exact ⟨_,e⟩
theorem amt {h:Heap}{L:Addr}{m m':Str->Option Value} (a:h.Ns L m) (b:h.Ns L m'):m=m':=by
 obtain ⟨o,es,ep,e1,d1,_,q1⟩:=a
 obtain ⟨o',es',ep',e2,d2,_,q2⟩:=b
 rw [e1] at e2; cases e2
 rw [d1] at d2; cases d2
 funext x
 rw [←q1 x,←q2 x]
theorem Inv.grownL {X:Cx}{pins:List (Addr × Obj)}{σ:St}{H:Hp}{s:Shared}{h':Heap}{m:Str->Option Value}{D:Addr}{ys:List V}{us:List Value}{c:Nat} (I:Inv X pins σ H s) (hm:s.heap.Ns X.env.locals m) (hm':h'.Ns X.env.locals m)
  (kp:∀ b o,b ≠ X.env.locals->s.heap.get? b=some o->h'.get? b=some o) (hD:s.heap.get? D=none) (ho:h'.get? D=some (lob us.toArray c)) (rv:jC ys us) (hz:ys.length<=sizeLine):Inv X pins σ (upd H D (.lst ys)) { s with heap:=h' }:=by
 have nD:H D=none:=by
  cases e:H D with
  | none=>rfl
  | some o=>obtain ⟨u,q⟩:=qO.there (I.hok D o e); rw [hD] at q; cases q
 have neD:∀ b u,H b=some u->b ≠ D:=fun b u e z=>by rw [z,nD] at e; cases e
 have nL:∀ b u,H b=some u->b ≠ X.env.locals:=fun b u e z=>by rw [z,I.free] at e; cases e
 refine I.step (t':=s.toks) (g':=s.gens) (d':=s.drawn) (ch:=[]) (fun b hb=>nomatch hb) (fun b o hL _ _ e _=>kp b o hL e) (fun b o hL _ _ e _=>⟨o.slots,kp b o hL e⟩) (fun b o _ e n=>?_) (fun b o _ e=>?_) (fun b ws e=>by rw [jm (neD b _ e)]; exact e)
  (fun b ob ws e=>by rw [jm (neD b _ e)]; exact e) (fun b ps e=>⟨#[],by rw [jm (neD b _ e),e]; simp⟩) (fun m2 h2=>by rw [←amt hm h2]; exact hm') (fun b u e=>?_) I.bare
 ·have:b ≠ D:=fun z=>by rw [z,hD] at e; cases e
  rw [jm this]; exact n
 ·by_cases hb:b=X.env.locals
  ·obtain ⟨o',_,_,e',_⟩:=hm'
   exact ⟨o',by rw [hb]; exact e'⟩
  ·exact ⟨o,kp b o hb e⟩
 ·by_cases hb:b=D
  ·subst hb
   rw [jq] at e
   cases e
   exact ⟨hz,us,c,rv,ho⟩
  ·rw [jm hb] at e
   refine (I.hok b u e).stay (fun c' o hc' q=>kp c' o ?_ q) (fun c' q=>by rw [jm (neD c' _ q)]; exact q) fun c' ws q=>by rw [jm (neD c' _ q)]; exact q
   rcases hc' with q' | q'
   ·rw [q']; exact nL b u e
   ·exact nL c' _ q'
noncomputable def JJ (p:Int × Int):PyData:= .tuple [.int p.1,.int p.2]
noncomputable def inB (p:Int × Int):Bool:=decide (0<=p.2) && decide (p.2 < 1000000)
structure PairAt (h:Heap) (u:Value) (p:Int × Int):Prop where
 ex:∃ a o k t t',u= .ref a/\h.get? a=some o/\o.cls= .type "tuple"/\o.data= .seq #[.int p.1 t,.int p.2 t'] k
theorem getD_some {α:Type}{l:List α}{i:Nat}{d x:α} (h:l[i]?=some x):l.getD i d=x:=by simp [List.getD,h]
theorem ahd {us:List Value}{xs:List V} (rv:jC xs us) (is:List Nat) (h:∀ i ∈ is,i < us.length):jC (is.map fun i=>xs.getD i .non) (is.map fun i=>us.getD i Value.none):=by
 induction is with
 | nil=>exact .nil
 | cons i is ih=>
  have hi:=h i List.mem_cons_self
  have hl:=rv.length
  obtain ⟨u,e1,e2⟩:=rv.get (show xs[i]?=some (xs[i]'(by omega)) by simp [hl,hi])
  refine .cons ?_ (ih fun j hj=>h j (List.mem_cons_of_mem _ hj))
  show L2.jQ (xs.getD i .non) (us.getD i Value.none)
  rw [getD_some e1,getD_some (show xs[i]?=some (xs[i]'(by omega)) by simp [hl,hi])]
  exact e2
theorem ahe {K:PySem.W.Frag}{H:Hp}{ds:List PyData}{xs:List V} (r:Reps K H ds xs) (is:List Nat) (h:∀ i ∈ is,i < ds.length):Reps K H (is.map fun i=>ds.getD i .none) (is.map fun i=>xs.getD i .non):=by
 induction is with
 | nil=>rfl
 | cons i is ih=>
  have hi:=h i List.mem_cons_self
  obtain ⟨x,e1,e2⟩:=r.get (show ds[i]?=some ds[i] by simp [hi])
  refine ⟨_,_,rfl,?_,ih fun j hj=>h j (List.mem_cons_of_mem _ hj)⟩
  show Rep K H (ds.getD i .none) (xs.getD i .non)
  rw [getD_some e1,getD_some (show ds[i]?=some ds[i] by simp [hi])]
  exact e2
theorem ady {α:Type}{R:α->α->Prop}:∀ {l:List α},l.length < 2->l.Pairwise R
 | [],_=> .nil
 | [p],_=>List.pairwise_singleton _ _
 | _::_::_,h=>by simp at h; omega
section
variable {X:Cx}
variable {a b:Expr}{fa fb:Rho->Option PyData}{pos p2:Pos}
noncomputable def anJ:PyData->Option PyData
 | .int i=>some (.int (-i))
 | _=>none
theorem aiJ (h:PD X a fa):PD X (.UnaryOp .USub a pos) (fun ρ=>(fa ρ).bind anJ):=by
 with_unfolding_all
  refine PE.imp (ank al9 h) fun σ H Q ⟨ρ,d,en,q,k⟩=>?_
  cases h1:fa ρ with
  | none=>simp [h1] at q
  | some y=>
   refine ⟨ρ,y,en,h1,fun v H1 s1 r1=>?_⟩
   have q':anJ y=some d:=by simpa [h1] using q
   cases y with
   | int i=>cases q'; cases (show v=_ from r1); exact ⟨i,rfl,k _ H1 s1 rfl⟩
   | _=>cases q'
end
noncomputable def Qk (bt:Int->Int->Bool):List Int->Option Int
 | []=>none
 | n::ns=>some (ns.foldl (fun a b=>if bt b a then b else a) n)
theorem afM (bt:Int->Int->Bool) (ns:List Int) (x m:Int) (h:Qk bt ns=some m):Qk bt (ns++[x])=some (if bt x m then x else m):=by
 cases ns with
 | nil=>cases h
 | cons n ns=>
  have:ns.foldl (fun a b=>if bt b a then b else a) n=m:=by simpa [Qk] using h
  subst this
  simp [Qk,List.foldl_append]
theorem acQ (bt:Int->Int->Bool) (ns:List Int):∀ k,k < ns.length->Qk bt (ns.take (k+1))=some (ns.getD (argBest (fun i j=>bt (ns.getD i 0) (ns.getD j 0)) k) 0)
 | 0,h=>by
  cases ns with
  | nil=>simp at h
  | cons n ns=>simp [Qk,argBest]
 | k+1,h=>by
  have ih:=acQ bt ns k (by omega)
  have h1:ns.take (k+1+1)=ns.take (k+1)++[ns.getD (k+1) 0]:=by rw [List.take_succ]; simp [h,List.getD]
  rw [h1,afM bt _ _ _ ih]
  simp only [argBest]
  by_cases hb:bt (ns.getD (k+1) 0) (ns.getD (argBest (fun i j=>bt (ns.getD i 0) (ns.getD j 0)) k) 0)=true
  ·rw [if_pos hb,if_pos hb]
  ·rw [if_neg hb,if_neg hb]
theorem aiK (bt:Int->Int->Bool) (ns:List Int) (h:0 < ns.length):Qk bt ns=some (ns.getD (argBest (fun i j=>bt (ns.getD i 0) (ns.getD j 0)) (ns.length - 1)) 0):=by
 have:=acQ bt ns (ns.length - 1) (by omega)
 rwa [Nat.sub_add_cancel h,List.take_length] at this
variable {X:Cx}
noncomputable def alK (K:PySem.W.Frag) (bt:Int->Int->Bool):List V->Hp->VK->Prop:=fun xs H Q=>∃ a ns m,xs=[.ref a]/\(SqL K H a (List.map V.int ns) ∨ SqT K H a (List.map V.int ns))/\Qk bt ns=some m/\Q (.int m) H
theorem ahf (hc:X.calm=true):qX X (.builtin "max") (alK X.K fun i j=>decide (i > j)):=by
 intro pins s σ H xs us Q I r ⟨a,ns,m,e,hq,hm,q⟩
 subst e
 obtain ⟨u,rfl,rx⟩:=aaG r
 cases rx
 have hh:=I.ok.hd hc
 have h0:0 < ns.length:=by cases ns with
  | nil=>cases hm
  | cons n ns=>simp
 have hb:=aiK (fun i j=>decide (i > j)) ns h0
 rw [hm] at hb
 have hb:=Option.some.inj hb
 rcases hq with hq | hq
 ·obtain ⟨its,rv,pl,hz⟩:=I.list hq
  have hl:its.toArray.size=ns.length:=by have:=rv.length; simp at this ⊢; omega
  refine call_max_walk (aak pl.isList fun h2 it st hlt hne k1 hn=>?_)
  refine ⟨it,[it,a],[it],its.toArray.size,(fun i v=>its.toArray[i]?=some v),_,_,rfl,Walks.list (A:=X.A.in1) hh it a hne its.toArray,st,hlt,by rw [hl]; exact h0,CmpOf.ints_gt (fun i=>ns.getD i 0) fun i v hP=>qV rv hP,fun v h3 tk hP k2=>?_⟩
  obtain ⟨t,rfl⟩:=qV rv hP
  exact ⟨.int m,H,I.kept (t':=tk) (ZG k1 hn k2),⟨t,by rw [hl]; rw [hb]⟩,q⟩
 ·obtain ⟨its,rv,pl,hz⟩:=I.tuple hq
  have hl:its.toArray.size=ns.length:=by have:=rv.length; simp at this ⊢; omega
  refine call_max_walk (acM (show s.heap.IsTuple a its.toArray from pl) fun h2 it st hlt hne k1 hn=>?_)
  refine ⟨it,[it,a],[it],its.toArray.size,(fun i v=>its.toArray[i]?=some v),_,_,rfl,Walks.tuple (A:=X.A.in1) hh it a hne its.toArray,st,hlt,by rw [hl]; exact h0,CmpOf.ints_gt (fun i=>ns.getD i 0) fun i v hP=>qV rv hP,fun v h3 tk hP k2=>?_⟩
  obtain ⟨t,rfl⟩:=qV rv hP
  exact ⟨.int m,H,I.kept (t':=tk) (ZG k1 hn k2),⟨t,by rw [hl]; rw [hb]⟩,q⟩
noncomputable def Ql (bt:Int->Int->Bool) (ds:List PyData):Option PyData:=match ds with
 | [.list xs]=>(qp xs).bind fun ns=>(Qk bt ns).map .int
 | [.tuple xs]=>(qp xs).bind fun ns=>(Qk bt ns).map .int
 | _=>none
theorem akJ {K:PySem.W.Frag}{bt:Int->Int->Bool}{ds:List PyData}{d:PyData}{xs:List V}{H:Hp}{Q:VK} (h:Ql bt ds=some d) (r:Reps K H ds xs) (k:∀ v H',jn H H'->Rep K H' d v->Q v H'):alK K bt xs H Q:=by
 unfold Ql at h
 split at h
 ·rename_i ys
  cases hb:qp ys with
  | none=>simp [hb] at h
  | some ns=>
   cases hf:Qk bt ns with
   | none=>simp [hb,hf] at h
   | some m=>
    have:PyData.int m=d:=by simpa [hb,hf] using h
    subst this
    obtain ⟨x,q,e1,e2,e3⟩:=r
    cases (show q=[] from e3)
    obtain ⟨a,us,g1,g2,g3⟩:=e2
    subst g1
    rw [zS hb] at g3
    have:=Reps.ints g3
    subst this
    exact ⟨a,ns,m,e1,.inl (SqL.of g2),hf,k _ H (jn.refl H) rfl⟩
 ·rename_i ys
  cases hb:qp ys with
  | none=>simp [hb] at h
  | some ns=>
   cases hf:Qk bt ns with
   | none=>simp [hb,hf] at h
   | some m=>
    have:PyData.int m=d:=by simpa [hb,hf] using h
    subst this
    obtain ⟨x,q,e1,e2,e3⟩:=r
    cases (show q=[] from e3)
    obtain ⟨a,us,g1,g2,g3⟩:=e2
    subst g1
    rw [zS hb] at g3
    have:=Reps.ints g3
    subst this
    exact ⟨a,ns,m,e1,.inr g2,hf,k _ H (jn.refl H) rfl⟩
 ·cases h
theorem adz (hc:X.calm=true):Qt X (.builtin "max") (Ql fun i j=>decide (i > j)):=⟨_,ahf hc,fun ds d xs H Q h r k=>akJ h r k⟩
end BX
end
section
namespace BX
open PySem PySem.Spec L2
open PyProof.Rows hiding St
variable {X:Cx}
noncomputable def acv (f:Expr->Option PyData):List Expr->Option (List PyData)
 | []=>some []
 | e::es=>(f e).bind fun d=>(acv f es).map fun ds=>d::ds
noncomputable def lit:Nat->Expr->Option PyData
 | 0,_=>none
 | n+1,e=>match e with
  | .Constant (.int i) _ _=>some (.int i)
  | .Constant (.bool b) _ _=>some (.bool b)
  | .Constant .none _ _=>some .none
  | .Constant (.str x) _ _=>some (.str x)
  | .Tuple es _ _=>(acv (lit n) es).bind fun ds=>if few ds=true then some (.tuple ds) else none
  | .List es _=>(acv (lit n) es).bind fun ds=>if few ds=true then some (.list ds) else none
  | _=>none
theorem PD.as {e:Expr}{F G:Rho->Option PyData} (h:PD X e F) (hi:∀ ρ d,G ρ=some d->F ρ=some d):PD X e G:=by
 with_unfolding_all exact (PE.imp h fun σ H Q ⟨ρ,d,en,q,k⟩=>⟨ρ,d,en,hi ρ d q,k⟩)
theorem PAD.as {es:List Expr}{F G:Rho->Option (List PyData)} (h:PAD X es F) (hi:∀ ρ d,G ρ=some d->F ρ=some d):PAD X es G:=by
 with_unfolding_all exact (PA.imp h fun σ H Q ⟨ρ,d,en,q,k⟩=>⟨ρ,d,en,hi ρ d q,k⟩)
noncomputable def aiL (e:Expr):Prop:=∀ (es:List Expr) (env:Env),starEach (e::es) env=(false,eval e env)::starEach es env
theorem adA {f:Expr->Option PyData} (hf:∀ e d,f e=some d->PD X e (cst d)/\aiL e):∀ (es:List Expr) (ds:List PyData),acv f es=some ds->PAD X es (fun _=>some ds)
 | [],ds,h=>by cases h; exact jd
 | e::es,ds,h=>by
  cases h1:f e with
  | none=>simp [acv,h1] at h
  | some d=>
   cases h2:acv f es with
   | none=>simp [acv,h1,h2] at h
   | some r=>
    have:d::r=ds:=by with_unfolding_all simpa [acv,h1,h2] using h
    subst this
    obtain ⟨p,st⟩:=hf e d h1
    exact (ja p (adA hf es r h2) (st es X.env)).as fun ρ d' q=>by cases q; simp [jg,cst]
theorem afN:∀ (n:Nat) (e:Expr) (d:PyData),lit n e=some d->PD X e (cst d)/\aiL e
 | 0,e,d,h=>by cases h
 | n+1,e,d,h=>by
  unfold lit at h
  split at h
  ·cases h; exact ⟨jh,fun _ _=>rfl⟩
  ·cases h; exact ⟨Jj,fun _ _=>rfl⟩
  ·cases h; exact ⟨zo,fun _ _=>rfl⟩
  ·cases h; exact ⟨adq,fun _ _=>rfl⟩
  ·rename_i es x1 pos
   cases h1:acv (lit n) es with
   | none=>simp [h1] at h
   | some ds=>
    by_cases hf:few ds=true
    ·have:PyData.tuple ds=d:=by with_unfolding_all simpa [h1,hf] using h
     subst this
     exact ⟨(Ja (adA (afN n) es ds h1)).as fun ρ d' q=>by cases q; simp [Ju,hf],fun _ _=>rfl⟩
    ·simp [h1,hf] at h
  ·rename_i es pos
   cases h1:acv (lit n) es with
   | none=>simp [h1] at h
   | some ds=>
    by_cases hf:few ds=true
    ·have:PyData.list ds=d:=by simpa [h1,hf] using h
     subst this
     exact ⟨(Zf (adA (afN n) es ds h1)).as fun ρ d' q=>by cases q; simp [zp,hf],fun _ _=>rfl⟩
    ·simp [h1,hf] at h
  ·cases h
theorem Jd (n:Nat) {e:Expr} (d:PyData) (h:lit n e=some d):PD X e (cst d):=by
 with_unfolding_all exact ((afN n e d h).1)
end BX
end
section
namespace BX
open PySem L2
open PyProof.Rows hiding St
noncomputable def jX (K:PySem.W.Frag) (x:Str) (st:Stmt):Prop:=
 ∃ (f:Addr) (oc:Value) (od an:Option Addr) (kV doc pm cdv ct:Value) (osl:Array (Option Value)),PySem.W.nsIn K mainGlobals x=some (some (.ref f))/\
  K.lookup f=some ⟨oc,od,.func (PySem.W.fnOf x x (JU st) (jU st) (jf st) .none kV doc pm an cdv ct),osl⟩/\PySem.W.codeIn K cdv x=true/\PySem.W.keepIn K (.ref f)=true
theorem aiM {K:PySem.W.Frag}{x:Str}{st:Stmt}{f:Addr}{oc:Value}{od an:Option Addr}{kV doc pm cdv ct:Value}{osl:Array (Option Value)} (a:PySem.W.nsIn K mainGlobals x=some (some (.ref f)))
  (l:K.lookup f=some ⟨oc,od,.func (PySem.W.fnOf x x (JU st) (jU st) (jf st) .none kV doc pm an cdv ct),osl⟩) (c:PySem.W.codeIn K cdv x=true) (k:PySem.W.keepIn K (.ref f)=true):jX K x st:=
 ⟨f,oc,od,an,kV,doc,pm,cdv,ct,osl,a,l,c,k⟩
noncomputable abbrev jv (x:Str) (st:Stmt) (ps:List Str):Prop:=∀ (kV doc pm:Value) (an:Option Addr) (cdv ct:Value) (us:List Value),us.length=ps.length->bindArgs (PySem.W.fnOf x x (JU st) (jU st) (jf st) .none kV doc pm an cdv ct) ⟨us,[]⟩=pure (ps.zip us)
theorem jX.callee {P:Program}{w:World}{K:PySem.W.Frag}{mg:Str->Option Value}{base h:Heap}{x:Str}{st:Stmt}{ps:List Str}{k n:Nat}{g:List PyData->Option PyData} (T:jX K x st) (X:K.In h) (G:h.Ns mainGlobals mg)
  (hb:jv x st ps) (F:∀ (f:Addr) (fd:FuncData),Fun K x x st f fd->FnOk P w K mg base CX0 k f fd ps (Pur K n g)):jo P w K mg base x ps k n g:=by
 obtain ⟨f,oc,od,an,kV,doc,pm,cdv,ct,osl,a,l,c,kp⟩:=T
 have F1:=ado (st:=st) l c kp
 exact ⟨f,_,F f _ F1,PySem.W.mg_of X G a,kp,F1.binds hb⟩
theorem jo.as {P:Program}{w:World}{K:PySem.W.Frag}{mg:Str->Option Value}{base:Heap}{x:Str}{ps:List Str}{k n:Nat}{g g':List PyData->Option PyData} (C:jo P w K mg base x ps k n g) (h:∀ ds d,g' ds=some d->g ds=some d):jo P w K mg base x ps k n g':=by
 obtain ⟨f,fd,F,a,b,c⟩:=C
 exact ⟨f,fd,anz F fun ds d _ q=>h ds d q,a,b,c⟩
theorem aiN {K:PySem.W.Frag}{mg:Str->Option Value}{h:Heap}{x:Str}{a:Addr}{ob:Obj}{ds:List PyData} (X:K.In h) (G:h.Ns mainGlobals mg) (e:PySem.W.nsIn K mainGlobals x=some (some (.ref a))) (l:K.lookup a=some ob)
  (hc:ob.cls= .type "tuple") (hi:∃ (its:Array Value) (n:Nat) (xs:List V),ob.data= .seq its n/\its.size<=sizeLine/\jC xs its.toList/\∀ H,Reps K H ds xs):∃ v u,mg x=some u/\jQ v u/\∀ H,Rep K H (.tuple ds) v:=by
 obtain ⟨its,n,xs,h1,h2,h3,h4⟩:=hi
 exact ⟨.ref a,.ref a,PySem.W.mg_of X G e,rfl,fun H=>⟨a,xs,rfl,.inr ⟨ob,its,n,l,hc,h1,h2,h3⟩,h4 H⟩⟩
end BX
end
section
namespace BX
open PySem PySem.Spec L2
open PyProof.Rows hiding St
noncomputable def Qm (a:Addr) (xs:List V):HO:= .ext fun h=>xs.length<=sizeLine/\∃ (its:List Value) (n:Nat),jC xs its/\h.get? a=some { cls:= .type "list",data:= .seq its.toArray n }
noncomputable def alL (P:Program) (w:World) (a:Addr) (ob:Obj) (ks:List (Key × V)):HO:= .ext fun h=>h.get? a=some ob/\ks.length<=sizeLine/\(a == sysModules)=false/\∃ vs,KV ks vs/\h.DictOf (Zz P w) a vs
inductive Seal (P:Program) (w:World) (a:Addr):HO->HO->Prop where
 | l (xs:List V):Seal P w a (Qm a xs) (.lst xs)
 | d (ob:Obj) (ks:List (Key × V)):Seal P w a (alL P w a ob ks) (.frz ob (.dK ks))
theorem Seal.ext {P:Program}{w:World}{a:Addr}{c o:HO} (S:Seal P w a c o):∃ φ,c= .ext φ:=by cases S <;> exact ⟨_,rfl⟩
section
variable {X:Cx}{pins:List (Addr × Obj)}{σ:St}{H:Hp}{s:Shared}{a:Addr}{c o:HO}
theorem Inv.opened (I:Inv X pins σ H s) (S:Seal X.prog X.w a c o) (e:H a=some c):Inv X pins σ (upd H a o) s:=by
 have q:=I.hok a c e
 have mu:Mut (H a):=by rw [e]; obtain ⟨φ,rfl⟩:=S.ext; trivial
 cases S with
 | l xs=>
  obtain ⟨h1,h2,_⟩:=q
  exact I.write (x:=a) (e:=a) (h':=s.heap) (t':=s.toks) mu (.inl rfl) (fun _ _ _ z=>z) h2 h1
 | d ob ks=>
  obtain ⟨h1,h2,_⟩:=q
  exact I.write (x:=a) (e:=a) (h':=s.heap) (t':=s.toks) mu (.inl rfl) (fun _ _ _ z=>z) h2 ⟨h1.1,h1.2⟩
theorem Inv.redesc {o1 o2:HO} (I:Inv X pins σ H s) (h1:H a=some o1) (n1:∀ y,o1 ≠ .own y) (n2:∀ xs,o1 ≠ .tup xs) (n3:∀ ps,o1 ≠ .tbl ps) (nf:∀ ob u,X.H₀ a ≠ some (.frz ob u)) (new:qO X.prog X.w (upd H a o2) s.heap a o2):Inv X pins σ (upd H a o2) s:=by
 have na:∀ b,H b=none->upd H a o2 b=none:=fun b z=>by
  have:b ≠ a:=fun q=>by subst q; rw [h1] at z; cases z
  rw [jm this]; exact z
 refine ⟨I.ok,I.os,I.bare,⟨I.base.keep,I.base.slot,fun b u q n hx=>na b (I.base.free b u q n hx),I.base.there,fun b xs q=>?_,fun b ob u q=>?_,fun b ps q=>?_⟩,I.loc,I.cell,na _ I.free,fun x c' q=>na _ (I.freeC x c' q),fun p hp=>?_,fun b u q=>?_,I.len⟩
 ·have q':=I.base.tups b xs q
  have:b ≠ a:=fun z=>by subst z; rw [h1] at q'; cases q'; exact n2 _ rfl
  rw [jm this]; exact q'
 ·have:b ≠ a:=fun z=>by subst z; exact nf _ _ q
  rw [jm this]; exact I.base.frzs b ob u q
 ·obtain ⟨more,q'⟩:=I.base.tbls b ps q
  have:b ≠ a:=fun z=>by subst z; rw [h1] at q'; cases q'; exact n3 _ rfl
  exact ⟨more,by rw [jm this]; exact q'⟩
 ·obtain ⟨g1,g2,g3⟩:=I.pin p hp
  exact ⟨g1,na _ g2,g3⟩
 ·by_cases hb:b=a
  ·subst hb
   rw [jq] at q; cases q
   exact new
  ·rw [jm hb] at q
   refine (I.hok b u q).stay (fun c' v _ z=>z) (fun c' z=>?_) fun c' xs z=>?_
   ·have:c' ≠ a:=fun m=>by subst m; rw [h1] at z; cases z; exact n1 _ rfl
    rw [jm this]; exact z
   ·have:c' ≠ a:=fun m=>by subst m; rw [h1] at z; cases z; exact n2 _ rfl
    rw [jm this]; exact z
theorem Inv.nofrz {φ:Heap->Prop} (I:Inv X pins σ H s) (e:H a=some (.ext φ)):∀ ob u,X.H₀ a ≠ some (.frz ob u):=fun ob u z=>by
 have:=I.base.frzs _ _ _ z
 rw [e] at this; cases this
theorem Inv.closed (I:Inv X pins σ H s) (S:Seal X.prog X.w a c o) (e:H a=some o) (nf:∀ ob u,X.H₀ a ≠ some (.frz ob u)):Inv X pins σ (upd H a c) s:=by
 have q:=I.hok a o e
 cases S with
 | l xs=>
  obtain ⟨h1,its,n,h2,h3⟩:=q
  refine I.write (x:=a) (e:=a) (h':=s.heap) (t':=s.toks) (by rw [e]; trivial) (.inl rfl) (fun _ _ _ z=>z) ⟨_,h3⟩ ⟨⟨h1,its,n,h2,h3⟩,⟨_,h3⟩,?_⟩
  rintro g1 g2 ⟨z1,its,n,z2,z3⟩ k
  exact ⟨z1,its,n,z2,k _ z3⟩
 | d ob ks=>
  obtain ⟨h0,h1,h2,vs,h3,ob',es,ep,h4,h5⟩:=q
  refine Inv.redesc I e (fun _ z=>nomatch z) (fun _ z=>nomatch z) (fun _ z=>nomatch z) nf ⟨⟨h0,h1,h2,vs,h3,ob',es,ep,h4,h5⟩,⟨_,h4⟩,?_⟩
  rintro g1 g2 ⟨z0,z1,z2,vs,z3,ob',es,ep,z4,z5⟩ k
  exact ⟨k _ z0,z1,z2,vs,z3,ob',es,ep,k _ z4,z5⟩
end
mutual
noncomputable def noD:PyData->Bool
 | .tuple ds=>noDs ds
 | .list ds=>noDs ds
 | .dict _=>false
 | _=>true
noncomputable def noDs:List PyData->Bool
 | []=>true
 | d::ds=>noD d && noDs ds
end
noncomputable def aey (H H':Hp):Prop:=∀ b o,H b=some o->(∀ ob ks,o ≠ .frz ob (.dK ks))->H' b=some o
section
variable {K:PySem.W.Frag}{H H':Hp}
theorem aey.tup {a:Addr}{xs:List V} (e:aey H H') (h:SqT K H a xs):SqT K H' a xs:=by
 rcases h with (h | ⟨o,h⟩) | h
 ·exact .inl (.inl (e _ _ h fun _ _ z=>nomatch z))
 ·exact .inl (.inr ⟨o,e _ _ h fun _ _ z=>nomatch z⟩)
 ·exact .inr h
mutual
theorem Rep.monoM (e:aey H H'):∀ (d:PyData) (v:V),noD d=true->Rep K H d v->Rep K H' d v
 | .none,v,_,h=>h
 | .bool _,v,_,h=>h
 | .int _,v,_,h=>h
 | .str _,v,_,h=>h
 | .tuple ds,v,n,⟨a,xs,h1,h2,h3⟩=>⟨a,xs,h1,aey.tup e h2,Reps.monoM e ds xs (by simpa [noD] using n) h3⟩
 | .list ds,v,n,⟨a,xs,h1,h2,h3⟩=>⟨a,xs,h1,e _ _ h2 (fun _ _ z=>nomatch z),Reps.monoM e ds xs (by simpa [noD] using n) h3⟩
 | .dict ds,v,n,h=>by simp [noD] at n
theorem Reps.monoM (e:aey H H'):∀ (ds:List PyData) (xs:List V),noDs ds=true->Reps K H ds xs->Reps K H' ds xs
 | [],xs,_,h=>h
 | d::ds,xs,n,⟨x,r,h1,h2,h3⟩=>by
  have n':noD d=true/\noDs ds=true:=by simpa [noDs] using n
  exact ⟨x,r,h1,Rep.monoM e d x n'.1 h2,Reps.monoM e ds r n'.2 h3⟩
end
end
noncomputable def okB (c d:PyData):Bool:=match c with
 | .list _=>noL d
 | .dict _=>noD d
 | _=>false
noncomputable def ZJ (P:Program) (w:World) (K:PySem.W.Frag) (H:Hp) (a:Addr):PyData->Prop
 | .list ds=>∃ xs,H a=some (Qm a xs)/\Reps K H ds xs
 | .dict kvs=>∃ ks r ob,kvs=(.none,.none)::r/\H a=some (alL P w a ob ks)/\RepM K H r ks
 | _=>False
theorem ZJ.out {P:Program}{w:World}{K:PySem.W.Frag}{H:Hp}{a:Addr}{d:PyData} (h:ZJ P w K H a d):∃ c o,Seal P w a c o/\H a=some c/\
  (∀ H',jL H H'->H' a=some o->Rep K H' d (.ref a))/\(∀ H',jL H H'->H' a=some c->ZJ P w K H' a d)/\
  ∀ x H3 v,okB d x=true->H3 a=some o->Rep K H3 x v->Rep K (upd H3 a c) x v:=by
 cases d with
 | list ds=>
  obtain ⟨xs,h1,h2⟩:=h
  exact ⟨_,_,.l xs,h1,fun H' e q=>⟨a,xs,rfl,q,Reps.monoE e _ _ h2⟩,fun H' e q=>⟨xs,q,Reps.monoE e _ _ h2⟩,fun x H3 v n q r=>Rep.monoN (fun b u hb m=>by
   have:b ≠ a:=fun z=>by subst z; rw [q] at hb; cases hb; exact m _ rfl
   rw [jm this]; exact hb) x v n r⟩
 | dict kvs=>
  obtain ⟨ks,r,ob,rfl,h1,h2⟩:=h
  exact ⟨_,_,.d ob ks,h1,fun H' e q=>⟨a,rfl,.inr (.inl ⟨ks,ob,q,show RepM K H' r ks from RepM.monoE e _ _ h2⟩)⟩,fun H' e q=>⟨ks,r,ob,rfl,q,RepM.monoE e _ _ h2⟩,fun x H3 v n q r=>Rep.monoM (fun b u hb m=>by
   have:b ≠ a:=fun z=>by subst z; rw [q] at hb; cases hb; exact m _ _ rfl
   rw [jm this]; exact hb) x v n r⟩
 | none=>exact h.elim
 | bool _=>exact h.elim
 | int _=>exact h.elim
 | str _=>exact h.elim
 | tuple _=>exact h.elim
theorem jL.upd {H:Hp}{a:Addr}{φ:Heap->Prop}{o:HO} (e:H a=some (.ext φ)):jL H (upd H a o):=fun b u h n=>by
 have:b ≠ a:=fun z=>by subst z; rw [e] at h; cases h; exact n _ rfl
 rw [jm this]; exact h
structure EnvO (P:Program) (w:World) (K:PySem.W.Frag) (Hs H:Hp) (own:Option Nat) (ρ:Rho) (σ:St):Prop where
 len:ρ.length=σ.length
 sm:jn Hs H
 pl:∀ i d,ρ[i]?=some (some d)->own ≠ some i->∃ v,σ[i]?=some (some v)/\Rep K H d v
 ow:∀ i,own=some i->∃ d a,ρ[i]?=some (some d)/\σ[i]?=some (some (.ref a))/\Hs a=none/\ZJ P w K H a d
noncomputable def hid (own:Option Nat) (ρ:Rho):Rho:=match own with
 | none=>ρ
 | some i=>ρ.set i none
section
variable {P:Program}{w:World}{K:PySem.W.Frag}{Hs H H':Hp}{own:Option Nat}{ρ:Rho}{σ:St}
theorem EnvO.of (e:EnvR K H ρ σ) (s:jn Hs H):EnvO P w K Hs H none ρ σ:=⟨e.len,s,fun i d h _=>e.at' i d h,fun i z=>nomatch z⟩
theorem EnvO.to (e:EnvO P w K Hs H none ρ σ):EnvR K H ρ σ:=⟨e.len,fun i d h=>e.pl i d h (fun z=>nomatch z)⟩
theorem EnvO.hid (e:EnvO P w K Hs H own ρ σ):EnvR K H (hid own ρ) σ:=by
 cases own with
 | none=>exact e.to
 | some i=>
  refine ⟨by simp [BX.hid,e.len],fun j d h=>?_⟩
  by_cases hj:i=j
  ·subst hj
   simp only [BX.hid] at h
   rw [List.getElem?_set] at h
   simp at h
  ·simp only [BX.hid] at h
   rw [List.getElem?_set_ne hj] at h
   exact e.pl j d h (fun z=>hj (Option.some.inj z))
theorem ZJ.mono {a:Addr}{d:PyData} (h:ZJ P w K H a d) (s:jn H H'):ZJ P w K H' a d:=by
 obtain ⟨c,o,_,h1,_,h2,_⟩:=h.out
 exact h2 H' (jn.e s) (s _ _ h1)
theorem EnvO.mono (e:EnvO P w K Hs H own ρ σ) (s:jn H H'):EnvO P w K Hs H' own ρ σ:=
 ⟨e.len,e.sm.trans s,fun i d h n=>let ⟨v,h1,h2⟩:=e.pl i d h n; ⟨v,h1,Rep.mono s d v h2⟩,fun i n=>let ⟨d,a,h1,h2,h3,h4⟩:=e.ow i n; ⟨d,a,h1,h2,h3,h4.mono s⟩⟩
theorem EnvO.opn {i:Nat} (e:EnvO P w K Hs H (some i) ρ σ):∃ d a c o,ρ[i]?=some (some d)/\σ[i]?=some (some (.ref a))/\Hs a=none/\Seal P w a c o/\H a=some c/\EnvR K (upd H a o) ρ σ/\jn Hs (upd H a o)/\
  (∀ H3,jn (upd H a o) H3->jL H (upd H3 a c)/\EnvO P w K Hs (upd H3 a c) (some i) ρ σ)/\∀ x H3 v,okB d x=true->H3 a=some o->Rep K H3 x v->Rep K (upd H3 a c) x v:=by
 obtain ⟨d,a,h1,h2,h3,h4⟩:=e.ow i rfl
 obtain ⟨c,o,S,h5,h6,h7,h8⟩:=h4.out
 obtain ⟨φ,rfl⟩:=S.ext
 have s1:jL H (upd H a o):=jL.upd h5
 have sH:∀ {H2:Hp},(∀ b u,b ≠ a->H b=some u->H2 b=some u)->jn Hs H2:=fun {H2} k b u q=>k b u (fun z=>by subst z; rw [h3] at q; cases q) (e.sm b u q)
 refine ⟨d,a,_,o,h1,h2,h3,S,h5,⟨e.len,fun j x q=>?_⟩,sH fun b u n q=>by rw [jm n]; exact q,fun H3 s3=>⟨fun b u q m=>?_,e.len,sH fun b u n q=>by rw [jm n]; exact s3 b u (by rw [jm n]; exact q),fun j x q n=>?_,fun j n=>?_⟩,h8⟩
 ·by_cases hj:i=j
  ·subst hj
   rw [h1] at q; cases q
   exact ⟨.ref a,h2,h6 _ s1 jq⟩
  ·obtain ⟨v,g1,g2⟩:=e.pl j x q (fun z=>hj (Option.some.inj z))
   exact ⟨v,g1,Rep.monoE s1 _ _ g2⟩
 ·have:b ≠ a:=fun z=>by subst z; rw [h5] at q; cases q; exact m _ rfl
  rw [jm this]
  exact s3 b u (by rw [jm this]; exact q)
 ·have s4:jL H (upd H3 a (.ext φ)):=fun b u q m=>by
   have:b ≠ a:=fun z=>by subst z; rw [h5] at q; cases q; exact m _ rfl
   rw [jm this]
   exact s3 b u (by rw [jm this]; exact q)
  obtain ⟨v,g1,g2⟩:=e.pl j x q n
  exact ⟨v,g1,Rep.monoE s4 _ _ g2⟩
 ·cases n
  have s4:jL H (upd H3 a (.ext φ)):=fun b u q m=>by
   have:b ≠ a:=fun z=>by subst z; rw [h5] at q; cases q; exact m _ rfl
   rw [jm this]
   exact s3 b u (by rw [jm this]; exact q)
  exact ⟨d,a,h1,h2,h3,h7 _ s4 jq⟩
end
end BX
end
section
namespace BX
open PySem PySem.Spec L2
open PyProof.Rows hiding St
noncomputable def brw (own:Option Nat) (f:Rho->Option PyData):Rho->Option PyData:=fun ρ=>match f (hid own ρ) with
 | some d=>some d
 | none=>match own with
  | none=>none
  | some i=>match f ρ,lkp i ρ with
   | some d,some c=>if okB c d=true then some d else none
   | _,_=>none
theorem akK {own:Option Nat}{f:Rho->Option PyData}{ρ:Rho}{d:PyData} (h:brw own f ρ=some d):f (hid own ρ)=some d ∨ ∃ i c,own=some i/\f ρ=some d/\ρ[i]?=some (some c)/\okB c d=true:=by
 unfold brw at h
 cases h1:f (hid own ρ) with
 | some x=>rw [h1] at h; exact .inl h
 | none=>
  rw [h1] at h
  cases own with
  | none=>cases h
  | some i=>
   simp only at h
   cases h2:f ρ with
   | none=>rw [h2] at h; cases h
   | some x=>
    rw [h2] at h
    cases h3:lkp i ρ with
    | none=>rw [h3] at h; cases h
    | some c=>
     rw [h3] at h
     simp only at h
     split at h
     ·rename_i ok
      cases h
      exact .inr ⟨i,c,rfl,rfl,zZ h3,ok⟩
     ·cases h
section
variable {X:Cx}{e a b c tg src:Expr}{es:List Expr}{st:Stmt}{sts jT:List Stmt}{fa fb fc:Rho->Option PyData}{F G:Rho->Option Out}{pos:Pos}{own:Option Nat}
noncomputable def tE (P:Program) (w:World) (K:PySem.W.Frag) (own:Option Nat) (f:Rho->Option PyData):TE:=fun σ H Q=>∃ Hs ρ d,EnvO P w K Hs H own ρ σ/\brw own f ρ=some d/\∀ v H',jL H H'->EnvO P w K Hs H' own ρ σ->Rep K H' d v->Q v H'
theorem amu (h:PD X e fa):PE X e (tE X.prog X.w X.K own fa):=by
 with_unfolding_all
  intro pins s σ H Q I ⟨Hs,ρ,d,E,hb,k⟩
  rcases akK hb with h1 | ⟨i,c,ho,h1,h2,ok⟩
  ·exact h pins s σ H Q I ⟨hid own ρ,d,E.hid,h1,fun v H' s r=>k v H' (jn.e s) (E.mono s) r⟩
  ·subst ho
   obtain ⟨d0,a,cl,o,g1,g2,g3,S,g4,env,sm,back,keep⟩:=E.opn
   rw [h2] at g1; cases g1
   refine thn (h pins s σ (upd H a o) (fun v H3=>jn (upd H a o) H3/\Rep X.K H3 d v) (Inv.opened I S g4) ⟨ρ,d,env,h1,fun v H3 s3 r3=>⟨s3,r3⟩⟩) fun u s1 ⟨v,H3,I3,r,s3,r3⟩=>?_
   have e3:H3 a=some o:=s3 _ _ jq
   exact ⟨v,upd H3 a cl,Inv.closed I3 S e3 (by obtain ⟨φ,rfl⟩:=S.ext; exact Inv.nofrz I g4),r,k v _ (back H3 s3).1 (back H3 s3).2 (keep d H3 v ok e3 r3)⟩
noncomputable def tT (P:Program) (w:World) (K:PySem.W.Frag) (own:Option Nat) (f:Rho->Option Bool):TT:=fun σ H Q=>∃ Hs ρ d,EnvO P w K Hs H own ρ σ/\f ρ=some d/\∀ H',jL H H'->EnvO P w K Hs H' own ρ σ->Q d H'
theorem amv {tc:Rho->Option Bool} (h:PTD X e tc):PT X e (tT X.prog X.w X.K own tc):=by
 with_unfolding_all
  intro pins s σ H Q I ⟨Hs,ρ,d,E,h1,k⟩
  cases own with
  | none=>exact h pins s σ H Q I ⟨ρ,d,E.to,h1,fun H' s=>k H' (jn.e s) (E.mono s)⟩
  | some i=>
   obtain ⟨d0,a,cl,o,g1,g2,g3,S,g4,env,sm,back,keep⟩:=E.opn
   refine thn (h pins s σ (upd H a o) (fun b H3=>b=d/\jn (upd H a o) H3) (Inv.opened I S g4) ⟨ρ,d,env,h1,fun H3 s3=>⟨rfl,s3⟩⟩) fun b s1 ⟨H3,I3,hb,s3⟩=>?_
   subst hb
   exact ⟨upd H3 a cl,Inv.closed I3 S (s3 _ _ jq) (by obtain ⟨φ,rfl⟩:=S.ext; exact Inv.nofrz I g4),k _ (back H3 s3).1 (back H3 s3).2⟩
noncomputable def tF (P:Program) (w:World) (K:PySem.W.Frag) (own:Option Nat) (f:Rho->Option PyData):TE:=fun σ H Q=>∃ Hs ρ d,EnvO P w K Hs H own ρ σ/\f ρ=some d/\∀ v H',jn Hs H'->Rep K H' d v->Q v H'
theorem amw (h:PD X e fa):PE X e (tF X.prog X.w X.K own fa):=by
 with_unfolding_all
  intro pins s σ H Q I ⟨Hs,ρ,d,E,h1,k⟩
  cases own with
  | none=>exact h pins s σ H Q I ⟨ρ,d,E.to,h1,fun v H' s r=>k v H' (E.sm.trans s) r⟩
  | some i=>
   obtain ⟨d0,a,cl,o,g1,g2,g3,S,g4,env,sm,back,keep⟩:=E.opn
   exact h pins s σ (upd H a o) Q (Inv.opened I S g4) ⟨ρ,d,env,h1,fun v H3 s3 r3=>k v H3 (sm.trans s3) r3⟩
noncomputable def anK (P:Program) (w:World) (K:PySem.W.Frag) (Hs:Hp) (own:Option Nat) (D:Ends):Out->Prop
 | .nx ρ=>∀ σ H,EnvO P w K Hs H own ρ σ->D.nx σ H
 | .rt d=>∀ v H,jn Hs H->Rep K H d v->D.rt v H
 | .bk ρ=>∀ σ H,EnvO P w K Hs H own ρ σ->D.bk σ H
 | .ct ρ=>∀ σ H,EnvO P w K Hs H own ρ σ->D.ct σ H
noncomputable def tOS (P:Program) (w:World) (K:PySem.W.Frag) (own:Option Nat) (F:Rho->Option Out):TS:=fun D σ H=>∃ Hs ρ o,EnvO P w K Hs H own ρ σ/\F ρ=some o/\anK P w K Hs own D o
@[irreducible] noncomputable def PSO (X:Cx) (own:Option Nat) (st:Stmt) (F:Rho->Option Out):Prop:=PS X st (tOS X.prog X.w X.K own F)
@[irreducible] noncomputable def adB (X:Cx) (own:Option Nat) (sts:List Stmt) (F:Rho->Option Out):Prop:=PSs X sts (tOS X.prog X.w X.K own F)
theorem aiO (h:adB X none sts F):Qn X sts F:=by
 with_unfolding_all
  refine PSs.imp h fun D σ H ⟨ρ,o,en,q,k⟩=>⟨H,ρ,o,EnvO.of en (jn.refl H),q,?_⟩
  cases o with
  | nx ρ'=>exact fun σ' H' E=>k σ' H' E.sm E.to
  | rt d=>exact fun v H' s r=>k v H' s r
  | bk ρ'=>exact fun σ' H' E=>k σ' H' E.sm E.to
  | ct ρ'=>exact fun σ' H' E=>k σ' H' E.sm E.to
theorem abI:adB X own [] qM:=by
 with_unfolding_all
  refine PSs.imp agj fun D σ H ⟨Hs,ρ,o,E,q,k⟩=>?_
  cases q
  exact k σ H E
theorem zT (h1 : PSO X own st F) (h2 : adB X own jT G) : adB X own (st :: jT) (jJ F G) := by
  with_unfolding_all
   refine PSs.imp (zX h1 h2) fun D σ H ⟨Hs, ρ, o, E, q, k⟩ => ?_
   cases hf : F ρ with
   | none => simp [jJ, hf] at q
   | some p =>
     refine ⟨Hs, ρ, p, E, hf, ?_⟩
     cases p with
     | nx ρ' => exact fun σ' H' E' => ⟨Hs, ρ', o, E', by simpa [jJ, hf] using q, k⟩
     | rt d => have : Out.rt d = o := by simpa [jJ, hf] using q
               subst this; exact k
     | bk d => have : Out.bk d = o := by simpa [jJ, hf] using q
               subst this; exact k
     | ct d => have : Out.ct d = o := by simpa [jJ, hf] using q
               subst this; exact k
theorem akL (h:PD X e fa):PSO X own (.Return (some e) pos) (ql fa):=by
 with_unfolding_all
  refine PS.imp (afr (amw (own:=own) h)) fun D σ H ⟨Hs,ρ,o,E,q,k⟩=>?_
  cases h1:fa ρ with
  | none=>simp [ql,h1] at q
  | some d=>
   have:Out.rt d=o:=by simpa [ql,h1] using q
   subst this
   exact ⟨Hs,ρ,d,E,h1,k⟩
theorem EnvO.set {P:Program}{w:World}{K:PySem.W.Frag}{Hs H:Hp}{ρ:Rho}{σ:St}{i:Nat}{d:PyData}{v:V} (E:EnvO P w K Hs H own ρ σ) (hi:own ≠ some i) (r:Rep K H d v):EnvO P w K Hs H own (ρ.set i (some d)) (σ.set i (some v)):=by
 refine ⟨by simp [E.len],E.sm,fun j x q n=>?_,fun j n=>?_⟩
 ·by_cases hj:i=j
  ·subst hj
   rw [List.getElem?_set] at q ⊢
   simp only [zzM] at q ⊢
   by_cases hl:i < ρ.length
   ·rw [if_pos hl] at q
    rw [if_pos (by rw [←E.len]; exact hl)]
    cases q
    exact ⟨v,rfl,r⟩
   ·rw [if_neg hl] at q; cases q
  ·rw [List.getElem?_set_ne hj] at q ⊢
   exact E.pl j x q n
 ·have hj:i ≠ j:=fun z=>by subst z; exact hi n
  rw [List.getElem?_set_ne hj,List.getElem?_set_ne hj]
  exact E.ow j n
theorem agx (i:Nat) {x:Str}{pos':Pos} (hN:X.N.Nodup) (he:PD X e fa) (ho:own ≠ some i:=by decide) (hi:X.N[i]?=some x:=by rfl) (hx:Loc X.env.scope x:=by first | exact Or.inl rfl | exact Or.inr rfl) (hs:swapsWith e (some (.Name x pos')) pos.line X.env=pure false:=by rfl)
  (hf:X.fn x=true ∨ X.env.scope.names.lookup x=some .local:=by first | exact .inl rfl | exact .inr rfl | assumption):PSO X own (.Assign [.Name x pos'] e pos) (qS (brw own fa) (jH i)):=by
 with_unfolding_all
  refine PS.imp (abm hN hi hx (amu (own:=own) he) hs hf) fun D σ H ⟨Hs,ρ,o,E,q,k⟩=>?_
  cases h1:brw own fa ρ with
  | none=>simp [qS,h1] at q
  | some d=>
   have:Out.nx (ρ.set i (some d))=o:=by simpa [qS,h1,jH] using q
   subst this
   exact ⟨Hs,ρ,d,E,h1,fun v H1 _ E1 r1=>k _ H1 (E1.set ho r1)⟩
end
section
variable {X:Cx}{e a b c tg src:Expr}{es:List Expr}{st:Stmt}{sts jT body:List Stmt}{fa fb fc:Rho->Option PyData}{F G:Rho->Option Out}{pos:Pos}{own:Option Nat}
@[irreducible] noncomputable def PGO (X:Cx) (own:Option Nat) (tg:Expr) (ga:PyData->Rho->Option Rho):Prop:=
 PG X tg fun v σ H Q=>∃ Hs ρ d ρ',EnvO X.prog X.w X.K Hs H own ρ σ/\Rep X.K H d v/\ga d ρ=some ρ'/\∀ σ' H',EnvO X.prog X.w X.K Hs H' own ρ' σ'->Q σ' H'
theorem aiP (i:Nat) {x:Str} (hN:X.N.Nodup) (ho:own ≠ some i:=by decide) (hi:X.N[i]?=some x:=by rfl) (hx:Loc X.env.scope x:=by first | exact Or.inl rfl | exact Or.inr rfl)
  (hf:X.fn x=true ∨ X.env.scope.names.lookup x=some .local:=by first | exact .inl rfl | exact .inr rfl | assumption):PGO X own (.Name x pos) (jH i):=by
 with_unfolding_all
  refine PG.imp (aa0 hN hi hx hf) fun v σ H Q ⟨Hs,ρ,d,ρ',E,r,q,k⟩=>?_
  cases q
  exact k _ H (E.set ho r)
theorem EnvO.rebase {P:Program}{w:World}{K:PySem.W.Frag}{Hs H:Hp}{ρ:Rho}{σ:St} (E:EnvO P w K Hs H own ρ σ):∃ Hb,EnvO P w K Hb H own ρ σ/\(∀ H3,jn Hb H3->jL H H3)/\
  (∀ H3 ρ3 σ3,EnvO P w K Hb H3 own ρ3 σ3->EnvO P w K Hs H3 own ρ3 σ3)/\∀ H3,jn Hb H3->jn Hs H3:=by
 cases own with
 | none=>exact ⟨H,⟨E.len,jn.refl H,E.pl,fun i z=>nomatch z⟩,fun _ s=>jn.e s,fun H3 ρ3 σ3 E3=>⟨E3.len,E.sm.trans E3.sm,E3.pl,fun i z=>nomatch z⟩,fun _ s=>E.sm.trans s⟩
 | some i=>
  obtain ⟨d,a,h1,h2,h3,h4⟩:=E.ow i rfl
  obtain ⟨c,o,S,h5,_⟩:=h4.out
  obtain ⟨φ,rfl⟩:=S.ext
  let Hb:Hp:=fun b=>if b=a then none else H b
  have ha:Hb a=none:=if_pos rfl
  have hb:∀ b,b ≠ a->Hb b=H b:=fun b n=>if_neg n
  have sH:∀ H3,jn Hb H3->jn Hs H3:=fun H3 s b u q=>by
   have n:b ≠ a:=fun z=>by subst z; rw [h3] at q; cases q
   exact s b u (by rw [hb b n]; exact E.sm b u q)
  refine ⟨Hb,⟨E.len,fun b u q=>?_,E.pl,fun j n=>?_⟩,fun H3 s b u q m=>?_,fun H3 ρ3 σ3 E3=>⟨E3.len,sH H3 E3.sm,E3.pl,fun j n=>?_⟩,sH⟩
  ·by_cases n:b=a
   ·subst n; rw [ha] at q; cases q
   ·rw [hb b n] at q; exact q
  ·cases n
   exact ⟨d,a,h1,h2,ha,h4⟩
  ·have n:b ≠ a:=fun z=>by subst z; rw [h5] at q; cases q; exact m _ rfl
   exact s b u (by rw [hb b n]; exact q)
  ·obtain ⟨d3,a3,g1,g2,g3,g4⟩:=E3.ow j n
   refine ⟨d3,a3,g1,g2,?_,g4⟩
   by_cases z:a3=a
   ·rw [z]; exact h3
   ·rw [hb a3 z] at g3
    cases q:Hs a3 with
    | none=>rfl
    | some u=>have:=E.sm _ _ q; rw [g3] at this; cases this
theorem akM {fi:Rho->Option (List PyData)}{ga:PyData->Rho->Option Rho} (hp:PassesOwn (model X.prog X.w) X.A X.env X.xe) (hc:X.calm=true) (hi:PID X tg src fi) (hg:PGO X own tg ga) (hb:adB X own body F)
  (hs:∀ x,foldedSetIterable src X.env x=pure x:=by intro _; rfl):PSO X own (.For tg src body [] pos) (acr (fun ρ=>fi (hid own ρ)) ga F):=by
 with_unfolding_all
  refine PS.imp (adk hp hc hi hg hb hs) fun D σ H ⟨Hs,ρ,o,E,q,k⟩=>?_
  cases h1:fi (hid own ρ) with
  | none=>simp [acr,h1] at q
  | some ds=>
   have q':j7 ga F ds ρ=some o:=by simpa [acr,h1] using q
   refine ⟨hid own ρ,ds,E.hid,h1,fun J H1 s1 Y=>?_⟩
   obtain ⟨Hb,Eb,sE,back,sb⟩:=(E.mono s1).rebase
   refine ⟨fun i m σ H2=>m=ds.length - i/\i<=ds.length/\∃ ρ2,EnvO X.prog X.w X.K Hb H2 own ρ2 σ/\j7 ga F (ds.drop i) ρ2=some o,⟨ds.length,by simp,Nat.zero_le _,ρ,Eb,by simpa using q'⟩,?_⟩
   rintro i m σ2 H2 ⟨rfl,hi,ρ2,en2,q2⟩
   obtain ⟨g1,g2,g3⟩:=Y i H2 (sE H2 en2.sm)
   by_cases hlt:i < ds.length
   ·right
    have hd:ds.drop i=ds[i]::ds.drop (i+1):=List.drop_eq_getElem_cons hlt
    rw [hd] at q2
    refine ⟨g1 hlt,fun σ3 H3=>∃ ρ3,EnvO X.prog X.w X.K Hb H3 own ρ3 σ3/\j7 ga F (ds.drop (i+1)) ρ3=some o,fun σ3 H3 ⟨ρ3,a2,a3⟩=>⟨ds.length - (i+1),by omega,rfl,hlt,ρ3,a2,a3⟩,fun x H3 y=>?_⟩
    obtain ⟨s3,r3⟩:=g3 x H3 y
    have r3':=r3 ds[i] (by simp [hlt])
    cases h4:ga ds[i] ρ2 with
    | none=>simp [j7,h4] at q2
    | some ρ4=>
     refine ⟨Hb,ρ2,ds[i],ρ4,en2.mono s3,r3',h4,fun σ5 H5 en5=>?_⟩
     cases h5:F ρ4 with
     | none=>simp [j7,h4,h5] at q2
     | some p=>
      refine ⟨Hb,ρ4,p,en5,h5,?_⟩
      cases p with
      | nx ρ6=>exact fun σ6 H6 en6=>⟨ρ6,en6,by simpa [j7,h4,h5] using q2⟩
      | ct ρ6=>exact fun σ6 H6 en6=>⟨ρ6,en6,by simpa [j7,h4,h5] using q2⟩
      | bk ρ6=>
       have:Out.nx ρ6=o:=by simpa [j7,h4,h5] using q2
       subst this
       exact fun σ6 H6 en6=>k σ6 H6 (back _ _ _ en6)
      | rt d=>
       have:Out.rt d=o:=by simpa [j7,h4,h5] using q2
       subst this
       exact fun v H6 s6 r6=>k v H6 (sb _ s6) r6
   ·left
    have he:i=ds.length:=by omega
    have hn:ds.drop i=[]:=by rw [he]; simp
    rw [hn] at q2
    have:Out.nx ρ2=o:=by simpa [j7] using q2
    subst this
    exact ⟨g2 (by omega),k σ2 H2 (back _ _ _ en2)⟩
noncomputable def zd (tc:Rho->Option Bool) (F:Rho->Option Out):Nat->Rho->Option Out
 | 0,_=>none
 | n+1,ρ=>(tc ρ).bind fun x=>if x=true then (F ρ).bind fun o=>match o with
   | .nx ρ2=>zd tc F n ρ2
   | .ct ρ2=>zd tc F n ρ2
   | .bk ρ2=>some (.nx ρ2)
   | .rt d=>some (.rt d)
  else some (.nx ρ)
theorem ahg (n:Nat) {tc:Rho->Option Bool} (hp:PassesOwn (model X.prog X.w) X.A X.env X.xe) (hc:PTD X c tc) (hb:adB X own body F):PSO X own (.While c body [] pos) (zd tc F n):=by
 with_unfolding_all
  refine PS.imp (ah8 hp (amv (own:=own) hc) hb) fun D σ H ⟨Hs,ρ,o,E,q,k⟩=>?_
  refine ⟨fun m σ H=>∃ ρ,EnvO X.prog X.w X.K Hs H own ρ σ/\zd tc F m ρ=some o,⟨n,ρ,E,q⟩,?_⟩
  rintro m σ2 H2 ⟨ρ2,E2,q2⟩
  cases m with
  | zero=>cases q2
  | succ m=>
   cases h1:tc ρ2 with
   | none=>simp [zd,h1] at q2
   | some x=>
    refine ⟨Hs,ρ2,x,E2,h1,fun H3 _ E3=>?_⟩
    cases x with
    | false=>
     rw [if_neg Bool.false_ne_true]
     have:Out.nx ρ2=o:=by simpa [zd,h1] using q2
     subst this
     exact k σ2 H3 E3
    | true=>
     rw [if_pos rfl]
     refine ⟨fun σ4 H4=>∃ ρ4,EnvO X.prog X.w X.K Hs H4 own ρ4 σ4/\zd tc F m ρ4=some o,fun σ4 H4 ⟨ρ4,a1,a2⟩=>⟨m,Nat.lt_succ_self m,ρ4,a1,a2⟩,?_⟩
     cases h5:F ρ2 with
     | none=>simp [zd,h1,h5] at q2
     | some p=>
      refine ⟨Hs,ρ2,p,E3,h5,?_⟩
      cases p with
      | nx ρ6=>exact fun σ6 H6 en6=>⟨ρ6,en6,by simpa [zd,h1,h5] using q2⟩
      | ct ρ6=>exact fun σ6 H6 en6=>⟨ρ6,en6,by simpa [zd,h1,h5] using q2⟩
      | bk ρ6=>
       have:Out.nx ρ6=o:=by simpa [zd,h1,h5] using q2
       subst this
       exact fun σ6 H6 en6=>k σ6 H6 en6
      | rt d=>
       have:Out.rt d=o:=by simpa [zd,h1,h5] using q2
       subst this
       exact fun v H6 s6 r6=>k v H6 s6 r6
end
theorem agh {H:Hp}{a:Addr}{o o':HO}:upd (upd H a o) a o'=upd H a o':=by
 funext b
 by_cases h:b=a
 ·subst h; rw [jq,jq]
 ·rw [jm h,jm h,jm h]
section
variable {P:Program}{w:World}{K:PySem.W.Frag}{Hs H:Hp}{ρ:Rho}{σ:St}{i:Nat}
theorem EnvO.put {a:Addr}{d d':PyData}{φ:Heap->Prop}{H3:Hp}{c:HO} (E:EnvO P w K Hs H (some i) ρ σ) (h0:ρ[i]?=some (some d)) (h2:σ[i]?=some (some (.ref a))) (h3:Hs a=none) (h5:H a=some (.ext φ))
  (s3:∀ b u,b ≠ a->H b=some u->H3 b=some u) (ow:ZJ P w K (upd H3 a c) a d'):EnvO P w K Hs (upd H3 a c) (some i) (ρ.set i (some d')) σ:=by
 have hi:i < ρ.length:=(List.getElem?_eq_some_iff.mp h0).1
 have s4:jL H (upd H3 a c):=fun b u q m=>by
  have:b ≠ a:=fun z=>by subst z; rw [h5] at q; cases q; exact m _ rfl
  rw [jm this]; exact s3 b u this q
 refine ⟨by simp [E.len],fun b u q=>?_,fun j x q n=>?_,fun j n=>?_⟩
 ·have:b ≠ a:=fun z=>by subst z; rw [h3] at q; cases q
  rw [jm this]; exact s3 b u this (E.sm b u q)
 ·have hj:i ≠ j:=fun z=>n (by rw [z])
  rw [List.getElem?_set_ne hj] at q
  obtain ⟨v,g1,g2⟩:=E.pl j x q n
  exact ⟨v,g1,Rep.monoE s4 _ _ g2⟩
 ·cases n
  exact ⟨d',a,by rw [List.getElem?_set_self hi],h2,h3,ow⟩
theorem EnvO.opnL {ds:List PyData} (E:EnvO P w K Hs H (some i) ρ σ) (h:ρ[i]?=some (some (.list ds))):∃ a xs,σ[i]?=some (some (.ref a))/\Hs a=none/\H a=some (Qm a xs)/\Reps K H ds xs/\EnvR K (upd H a (.lst xs)) ρ σ:=by
 obtain ⟨d,a,h1,h2,h3,h4⟩:=E.ow i rfl
 rw [h] at h1; cases h1
 obtain ⟨xs,h5,h6⟩:=h4
 have s1:jL H (upd H a (.lst xs)):=jL.upd h5
 refine ⟨a,xs,h2,h3,h5,h6,E.len,fun j x q=>?_⟩
 by_cases hj:i=j
 ·subst hj
  rw [h] at q; cases q
  exact ⟨.ref a,h2,a,xs,rfl,jq,Reps.monoE s1 _ _ h6⟩
 ·obtain ⟨v,g1,g2⟩:=E.pl j x q (fun z=>hj (Option.some.inj z))
  exact ⟨v,g1,Rep.monoE s1 _ _ g2⟩
end
section
variable {X:Cx}{e a b c tg src:Expr}{es:List Expr}{st:Stmt}{sts jT body:List Stmt}{fa fb fc:Rho->Option PyData}{F G:Rho->Option Out}{pos:Pos}
noncomputable def amx (P:Program) (w:World) (K:PySem.W.Frag) (i:Nat) (g:Rho->Option PyData):TE:=fun σ H Q=>∃ Hs ρ d',EnvO P w K Hs H (some i) ρ σ/\g ρ=some d'/\∀ H',EnvO P w K Hs H' (some i) (ρ.set i (some d')) σ->Q .non H'
noncomputable def aiQ (i:Nat) (g:Rho->Option PyData):Rho->Option Out:=fun ρ=>(g ρ).map fun d=> .nx (ρ.set i (some d))
theorem agy {i:Nat}{g:Rho->Option PyData} (h:PE X e (amx X.prog X.w X.K i g)) (hs:swapsWith e none pos.line X.env=pure false:=by rfl):PSO X (some i) (.Expr e pos) (aiQ i g):=by
 with_unfolding_all
  refine PS.imp (adj h hs) fun D σ H ⟨Hs,ρ,o,E,q,k⟩=>?_
  cases h1:g ρ with
  | none=>simp [aiQ,h1] at q
  | some d=>
   have:Out.nx (ρ.set i (some d))=o:=by simpa [aiQ,h1] using q
   subst this
   exact ⟨Hs,ρ,d,E,h1,fun H' E'=>k σ H' E'⟩
noncomputable def ahh (c d:Option PyData):Option PyData:=match c,d with
 | some (.list ds),some d=>if noL d=true/\ds.length < 1000000 then some (.list (ds++[d])) else none
 | _,_=>none
noncomputable def anL (i:Nat) (fa:Rho->Option PyData):Rho->Option PyData:=fun ρ=>ahh (lkp i ρ) (fa ρ)
theorem aiR {c d:Option PyData}{r:PyData} (h:ahh c d=some r):∃ ds x,c=some (.list ds)/\d=some x/\noL x=true/\ds.length < 1000000/\r= .list (ds++[x]):=by
 unfold ahh at h
 split at h
 ·split at h
  ·rename_i hc
   cases h
   exact ⟨_,_,rfl,rfl,hc.1,hc.2,rfl⟩
  ·cases h
 ·cases h
theorem abJ {n:Nat} (h:n < 1000000):n < sizeLine:=Nat.lt_of_lt_of_le h (by rw [sizeLine_eq]; decide)
theorem ahi (i:Nat) {x:Str}{p1 apos cpos:Pos} (h:PD X e fa) (hN:X.N[i]?=some x:=by rfl) (hv:Vis X.env.scope x:=by first | exact Or.inl rfl | exact Or.inr (Or.inl rfl) | exact Or.inr (Or.inr rfl)) (hd:(x == ("__debug__":Str))=false:=by decide)
  (hcd:(x == ("__classdict__":Str))=false:=by decide) (hbase:attributeBase (.Name x p1) "append" X.env (eval (.Name x p1) X.env)=eval (.Name x p1) X.env:=by rfl)
  (hfew:((backTo cpos (starEach [e] X.env)).all (fun x=>!x.1) && (backToKw cpos (keywordEach [] X.env)).all (fun x=>x.1.isSome) && decide ([e].length+([]:List Keyword).length+(if ([]:List Keyword).isEmpty then 0 else 1) < 30))=true:=by rfl)
  (hline:(apos.endLine == cpos.line)=true:=by rfl) (hs:starEach [e] X.env=(false,eval e X.env)::starEach [] X.env:=by rfl) (hplain:(backTo cpos (starEach [] X.env)).any (·.1)=false:=by rfl):
  PE X (.Call (.Attribute (.Name x p1) "append" apos) [e] [] cpos) (amx X.prog X.w X.K i (anL i fa)):=by
 with_unfolding_all
  intro pins s σ H Q I ⟨Hs,ρ,d',E,hg,k⟩
  obtain ⟨ds,d,q1,q2,hn,hl,rfl⟩:=aiR hg
  obtain ⟨a,xs,g2,g3,g4,g5,env⟩:=E.opnL (zZ q1)
  have hlen:=g5.length
  have W:=acH (X:=X) (cpos:=cpos) (apos:=apos) PySem.F.plainAttrs_list PySem.F.slot_list_append PySem.F.type_list_append acJ (adh hN hv hd hcd) (qg h qY hs) hbase hfew hline hs hplain
  refine thn (W pins s σ (upd H a (.lst xs)) (fun v H4=>∃ H3 y,v= .non/\H4=upd H3 a (.lst (xs++[y]))/\jn (upd H a (.lst xs)) H3/\Rep X.K H3 d y) (Inv.opened I (.l xs) g4)
   ⟨.ref a,g2,.inl ⟨rfl,_,SqL.of jq⟩,ρ,d,env,q2,fun y H3 s3 r3=>⟨a,xs,y,rfl,rfl,s3 _ _ jq,by rw [hlen]; exact abJ hl,H3,y,rfl,rfl,s3,r3⟩⟩) fun u s1 ⟨v,H4,I4,r,H3,y,e1,e2,s3,r3⟩=>?_
  subst e1
  have e4:H4 a=some (.lst (xs++[y])):=by rw [e2]; exact jq
  have sb:∀ b u,b ≠ a->H b=some u->H4 b=some u:=fun b u n q=>by rw [e2,jm n]; exact s3 b u (by rw [jm n]; exact q)
  refine ⟨.non,upd H4 a (Qm a (xs++[y])),Inv.closed I4 (.l _) e4 (Inv.nofrz I g4),r,k _ (E.put (zZ q1) g2 g3 g4 sb ⟨xs++[y],jq,?_⟩)⟩
  have s5:jL H (upd H4 a (Qm a (xs++[y]))):=fun b u q m=>by
   have:b ≠ a:=fun z=>by subst z; rw [g4] at q; cases q; exact m _ rfl
   rw [jm this]; exact sb b u this q
  have s6:zm H3 (upd H4 a (Qm a (xs++[y]))):=fun b u q m=>by
   have e3:H3 a=some (.lst xs):=s3 _ _ jq
   have:b ≠ a:=fun z=>by subst z; rw [e3] at q; cases q; exact m _ rfl
   rw [jm this,e2,jm this]; exact q
  exact (Reps.monoE s5 _ _ g5).append ⟨y,[],rfl,Rep.monoN s6 _ _ hn r3,rfl⟩
end
section
variable {X:Cx}{e a b c tg src:Expr}{es:List Expr}{st:Stmt}{sts jT body:List Stmt}{fa fb fc:Rho->Option PyData}{F G:Rho->Option Out}{pos:Pos}
@[irreducible] noncomputable def PN (X:Cx) (e:Expr) (f:Rho->Option PyData):Prop:=
 PE X e fun σ H Q=>∃ ρ d,EnvR X.K H ρ σ/\f ρ=some d/\∀ a H',jn H H'->H a=none->ZJ X.prog X.w X.K H' a d->Q (.ref a) H'
theorem aiS {fr:Rho->Option (List PyData)} (h:PAD X es fr):PN X (.List es pos) (zp fr):=by
 with_unfolding_all
  intro pins s σ H Q I ⟨ρ,d,en,hf,k⟩
  cases h1:fr ρ with
  | none=>simp [zp,h1] at hf
  | some ds=>
   by_cases hfew:few ds=true
   ·have:PyData.list ds=d:=by simpa [zp,h1,hfew] using hf
    subst this
    refine thn (afx h pins s σ H (fun v H2=>∃ a xs H1,v= .ref a/\H1 a=none/\jn H H1/\H2=upd H1 a (.lst xs)/\Reps X.K H1 ds xs) I ⟨ρ,ds,en,h1,fun vs H1 s1 r1=>⟨by rw [r1.length]; exact abx (by simpa [few] using hfew),fun l hl=>⟨l,vs,H1,rfl,hl,s1,rfl,r1⟩⟩⟩) fun u s1 ⟨v,H2,I2,r,a,xs,H1,e1,e2,s1',e3,r1⟩=>?_
    subst e1
    have e4:H2 a=some (.lst xs):=by rw [e3]; exact jq
    have e5:upd H2 a (Qm a xs)=upd H1 a (Qm a xs):=by rw [e3,agh]
    have s2:jn H1 (upd H2 a (Qm a xs)):=by rw [e5]; exact jD e2
    exact ⟨.ref a,_,Inv.closed I2 (.l xs) e4 (fun ob u z=>by have:=I.base.frzs _ _ _ z; rw [s1'.free e2] at this; cases this),r,k a _ (s1'.trans s2) (s1'.free e2) ⟨xs,jq,Reps.mono s2 _ _ r1⟩⟩
   ·simp [zp,h1,hfew] at hf
noncomputable def acw (i:Nat) (f:Rho->Option PyData) (G:Rho->Option Out):Rho->Option Out:=fun ρ=>(f ρ).bind fun d=>if i < ρ.length then (G (ρ.set i (some d))).bind fun o=>match o with
  | .rt c=>some (.rt c)
  | _=>none
 else none
theorem aiT (i:Nat) {x:Str}{pos':Pos} (hN:X.N.Nodup) (he:PN X e fa) (h:adB X (some i) jT G) (hi:X.N[i]?=some x:=by rfl) (hx:Loc X.env.scope x:=by first | exact Or.inl rfl | exact Or.inr rfl) (hs:swapsWith e (some (.Name x pos')) pos.line X.env=pure false:=by rfl)
  (hf:X.fn x=true ∨ X.env.scope.names.lookup x=some .local:=by first | exact .inl rfl | exact .inr rfl | assumption):adB X none (.Assign [.Name x pos'] e pos::jT) (acw i fa G):=by
 with_unfolding_all
  refine PSs.imp (zX (abm hN hi hx he hs hf) h) fun D σ H ⟨Hs,ρ,o,E,q,k⟩=>?_
  cases h1:fa ρ with
  | none=>simp [acw,h1] at q
  | some d=>
   by_cases hl:i < ρ.length
   ·cases h2:G (ρ.set i (some d)) with
    | none=>simp [acw,h1,h2] at q
    | some p=>
     cases p with
     | rt c=>
      have:Out.rt c=o:=by simpa [acw,h1,h2,hl] using q
      subst this
      refine ⟨ρ,d,E.to,h1,fun a H' s hn ow=>⟨Hs,ρ.set i (some d),.rt c,⟨by simp [E.len],E.sm.trans s,fun j y q n=>?_,fun j n=>?_⟩,h2,k⟩⟩
      ·have hj:i ≠ j:=fun z=>n (by rw [z])
       rw [List.getElem?_set_ne hj] at q ⊢
       obtain ⟨v,g1,g2⟩:=E.pl j y q (fun z=>nomatch z)
       exact ⟨v,g1,Rep.mono s _ _ g2⟩
      ·cases n
       refine ⟨d,a,by rw [List.getElem?_set_self hl],by rw [List.getElem?_set_self (by rw [←E.len]; exact hl)],E.sm.free hn,ow⟩
     | nx _=>simp [acw,h1,h2,hl] at q
     | bk _=>simp [acw,h1,h2,hl] at q
     | ct _=>simp [acw,h1,h2,hl] at q
   ·simp [acw,h1,hl] at q
noncomputable def isI (n:Int):PyData->Bool
 | .int m=>decide (m=n)
 | _=>false
noncomputable def anM (r:List (PyData × PyData)) (n:Int) (d:PyData):List (PyData × PyData):=if r.any (fun p=>isI n p.1)=true then r.map (fun p=>if isI n p.1=true then (p.1,d) else p) else r++[(.int n,d)]
theorem RepM.any {K:PySem.W.Frag}{H:Hp} (n:Int):∀ {r:List (PyData × PyData)}{ks:List (Key × V)},RepM K H r ks->r.any (fun p=>isI n p.1)=ks.any fun kv=>decide (kv.1=(Sum.inl n:Key))
 | [],ks,h=>by cases (show ks=[] from h); rfl
 | (k,d)::r,ks,⟨i,x,s,h1,h2,h3,h4⟩=>by
  subst h1; subst h2
  rw [List.any_cons,List.any_cons,RepM.any n h4]
  congr 1
  by_cases hn:i=n
  ·subst hn; simp [isI]
  ·have:¬ (Sum.inl i:Key)=Sum.inl n:=fun z=>hn (Sum.inl.inj z)
   simp [isI,hn]
theorem RepM.repl {K:PySem.W.Frag}{H:Hp} (n:Int) {d':PyData}{x':V} (hr:Rep K H d' x'):∀ {r:List (PyData × PyData)}{ks:List (Key × V)},RepM K H r ks->
  RepM K H (r.map fun p=>if isI n p.1=true then (p.1,d') else p) (ks.map fun kv=>if kv.1=(Sum.inl n:Key) then (kv.1,x') else kv)
 | [],ks,h=>by cases (show ks=[] from h); exact rfl
 | (k,d)::r,ks,⟨i,x,s,h1,h2,h3,h4⟩=>by
  subst h1; subst h2
  by_cases hn:i=n
  ·subst hn
   have c1:isI i ((PyData.int i,d):PyData × PyData).1=true:=by simp [isI]
   rw [List.map_cons,List.map_cons,if_pos c1,if_pos rfl]
   exact ⟨i,x',_,rfl,rfl,hr,RepM.repl i hr h4⟩
  ·have c1:¬ isI n ((PyData.int i,d):PyData × PyData).1=true:=by simp [isI,hn]
   have c2:¬ ((Sum.inl i,x):Key × V).1=Sum.inl n:=fun z=>hn (Sum.inl.inj z)
   rw [List.map_cons,List.map_cons,if_neg c1,if_neg c2]
   exact ⟨i,x,_,rfl,rfl,h3,RepM.repl n hr h4⟩
theorem RepM.snoc {K:PySem.W.Frag}{H:Hp} (n:Int) {d':PyData}{x':V} (hr:Rep K H d' x'):∀ {r:List (PyData × PyData)}{ks:List (Key × V)},RepM K H r ks->RepM K H (r++[(.int n,d')]) (ks++[(Sum.inl n,x')])
 | [],ks,h=>by cases (show ks=[] from h); exact ⟨n,x',[],rfl,rfl,hr,rfl⟩
 | (k,d)::r,ks,⟨i,x,s,h1,h2,h3,h4⟩=>by
  subst h2
  exact ⟨i,x,_,h1,rfl,h3,RepM.snoc n hr h4⟩
theorem RepM.put {K:PySem.W.Frag}{H:Hp} (n:Int) {d':PyData}{x':V} (hr:Rep K H d' x') {r:List (PyData × PyData)}{ks:List (Key × V)} (h:RepM K H r ks):RepM K H (anM r n d') (acp ks (Sum.inl n) x'):=by
 unfold anM acp
 rw [h.any n]
 by_cases c:(ks.any fun kv=>decide (kv.1=(Sum.inl n:Key)))=true
 ·rw [if_pos c,if_pos c]; exact h.repl n hr
 ·rw [if_neg c,if_neg c]; exact h.snoc n hr
theorem RepM.length {K:PySem.W.Frag}{H:Hp}:∀ {r:List (PyData × PyData)}{ks:List (Key × V)},RepM K H r ks->ks.length=r.length
 | [],ks,h=>by cases (show ks=[] from h); rfl
 | (k,d)::r,ks,⟨i,x,s,h1,h2,h3,h4⟩=>by subst h2; simp [RepM.length h4]
end
section
variable {X:Cx}{e a b c tg src:Expr}{es:List Expr}{fa fb fc:Rho->Option PyData}{pos:Pos}
end
noncomputable def anN:HO->Bool
 | .lst _=>true
 | .tup _=>true
 | .frz _ _=>true
 | _=>false
noncomputable def agz (H H':Hp):Prop:=∀ b o,H b=some o->anN o=true->H' b=some o
section
variable {K:PySem.W.Frag}{H H':Hp}
theorem agz.tup {a:Addr}{xs:List V} (e:agz H H') (h:SqT K H a xs):SqT K H' a xs:=by
 rcases h with (h | ⟨o,h⟩) | h
 ·exact .inl (.inl (e _ _ h rfl))
 ·exact .inl (.inr ⟨o,e _ _ h rfl⟩)
 ·exact .inr h
theorem agz.sql {a:Addr}{xs:List V} (e:agz H H') (h:SqL K H a xs):SqL K H' a xs:=by
 rcases h with (h | ⟨o,h⟩) | h
 ·exact .inl (.inl (e _ _ h rfl))
 ·exact .inl (.inr ⟨o,e _ _ h rfl⟩)
 ·exact .inr h
end
section
variable {X:Cx}{e a b c tg src:Expr}{es:List Expr}{fa fb fc:Rho->Option PyData}{pos:Pos}
theorem RepM.keys {K:PySem.W.Frag}{H:Hp}:∀ {r:List (PyData × PyData)}{ks:List (Key × V)}{i:Nat}{d:PyData}{kv:Key × V},RepM K H r ks->(r.map (·.1))[i]?=some d->ks[i]?=some kv->Rep K H d (kV kv.1)
 | [],ks,i,d,kv,h,e,q=>by simp at e
 | (k,c)::r,ks,0,d,kv,⟨i,x,s,h1,h2,h3,h4⟩,e,q=>by
  subst h1; subst h2
  simp at e q
  subst e; subst q
  exact rfl
 | (k,c)::r,ks,j+1,d,kv,⟨i,x,s,h1,h2,h3,h4⟩,e,q=>by
  subst h2
  exact RepM.keys (i:=j) h4 (by simpa using e) (by simpa using q)
end
end BX
end
section
namespace BX
open PySem PySem.Spec L2
section
open PyProof.Rows hiding St
variable {X:Cx}{e a b c tg src:Expr}{es:List Expr}{fa fb fc:Rho->Option PyData}{pos:Pos}{jT:List Expr}
end
end BX
end
section
namespace BX
open PySem PySem.Spec L2
open PyProof.Rows hiding St
section
variable {X:Cx}{e a b c tg src:Expr}{es:List Expr}{fa fb fc:Rho->Option PyData}{pos:Pos}{jT:List Expr}
noncomputable def anO:PyData->Bool
 | .none=>true
 | _=>false
theorem aiU {K:PySem.W.Frag}{H:Hp}{p:PyData}{x:V} (r:Rep K H p x):decide (x= .non)=anO p:=by
 cases p with
 | none=>cases (show x= .non from r); rfl
 | bool b=>cases (show x=_ from r); rfl
 | int b=>cases (show x=_ from r); rfl
 | str b=>cases (show x=_ from r); rfl
 | tuple ds=>obtain ⟨a,xs,h,_⟩:=r; subst h; rfl
 | list ds=>obtain ⟨a,xs,h,_⟩:=r; subst h; rfl
 | dict ds=>obtain ⟨a,h,_⟩:=r; subst h; rfl
noncomputable def akN (p q:PyData):Option PyData:=match q with
 | .none=>some (.bool (anO p))
 | _=>none
theorem akO:OpD X (compareOp .Is) akN:=by
 refine ⟨_,amb,fun p q d x y H Q h rx ry k=>?_⟩
 unfold akN at h
 split at h
 ·cases h
  exact ⟨ry,by rw [aiU rx]; exact k _ H (jn.refl H) rfl⟩
 ·cases h
end
section
variable {X:Cx}{e a b c tg src:Expr}{es:List Expr}{fa fb fc:Rho->Option PyData}{pos:Pos}
noncomputable def anP:V->List V->Hp->VK->Prop:=fun x vs H Q=>∃ l xs y,x= .ref l/\vs=[.int 0,y]/\H l=some (.lst xs)/\xs.length < sizeLine/\Q .non (upd H l (.lst (y::xs)))
theorem afO:MtM X "list.insert" anP:=by
 intro pins s σ H x vs v us Q I rx rv h
 obtain ⟨l,xs,y,rfl,rfl,hH,hz,q⟩:=h
 cases rx
 cases rv with
 | cons r0 rv=>
  obtain ⟨t,rfl⟩:=r0
  obtain ⟨u,rfl,ru⟩:=jC.one rv
  obtain ⟨z,its,n,r,hl,e⟩:=I.lstM hH
  refine call_meets F.slot_list_insert ⟨_,e,rfl⟩ F.entry_list_insert (F.args_list_insert_3 _ _ _) (AutoSeq1.list_insert_list_int_val_1 l its.toArray n 0 t u (by decide) (by rw [List.size_toArray]; omega)) ⟨e,?_⟩
  refine ⟨.non,_,I.lset (its':=u::its) (t':=s.toks) hH e ?_ (.cons ru r) ?_,rfl,q⟩
  ·simp
  ·rw [List.length_cons]; omega
noncomputable def akP (c z d:Option PyData):Option PyData:=match c,z,d with
 | some (.list ds),some (.int 0),some d=>if noL d=true/\ds.length < 1000000 then some (.list (d::ds)) else none
 | _,_,_=>none
noncomputable def anQ (i:Nat) (fz fa:Rho->Option PyData):Rho->Option PyData:=fun ρ=>akP (lkp i ρ) (fz ρ) (fa ρ)
theorem aiV {c z d:Option PyData}{r:PyData} (h:akP c z d=some r):∃ ds x,c=some (.list ds)/\z=some (.int 0)/\d=some x/\noL x=true/\ds.length < 1000000/\r= .list (x::ds):=by
 unfold akP at h
 split at h
 ·split at h
  ·rename_i hc
   cases h
   exact ⟨_,_,rfl,rfl,rfl,hc.1,hc.2,rfl⟩
  ·cases h
 ·cases h
theorem afP (i:Nat) {x:Str}{p1 apos cpos:Pos}{fz:Rho->Option PyData} (hz:PD X b fz) (h:PD X e fa) (hN:X.N[i]?=some x:=by rfl) (hv:Vis X.env.scope x:=by first | exact Or.inl rfl | exact Or.inr (Or.inl rfl) | exact Or.inr (Or.inr rfl)) (hd:(x == ("__debug__":Str))=false:=by decide)
  (hcd:(x == ("__classdict__":Str))=false:=by decide) (hbase:attributeBase (.Name x p1) "insert" X.env (eval (.Name x p1) X.env)=eval (.Name x p1) X.env:=by rfl)
  (hfew:((backTo cpos (starEach [b,e] X.env)).all (fun x=>!x.1) && (backToKw cpos (keywordEach [] X.env)).all (fun x=>x.1.isSome) && decide ([b,e].length+([]:List Keyword).length+(if ([]:List Keyword).isEmpty then 0 else 1) < 30))=true:=by rfl)
  (hline:(apos.endLine == cpos.line)=true:=by rfl) (hs:starEach [b,e] X.env=(false,eval b X.env)::starEach [e] X.env:=by rfl) (hs2:starEach [e] X.env=(false,eval e X.env)::starEach [] X.env:=by rfl) (hplain:(backTo cpos (starEach [e] X.env)).any (·.1)=false:=by rfl):
  PE X (.Call (.Attribute (.Name x p1) "insert" apos) [b,e] [] cpos) (amx X.prog X.w X.K i (anQ i fz fa)):=by
 with_unfolding_all
  intro pins s σ H Q I ⟨Hs,ρ,d',E,hg,k⟩
  obtain ⟨ds,d,q1,q0,q2,hn,hl,rfl⟩:=aiV hg
  obtain ⟨a,xs,g2,g3,g4,g5,env⟩:=E.opnL (zZ q1)
  have hlen:=g5.length
  have W:=acH (X:=X) (cpos:=cpos) (apos:=apos) PySem.F.plainAttrs_list PySem.F.slot_list_insert PySem.F.type_list_insert afO (adh hN hv hd hcd) (qg hz (qg h qY hs2) hs) hbase hfew hline hs hplain
  refine thn (W pins s σ (upd H a (.lst xs)) (fun v H4=>∃ H3 y,v= .non/\H4=upd H3 a (.lst (y::xs))/\jn (upd H a (.lst xs)) H3/\Rep X.K H3 d y) (Inv.opened I (.l xs) g4)
   ⟨.ref a,g2,.inl ⟨rfl,_,SqL.of jq⟩,ρ,.int 0,env,q0,fun y0 H2 s2 r2=>⟨ρ,d,env.mono s2,q2,fun y H3 s3 r3=>?_⟩⟩) fun u s1 ⟨v,H4,I4,r,H3,y,e1,e2,s3,r3⟩=>?_
  ·cases (show y0=V.int 0 from r2)
   exact ⟨a,xs,y,rfl,rfl,s3 _ _ (s2 _ _ jq),by rw [hlen]; exact abJ hl,H3,y,rfl,rfl,s2.trans s3,r3⟩
  subst e1
  have e4:H4 a=some (.lst (y::xs)):=by rw [e2]; exact jq
  have sb:∀ b u,b ≠ a->H b=some u->H4 b=some u:=fun b u n q=>by rw [e2,jm n]; exact s3 b u (by rw [jm n]; exact q)
  refine ⟨.non,upd H4 a (Qm a (y::xs)),Inv.closed I4 (.l _) e4 (Inv.nofrz I g4),r,k _ (E.put (zZ q1) g2 g3 g4 sb ⟨y::xs,jq,?_⟩)⟩
  have s5:jL H (upd H4 a (Qm a (y::xs))):=fun b u q m=>by
   have:b ≠ a:=fun z=>by subst z; rw [g4] at q; cases q; exact m _ rfl
   rw [jm this]; exact sb b u this q
  have s6:zm H3 (upd H4 a (Qm a (y::xs))):=fun b u q m=>by
   have e3:H3 a=some (.lst xs):=s3 _ _ jq
   have:b ≠ a:=fun z=>by subst z; rw [e3] at q; cases q; exact m _ rfl
   rw [jm this,e2,jm this]; exact q
  exact ⟨y,xs,rfl,Rep.monoN s6 _ _ hn r3,Reps.monoE s5 _ _ g5⟩
end
section
variable {X:Cx}{e a b c tg src:Expr}{es:List Expr}{fa fb fc:Rho->Option PyData}{pos:Pos}
theorem Reps.set {K:PySem.W.Frag}{H:Hp}{d:PyData}{v:V} (r:Rep K H d v):∀ {ds:List PyData}{xs:List V} (j:Nat),Reps K H ds xs->Reps K H (ds.set j d) (xs.set j v)
 | [],xs,j,h=>by cases (show xs=[] from h); exact rfl
 | _::ds,xs,0,⟨x,q,h1,h2,h3⟩=>by subst h1; exact ⟨v,q,rfl,r,h3⟩
 | _::ds,xs,j+1,⟨x,q,h1,h2,h3⟩=>by subst h1; exact ⟨x,_,rfl,h2,Reps.set r j h3⟩
noncomputable def afQ (ds:List PyData):Option PyData:=match ds with
 | [.list xs]=>some (.tuple xs)
 | [.tuple xs]=>some (.tuple xs)
 | _=>none
theorem aiW:Qt X (.type "tuple") afQ:=by
 refine ⟨_,aco,fun ds d xs H Q h r k=>?_⟩
 unfold afQ at h
 split at h
 ·cases h
  obtain ⟨x,q,e1,e2,e3⟩:=r
  cases (show q=[] from e3)
  obtain ⟨a,us,g1,g2,g3⟩:=e2
  subst g1
  refine ⟨a,us,e1,.inl ⟨SqL.of g2,fun l hl=>?_⟩⟩
  have s1:=jD (o:= .tup us) hl
  exact k _ _ s1 ⟨l,us,rfl,SqT.of jq,Reps.mono s1 _ _ g3⟩
 ·cases h
  obtain ⟨x,q,e1,e2,e3⟩:=r
  cases (show q=[] from e3)
  obtain ⟨a,us,g1,g2,g3⟩:=e2
  subst g1
  exact ⟨a,us,e1,.inr ⟨g2,k _ H (jn.refl H) ⟨a,us,rfl,g2,g3⟩⟩⟩
 ·cases h
end
section
variable {X:Cx}{e a b c:Expr}{fa fb fc:Rho->Option PyData}{pos p2:Pos}
noncomputable def aaX (ds:List PyData) (lo hi:Option Int):List PyData:=(ds.drop (HT.sIx ds.length 0 lo)).take (HT.sIx ds.length ds.length hi - HT.sIx ds.length 0 lo)
noncomputable def inI:PyData->Option Int
 | .int i=>some i
 | _=>none
theorem abK {d:PyData}{i:Int} (h:inI d=some i):d= .int i:=by cases d <;> simp [inI] at h; rw [h]
end
section
variable {prog:Program}{w:World}{A:Around}{E:Value->Shared->Prop}{s:Shared}
noncomputable def ItA (g:Bool) (h:Heap) (i t:Addr) (k:Nat):Prop:=match g with
 | true=>h.IsListIter i t k
 | false=>h.IsTupleIter i t k
noncomputable def SrA (g:Bool) (h:Heap) (t:Addr) (xs:Array Value):Prop:=match g with
 | true=>h.IsList t xs
 | false=>h.IsTuple t xs
theorem ItA.to {g:Bool}{h h':Heap}{i t:Addr}{k:Nat} (x:ItA g h i t k) (kp:∀ o,h.get? i=some o->h'.get? i=some o):ItA g h' i t k:=by
 cases g <;> exact (let ⟨o,e,r⟩:=x; ⟨o,kp o e,r⟩)
theorem SrA.to {g:Bool}{h h':Heap}{t:Addr}{xs:Array Value} (x:SrA g h t xs) (kp:∀ o,h.get? t=some o->h'.get? t=some o):SrA g h' t xs:=by
 cases g <;> exact (let ⟨o,e,r⟩:=x; ⟨o,kp o e,r⟩)
theorem ItA.extBut {g:Bool}{h h':Heap}{i t b:Addr}{k:Nat} (x:ItA g h i t k) (e:Heap.ExtBut b h h') (n:i ≠ b):ItA g h' i t k:=x.to fun o q=>e i o n q
theorem SrA.extBut {g:Bool}{h h':Heap}{t b:Addr}{xs:Array Value} (x:SrA g h t xs) (e:Heap.ExtBut b h h') (n:t ≠ b):SrA g h' t xs:=x.to fun o q=>e t o n q
theorem ItA.obj {g:Bool}{h:Heap}{i t:Addr}{k:Nat} (x:ItA g h i t k):∃ o vs,h.get? i=some o/\o.data= .fields vs:=by
 cases g <;> exact (let ⟨o,e,_,d⟩:=x; ⟨o,_,e,d⟩)
theorem Zp {g:Bool}{it t:Addr}{i:Nat}{ys:Array Value}{x:Value}{Q:Value->Shared->Prop} (hit:ItA g s.heap it t i) (ht:SrA g s.heap t ys) (hx:ys[i]?=some x)
  (hQ:∀ h',ItA g h' it t (i+1)->Heap.SameBut it s.heap h'->Q x { s with heap:=h' }):wpAny (model prog w) A (Builtin.SmallTypes.nextOf (.ref it)) Q E s:=by
 cases g with
 | true=>exact wpAny_nextOf_list_item hit ht hx hQ
 | false=>exact JX hit ht hx hQ
theorem acR {g:Bool}{it t:Addr}{i:Nat}{ys:Array Value}{Q:Value->Shared->Prop} (hh:A.handled=none) (hit:ItA g s.heap it t i) (ht:SrA g s.heap t ys) (hx:ys[i]?=none)
  (hE:∀ h' e,Heap.ExtBut it s.heap h'->(∃ o,h'.get? e=some o/\o.cls= .type "StopIteration")->E (.ref e) { s with heap:=h' }):wpAny (model prog w) A (Builtin.SmallTypes.nextOf (.ref it)) Q E s:=by
 cases g with
 | true=>exact wpAny_nextOf_list_end hh hit ht hx hE
 | false=>exact acN hh hit ht hx hE
theorem abL {T:Addr}{a b x:Value}{k:Nat}{Q:Unit->Shared->Prop} (hT:IsPair s.heap T a b)
  (h:∀ h',h'.get? T=some { cls:= .type "tuple",data:= .seq ((#[a,b]:Array Value).setIfInBounds k x) }->Heap.SameBut T s.heap h'->Q () { s with heap:=h' }):
  wpAny (model prog w) A (updateSeq T (·.setIfInBounds k x)) Q E s:=by
 refine wpAny_updateSeq hT rfl (h _ ?_ (Heap.SameBut.update ..))
 rw [Heap.get?_update_self _ hT rfl]
 simp [Obj.mapSeq]
structure Apart2 (z TI TO i1 i2 t1 t2:Addr):Prop where
 nd:[z,TO,i1,i2].Nodup
 ti:TI ∉ [z,TO,i1,i2]
 s1:t1 ∉ [z,TO,i1,i2]
 s2:t2 ∉ [z,TO,i1,i2]
structure Zip2 (ga gb:Bool) (h:Heap) (z TI TO i1 i2 t1 t2:Addr) (f0:Value) (k:Nat):Prop where
 hz:IsZip h z TI TO f0
 hTI:IsPair h TI (.ref i1) (.ref i2)
 hTO:∃ a b,IsPair h TO a b
 g1:ItA ga h i1 t1 k
 g2:ItA gb h i2 t2 k
theorem Zip2.keep {ga gb:Bool}{h h':Heap}{z TI TO i1 i2 t1 t2:Addr}{f0:Value}{k:Nat} (S:Zip2 ga gb h z TI TO i1 i2 t1 t2 f0 k) (kp:∀ b ∈ [z,TI,TO,i1,i2],∀ o,h.get? b=some o->h'.get? b=some o):
  Zip2 ga gb h' z TI TO i1 i2 t1 t2 f0 k:=by
 obtain ⟨hz,hTI,⟨a,b,hTO⟩,g1,g2⟩:=S
 exact ⟨kp z (by simp) _ hz,kp TI (by simp) _ hTI,⟨a,b,kp TO (by simp) _ hTO⟩,g1.to (kp i1 (by simp)),g2.to (kp i2 (by simp))⟩
theorem ahj {ga gb:Bool}{z TI TO i1 i2 t1 t2:Addr}{xs ys:Array Value}{k:Nat}{x y:Value}{Q:Value->Shared->Prop} (D:Apart2 z TI TO i1 i2 t1 t2) (S:Zip2 ga gb s.heap z TI TO i1 i2 t1 t2 .none k)
  (a1:SrA ga s.heap t1 xs) (a2:SrA gb s.heap t2 ys) (hx:xs[k]?=some x) (hy:ys[k]?=some y)
  (hQ:∀ h',Zip2 ga gb h' z TI TO i1 i2 t1 t2 (rawInt s.heap.objs.size) (k+1)->IsPair h' s.heap.objs.size x y->But [z,TO,i1,i2] s.heap h'->Q (.ref s.heap.objs.size) { s with heap:=h' }):
  wpAny (model prog w) A (Builtin.«zip.__next__» ⟨[.ref z],[]⟩) (fun fin s'=>∃ v,fin= .done (.ret v)/\Q v s') E s:=by
 obtain ⟨hz,hTI,⟨a,b,hTO⟩,g1,g2⟩:=S
 obtain ⟨nd,ti,s1,s2⟩:=D
 simp only [List.nodup_cons,List.mem_cons,List.not_mem_nil,or_false,not_or] at nd ti s1 s2
 obtain ⟨⟨n1,n2,n3⟩,⟨n5,n6⟩,n8,_⟩:=nd
 obtain ⟨t1z,t1o,t11,t12⟩:=s1
 obtain ⟨t2z,t2o,t21,t22⟩:=s2
 obtain ⟨tiz,tio,ti1,ti2⟩:=ti
 refine wpAny_bind (m:=field (.ref z) 2) (wpAny_field hz rfl (x:= .bool false) rfl ?_)
 refine wpAny_bind (m:=field (.ref z) 3) (wpAny_field hz rfl (x:= .ref TI) rfl ?_)
 refine wpAny_bind (wpAny_seqItems hTI rfl ?_)
 refine wpAny_bind (m:=Builtin.SmallTypes.ownedTupleIsFree (.ref z)) ?_
 unfold Builtin.SmallTypes.ownedTupleIsFree
 refine wpAny_bind (wpAny_field hz rfl (x:= .none) rfl (wpAny_pure ?_))
 simp only [zzM]
 refine wpAny_bind (wpAny_rule ?_)
 refine wpAny_bind (wpAny_field hz rfl (x:= .ref TO) rfl ?_)
 refine wpAny_bind (wpAny_setField_rec hz (by simp) fun h1 hz1 b1=>?_)
 replace hz1:IsZip h1 z TI TO .ellipsis:=hz1
 refine wpAny_bind ?_
 simp only [List.zipIdx_cons,List.zipIdx_nil,List.forIn_cons,List.forIn_nil]
 refine wpAny_bind (wpAny_bind (wpAny_onRaise ?_))
 refine wpAny_bind (m:=Builtin.SmallTypes.nextOf (.ref i1)) ?_
 refine Zp (g1.extBut b1.extBut (Ne.symm n2)) (a1.extBut b1.extBut t1z) hx fun h2 g1' b2=>wpAny_pure ?_
 have o2:IsPair h2 TO a b:=b2.extBut _ _ n5 (b1.extBut _ _ (Ne.symm n1) hTO)
 refine wpAny_bind (wpAny_seqItems o2 rfl ?_)
 refine wpAny_bind (abL o2 fun h3 o3 b3=>?_)
 replace o3:IsPair h3 TO x b:=o3
 refine wpAny_bind (wpAny_letGo (wpAny_pure ?_))
 refine wpAny_bind (wpAny_bind (wpAny_onRaise ?_))
 refine wpAny_bind (m:=Builtin.SmallTypes.nextOf (.ref i2)) ?_
 refine Zp (((g2.extBut b1.extBut (Ne.symm n3)).extBut b2.extBut (Ne.symm n8)).extBut b3.extBut (Ne.symm n6)) (((a2.extBut b1.extBut t2z).extBut b2.extBut t21).extBut b3.extBut t2o) hy fun h4 g2' b4=>wpAny_pure ?_
 have o4:IsPair h4 TO x b:=b4.extBut _ _ n6 o3
 refine wpAny_bind (wpAny_seqItems o4 rfl ?_)
 refine wpAny_bind (abL o4 fun h7 o7 b7=>?_)
 replace o7:IsPair h7 TO x y:=o7
 refine wpAny_bind (wpAny_letGo (wpAny_pure (wpAny_pure ?_)))
 refine wpAny_bind (wpAny_seqItems o7 rfl ?_)
 refine wpAny_bind (wpAny_newTuple ?_)
 have sz:h7.objs.size=s.heap.objs.size:=by rw [b7.1,b4.1,b3.1,b2.1,b1.1]
 have B:But [z,TO,i1,i2] s.heap h7:=
  ((((But.of b1.extBut (by simp)).trans (But.of b2.extBut (by simp))).trans (But.of b3.extBut (by simp))).trans (But.of b4.extBut (by simp))).trans (But.of b7.extBut (by simp))
 have z7:IsZip h7 z TI TO .ellipsis:=b7.extBut _ _ n1 (b4.extBut _ _ n3 (b3.extBut _ _ n1 (b2.extBut _ _ n2 hz1)))
 have i17:ItA ga h7 i1 t1 (k+1):=((g1'.extBut b3.extBut (Ne.symm n5)).extBut b4.extBut n8).extBut b7.extBut (Ne.symm n5)
 have i27:ItA gb h7 i2 t2 (k+1):=g2'.extBut b7.extBut (Ne.symm n6)
 refine wpAny_bind (m:=Builtin.SmallTypes.ownedTupleHandOut (.ref z) (.ref h7.objs.size)) ?_
 unfold Builtin.SmallTypes.ownedTupleHandOut
 have z8:IsZip (h7.push { cls:= .type "tuple",data:= .seq #[x,y] }) z TI TO .ellipsis:=Heap.get?_push_of_some _ z7
 refine wpAny_bind (wpAny_setField_rec z8 (by simp) fun h9 z9 b9=>?_)
 replace z9:IsZip h9 z TI TO (rawInt h7.objs.size):=z9
 refine wpAny_setField_rec z9 (by simp) fun h10 z10 b10=>?_
 replace z10:IsZip h10 z TI TO (rawInt h7.objs.size):=z10
 have up:∀ c o,c ≠ z->h7.get? c=some o->h10.get? c=some o:=fun c o c1 e=>b10.extBut _ _ c1 (b9.extBut _ _ c1 (Heap.get?_push_of_some _ e))
 have zlt:z < h7.objs.size:=Heap.lt_size z7
 have T10:IsPair h10 h7.objs.size x y:=b10.extBut _ _ (Nat.ne_of_gt zlt) (b9.extBut _ _ (Nat.ne_of_gt zlt) (Heap.get?_push_size _ rfl))
 rw [sz] at z10 T10
 refine wpAny_pure ⟨_,rfl,?_⟩
 show Q (.ref h7.objs.size) _
 rw [sz]
 refine hQ h10 ⟨z10,up _ _ tiz (B _ _ (by simp [tiz,tio,ti1,ti2]) hTI),⟨x,y,up _ _ (Ne.symm n1) o7⟩,i17.to fun o=>up _ o (Ne.symm n2),i27.to fun o=>up _ o (Ne.symm n3)⟩ T10 fun c o hc e=>up c o (fun q=>hc (by simp [q])) (B c o hc e)
theorem aiX {ga gb:Bool}{z TI TO i1 i2 t1 t2:Addr}{xs ys:Array Value}{k:Nat}{Q:Fin->Shared->Prop} (hh:A.handled=none) (D:Apart2 z TI TO i1 i2 t1 t2) (S:Zip2 ga gb s.heap z TI TO i1 i2 t1 t2 .none k)
  (a1:SrA ga s.heap t1 xs) (a2:SrA gb s.heap t2 ys) (hx:xs[k]?=none ∨ ys[k]?=none)
  (hE:∀ h' e,But [z,TO,i1,i2] s.heap h'->(∃ o,h'.get? e=some o/\o.cls= .type "StopIteration")->E (.ref e) { s with heap:=h' }):
  wpAny (model prog w) A (Builtin.«zip.__next__» ⟨[.ref z],[]⟩) Q E s:=by
 obtain ⟨hz,hTI,⟨a,b,hTO⟩,g1,g2⟩:=S
 obtain ⟨nd,ti,s1,s2⟩:=D
 simp only [List.nodup_cons,List.mem_cons,List.not_mem_nil,or_false,not_or] at nd ti s1 s2
 obtain ⟨⟨n1,n2,n3⟩,⟨n5,n6⟩,n8,_⟩:=nd
 obtain ⟨t2z,t2o,t21,t22⟩:=s2
 refine wpAny_bind (m:=field (.ref z) 2) (wpAny_field hz rfl (x:= .bool false) rfl ?_)
 refine wpAny_bind (m:=field (.ref z) 3) (wpAny_field hz rfl (x:= .ref TI) rfl ?_)
 refine wpAny_bind (wpAny_seqItems hTI rfl ?_)
 refine wpAny_bind (m:=Builtin.SmallTypes.ownedTupleIsFree (.ref z)) ?_
 unfold Builtin.SmallTypes.ownedTupleIsFree
 refine wpAny_bind (wpAny_field hz rfl (x:= .none) rfl (wpAny_pure ?_))
 simp only [zzM]
 refine wpAny_bind (wpAny_rule ?_)
 refine wpAny_bind (wpAny_field hz rfl (x:= .ref TO) rfl ?_)
 refine wpAny_bind (wpAny_setField_rec hz (by simp) fun h1 hz1 b1=>?_)
 replace hz1:IsZip h1 z TI TO .ellipsis:=hz1
 refine wpAny_bind ?_
 simp only [List.zipIdx_cons,List.zipIdx_nil,List.forIn_cons,List.forIn_nil]
 refine wpAny_bind (wpAny_bind (wpAny_onRaise ?_))
 refine wpAny_bind (m:=Builtin.SmallTypes.nextOf (.ref i1)) ?_
 cases hx1:xs[k]? with
 | none=>
  refine acR hh (g1.extBut b1.extBut (Ne.symm n2)) (a1.extBut b1.extBut s1.1) hx1 fun h2 e b2 he=>?_
  obtain ⟨oe,ho,hc⟩:=he
  have z2:IsZip h2 z TI TO .ellipsis:=b2 _ _ n2 hz1
  have ez:e ≠ z:=fun q=>by subst q; rw [z2] at ho; cases ho; simp at hc
  refine wpAny_setField_rec z2 (by simp) fun h3 _ b3=>?_
  exact hE h3 e (((But.of b1.extBut (by simp)).trans (But.of b2 (by simp))).trans (But.of b3.extBut (by simp))) ⟨oe,b3.extBut _ _ ez ho,hc⟩
 | some x=>
  have hy:ys[k]?=none:=hx.resolve_left (by rw [hx1]; simp)
  refine Zp (g1.extBut b1.extBut (Ne.symm n2)) (a1.extBut b1.extBut s1.1) hx1 fun h2 g1' b2=>wpAny_pure ?_
  have o2:IsPair h2 TO a b:=b2.extBut _ _ n5 (b1.extBut _ _ (Ne.symm n1) hTO)
  refine wpAny_bind (wpAny_seqItems o2 rfl ?_)
  refine wpAny_bind (abL o2 fun h3 o3 b3=>?_)
  refine wpAny_bind (wpAny_letGo (wpAny_pure ?_))
  refine wpAny_bind (wpAny_bind (wpAny_onRaise ?_))
  refine wpAny_bind (m:=Builtin.SmallTypes.nextOf (.ref i2)) ?_
  refine acR hh (((g2.extBut b1.extBut (Ne.symm n3)).extBut b2.extBut (Ne.symm n8)).extBut b3.extBut (Ne.symm n6)) (((a2.extBut b1.extBut t2z).extBut b2.extBut t21).extBut b3.extBut t2o) hy fun h4 e b4 he=>?_
  obtain ⟨oe,ho,hc⟩:=he
  have z4:IsZip h4 z TI TO .ellipsis:=b4 _ _ n3 (b3.extBut _ _ n1 (b2.extBut _ _ n2 hz1))
  have ez:e ≠ z:=fun q=>by subst q; rw [z4] at ho; cases ho; simp at hc
  refine wpAny_setField_rec z4 (by simp) fun h5 _ b5=>?_
  exact hE h5 e (((((But.of b1.extBut (by simp)).trans (But.of b2.extBut (by simp))).trans (But.of b3.extBut (by simp))).trans (But.of b4 (by simp))).trans (But.of b5.extBut (by simp))) ⟨oe,b5.extBut _ _ ez ho,hc⟩
end
noncomputable def Sq (g:Bool) (K:PySem.W.Frag) (H:Hp) (t:Addr) (xs:List V):Prop:=match g with
 | true=>SqL K H t xs
 | false=>SqT K H t xs
theorem Sq.inv {g:Bool}{X:Cx}{pins:List (Addr × Obj)}{σ:St}{H:Hp}{s:Shared}{a:Addr}{xs:List V} (q:Sq g X.K H a xs) (I:Inv X pins σ H s):∃ its:List Value,jC xs its/\SrA g s.heap a its.toArray:=by
 cases g with
 | true=>obtain ⟨its,r,p,_⟩:=I.list q; exact ⟨its,r,p.isList⟩
 | false=>obtain ⟨its,r,p,_⟩:=I.tuple q; exact ⟨its,r,p⟩
theorem Sq.inj {g:Bool}{X:Cx}{pins:List (Addr × Obj)}{σ:St}{H:Hp}{s:Shared}{a:Addr}{xs ys:List V} (I:Inv X pins σ H s) (q:Sq g X.K H a xs) (q':Sq g X.K H a ys):xs=ys:=by
 cases g with
 | true=>exact I.list_inj q q'
 | false=>exact I.tuple_inj q q'
theorem Sq.monoE {g:Bool}{K:PySem.W.Frag}{H H':Hp}{a:Addr}{xs:List V} (e:jL H H') (h:Sq g K H a xs):Sq g K H' a xs:=by
 cases g with
 | true=>exact jL.sql e h
 | false=>exact jL.tup e h
theorem Sq.at {g:Bool}{K:PySem.W.Frag}{H:Hp}{a:Addr}{xs:List V} (h:Sq g K H a xs):(∃ u,H a=some u) ∨ ∃ o,K.lookup a=some o:=by
 cases g with
 | true=>rcases h with (e | ⟨o,e⟩) | ⟨o,its,n,hk,_⟩ <;> first | exact .inl ⟨_,e⟩ | exact .inr ⟨_,hk⟩
 | false=>rcases h with (e | ⟨o,e⟩) | ⟨o,its,n,hk,_⟩ <;> first | exact .inl ⟨_,e⟩ | exact .inr ⟨_,hk⟩
noncomputable def Itq (K:PySem.W.Frag) (ga gb:Bool) (t1 t2:Addr):It:=
 ⟨fun i H=>∃ xs ys x y,Sq ga K H t1 xs/\Sq gb K H t2 ys/\xs[i]?=some x/\ys[i]?=some y,
  fun i H u H'=>∃ p x y,u= .ref p/\H p=none/\H'=upd H p (.tup [x,y])/\∀ xs ys,Sq ga K H t1 xs->Sq gb K H t2 ys->xs[i]?=some x/\ys[i]?=some y,
  fun i H=>∃ xs ys,Sq ga K H t1 xs/\Sq gb K H t2 ys/\(xs.length<=i ∨ ys.length<=i)⟩
theorem ahk {P:Program}{w:World}{K:PySem.W.Frag}{elts:List Expr}{x1:Nat}{pos:Pos}{ga gb:Bool}{z TI TO i1 i2 t1 t2:Addr} (nd:[z,TO,i1,i2].Nodup) (ti:TI ∉ [z,TO,i1,i2]):
  Turn P w K (.Tuple elts x1 pos) (Itq K ga gb t1 t2) [z,TI,TO,i1,i2] z (fun i h=>Zip2 ga gb h z TI TO i1 i2 t1 t2 .none i) where
 mem:=by simp
 obj:=fun i h st b hb=>by
  obtain ⟨hz,hTI,⟨a,b',hTO⟩,g1,g2⟩:=st
  obtain ⟨o1,v1,e1,d1⟩:=g1.obj
  obtain ⟨o2,v2,e2,d2⟩:=g2.obj
  simp only [List.mem_cons,List.not_mem_nil,or_false] at hb
  rcases hb with rfl | rfl | rfl | rfl | rfl
  ·exact ⟨_,hz,fun v q=>by cases q⟩
  ·exact ⟨_,hTI,fun v q=>by cases q⟩
  ·exact ⟨_,hTO,fun v q=>by cases q⟩
  ·exact ⟨o1,e1,fun v q=>by rw [d1] at q; cases q⟩
  ·exact ⟨o2,e2,fun v q=>by rw [d2] at q; cases q⟩
 keep:=fun i h h' st k=>st.keep k
 item:=by
  intro X hP hw hK hc i pins s σ H E I hf st hg
  subst hP hw hK
  obtain ⟨xs,ys,x,y,q1,q2,ex,ey⟩:=hg
  obtain ⟨us1,r1,p1⟩:=q1.inv I
  obtain ⟨us2,r2,p2⟩:=q2.inv I
  obtain ⟨u1,m1,l1⟩:=r1.get ex
  obtain ⟨u2,m2,l2⟩:=r2.get ey
  have trk:∀ {g:Bool} {t:Addr} {ws:List V},Sq g X.K H t ws->t ∉ [z,TO,i1,i2]:=fun {g t ws} hq hb=>by
   have hb':t ∈ [z,TI,TO,i1,i2]:=by
    simp only [List.mem_cons,List.not_mem_nil,or_false] at hb ⊢
    rcases hb with e | e | e | e <;> simp [e]
   rcases hq.at with ⟨u,e⟩ | ⟨o,hk⟩
   ·have:=(hf t hb').1; rw [e] at this; cases this
   ·obtain ⟨f0,f1,f2,f3,f4,f5⟩:=hf t hb'
    have hbase:=I.mod.kin t o hk
    rcases f3 with q | q
    ·exact I.ok.noex t o hbase q
    ·exact absurd (Nat.lt_of_lt_of_le (Heap.lt_size hbase) (Nat.le_trans I.ok.bsz q)) (Nat.lt_irrefl _)
  have D:Apart2 z TI TO i1 i2 t1 t2:=⟨nd,ti,trk q1,trk q2⟩
  have hT:s.TypeIs (.ref z) "zip":=⟨_,st.hz,rfl⟩
  unfold pyNext
  refine wpAny_bind (wpAny_attempt (wpAny_callSpecial?_slot (name:=Str.ofString "__next__") hT F.slot_zip_next
   (wpAny_call_entry F.slot_zip_next hT F.entry_zip_next (ahj D st p1 p2 (by simpa using m1) (by simpa using m2) fun h1 S1 T1 B1=>wpAny_pure ?_)
    (F.args_zip_next_1 _))))
  refine ⟨_,rfl,?_⟩
  refine wpAny_letOwnedTupleGo_zip (s:={ s with heap:=h1 }) S1.hz fun h2 z2' b2=>?_
  have nT:H s.heap.objs.size=none:=I.hok.fresh (Nat.le_refl _)
  have zlt:z < s.heap.objs.size:=Heap.lt_size st.hz
  have T2:IsPair h2 s.heap.objs.size u1 u2:=b2.extBut _ _ (Nat.ne_of_gt zlt) T1
  have B2:But [z,TO,i1,i2] s.heap h2:=B1.trans (But.of b2.extBut (by simp))
  have inF:∀ b ∈ [z,TO,i1,i2],b ∈ [z,TI,TO,i1,i2]:=fun b hb=>by
   simp only [List.mem_cons,List.not_mem_nil,or_false] at hb ⊢
   rcases hb with e | e | e | e <;> simp [e]
  have ntr:∀ b u,H b=some u->b ∉ [z,TO,i1,i2]:=fun b u e hb=>by
   have:=(hf b (inF b hb)).1
   rw [e] at this; cases this
  have neT:∀ b u,H b=some u->b ≠ s.heap.objs.size:=fun b u e q=>by rw [q,nT] at e; cases e
  have hok2:HOk X.prog X.w (upd H s.heap.objs.size (.tup [x,y])) h2:=fun b u e=>by
   by_cases hb:b=s.heap.objs.size
   ·subst hb
    rw [jq] at e
    cases e
    exact ⟨by show 2<=sizeLine; rw [sizeLine_eq]; decide,[u1,u2],.cons l1 (.cons l2 .nil),⟨_,T2,rfl,_,rfl⟩⟩
   ·rw [jm hb] at e
    refine (I.hok b u e).stay (fun c o hc' q=>B2 c o ?_ q) (fun c q=>by rw [jm (neT c _ q)]; exact q) fun c ws q=>by rw [jm (neT c _ q)]; exact q
    rcases hc' with q' | q'
    ·rw [q']; exact ntr b u e
    ·exact ntr c _ q'
  have I2:Inv X pins σ (upd H s.heap.objs.size (.tup [x,y])) { s with heap:=h2,toks:=s.toks }:=by
   refine I.step (g':=s.gens) (d':=s.drawn) (ch:=[z,TO,i1,i2]) (fun b hb=>?_) (fun b o _ _ hb e _=>B2 b o hb e) (fun b o _ _ hb e _=>⟨o.slots,B2 b o hb e⟩) (fun b o hb e n=>?_) (fun b o hb e=>⟨o,B2 b o hb e⟩)
    (fun b ws e=>by rw [jm (neT b _ e)]; exact e) (fun b ob ws e=>by rw [jm (neT b _ e)]; exact e) (fun b ps e=>⟨#[],by rw [jm (neT b _ e),e]; simp⟩) (fun m hm=>?_) hok2 I.bare
   ·obtain ⟨f0,f1,f2,f3,f4,f5⟩:=hf b (inF b hb)
    exact ⟨f3,f1,f4,f5⟩
   ·rw [jm (Nat.ne_of_lt (Heap.lt_size e))]; exact n
   ·obtain ⟨o,es,ep,ho,r⟩:=hm
    refine ⟨o,es,ep,B2 _ o (fun hb=>?_) ho,r⟩
    exact (hf _ (inF _ hb)).2.1 rfl
  refine ⟨.ref s.heap.objs.size,_,I2,rfl,⟨_,x,y,rfl,nT,rfl,fun as bs g1 g2=>?_⟩,?_,fun b hb=>?_⟩
  ·rw [Sq.inj I g1 q1,Sq.inj I g2 q2]
   exact ⟨ex,ey⟩
  ·obtain ⟨_,hTI,⟨a,b,hTO⟩,g1,g2⟩:=S1
   simp only [List.nodup_cons,List.mem_cons,List.not_mem_nil,or_false,not_or] at nd ti
   obtain ⟨⟨n1,n2,n3⟩,_⟩:=nd
   exact ⟨z2',b2.extBut _ _ ti.1 hTI,⟨a,b,b2.extBut _ _ (Ne.symm n1) hTO⟩,g1.extBut b2.extBut (Ne.symm n2),g2.extBut b2.extBut (Ne.symm n3)⟩
  ·obtain ⟨o,ho,_⟩:∃ o,s.heap.get? b=some o/\True:=by
    obtain ⟨hz,hTI,⟨a,b',hTO⟩,g1,g2⟩:=st
    obtain ⟨o1,v1,e1,d1⟩:=g1.obj
    obtain ⟨o2,v2,e2,d2⟩:=g2.obj
    simp only [List.mem_cons,List.not_mem_nil,or_false] at hb
    rcases hb with rfl | rfl | rfl | rfl | rfl
    ·exact ⟨_,hz,trivial⟩
    ·exact ⟨_,hTI,trivial⟩
    ·exact ⟨_,hTO,trivial⟩
    ·exact ⟨_,e1,trivial⟩
    ·exact ⟨_,e2,trivial⟩
   rw [jm (Nat.ne_of_lt (Heap.lt_size ho))]
   exact (hf b hb).1
 done:=by
  intro X hP hw hK hc i pins s σ H E I hf st hg
  subst hP hw hK
  obtain ⟨xs,ys,q1,q2,hl⟩:=hg
  obtain ⟨us1,r1,p1⟩:=q1.inv I
  obtain ⟨us2,r2,p2⟩:=q2.inv I
  have trk:∀ {g:Bool} {t:Addr} {ws:List V},Sq g X.K H t ws->t ∉ [z,TO,i1,i2]:=fun {g t ws} hq hb=>by
   have hb':t ∈ [z,TI,TO,i1,i2]:=by
    simp only [List.mem_cons,List.not_mem_nil,or_false] at hb ⊢
    rcases hb with e | e | e | e <;> simp [e]
   rcases hq.at with ⟨u,e⟩ | ⟨o,hk⟩
   ·have:=(hf t hb').1; rw [e] at this; cases this
   ·obtain ⟨f0,f1,f2,f3,f4,f5⟩:=hf t hb'
    have hbase:=I.mod.kin t o hk
    rcases f3 with q | q
    ·exact I.ok.noex t o hbase q
    ·exact absurd (Nat.lt_of_lt_of_le (Heap.lt_size hbase) (Nat.le_trans I.ok.bsz q)) (Nat.lt_irrefl _)
  have D:Apart2 z TI TO i1 i2 t1 t2:=⟨nd,ti,trk q1,trk q2⟩
  have hT:s.TypeIs (.ref z) "zip":=⟨_,st.hz,rfl⟩
  have hlen:=r1.length
  have hlen2:=r2.length
  unfold pyNext
  refine wpAny_bind (wpAny_attempt (wpAny_callSpecial?_slot (name:=Str.ofString "__next__") hT F.slot_zip_next
   (wpAny_call_entry F.slot_zip_next hT F.entry_zip_next (aiX (I.ok.hd hc) D st p1 p2 (hl.imp (fun h=>by simp; omega) fun h=>by simp; omega) fun h1 e B1 he=>?_)
    (F.args_zip_next_1 _))))
  obtain ⟨o,ho,hcl⟩:=he
  refine wpAny_bind (wpAny_isInstance (T:="StopIteration") (b:=true) ⟨o,ho,hcl⟩ isSubtype_stop ?_)
  refine wpAny_pure ⟨rfl,?_⟩
  have inF:∀ b ∈ [z,TO,i1,i2],b ∈ [z,TI,TO,i1,i2]:=fun b hb=>by
   simp only [List.mem_cons,List.not_mem_nil,or_false] at hb ⊢
   rcases hb with e | e | e | e <;> simp [e]
  have ntr:∀ b u,H b=some u->b ∉ [z,TO,i1,i2]:=fun b u e hb=>by
   have:=(hf b (inF b hb)).1
   rw [e] at this; cases this
  refine I.step (t':=s.toks) (g':=s.gens) (d':=s.drawn) (ch:=[z,TO,i1,i2]) (fun b hb=>?_) (fun b o _ _ hb e _=>B1 b o hb e) (fun b o _ _ hb e _=>⟨o.slots,B1 b o hb e⟩) (fun b o hb e n=>n) (fun b o hb e=>⟨o,B1 b o hb e⟩)
   (fun b ws e=>e) (fun b ob ws e=>e) (fun b ps e=>⟨#[],by rw [e]; simp⟩) (fun m hm=>?_) (fun b u e=>?_) I.bare
  ·obtain ⟨f0,f1,f2,f3,f4,f5⟩:=hf b (inF b hb)
   exact ⟨f3,f1,f4,f5⟩
  ·obtain ⟨o,es,ep,ho,r⟩:=hm
   refine ⟨o,es,ep,B1 _ o (fun hb=>?_) ho,r⟩
   exact (hf _ (inF _ hb)).2.1 rfl
  ·refine (I.hok b u e).stay (fun c o hc' q=>B1 c o ?_ q) (fun c q=>q) fun c ws q=>q
   rcases hc' with q' | q'
   ·rw [q']; exact ntr b u e
   ·exact ntr c _ q'
 self:=fun _ _ _ _ _ st h=>wpAny_pyIter_zip st.hz h
theorem acx (a b:Value):checkTypeCall "zip" ⟨[a,b],[]⟩=pure ():=by kernel_rfl
theorem adC (a b:Value):checkBuiltinCall "zip.__new__" ⟨[.type "zip",a,b],[]⟩=pure ():=by kernel_rfl
theorem afR (a b c:Value):argsOk "object.__init__" ⟨[a,b,c],[]⟩:=by
 unfold argsOk
 rw [signature?_of (id:="object.__init__") (n:=['_','_','t','i','n','i','_','_'])
  (o:=['t','c','e','j','b','o']) (by kernel_rfl) F.owner_object]
 kernel_rfl
noncomputable def itO (g:Bool) (t:Addr):Obj:=match g with
 | true=>{ cls:= .type "list_iterator",data:= .fields #[.ref t,.int 0 0] }
 | false=>{ cls:= .type "tuple_iterator",data:= .fields #[.ref t,.int 0 0] }
theorem agA {g:Bool}{prog:Program}{w:World}{A:Around}{E:Value->Shared->Prop}{s:Shared}{l:Addr}{items:Array Value}{Q:Value->Shared->Prop} (h:SrA g s.heap l items)
  (q:Q (.ref s.heap.objs.size) { s with heap:=s.heap.push (itO g l) }):wpAny (model prog w) A (pyIter (.ref l)) Q E s:=by
 cases g with
 | true=>exact wpAny_pyIter_list h q
 | false=>exact wpAny_pyIter_tuple h q
theorem aez (g:Bool) (t:Addr):(itO g t).isFreed=false:=by cases g <;> rfl
theorem aiY {g:Bool}{h:Heap}{i t:Addr} (e:h.get? i=some (itO g t)):ItA g h i t 0:=by
 cases g <;> exact ⟨_,e,rfl,rfl⟩
noncomputable abbrev qh1 (ga:Bool) (h:Heap) (a:Addr):Heap:=h.push (itO ga a)
noncomputable abbrev qh2 (ga gb:Bool) (h:Heap) (a b:Addr):Heap:=(qh1 ga h a).push (itO gb b)
noncomputable abbrev qh4 (ga gb:Bool) (h:Heap) (a b:Addr):Heap:=(qh2 ga gb h a b).push { cls:= .type "tuple",data:= .seq #[.ref h.objs.size,.ref (qh1 ga h a).objs.size] }
noncomputable abbrev qh5 (ga gb:Bool) (h:Heap) (a b:Addr):Heap:=(qh4 ga gb h a b).push { cls:= .type "tuple",data:= .seq #[.none,.none] }
noncomputable abbrev qh6 (ga gb:Bool) (h:Heap) (a b:Addr):Heap:=(qh5 ga gb h a b).push { cls:= .type "zip",data:= .fields #[.none,.bool false,.bool false,.ref (qh2 ga gb h a b).objs.size,.ref (qh4 ga gb h a b).objs.size] }
theorem aiZ (ga gb:Bool) (a b:Addr) (xs ys:Array Value):
  Meets (Builtin.«zip.__new__» ⟨[.type "zip",.ref a,.ref b],[]⟩) (fun _ R s=>SrA ga s.heap a xs/\SrA gb s.heap b ys/\
   R (.ok (.ret (.ref (qh5 ga gb s.heap a b).objs.size))) { s with heap:=qh6 ga gb s.heap a b }):=
 .of_wp fun prog w A R s h=>by
  obtain ⟨hp,g,d,tk,os⟩:=s
  obtain ⟨h1,h2,h⟩:=h
  have hsub:=sub_zip
  have k1:SrA ga (Shared.heap ⟨hp,g,d,tk,os⟩) a xs:=h1
  have k2:SrA gb (Shared.heap ⟨qh1 ga hp a,g,d,tk,os⟩) b ys:=h2.to fun o e=>Heap.get?_push_of_some _ e
  wp_walk using agA k1,agA k2
  exact ⟨_,rfl,h⟩
section
variable {X:Cx}
noncomputable def anR (K:PySem.W.Frag) (ta:TA):TI:=fun σ H R=>ta σ H fun vs H1=>∃ ga gb a b xs ys,vs=[.ref a,.ref b]/\Sq ga K H1 a xs/\Sq gb K H1 b ys/\R (Itq K ga gb a b) H1
theorem akQ {ea eb:Expr}{elts:List Expr}{x1:Nat}{tp:Pos}{ta:TA}{p pos:Pos} (hg:Gl X "zip") (hm:X.mg "zip"=none) (ha:PA X [ea,eb] ta)
  (hs:starEach [ea,eb] X.env=[(false,eval ea X.env),(false,eval eb X.env)]:=by rfl) (hs2:starEach [eb] X.env=[(false,eval eb X.env)]:=by rfl):
  PI X (.Tuple elts x1 tp) (.Call (.Name "zip" p) [ea,eb] [] pos) (anR X.K ta):=by
 intro pins s σ H R I h
 refine Call_ (JT I hg hm boot_zip (PyProof.Rows.callWith_type1 (thn (ha pos pins s σ H _ I h) fun us s1 ⟨vs,H1,I1,r1,q1⟩=>?_) (by rw [hs,hs2]) (by rw [hs2]; rfl)))
 obtain ⟨ga,gb,a,b,xs,ys,e,q1,q2,q⟩:=q1
 subst e
 cases r1 with
 | cons r1 rr=>
  cases rr with
  | cons r2 rr=>
   cases rr
   cases r1; cases r2
   obtain ⟨us1,v1,p1⟩:=q1.inv I1
   obtain ⟨us2,v2,p2⟩:=q2.inv I1
   refine callType_new F.called_zip (by decide) (acx _ _) (adC _ _) (fun obj=>afR obj _ _) F.entry_zip_new
    (aiZ ga gb a b us1.toArray us2.toArray) ⟨p1,p2,?_⟩
   have n1:(qh1 ga s1.heap a).objs.size=s1.heap.objs.size+1:=Heap.size_push ..
   have n2:(qh2 ga gb s1.heap a b).objs.size=s1.heap.objs.size+2:=by rw [Heap.size_push,n1]
   have n4:(qh4 ga gb s1.heap a b).objs.size=s1.heap.objs.size+3:=by rw [Heap.size_push,n2]
   have n5:(qh5 ga gb s1.heap a b).objs.size=s1.heap.objs.size+4:=by rw [Heap.size_push,n4]
   have g6:(qh6 ga gb s1.heap a b).get? (qh5 ga gb s1.heap a b).objs.size=some _:=Heap.get?_push_size _ rfl
   have g5:(qh6 ga gb s1.heap a b).get? (qh4 ga gb s1.heap a b).objs.size=some _:=Heap.get?_push_of_some _ (Heap.get?_push_size _ rfl)
   have g4:(qh6 ga gb s1.heap a b).get? (qh2 ga gb s1.heap a b).objs.size=some _:=Heap.get?_push_of_some _ (Heap.get?_push_of_some _ (Heap.get?_push_size _ rfl))
   have up3:∀ x o,(qh2 ga gb s1.heap a b).get? x=some o->(qh6 ga gb s1.heap a b).get? x=some o:=fun x o e=>Heap.get?_push_of_some _ (Heap.get?_push_of_some _ (Heap.get?_push_of_some _ e))
   have g2:(qh6 ga gb s1.heap a b).get? (qh1 ga s1.heap a).objs.size=some _:=up3 _ _ (Heap.get?_push_size _ (aez gb b))
   have g1:(qh6 ga gb s1.heap a b).get? s1.heap.objs.size=some _:=up3 _ _ (Heap.get?_push_of_some _ (Heap.get?_push_size _ (aez ga a)))
   have kp:∀ x o,s1.heap.get? x=some o->(qh6 ga gb s1.heap a b).get? x=some o:=fun x o e=>up3 _ _ (Heap.get?_push_of_some _ (Heap.get?_push_of_some _ e))
   show _/\_
   refine ⟨⟨_,g6,rfl⟩,?_⟩
   refine wpAny_pyIter_zip g6 ?_
   have I2:Inv X pins σ H1 { s1 with heap:=qh6 ga gb s1.heap a b }:=I1.kept (t':=s1.toks) kp
   refine ⟨_,[(qh5 ga gb s1.heap a b).objs.size,(qh2 ga gb s1.heap a b).objs.size,(qh4 ga gb s1.heap a b).objs.size,s1.heap.objs.size,(qh1 ga s1.heap a).objs.size],
    _,_,H1,rfl,I2,ahk (z:=(qh5 ga gb s1.heap a b).objs.size) (TI:=(qh2 ga gb s1.heap a b).objs.size) (TO:=(qh4 ga gb s1.heap a b).objs.size) (i1:=s1.heap.objs.size) (i2:=(qh1 ga s1.heap a).objs.size) (t1:=a) (t2:=b) ?_ ?_,
    ⟨g6,g4,⟨_,_,g5⟩,aiY g1,aiY g2⟩,fun x hx=>?_,q⟩
   ·rw [n5,n4,n1]
    simp [List.nodup_cons]
   ·rw [n2,n5,n4,n1]
    simp
   ·have hle:s1.heap.objs.size<=x:=by
     rw [n5,n2,n4,n1] at hx
     simp only [List.mem_cons,List.not_mem_nil,or_false] at hx
     rcases hx with e | e | e | e | e <;> rw [e] <;> first | exact Nat.le_refl _ | exact Nat.le_add_right _ _
    exact I1.fpOk hle (I1.hok.fresh hle)
noncomputable def aeA:PyData->Option (List PyData)
 | .tuple xs=>some xs
 | .list xs=>some xs
 | _=>none
noncomputable def qq:List PyData->List PyData->List PyData
 | x::xs,y::ys=> .tuple [x,y]::qq xs ys
 | _,_=>[]
noncomputable def aaL (ds:List PyData):Option (List PyData):=match ds with
 | [p,q]=>(aeA p).bind fun xs=>(aeA q).bind fun ys=>some (qq xs ys)
 | _=>none
theorem QO:∀ (xs ys:List PyData),(qq xs ys).length=min xs.length ys.length
 | [],_=>by simp [qq]
 | x::xs,[]=>by simp [qq]
 | x::xs,y::ys=>by simp [qq,QO xs ys,Nat.succ_min_succ]
theorem acS:∀ (xs ys:List PyData) (i:Nat) (d:PyData),(qq xs ys)[i]?=some d->∃ x y,xs[i]?=some x/\ys[i]?=some y/\d= .tuple [x,y]
 | [],_,i,d,h=>by simp [qq] at h
 | x::xs,[],i,d,h=>by simp [qq] at h
 | x::xs,y::ys,0,d,h=>by simp [qq] at h; exact ⟨x,y,rfl,rfl,h.symm⟩
 | x::xs,y::ys,i+1,d,h=>by
  obtain ⟨a,b,e1,e2,e4⟩:=acS xs ys i d (by simpa [qq] using h)
  exact ⟨a,b,by simpa using e1,by simpa using e2,e4⟩
theorem aeB {K:PySem.W.Frag}{H:Hp}{d:PyData}{v:V}{xs:List PyData} (h:aeA d=some xs) (r:Rep K H d v):∃ g a us,v= .ref a/\Sq g K H a us/\Reps K H xs us:=by
 cases d with
 | tuple ds=>cases h; obtain ⟨a,us,e,q,r⟩:=r; exact ⟨false,a,us,e,q,r⟩
 | list ds=>cases h; obtain ⟨a,us,e,q,r⟩:=r; exact ⟨true,a,us,e,SqL.of q,r⟩
 | _=>cases h
theorem JK {ea eb:Expr}{elts:List Expr}{x1:Nat}{tp:Pos}{p pos:Pos}{fr:Rho->Option (List PyData)} (hm:X.mg "zip"=none) (ha:PAD X [ea,eb] fr) (hg:Gl X "zip":=by rfl)
  (hs:starEach [ea,eb] X.env=[(false,eval ea X.env),(false,eval eb X.env)]:=by rfl) (hs2:starEach [eb] X.env=[(false,eval eb X.env)]:=by rfl):
  PID X (.Tuple elts x1 tp) (.Call (.Name "zip" p) [ea,eb] [] pos) (fun ρ=>(fr ρ).bind aaL):=by
 with_unfolding_all
  refine PI.imp (akQ hg hm ha hs hs2) fun σ H R ⟨ρ,ds,en,q,k⟩=>?_
  cases h1:fr ρ with
  | none=>simp [h1] at q
  | some as=>
   have q':aaL as=some ds:=by simpa [h1] using q
   refine ⟨ρ,as,en,h1,fun vs H1 s1 r1=>?_⟩
   unfold aaL at q'
   split at q'
   ·rename_i dp dq
    cases hp:aeA dp with
    | none=>simp [hp] at q'
    | some xs=>
     cases hq:aeA dq with
     | none=>simp [hp,hq] at q'
     | some ys=>
      simp only [hp,hq,zzD,Option.some.injEq] at q'
      subst q'
      obtain ⟨v1,w1,e1,rp,v2,w2,e2,rq,e4⟩:=r1
      cases (show w2=[] from e4)
      obtain ⟨ga,a,us1,ea',qa,ra⟩:=aeB hp rp
      obtain ⟨gb,b,us2,eb',qb,rb⟩:=aeB hq rq
      subst ea'; subst eb'; subst e2
      have l1:=ra.length
      have l2:=rb.length
      have lz:=QO xs ys
      refine ⟨ga,gb,a,b,us1,us2,e1,qa,qb,k _ H1 s1 fun i H2 s2=>⟨fun hi=>?_,fun hi=>?_,fun u H3 y=>?_⟩⟩
      ·rw [lz] at hi
       exact ⟨us1,us2,us1[i]'(by omega),us2[i]'(by omega),qa.monoE s2,qb.monoE s2,by simp <;> omega,by simp <;> omega⟩
      ·rw [lz] at hi
       exact ⟨us1,us2,qa.monoE s2,qb.monoE s2,by omega⟩
      ·obtain ⟨pp,x,y,e5,e6,e7,e8⟩:=y
       subst e5; subst e7
       refine ⟨jD e6,fun d hd=>?_⟩
       obtain ⟨dx,dy,g1,g2,g4⟩:=acS xs ys i d hd
       subst g4
       obtain ⟨f1,f2⟩:=e8 us1 us2 (qa.monoE s2) (qb.monoE s2)
       have m:=s2.trans (jn.e (jD (o:= .tup [x,y]) e6))
       obtain ⟨x',a1,a2⟩:=(Reps.monoE m _ _ ra).get g1
       obtain ⟨y',b1,b2⟩:=(Reps.monoE m _ _ rb).get g2
       rw [f1] at a1; cases a1
       rw [f2] at b1; cases b1
       exact ⟨pp,[x,y],rfl,SqT.of jq,x,_,rfl,a2,y,_,rfl,b2,rfl⟩
   ·cases q'
end
section
variable {X:Cx}{e a b c:Expr}{fa fb fc:Rho->Option PyData}{pos p2:Pos}
noncomputable def ahl (ds:List PyData):Option PyData:=match ds with
 | [.int i]=>some (.int (if i < 0 then -i else i))
 | _=>none
theorem adD:Qt X (.builtin "abs") ahl:=by
 refine ⟨_,aie,fun ds d xs H Q h r k=>?_⟩
 unfold ahl at h
 split at h
 ·cases h
  obtain ⟨x,q,e1,e2,e3⟩:=r
  cases (show q=[] from e3)
  cases (show x=_ from e2)
  exact ⟨_,e1,k _ H (jn.refl H) rfl⟩
 ·cases h
noncomputable def akR (p:PyData) (lo hi:Option Int):Option PyData:=match p with
 | .list ds=>some (.list (aaX ds lo hi))
 | _=>none
noncomputable def zJ (fa fb:Rho->Option PyData):Rho->Option PyData:=fun ρ=>(fa ρ).bind fun p=>(fb ρ).bind fun q=>(inI q).bind fun i=>akR p (some i) none
theorem J9 (ha:PD X a fa) (hb:PD X b fb):PD X (.Subscript a (.Slice (some b) none none p2) pos) (zJ fa fb):=by
 with_unfolding_all
  refine PE.imp (aes akk ha (adl hb) akg) fun σ H Q ⟨ρ,d,en,q,k⟩=>?_
  cases h1:fa ρ with
  | none=>simp [zJ,h1] at q
  | some y=>
   cases h2:fb ρ with
   | none=>simp [zJ,h1,h2] at q
   | some z=>
    cases h3:inI z with
    | none=>simp [zJ,h1,h2,h3] at q
    | some i=>
     have q':akR y (some i) none=some d:=by simpa [zJ,h1,h2,h3] using q
     have hz:=abK h3
     subst hz
     refine ⟨ρ,y,en,h1,fun v H1 s1 r1=>⟨ρ,_,en.mono s1,h2,fun u H2 s2 r2=>?_⟩⟩
     cases (show u=_ from r2)
     unfold akR at q'
     split at q'
     ·rename_i ds
      cases q'
      obtain ⟨l,xs,e1,e2,e3⟩:=Rep.mono s2 _ _ r1
      have hl:=e3.length
      refine ⟨i,rfl,l,xs,e1,SqL.of e2,fun p hp=>?_⟩
      have s3:=jD (o:= .lst (ZB xs (some i) none)) hp
      have rr:Reps X.K H2 (aaX ds (some i) none) (ZB xs (some i) none):=by
       unfold ZB aaX
       rw [hl]
       exact (e3.drop _).take _
      exact k _ _ (s1.trans (s2.trans s3)) ⟨p,_,rfl,jq,Reps.mono s3 _ _ rr⟩
     ·cases q'
noncomputable def ai0 (p q:PyData):Option PyData:=match p,q with
 | .list ds,.int k=>if ds.length < 1000/\-1000 < k/\k < 1000 then some (.list (List.replicate k.toNat ds).flatten) else none
 | _,_=>none
theorem JL:OpD X (binaryOp .Mult) ai0:=by
 refine ⟨_,aim,fun p q d x y H Q h rx ry k=>?_⟩
 unfold ai0 at h
 split at h
 ·rename_i ds n
  split at h
  ·rename_i hc
   cases h
   obtain ⟨l,us,e1,e2,e3⟩:=rx
   cases (show y=V.int n from ry)
   have hl:=e3.length
   refine ⟨l,n,us,e1,rfl,e2,by omega,by omega,?_,fun p hp=>?_⟩
   ·rw [sizeLine_eq]
    have h1:us.length*n.toNat<=1000*1000:=Nat.mul_le_mul (by omega) (by omega)
    exact Nat.le_trans h1 (by decide)
   ·have s1:=jD (o:= .lst (List.replicate n.toNat us).flatten) hp
    exact k _ _ s1 ⟨p,_,rfl,jq,Reps.mono s1 _ _ (e3.rep _)⟩
  ·cases h
 ·cases h
noncomputable def amy:V->List V->Hp->VK->Prop:=fun x vs H Q=>∃ (l:Addr) (is:List Int) (k:Int) (j:Nat),x= .ref l/\vs=[.int k]/\H l=some (.lst (is.map V.int))/\is.findIdx? (· == k)=some j/\Q (.int j) H
theorem JB:∀ {is:List Int}{us:List Value},jC (is.map V.int) us->∀ (j:Nat) (i:Int),is[j]?=some i->∃ t,us[j]?=some (.int i t)
 | [],us,r,j,i,h=>by simp at h
 | i0::is,u::us,.cons r rr,j,i,h=>by
  cases j with
  | zero=>cases h; obtain ⟨t,rfl⟩:=r; exact ⟨t,rfl⟩
  | succ j=>exact JB rr j i (by simpa using h)
noncomputable def isK (k:Int):Value->Bool
 | .int i _=>i == k
 | _=>false
theorem ai1:MtR X "list.index" amy:=by
 intro pins s σ H x vs v us Q I rx rv h
 obtain ⟨l,is,k,j,rfl,rfl,hH,hj,q⟩:=h
 cases rx
 obtain ⟨u,rfl,ru⟩:=jC.one rv
 obtain ⟨t,rfl⟩:=ru
 obtain ⟨z,its,n,r,hl,e⟩:=I.lstM hH
 have hlen:=r.length
 simp only [List.length_map] at hlen
 obtain ⟨hj1,hj2,hj3⟩:=List.findIdx?_eq_some_iff_getElem.mp hj
 have at':∀ (m:Nat) (hm:m < its.length),∃ t,its[m]= .int (is[m]'(by omega)) t:=fun m hm=>by
  obtain ⟨t,ht⟩:=JB r m (is[m]'(by omega)) (by simp <;> omega)
  exact ⟨t,by have:=List.getElem?_eq_getElem hm; rw [this] at ht; exact Option.some.inj ht⟩
 have hln:=aag
 refine call_meets F.slot_list_index ⟨_,e,rfl⟩ F.entry_list_index (F.args_list_index_2 _ _) (SeqAt.list_indexAt l its.toArray n none #[] (.int k t) (isK k) j (by simp; omega) ?_ ?_ ?_) ⟨e,?_,?_⟩
 ·omega
 ·obtain ⟨t',ht⟩:=at' j (by omega)
  rw [show its.toArray[j]=its[j] from rfl,ht]
  exact hj2
 ·intro m hm hmj
  obtain ⟨t',ht⟩:=at' m (by simpa using hm)
  rw [show its.toArray[m]=its[m]'(by simpa using hm) from rfl,ht]
  exact Bool.eq_false_iff.mpr (hj3 m hmj)
 ·intro y hy
  obtain ⟨m,hm,e2⟩:=List.getElem_of_mem (by simpa using hy)
  obtain ⟨t',ht⟩:=at' m hm
  rw [←e2,ht]
  exact SeqAt.EqAt.int_int _ _ _ _
 ·exact ⟨.int j,H,I.tok _,⟨_,rfl⟩,q⟩
noncomputable def adE:List PyData->Option (List Int)
 | []=>some []
 | .int i::r=>(adE r).map (i::·)
 | _=>none
theorem ai2 {K:PySem.W.Frag}{H:Hp}:∀ {ds:List PyData}{is:List Int}{xs:List V},adE ds=some is->Reps K H ds xs->xs=is.map V.int
 | [],is,xs,h,r=>by cases h; exact r
 | d::ds,is,xs,h,r=>by
  obtain ⟨x,ys,e1,e2,e3⟩:=r
  cases d with
  | int i=>
   simp only [adE,Option.map_eq_some_iff] at h
   obtain ⟨js,h1,h2⟩:=h
   subst h2
   cases (show x=_ from e2)
   rw [e1,ai2 h1 e3]; rfl
  | _=>simp [adE] at h
noncomputable def Qx (p q:PyData):Option PyData:=match p,q with
 | .list ds,.int k=>(adE ds).bind fun is=>(is.findIdx? (· == k)).map fun (j:Nat)=>PyData.int j
 | _,_=>none
theorem aeC {apos cpos:Pos} (ha:PD X a fa) (hb:PD X b fb) (hbase:attributeBase a "index" X.env (eval a X.env)=eval a X.env:=by rfl)
  (hfew:((backTo cpos (starEach [b] X.env)).all (fun x=>!x.1) && (backToKw cpos (keywordEach [] X.env)).all (fun x=>x.1.isSome) && decide ([b].length+([]:List Keyword).length+(if ([]:List Keyword).isEmpty then 0 else 1) < 30))=true:=by rfl)
  (hline:(apos.endLine == cpos.line)=true:=by rfl) (hs:starEach [b] X.env=(false,eval b X.env)::starEach [] X.env:=by rfl) (hplain:(backTo cpos (starEach [] X.env)).any (fun x=>x.1)=false:=by rfl):
  PD X (.Call (.Attribute a "index" apos) [b] [] cpos) (op2 Qx fa fb):=by
 with_unfolding_all
  refine PE.imp (acH PySem.F.plainAttrs_list PySem.F.slot_list_index PySem.F.type_list_index ai1 ha (qg hb qY hs) hbase hfew hline hs hplain) fun σ H Q ⟨ρ,d,en,h,k⟩=>?_
  cases h1:fa ρ with
  | none=>simp [op2,h1] at h
  | some p=>
   cases h2:fb ρ with
   | none=>simp [op2,h1,h2] at h
   | some q=>
    have h':Qx p q=some d:=by simpa [op2,h1,h2] using h
    unfold Qx at h'
    split at h'
    ·rename_i ds n
     cases h3:adE ds with
     | none=>simp [h3] at h'
     | some is=>
      cases h4:is.findIdx? (· == n) with
      | none=>simp [h3,h4] at h'
      | some j=>
       simp only [h3,h4,zzD,zzE,Option.some.injEq] at h'
       subst h'
       refine ⟨ρ,_,en,h1,fun v H1 s1 r1=>?_⟩
       obtain ⟨l,xs,e1,e2,e3⟩:=r1
       subst e1
       refine ⟨.inl ⟨rfl,xs,SqL.of e2⟩,ρ,_,en.mono s1,h2,fun y H2 s2 r2=>?_⟩
       cases (show y=V.int n from r2)
       refine ⟨l,is,n,j,rfl,rfl,?_,h4,k _ H2 (s1.trans s2) rfl⟩
       rw [←ai2 h3 e3]
       exact s2 _ _ e2
    ·cases h'
end
noncomputable def Qa (X:Cx) (y0:Str) (N':List Str) (sc:Scope) (cl:List (Str × Addr)) (C:Addr) (s0:Shared) (H0:Hp) (fp:List Addr) (pn:List (Addr × Obj)):Cx:=
 { blk X N' sc cl C s0 H0 fp pn with fn:=fun x=>x == y0 }
structure OneCell (sc:Scope) (y0:Str) (pre post:List (Str × NameKind)):Prop where
 split:sc.names=pre++(y0,.cell)::post
 pre:∀ x ∈ pre,x.2 ≠ .cell
 post:∀ x ∈ post,x.2 ≠ .cell
structure CompOk1 (X:Cx) (sc:Scope) (N':List Str) (cap:List (Option Nat)) (y0:Str):Prop where
 fr:∀ x ∈ sc.names,x.2= .free->X.env.kindOf x.1=some .cell ∨ X.env.kindOf x.1=some .free
 one:∃ pre post,OneCell sc y0 pre post
 lk:sc.names.lookup y0=some .cell
 kind:sc.kind= .function
 nm:∀ x ∈ sc.names,x.2= .local->sc.names.lookup x.1=some .local
 len:cap.length=N'.length
 cp:∀ (j i:Nat) (x:Str),N'[j]?=some x->cap[j]?=some (some i)->X.N[i]?=some x/\sc.names.lookup x=some .free
theorem ZK {sc:Scope}{en:Env}{x y0:Str}{k:NameKind} (h:(x,k) ∈ (relabel sc en).names) (hc:∃ pre post,OneCell sc y0 pre post) (hx:x ≠ y0) (hk:k= .cell ∨ k= .free):(x,NameKind.free) ∈ sc.names:=by
 obtain ⟨pre,post,o⟩:=hc
 obtain ⟨⟨n,j⟩,hm,e⟩:=List.mem_map.mp h
 by_cases q:(j == NameKind.free && en.scope.kind == .function && en.kindOf n == some .cell)=true
 ·have e1:(n,NameKind.cell)=(x,k):=by simpa only [q,zzM] using e
  cases e1
  have hj:j= .free:=by
   simp only [Bool.and_eq_true] at q
   simpa using q.1.1
  rw [←hj]; exact hm
 ·have e1:(n,j)=(x,k):=by simpa only [q,zzL,zzN] using e
  cases e1
  rcases hk with rfl | rfl
  ·rw [o.split] at hm
   rcases List.mem_append.mp hm with z | z
   ·exact absurd rfl (o.pre _ z)
   ·rcases List.mem_cons.mp z with z | z
    ·exact absurd (Prod.mk.inj z).1 hx
    ·exact absurd rfl (o.post _ z)
  ·exact hm
theorem akS {M:Model}{A:Around}{E:Value->Shared->Prop}{s:Shared}{scope:Scope}{globals:Addr}{cl:List (Str × Addr)}{qual y0:Str}{en:Env}{Q:Env->Shared->Prop} (hc:∃ pre post,OneCell scope y0 pre post)
  (h:∀ h',h'.Ns s.heap.objs.size (fun _=>none)->(∀ b o,s.heap.get? b=some o->h'.get? b=some o)->h'.IsCell (s.heap.objs.size+1) none->
   Q (newEnv scope s.heap.objs.size globals ((y0,s.heap.objs.size+1)::cl) qual none .none (some en) builtinsNs) { s with heap:=h',toks:=s.toks+([]:List (Str × Value)).length }):
  wpAny M A (newFunctionEnv scope globals cl [] qual none Value.none (some en)) Q E s:=by
 obtain ⟨pre,post,o⟩:=hc
 simp only [newFunctionEnv,Option.isSome_some,zzM]
 refine wpAny_bind (wpAny_alloc ?_)
 generalize hh1:s.heap.push { cls:= .type "dict",data:= .dict #[] }=h1
 have n1:h1.objs.size=s.heap.objs.size+1:=by rw [←hh1,Heap.size_push]
 refine wpAny_bind (wpAny_forIn_list _ (fun jT b s'=>(∃ pre',jT=pre'++(y0,.cell)::post/\(∀ x ∈ pre',x.2 ≠ .cell)/\b=cl/\s'={ s with heap:=h1 }) ∨
  ((∀ x ∈ jT,x.2 ≠ .cell)/\b=(y0,s.heap.objs.size+1)::cl/\s'={ s with heap:=h1.push { cls:= .type "cell",data:= .cell none } })) _ ?_ ?_ _ _ (.inl ⟨pre,o.split,o.pre,rfl,rfl⟩))
 ·rintro ⟨n,k⟩ jT b s' (⟨pre',e1,e2,rfl,rfl⟩ | ⟨e1,rfl,rfl⟩)
  ·cases pre' with
   | nil=>
    have e3:=(List.cons.inj e1)
    obtain ⟨e4,e5⟩:=Prod.mk.inj e3.1
    subst e4; subst e5
    simp only [beq_self_eq_true,zzM]
    refine wpAny_bind (wpAny_alloc (wpAny_pure (.inr ⟨?_,?_,rfl⟩)))
    ·rw [e3.2]; exact o.post
    ·rw [←n1]
   | cons p pre'=>
    have e3:=(List.cons.inj e1)
    have hk:(k == NameKind.cell)=false:=by
     have:=e2 p List.mem_cons_self
     rw [←e3.1] at this
     simpa using this
    simp only [hk,zzL,zzN]
    exact wpAny_pure (.inl ⟨pre',e3.2,fun x hx=>e2 x (List.mem_cons_of_mem _ hx),rfl,rfl⟩)
  ·have hk:(k == NameKind.cell)=false:=by
    have:=e1 (n,k) List.mem_cons_self
    simpa using this
   simp only [hk,zzL,zzN]
   exact wpAny_pure (.inr ⟨fun x hx=>e1 x (List.mem_cons_of_mem _ hx),rfl,rfl⟩)
 ·rintro b s' (⟨pre',e1,_⟩ | ⟨_,rfl,rfl⟩)
  ·exact absurd e1 (by simp)
  ·simp only [List.forIn_nil]
   refine wpAny_bind (wpAny_pure (wpAny_pure ?_))
   refine h _ ?_ (fun b o e=>Heap.get?_push_of_some _ (by rw [←hh1]; exact Heap.get?_push_of_some _ e)) ?_
   ·have:=(Heap.Ns.new s.heap (.type "dict"))
    rw [hh1] at this
    exact this.keeps fun b o e=>Heap.get?_push_of_some _ e
   ·exact ⟨_,by rw [←n1]; exact Heap.get?_push_size _ rfl,rfl⟩
theorem ai3 {X : Cx} {y0 : Str} {el tg src : Expr} {ts : List Expr} {sc : Scope} {ps : Pos} {wi : TI} {g : TG} {tt : TT} {te : TE} {N' : List Str} {cap : List (Option Nat)} (hc : X.calm = true) (hi : PI X tg src wi) (ok : CompOk1 X sc N' cap y0)
    (body : ∀ cl C s0 H0 fp pn, PG (Qa X y0 N' sc cl C s0 H0 fp pn) tg g /\ PTs (Qa X y0 N' sc cl C s0 H0 fp pn) ts tt /\ PE (Qa X y0 N' sc cl C s0 H0 fp pn) el te)
    (hs : ∀ x, foldedSetIterable src X.env x = pure x := by intro _; rfl) : PE X (.ListComp el [⟨tg, src, ts, 0⟩] sc ps) (ago wi cap g tt te) := by
  intro pins s σ H Q I h
  have hfr : ∀ x ∈ sc.names, x.2 = .free -> ∃ c, X.env.cells.lookup x.1 = some c := fun x hx e => I.ok.has x.1 (ok.fr x hx e)
  have hcl := aa1 sc X.env hfr
  have clm : ∀ x c, (zF X.env sc.names []).lookup x = some c -> X.env.cells.lookup x = some c := fun x c e =>
    JC X.env sc.names [] hfr (fun _ z => nomatch z) (x, c) (PySem.mem_of_lookup e)
  generalize hgl : zF X.env sc.names [] = cl at hcl clm
  rw [eval_ListComp]
  refine wpAny_comprehension_free (use := none) rfl hs hcl ok.kind ok.nm ?_
  refine thn (hi pins s σ H _ I h) fun v s1 h1 => thn h1 fun itv s2 h2 => ?_
  obtain ⟨it, fp, tn, J, H2, e, I2, T, st2, f2, W, ⟨m0, w0⟩, turn⟩ := h2
  subst e
  refine wpAny_newObj_type (akS ok.one (fun h4 hns hsb hcell => ?_))
  dsimp only at hns hsb hcell ⊢
  generalize hH3 : s2.heap.push { cls := .type "list", dict := none, data := .seq ([] : List Value).toArray } = h3 at hns hsb hcell ⊢
  have hC : h3.objs.size = s2.heap.objs.size + 1 := by rw [← hH3, Heap.size_push]
  generalize hCC : h3.objs.size = C at hns hsb hcell hC ⊢
  generalize hDD : s2.heap.objs.size = D at hC ⊢
  have hDC : D ≠ C := by rw [hC]; exact Nat.ne_of_lt (Nat.lt_succ_self _)
  have old : ∀ b o, s2.heap.get? b = some o -> h4.get? b = some o := fun b o e => hsb b o (hH3 ▸ Heap.get?_push_of_some _ e)
  have accO : h4.get? D = some { cls := .type "list", data := .seq ([] : List Value).toArray 0 } := hsb _ _ (by rw [← hH3, ← hDD]; exact Heap.get?_push_size _ rfl)
  have H2D : H2 D = none := I2.hok.fresh (by rw [hDD]; exact Nat.le_refl _)
  have H2C : H2 C = none := I2.hok.fresh (by rw [hDD, hC]; exact Nat.le_succ _)
  have hDC1 : D < C + 1 := by rw [hC]; exact Nat.lt_succ_of_lt (Nat.lt_succ_self _)
  have H2c : H2 (C + 1) = none := I2.hok.fresh (by rw [hDD]; exact Nat.le_of_lt hDC1)
  have cellsLt : ∀ x c, X.env.cells.lookup x = some c -> c < D := fun x c e => by
    obtain ⟨v, q⟩ := I2.cell x c e
    rw [← hDD]; exact q.lt
  have clm' : ∀ x c, ((y0, C + 1) :: cl).lookup x = some c -> (x ≠ y0 /\ X.env.cells.lookup x = some c /\ cl.lookup x = some c) ∨ (x = y0 /\ c = C + 1) := fun x c e => by
    by_cases hx : x = y0
    · subst hx; simp at e; exact .inr ⟨rfl, e.symm⟩
    · have hb : (x == y0) = false := by simpa using hx
      rw [List.lookup_cons, hb] at e
      exact .inl ⟨hx, clm x c e, e⟩
  have clne : ∀ (b : Addr), b <= D -> (∀ x c, X.env.cells.lookup x = some c -> c ≠ b) -> ∀ x c, ((y0, C + 1) :: cl).lookup x = some c -> c ≠ b := fun b hb hn x c e => by
    rcases clm' x c e with ⟨_, z, _⟩ | ⟨_, z⟩
    · exact hn x c z
    · rw [z]; exact Nat.ne_of_gt (Nat.lt_of_le_of_lt hb hDC1)
  have pinLt : ∀ p ∈ X.pn ++ pins, p.1 < D := fun p hp => by rw [← hDD]; exact Heap.lt_size (I2.pin p hp).1
  have stkLt : ∀ b ∈ frs X.stack, b < D := fun b hb => by
    obtain ⟨_, o, ho, _⟩ := I2.stack.mem hb
    rw [← hDD]; exact Heap.lt_size ho
  have fpLt : ∀ b ∈ fp, b < D := fun b hb => by
    obtain ⟨o, ho, _⟩ := T.obj _ _ st2 b hb
    rw [← hDD]; exact Heap.lt_size ho
  have ltC : ∀ {b : Addr}, b < D -> b ≠ C := fun hb => by rw [hC]; exact Nat.ne_of_lt (Nat.lt_succ_of_lt hb)
  have locLt : X.env.locals < D := by rw [← hDD]; exact I2.lt
  have hDge : s2.heap.objs.size <= D := by rw [hDD]; exact Nat.le_refl _
  have hCge : s2.heap.objs.size <= C := by rw [hDD, hC]; exact Nat.le_succ _
  have bok : (Qa X y0 N' sc ((y0, C + 1) :: cl) C s2 H2 fp (X.pn ++ pins)).Ok := by
    refine ⟨I2.ok.mod, ok.kind, I2.ok.glob, I2.ok.blt, hCge, fun x y c e1 e2 => ?_, fun x hx => ?_, fun x c z e => ?_, I2.ok.hd, I2.ok.frames, .inl rfl, fun b hb => ?_, I2.bs, Nat.le_trans I2.ok.bsz I2.sz, fun b o e hb => ?_, fun b hb z => ?_, I2.stack, I2.stkFree⟩
    · rcases clm' x c e1 with ⟨_, z, _⟩ | ⟨z1, z2⟩ <;> rcases clm' y c e2 with ⟨_, w, _⟩ | ⟨w1, w2⟩
      · exact I2.ok.inj x y c z w
      · have := cellsLt x c z; rw [w2] at this; exact absurd this (Nat.not_lt_of_gt hDC1)
      · have := cellsLt y c w; rw [z2] at this; exact absurd this (Nat.not_lt_of_gt hDC1)
      · rw [z1, w1]
    · have hx' : (relabel sc X.env).names.lookup x = some .cell ∨ (relabel sc X.env).names.lookup x = some .free := hx
      by_cases hy : x = y0
      · subst hy; exact ⟨C + 1, by show ((x, C + 1) :: cl).lookup x = some (C + 1); simp⟩
      have hyb : (x == y0) = false := by simpa using hy
      have hm : (x, NameKind.free) ∈ sc.names := by
        rcases hx' with z | z
        · exact ZK (PySem.mem_of_lookup z) ok.one hy (.inl rfl)
        · exact ZK (PySem.mem_of_lookup z) ok.one hy (.inr rfl)
      obtain ⟨c, hc⟩ := qE X.env sc.names [] x hm
      rw [hgl] at hc
      obtain ⟨d, hd⟩ := j2 hc
      exact ⟨d, by show ((y0, C + 1) :: cl).lookup x = some d; rw [List.lookup_cons, hyb]; exact hd⟩
    · have hy : x = y0 := by simpa using (show (x == y0) = true from z)
      rcases clm' x c e with ⟨q, _⟩ | ⟨_, q⟩
      · exact absurd hy q
      · rw [q]; exact Nat.le_trans hDge (Nat.le_of_lt hDC1)
    · exact ⟨ltC (fpLt b hb), fun x c e => clne b (Nat.le_of_lt (fpLt b hb)) (f2 b hb).2.2.2.2.1 x c e⟩
    · rcases (f2 b hb).2.2.2.1 with z | z
      · exact I2.ok.noex b o e z
      · have := Heap.lt_size e
        exact absurd (Nat.lt_of_lt_of_le this (Nat.le_trans I2.ok.bsz z)) (Nat.lt_irrefl _)
    · rcases List.mem_cons.mp (I2.stkSub b z) with q | q
      · exact (f2 b hb).2.1 q
      · exact (f2 b hb).2.2.1 q
  have pinB : ∀ p ∈ X.pn ++ pins, p.1 ≠ C /\ p.1 ∉ frs X.stack := fun p hp => ⟨ltC (pinLt p hp), fun z => by
    rcases List.mem_cons.mp (I2.stkSub p.1 z) with q | q
    · exact (I2.pin p hp).2.2.1 q
    · exact (I2.pin p hp).2.2.2.1 q⟩
  have I4 : Inv (Qa X y0 N' sc ((y0, C + 1) :: cl) C s2 H2 fp (X.pn ++ pins)) [] (Js cap σ) H2 { s2 with heap := h4, toks := s2.toks + ([] : List (Str × Value)).length } := by
    refine ⟨bok, rfl, I2.bare, Un.kept old, ⟨_, hns, fun j x v e1 e2 e3 => ?_⟩, fun x c e => ?_, H2C, fun x c e => ?_, fun p hp => ?_, I2.hok.kept old, ?_⟩
    · unfold Js at e2
      rw [List.getElem?_map] at e2
      cases e4 : cap[j]? with
      | none => rw [e4] at e2; cases e2
      | some o =>
        rw [e4] at e2
        cases o with
        | none => cases e2
        | some i =>
          obtain ⟨hNi, hf⟩ := ok.cp j i x e1 e4
          have e5 : (σ[i]?).join = some v := by
            have := Option.some.inj e2
            simpa using this
          have e6 : σ[i]? = some (some v) := by
            cases e7 : σ[i]? with
            | none => rw [e7] at e5; cases e5
            | some z => rw [e7] at e5; cases z with
              | none => cases e5
              | some z => cases e5; rfl
          have hk := ok.fr (x, .free) (PySem.mem_of_lookup hf) rfl
          obtain ⟨m, hn, hl⟩ := I2.loc
          have hv : Vis X.env.scope x := by
            rcases hk with z | z
            · exact .inr (.inl z)
            · exact .inr (.inr z)
          obtain ⟨u, r, lk⟩ := hl i x v hNi e6 hv
          have cellX : ∃ c, X.env.cells.lookup x = some c /\ s2.heap.IsCell c (some u) := by
            rcases lk with ⟨k1, _⟩ | ⟨_, c, e, z⟩
            · rcases hk with z | z
              · have z' : X.env.kindOf x = some .cell := z
                rw [k1] at z'; cases z'
              · have z' : X.env.kindOf x = some .free := z
                rw [k1] at z'; cases z'
            · exact ⟨c, e, z⟩
          obtain ⟨c, hc1, ob, hc2, hc3⟩ := cellX
          obtain ⟨c', hc'⟩ := qE X.env sc.names [] x (PySem.mem_of_lookup hf)
          rw [hgl] at hc'
          obtain ⟨d, hd⟩ := j2 hc'
          have ed : d = c := by
            have := clm x d hd
            rw [hc1] at this; cases this; rfl
          subst ed
          have hxy : x ≠ y0 := fun z => by subst z; rw [ok.lk] at hf; cases hf
          have hxb : (x == y0) = false := by simpa using hxy
          refine ⟨u, r, .inr ⟨?_, d, (by show ((y0, C + 1) :: cl).lookup x = some d; rw [List.lookup_cons, hxb]; exact hd), ob, old _ _ hc2, hc3⟩⟩
          exact qZ hf
    · rcases clm' x c e with ⟨_, z, _⟩ | ⟨_, z⟩
      · obtain ⟨v, ob, ho, hd⟩ := I2.cell x c z
        exact ⟨v, ob, old _ _ ho, hd⟩
      · subst z; exact ⟨none, hcell⟩
    · rcases clm' x c e with ⟨_, z, _⟩ | ⟨_, z⟩
      · exact I2.freeC x c z
      · subst z; exact H2c
    · have hp' : p ∈ X.pn ++ pins := by simpa [Qa, blk] using hp
      obtain ⟨e1, e2, e3, e4, e5⟩ := I2.pin p hp'
      exact ⟨old _ _ e1, e2, (pinB p hp').1, (pinB p hp').2, e5⟩
    · show (Js cap σ).length = N'.length
      unfold Js
      rw [List.length_map]; exact ok.len
  have fpB : ∀ {H' : Hp} {pl : List (Addr × Obj)}, (∀ b ∈ fp, H' b = none) -> (∀ p ∈ pl, p.1 ∉ fp) -> ∀ b ∈ fp, abn (Qa X y0 N' sc ((y0, C + 1) :: cl) C s2 H2 fp (X.pn ++ pins)) pl H' b := fun {H' pl} hn hpl b hb =>
    ⟨hn b hb, ltC (fpLt b hb), bok.exfs b hb, .inl hb, fun x c e => clne b (Nat.le_of_lt (fpLt b hb)) (f2 b hb).2.2.2.2.1 x c e, fun p hp z => by
      rcases List.mem_append.mp (show p ∈ (X.pn ++ pins) ++ pl from hp) with q | q
      · exact (f2 b hb).2.2.2.2.2 p q z
      · exact hpl p q (by rw [z]; exact hb)⟩
  have Dfp : ∀ (o : Obj), ∀ p ∈ [(D, o)], p.1 ∉ fp := fun o p hp z => by
    have e : p = (D, o) := by simpa using hp
    subst e
    exact Nat.lt_irrefl _ (fpLt D z)
  have Dfs : D ∉ frs X.stack := fun z => Nat.lt_irrefl _ (stkLt D z)
  obtain ⟨bG, bT, bE⟩ := body ((y0, C + 1) :: cl) C s2 H2 fp (X.pn ++ pins)
  have loop : codeAny (model X.prog X.w) X.A (.compLoop (.ListComp el [⟨tg, src, ts, 0⟩] sc ps) 0 (.ref it) (.ref D) (compEnvC sc ((y0, C + 1) :: cl) C X.env)) (compPost (model X.prog X.w) X.A X.xe none (EP X pins σ Q) (.ref D) C)
      { s2 with heap := h4, toks := s2.toks + ([] : List (Str × Value)).length } := by
    refine aai (fun n s' => ∃ i τ ys us k H', Inv (Qa X y0 N' sc ((y0, C + 1) :: cl) C s2 H2 fp (X.pn ++ pins)) [] τ H' s' /\ tn i s'.heap /\ (∀ b ∈ fp, H' b = none) /\ jC ys us /\ s'.heap.get? D = some { cls := .type "list", data := .seq us.toArray k } /\ H' D = none /\ W i n τ ys H') ?_ m0
      ⟨0, _, [], [], 0, H2, I4, T.keep _ _ _ st2 (fun b _ o e => old b o e), fun b hb => (f2 b hb).1, .nil, accO, H2D, w0⟩
    rintro n s5 ⟨i, τ, ys, us, k, H5, I5, st5, fr5, rv5, ho5, hD5, w5⟩
    obtain ⟨hsz, alt⟩ := turn i n τ ys H5 w5
    have I5p : Inv (Qa X y0 N' sc ((y0, C + 1) :: cl) C s2 H2 fp (X.pn ++ pins)) [(D, { cls := .type "list", data := .seq us.toArray k })] τ H5 s5 := I5.pins_of fun p hp => by
      have e : p = (D, { cls := .type "list", data := .seq us.toArray k }) := by simpa using hp
      subst e
      exact ⟨ho5, hD5, hDC, Dfs, fun v z => by cases z⟩
    rcases alt with ⟨stop, fin⟩ | ⟨go, step⟩
    · refine thn (T.done (Qa X y0 N' sc ((y0, C + 1) :: cl) C s2 H2 fp (X.pn ++ pins)) rfl rfl rfl hc i _ s5 τ H5 NoX I5p (fpB fr5 (Dfp _)) st5 stop) fun r s6 ⟨hr, I6⟩ => ?_
      subst hr
      have ho6 := (I6.pin (D, _) (List.mem_append_right _ (List.mem_singleton.mpr rfl))).1
      obtain ⟨m6, hn6, _⟩ := I6.loc
      refine ⟨m6, hn6, fun h7 hs7 => ?_⟩
      have J6 : Inv X pins σ H5 s6 := I2.call' (ch := fp) I6.os I6.base I6.hok I6.bare fun b hb => ⟨(f2 b hb).2.2.2.1, (f2 b hb).2.1, (f2 b hb).2.2.2.2.1, (f2 b hb).2.2.2.2.2⟩
      have H5C : H5 C = none := I6.free
      have cne : ∀ {b : Addr}, b < D -> b ≠ C := ltC
      have J7 : Inv X pins σ H5 { s6 with heap := h7, toks := s6.toks } := J6.turned (it := C) (fun b o hb e => hs7.extBut b o hb e) H5C (Ne.symm (ltC locLt)) (.inr (Nat.le_trans I2.sz hCge)) (fun x c e => ltC (cellsLt x c e)) (fun p hp => ltC (pinLt p hp))
      have ho7 : h7.get? D = some { cls := .type "list", data := .seq us.toArray k } := hs7.extBut D _ hDC ho6
      refine ⟨.ref D, upd H5 D (.lst ys), ?_, rfl, fin D hD5⟩
      exact Inv.track J7 hD5 (Nat.le_trans I2.sz hDge) (Ne.symm (Nat.ne_of_lt locLt)) (fun x c e => Nat.ne_of_lt (cellsLt x c e)) (fun p hp => Nat.ne_of_lt (pinLt p hp)) ⟨Nat.le_of_lt hsz, us, k, rv5, ho7⟩
    · refine thn (T.item (Qa X y0 N' sc ((y0, C + 1) :: cl) C s2 H2 fp (X.pn ++ pins)) rfl rfl rfl hc i _ s5 τ H5 NoX I5p (fpB fr5 (Dfp _)) st5 go) fun r s6 ⟨u, hr, h6⟩ => ?_
      subst hr
      refine thn h6 fun _ s7 ⟨x, H7, I7, r7, y7, st7, fr7⟩ => ?_
      have I7p := I7.pinned (fpB fr7 (Dfp _)) (T.obj _ _ st7)
      refine thn (bG _ s7 τ H7 x u _ I7p r7 (step x H7 y7)) fun _ s8 ⟨τ8, H8, I8, q8⟩ => ?_
      have back : ∀ {τ9 : St} {H9 : Hp} {s9 : Shared}, Inv (Qa X y0 N' sc ((y0, C + 1) :: cl) C s2 H2 fp (X.pn ++ pins)) ([(D, { cls := .type "list", data := .seq us.toArray k })] ++ Qq fp s7.heap) τ9 H9 s9 ->
          tn (i + 1) s9.heap /\ (∀ b ∈ fp, H9 b = none) /\ s9.heap.get? D = some { cls := .type "list", data := .seq us.toArray k } /\ H9 D = none := fun {τ9 H9 s9} I9 => by
        have pD := I9.pin (D, { cls := .type "list", data := .seq us.toArray k }) (List.mem_append_right _ (List.mem_append_left _ (List.mem_singleton.mpr rfl)))
        refine ⟨T.keep _ _ _ st7 fun b hb o e => (I9.pin (b, o) (List.mem_append_right _ (List.mem_append_right _ (qk hb e)))).1, fun b hb => ?_, pD.1, pD.2.1⟩
        obtain ⟨o, e, _⟩ := T.obj _ _ st7 b hb
        exact (I9.pin (b, o) (List.mem_append_right _ (List.mem_append_right _ (qk hb e)))).2.1
      have drop : ∀ {τ9 : St} {H9 : Hp} {s9 : Shared} {pl : List (Addr × Obj)}, Inv (Qa X y0 N' sc ((y0, C + 1) :: cl) C s2 H2 fp (X.pn ++ pins)) pl τ9 H9 s9 -> Inv (Qa X y0 N' sc ((y0, C + 1) :: cl) C s2 H2 fp (X.pn ++ pins)) [] τ9 H9 s9 := fun I9 => I9.pins_of fun p hp => nomatch hp
      refine thn (bT _ s8 τ8 H8 _ I8 q8) fun b s9 ⟨H9, I9, q9⟩ => ?_
      cases b with
      | false =>
        rw [if_neg Bool.false_ne_true] at q9 ⊢
        obtain ⟨m', hm, w9⟩ := q9
        obtain ⟨t9, f9, o9, d9⟩ := back I9
        exact ⟨m', hm, i + 1, τ8, ys, us, k, H9, drop I9, t9, f9, rv5, o9, d9, w9⟩
      | true =>
        rw [if_pos rfl] at q9 ⊢
        refine thn (bE _ s9 τ8 H9 _ I9 q9) fun y s10 ⟨z, H10, I10, r10, q10⟩ => ?_
        obtain ⟨m', hm, w10⟩ := q10
        obtain ⟨t10, f10, o10, d10⟩ := back I10
        have hl := rv5.length
        refine append_at (hsz := by show us.toArray.size <= sizeLine; rw [List.size_toArray, ← hl]; exact Nat.le_of_lt hsz) o10 fun h11 hs11 hD11 => ?_
        have I11 : Inv (Qa X y0 N' sc ((y0, C + 1) :: cl) C s2 H2 fp (X.pn ++ pins)) [] τ8 H10 { s10 with heap := h11, toks := s10.toks } := (drop I10).turned (it := D) (fun b o hb e => hs11.extBut b o hb e) d10 hDC (.inr hDge) (clne D (Nat.le_refl _) fun x c z => Nat.ne_of_lt (cellsLt x c z))
          (fun p hp => by have hp' : p ∈ X.pn ++ pins := by simpa [Qa, blk] using hp
                          exact Nat.ne_of_lt (pinLt p hp'))
        refine ⟨m', hm, i + 1, τ8, ys ++ [z], us ++ [y], k + 1, H10, I11, T.keep _ _ _ t10 (fun b hb o e => hs11.extBut b o (Nat.ne_of_lt (fpLt b hb)) e), f10, rv5.append (.cons r10 .nil), ?_, d10, w10⟩
        rw [hD11]
        simp
  refine codeAny_compStart_list loop ?_
  exact T.self _ 0 _ _ _ (T.keep _ _ _ st2 (fun b _ o e => old b o e)) loop
theorem ai4 {X:Cx}{tg src:Expr}{y0:Str}{el:Expr}{ts:List Expr}{sc:Scope}{ps:Pos}{fi:Rho->Option (List PyData)}{ga:PyData->Rho->Option Rho}{ft:Rho->Option Bool}{fe:Rho->Option PyData} (N':List Str) (cap:List (Option Nat)) (hc:X.calm=true) (hi:PID X tg src fi) (ok:CompOk1 X sc N' cap y0)
  (body:∀ cl C s0 H0 fp pn,PGD (Qa X y0 N' sc cl C s0 H0 fp pn) tg ga/\ag5 (Qa X y0 N' sc cl C s0 H0 fp pn) ts ft/\PD (Qa X y0 N' sc cl C s0 H0 fp pn) el fe)
  (hs:∀ x,foldedSetIterable src X.env x=pure x:=by intro _; rfl):PD X (.ListComp el [⟨tg,src,ts,0⟩] sc ps) (jZ fi cap ga ft fe):=by
 with_unfolding_all
  refine PE.imp (ai3 (g:=tDG X.K ga) (tt:=tDT X.K ft) (te:=tD X.K fe) hc hi ok (fun cl C s0 H0 fp pn=>body cl C s0 H0 fp pn) hs) fun σ H Q ⟨ρ,d,en,q,k⟩=>?_
  cases h1:fi ρ with
  | none=>simp [jZ,h1] at q
  | some ds=>
   by_cases hf:few ds=true
   ·cases h2:jF ga ft fe ds (zC cap ρ) with
    | none=>simp [jZ,h1,hf,h2] at q
    | some ys=>
     have:PyData.list ys=d:=by simpa [jZ,h1,hf,h2] using q
     subst this
     refine ⟨ρ,ds,en,h1,fun J H1 s1 Y=>?_⟩
     refine ⟨fun i m τ us H2=>m=ds.length - i/\i<=ds.length/\jn H1 H2/\us.length<=i/\∃ ρ2 zs ws,EnvR X.K H2 ρ2 τ/\Reps X.K H2 zs us/\jF ga ft fe (ds.drop i) ρ2=some ws/\ys=zs++ws,
      ⟨ds.length,by simp,Nat.zero_le _,jn.refl _,Nat.le_refl _,zC cap ρ,[],ys,(en.mono s1).cap cap,rfl,by simpa using h2,rfl⟩,?_⟩
     rintro i m τ us H2 ⟨rfl,hi',s2,hu,ρ2,zs,ws,en2,r2,q2,ey⟩
     have hsm:us.length < sizeLine:=Nat.lt_of_le_of_lt (Nat.le_trans hu hi') (Nat.lt_of_lt_of_le (by simpa [few] using hf) (by rw [sizeLine_eq]; decide:1000000<=sizeLine))
     obtain ⟨g1,g2,g3⟩:=Y i H2 (jn.e s2)
     refine ⟨hsm,?_⟩
     by_cases hlt:i < ds.length
     ·right
      have hd:ds.drop i=ds[i]::ds.drop (i+1):=List.drop_eq_getElem_cons hlt
      rw [hd] at q2
      refine ⟨g1 hlt,fun x H3 y=>?_⟩
      obtain ⟨s3,r3⟩:=g3 x H3 y
      have r3':=r3 ds[i] (by simp [hlt])
      cases h4:ga ds[i] ρ2 with
      | none=>simp [jF,h4] at q2
      | some ρ4=>
       refine ⟨ρ2,ds[i],ρ4,en2.mono s3,r3',h4,fun σ5 H5 s5 en5=>?_⟩
       cases h5:ft ρ4 with
       | none=>simp [jF,h4,h5] at q2
       | some b=>
        refine ⟨ρ4,b,en5,h5,fun H6 s6=>?_⟩
        have s26:=s3.trans (s5.trans s6)
        cases b with
        | false=>
         refine ako ?_
         exact ⟨ds.length - (i+1),by omega,rfl,hlt,s2.trans s26,by omega,ρ4,zs,ws,en5.mono s6,Reps.mono s26 _ _ r2,by simpa [jF,h4,h5] using q2,ey⟩
        | true=>
         refine akp ?_
         cases h6:fe ρ4 with
         | none=>simp [jF,h4,h5,h6] at q2
         | some y=>
          cases h7:jF ga ft fe (ds.drop (i+1)) ρ4 with
          | none=>simp [jF,h4,h5,h6,h7] at q2
          | some ws'=>
           have hw:y::ws'=ws:=by simpa [jF,h4,h5,h6,h7] using q2
           refine ⟨ρ4,y,en5.mono s6,h6,fun v H7 s7 r7=>?_⟩
           refine ⟨ds.length - (i+1),by omega,rfl,hlt,s2.trans (s26.trans s7),by rw [List.length_append]; simp; omega,ρ4,zs++[y],ws',(en5.mono s6).mono s7,(Reps.mono (s26.trans s7) _ _ r2).append ⟨v,[],rfl,r7,rfl⟩,h7,?_⟩
           rw [ey,←hw]; simp
     ·left
      have he:i=ds.length:=by omega
      have hn:ds.drop i=[]:=by rw [he]; simp
      rw [hn] at q2
      have hw:[]=ws:=by simpa [jF] using q2
      subst hw
      have ey':ys=zs:=by simpa using ey
      subst ey'
      exact ⟨g2 (by omega),fun l hl=>k _ _ (s1.trans (s2.trans (jD hl))) ⟨l,us,rfl,jq,Reps.mono (jD hl) _ _ r2⟩⟩
   ·simp [jZ,h1,hf] at q
noncomputable def aeD (st:Scope) (N:List Str) (sc:Scope) (N':List Str) (cap:List (Option Nat)) (y0:Str) (pre post:List (Str × NameKind)):Bool:=
 sc.names.all (fun x=>!decide (x.2= .free) || decide (st.names.lookup x.1=some .cell) || decide (st.names.lookup x.1=some .free)) && decide (sc.names=pre++(y0,.cell)::post) && pre.all (fun x=>!decide (x.2= .cell)) && post.all (fun x=>!decide (x.2= .cell)) && decide (sc.kind= .function) &&
 sc.names.all (fun x=>!decide (x.2= .local) || decide (sc.names.lookup x.1=some .local)) && decide (cap.length=N'.length) && decide (sc.names.lookup y0=some .cell) &&
 (List.range N'.length).all (fun j=>match N'[j]?,cap[j]? with
  | some x,some (some i)=>decide (N[i]?=some x) && decide (sc.names.lookup x=some .free)
  | _,_=>true)
theorem ai5 {X:Cx}{sc:Scope}{N':List Str}{cap:List (Option Nat)}{y0:Str} (pre post:List (Str × NameKind)) (st:Scope) (N:List Str) (h:aeD st N sc N' cap y0 pre post=true) (hst:X.env.scope=st:=by rfl) (hN:X.N=N:=by rfl):CompOk1 X sc N' cap y0:=by
 simp only [aeD,Bool.and_eq_true,List.all_eq_true,Bool.or_eq_true,Bool.not_eq_true',decide_eq_true_eq,decide_eq_false_iff_not] at h
 obtain ⟨⟨⟨⟨⟨⟨⟨⟨h1,h2⟩,h2a⟩,h2b⟩,h3⟩,h4⟩,h5⟩,h7⟩,h6⟩:=h
 subst hst; subst hN
 refine ⟨fun x hx e=>?_,⟨pre,post,h2,h2a,h2b⟩,h7,h3,fun x hx e=>?_,h5,fun j i x e1 e2=>?_⟩
 ·rcases h1 x hx with (z | z) | z
  ·exact absurd e z
  ·exact .inl z
  ·exact .inr z
 ·rcases h4 x hx with z | z
  ·exact absurd e z
  ·exact z
 ·have hj:j < N'.length:=(List.getElem?_eq_some_iff.mp e1).1
  have:=h6 j (List.mem_range.mpr hj)
  rw [e1,e2] at this
  simpa using this
section
variable {X:Cx}{e:Expr}{fa:Rho->Option PyData}
noncomputable def ai6 (f:Rho->Option PyData):Rho->Option Bool:=fun ρ=>(f ρ).bind fun d=>match d with
 | .list ds=>some (!ds.isEmpty)
 | _=>none
theorem akT (h:PD X e fa) (he:∀ whole,isTrue e X.env whole=(do let v ←whole; standAt e.pos; holding [v] (truthy v)):=by intro _; rfl):PTD X e (ai6 fa):=by
 with_unfolding_all
  refine PT.imp (aid h he) fun σ H Q ⟨ρ,t,e,h,k⟩=>?_
  cases hd:fa ρ with
  | none=>simp [ai6,hd] at h
  | some d=>
   cases d with
   | list ds=>
    have ht:(!ds.isEmpty)=t:=by simpa [ai6,hd] using h
    subst ht
    refine ⟨ρ,_,e,hd,fun v H' s r=>?_⟩
    obtain ⟨p,xs,h1,h2,h3⟩:=r
    subst h1
    refine ⟨!ds.isEmpty,.inl ⟨xs,SqL.of h2,?_⟩,k H' s⟩
    cases ds with
    | nil=>cases (show xs=[] from h3); rfl
    | cons d ds=>obtain ⟨x,w,rfl,_⟩:=h3; rfl
   | _=>simp [ai6,hd] at h
end
theorem akU {X : Cx} {i0 : Nat} {x0 : Str} {pos0 pos1 : Pos} {el tg src : Expr} {ts : List Expr} {sc : Scope} {ps : Pos} {wi : TI} {g : TG} {tt : TT} {te : TE} {N' : List Str} {cap : List (Option Nat)} (hc : X.calm = true) (hi : PI X tg src wi) (ok : CompOk X sc N' cap)
    (body : ∀ cl C s0 H0 fp pn, PG (blk X N' sc cl C s0 H0 fp pn) tg g /\ PTs (blk X N' sc cl C s0 H0 fp pn) ts tt /\ PE (blk X N' sc cl C s0 H0 fp pn) el te)
    (hN : X.N.Nodup) (hi0 : X.N[i0]? = some x0) (hx0 : Loc X.env.scope x0) (hsw : swapsWith (.ListComp el [⟨tg, src, ts, 0⟩] sc ps) (some (.Name x0 pos0)) pos1.line X.env = pure true)
    (hf0 : X.fn x0 = true ∨ X.env.scope.names.lookup x0 = some .local)
    (hs : ∀ x, foldedSetIterable src X.env x = pure x := by intro _; rfl) : PS X (.Assign [.Name x0 pos0] (.ListComp el [⟨tg, src, ts, 0⟩] sc ps) pos1) (anf (ago wi cap g tt te) (ah6 i0)) := by
  intro pins s σ H Dn I h
  have hfr : ∀ x ∈ sc.names, x.2 = .free -> ∃ c, X.env.cells.lookup x.1 = some c := fun x hx e => I.ok.has x.1 (ok.fr x hx e)
  have hcl := aa1 sc X.env hfr
  have clm : ∀ x c, (zF X.env sc.names []).lookup x = some c -> X.env.cells.lookup x = some c := fun x c e =>
    JC X.env sc.names [] hfr (fun _ z => nomatch z) (x, c) (PySem.mem_of_lookup e)
  generalize hgl : zF X.env sc.names [] = cl at hcl clm
  rw [exec_Assign_Name_used _ _ _ _ hsw]
  refine wpAny_bind (wpAny_standAt (wpAny_bind ?_))
  show wpAny _ X.A (do let _ ← comprehension (.ListComp el [⟨tg, src, ts, 0⟩] sc ps) sc X.env _ (newList []) false (eval src X.env) (some (assign (.Name x0 pos0) X.env))) _ _ s
  refine wpAny_bind (wpAny_mono (wpAny_comprehension_free (use := some (assign (.Name x0 pos0) X.env)) (Q := fun _ s' => SP X pins Dn .next s') rfl hs hcl ok.kind ok.nm ?_) (fun _ s' hq => wpAny_pure (wpAny_pure hq)) fun _ _ e => e)
  refine thn (hi pins s σ H _ I h) fun v s1 h1 => thn h1 fun itv s2 h2 => ?_
  obtain ⟨it, fp, tn, J, H2, e, I2, T, st2, f2, W, ⟨m0, w0⟩, turn⟩ := h2
  subst e
  refine wpAny_newObj_type (wpAny_newFunctionEnv ok.nc (by intro y hy; simp at hy) (fun h4 hns hsb => ?_) ok.kind)
  dsimp only at hns hsb ⊢
  generalize hH3 : s2.heap.push { cls := .type "list", dict := none, data := .seq ([] : List Value).toArray } = h3 at hns hsb ⊢
  have hC : h3.objs.size = s2.heap.objs.size + 1 := by rw [← hH3, Heap.size_push]
  generalize hCC : h3.objs.size = C at hns hsb hC ⊢
  generalize hDD : s2.heap.objs.size = D at hC ⊢
  have hDC : D ≠ C := by rw [hC]; exact Nat.ne_of_lt (Nat.lt_succ_self _)
  have old : ∀ b o, s2.heap.get? b = some o -> h4.get? b = some o := fun b o e => hsb.extBut b o (by have := Heap.lt_size e; rw [hDD] at this; rw [hC]; exact Nat.ne_of_lt (Nat.lt_succ_of_lt this)) (Heap.get?_push_of_some _ (hH3 ▸ Heap.get?_push_of_some _ e))
  have accO : h4.get? D = some { cls := .type "list", data := .seq ([] : List Value).toArray 0 } := hsb.extBut _ _ hDC (Heap.get?_push_of_some _ (by rw [← hH3, ← hDD]; exact Heap.get?_push_size _ rfl))
  have H2D : H2 D = none := I2.hok.fresh (by rw [hDD]; exact Nat.le_refl _)
  have H2C : H2 C = none := I2.hok.fresh (by rw [hDD, hC]; exact Nat.le_succ _)
  have cellsLt : ∀ x c, X.env.cells.lookup x = some c -> c < D := fun x c e => by
    obtain ⟨v, q⟩ := I2.cell x c e
    rw [← hDD]; exact q.lt
  have pinLt : ∀ p ∈ X.pn ++ pins, p.1 < D := fun p hp => by rw [← hDD]; exact Heap.lt_size (I2.pin p hp).1
  have stkLt : ∀ b ∈ frs X.stack, b < D := fun b hb => by
    obtain ⟨_, o, ho, _⟩ := I2.stack.mem hb
    rw [← hDD]; exact Heap.lt_size ho
  have fpLt : ∀ b ∈ fp, b < D := fun b hb => by
    obtain ⟨o, ho, _⟩ := T.obj _ _ st2 b hb
    rw [← hDD]; exact Heap.lt_size ho
  have ltC : ∀ {b : Addr}, b < D -> b ≠ C := fun hb => by rw [hC]; exact Nat.ne_of_lt (Nat.lt_succ_of_lt hb)
  have locLt : X.env.locals < D := by rw [← hDD]; exact I2.lt
  have hDge : s2.heap.objs.size <= D := by rw [hDD]; exact Nat.le_refl _
  have hCge : s2.heap.objs.size <= C := by rw [hDD, hC]; exact Nat.le_succ _
  have bok : (blk X N' sc cl C s2 H2 fp (X.pn ++ pins)).Ok := by
    refine ⟨I2.ok.mod, ok.kind, I2.ok.glob, I2.ok.blt, hCge, fun x y c e1 e2 => I2.ok.inj x y c (clm x c e1) (clm y c e2), fun x hx => ?_, fun x c z _ => ?_, I2.ok.hd, I2.ok.frames, .inl rfl, fun b hb => ?_, I2.bs, Nat.le_trans I2.ok.bsz I2.sz, fun b o e hb => ?_, fun b hb z => ?_, I2.stack, I2.stkFree⟩
    · have hx' : (relabel sc X.env).names.lookup x = some .cell ∨ (relabel sc X.env).names.lookup x = some .free := hx
      have hm : (x, NameKind.free) ∈ sc.names := by
        rcases hx' with z | z
        · exact qU (PySem.mem_of_lookup z) ok.nc (.inl rfl)
        · exact qU (PySem.mem_of_lookup z) ok.nc (.inr rfl)
      obtain ⟨c, hc⟩ := qE X.env sc.names [] x hm
      rw [hgl] at hc
      exact j2 hc
    · exact absurd (show false = true from z) Bool.false_ne_true
    · exact ⟨ltC (fpLt b hb), fun x c e => (f2 b hb).2.2.2.2.1 x c (clm x c e)⟩
    · rcases (f2 b hb).2.2.2.1 with z | z
      · exact I2.ok.noex b o e z
      · have := Heap.lt_size e
        exact absurd (Nat.lt_of_lt_of_le this (Nat.le_trans I2.ok.bsz z)) (Nat.lt_irrefl _)
    · rcases List.mem_cons.mp (I2.stkSub b z) with q | q
      · exact (f2 b hb).2.1 q
      · exact (f2 b hb).2.2.1 q
  have pinB : ∀ p ∈ X.pn ++ pins, p.1 ≠ C /\ p.1 ∉ frs X.stack := fun p hp => ⟨ltC (pinLt p hp), fun z => by
    rcases List.mem_cons.mp (I2.stkSub p.1 z) with q | q
    · exact (I2.pin p hp).2.2.1 q
    · exact (I2.pin p hp).2.2.2.1 q⟩
  have I4 : Inv (blk X N' sc cl C s2 H2 fp (X.pn ++ pins)) [] (Js cap σ) H2 { s2 with heap := h4, toks := s2.toks + ([] : List (Str × Value)).length } := by
    refine ⟨bok, rfl, I2.bare, Un.kept old, ⟨_, hns, fun j x v e1 e2 e3 => ?_⟩, fun x c e => ?_, H2C, fun x c e => I2.freeC x c (clm x c e), fun p hp => ?_, I2.hok.kept old, ?_⟩
    · unfold Js at e2
      rw [List.getElem?_map] at e2
      cases e4 : cap[j]? with
      | none => rw [e4] at e2; cases e2
      | some o =>
        rw [e4] at e2
        cases o with
        | none => cases e2
        | some i =>
          obtain ⟨hNi, hf⟩ := ok.cp j i x e1 e4
          have e5 : (σ[i]?).join = some v := by
            have := Option.some.inj e2
            simpa using this
          have e6 : σ[i]? = some (some v) := by
            cases e7 : σ[i]? with
            | none => rw [e7] at e5; cases e5
            | some z => rw [e7] at e5; cases z with
              | none => cases e5
              | some z => cases e5; rfl
          have hk := ok.fr (x, .free) (PySem.mem_of_lookup hf) rfl
          obtain ⟨m, hn, hl⟩ := I2.loc
          have hv : Vis X.env.scope x := by
            rcases hk with z | z
            · exact .inr (.inl z)
            · exact .inr (.inr z)
          obtain ⟨u, r, lk⟩ := hl i x v hNi e6 hv
          have cellX : ∃ c, X.env.cells.lookup x = some c /\ s2.heap.IsCell c (some u) := by
            rcases lk with ⟨k1, _⟩ | ⟨_, c, e, z⟩
            · rcases hk with z | z
              · have z' : X.env.kindOf x = some .cell := z
                rw [k1] at z'; cases z'
              · have z' : X.env.kindOf x = some .free := z
                rw [k1] at z'; cases z'
            · exact ⟨c, e, z⟩
          obtain ⟨c, hc1, ob, hc2, hc3⟩ := cellX
          obtain ⟨c', hc'⟩ := qE X.env sc.names [] x (PySem.mem_of_lookup hf)
          rw [hgl] at hc'
          obtain ⟨d, hd⟩ := j2 hc'
          have ed : d = c := by
            have := clm x d hd
            rw [hc1] at this; cases this; rfl
          subst ed
          refine ⟨u, r, .inr ⟨?_, d, hd, ob, old _ _ hc2, hc3⟩⟩
          exact qZ hf
    · obtain ⟨v, ob, ho, hd⟩ := I2.cell x c (clm x c e)
      exact ⟨v, ob, old _ _ ho, hd⟩
    · have hp' : p ∈ X.pn ++ pins := by simpa [blk] using hp
      obtain ⟨e1, e2, e3, e4, e5⟩ := I2.pin p hp'
      exact ⟨old _ _ e1, e2, (pinB p hp').1, (pinB p hp').2, e5⟩
    · show (Js cap σ).length = N'.length
      unfold Js
      rw [List.length_map]; exact ok.len
  have fpB : ∀ {H' : Hp} {pl : List (Addr × Obj)}, (∀ b ∈ fp, H' b = none) -> (∀ p ∈ pl, p.1 ∉ fp) -> ∀ b ∈ fp, abn (blk X N' sc cl C s2 H2 fp (X.pn ++ pins)) pl H' b := fun {H' pl} hn hpl b hb =>
    ⟨hn b hb, ltC (fpLt b hb), bok.exfs b hb, .inl hb, fun x c e => (f2 b hb).2.2.2.2.1 x c (clm x c e), fun p hp z => by
      rcases List.mem_append.mp (show p ∈ (X.pn ++ pins) ++ pl from hp) with q | q
      · exact (f2 b hb).2.2.2.2.2 p q z
      · exact hpl p q (by rw [z]; exact hb)⟩
  have Dfp : ∀ (o : Obj), ∀ p ∈ [(D, o)], p.1 ∉ fp := fun o p hp z => by
    have e : p = (D, o) := by simpa using hp
    subst e
    exact Nat.lt_irrefl _ (fpLt D z)
  have Dfs : D ∉ frs X.stack := fun z => Nat.lt_irrefl _ (stkLt D z)
  obtain ⟨bG, bT, bE⟩ := body cl C s2 H2 fp (X.pn ++ pins)
  have loop : codeAny (model X.prog X.w) X.A (.compLoop (.ListComp el [⟨tg, src, ts, 0⟩] sc ps) 0 (.ref it) (.ref D) (compEnvC sc cl C X.env)) (compPost (model X.prog X.w) X.A X.xe (some (assign (.Name x0 pos0) X.env)) (fun _ s' => SP X pins Dn .next s') (.ref D) C)
      { s2 with heap := h4, toks := s2.toks + ([] : List (Str × Value)).length } := by
    refine aai (fun n s' => ∃ i τ ys us k H', Inv (blk X N' sc cl C s2 H2 fp (X.pn ++ pins)) [] τ H' s' /\ tn i s'.heap /\ (∀ b ∈ fp, H' b = none) /\ jC ys us /\ s'.heap.get? D = some { cls := .type "list", data := .seq us.toArray k } /\ H' D = none /\ W i n τ ys H') ?_ m0
      ⟨0, _, [], [], 0, H2, I4, T.keep _ _ _ st2 (fun b _ o e => old b o e), fun b hb => (f2 b hb).1, .nil, accO, H2D, w0⟩
    rintro n s5 ⟨i, τ, ys, us, k, H5, I5, st5, fr5, rv5, ho5, hD5, w5⟩
    obtain ⟨hsz, alt⟩ := turn i n τ ys H5 w5
    have I5p : Inv (blk X N' sc cl C s2 H2 fp (X.pn ++ pins)) [(D, { cls := .type "list", data := .seq us.toArray k })] τ H5 s5 := I5.pins_of fun p hp => by
      have e : p = (D, { cls := .type "list", data := .seq us.toArray k }) := by simpa using hp
      subst e
      exact ⟨ho5, hD5, hDC, Dfs, fun v z => by cases z⟩
    rcases alt with ⟨stop, fin⟩ | ⟨go, step⟩
    · refine thn (T.done (blk X N' sc cl C s2 H2 fp (X.pn ++ pins)) rfl rfl rfl hc i _ s5 τ H5 NoX I5p (fpB fr5 (Dfp _)) st5 stop) fun r s6 ⟨hr, I6⟩ => ?_
      subst hr
      have ho6 := (I6.pin (D, _) (List.mem_append_right _ (List.mem_singleton.mpr rfl))).1
      obtain ⟨m6, hn6, _⟩ := I6.loc
      have J6 : Inv X pins σ H5 s6 := I2.call' (ch := fp) I6.os I6.base I6.hok I6.bare fun b hb => ⟨(f2 b hb).2.2.2.1, (f2 b hb).2.1, (f2 b hb).2.2.2.2.1, (f2 b hb).2.2.2.2.2⟩
      have H5C : H5 C = none := I6.free
      have J7 : Inv X pins σ (upd H5 D (.lst ys)) s6 := Inv.track J6 hD5 (Nat.le_trans I2.sz hDge) (Ne.symm (Nat.ne_of_lt locLt)) (fun x c e => Nat.ne_of_lt (cellsLt x c e)) (fun p hp => Nat.ne_of_lt (pinLt p hp)) ⟨Nat.le_of_lt hsz, us, k, rv5, ho6⟩
      refine wpAny_assign_Name (acB J7 hN hi0 hx0 (show jQ (.ref D) (.ref D) from rfl) (fun s8 I8 ⟨a, sb, ha⟩ => ?_) hf0)
      have aC : C ≠ a := by
        rcases ha with z | z
        · rw [z]; exact Ne.symm (ltC locLt)
        · exact Ne.symm (ltC (cellsLt _ _ z))
      refine ⟨m6, hn6.sameBut sb aC, fun h7 hs7 => ?_⟩
      have J8 : Inv X pins (σ.set i0 (some (.ref D))) (upd H5 D (.lst ys)) { s8 with heap := h7, toks := s8.toks } := I8.turned (it := C) (fun b o hb e => hs7.extBut b o hb e) (by rw [jm (Ne.symm hDC)]; exact H5C) (Ne.symm (ltC locLt)) (.inr (Nat.le_trans I2.sz hCge)) (fun x c e => ltC (cellsLt x c e)) (fun p hp => ltC (pinLt p hp))
      exact ⟨_, _, J8, fin D hD5⟩
    · refine thn (T.item (blk X N' sc cl C s2 H2 fp (X.pn ++ pins)) rfl rfl rfl hc i _ s5 τ H5 NoX I5p (fpB fr5 (Dfp _)) st5 go) fun r s6 ⟨u, hr, h6⟩ => ?_
      subst hr
      refine thn h6 fun _ s7 ⟨x, H7, I7, r7, y7, st7, fr7⟩ => ?_
      have I7p := I7.pinned (fpB fr7 (Dfp _)) (T.obj _ _ st7)
      refine thn (bG _ s7 τ H7 x u _ I7p r7 (step x H7 y7)) fun _ s8 ⟨τ8, H8, I8, q8⟩ => ?_
      have back : ∀ {τ9 : St} {H9 : Hp} {s9 : Shared}, Inv (blk X N' sc cl C s2 H2 fp (X.pn ++ pins)) ([(D, { cls := .type "list", data := .seq us.toArray k })] ++ Qq fp s7.heap) τ9 H9 s9 ->
          tn (i + 1) s9.heap /\ (∀ b ∈ fp, H9 b = none) /\ s9.heap.get? D = some { cls := .type "list", data := .seq us.toArray k } /\ H9 D = none := fun {τ9 H9 s9} I9 => by
        have pD := I9.pin (D, { cls := .type "list", data := .seq us.toArray k }) (List.mem_append_right _ (List.mem_append_left _ (List.mem_singleton.mpr rfl)))
        refine ⟨T.keep _ _ _ st7 fun b hb o e => (I9.pin (b, o) (List.mem_append_right _ (List.mem_append_right _ (qk hb e)))).1, fun b hb => ?_, pD.1, pD.2.1⟩
        obtain ⟨o, e, _⟩ := T.obj _ _ st7 b hb
        exact (I9.pin (b, o) (List.mem_append_right _ (List.mem_append_right _ (qk hb e)))).2.1
      have drop : ∀ {τ9 : St} {H9 : Hp} {s9 : Shared} {pl : List (Addr × Obj)}, Inv (blk X N' sc cl C s2 H2 fp (X.pn ++ pins)) pl τ9 H9 s9 -> Inv (blk X N' sc cl C s2 H2 fp (X.pn ++ pins)) [] τ9 H9 s9 := fun I9 => I9.pins_of fun p hp => nomatch hp
      refine thn (bT _ s8 τ8 H8 _ I8 q8) fun b s9 ⟨H9, I9, q9⟩ => ?_
      cases b with
      | false =>
        rw [if_neg Bool.false_ne_true] at q9 ⊢
        obtain ⟨m', hm, w9⟩ := q9
        obtain ⟨t9, f9, o9, d9⟩ := back I9
        exact ⟨m', hm, i + 1, τ8, ys, us, k, H9, drop I9, t9, f9, rv5, o9, d9, w9⟩
      | true =>
        rw [if_pos rfl] at q9 ⊢
        refine thn (bE _ s9 τ8 H9 _ I9 q9) fun y s10 ⟨z, H10, I10, r10, q10⟩ => ?_
        obtain ⟨m', hm, w10⟩ := q10
        obtain ⟨t10, f10, o10, d10⟩ := back I10
        have hl := rv5.length
        refine append_at (hsz := by show us.toArray.size <= sizeLine; rw [List.size_toArray, ← hl]; exact Nat.le_of_lt hsz) o10 fun h11 hs11 hD11 => ?_
        have I11 : Inv (blk X N' sc cl C s2 H2 fp (X.pn ++ pins)) [] τ8 H10 { s10 with heap := h11, toks := s10.toks } := (drop I10).turned (it := D) (fun b o hb e => hs11.extBut b o hb e) d10 hDC (.inr hDge) (fun x c e => Nat.ne_of_lt (cellsLt x c (clm x c e)))
          (fun p hp => by have hp' : p ∈ X.pn ++ pins := by simpa [blk] using hp
                          exact Nat.ne_of_lt (pinLt p hp'))
        refine ⟨m', hm, i + 1, τ8, ys ++ [z], us ++ [y], k + 1, H10, I11, T.keep _ _ _ t10 (fun b hb o e => hs11.extBut b o (Nat.ne_of_lt (fpLt b hb)) e), f10, rv5.append (.cons r10 .nil), ?_, d10, w10⟩
        rw [hD11]
        simp
  refine codeAny_compStart_list loop ?_
  exact T.self _ 0 _ _ _ (T.keep _ _ _ st2 (fun b _ o e => old b o e)) loop
theorem ai7 {K:PySem.W.Frag}{fi:Rho->Option (List PyData)}{cap:List (Option Nat)}{ga:PyData->Rho->Option Rho}{ft:Rho->Option Bool}{fe:Rho->Option PyData}{σ:St}{H:Hp}{Q:VK} (h:tD K (jZ fi cap ga ft fe) σ H Q):
  ago (tDI K fi) cap (tDG K ga) (tDT K ft) (tD K fe) σ H Q:=by
 obtain ⟨ρ,d,en,q,k⟩:=h
 cases h1:fi ρ with
 | none=>simp [jZ,h1] at q
 | some ds=>
  by_cases hf:few ds=true
  ·cases h2:jF ga ft fe ds (zC cap ρ) with
   | none=>simp [jZ,h1,hf,h2] at q
   | some ys=>
    have:PyData.list ys=d:=by simpa [jZ,h1,hf,h2] using q
    subst this
    refine ⟨ρ,ds,en,h1,fun J H1 s1 Y=>?_⟩
    refine ⟨fun i m τ us H2=>m=ds.length - i/\i<=ds.length/\jn H1 H2/\us.length<=i/\∃ ρ2 zs ws,EnvR K H2 ρ2 τ/\Reps K H2 zs us/\jF ga ft fe (ds.drop i) ρ2=some ws/\ys=zs++ws,
     ⟨ds.length,by simp,Nat.zero_le _,jn.refl _,Nat.le_refl _,zC cap ρ,[],ys,(en.mono s1).cap cap,rfl,by simpa using h2,rfl⟩,?_⟩
    rintro i m τ us H2 ⟨rfl,hi',s2,hu,ρ2,zs,ws,en2,r2,q2,ey⟩
    have hsm:us.length < sizeLine:=Nat.lt_of_le_of_lt (Nat.le_trans hu hi') (Nat.lt_of_lt_of_le (by simpa [few] using hf) (by rw [sizeLine_eq]; decide:1000000<=sizeLine))
    obtain ⟨g1,g2,g3⟩:=Y i H2 (jn.e s2)
    refine ⟨hsm,?_⟩
    by_cases hlt:i < ds.length
    ·right
     have hd:ds.drop i=ds[i]::ds.drop (i+1):=List.drop_eq_getElem_cons hlt
     rw [hd] at q2
     refine ⟨g1 hlt,fun x H3 y=>?_⟩
     obtain ⟨s3,r3⟩:=g3 x H3 y
     have r3':=r3 ds[i] (by simp [hlt])
     cases h4:ga ds[i] ρ2 with
     | none=>simp [jF,h4] at q2
     | some ρ4=>
      refine ⟨ρ2,ds[i],ρ4,en2.mono s3,r3',h4,fun σ5 H5 s5 en5=>?_⟩
      cases h5:ft ρ4 with
      | none=>simp [jF,h4,h5] at q2
      | some b=>
       refine ⟨ρ4,b,en5,h5,fun H6 s6=>?_⟩
       have s26:=s3.trans (s5.trans s6)
       cases b with
       | false=>
        refine ako ?_
        exact ⟨ds.length - (i+1),by omega,rfl,hlt,s2.trans s26,by omega,ρ4,zs,ws,en5.mono s6,Reps.mono s26 _ _ r2,by simpa [jF,h4,h5] using q2,ey⟩
       | true=>
        refine akp ?_
        cases h6:fe ρ4 with
        | none=>simp [jF,h4,h5,h6] at q2
        | some y=>
         cases h7:jF ga ft fe (ds.drop (i+1)) ρ4 with
         | none=>simp [jF,h4,h5,h6,h7] at q2
         | some ws'=>
          have hw:y::ws'=ws:=by simpa [jF,h4,h5,h6,h7] using q2
          refine ⟨ρ4,y,en5.mono s6,h6,fun v H7 s7 r7=>?_⟩
          refine ⟨ds.length - (i+1),by omega,rfl,hlt,s2.trans (s26.trans s7),by rw [List.length_append]; simp; omega,ρ4,zs++[y],ws',(en5.mono s6).mono s7,(Reps.mono (s26.trans s7) _ _ r2).append ⟨v,[],rfl,r7,rfl⟩,h7,?_⟩
          rw [ey,←hw]; simp
    ·left
     have he:i=ds.length:=by omega
     have hn:ds.drop i=[]:=by rw [he]; simp
     rw [hn] at q2
     have hw:[]=ws:=by simpa [jF] using q2
     subst hw
     have ey':ys=zs:=by simpa using ey
     subst ey'
     exact ⟨g2 (by omega),fun l hl=>k _ _ (s1.trans (s2.trans (jD hl))) ⟨l,us,rfl,jq,Reps.mono (jD hl) _ _ r2⟩⟩
  ·simp [jZ,h1,hf] at q
section
variable {X:Cx}{tg src:Expr}{pos pos':Pos}
theorem ZL (i:Nat) {x:Str}{el:Expr}{ts:List Expr}{sc:Scope}{ps:Pos}{fi:Rho->Option (List PyData)}{ga:PyData->Rho->Option Rho}{ft:Rho->Option Bool}{fe:Rho->Option PyData} (N':List Str) (cap:List (Option Nat)) (hc:X.calm=true) (hN:X.N.Nodup) (hi:PID X tg src fi) (ok:CompOk X sc N' cap)
  (body:∀ cl C s0 H0 fp pn,PGD (blk X N' sc cl C s0 H0 fp pn) tg ga/\ag5 (blk X N' sc cl C s0 H0 fp pn) ts ft/\PD (blk X N' sc cl C s0 H0 fp pn) el fe)
  (hi0:X.N[i]?=some x:=by rfl) (hx:Loc X.env.scope x:=by first | exact Or.inl rfl | exact Or.inr rfl) (hsw:swapsWith (.ListComp el [⟨tg,src,ts,0⟩] sc ps) (some (.Name x pos')) pos.line X.env=pure true:=by rfl)
  (hf:X.fn x=true ∨ X.env.scope.names.lookup x=some .local:=by first | exact .inl rfl | exact .inr rfl | assumption)
  (hs:∀ x,foldedSetIterable src X.env x=pure x:=by intro _; rfl):PSD X (.Assign [.Name x pos'] (.ListComp el [⟨tg,src,ts,0⟩] sc ps) pos) (qS (jZ fi cap ga ft fe) (jH i)):=by
 with_unfolding_all
  refine PS.imp (akU (g:=tDG X.K ga) (tt:=tDT X.K ft) (te:=tD X.K fe) hc hi ok (fun cl C s0 H0 fp pn=>body cl C s0 H0 fp pn) hN hi0 hx hsw hf hs) fun D σ H ⟨ρ,o,en,q,k⟩=>ai7 ?_
  cases h1:jZ fi cap ga ft fe ρ with
  | none=>simp [qS,h1] at q
  | some d=>
   have:Out.nx (ρ.set i (some d))=o:=by simpa [qS,h1,jH] using q
   subst this
   exact ⟨ρ,d,en,h1,fun v H1 s1 r1=>k _ H1 s1 ((en.mono s1).set r1)⟩
end
structure Mine (X:Cx) (H:Hp) (b:Addr):Prop where
 un:H b=none
 new:X.s₀.heap.get? b=none
 loc:b ≠ X.env.locals
 cel:∀ x c,X.env.cells.lookup x=some c->c ≠ b
 pin:∀ p ∈ X.pn,p.1 ≠ b
structure Xc (X:Cx) (H:Hp) (h:Heap) (e C:Addr):Prop where
 mine:Mine X H e
 ob:∃ oe vs,h.get? e=some oe/\(oe.cls= .ref C/\oe.dict=none)/\oe.data= .fields vs/\1 < vs.size/\
  (vs[1]?=some .none ∨ ∃ T oT ts,vs[1]?=some (.ref T)/\T ≠ e/\Mine X H T/\h.get? T=some oT/\oT.data= .fields ts/\3 < ts.size)
theorem Inv.exIn {X:Cx}{pins:List (Addr × Obj)}{σ:St}{H:Hp}{s:Shared}{ch:List Addr} (I:Inv X pins σ H s) (hn:∀ b ∈ ch,X.s₀.heap.get? b=none/\b ≠ X.env.locals/\∀ x c,X.env.cells.lookup x=some c->c ≠ b):Inv { X with ex:=ch++X.ex } pins σ H s:=by
 have no:∀ b,b ∉ ch++X.ex->b ∉ X.ex:=fun b h z=>h (List.mem_append_right _ z)
 refine ⟨⟨I.ok.mod,I.ok.kind,I.ok.glob,I.ok.blt,I.ok.above,I.ok.inj,I.ok.has,I.ok.cab,I.ok.hd,I.ok.frames,I.ok.stk,fun b hb=>?_,I.ok.bs,I.ok.bsz,fun b o e hb=>?_,fun b hb z=>?_,I.ok.funs,I.ok.frf⟩,I.os,I.bare,
  ⟨fun b o e n hf hx=>I.base.keep b o e n hf (no b hx),fun b o e n hf hx=>I.base.slot b o e n hf (no b hx),fun b o e n hx=>I.base.free b o e n (no b hx),fun b o e hx=>I.base.there b o e (no b hx),I.base.tups,I.base.frzs,I.base.tbls⟩,I.loc,I.cell,I.free,I.freeC,I.pin,I.hok,I.len⟩
 ·rcases List.mem_append.mp hb with q | q
  ·exact (hn b q).2
  ·exact I.ok.exf b q
 ·rcases List.mem_append.mp hb with q | q
  ·have:=(I.ok.bs b o e).1
   rw [(hn b q).1] at this; cases this
  ·exact I.ok.noex b o e q
 ·rcases List.mem_append.mp hb with q | q
  ·obtain ⟨_,o,ho,_⟩:=I.ok.funs.mem z
   rw [(hn b q).1] at ho; cases ho
  ·exact I.ok.exfs b q z
theorem Inv.exOut {X:Cx}{pins:List (Addr × Obj)}{σ:St}{H:Hp}{s:Shared}{ch:List Addr} (I:Inv { X with ex:=ch++X.ex } pins σ H s) (ok:X.Ok) (hn:∀ b ∈ ch,X.s₀.heap.get? b=none):Inv X pins σ H s:=by
 have no:∀ b o,X.s₀.heap.get? b=some o->b ∉ X.ex->b ∉ ch++X.ex:=fun b o e h z=>by
  rcases List.mem_append.mp z with q | q
  ·rw [hn b q] at e; cases e
  ·exact h q
 exact ⟨ok,I.os,I.bare,⟨fun b o e n hf hx=>I.base.keep b o e n hf (no b o e hx),fun b o e n hf hx=>I.base.slot b o e n hf (no b o e hx),fun b o e n hx=>I.base.free b o e n (no b o e hx),fun b o e hx=>I.base.there b o e (no b o e hx),I.base.tups,I.base.frzs,I.base.tbls⟩,I.loc,I.cell,I.free,I.freeC,I.pin,I.hok,I.len⟩
section
variable {X:Cx}{σ:St}{H:Hp}{s:Shared}{h':Heap}{e C:Addr}{E:Value->Shared->Prop}{A:Around}
theorem Inv.shake {ch:List Addr} (I:Inv X [] σ H s) (hm:∀ b ∈ ch,Mine X H b) (keep:∀ b o,b ∉ frs X.stack->b ∉ ch->s.heap.get? b=some o->h'.get? b=some o)
  (slot:∀ b o,b ∈ frs X.stack->b ∉ ch->s.heap.get? b=some o->∃ sl,h'.get? b=some { o with slots:=sl }):Inv X [] σ H { s with heap:=h' }:=by
 have u:Un (frs X.stack) ch H H s.heap h':=⟨fun b o q _ nf nc=>keep b o nf nc q,fun b o q _ hf nc=>slot b o hf nc q,fun _ _ _ n _=>n,fun b o q nc=>by
  by_cases hf:b ∈ frs X.stack
  ·obtain ⟨sl,z⟩:=slot b o hf nc q; exact ⟨_,z⟩
  ·exact ⟨o,keep b o hf nc q⟩,fun _ _ q=>q,fun _ _ _ q=>q,fun _ ps q=>⟨#[],by rw [q]; simp⟩⟩
 have hok:HOk X.prog X.w H h':=fun b o q=>(I.hok b o q).stay (fun c v hc r=>by
  have hb:H c ≠ none:=by
   rcases hc with rfl | hc
   ·rw [q]; exact fun z=>nomatch z
   ·rw [hc]; exact fun z=>nomatch z
  exact keep c v (fun z=>hb (I.stkFree c z)) (fun z=>hb (hm c z).un) r) (fun _ r=>r) fun _ _ r=>r
 exact Inv.exOut (Inv.call (X:={ X with ex:=ch++X.ex }) (g':=s.gens) (d':=s.drawn) (t':=s.toks) (Inv.exIn I fun b hb=>⟨(hm b hb).new,(hm b hb).loc,(hm b hb).cel⟩) u hok I.bare fun b hb=>⟨.inl (List.mem_append_left _ hb),(hm b hb).loc,(hm b hb).cel,fun p hp=>(hm b hb).pin p (by simpa using hp)⟩) I.ok fun b hb=>(hm b hb).new
structure XcT (X:Cx) (H:Hp) (h:Heap) (e C:Addr):Prop where
 mine:Mine X H e
 ob:∃ oe vs T oT ts,h.get? e=some oe/\(oe.cls= .ref C/\oe.dict=none)/\oe.data= .fields vs/\vs[1]?=some (.ref T)/\T ≠ e/\Mine X H T/\h.get? T=some oT/\oT.data= .fields ts/\3 < ts.size
theorem XcT.c {h:Heap} (x:XcT X H h e C):Xc X H h e C:=by
 obtain ⟨oe,vs,T,oT,ts,h1,h2,h3,h4,h5,h6,h7,h8,h9⟩:=x.ob
 exact ⟨x.mine,oe,vs,h1,h2,h3,(Array.getElem?_eq_some_iff.mp h4).1,.inr ⟨T,oT,ts,h4,h5,h6,h7,h8,h9⟩⟩
structure Top0 (X:Cx):Prop where
 st:X.stack=X.env::X.outer
 fr:X.env.frame=some X.env.locals
 ex:X.ex=[]
theorem Mine.nofr {b:Addr} (m:Mine X H b) (I:Inv X [] σ H s):b ∉ frs X.stack:=fun z=>by
 rcases List.mem_cons.mp (I.stkSub b z) with q | q
 ·exact m.loc q
 ·obtain ⟨_,o,ho,_⟩:=I.ok.funs.mem q
  rw [m.new] at ho; cases ho
theorem akV {P:Program}{w:World}{h:Heap}{b:Addr}{u:HO} (hok:HOk P w H h) (hH:H b=some u) (hb:h.get? b=none):False:=by
 have x:=hok b u hH
 have no:∀ {o:Obj},h.get? b=some o->False:=fun {o} q=>by rw [hb] at q; cases q
 cases u with
 | lst xs=>obtain ⟨_,_,_,_,e⟩:=x; exact no e
 | tup xs=>obtain ⟨_,_,_,⟨_,e,_⟩⟩:=x; exact no e
 | dK kvs=>obtain ⟨_,_,_,_,o,_,_,e,_⟩:=x; exact no e
 | dT kvs=>obtain ⟨_,_,_,_,o,_,_,e,_⟩:=x; exact no e
 | set S n=>obtain ⟨o,_,_,_,e,_⟩:=x; exact no e
 | ins C dx fs=>obtain ⟨_,_,_,e,_⟩:=x; exact no e
 | own y=>obtain ⟨_,e⟩:=x; exact no e
 | xd fs=>obtain ⟨_,⟨_,_,_,e,_⟩,_⟩:=x; exact no e
 | rng lo hi=>obtain ⟨_,_,_,e⟩:=x; exact no e
 | frz ob u=>obtain ⟨e,_⟩:=x; exact no e
 | tbl ps=>exact no (show h.get? b=some _ from x)
 | met f y=>exact no (show h.get? b=some _ from x)
 | ext φ=>obtain ⟨_,⟨_,e⟩,_⟩:=x; exact no e
theorem Qy (hx:X.ex=[]) (I:Inv X [] σ H s) {b:Addr} (hb:s.heap.get? b=none):Mine X H b:=by
 have no:∀ {o:Obj},s.heap.get? b=some o->False:=fun {o} q=>by rw [hb] at q; cases q
 refine ⟨?_,?_,fun z=>?_,fun x c q z=>?_,fun p hp z=>?_⟩
 ·cases hH:H b with
  | none=>rfl
  | some u=>exact (akV I.hok hH hb).elim
 ·cases h0:X.s₀.heap.get? b with
  | none=>rfl
  | some o=>
   obtain ⟨o',q⟩:=I.base.there b o h0 (by rw [hx]; simp)
   exact (no q).elim
 ·subst z
  obtain ⟨m,⟨o,_,_,ho,_⟩,_⟩:=I.loc
  exact no ho
 ·obtain ⟨v,o,ho,_⟩:=I.cell x c q
  subst z
  exact no ho
 ·have:=(I.pin p (List.mem_append_left _ hp)).1
  rw [z] at this
  exact no this
theorem aeE {oe:Obj}{vs:Array Value}{head:Value}{hadNext:Bool} (T0:Top0 X) (hA:A.frames=some X.stack) (I:Inv X [] σ H s) (me:Mine X H e) (he:s.heap.get? e=some oe) (hc:oe.cls= .ref C/\oe.dict=none) (hd:oe.data= .fields vs) (hsz:1 < vs.size):
  wpAny (model X.prog X.w) A (do let a ←frameOf X.env; let pl ←entryPlaceOf X.env.locals hadNext; let b ←EntryCells.newEntry head a .none (rawInt X.env.locals) .none pl; setField (.ref e) 1 b) (fun _ s'=>Inv X [] σ H s'/\XcT X H s'.heap e C) E s:=by
 have hst:=T0.st
 have hfn:=I.stack
 rw [hst] at hfn hA
 have hene:e ∉ (X.env::X.outer).filterMap (·.frame):=by
  have:=me.nofr I
  rw [hst] at this; exact this
 refine wpAny_bind (wpAny_frameOf_fun hA hfn T0.fr fun h₁ hs₁=>?_)
 refine wpAny_bind (wpAny_entryPlaceOf fun pl hpl=>?_)
 unfold EntryCells.newEntry newFields
 refine wpAny_bind (wpAny_newObj_type ?_ (hpl.sizeOk5 _ _ _ _ _))
 have he₁:h₁.get? e=some oe:=(hs₁.2.1 e hene).trans he
 generalize hob:({ cls:= .type "traceback",dict:=none,data:= .fields ([head,Value.ref X.env.locals,.none,rawInt X.env.locals,.none]++(if pl.isEmpty then List.replicate 6 Value.none else pl)).toArray }:Obj)=ob
 have obd:ob.data= .fields ([head,Value.ref X.env.locals,.none,rawInt X.env.locals,.none]++(if pl.isEmpty then List.replicate 6 Value.none else pl)).toArray:=by rw [←hob]
 have obf:ob.isFreed=false:=by rw [←hob]; rfl
 have he₂:(h₁.push ob).get? e=some oe:=Heap.get?_push_of_some ob he₁
 refine wpAny_setField he₂ hd hsz ?_
 have hTe:h₁.objs.size ≠ e:=Nat.ne_of_gt (Heap.lt_size he₁)
 have hd₃:=Obj.data_mapFields hd (·.setIfInBounds 1 (Value.ref h₁.objs.size))
 have he₃:=Heap.get?_update_self (Obj.mapFields (·.setIfInBounds 1 (Value.ref h₁.objs.size))) he₂ (Obj.isFreed_of_fields hd₃)
 have hT₃:((h₁.push ob).update e (Obj.mapFields (·.setIfInBounds 1 (Value.ref h₁.objs.size)))).get? h₁.objs.size=some ob:=(Heap.get?_update_other _ _ (Ne.symm hTe)).trans (Heap.get?_push_size h₁ obf)
 have keep:∀ b o,b ≠ e->h₁.get? b=some o->((h₁.push ob).update e (Obj.mapFields (·.setIfInBounds 1 (Value.ref h₁.objs.size)))).get? b=some o:=fun b o hb q=>by
  rw [Heap.get?_update_other _ _ (Ne.symm hb)]
  exact Heap.get?_push_of_some _ q
 have hfr:frs X.stack=(X.env::X.outer).filterMap (·.frame):=by rw [hst]; rfl
 have sz:h₁.objs.size=s.heap.objs.size:=hs₁.1
 have J:Inv X [] σ H { s with heap:=(h₁.push ob).update e (Obj.mapFields (·.setIfInBounds 1 (Value.ref h₁.objs.size))) }:=by
  refine Inv.shake (s:=s) (ch:=[e]) I (fun b hb=>by rw [List.mem_singleton.mp hb]; exact me) (fun b o nf nc q=>keep b o (fun z=>nc (by simp [z])) ((hs₁.2.1 b (by rw [←hfr]; exact nf)).trans q)) (fun b o _ nc q=>?_)
  obtain ⟨sl,z⟩:=hs₁.2.2 b o q
  exact ⟨sl,keep b _ (fun w=>nc (by simp [w])) z⟩
 refine ⟨J,me,_,_,h₁.objs.size,ob,_,he₃,?_,hd₃,by simp [hsz],hTe,?_,hT₃,obd,?_⟩
 ·rw [Obj.cls_mapFields]; exact ⟨hc.1,by unfold Obj.mapFields; split <;> exact hc.2⟩
 ·exact Qy T0.ex I (Heap.get?_none_of_le (by rw [sz]; exact Nat.le_refl _))
 ·simp only [List.size_toArray,List.length_append,List.length_cons,List.length_nil]; omega
theorem adF (T0:Top0 X) (hA:A.frames=some X.stack) (I:Inv X [] σ H s) (x:Xc X H s.heap e C):wpAny (model X.prog X.w) A (noteFrame (.ref e) X.env) (fun _ s'=>Inv X [] σ H s'/\XcT X H s'.heap e C) E s:=by
 obtain ⟨oe,vs,he,hc,hd,hsz,hT⟩:=x.ob
 unfold noteFrame
 simp only [T0.fr]
 rcases hT with h1 | ⟨T,oT,ts,h1,hTe,mT,hT,hdT,h3⟩
 ·refine wpAny_bind (wpAny_field he hd h1 ?_)
  rw [if_neg (by decide)]
  exact aeE T0 hA I x.mine he hc hd hsz
 ·refine wpAny_bind (wpAny_field he hd h1 ?_)
  rw [if_pos (show (Value.ref T != Value.none)=true from by simp)]
  refine wpAny_bind (wpAny_field hT hdT (x:=ts[3]) (by simp [h3]) ?_)
  by_cases hq:(ts[3] == rawInt X.env.locals)=true
  ·rw [if_pos hq]
   exact wpAny_pure ⟨I,x.mine,oe,vs,T,oT,ts,he,hc,hd,h1,hTe,mT,hT,hdT,h3⟩
  ·rw [if_neg hq]
   refine wpAny_bind (wpAny_setField hT hdT h3 ?_)
   have other:∀ b,b ≠ T->(s.heap.update T (Obj.mapFields (·.setIfInBounds 3 Value.none))).get? b=s.heap.get? b:=fun b hb=>Heap.get?_update_other _ _ (Ne.symm hb)
   have J:Inv X [] σ H { s with heap:=s.heap.update T (Obj.mapFields (·.setIfInBounds 3 Value.none)) }:=
    Inv.shake (s:=s) (ch:=[T]) I (fun b hb=>by rw [List.mem_singleton.mp hb]; exact mT) (fun b o _ nc q=>(other b fun z=>nc (by simp [z])).trans q) fun b o _ nc q=>⟨o.slots,(other b fun z=>nc (by simp [z])).trans q⟩
   exact aeE (s:={ s with heap:=s.heap.update T (Obj.mapFields (·.setIfInBounds 3 Value.none)) }) T0 hA J x.mine ((other e (Ne.symm hTe)).trans he) hc hd hsz
theorem zq (fl:Option Addr) (I:Inv X [] σ H s) (x:XcT X H s.heap e C):wpAny (model X.prog X.w) A (setFlight (.ref e) fl) (fun _ s'=>Inv X [] σ H s'/\XcT X H s'.heap e C) E s:=by
 obtain ⟨oe,vs,T,oT,ts,he,hc,hd,h1,hTe,mT,hT,hdT,h3⟩:=x.ob
 unfold setFlight
 refine wpAny_bind (wpAny_field he hd h1 ?_)
 rw [if_pos (show (Value.ref T != Value.none)=true from by simp)]
 refine wpAny_setField hT hdT h3 ?_
 have other:∀ b,b ≠ T->(s.heap.update T (Obj.mapFields (·.setIfInBounds 3 (fl.elim Value.none fun f=>rawInt f)))).get? b=s.heap.get? b:=fun b hb=>Heap.get?_update_other _ _ (Ne.symm hb)
 have J:Inv X [] σ H { s with heap:=s.heap.update T (Obj.mapFields (·.setIfInBounds 3 (fl.elim Value.none fun f=>rawInt f))) }:=
  Inv.shake (s:=s) (ch:=[T]) I (fun b hb=>by rw [List.mem_singleton.mp hb]; exact mT) (fun b o _ nc q=>(other b fun z=>nc (by simp [z])).trans q) fun b o _ nc q=>⟨o.slots,(other b fun z=>nc (by simp [z])).trans q⟩
 exact ⟨J,x.mine,oe,vs,T,_,_,(other e (Ne.symm hTe)).trans he,hc,hd,h1,hTe,mT,Heap.get?_update_self _ hT (Obj.isFreed_of_fields (Obj.data_mapFields hdT _)),Obj.data_mapFields hdT _,by simpa using h3⟩
theorem aoz {P:Value->Shared->Prop} (T0:Top0 X) (hA:A.frames=some X.stack) (hP:∀ e s,P e s->∃ a C σ H,e= .ref a/\Inv X [] σ H s/\Xc X H s.heap a C/\∀ s',Inv X [] σ H s'->XcT X H s'.heap a C->P e s'):PassesOwn (model X.prog X.w) A X.env P:=fun ev s' h=>by
 obtain ⟨a,C,σ,H,rfl,I,x,back⟩:=hP ev s' h
 refine wpAny_mono (adF (E:=fun _ _=>False) T0 hA I x) (fun _ s2 ⟨I2,x2⟩=>?_) fun _ _ z=>z.elim
 obtain ⟨oe,vs,T,oT,ts,he,hc,hd,h1,r⟩:=id x2.ob
 unfold cameBackBy
 refine wpAny_bind (wpAny_field he hd h1 ?_)
 rw [if_neg (by simp)]
 first
  | exact wpAny_mono (zq (E:=fun _ _=>False) _ I2 x2) (fun _ s3 ⟨I3,x3⟩=>back s3 I3 x3) fun _ _ z=>z.elim
  | exact wpAny_bind (wpAny_pure (wpAny_mono (zq (E:=fun _ _=>False) _ I2 x2) (fun _ s3 ⟨I3,x3⟩=>back s3 I3 x3) fun _ _ z=>z.elim))
end
structure XcO (h0:Heap) (H:Hp) (h:Heap) (e C:Addr):Prop where
 un:H e=none
 new:h0.get? e=none
 ob:∃ oe vs T oT ts,h.get? e=some oe/\(oe.cls= .ref C/\oe.dict=none)/\oe.data= .fields vs/\vs[1]?=some (.ref T)/\T ≠ e/\H T=none/\h0.get? T=none/\h.get? T=some oT/\oT.data= .fields ts/\3 < ts.size
noncomputable def CXt (P:Program) (w:World):CXT:=fun outer H s E ev s'=>∃ e C H',ev= .ref e/\s'.os=s.os/\AllBare s'.gens/\Un (frs outer) [] H H' s.heap s'.heap/\HOk P w H' s'.heap/\XcO s.heap H' s'.heap e C/\E (.ref C) none H'
section
variable {X:Cx}
theorem Xc.of (hx:X.ex=[]) {pins:List (Addr × Obj)}{σ:St}{H H':Hp}{s s':Shared}{e0 C:Addr} (I:Inv X pins σ H s) (x:XcO s.heap H' s'.heap e0 C):Xc X H' s'.heap e0 C:=by
 have J:Inv X [] σ H s:=I.pins_of fun p hp=>nomatch hp
 obtain ⟨oe,ws,T,oT,ts,h1,h2,h3,h4,h5,h6,h7,h8,h9,h10⟩:=x.ob
 have m1:=Qy hx J x.new
 have m2:=Qy hx J h7
 exact ⟨⟨x.un,m1.new,m1.loc,m1.cel,m1.pin⟩,oe,ws,h1,h2,h3,(Array.getElem?_eq_some_iff.mp h4).1,.inr ⟨T,oT,ts,h4,h5,⟨h6,m2.new,m2.loc,m2.cel,m2.pin⟩,h8,h9,h10⟩⟩
end
noncomputable def Thr (X:Cx) (H:Hp) (c:Str) (ev:Value) (s':Shared):Prop:=∃ e C σ' H',ev= .ref e/\X.mg c=some (.ref C)/\Inv X [] σ' H' s'/\jn H H'/\Xc X H' s'.heap e C
theorem Thr.mono {X:Cx}{H H1:Hp}{c:Str}{ev:Value}{s':Shared} (s:jn H H1) (h:Thr X H1 c ev s'):Thr X H c ev s':=by
 obtain ⟨e,C,σ',H',h1,h2,h3,h4,h5⟩:=h
 exact ⟨e,C,σ',H',h1,h2,h3,s.trans h4,h5⟩
@[irreducible] noncomputable def PDX (X:Cx) (e:Expr) (fx:Rho->Option Str):Prop:=∀ (s:Shared) (σ:St) (H:Hp) (ρ:Rho) (c:Str),Inv X [] σ H s->EnvR X.K H ρ σ->fx ρ=some c->(∀ ev s',Thr X H c ev s'->X.xe ev s')->wpAny (model X.prog X.w) X.A (eval e X.env) (fun _ _=>False) X.xe s
@[irreducible] noncomputable def PSX (X:Cx) (st:Stmt) (fx:Rho->Option Str):Prop:=∀ (s:Shared) (σ:St) (H:Hp) (ρ:Rho) (c:Str),Inv X [] σ H s->EnvR X.K H ρ σ->fx ρ=some c->(∀ ev s',Thr X H c ev s'->X.xe ev s')->wpAny (model X.prog X.w) X.A (exec st X.env) (fun _ _=>False) X.xe s
@[irreducible] noncomputable def aaY (X:Cx) (sts:List Stmt) (fx:Rho->Option Str):Prop:=∀ (s:Shared) (σ:St) (H:Hp) (ρ:Rho) (c:Str),Inv X [] σ H s->EnvR X.K H ρ σ->fx ρ=some c->(∀ ev s',Thr X H c ev s'->X.xe ev s')->wpAny (model X.prog X.w) X.A (execs sts X.env) (fun _ _=>False) X.xe s
noncomputable def vB:List Value:=[.type "ValueError",.type "Exception",.type "BaseException",.type "object"]
noncomputable def afS (K:PySem.W.Frag) (mg:Str->Option Value) (x:Str):Prop:=∃ C,mg x=some (.ref C)/\PySem.W.excIn K C vB "ValueError.__new__"=true
theorem akW {K:PySem.W.Frag}{h:Heap}{C:Addr} (X:K.In h) (q:PySem.W.excIn K C vB "ValueError.__new__"=true):
  ∃ bm N nm qn bs hdct sn sub ab col dd k0 k1 k2 k3 k5 mN,h.get? C=some (excClassObj nm qn C N bs bm hdct sn sub ab col dd k0 k1 k2 k3 k5 "ValueError.__new__")/\h.Ns N mN/\mN "__init__"=none/\OwnTail h vB bm:=by
 unfold PySem.W.excIn at q
 split at q
 ·rename_i dd cd sl ho
  split at q
  ·rename_i C' bm k0 k1 k2 k3 n k5 hm hs
   simp only [Bool.and_eq_true,beq_iff_eq,Bool.not_eq_true'] at q
   obtain ⟨⟨⟨⟨⟨rfl,rfl⟩,hdel⟩,ht⟩,hok⟩,hni⟩:=q
   obtain ⟨nm,bs,mro,ns,qn,hd,sn,sub,ab,col,del⟩:=cd
   dsimp only at hm hdel hok hni
   subst hm hdel
   have hsl:sl=#[k0,k1,k2,k3,some (.builtin "ValueError.__new__"),k5]:=by
    obtain ⟨l⟩:=sl
    simp only at hs
    rw [hs]
   subst hsl
   exact ⟨bm,ns,nm,qn,bs,hd,sn,sub,ab,col,dd,k0,k1,k2,k3,k5,_,X _ _ ho,.of_isNs (PySem.W.isNs_of_in X hok),PySem.W.nsMap_none_of_in X hok hni,PySem.W.tail_of_in X ht⟩
  ·cases q
 ·cases q
section
variable {X:Cx}{e a b c:Expr}{es:List Expr}{st:Stmt}{sts jT:List Stmt}{fx gx:Rho->Option Str}{F:Rho->Option Out}{pos:Pos}
theorem jK (h:PSX X st fx):aaY X (st::jT) fx:=by
 with_unfolding_all
  intro s σ H ρ c I en q k
  exact wpAny_execs_cons (wpAny_mono (h s σ H ρ c I en q k) (fun _ _ z=>z.elim) fun _ _ z=>z)
noncomputable def nxX (F:Rho->Option Out) (gx:Rho->Option Str):Rho->Option Str:=fun ρ=>(F ρ).bind fun o=>match o with
 | .nx ρ'=>gx ρ'
 | _=>none
theorem zr (h1:PSD X st F) (h2:aaY X jT gx):aaY X (st::jT) (nxX F gx):=by
 with_unfolding_all
  intro s σ H ρ c I en q k
  cases hF:F ρ with
  | none=>simp [nxX,hF] at q
  | some o=>
   cases o with
   | nx ρ'=>
    have q':gx ρ'=some c:=by simpa [nxX,hF] using q
    refine wpAny_execs_cons (wpAny_mono (h1 [] s σ H { nx:=fun σ' H'=>jn H H'/\EnvR X.K H' ρ' σ',rt:=fun _ _=>False,bk:=fun _ _=>False,ct:=fun _ _=>False } I ⟨ρ,.nx ρ',en,hF,fun σ' H' s1 e1=>⟨s1,e1⟩⟩) (fun f s1 z=>?_) fun _ _ z=>z)
    cases f with
    | next=>
     obtain ⟨σ',H',I',sm,e1⟩:=z
     exact wpAny_mono (h2 s1 σ' H' ρ' c I' e1 q' fun ev s' t=>k ev s' (t.mono sm)) (fun _ _ z=>z.elim) fun _ _ z=>z
    | brk=>obtain ⟨_,_,_,z⟩:=z; exact z.elim
    | cont=>obtain ⟨_,_,_,z⟩:=z; exact z.elim
    | ret u=>obtain ⟨_,_,_,_,_,z⟩:=z; exact z.elim
   | _=>simp [nxX,hF] at q
noncomputable def ifX (tc:Rho->Option Bool) (fx gx:Rho->Option Str):Rho->Option Str:=fun ρ=>(tc ρ).bind fun x=>if x=true then fx ρ else gx ρ
noncomputable def adG:Rho->Option Str:=fun _=>none
theorem zt:aaY X sts adG:=by
 with_unfolding_all
  intro s σ H ρ c I en q k
  cases q
theorem aal {l r:List Stmt}{tc:Rho->Option Bool} (hc:PTD X a tc) (hl:aaY X l fx) (hr:aaY X r gx):PSX X (.If a l r pos) (ifX tc fx gx):=by
 with_unfolding_all
  intro s σ H ρ c I en q k
  cases ht:tc ρ with
  | none=>simp [ifX,ht] at q
  | some x=>
   refine wpAny_If (wpAny_mono (hc [] s σ H (fun b H'=>b=x/\jn H H') I ⟨ρ,x,en,ht,fun H' s1=>⟨rfl,s1⟩⟩) (fun d s1 z=>?_) fun _ _ z=>z)
   obtain ⟨H1,I1,rfl,s1'⟩:=z
   cases d with
   | true=>exact hl s1 σ H1 ρ c I1 (en.mono s1') (by simpa [ifX,ht] using q) fun ev s' t=>k ev s' (t.mono s1')
   | false=>exact hr s1 σ H1 ρ c I1 (en.mono s1') (by simpa [ifX,ht] using q) fun ev s' t=>k ev s' (t.mono s1')
theorem aa4 (h:PDX X e fx):PSX X (.Return (some e) pos) fx:=by
 with_unfolding_all
  intro s σ H ρ c I en q k
  exact wpAny_Return_some (wpAny_mono (h s σ H ρ c I en q k) (fun _ _ z=>z.elim) fun _ _ z=>z)
theorem Qz (h:PDX X e fx) (hs:swapsWith e none pos.line X.env=pure false:=by rfl):PSX X (.Expr e pos) fx:=by
 with_unfolding_all
  intro s σ H ρ c I en q k
  exact wpAny_Expr_any (wpAny_mono (h s σ H ρ c I en q k) (fun _ _ z=>z.elim) fun _ _ z=>z) I.quiet hs
theorem agB {x:Str}{pos':Pos} (h:PDX X e fx) (hs:swapsWith e (some (.Name x pos')) pos.line X.env=pure false:=by rfl):PSX X (.Assign [.Name x pos'] e pos) fx:=by
 with_unfolding_all
  intro s σ H ρ c I en q k
  exact wpAny_Assign_Name (wpAny_mono (h s σ H ρ c I en q k) (fun _ _ z=>z.elim) fun _ _ z=>z) hs
end
noncomputable def ahm (K:PySem.W.Frag) (mg:Str->Option Value) (n:Nat) (gx:List PyData->Option Str):Sp:=fun vs H _ E=>∃ ds c,ds.length=n/\Reps K H ds vs/\gx ds=some c/\∀ C H',mg c=some (.ref C)->jn H H'->E (.ref C) none H'
noncomputable def zK (P:Program) (w:World) (K:PySem.W.Frag) (mg:Str->Option Value) (base:Heap) (x:Str) (ps:List Str) (k n:Nat) (gx:List PyData->Option Str):Prop:=
 ∃ (f:Addr) (fd:FuncData),FnOk P w K mg base (CXt P w) k f fd ps (ahm K mg n gx)/\mg x=some (.ref f)/\PySem.W.keepIn K (.ref f)=true/\Qr K fd ps []
section
variable {X:Cx}{e a b c:Expr}{es:List Expr}{st:Stmt}{sts jT:List Stmt}{fx gx:Rho->Option Str}{F:Rho->Option Out}{pos:Pos}
theorem qz {k j n:Nat}{ps:List Str}{g:List PyData->Option Str}{x:Str}{p:Pos}{fr:Rho->Option (List PyData)} (hxe:X.ex=[]) (C:zK X.prog X.w X.K X.mg X.base x ps k n g) (hr:Room j X.A) (hkj:k<=j) (ha:PAD X (e::es) fr) (hl:∀ ρ ds,fr ρ=some ds->ds.length=n)
  (hg:Gl X x:=by rfl) (hdb:(x == ("__debug__":Str))=false:=by decide) (he:starEach (e::es) X.env=(false,eval e X.env)::starEach es X.env:=by rfl)
  (hpl:(backTo pos (starEach es X.env)).any (·.1)=false:=by rfl):PDX X (.Call (.Name x p) (e::es) [] pos) (fun ρ=>(fr ρ).bind g):=by
 with_unfolding_all
  intro s σ H ρ c I en q k'
  obtain ⟨f,fd,F,hm,hk,hb⟩:=C
  cases hd:fr ρ with
  | none=>simp [hd] at q
  | some ds=>
   have q':g ds=some c:=by simpa [hd] using q
   refine wpAny_Call_Name_kw (QM I hg hm ?_ hdb)
   refine PySem.W.callWith_K (h₀:=X.base) I.ok.mod.kin hk (thn (ha pos [] s σ H (fun vs H1=>jn H H1/\Reps X.K H1 ds vs) I ⟨ρ,ds,en,hd,fun vs H1 s1 r1=>⟨s1,r1⟩⟩) fun us s1 ⟨vs,H1,I1,r,sm,rd⟩=>⟨I1.kIn,?_⟩) he hpl
   have hsp:ahm X.K X.mg n g vs H1 (fun _ _=>False) (fun cls _ H'=>X.mg c=some cls/\jn H1 H')->vs.length=ps.length:=fun z=>F.len _ _ _ _ z
   by_cases hn:ds.length=n
   ·have sp:ahm X.K X.mg n g vs H1 (fun _ _=>False) (fun cls _ H'=>X.mg c=some cls/\jn H1 H'):=⟨ds,c,hn,rd,q',fun C H' hC s2=>⟨hC,s2⟩⟩
    have hlu:(us++[]).length=ps.length:=by rw [List.append_nil,←r.length]; exact hsp sp
    have hbd:=hb s1 us I1.kIn hlu
    rw [List.append_nil] at hbd
    refine wpAny_call (codeAny_mono (F.run X.A X.stack s1 H1 ⟨us,[]⟩ us vs _ _ (hr.mono hkj) I1.env0 hbd r sp) fun rs s' hq=>?_)
    cases rs with
    | error ev=>
     obtain ⟨e0,C,H',rfl,os,bare,un,hok,xc,hC,sm2⟩:=hq
     have J':Inv X [] σ H' s':=I1.call' (ch:=[]) os un hok bare fun b z=>nomatch z
     exact k' _ _ ⟨e0,C,σ,H',rfl,hC,J',sm.trans sm2,Xc.of hxe I1 xc⟩
    | ok fl=>
     cases fl with
     | ret u=>obtain ⟨v,H',_,_,_,_,_,z⟩:=hq; exact z.elim
     | next=>exact False.elim hq
     | brk=>exact False.elim hq
     | cont=>exact False.elim hq
   ·exact absurd (hl ρ ds hd) hn
theorem JM {x m:Str}{k0:_}{np p3 cpos:Pos} (hxe:X.ex=[]) (hE:afS X.K X.mg x) (hc:X.calm=true) (hg:Gl X x:=by rfl) (hdb:(x == ("__debug__":Str))=false:=by decide)
  (he:starEach [.Constant (.str m) k0 p3] X.env=[(false,eval (.Constant (.str m) k0 p3) X.env)]:=by rfl):PSX X (.Raise (some (.Call (.Name x np) [.Constant (.str m) k0 p3] [] cpos)) none pos) (fun _=>some x):=by
 with_unfolding_all
  intro s σ H ρ c I en q k
  cases q
  obtain ⟨C,hm,hex⟩:=hE
  obtain ⟨bm,N,nm,qn,bs,hdct,sn,sub,ab,col,dd,k0',k1,k2,k3,k5,mN,hC,hN,hni,TL⟩:=akW (h:=X.base) I.ok.mod.kin hex
  have hpl:(backTo cpos (starEach [.Constant (.str m) k0 p3] X.env)).any (·.1)=false:=by rw [he]; rfl
  refine wpAny_Raise_call_subT (C:=C) (nm:=nm) (q:=qn) (N:=N) (bs:=bs) (bm:=bm) (hdct:=hdct) (sn:=sn) (sub:=sub) (ab:=ab) (col:=col) (dd:=dd) (k0:=k0') (k1:=k1) (k2:=k2) (k3:=k3) (k5:=k5) PySem.F.excBase_ValueError (mN:=mN) (TL.hasType rfl) (I.ok.hd hc) hpl hni ?_
  refine wpAny_mono (aaZ (pos:=np) hg hm (show jQ (.ref C) (.ref C) from rfl) hdb [] s σ H (fun v H'=>v= .ref C/\H'=H) I ⟨rfl,rfl⟩) (fun v s1 ⟨y,H1,I1,r1,e1,e2⟩=>?_) fun _ _ z=>z
  subst e1; subst e2
  obtain rfl:v=Value.ref C:=r1
  refine ⟨rfl,?_⟩
  have pa:PA X [.Constant (.str m) k0 p3] _:=qg (X:=X) ah2 qY he
  have hsp:=pa cpos [] s1 σ H1 (fun vs H'=>vs.length=1/\H'=H1) I1 ⟨rfl,rfl⟩
  rw [he] at hsp ⊢
  refine Calls.evalArgs_plain (wpAny_mono hsp (fun us s2 ⟨vs,H2,I2,r2,l2,e2⟩=>?_) fun _ _ z=>z)
  subst e2
  have kp:∀ b o,X.base.get? b=some o->s2.heap.get? b=some o:=fun b o e=>(I2.bs b o e).1
  refine ⟨rfl,?_,kp _ _ hC,hN.keeps kp,TL.keeps kp,fun h' e0 md=>?_⟩
  ·show us.length<=sizeLine
   rw [←r2.length,l2,sizeLine_eq]; decide
  ·obtain ⟨t,h1,h2,h3⟩:=md.there
   have I3:Inv X [] σ H2 { s2 with heap:=h' }:=I2.kept (t':=s2.toks) md.keeps
   have m0:=Qy hxe I2 md.new
   exact k _ _ ⟨e0,C,σ,H2,rfl,hm,I3,jn.refl _,m0,_,_,h1,⟨rfl,rfl⟩,rfl,by simp,.inl rfl⟩
end
theorem ai8 {CX:CXT}{P:Program}{w:World}{K:PySem.W.Frag}{mg:Str->Option Value}{base:Heap}{k:Nat}{f:Addr}{name qual:Str}{params:Arguments}{body:List Stmt}{scope:Scope}{dV kV doc pm cdv ct oc:Value}{an od:Option Addr}
  {osl:Array (Option Value)} {N ps:List Str} {sp:Sp} (lk:K.lookup f=some ⟨oc,od,.func (PySem.W.fnOf name qual params body scope dV kV doc pm an cdv ct),osl⟩) (hcd:PySem.W.codeIn K cdv qual=true) (S:FnScope N ps scope)
  (len:∀ vs H Q E,sp vs H Q E->vs.length=ps.length)
  (hbody:∀ (A:Around) (outer:List Env) (s:Shared) (H:Hp) (vs:List V) (Q:VK) (E:XK) (s1:Shared),Room k (A.deeper (envOfC qual scope s.heap.objs.size f cdv))->sp vs H Q E->
   Inv (zY CX P w K mg base N qual scope f cdv A outer s H E) [] (L2.zl N vs) H s1->
   wpAny (model P w) (A.deeper (envOfC qual scope s.heap.objs.size f cdv)) (execs body (envOfC qual scope s.heap.objs.size f cdv)) (SP (zY CX P w K mg base N qual scope f cdv A outer s H E) [] { nx:=fun _ H'=>Q .non H',rt:=Q }) (zY CX P w K mg base N qual scope f cdv A outer s H E).xe s1):
  FnOk P w K mg base CX (k+1) f (PySem.W.fnOf name qual params body scope dV kV doc pm an cdv ct) ps sp:=by
 refine ⟨len,fun A outer s H args us vs Q E hr e0 hb r hsp=>?_⟩
 have hl:=len _ _ _ _ hsp
 have KX:K.In s.heap:=e0.mod.kin.keeps fun b o e=>(e0.bs b o e).1
 have lim:s.heap.NoLimit:=e0.mod.nolimit.keeps fun b o e=>(e0.bs b o e).1
 have hkind:∀ y ∈ ps.zip us,scope.names.lookup y.1=some .local ∨ (scope.names.lookup y.1=some .cell/\((cellsFrom (s.heap.objs.size+1) scope.names []).lookup y.1).isSome=true):=fun ⟨n,v⟩ hy=>by
  rcases S.par n (List.of_mem_zip hy).1 with q | q
  ·exact .inl q
  ·exact .inr ⟨q,PySem.W.cellsFrom_some _ _ _ (.inl q)⟩
 refine codeAny_call_function hr.depth (KX _ _ lk) rfl S.co S.gen rfl (PySem.W.codeRec_of KX hcd) (hb _ _ _ _ ?_)
 refine wpAny_newFunctionEnv_cells S.kind hkind fun env he s1 x=>?_
 subst he
 refine ⟨lim.keeps x.toInCall.keep,codeAny_func ?_⟩
 have I:Inv (zY CX P w K mg base N qual scope f cdv A outer s H E) [] (L2.zl N vs) H s1:=aah S hr.hd e0 hl r x
 refine wpAny_mono (hbody A outer s H vs Q E s1 (hr.deeper _) hsp I) (fun fl s' hs=>?_) fun e s' hs=>hs
 have fin:∀ {σ':St} {H':Hp} {v:V} {u:Value},Inv (zY CX P w K mg base N qual scope f cdv A outer s H E) [] σ' H' s'->jQ v u->Q v H'->CE outer P w H s Q u s':=
  fun {σ' H' v u} J rv q=>⟨v,H',J.os,J.bare,J.base,J.hok,rv,q⟩
 cases fl with
 | ret u=>
  obtain ⟨v,σ',H',J,rv,q⟩:=hs
  exact fin J rv q
 | next=>
  obtain ⟨σ',H',J,q⟩:=hs
  exact fin (v:=V.non) (u:=Value.none) J rfl q
 | brk=>
  obtain ⟨_,_,_,q⟩:=hs
  exact False.elim q
 | cont=>
  obtain ⟨_,_,_,q⟩:=hs
  exact False.elim q
theorem afT {CX:CXT}{P:Program}{w:World}{K:PySem.W.Frag}{mg:Str->Option Value}{base:Heap}{N:List Str}{qual:Str}{scope:Scope}{f:Addr}{cd:Value}{A:Around}{outer:List Env}{s:Shared}{H:Hp}{E:XK}:Top0 (zY CX P w K mg base N qual scope f cd A outer s H E):=⟨rfl,rfl,rfl⟩
section
variable {P:Program}{w:World}{K:PySem.W.Frag}{mg:Str->Option Value}{base:Heap}
noncomputable def Jl (N:List Str) (n:Nat) (Fx:Rho->Option Str) (ds:List PyData):Option Str:=if ds.length=n then Fx (jB N ds) else none
theorem Qb {x qual:Str}{st:Stmt}{f:Addr}{fd:FuncData}{N ps:List Str}{k:Nat}{Fx:Rho->Option Str} (F:Fun K x qual st f fd) (S:FnScope N ps (jf st))
  (body:∀ (cdv:Value) (A:Around) (outer:List Env) (s:Shared) (H:Hp) (E:XK),Room k (A.deeper (envOfC qual (jf st) s.heap.objs.size f cdv))->aaY (zY (CXt P w) P w K mg base N qual (jf st) f cdv A outer s H E) (jU st) Fx):
  FnOk P w K mg base (CXt P w) (k+1) f fd ps (ahm K mg ps.length (Jl N ps.length Fx)):=by
 with_unfolding_all
  obtain ⟨oc,od,kV,doc,pm,an,cdv,ct,osl,rfl,lk,hcd⟩:=F.ex
  refine ai8 lk hcd S (fun vs H Q E h=>?_) fun A outer s H vs Q E s1 hr h I=>?_
  ·obtain ⟨ds,c,h1,h2,_⟩:=h
   rw [h2.length]; exact h1
  ·obtain ⟨ds,c,h1,h2,h3,h4⟩:=h
   unfold Jl at h3
   rw [if_pos h1] at h3
   refine wpAny_mono (body cdv A outer s H E hr s1 (L2.zl N vs) H (jB N ds) c I (QN h2) h3 fun ev s' t=>?_) (fun _ _ z=>z.elim) fun _ _ z=>z
   obtain ⟨e,C,σ',H',rfl,hC,J,sm,xc⟩:=t
   have T0:Top0 (zY (CXt P w) P w K mg base N qual (jf st) f cdv A outer s H E):=afT
   show wpAny (model P w) (A.deeper (envOfC qual (jf st) s.heap.objs.size f cdv)) (leaving (envOfC qual (jf st) s.heap.objs.size f cdv) (.ref e)) (fun _ s''=>CXt P w outer H s E (.ref e) s'') (fun e' s''=>CXt P w outer H s E e' s'') s'
   have n1:=adF (E:=fun _ _=>False) (A:=A.deeper (envOfC qual (jf st) s.heap.objs.size f cdv)) T0 J.ok.frames J xc
   unfold leaving
   refine wpAny_bind (wpAny_mono n1 (fun _ s2 ⟨J2,t2⟩=>?_) fun _ _ z=>z.elim)
   have n2:=zq (E:=fun _ _=>False) (A:=A.deeper (envOfC qual (jf st) s.heap.objs.size f cdv)) none J2 t2
   refine wpAny_mono n2 (fun _ s3 ⟨J3,t3⟩=>?_) fun _ _ z=>z.elim
   obtain ⟨oe,ws,T,oT,ts,g1,g2,g3,g4,g5,g6,g7,g8,g9⟩:=t3.ob
   exact ⟨e,C,H',rfl,J3.os,J3.bare,J3.base,J3.hok,⟨t3.mine.un,t3.mine.new,oe,ws,T,oT,ts,g1,g2,g3,g4,g5,g6.un,g6.new,g7,g8,g9⟩,h4 C H' hC sm⟩
end
theorem Inv.asA {X:Cx}{pins:List (Addr × Obj)}{σ:St}{H:Hp}{s:Shared}{A:Around}{cm:Bool}{xe:Value->Shared->Prop} (I:Inv X pins σ H s) (hf:A.frames=some X.stack) (hd:cm=true->A.handled=none):Inv { X with A:=A,calm:=cm,xe:=xe } pins σ H s:=
 ⟨⟨I.ok.mod,I.ok.kind,I.ok.glob,I.ok.blt,I.ok.above,I.ok.inj,I.ok.has,I.ok.cab,hd,hf,I.ok.stk,I.ok.exf,I.ok.bs,I.ok.bsz,I.ok.noex,I.ok.exfs,I.ok.funs,I.ok.frf⟩,I.os,I.bare,I.base,I.loc,I.cell,I.free,I.freeC,I.pin,I.hok,I.len⟩
theorem Inv.ofA {X:Cx}{pins:List (Addr × Obj)}{σ:St}{H:Hp}{s:Shared}{A:Around}{cm:Bool}{xe:Value->Shared->Prop} (ok:X.Ok) (I:Inv { X with A:=A,calm:=cm,xe:=xe } pins σ H s):Inv X pins σ H s:=
 ⟨ok,I.os,I.bare,I.base,I.loc,I.cell,I.free,I.freeC,I.pin,I.hok,I.len⟩
theorem Mine.unwish {X:Cx}{E:Value->Shared->Prop}{H:Hp}{b:Addr} (m:Mine (X.wish E) H b):Mine X H b:=⟨m.un,m.new,m.loc,m.cel,m.pin⟩
theorem Xc.unwish {X:Cx}{E:Value->Shared->Prop}{H:Hp}{h:Heap}{e C:Addr} (x:Xc (X.wish E) H h e C):Xc X H h e C:=by
 obtain ⟨oe,vs,h1,h2,h3,h4,h5⟩:=x.ob
 refine ⟨x.mine.unwish,oe,vs,h1,h2,h3,h4,?_⟩
 rcases h5 with q | ⟨T,oT,ts,q1,q2,q3,q4⟩
 ·exact .inl q
 ·exact .inr ⟨T,oT,ts,q1,q2,q3.unwish,q4⟩
@[irreducible] noncomputable def PS0 (X:Cx) (st:Stmt) (F:Rho->Option Out):Prop:=∀ (s:Shared) (σ:St) (H:Hp) (D:Ends),Inv X [] σ H s->tDS X.K F D σ H->wpAny (model X.prog X.w) X.A (exec st X.env) (SP X [] D) X.xe s
@[irreducible] noncomputable def ai9 (X:Cx) (sts:List Stmt) (F:Rho->Option Out):Prop:=∀ (s:Shared) (σ:St) (H:Hp) (D:Ends),Inv X [] σ H s->tDS X.K F D σ H->wpAny (model X.prog X.w) X.A (execs sts X.env) (SP X [] D) X.xe s
section
variable {X:Cx}{st:Stmt}{sts jT tb hb:List Stmt}{F G:Rho->Option Out}{pos:Pos}
theorem akX (h:Qn X sts F):ai9 X sts F:=by
 with_unfolding_all
  exact fun s σ H D I t=>h [] s σ H D I t
theorem ahn (h1:PS0 X st F) (h2:ai9 X jT G):ai9 X (st::jT) (jJ F G):=by
 with_unfolding_all
  intro s σ H D I ⟨ρ,o,en,q,k⟩
  cases hF:F ρ with
  | none=>simp [jJ,hF] at q
  | some o1=>
   cases o1 with
   | nx ρ1=>
    have q':G ρ1=some o:=by simpa [jJ,hF] using q
    refine wpAny_execs_cons (thn (h1 s σ H { D with nx:=fun σ' H'=>jn H H'/\EnvR X.K H' ρ1 σ' } I ⟨ρ,.nx ρ1,en,hF,fun σ' H' s1 e1=>⟨s1,e1⟩⟩) fun f s1 z=>?_)
    cases f with
    | next=>
     obtain ⟨σ',H',I',sm,e1⟩:=z
     exact h2 s1 σ' H' D I' ⟨ρ1,o,e1,q',k.mono sm⟩
    | brk=>exact z
    | cont=>exact z
    | ret u=>exact z
   | rt d=>
    have q':Out.rt d=o:=by simpa [jJ,hF] using q
    subst q'
    refine wpAny_execs_cons (thn (h1 s σ H { D with nx:=fun _ _=>False } I ⟨ρ,.rt d,en,hF,k⟩) fun f s1 z=>?_)
    cases f with
    | next=>obtain ⟨_,_,_,z⟩:=z; exact z.elim
    | brk=>exact z
    | cont=>exact z
    | ret u=>exact z
   | bk ρ1=>
    have q':Out.bk ρ1=o:=by simpa [jJ,hF] using q
    subst q'
    refine wpAny_execs_cons (thn (h1 s σ H { D with nx:=fun _ _=>False } I ⟨ρ,.bk ρ1,en,hF,k⟩) fun f s1 z=>?_)
    cases f with
    | next=>obtain ⟨_,_,_,z⟩:=z; exact z.elim
    | brk=>exact z
    | cont=>exact z
    | ret u=>exact z
   | ct ρ1=>
    have q':Out.ct ρ1=o:=by simpa [jJ,hF] using q
    subst q'
    refine wpAny_execs_cons (thn (h1 s σ H { D with nx:=fun _ _=>False } I ⟨ρ,.ct ρ1,en,hF,k⟩) fun f s1 z=>?_)
    cases f with
    | next=>obtain ⟨_,_,_,z⟩:=z; exact z.elim
    | brk=>exact z
    | cont=>exact z
    | ret u=>exact z
end
section
variable {X:Cx}{st b0:Stmt}{sts jT tb hb:List Stmt}{F G:Rho->Option Out}{fx:Rho->Option Str}{pos:Pos}
noncomputable def ZM (n:Nat):Rho:=List.replicate n none
noncomputable abbrev hX (X:Cx) (e:Addr):Cx:={ X with A:=X.A.mark (some (.ref e)),calm:=false,xe:=fun _ _=>False }
theorem SP.ofA {A:Around}{cm:Bool}{xe:Value->Shared->Prop}{D:Ends}{f:Flow}{s':Shared} (ok:X.Ok) (h:SP { X with A:=A,calm:=cm,xe:=xe } [] D f s'):SP X [] D f s':=by
 cases f with
 | next=>obtain ⟨σ',H',I,q⟩:=h; exact ⟨σ',H',Inv.ofA ok I,q⟩
 | brk=>obtain ⟨σ',H',I,q⟩:=h; exact ⟨σ',H',Inv.ofA ok I,q⟩
 | cont=>obtain ⟨σ',H',I,q⟩:=h; exact ⟨σ',H',Inv.ofA ok I,q⟩
 | ret u=>obtain ⟨v,σ',H',I,r,q⟩:=h; exact ⟨v,σ',H',Inv.ofA ok I,r,q⟩
end
section
variable {P:Program}{w:World}{K:PySem.W.Frag}{mg:Str->Option Value}{base:Heap}
theorem aja {x qual:Str}{st:Stmt}{f:Addr}{fd:FuncData}{N ps:List Str}{k:Nat}{B:Rho->Option Out} (F:Fun K x qual st f fd) (S:FnScope N ps (jf st))
  (body:∀ (cdv:Value) (A:Around) (outer:List Env) (s:Shared) (H:Hp) (E:XK),Room k (A.deeper (envOfC qual (jf st) s.heap.objs.size f cdv))->ai9 (zY CX0 P w K mg base N qual (jf st) f cdv A outer s H E) (jU st) B):
  FnOk P w K mg base CX0 (k+1) f fd ps (Pur K ps.length (jy N ps.length B)):=by
 with_unfolding_all
  obtain ⟨oc,od,kV,doc,pm,an,cdv,ct,osl,rfl,lk,hcd⟩:=F.ex
  refine ai8 lk hcd S (fun vs H Q E h=>?_) fun A outer s H vs Q E s1 hr h I=>?_
  ·obtain ⟨ds,d,h1,h2,_⟩:=h
   rw [h2.length]; exact h1
  ·obtain ⟨ds,d,h1,h2,h3,h4⟩:=h
   unfold jy at h3
   rw [if_pos h1] at h3
   cases hB:B (jB N ds) with
   | none=>rw [hB] at h3; cases h3
   | some o=>
    rw [hB] at h3
    refine body cdv A outer s H E hr s1 (L2.zl N vs) H _ I ⟨jB N ds,o,QN h2,hB,?_⟩
    cases o with
    | rt c=>cases h3; exact fun v H' sm r=>h4 v H' sm r
    | nx ρ=>cases h3; exact fun σ H' sm e=>h4 .non H' sm rfl
    | bk ρ=>cases h3
    | ct ρ=>cases h3
end
theorem ZN {t sl:Addr}{items:Array Value}{vl vu:Value}{lo hi:Option Int}{Q:Value->Shared->Prop} (ht:IsTup s.heap t items) (hs:s.heap.IsSliceOf sl vl vu .none) (pl:IsPart vl lo) (pu:IsPart vu hi)
  (hw:HT.sIx items.size 0 lo=0/\HT.sIx items.size items.size hi=items.size) (h:Q (.ref t) s):wpAny (model prog w) A (getItem (.ref t) (.ref sl)) Q E s:=by
 obtain ⟨os,hos,hcs,hds⟩:=id hs
 have hTs:s.TypeIs (.ref sl) "slice":=⟨os,hos,hcs⟩
 unfold getItem
 first | (with_reducible refine wpAny_holding ?_) | skip
 first | refine wpAny_bind (wpAny_pure ?_) | skip
 refine wpAny_bind (wpAny_sequenceKey ht.typeIs (by decide) ?_)
 refine wpAny_bind (wpAny_callSpecial?_slot (name:=Str.ofString "__getitem__") ht.typeIs PyProof.Rows.slot_tuple_getitem (wpAny_call_entry PyProof.Rows.slot_tuple_getitem ht.typeIs entry_tuple_getitem ?_ (args_tuple_getitem _ _)))
 show wpAny _ _ (Builtin.Tuple.tupleItemsOf (.ref t) >>= _) _ _ s
 refine wpAny_bind (tupleItemsOf_ ht (wpAny_bind (wpAny_typeOf hTs ?_)))
 rw [if_pos (show (Value.type "slice" == Value.type "slice")=true by decide)]
 refine wpAny_bind (HT.sliceApplied_gen hs pl pu ?_)
 rw [hw.1,hw.2]
 have hyes:((((0:Nat):Int) == 0 && (1:Int) == 1 && (items.size - 0) == items.size)=true):=by simp
 show wpAny _ _ (if ((((0:Nat):Int) == 0 && (1:Int) == 1 && (items.size - 0) == items.size)=true) then _ else _) _ _ s
 rw [if_pos hyes]
 obtain ⟨o,ho,hc,hd⟩:=id ht
 have hT:s.TypeIs (.ref t) "tuple":=⟨o,ho,hc⟩
 have ex:∀ {R:Bool->Shared->Prop} {A':Around} {E':Value->Shared->Prop},R true s->wpAny (model prog w) A' (Builtin.Tuple.tupleIsExact (.ref t)) R E' s:=fun {R A' E'} hR=>by
  unfold Builtin.Tuple.tupleIsExact
  first
   | exact wpAny_bind (wpAny_typeOf hT (wpAny_pure hR))
   | (wp_walk; exact hR)
 first
  | exact wpAny_bind (ex (wpAny_bind (wpAny_rule (wpAny_pure ⟨_,rfl,wpAny_pure h⟩))))
  | exact wpAny_bind (ex (by rw [if_pos rfl]; exact wpAny_bind (wpAny_rule (wpAny_pure ⟨_,rfl,wpAny_pure h⟩))))
  | (refine wpAny_bind (ex ?_); wp_walk; exact ⟨_,rfl,wpAny_pure h⟩)
  | (refine wpAny_bind (wpAny_bind (ex ?_)); wp_walk; exact ⟨_,rfl,wpAny_pure h⟩)
section
variable {X:Cx}{e a b c:Expr}{fa fb fc:Rho->Option PyData}{pos p2:Pos}
noncomputable def anS (K:PySem.W.Frag):V->Option Int->Option Int->Hp->VK->Prop:=fun x lo hi H Q=>∃ a xs,x= .ref a/\SqT K H a xs/\(HT.sIx xs.length 0 lo=0/\HT.sIx xs.length xs.length hi=xs.length)/\Q (.ref a) H
theorem ajb:SlR X (anS X.K):=by
 intro pins s σ H x v vl vu lo hi sl Q I rx hs pl pu h
 obtain ⟨a,xs,rfl,hx,hw,q⟩:=h
 cases rx
 obtain ⟨its,r,ht,hz⟩:=I.tuple hx
 have hlen:its.toArray.size=xs.length:=by rw [List.size_toArray]; exact r.length.symm
 exact ⟨"tuple",_,PyProof.Rows.slot_tuple_getitem.lookup,ht.typeIs,ZN ht hs pl pu (by rw [hlen]; exact hw) ⟨.ref a,H,I,rfl,q⟩⟩
noncomputable def ajc (p:PyData) (lo hi:Option Int):Option PyData:=match p with
 | .tuple ds=>some (.tuple (aaX ds lo hi))
 | _=>none
theorem amz {K:PySem.W.Frag}{p d:PyData}{lo hi:Option Int}{x:V}{H:Hp}{Q:VK} (h:ajc p lo hi=some d) (r:Rep K H p x) (k:∀ v H',jn H H'->Rep K H' d v->Q v H'):ans K x lo hi H Q ∨ anS K x lo hi H Q:=by
 unfold ajc at h
 split at h
 ·rename_i ds
  cases h
  obtain ⟨a,xs,e1,e2,e3⟩:=r
  have hl:=e3.length
  have rr:Reps K H (aaX ds lo hi) (ZB xs lo hi):=by
   unfold ZB aaX
   rw [hl]
   exact (e3.drop _).take _
  by_cases hw:HT.sIx xs.length 0 lo=0/\HT.sIx xs.length xs.length hi=xs.length
  ·refine .inr ⟨a,xs,e1,e2,hw,k _ H (jn.refl H) ⟨a,xs,rfl,e2,?_⟩⟩
   have ex:ZB xs lo hi=xs:=by unfold ZB; rw [hw.1,hw.2]; simp
   rw [ex] at rr
   exact rr
  ·refine .inl ⟨a,xs,e1,e2,hw,fun q hq=>?_⟩
   have s1:=jD (o:= .tup (ZB xs lo hi)) hq
   exact k _ _ s1 ⟨q,_,rfl,SqT.of jq,Reps.mono s1 _ _ rr⟩
 ·cases h
end
section
variable {X:Cx}
end
section
variable {X:Cx}
end
section
variable {X:Cx}{e a b c:Expr}{fa fb fc:Rho->Option PyData}{pos p2:Pos}
end
section
variable {X:Cx}
end
section
variable {X:Cx}{e:Expr}{es:List Expr}{pos p:Pos}
noncomputable def alM (x:Str):PyData->Bool
 | .dict [(.str y,.none)]=>decide (y=x)
 | _=>false
@[simp] theorem amA (x:Str):alM x (fnD x)=true:=by simp [alM,fnD]
end
@[irreducible] noncomputable def PAX (X:Cx) (es:List Expr) (fx:Rho->Option Str):Prop:=∀ (pos:Pos) (s:Shared) (σ:St) (H:Hp) (ρ:Rho) (c:Str),Inv X [] σ H s->EnvR X.K H ρ σ->fx ρ=some c->(∀ ev s',Thr X H c ev s'->X.xe ev s')->wpAny (model X.prog X.w) X.A (spliced (backTo pos (starEach es X.env))) (fun _ _=>False) X.xe s
section
variable {X:Cx}{e a b c:Expr}{es:List Expr}{fa:Rho->Option PyData}{fx gx:Rho->Option Str}{pos:Pos}
theorem ajd (h:PDX X e fx) (hs:starEach (e::es) X.env=(false,eval e X.env)::starEach es X.env:=by rfl):PAX X (e::es) fx:=by
 with_unfolding_all
  intro pos s σ H ρ c I en q k
  rw [hs]
  show wpAny _ _ (spliced ((false,eval e X.env)::backTo pos (starEach es X.env))) _ _ s
  exact Calls.spliced_cons (wpAny_mono (h s σ H ρ c I en q k) (fun _ _ z=>z.elim) fun _ _ z=>z)
end
section
variable {X:Cx}{own:Option Nat}{e a b c tg src:Expr}{es:List Expr}{st:Stmt}{sts jT body:List Stmt}{fx gx:Rho->Option Str}{F:Rho->Option Out}{fa:Rho->Option PyData}{pos:Pos}
theorem Thr.unwish {W:Value->Shared->Prop}{Hb Hs:Hp}{c:Str}{ev:Value}{s':Shared} (sb:∀ H3,jn Hb H3->jn Hs H3) (h:Thr (X.wish W) Hb c ev s'):Thr X Hs c ev s':=by
 obtain ⟨e,C,σ',H',h1,h2,h3,h4,h5⟩:=h
 exact ⟨e,C,σ',H',h1,h2,h3.unwish,sb _ h4,h5.unwish⟩
end
section
variable {X:Cx}{e a b c:Expr}{es:List Expr}{st:Stmt}{sts jT:List Stmt}{fx gx:Rho->Option Str}{F:Rho->Option Out}{pos p:Pos}
noncomputable def orX (fx gx:Rho->Option Str):Rho->Option Str:=fun ρ=>match fx ρ with
 | some c=>some c
 | none=>gx ρ
theorem QP (h1:aaY X sts fx) (h2:aaY X sts gx):aaY X sts (orX fx gx):=by
 with_unfolding_all
  intro s σ H ρ c I en q k
  cases hf:fx ρ with
  | some c'=>
   have:c'=c:=by simpa [orX,hf] using q
   subst this
   exact h1 s σ H ρ c' I en hf k
  | none=>exact h2 s σ H ρ c I en (by simpa [orX,hf] using q) k
end
section
variable {X:Cx}{a b c:Expr}{tc ta tb:Rho->Option Bool}{pos:Pos}
end
section
variable {X:Cx}{a b:Expr}{fa fb:Rho->Option PyData}
theorem abM:∀ {is:List Bool}{us:List Value},jC (is.map V.bl) us->us=is.map Value.bool
 | [],us,r=>by cases r; rfl
 | i0::is,u::us,.cons r rr=>by
  rw [List.map_cons,←abM rr,show u=Value.bool i0 from r]
noncomputable def aho (k:Bool):Value->Bool
 | .bool i=>i == k
 | _=>false
noncomputable def akY:V->List V->Hp->VK->Prop:=fun x vs H Q=>∃ (l:Addr) (is:List Bool) (k:Bool) (j:Nat),x= .ref l/\vs=[.bl k]/\H l=some (.lst (is.map V.bl))/\is.findIdx? (· == k)=some j/\Q (.int j) H
noncomputable def akZ:V->List V->Hp->VK->Prop:=fun x vs H Q=>∃ (l:Addr) (is:List Bool) (k:Bool),x= .ref l/\vs=[.bl k]/\H l=some (.lst (is.map V.bl))/\Q (.int (is.countP (· == k))) H
theorem ahp:MtR X "list.index" akY:=by
 intro pins s σ H x vs v us Q I rx rv h
 obtain ⟨l,is,k,j,rfl,rfl,hH,hj,q⟩:=h
 cases rx
 obtain ⟨u,rfl,ru⟩:=jC.one rv
 cases (show u=Value.bool k from ru)
 obtain ⟨z,its,n,r,hl,e⟩:=I.lstM hH
 have hlen:=r.length
 simp only [List.length_map] at hlen
 have hits:=abM r
 subst hits
 obtain ⟨hj1,hj2,hj3⟩:=List.findIdx?_eq_some_iff_getElem.mp hj
 have hln:=aag
 have z':=z
 rw [List.length_map] at z'
 refine call_meets F.slot_list_index ⟨_,e,rfl⟩ F.entry_list_index (F.args_list_index_2 _ _) (SeqAt.list_indexAt l (is.map Value.bool).toArray n none #[] (.bool k) (aho k) j (by simp; omega) ?_ ?_ ?_) ⟨e,?_,?_⟩
 ·omega
 ·simp [aho]; exact beq_iff_eq.mp hj2
 ·intro m hm hmj
  simp [aho]
  have:=hj3 m hmj
  exact fun z=>this (by rw [z]; exact beq_self_eq_true k)
 ·intro y hy
  have hy':y ∈ is.map Value.bool:=by simpa using hy
  obtain ⟨i,_,rfl⟩:=List.mem_map.mp hy'
  exact SeqAt.EqAt.bool_bool _ _
 ·exact ⟨.int j,H,I.tok _,⟨_,rfl⟩,q⟩
theorem ahq:MtR X "list.count" akZ:=by
 intro pins s σ H x vs v us Q I rx rv h
 obtain ⟨l,is,k,rfl,rfl,hH,q⟩:=h
 cases rx
 obtain ⟨u,rfl,ru⟩:=jC.one rv
 cases (show u=Value.bool k from ru)
 obtain ⟨z,its,n,r,hl,e⟩:=I.lstM hH
 have hits:=abM r
 subst hits
 have hc:((is.map Value.bool).toArray.toList.countP (aho k))=is.countP (· == k):=by
  show (is.map Value.bool).countP (aho k)=_
  rw [List.countP_map]; rfl
 refine call_meets F.slot_list_count ⟨_,e,rfl⟩ F.entry_list_count (F.args_list_count_2 _ _) (SeqAt.list_countAt l (is.map Value.bool).toArray n none #[] (.bool k) (aho k)) ⟨e,?_,?_⟩
 ·intro y hy
  have hy':y ∈ is.map Value.bool:=by simpa using hy
  obtain ⟨i,_,rfl⟩:=List.mem_map.mp hy'
  exact SeqAt.EqAt.bool_bool _ _
 ·exact ⟨.int (is.countP (· == k)),H,I.tok _,⟨_,by rw [←hc]⟩,q⟩
noncomputable def aeF:List PyData->Option (List Bool)
 | []=>some []
 | .bool i::r=>(aeF r).map (i::·)
 | _=>none
theorem afU {K:PySem.W.Frag}{H:Hp}:∀ {ds:List PyData}{is:List Bool}{xs:List V},aeF ds=some is->Reps K H ds xs->xs=is.map V.bl
 | [],is,xs,h,r=>by cases h; exact r
 | d::ds,is,xs,h,r=>by
  obtain ⟨x,ys,e1,e2,e3⟩:=r
  cases d with
  | bool i=>
   simp only [aeF,Option.map_eq_some_iff] at h
   obtain ⟨js,h1,h2⟩:=h
   subst h2
   cases (show x=_ from e2)
   rw [e1,afU h1 e3]; rfl
  | _=>simp [aeF] at h
noncomputable def adH (p q:PyData):Option PyData:=match p,q with
 | .list ds,.bool k=>(aeF ds).bind fun is=>(is.findIdx? (· == k)).map fun (j:Nat)=>PyData.int j
 | _,_=>none
noncomputable def adI (p q:PyData):Option PyData:=match p,q with
 | .list ds,.bool k=>(aeF ds).map fun is=>PyData.int (is.countP (· == k))
 | _,_=>none
theorem ahr {apos cpos:Pos} (ha:PD X a fa) (hb:PD X b fb) (hbase:attributeBase a "index" X.env (eval a X.env)=eval a X.env:=by rfl)
  (hfew:((backTo cpos (starEach [b] X.env)).all (fun x=>!x.1) && (backToKw cpos (keywordEach [] X.env)).all (fun x=>x.1.isSome) && decide ([b].length+([]:List Keyword).length+(if ([]:List Keyword).isEmpty then 0 else 1) < 30))=true:=by rfl)
  (hline:(apos.endLine == cpos.line)=true:=by rfl) (hs:starEach [b] X.env=(false,eval b X.env)::starEach [] X.env:=by rfl) (hplain:(backTo cpos (starEach [] X.env)).any (fun x=>x.1)=false:=by rfl):
  PD X (.Call (.Attribute a "index" apos) [b] [] cpos) (op2 adH fa fb):=by
 with_unfolding_all
  refine PE.imp (acH PySem.F.plainAttrs_list PySem.F.slot_list_index PySem.F.type_list_index ahp ha (qg hb qY hs) hbase hfew hline hs hplain) fun σ H Q ⟨ρ,d,en,h,k⟩=>?_
  cases h1:fa ρ with
  | none=>simp [op2,h1] at h
  | some p=>
   cases h2:fb ρ with
   | none=>simp [op2,h1,h2] at h
   | some q=>
    have h':adH p q=some d:=by simpa [op2,h1,h2] using h
    unfold adH at h'
    split at h'
    ·rename_i ds n
     cases h3:aeF ds with
     | none=>simp [h3] at h'
     | some is=>
      cases h4:is.findIdx? (· == n) with
      | none=>simp [h3,h4] at h'
      | some j=>
       simp only [h3,h4,zzD,zzE,Option.some.injEq] at h'
       subst h'
       refine ⟨ρ,_,en,h1,fun v H1 s1 r1=>?_⟩
       obtain ⟨l,xs,e1,e2,e3⟩:=r1
       subst e1
       refine ⟨.inl ⟨rfl,xs,SqL.of e2⟩,ρ,_,en.mono s1,h2,fun y H2 s2 r2=>?_⟩
       cases (show y=V.bl n from r2)
       refine ⟨l,is,n,j,rfl,rfl,?_,h4,k _ H2 (s1.trans s2) rfl⟩
       rw [←afU h3 e3]
       exact s2 _ _ e2
    ·cases h'
theorem ahs {apos cpos:Pos} (ha:PD X a fa) (hb:PD X b fb) (hbase:attributeBase a "count" X.env (eval a X.env)=eval a X.env:=by rfl)
  (hfew:((backTo cpos (starEach [b] X.env)).all (fun x=>!x.1) && (backToKw cpos (keywordEach [] X.env)).all (fun x=>x.1.isSome) && decide ([b].length+([]:List Keyword).length+(if ([]:List Keyword).isEmpty then 0 else 1) < 30))=true:=by rfl)
  (hline:(apos.endLine == cpos.line)=true:=by rfl) (hs:starEach [b] X.env=(false,eval b X.env)::starEach [] X.env:=by rfl) (hplain:(backTo cpos (starEach [] X.env)).any (fun x=>x.1)=false:=by rfl):
  PD X (.Call (.Attribute a "count" apos) [b] [] cpos) (op2 adI fa fb):=by
 with_unfolding_all
  refine PE.imp (acH PySem.F.plainAttrs_list PySem.F.slot_list_count PySem.F.type_list_count ahq ha (qg hb qY hs) hbase hfew hline hs hplain) fun σ H Q ⟨ρ,d,en,h,k⟩=>?_
  cases h1:fa ρ with
  | none=>simp [op2,h1] at h
  | some p=>
   cases h2:fb ρ with
   | none=>simp [op2,h1,h2] at h
   | some q=>
    have h':adI p q=some d:=by simpa [op2,h1,h2] using h
    unfold adI at h'
    split at h'
    ·rename_i ds n
     cases h3:aeF ds with
     | none=>simp [h3] at h'
     | some is=>
      simp only [h3,zzE,Option.some.injEq] at h'
      subst h'
      refine ⟨ρ,_,en,h1,fun v H1 s1 r1=>?_⟩
      obtain ⟨l,xs,e1,e2,e3⟩:=r1
      subst e1
      refine ⟨.inl ⟨rfl,xs,SqL.of e2⟩,ρ,_,en.mono s1,h2,fun y H2 s2 r2=>?_⟩
      cases (show y=V.bl n from r2)
      refine ⟨l,is,n,rfl,rfl,?_,k _ H2 (s1.trans s2) rfl⟩
      rw [←afU h3 e3]
      exact s2 _ _ e2
    ·cases h'
end
structure RoomH (k:Nat) (A:Around):Prop where
 dp:A.depth+3*k+5 < recursionLimit
 un:A.units+16*k+200 < cLine
theorem RoomH.deeper {k:Nat}{A:Around} (r:RoomH (k+1) A) (env:Env):RoomH k (A.deeper env):=
 ⟨by have:=r.dp; show A.depth+1+3*k+5 < _; omega,by have:=r.un; show A.units+3+16*k+200 < _; omega⟩
theorem Room.h {k:Nat}{A:Around} (r:Room k A):RoomH k A:=⟨r.dp,r.un⟩
theorem RoomH.mark {k:Nat}{A:Around}{v:Option Value} (r:RoomH k A):RoomH k (A.mark v):=⟨r.dp,r.un⟩
structure FnH (P:Program) (w:World) (K:PySem.W.Frag) (mg:Str->Option Value) (base:Heap) (k:Nat) (f:Addr) (fd:FuncData) (ps:List Str) (sp:Sp):Prop where
 len:∀ vs H Q E,sp vs H Q E->vs.length=ps.length
 run:∀ (A:Around) (outer:List Env) (s:Shared) (H:Hp) (args:Args) (us:List Value) (vs:List V) (Q:VK) (E:XK),RoomH k A->Env0 P w K mg base A outer s H->BindsTo s fd args (ps.zip us)->jC vs us->sp vs H Q E->
  codeAny (model P w) A (.call (.ref f) args) (CR CX0 outer P w H s Q E) s
noncomputable abbrev cxH (P:Program) (w:World) (K:PySem.W.Frag) (mg:Str->Option Value) (base:Heap) (N:List Str) (qual:Str) (scope:Scope) (f:Addr) (cd:Value) (A:Around) (outer:List Env) (s:Shared) (H:Hp) (E:XK):Cx:=
 { zY CX0 P w K mg base N qual scope f cd { A with handled:=none } outer s H E with A:=A.deeper (envOfC qual scope s.heap.objs.size f cd),calm:=false,xe:=fun _ _=>False }
noncomputable def aa5 (P:Program) (w:World) (K:PySem.W.Frag) (mg:Str->Option Value) (base:Heap) (x:Str) (ps:List Str) (k n:Nat) (g:List PyData->Option PyData):Prop:=
 ∃ (f:Addr) (fd:FuncData),FnH P w K mg base k f fd ps (Pur K n g)/\mg x=some (.ref f)/\PySem.W.keepIn K (.ref f)=true/\Qr K fd ps []
section
variable {P:Program}{w:World}{K:PySem.W.Frag}{mg:Str->Option Value}{base:Heap}
theorem aoA {x qual:Str}{st:Stmt}{f:Addr}{fd:FuncData}{N ps:List Str}{k:Nat}{B:Rho->Option Out} (F:Fun K x qual st f fd) (S:FnScope N ps (jf st))
  (body:∀ (cdv:Value) (A:Around) (outer:List Env) (s:Shared) (H:Hp) (E:XK),RoomH k (A.deeper (envOfC qual (jf st) s.heap.objs.size f cdv))->Qn (cxH P w K mg base N qual (jf st) f cdv A outer s H E) (jU st) B):
  FnH P w K mg base (k+1) f fd ps (Pur K ps.length (jy N ps.length B)):=by
 with_unfolding_all
  obtain ⟨oc,od,kV,doc,pm,an,cdv,ct,osl,rfl,lk,hcd⟩:=F.ex
  have len:∀ vs H Q E,Pur K ps.length (jy N ps.length B) vs H Q E->vs.length=ps.length:=fun vs H Q E h=>by
   obtain ⟨ds,d,h1,h2,_⟩:=h
   rw [h2.length]; exact h1
  refine ⟨len,fun A outer s H args us vs Q E hr e0 hb r hsp=>?_⟩
  have hl:=len _ _ _ _ hsp
  have KX:K.In s.heap:=e0.mod.kin.keeps fun b o e=>(e0.bs b o e).1
  have lim:s.heap.NoLimit:=e0.mod.nolimit.keeps fun b o e=>(e0.bs b o e).1
  have hkind:∀ y ∈ ps.zip us,(jf st).names.lookup y.1=some .local ∨ ((jf st).names.lookup y.1=some .cell/\((cellsFrom (s.heap.objs.size+1) (jf st).names []).lookup y.1).isSome=true):=fun ⟨n,v⟩ hy=>by
   rcases S.par n (List.of_mem_zip hy).1 with q | q
   ·exact .inl q
   ·exact .inr ⟨q,PySem.W.cellsFrom_some _ _ _ (.inl q)⟩
  have hdp:A.depth < recursionLimit:=by have:=hr.dp; omega
  refine codeAny_call_function hdp (KX _ _ lk) rfl S.co S.gen rfl (PySem.W.codeRec_of KX hcd) (hb _ _ _ _ ?_)
  refine wpAny_newFunctionEnv_cells S.kind hkind fun env he s1 x=>?_
  subst he
  refine ⟨lim.keeps x.toInCall.keep,codeAny_func ?_⟩
  have e1:Env0 P w K mg base { A with handled:=none } outer s H:=⟨e0.frames,e0.mod,e0.bs,e0.bsz,e0.funs,e0.frf,e0.hok,e0.bare⟩
  have I0:Inv (zY CX0 P w K mg base N qual (jf st) f cdv { A with handled:=none } outer s H E) [] (L2.zl N vs) H s1:=aah S rfl e1 hl r x
  have I:Inv (cxH P w K mg base N qual (jf st) f cdv A outer s H E) [] (L2.zl N vs) H s1:=Inv.asA I0 I0.ok.frames (fun z=>nomatch z)
  obtain ⟨ds,d,h1,h2,h3,h4⟩:=hsp
  unfold jy at h3
  rw [if_pos h1] at h3
  cases hB:B (jB N ds) with
  | none=>rw [hB] at h3; cases h3
  | some o=>
   rw [hB] at h3
   have bd:=body cdv A outer s H E (hr.deeper _) [] s1 (L2.zl N vs) H { nx:=fun _ H'=>Q .non H',rt:=Q } I ⟨jB N ds,o,QN h2,hB,by
    cases o with
    | rt c=>cases h3; exact fun v H' sm r=>h4 v H' sm r
    | nx ρ=>cases h3; exact fun σ H' sm e=>h4 .non H' sm rfl
    | bk ρ=>cases h3
    | ct ρ=>cases h3⟩
   refine wpAny_mono bd (fun fl s' hs=>?_) fun e s' hs=>hs.elim
   have fin:∀ {σ':St} {H':Hp} {v:V} {u:Value},Inv (cxH P w K mg base N qual (jf st) f cdv A outer s H E) [] σ' H' s'->jQ v u->Q v H'->CE outer P w H s Q u s':=
    fun {σ' H' v u} J rv q=>⟨v,H',J.os,J.bare,J.base,J.hok,rv,q⟩
   cases fl with
   | ret u=>
    obtain ⟨v,σ',H',J,rv,q⟩:=hs
    exact fin J rv q
   | next=>
    obtain ⟨σ',H',J,q⟩:=hs
    exact fin (v:=V.non) (u:=Value.none) J rfl q
   | brk=>
    obtain ⟨_,_,_,q⟩:=hs
    exact False.elim q
   | cont=>
    obtain ⟨_,_,_,q⟩:=hs
    exact False.elim q
end
section
variable {X:Cx}{e:Expr}{es:List Expr}{pos:Pos}
theorem aje {k n:Nat}{ps:List Str}{g:List PyData->Option PyData}{x:Str}{p:Pos}{fr:Rho->Option (List PyData)} (c:aa5 X.prog X.w X.K X.mg X.base x ps k n g) (hr:RoomH k X.A) (ha:PAD X (e::es) fr)
  (hl:∀ (ρ:Rho) (ds:List PyData),fr ρ=some ds->ds.length=n) (hn:(e::es).length=n:=by rfl) (hg:Gl X x:=by rfl) (hdb:(x == ("__debug__":Str))=false:=by decide) (he:starEach (e::es) X.env=(false,eval e X.env)::starEach es X.env:=by rfl)
  (hpl:(backTo pos (starEach es X.env)).any (·.1)=false:=by rfl):PD X (.Call (.Name x p) (e::es) [] pos) (jA g fr):=by
 with_unfolding_all
  obtain ⟨f,fd,F,hm,hk,hb⟩:=c
  have run:∀ {pins:List (Addr × Obj)} {σ:St} {H:Hp} {s:Shared} {Q:VK} {us:List Value} {vs:List V},Inv X pins σ H s->jC vs us->Pur X.K n g vs H Q (fun _ _ _=>False)->wpAny (model X.prog X.w) X.A (call (.ref f) us) (EP X pins σ Q) X.xe s:=by
   intro pins σ H s Q us vs I r h
   have hl:us.length=ps.length:=by rw [←r.length]; exact F.len _ _ _ _ h
   have hb':=hb s us I.kIn (by rw [List.append_nil]; exact hl)
   rw [List.append_nil] at hb'
   refine wpAny_call (codeAny_mono (F.run X.A X.stack s H ⟨us,[]⟩ us vs Q (fun _ _ _=>False) hr I.env0 hb' r h) fun r s' hq=>?_)
   cases r with
   | error e=>exact (aio [] σ H s e s' (I.pins_of fun p hp=>nomatch hp) hq:X.xe e s')
   | ok fl=>
    cases fl with
    | ret u=>exact I.after hq
    | next=>exact False.elim hq
    | brk=>exact False.elim hq
    | cont=>exact False.elim hq
  have pc:PE X (.Call (.Name x p) (e::es) [] pos) (alH (Pur X.K n g) [] (fun _ _ _=>False) (tDA X.K fr)):=by
   intro pins s σ H Q I h
   refine wpAny_Call_Name_kw (QM I hg hm ?_ hdb)
   refine PySem.W.callWith_K (h₀:=X.base) I.ok.mod.kin hk (thn (ha pos pins s σ H _ I h) fun us s1 ⟨vs,H1,I1,r,q⟩=>⟨I1.kIn,?_⟩) he hpl
   have q':Pur X.K n g (vs++[]) H1 Q (fun _ _ _=>False):=q
   rw [List.append_nil] at q'
   exact run I1 r q'
  refine PE.imp pc fun σ H Q ⟨ρ,d,en,q,k⟩=>?_
  cases h1:fr ρ with
  | none=>simp [jA,h1] at q
  | some ds=>
   refine ⟨ρ,ds,en,h1,fun vs H1 s1 r1=>?_⟩
   exact ⟨ds,d,by rw [hl ρ ds h1],by rw [List.append_nil]; exact r1,by simpa [jA,h1] using q,fun v H' s r=>k v H' (s1.trans s) r⟩
end
structure ExcK (K:PySem.W.Frag) (C:Addr):Prop where
 exc:PySem.W.excIn K C vB "ValueError.__new__"=true
 ga:PySem.W.findIn K (.ref C) "__getattribute__"=some (some (.builtin "BaseException.__getattribute__"))
 gt:PySem.W.findIn K (.ref C) "__getattr__"=some none
 cl:PySem.W.findIn K (.ref C) "__class__"=some (some (.builtin "object.__class__"))
 mo:PySem.W.mroIn K C (.type "object")=some true
 mb:PySem.W.mroIn K C (.type "BaseException")=some true
theorem aeG {K:PySem.W.Frag}{C:Addr}{t:Value}{b:Bool} (h:PySem.W.mroIn K C t=some b):(PySem.W.clsIn K C).isSome=true:=by
 unfold PySem.W.mroIn at h
 cases hc:PySem.W.clsIn K C with
 | none=>rw [hc] at h; cases h
 | some cd=>rfl
theorem ExcK.ci {K:PySem.W.Frag}{C:Addr} (h:ExcK K C):(PySem.W.clsIn K C).isSome=true:=aeG h.mo
structure ClsG (K:PySem.W.Frag):Prop where
 gt:PySem.W.specialIn K (.builtin "object.__class__") "__get__"=some (some (.builtin "getset_descriptor.__get__"))
 tk:PySem.W.takesIn K (.builtin "object.__class__")=some true
section
variable {prog:Program}{w:World}{A:Around}{E:Value->Shared->Prop}{s:Shared}{K:PySem.W.Frag}{a C:Addr}{oe:Obj}
theorem ajf (hg:ClsG K) (hc:ExcK K C):PySem.W.findObj K C none "__class__"=some (.bind (.builtin "getset_descriptor.__get__") (.builtin "object.__class__")):=by
 obtain ⟨cd,h1⟩:=Option.isSome_iff_exists.mp hc.ci
 unfold PySem.W.findObj
 rw [h1,zzD,hc.cl,zzD]
 simp [hg.gt,hg.tk]
theorem aht {nameV:Value}{Q:Unit->Shared->Prop} (X:K.In s.heap) (hc:ExcK K C) (I:PySem.W.InstAt s.heap a oe C none) (hq:Q () s):wpAny (model prog w) A (checkBuiltinCall "BaseException.__getattribute__" ⟨[.ref a,nameV],[]⟩) Q E s:=by
 have hk:builtinKind "BaseException.__getattribute__"=some .slot:=by decide +kernel
 have hsplit:splitId "BaseException.__getattribute__"=some ("BaseException","__getattribute__"):=by decide +kernel
 have ha:=F.args_bexc_ga (.ref a) nameV
 have L0:=I.type (M:=model prog w)
 have L1:=PySem.W.looks_mroIn (M:=model prog w) X hc.mb
 obtain ⟨hh,g,d,t,os⟩:=s
 simp only [checkBuiltinCall,hk,hsplit]
 refine wpAny_bind ?_
 unfold isInstance
 repeat (first | with_reducible refine L0.at ?_ | with_reducible refine L1.at ?_ | wp_step)
 exact hq
theorem ahu {tk:Tok}{Q:Fin->Shared->Prop} (X:K.In s.heap) (hg:ClsG K) (hc:ExcK K C) (I:PySem.W.InstAt s.heap a oe C none) (hq:Q (.done (.ret (.ref C))) s):
  wpAny (model prog w) A (Builtin.«object.__getattribute__» ⟨[.ref a,.str "__class__" tk],[]⟩) Q E s:=by
 have L0:=I.type (M:=model prog w)
 have L1:=PySem.W.looks_find (M:=model prog w) X I (ajf hg hc)
 obtain ⟨hh,g,d,t,os⟩:=s
 refine wpAny_bind (wpAny_pure (wpAny_bind (wpAny_pure (wpAny_bind (L0.at (wpAny_bind (L1.at ?_)))))))
 show wpAny _ _ (holding [Value.builtin "object.__class__"] (call (.builtin "getset_descriptor.__get__") [.builtin "object.__class__",.ref a,.ref C]) >>= ret) _ _ _
 refine wpAny_bind (wpAny_holding (wpAny_call (PySem.W.class_get (ox:=oe) (od:=none) X I hc.mo ?_)))
 exact wpAny_pure hq
theorem ak0 {Q:Option Value->Shared->Prop} (X:K.In s.heap) (hg:ClsG K) (hc:ExcK K C) (I:PySem.W.InstAt s.heap a oe C none) (hq:Q (some (.ref C)) { s with toks:=s.toks+1 }):wpAny (model prog w) A (getAttr? (.ref a) "__class__") Q E s:=by
 have L0:=I.type (M:=model prog w)
 have L1:=PySem.W.looks_findIn (M:=model prog w) X hc.ga
 have L2:=PySem.W.looks_findIn (M:=model prog w) X hc.gt
 obtain ⟨hh,g,d,t,os⟩:=s
 unfold getAttr? getAttrBy? getAttrBy
 refine wpAny_bind (wpAny_mkText (wpAny_bind (wpAny_attempt (wpAny_holding (wpAny_bind (L0.at (wpAny_bind (L1.at ?_))))))))
 have hx2:(Value.builtin "BaseException.__getattribute__" == Value.builtin "object.__getattribute__")=false:=by decide +kernel
 have hx1:(onTheHeap (Value.ref C) && Value.builtin "BaseException.__getattribute__" == Value.builtin "object.__getattribute__")=false:=by rw [hx2]; rfl
 dsimp only
 rw [hx1]
 show wpAny _ _ (getAttrByItsOwn _ _ _ _ _ _) _ _ _
 unfold getAttrByItsOwn hookBefore
 rw [if_pos (show onTheHeap (Value.ref C)=true from rfl)]
 refine wpAny_bind (L2.at (wpAny_bind (wpAny_attempt (wpAny_holding ?_))))
 unfold callGetattribute
 rw [if_neg (by simp)]
 have f3:=PySem.F.attr_ValueError.ga.bind (.ref a)
 have fin:codeAny (model prog w) A (.call (.builtin "BaseException.__getattribute__") ⟨[.ref a,.str "__class__" t],[]⟩) (fun r s'=>match r with | .ok (.ret v)=>v= .ref C/\s'=⟨hh,g,d,t+1,os⟩ | _=>False) ⟨hh,g,d,t+1,os⟩:=
  codeAny_call_builtin PySem.F.attr_ValueError.ga.plain F.entry_bexc_ga (aht (s:=⟨hh,g,d,t+1,os⟩) X hc I (ahu (s:=⟨hh,g,d,t+1,os⟩) X hg hc I ⟨rfl,rfl⟩))
 unfold boundAndCalled
 rw [f3]
 refine wpAny_bind (wpAny_pure (wpAny_call (codeAny_mono fin fun r s' hr=>?_)))
 cases r with
 | error e=>exact hr.elim
 | ok fl=>
  cases fl with
  | ret v=>
   obtain ⟨rfl,rfl⟩:=hr
   exact PySem.W.handed_on rfl (wpAny_pure hq)
  | next=>exact hr.elim
  | brk=>exact hr.elim
  | cont=>exact hr.elim
theorem ajg (hg:ClsG K) (hc:ExcK K C):PySem.W.KitX K (.ref a) (.ref C) (fun h=>∃ oe,PySem.W.InstAt h a oe C none) where
 ty:=fun _ _ _ ⟨_,I⟩=>I.type
 it:=fun _ _ X _=>by
  obtain ⟨cdD,hcD⟩:=Option.isSome_iff_exists.mp hc.ci
  unfold PySem.W.clsIn at hcD
  split at hcD
  ·rename_i ho
   intro A' Q' E' s' k q
   unfold isType loadHead
   exact wpAny_bind (wpAny_loadPart (k _ _ (X _ _ ho)) (wpAny_pure q))
  ·cases hcD
 ne:=fun h tp dd its n sl X htp=>by
  obtain ⟨cdD,hcD⟩:=Option.isSome_iff_exists.mp hc.ci
  refine Bool.eq_false_iff.mpr fun q=>?_
  have e:C=tp:=Value.ref.inj (beq_iff_eq.mp q)
  subst e
  unfold PySem.W.clsIn at hcD
  split at hcD
  ·rename_i ho
   have z:=(X _ _ ho).symm.trans htp
   cases z
  ·cases hcD
 ca:=fun X ⟨_,I⟩ k=>ak0 X hg hc I k
end
noncomputable def adr (K:PySem.W.Frag) (c:Str):Option Addr:=match PySem.W.nsIn K mainGlobals c with
 | some (some (.ref C))=>some C
 | _=>none
theorem amB {K:PySem.W.Frag}{c:Str}{C:Addr} (h:PySem.W.nsIn K mainGlobals c=some (some (.ref C))):adr K c=some C:=by
 unfold adr; rw [h]
theorem agC {K:PySem.W.Frag}{c:Str}{C:Addr} (h:adr K c=some C):PySem.W.nsIn K mainGlobals c=some (some (.ref C)):=by
 unfold adr at h
 split at h
 ·rename_i q; cases h; exact q
 ·cases h
noncomputable def amC (K:PySem.W.Frag) (C:Addr):Bool:=PySem.W.excIn K C vB "ValueError.__new__" && ((PySem.W.findIn K (.ref C) "__getattribute__" == some (some (.builtin "BaseException.__getattribute__"))) && ((PySem.W.findIn K (.ref C) "__getattr__" == some none) && ((PySem.W.findIn K (.ref C) "__class__" == some (some (.builtin "object.__class__"))) && ((PySem.W.mroIn K C (.type "object") == some true) && (PySem.W.mroIn K C (.type "BaseException") == some true)))))
theorem ajh {K:PySem.W.Frag}{C:Addr} (h:amC K C=true):ExcK K C:=by
 unfold amC at h
 simp only [Bool.and_eq_true,beq_iff_eq] at h
 obtain ⟨h1,h2,h3,h4,h5,h6⟩:=h
 exact ⟨h1,h2,h3,h4,h5,h6⟩
noncomputable def adJ (K:PySem.W.Frag) (y:Str) (cs:List Str):Bool:=(PySem.W.specialIn K (.builtin "object.__class__") "__get__" == some (some (.builtin "getset_descriptor.__get__"))) && ((PySem.W.takesIn K (.builtin "object.__class__") == some true) && (match adr K y with
 | none=>false
 | some B=>(PySem.W.typeIn K (.ref B) == some (.type "type")) && ((PySem.W.mroIn K B (.type "BaseException") == some true) && cs.all fun c=>match adr K c with
  | none=>false
  | some C=>amC K C && ((PySem.W.mroIn K C (.ref B) == some true) && ((PySem.W.kitOne K (.ref C) (.type "ValueError") == some true) && cs.all fun d=>match adr K d with
   | none=>false
   | some D=>PySem.W.kitOne K (.ref C) (.ref D) == some (c == d))))))
structure ErrT (K:PySem.W.Frag) (mg:Str->Option Value) (y:Str) (cs:List Str):Prop where
 tab:adJ K y cs=true
 mgs:∀ c C,adr K c=some C->mg c=some (.ref C)
section
variable {K:PySem.W.Frag}{mg:Str->Option Value}{y:Str}{cs:List Str}
theorem ErrT.g (h:ErrT K mg y cs):ClsG K:=by
 have:=h.tab
 unfold adJ at this
 simp only [Bool.and_eq_true,beq_iff_eq] at this
 exact ⟨this.1,this.2.1⟩
theorem ErrT.par (h:ErrT K mg y cs):∃ B,adr K y=some B/\mg y=some (.ref B)/\PySem.W.typeIn K (.ref B)=some (.type "type")/\PySem.W.mroIn K B (.type "BaseException")=some true/\
  ∀ c ∈ cs,∃ C,adr K c=some C/\mg c=some (.ref C)/\ExcK K C/\PySem.W.mroIn K C (.ref B)=some true/\PySem.W.kitOne K (.ref C) (.type "ValueError")=some true/\∀ d ∈ cs,∃ D,adr K d=some D/\mg d=some (.ref D)/\PySem.W.kitOne K (.ref C) (.ref D)=some (c == d):=by
 have q:=h.tab
 unfold adJ at q
 simp only [Bool.and_eq_true,beq_iff_eq] at q
 obtain ⟨_,_,q⟩:=q
 cases hB:adr K y with
 | none=>rw [hB] at q; cases q
 | some B=>
  rw [hB] at q
  simp only [Bool.and_eq_true,beq_iff_eq,List.all_eq_true] at q
  obtain ⟨q1,q2,q3⟩:=q
  refine ⟨B,rfl,h.mgs y B hB,q1,q2,fun c hc=>?_⟩
  have z:=q3 c hc
  cases hC:adr K c with
  | none=>rw [hC] at z; cases z
  | some C=>
   rw [hC] at z
   simp only [Bool.and_eq_true,beq_iff_eq,List.all_eq_true] at z
   obtain ⟨z1,z2,z3,z4⟩:=z
   refine ⟨C,rfl,h.mgs c C hC,ajh z1,z2,z3,fun d hd=>?_⟩
   have v:=z4 d hd
   cases hD:adr K d with
   | none=>rw [hD] at v; cases v
   | some D=>
    rw [hD] at v
    exact ⟨D,rfl,h.mgs d D hD,beq_iff_eq.mp v⟩
theorem ErrT.err (h:ErrT K mg y cs) {c:Str} (hc:c ∈ cs):afS K mg c:=by
 obtain ⟨B,_,_,_,_,q⟩:=h.par
 obtain ⟨C,_,q2,q3,_⟩:=q c hc
 exact ⟨C,q2,q3.exc⟩
end
noncomputable def acT:PyData->Option Str
 | .dict [(.str c,.bool true)]=>some c
 | _=>none
theorem aeH {d:PyData}{c:Str} (h:acT d=some c):d=Jt c:=by
 unfold acT at h
 split at h
 ·cases h; rfl
 ·cases h
@[simp] theorem amD (c:Str):acT (Jt c)=some c:=rfl
theorem aji {K:PySem.W.Frag}{H:Hp}{x:Str}{v:V} (h:Rep K H (Jt x) v):∃ a C oe,v= .ref a/\H a=some (.frz oe (.own a))/\PySem.W.nsIn K mainGlobals x=some (some (.ref C))/\oe.cls= .ref C/\oe.dict=none/\∃ vs,oe.data= .fields vs:=by
 obtain ⟨a,h1,⟨ns,h2,h3⟩ | ⟨ks,ob,h2,h3⟩ | ⟨y,h2,_⟩ | ⟨y,C,oe,h2,h3,h4,h5⟩⟩:=h
 ·cases ns with
  | nil=>cases h3
  | cons n ns=>cases h3
 ·exact h3.elim
 ·cases h2
 ·cases h2
  exact ⟨a,C,oe,h1,h3,h4,h5⟩
noncomputable def ahv (cs:List Str) (f:Str->Bool) (d:PyData):Option PyData:=(acT d).bind fun c=>if c ∈ cs then some (.bool (f c)) else none
section
variable {X:Cx}{a:Expr}{fa:Rho->Option PyData}{pos p p2:Pos}{y:Str}{cs:List Str}
noncomputable def anT (K:PySem.W.Frag) (w:V):List V->Hp->VK->Prop:=fun xs H Q=>∃ x c C b,xs=[x,w]/\Rep K H (Jt c) x/\adr K c=some C/\ExcK K C/\(∀ u,jQ w u->PySem.W.kitOne K (.ref C) u=some b)/\Q (.bl b) H
theorem acU {w:V} (G:ClsG X.K):qX X (.builtin "isinstance") (anT X.K w):=by
 intro pins s σ H xs us Q I r ⟨x,c,C,b,e,h1,hC,hK,h2,q⟩
 subst e
 obtain ⟨u,w',rfl,r1,r2⟩:=aep r
 obtain ⟨a,C',oe,rfl,e2,e3,e4,e5,vs,e6⟩:=aji h1
 have:=amB e3
 rw [hC] at this; cases this
 cases (show u=Value.ref a from r1)
 have at':s.heap.get? a=some oe:=(I.hok _ _ e2).1
 exact PySem.W.kia_one (ajg G hK) I.kIn ⟨oe,at',e4,by unfold PySem.W.notCls; rw [e6],by rw [e5]; trivial⟩ (h2 w' r2) (fun z=>nomatch z) fun tk=>⟨.bl b,H,I.tok tk,rfl,q⟩
theorem adK {T:Str} (hE:ErrT X.K X.mg y cs) (hm1:X.mg "isinstance"=none) (ha:PD X a fa) (hT:T ∈ cs:=by decide) (hg1:Gl X "isinstance":=by rfl) (hg2:Gl X T:=by rfl) (hd:(T == ("__debug__":Str))=false:=by decide)
  (he:starEach [a,.Name T p2] X.env=[(false,eval a X.env),(false,eval (.Name T p2) X.env)]:=by rfl) (he2:starEach [.Name T p2] X.env=[(false,eval (.Name T p2) X.env)]:=by rfl) (hpl:(backTo pos (starEach [.Name T p2] X.env)).any (·.1)=false:=by rfl):
  PD X (.Call (.Name "isinstance" p) [a,.Name T p2] [] pos) (fun ρ=>(fa ρ).bind (ahv cs fun c=>c == T)):=by
 with_unfolding_all
  obtain ⟨B,_,_,_,_,par⟩:=hE.par
  obtain ⟨D,d1,d2,_⟩:=par T hT
  have hT2:PE X (.Name T p2) (tC (.ref D)):=aaZ hg2 d2 rfl hd
  refine PE.imp (ZA (acU (w:= .ref D) hE.g) hg1 hm1 (by decide +kernel) (qg ha (qg hT2 qY (by rw [he2]; rfl)) (by rw [he,he2])) (by decide) (by decide) (by rw [he,he2]) hpl) fun σ H Q ⟨ρ,d,en,q,k⟩=>?_
  cases h1:fa ρ with
  | none=>simp [h1] at q
  | some c0=>
   have q':ahv cs (fun c=>c == T) c0=some d:=by simpa [h1] using q
   unfold ahv at q'
   cases h2:acT c0 with
   | none=>rw [h2] at q'; cases q'
   | some c=>
    rw [h2,zzD] at q'
    by_cases hc:c ∈ cs
    ·rw [if_pos hc] at q'
     cases q'
     have:=aeH h2
     subst this
     obtain ⟨C,c1,c2,c3,c4,c5,c6⟩:=par c hc
     obtain ⟨D',d1',d2',d3'⟩:=c6 T hT
     rw [d1] at d1'; cases d1'
     exact ⟨ρ,_,en,h1,fun v H1 s1 r1=>⟨v,c,C,_,rfl,r1,c1,c3,fun u ru=>by cases (show u=Value.ref D from ru); exact d3',k _ H1 s1 rfl⟩⟩
    ·rw [if_neg hc] at q'; cases q'
theorem ak1 (hE:ErrT X.K X.mg y cs) (hm1:X.mg "isinstance"=none) (hm2:X.mg "ValueError"=none) (ha:PD X a fa) (hg1:Gl X "isinstance":=by rfl) (hg2:Gl X "ValueError":=by rfl)
  (he:starEach [a,.Name "ValueError" p2] X.env=[(false,eval a X.env),(false,eval (.Name "ValueError" p2) X.env)]:=by rfl) (he2:starEach [.Name "ValueError" p2] X.env=[(false,eval (.Name "ValueError" p2) X.env)]:=by rfl) (hpl:(backTo pos (starEach [.Name "ValueError" p2] X.env)).any (·.1)=false:=by rfl):
  PD X (.Call (.Name "isinstance" p) [a,.Name "ValueError" p2] [] pos) (fun ρ=>(fa ρ).bind (ahv cs fun _=>true)):=by
 with_unfolding_all
  obtain ⟨B,_,_,_,_,par⟩:=hE.par
  have hT2:PE X (.Name "ValueError" p2) (tC (.ty "ValueError")):=agi hg2 hm2 (u:= .type "ValueError") (by decide +kernel) rfl (by decide) (by decide)
  refine PE.imp (ZA (acU (w:= .ty "ValueError") hE.g) hg1 hm1 (by decide +kernel) (qg ha (qg hT2 qY (by rw [he2]; rfl)) (by rw [he,he2])) (by decide) (by decide) (by rw [he,he2]) hpl) fun σ H Q ⟨ρ,d,en,q,k⟩=>?_
  cases h1:fa ρ with
  | none=>simp [h1] at q
  | some c0=>
   have q':ahv cs (fun _=>true) c0=some d:=by simpa [h1] using q
   unfold ahv at q'
   cases h2:acT c0 with
   | none=>rw [h2] at q'; cases q'
   | some c=>
    rw [h2,zzD] at q'
    by_cases hc:c ∈ cs
    ·rw [if_pos hc] at q'
     cases q'
     have:=aeH h2
     subst this
     obtain ⟨C,c1,c2,c3,c4,c5,c6⟩:=par c hc
     exact ⟨ρ,_,en,h1,fun v H1 s1 r1=>⟨v,c,C,_,rfl,r1,c1,c3,fun u ru=>by cases (show u=Value.type "ValueError" from ru); exact c5,k _ H1 s1 rfl⟩⟩
    ·rw [if_neg hc] at q'; cases q'
end
section
variable {X:Cx}{σ:St}{H:Hp}{s:Shared}{e C:Addr}
theorem Inv.take {oe:Obj} (I:Inv X [] σ H s) (m:Mine X H e) (he:s.heap.get? e=some oe):Inv X [] σ (upd H e (.frz oe (.own e))) s/\jn H (upd H e (.frz oe (.own e))):=by
 have ne:∀ b o,H b=some o->b ≠ e:=fun b o q z=>by subst z; rw [m.un] at q; cases q
 have sm:jn H (upd H e (.frz oe (.own e))):=fun b o q=>by rw [jm (ne b o q)]; exact q
 have u:Un (frs X.stack) [e] H (upd H e (.frz oe (.own e))) s.heap s.heap:=⟨fun b o q _ _ _=>q,fun b o q _ _ _=>⟨o.slots,q⟩,fun b o q n nc=>by rw [jm (fun z=>nc (by simp [z]))]; exact n,fun b o q _=>⟨o,q⟩,fun b xs q=>sm b _ q,fun b o v q=>sm b _ q,fun b ps q=>⟨#[],by rw [sm b _ q]; simp⟩⟩
 have hok:HOk X.prog X.w (upd H e (.frz oe (.own e))) s.heap:=fun b o q=>by
  by_cases hb:b=e
  ·subst hb
   rw [jq] at q; cases q
   exact ⟨he,_,he⟩
  ·rw [jm hb] at q
   exact (I.hok b o q).stay (fun c v hc r=>r) (fun c r=>sm _ _ r) fun c v r=>sm _ _ r
 refine ⟨?_,sm⟩
 have J:=Inv.call (X:={ X with ex:=[e]++X.ex }) (g':=s.gens) (d':=s.drawn) (t':=s.toks) (Inv.exIn I fun b hb=>by rw [List.mem_singleton.mp hb]; exact ⟨m.new,m.loc,m.cel⟩) u hok I.bare fun b hb=>by
  rw [List.mem_singleton.mp hb]
  exact ⟨.inl (List.mem_append_left _ (by simp)),m.loc,m.cel,fun p hp=>m.pin p (by simpa using hp)⟩
 exact Inv.exOut J I.ok fun b hb=>by rw [List.mem_singleton.mp hb]; exact m.new
theorem ak2 {M:Model}{A:Around}{E:Value->Shared->Prop}{x:Str}{pos:Pos}{Q:Unit->Shared->Prop} (I:Inv X [] σ H s) (hl:X.env.kindOf x=some .local) (h:∀ s',Inv X [] (List.replicate σ.length none) H s'->Q () s'):
  wpAny M A (do bindName X.env x .none; unbindBehindTheSuite X.env x pos) Q E s:=by
 obtain ⟨m,hn,_⟩:=id I.loc
 have hcls:(X.env.scope.kind == .class || (X.env.scope.kind == .module && X.env.locals != X.env.globals))=false:=by rw [I.ok.kind]; rfl
 have cne:=I.cne
 refine wpAny_nameGoes hl hn hcls fun h' m' hn' hs=>?_
 obtain ⟨oL,_,_,hoL,_⟩:=id hn
 have tracked:HOk X.prog X.w H h':=fun b ob e=>by
  refine (I.hok b ob e).stay (fun c w' hc q=>(hs.2 c ?_).trans q) (fun _ q=>q) fun _ _ q=>q
  rintro rfl
  rcases hc with rfl | hc
  ·rw [I.free] at e; cases e
  ·rw [I.free] at hc; cases hc
 refine h _ ⟨I.ok,I.os,I.bare,⟨fun b o e n hb hx=>?_,fun b o e n hb hx=>?_,I.base.free,fun b o e hx=>?_,I.base.tups,I.base.frzs,I.base.tbls⟩,⟨_,hn',fun j y v' e1 e2 e3=>?_⟩,fun y c e=>?_,I.free,I.freeC,fun p hp=>?_,tracked,by simpa using I.len⟩
 ·exact (hs.2 b (Nat.ne_of_lt (Nat.lt_of_lt_of_le (Heap.lt_size e) I.ok.above))).trans (I.base.keep b o e n hb hx)
 ·obtain ⟨sl,e1⟩:=I.base.slot b o e n hb hx
  exact ⟨sl,(hs.2 b (Nat.ne_of_lt (Nat.lt_of_lt_of_le (Heap.lt_size e) I.ok.above))).trans e1⟩
 ·obtain ⟨o',e1⟩:=I.base.there b o e hx
  exact ⟨o',(hs.2 b (Nat.ne_of_lt (Nat.lt_of_lt_of_le (Heap.lt_size e) I.ok.above))).trans e1⟩
 ·rw [List.getElem?_replicate] at e2
  split at e2 <;> cases e2
 ·obtain ⟨w',z⟩:=I.cell y c e
  exact ⟨w',z.sameBut hs (cne y c e)⟩
 ·obtain ⟨e,n,ne,nf,d⟩:=I.pin p hp
  exact ⟨(hs.2 p.1 ne).trans e,n,ne,nf,d⟩
theorem aeI {M:Model}{A:Around}{E:Value->Shared->Prop}{K:PySem.W.Frag}{B:Addr}{oe:Obj}{Q:Bool->Shared->Prop} (X:K.In s.heap) (he:s.heap.get? e=some oe) (hc:oe.cls= .ref C)
  (ht:PySem.W.typeIn K (.ref B)=some (.type "type")) (hB:PySem.W.mroIn K B (.type "BaseException")=some true) (hm:PySem.W.mroIn K C (.ref B)=some true) (hq:Q true s):wpAny M A (excMatches (.ref e) (.ref B)) Q E s:=by
 have L0:=PySem.W.looks_typeIn (M:=M) X ht
 have L1:=PySem.W.looks_mroIn (M:=M) X hB
 have L2':=PySem.W.looks_mroIn (M:=M) X hm
 have Lt:PySem.W.Looks M s.heap (isType (.ref B)) true:=by
  obtain ⟨cdD,hcD⟩:=Option.isSome_iff_exists.mp (aeG hB)
  unfold PySem.W.clsIn at hcD
  split at hcD
  ·rename_i ho
   intro A' Q' E' s' k q
   unfold isType loadHead
   exact wpAny_bind (wpAny_loadPart (k _ _ (X _ _ ho)) (wpAny_pure q))
  ·cases hcD
 have f:=tc_notTuple
 obtain ⟨hp,g,d,tk,os⟩:=s
 unfold excMatches isInstance isExcClass
 repeat (first | (with_reducible refine wpAny_loadPart_at he ?_; rw [hc]) | with_reducible refine L0.at ?_ | with_reducible refine L1.at ?_ | with_reducible refine L2'.at ?_ | with_reducible refine Lt.at ?_ | wp_step)
 exact hq
end
noncomputable def Zq (n i:Nat) (cs:List Str) (F:Rho->Option Out) (fx:Rho->Option Str) (G:Rho->Option Out):Rho->Option Out:=fun ρ=>match F ρ with
 | some o=>some o
 | none=>match fx ρ with
  | some c=>if c ∈ cs then (match G ((ZM n).set i (some (Jt c))) with
   | some (.rt d)=>some (.rt d)
   | _=>none) else none
  | none=>none
section
variable {X:Cx}{st b0:Stmt}{sts jT tb hb:List Stmt}{F G:Rho->Option Out}{fx:Rho->Option Str}{pos:Pos}
theorem ajj {y x:Str}{np hpos:Pos}{n:Nat}{cs:List Str} (i:Nat) (T0:Top0 X) (hN:X.N.length=n) (hnd:X.N.Nodup) (hE:ErrT X.K X.mg y cs) (hn:∀ E,Qn (X.wish E) tb F) (hx:∀ E,aaY (X.wish E) tb fx) (hh:∀ e,Qn (hX X e) (b0::hb) G)
  (hi:X.N[i]?=some x:=by rfl) (hl:X.env.kindOf x=some .local:=by rfl) (hlk:X.env.scope.names.lookup x=some .local:=by rfl) (hg:Gl X y:=by rfl) (hdb:(y == ("__debug__":Str))=false:=by decide):PS0 X (.Try tb [.ExceptHandler (some (.Name y np)) (some x) (b0::hb) hpos] [] [] pos) (Zq n i cs F fx G):=by
 with_unfolding_all
  intro s σ H D I ⟨ρ,o,en,q,k⟩
  refine wpAny_Try_except ?_
  let E':Value->Shared->Prop:=fun ev s1=>wpAny (model X.prog X.w) X.A (noteFrame ev X.env) (fun _ s₂=>wpAny (model X.prog X.w) X.A (setFlight ev none) (fun _ s₃=>wpAny (model X.prog X.w) X.A (handleBy ev X.env [.ExceptHandler (some (.Name y np)) (some x) (b0::hb) hpos]) (SP X [] D) X.xe s₃) X.xe s₂) X.xe s1
  cases hF:F ρ with
  | some o1=>
   have e1:o1=o:=by simpa [Zq,hF] using q
   subst e1
   refine wpAny_mono (hn E' [] s σ H D (I.wish E') ⟨ρ,o1,en,hF,k⟩) (fun f s1 z=>?_) fun _ _ z=>z
   have z':=SP.unwish z
   cases f with
   | next=>exact wpAny_execs_nil z'
   | brk=>exact z'
   | cont=>exact z'
   | ret u=>exact z'
  | none=>
   cases hc:fx ρ with
   | none=>simp [Zq,hF,hc] at q
   | some c=>
    by_cases hy:c ∈ cs
    ·cases hG:G ((ZM n).set i (some (Jt c))) with
     | none=>simp [Zq,hF,hc,hy,hG] at q
     | some o1=>
     cases o1 with
     | nx ρ1=>simp [Zq,hF,hc,hy,hG] at q
     | bk ρ1=>simp [Zq,hF,hc,hy,hG] at q
     | ct ρ1=>simp [Zq,hF,hc,hy,hG] at q
     | rt d=>
     have q':Out.rt d=o:=by simpa [Zq,hF,hc,hy,hG] using q
     subst q'
     obtain ⟨B,aB,mB,tB,bB,par⟩:=hE.par
     obtain ⟨C',aC,mC,xC,pC,_⟩:=par c hy
     refine wpAny_mono (hx E' s σ H ρ c (I.wish E') en hc fun ev s1 t=>?_) (fun _ _ z=>z.elim) fun _ _ z=>z
     obtain ⟨e,C,σ1,H1,rfl,hm,J,sm,xc⟩:=t
     have J0:=J.unwish
     have x0:=xc.unwish
     show wpAny _ X.A (noteFrame (.ref e) X.env) _ _ s1
     refine wpAny_mono (adF (E:=fun _ _=>False) T0 J0.ok.frames J0 x0) (fun _ s2 ⟨J2,t2⟩=>?_) fun _ _ z=>z.elim
     refine wpAny_mono (zq (E:=fun _ _=>False) none J2 t2) (fun _ s3 ⟨J3,t3⟩=>?_) fun _ _ z=>z.elim
     have ok:=J3.ok
     have hm0:X.mg c=some (.ref C):=hm
     rw [hm0] at mC; cases mC
     have fr:(X.A.mark (some (.ref e))).frames=some X.stack:=ok.frames
     have J4:Inv (hX X e) [] σ1 H1 s3:=Inv.asA J3 fr (fun z=>nomatch z)
     refine wpAny_handleBy_cons (codeAny_handlers_test ?_) (fun z=>nomatch z)
     refine QM (X:=hX X e) J4 hg mB ?_ hdb
     obtain ⟨oe,ws,T,oT,ts,g1,g2,g3,g4,g5,g6,g7,g8,g9⟩:=id t3.ob
     refine aeI J4.kIn g1 g2.1 tB bB pC ?_
     refine codeAny_handlers_suite_as ?_
     refine wpAny_mono (zq (A:=X.A.mark (some (.ref e))) (E:=fun _ _=>False) none J3 t3) (fun _ s5 ⟨J5,t5⟩=>?_) fun _ _ z=>z.elim
     obtain ⟨oe5,ws5,T5,oT5,ts5,g51,g52,g53,_⟩:=id t5.ob
     obtain ⟨J6,sm6⟩:=Inv.take J5 t5.mine g51
     have J7:Inv (hX X e) [] σ1 (upd H1 e (.frz oe5 (.own e))) s5:=Inv.asA J6 fr (fun z=>nomatch z)
     have hlen:σ1.length=n:=by rw [←hN,←J5.len]
     refine abl (X:=hX X e) J7 hnd hi (.inl hlk) (v:= .ref e) rfl (fun s6 J8=>?_) (.inr hlk)
     have re:Rep X.K (upd H1 e (.frz oe5 (.own e))) (Jt c) (.ref e):=⟨e,rfl,.inr (.inr (.inr ⟨c,_,oe5,rfl,jq,agC aC,g52.1,g52.2,ws5,g53⟩))⟩
     have eb:EnvR X.K (upd H1 e (.frz oe5 (.own e))) ((ZM n).set i (some (Jt c))) (σ1.set i (some (.ref e))):=by
      refine ⟨by simp [ZM,hlen],fun j d qd=>?_⟩
      by_cases hj:j=i
      ·subst hj
       rw [List.getElem?_set_self (by simp only [ZM,List.length_replicate]; rw [←hN]; exact (List.getElem?_eq_some_iff.mp hi).1)] at qd
       cases qd
       exact ⟨.ref e,List.getElem?_set_self (by rw [hlen,←hN]; exact (List.getElem?_eq_some_iff.mp hi).1),re⟩
      ·rw [List.getElem?_set_ne (Ne.symm hj)] at qd
       simp [ZM,List.getElem?_replicate] at qd
     refine wpAny_mono (hh e [] s6 _ _ { D with nx:=fun _ _=>False,bk:=fun _ _=>False,ct:=fun _ _=>False } J8 ⟨_,.rt d,eb,hG,fun v H' sm' r=>k v H' ((sm.trans sm6).trans sm') r⟩) (fun f s7 z=>?_) fun _ _ z=>z.elim
     have z':=SP.ofA J5.ok z
     cases f with
     | next=>obtain ⟨_,_,_,z⟩:=z'; exact z.elim
     | brk=>obtain ⟨_,_,_,z⟩:=z'; exact z.elim
     | cont=>obtain ⟨_,_,_,z⟩:=z'; exact z.elim
     | ret u=>
      obtain ⟨v,σ',H',I',r,z⟩:=z'
      exact ak2 I' hl fun s8 I8=>⟨v,_,H',I8,r,z⟩
    ·simp [Zq,hF,hc,hy] at q
end
noncomputable def ajk {α:Type} (K:PySem.W.Frag) (enc:α->PyData) (rk:α->Int) (ok:α->Prop):List V->Hp->VK->Prop:=fun vs H Q=>∃ a xs ps,vs=[.ref a]/\H a=some (.lst xs)/\Reps K H (ps.map enc) xs/\ps.length < 64/\(∀ p ∈ ps,ok p)/\
 ∀ qs:List α,qs.Perm ps->qs.Pairwise (fun a b=>rk a<=rk b)->∀ l ys,H l=none->Reps K H (qs.map enc) ys->Q (.ref l) (upd H l (.lst ys))
theorem afV {X:Cx}{α:Type} (z0:α) (enc:α->PyData) (rk:α->Int) (T:Value) (ok:α->Prop) (At:Heap->Value->α->Prop)
  (hat:∀ {pins:List (Addr × Obj)} {σ:St} {H:Hp} {s:Shared} {v:V} {x:α} {u:Value} {h':Heap},Inv X pins σ H s->ok x->Rep X.K H (enc x) v->jQ v u->(∀ b o,b ≠ X.env.locals->s.heap.get? b=some o->h'.get? b=some o)->At h' u x)
  (hfirst:∀ {h:Heap} {u:Value} {x:α},ok x->At h u x->∃ a o xs n f,u= .ref a/\h.get? a=some o/\o.cls= .type "tuple"/\o.data= .seq xs n/\xs[0]?=some f/\∀ M,PySem.W.Looks M h (typeOf f) T)
  (hT:(T == T)=true)
  (hlt:∀ {s:Shared} {u v:Value} {x y:α} {Q:Bool->Shared->Prop} {E:Value->Shared->Prop},ok x->ok y->At s.heap u x->At s.heap v y->Q (decide (rk x < rk y)) s->wpAny (model X.prog X.w) X.A.in1.in1 (keyLt' (tuples' (T != Value.type "tuple")) u v) Q E s):
  qX X (.builtin "sorted") (ajk X.K enc rk ok):=by
 intro pins s σ H vs us0 Q I r ⟨a,xs,ps,e,hl,hR,h64,hB,q⟩
 subst e
 obtain ⟨u,rfl,rx⟩:=aaG r
 cases rx
 obtain ⟨us,rv,pl,hz⟩:=I.list (SqL.of (K:=X.K) hl)
 have l1:=hR.length
 have l2:=rv.length
 rw [List.length_map] at l1
 by_cases h2:us.length < 2
 ·refine afL pl.isList h2 fun h' D c kp ho hD=>?_
  have hps:ps.Pairwise (fun a b=>rk a<=rk b):=ady (by omega)
  refine ⟨.ref D,upd H D (.lst xs),I.laid (t':=s.toks) kp hD ⟨hz,us,c,rv,ho⟩,rfl,q ps (List.Perm.refl _) hps D xs (I.hok.fresh hD) hR⟩
 ·obtain ⟨m,F⟩:=I.fr
  have ge2:2<=us.length:=by omega
  have lt64:us.length < 64:=by omega
  refine PySem.W.kat_sorted (h₀:=X.base) (L:=X.env.locals) (m:=m) (news:=Ji X.base s.heap X.env.locals) (vs:=us) (l:=a) F ah0 pl.isList ge2 lt64 ?_
  intro D e1 h' F' N' hlt'
  have nD:=N' (D,seqObj "list" #[] e1) List.mem_cons_self
  have kpb:∀ {h2:Heap},Fr X.base X.env.locals h2 m->(∀ p ∈ Ji X.base s.heap X.env.locals,h2.get? p.1=some p.2)->∀ b o,b ≠ X.env.locals->s.heap.get? b=some o->h2.get? b=some o:=fun {h2} F2 N2 b o hb e=>by
   cases e3:X.base.get? b with
   | some u=>have:=F.keep b u e3; rw [e] at this; cases this; exact F2.keep b _ e3
   | none=>exact N2 (b,o) (aaF hb e3 e)
  have kp1:=kpb F' fun p hp=>(N' p (List.mem_cons_of_mem _ hp)).1
  have freshD:s.heap.get? D=none:=by
   cases e3:s.heap.get? D with
   | none=>rfl
   | some o=>exact absurd (hlt' (D,o) (aaF nD.2.1 nD.2.2 e3)) (Nat.lt_irrefl _)
  have pr:∀ i (hi:i < ps.length),At h' (us.getD i Value.none) ps[i]:=fun i hi=>by
   obtain ⟨x,ex,er⟩:=hR.get (show (ps.map enc)[i]?=some (enc ps[i]) by simp [hi])
   obtain ⟨v,ev,rv2⟩:=rv.get ex
   rw [getD_some ev]
   exact hat I (hB _ (List.getElem_mem _)) er rv2 kp1
  have hu:us.length=ps.length:=by omega
  have kt:∃ fs:List Value,PySem.W.KatTups h' us fs/\fs.length=us.length/\∀ v ∈ fs,∀ M,PySem.W.Looks M h' (typeOf v) T:=by
   have go:∀ (n:Nat) (ws:List Value),us.drop n=ws->∃ fs:List Value,PySem.W.KatTups h' ws fs/\fs.length=ws.length/\∀ v ∈ fs,∀ M,PySem.W.Looks M h' (typeOf v) T:=by
    intro n ws
    induction ws generalizing n with
    | nil=>intro _; exact ⟨[],trivial,rfl,fun v hv=>nomatch hv⟩
    | cons w ws ih=>
     intro hd
     have hn:us[n]?=some w:=by
      have:(us.drop n)[0]?=some w:=by rw [hd]; rfl
      simpa using this
     have hd':us.drop (n+1)=ws:=by
      have:(us.drop n).drop 1=ws:=by rw [hd]; rfl
      simpa [List.drop_drop,Nat.add_comm] using this
     obtain ⟨fs,t1,t2,t3⟩:=ih (n+1) hd'
     have hlt2:n < ps.length:=by
      have:=(List.getElem?_eq_some_iff.mp hn).1
      omega
     obtain ⟨a2,o,ys,k,f,e1,e2,e3,e4,e5,e6⟩:=hfirst (hB _ (List.getElem_mem _)) (pr n hlt2)
     rw [getD_some hn] at e1
     subst e1
     refine ⟨f::fs,PySem.W.KatTups.cons e2 e3 e4 e5 t1,by simp [t2],fun v hv=>?_⟩
     rcases List.mem_cons.mp hv with rfl | hv
     ·exact e6
     ·exact t3 v hv
   exact go 0 us rfl
  obtain ⟨fs,t1,t2,t3⟩:=kt
  refine PySem.W.kat_kind (s:={ s with heap:=h' }) (T:=T) t1 (by omega) (fun v hv=>t3 v hv _) hT ?_
  show (PySem.W.kas_sort us.length).kasWp (PySem.W.kas_ask X.prog X.w X.A.in1.in1 (tuples' (T != Value.type "tuple")) us) _ { s with heap:=h' }
  refine Srt.sort_ok (rk:=fun i=>rk (ps.getD i z0)) (n:=us.length) (s:={ s with heap:=h' }) (fun i j C hi hj hC=>?_) (by omega) fun p hp hs=>?_
  ·have g1:ps.getD i z0=ps[i]'(by omega):=getD_some (List.getElem?_eq_getElem _)
   have g2:ps.getD j z0=ps[j]'(by omega):=getD_some (List.getElem?_eq_getElem _)
   simp only [g1,g2] at hC
   exact hlt (s:={ s with heap:=h' }) (hB _ (List.getElem_mem _)) (hB _ (List.getElem_mem _)) (pr i (by omega)) (pr j (by omega)) hC
  ·have mem:∀ i ∈ p.toList,i < us.length:=fun i hi=>by
    have:i ∈ (List.range us.length).toArray:=hp.mem_iff.mp (by simpa using hi)
    simpa using this
   have permN:p.toList.Perm (List.range us.length):=by simpa using hp.toList
   refine PySem.W.KasFin.intro (news:=(D,seqObj "list" #[] e1)::Ji X.base s.heap X.env.locals) (g:=fun o'=>(D,o')::Ji X.base s.heap X.env.locals) F' N' (.head fun z hz=>Nat.ne_of_lt (hlt' z hz)) fun h2 c F2 N2=>?_
   have kp2:=kpb F2 fun z hz=>(N2 z (List.mem_cons_of_mem _ hz)).1
   have hD2:=(N2 (D,PySem.W.listOf (List.toArray (p.toList.map fun i=>us.getD i Value.none)) c) List.mem_cons_self).1
   have hln:(p.toList.map fun i=>xs.getD i V.non).length<=sizeLine:=by
    rw [List.length_map,permN.length_eq,List.length_range,sizeLine_eq]; omega
   have I2:=Inv.grownL (ys:=p.toList.map fun i=>xs.getD i V.non) I F.ns F2.ns kp2 freshD hD2 (ahd rv _ mem) hln
   have nH:H D=none:=by
    cases e3:H D with
    | none=>rfl
    | some o=>obtain ⟨u,z⟩:=qO.there (I.hok D o e3); rw [freshD] at z; cases z
   have eqs:(p.toList.map fun i=>(ps.map enc).getD i PyData.none)=(p.toList.map fun i=>ps.getD i z0).map enc:=by
    rw [List.map_map]
    refine List.map_congr_left fun i hi=>?_
    have hi':=mem i hi
    have g1:ps.getD i z0=ps[i]'(by omega):=getD_some (List.getElem?_eq_getElem _)
    show (ps.map enc).getD i PyData.none=enc (ps.getD i z0)
    rw [g1]
    refine getD_some ?_
    rw [List.getElem?_map,List.getElem?_eq_getElem (show i < ps.length by omega)]
    rfl
   have rp:=ahe hR p.toList fun i hi=>by rw [List.length_map]; have:=mem i hi; omega
   rw [eqs] at rp
   refine ⟨.ref D,_,I2,rfl,q _ ?_ ?_ D _ nH rp⟩
   ·have e5:(List.range us.length).map (fun i=>ps.getD i z0)=ps:=by
     apply List.ext_getElem?
     intro i
     rw [List.getElem?_map]
     by_cases hi:i < us.length
     ·rw [List.getElem?_range hi,List.getElem?_eq_getElem (show i < ps.length by omega)]
      show some (ps.getD i z0)=_
      rw [getD_some (List.getElem?_eq_getElem (show i < ps.length by omega))]
     ·rw [List.getElem?_eq_none_iff.mpr (show (List.range us.length).length<=i by rw [List.length_range]; omega),List.getElem?_eq_none_iff.mpr (show ps.length<=i by omega)]
      rfl
    have:=permN.map (fun i=>ps.getD i z0)
    rw [e5] at this
    exact this
   ·rw [List.pairwise_map]
    rw [List.pairwise_iff_getElem]
    intro i j hi hj hij
    have hps:p.size=us.length:=hp.size
    have hi':i < p.size:=by simpa using hi
    have hj':j < p.size:=by simpa using hj
    have:=hs i j (Nat.le_of_lt hij) (by omega)
    simp only [Srt.val] at this
    have g1:p.getD i 0=p.toList[i]:=by simp [Array.getD,hi']
    have g2:p.getD j 0=p.toList[j]:=by simp [Array.getD,hj']
    rw [g1,g2] at this
    exact this
noncomputable abbrev ZO:=Int × (Int × Int)
noncomputable def Zd (t:ZO):PyData:= .tuple [.int t.1,JJ t.2]
noncomputable def qf (t:ZO):Int:=t.1*1000000000000+t.2.1*1000000+t.2.2
noncomputable def inT (t:ZO):Bool:=decide (0<=t.2.1) && decide (t.2.1 < 1000000) && inB t.2
theorem ajl {p q:ZO} (hp:inT p=true) (hq:inT q=true):(qf p < qf q) ↔ (p.1 < q.1 ∨ (p.1=q.1/\(p.2.1 < q.2.1 ∨ (p.2.1=q.2.1/\p.2.2 < q.2.2)))):=by
 simp only [inT,inB,Bool.and_eq_true,decide_eq_true_eq] at hp hq
 unfold qf
 omega
structure TripAt (h:Heap) (u:Value) (t:ZO):Prop where
 ex:∃ a o k tk a2,u= .ref a/\h.get? a=some o/\o.cls= .type "tuple"/\o.data= .seq #[.int t.1 tk,.ref a2] k/\PairAt h (.ref a2) t.2
theorem abN {h:Heap}{a:Addr}{p:Int × Int} (x:PairAt h (.ref a) p):Reads h (.ref a) (JJ p) []:=by
 obtain ⟨b,o,k,t,t',e1,e2,e3,e4⟩:=x.ex
 cases e1
 exact .tuple e2 e3 e4 (.cons (.int _ t) (.cons (.int _ t') .nil))
theorem abO {h:Heap}{a:Addr}{p:Int × Int} (x:PairAt h (.ref a) p):∃ t t',IsTup h a #[.int p.1 t,.int p.2 t']:=by
 obtain ⟨b,o,k,t,t',e1,e2,e3,e4⟩:=x.ex
 cases e1
 exact ⟨t,t',o,e2,e3,k,e4⟩
theorem ajm (p q:Int × Int):PyData.eqv (JJ p) (JJ q)=decide (p.1=q.1/\p.2=q.2):=by
 simp only [JJ,PyData.eqv,PyData.eqvAll,Bool.and_true]
 rw [Bool.decide_and,Bool.beq_eq_decide_eq,Bool.beq_eq_decide_eq]
theorem ak3 {X:Cx} (hu:X.A.in1.in1.units+8 < cLine) {s:Shared}{u v:Value}{p q:ZO}{Q:Bool->Shared->Prop}{E:Value->Shared->Prop} (hp:inT p=true) (hq:inT q=true) (xu:TripAt s.heap u p) (xv:TripAt s.heap v q)
  (h:Q (decide (qf p < qf q)) s):wpAny (model X.prog X.w) X.A.in1.in1 (keyLt' (tuples' (Value.type "int" != Value.type "tuple")) u v) Q E s:=by
 obtain ⟨a,oa,ka,ta,a2,rfl,ea,_,da,pa⟩:=xu.ex
 obtain ⟨b,ob,kb,tb,b2,rfl,eb,_,db,pb⟩:=xv.ex
 have hr:=ajl hp hq
 have hT:(Value.type "int" != Value.type "tuple")=true:=by decide
 rw [hT]
 refine PySem.W.kat_lt ea da eb db ?_
 show PySem.W.KatLex X.prog X.w X.A.in1.in1 true (decide (2 < 2)) Q [(.int p.1 ta,.int q.1 tb),(.ref a2,.ref b2)] 0 s
 refine PySem.W.kat_cons (SeqAt.EqAt.int_int p.1 ta q.1 tb X.prog X.w _ _ ?_)
 by_cases e1:p.1=q.1
 ·have eb1:(p.1 == q.1)=true:=by simpa using e1
  rw [eb1]
  refine PySem.W.kat_yes (PySem.W.kat_cons (SeqAt.eqAt_reads (JJ p.2) (JJ q.2) _ s _ _ [] [] (abN pa) (abN pb) rfl rfl ?_ X.prog X.w _ _ ?_))
  ·have:(JJ p.2).depth=2 ∨ (JJ p.2).depth<=8:= .inr (by simp [JJ,PyData.depth,PyData.depthAll])
   omega
  rw [ajm]
  by_cases e2:p.2.1=q.2.1/\p.2.2=q.2.2
  ·rw [decide_eq_true e2]
   refine PySem.W.kat_yes (PySem.W.kat_nil ?_)
   have:decide (qf p < qf q)=decide (2 < 2):=by
    apply decide_eq_decide.mpr
    rw [hr]; omega
   rw [←this]; exact h
  ·rw [decide_eq_false e2]
   obtain ⟨t1,t2,i1⟩:=abO pa
   obtain ⟨t3,t4,i2⟩:=abO pb
   refine PySem.W.kat_no (PySem.W.kat_one _ _ (HT.lt_tupInts (ns:=[p.2.1,p.2.2]) (ms:=[q.2.1,q.2.2]) i1 i2 (.cons _ t1 (.cons _ t2 .nil)) (.cons _ t3 (.cons _ t4 .nil)) (by omega) ?_))
   show Q (HT.lexLt [p.2.1,p.2.2] [q.2.1,q.2.2]) s
   have:HT.lexLt [p.2.1,p.2.2] [q.2.1,q.2.2]=decide (qf p < qf q):=by
    rw [HT.lexLt_cons,HT.lexLt_cons,HT.lexLt_nil_nil]
    by_cases c1:p.2.1=q.2.1
    ·rw [if_pos c1,if_neg (fun z=>e2 ⟨c1,z⟩)]
     apply decide_eq_decide.mpr
     rw [hr]; omega
    ·rw [if_neg c1]
     apply decide_eq_decide.mpr
     rw [hr]; omega
   rw [this]; exact h
 ·have eb1:(p.1 == q.1)=false:=by simpa using e1
  rw [eb1]
  refine PySem.W.kat_no (oneLt_int ?_)
  have:decide (qf p < qf q)=decide (p.1 < q.1):=by
   apply decide_eq_decide.mpr
   rw [hr]; omega
  rw [←this]; exact h
section
variable {X:Cx}
theorem afW {pins:List (Addr × Obj)}{σ:St}{H:Hp}{s:Shared}{a:Addr}{o:Obj}{xs:Array Value}{k:Nat} (I:Inv X pins σ H s) (eo:s.heap.get? a=some o) (dk:o.data= .seq xs k):a ≠ X.env.locals:=fun z=>by
 obtain ⟨_,⟨o',es,ep,h1,h2,_⟩,_⟩:=I.loc
 rw [z] at eo; rw [eo] at h1; cases h1
 rw [dk] at h2; cases h2
theorem agD {pins:List (Addr × Obj)}{σ:St}{H:Hp}{s:Shared}{v:V}{p:Int × Int}{u:Value}{h':Heap} (I:Inv X pins σ H s) (r:Rep X.K H (JJ p) v) (rv:jQ v u) (kp:∀ b o,b ≠ X.env.locals->s.heap.get? b=some o->h'.get? b=some o):∃ a,u= .ref a/\PairAt h' u p:=by
 obtain ⟨a2,ws,e2,e3,x1,r1,e4,e5,x2,r2,e6,e7,e8⟩:=r
 cases (show x1=_ from e5)
 cases (show x2=_ from e7)
 cases (show r2=[] from e8)
 subst e6; subst e4; subst e2
 cases rv
 obtain ⟨its,r3,⟨o,eo,co,k,dk⟩,_⟩:=I.tuple e3
 cases r3 with
 | cons y1 r3=>
  cases r3 with
  | cons y2 r3=>
   cases r3
   obtain ⟨t,rfl⟩:=y1
   obtain ⟨t',rfl⟩:=y2
   exact ⟨a2,rfl,a2,o,k,t,t',rfl,kp a2 o (afW I eo dk) eo,co,by simpa using dk⟩
theorem ak4 {pins:List (Addr × Obj)}{σ:St}{H:Hp}{s:Shared}{v:V}{p:ZO}{u:Value}{h':Heap} (I:Inv X pins σ H s) (r:Rep X.K H (Zd p) v) (rv:jQ v u) (kp:∀ b o,b ≠ X.env.locals->s.heap.get? b=some o->h'.get? b=some o):TripAt h' u p:=by
 obtain ⟨a2,ws,e2,e3,x1,r1,e4,e5,x2,r2,e6,e7,e8⟩:=r
 cases (show x1=_ from e5)
 cases (show r2=[] from e8)
 subst e6; subst e4; subst e2
 cases rv
 obtain ⟨its,r3,⟨o,eo,co,k,dk⟩,_⟩:=I.tuple e3
 cases r3 with
 | cons y1 r3=>
  cases r3 with
  | cons y2 r3=>
   cases r3
   obtain ⟨t,rfl⟩:=y1
   obtain ⟨a3,rfl,pp⟩:=agD I e7 y2 kp
   exact ⟨a2,o,k,t,a3,rfl,kp a2 o (afW I eo dk) eo,co,by simpa using dk,pp⟩
theorem afX (hu:X.A.in1.in1.units+8 < cLine):qX X (.builtin "sorted") (ajk X.K Zd qf (fun t=>inT t=true)):=
 afV (0,(0,0)) Zd qf (.type "int") _ TripAt (fun I _ r rv kp=>ak4 I r rv kp) (fun _ x=>by
  obtain ⟨a,o,k,tk,a2,e1,e2,e3,e4,_⟩:=x.ex
  exact ⟨a,o,_,k,_,e1,e2,e3,e4,rfl,fun M=>PySem.W.Looks.of_pure rfl⟩) rfl fun hx hy xu xv h=>ak3 hu hx hy xu xv h
end
section
variable {α:Type}
noncomputable def ahw (rk:α->Int) (p:α):List α->List α
 | []=>[p]
 | q::r=>if rk p<=rk q then p::q::r else q::ahw rk p r
noncomputable def aaM (rk:α->Int):List α->List α
 | []=>[]
 | p::r=>ahw rk p (aaM rk r)
theorem aam (rk:α->Int) (p:α):∀ l,(ahw rk p l).Perm (p::l)
 | []=>List.Perm.refl _
 | q::r=>by
  unfold ahw
  split
  ·exact List.Perm.refl _
  ·exact ((aam rk p r).cons q).trans (List.Perm.swap p q r)
theorem Zr (rk:α->Int):∀ l,(aaM rk l).Perm l
 | []=>List.Perm.refl _
 | p::r=>(aam rk p _).trans ((Zr rk r).cons p)
theorem aaN (rk:α->Int) (p:α):∀ l,l.Pairwise (fun a b=>rk a<=rk b)->(ahw rk p l).Pairwise (fun a b=>rk a<=rk b)
 | [],_=>List.pairwise_singleton _ _
 | q::r,h=>by
  have hq:=List.pairwise_cons.mp h
  unfold ahw
  split
  ·rename_i hle
   refine List.pairwise_cons.mpr ⟨fun b hb=>?_,h⟩
   rcases List.mem_cons.mp hb with rfl | hb
   ·exact hle
   ·exact Int.le_trans hle (hq.1 b hb)
  ·rename_i hle
   refine List.pairwise_cons.mpr ⟨fun b hb=>?_,aaN rk p r hq.2⟩
   rcases List.mem_cons.mp ((aam rk p r).mem_iff.mp hb) with rfl | hb
   ·omega
   ·exact hq.1 b hb
theorem Qc (rk:α->Int):∀ l,(aaM rk l).Pairwise (fun a b=>rk a<=rk b)
 | []=> .nil
 | p::r=>aaN rk p _ (Qc rk r)
theorem aaO {rk:α->Int}:∀ {l l':List α},l.Pairwise (fun a b=>rk a<=rk b)->l'.Pairwise (fun a b=>rk a<=rk b)->l.Perm l'->(∀ p ∈ l,∀ q ∈ l,rk p=rk q->p=q)->l=l'
 | [],l',_,_,hp,_=>hp.nil_eq
 | a::l,[],_,_,hp,_=>by have:=hp.length_eq; simp at this
 | a::l,b::l',h1,h2,hp,hb=>by
  have h1':=List.pairwise_cons.mp h1
  have h2':=List.pairwise_cons.mp h2
  have hab:a=b:=by
   have ha:a ∈ b::l':=hp.mem_iff.mp List.mem_cons_self
   have hb':b ∈ a::l:=hp.mem_iff.mpr List.mem_cons_self
   rcases List.mem_cons.mp ha with e | ha'
   ·exact e
   ·rcases List.mem_cons.mp hb' with e | hb''
    ·exact e.symm
    ·exact hb a List.mem_cons_self b hb' (Int.le_antisymm (h1'.1 b hb'') (h2'.1 a ha'))
  subst hab
  rw [aaO h1'.2 h2'.2 (List.Perm.cons_inv hp) fun p hp q hq=>hb p (List.mem_cons_of_mem _ hp) q (List.mem_cons_of_mem _ hq)]
end
noncomputable def adL:PyData->Option ZO
 | .tuple [.int n,.tuple [.int p,.int q]]=>some (n,(p,q))
 | _=>none
theorem aeJ {d:PyData}{t:ZO} (h:adL d=some t):d=Zd t:=by
 unfold adL at h
 split at h
 ·cases h; rfl
 ·cases h
noncomputable def zD:List PyData->Option (List ZO)
 | []=>some []
 | d::ds=>(adL d).bind fun t=>(zD ds).map fun ts=>t::ts
theorem abP:∀ {ds:List PyData}{ts:List ZO},zD ds=some ts->ds=ts.map Zd
 | [],ts,h=>by cases h; rfl
 | d::ds,ts,h=>by
  cases h1:adL d with
  | none=>simp [zD,h1] at h
  | some t=>
   cases h2:zD ds with
   | none=>simp [zD,h1,h2] at h
   | some r=>
    have:t::r=ts:=by simpa [zD,h1,h2] using h
    subst this
    rw [aeJ h1,abP h2]; rfl
theorem acV:∀ (ts:List ZO),zD (ts.map Zd)=some ts
 | []=>rfl
 | t::ts=>by
  show (some t).bind (fun t=>(zD (ts.map Zd)).map fun ts=>t::ts)=_
  rw [acV ts]; rfl
theorem acW {p q:ZO} (hp:inT p=true) (hq:inT q=true) (h:qf p=qf q):p=q:=by
 simp only [inT,inB,Bool.and_eq_true,decide_eq_true_eq] at hp hq
 unfold qf at h
 obtain ⟨p1,p2,p3⟩:=p
 obtain ⟨q1,q2,q3⟩:=q
 simp only at*
 have h1:p1=q1:=by omega
 have h2:p2=q2:=by omega
 have h3:p3=q3:=by omega
 rw [h1,h2,h3]
noncomputable def afY (ds:List PyData):Option PyData:=match ds with
 | [.list xs]=>(zD xs).bind fun ts=>if decide (ts.length < 64) && ts.all inT then some (.list ((aaM qf ts).map Zd)) else none
 | _=>none
theorem ajn {X:Cx} (hu:X.A.in1.in1.units+8 < cLine):Qt X (.builtin "sorted") afY:=by
 refine ⟨_,afX hu,fun ds d xs H Q h r k=>?_⟩
 unfold afY at h
 split at h
 ·rename_i ys
  cases hp:zD ys with
  | none=>simp [hp] at h
  | some ps=>
   by_cases hc:(decide (ps.length < 64) && ps.all inT)=true
   ·have:PyData.list ((aaM qf ps).map Zd)=d:=by simpa [hp,hc] using h
    subst this
    obtain ⟨x,q,e1,e2,e3⟩:=r
    cases (show q=[] from e3)
    obtain ⟨a,us,g1,g2,g3⟩:=e2
    subst g1
    rw [abP hp] at g3
    simp only [Bool.and_eq_true,decide_eq_true_eq,List.all_eq_true] at hc
    refine ⟨a,us,ps,e1,g2,g3,hc.1,hc.2,fun qs p1 p2 l zs hl hz=>?_⟩
    have:qs=aaM qf ps:=aaO p2 (Qc qf ps) (p1.trans (Zr qf ps).symm) fun p hp q hq e=>acW (hc.2 p (p1.mem_iff.mp hp)) (hc.2 q (p1.mem_iff.mp hq)) e
    subst this
    exact k _ _ (jD hl) ⟨l,zs,rfl,jq,Reps.mono (jD hl) _ _ hz⟩
   ·simp [hp,hc] at h
 ·cases h
section
variable {X:Cx}{e a b c:Expr}{es jT:List Expr}{st:Stmt}{sts srest:List Stmt}{fx gx:Rho->Option Str}{fa fb:Rho->Option PyData}{F:Rho->Option Out}{pos:Pos}
theorem amE {tc:Rho->Option Bool} (hc:PTD X c tc) (ha:PDX X a fx) (hb:PDX X b gx):PDX X (.IfExp c a b pos) (ifX tc fx gx):=by
 with_unfolding_all
  intro s σ H ρ c I en q k
  cases ht:tc ρ with
  | none=>simp [ifX,ht] at q
  | some x=>
   refine wpAny_IfExp (wpAny_mono (hc [] s σ H (fun b H'=>b=x/\jn H H') I ⟨ρ,x,en,ht,fun H' s1=>⟨rfl,s1⟩⟩) (fun d s1 z=>?_) fun _ _ z=>z)
   obtain ⟨H1,I1,rfl,s1'⟩:=z
   cases d with
   | true=>exact ha s1 σ H1 ρ c I1 (en.mono s1') (by simpa [ifX,ht] using q) fun ev s' t=>k ev s' (t.mono s1')
   | false=>exact hb s1 σ H1 ρ c I1 (en.mono s1') (by simpa [ifX,ht] using q) fun ev s' t=>k ev s' (t.mono s1')
theorem ahx {id:String}{x:Str}{p:Pos} (hm:X.mg x=none) (hv:bootBuiltins x=some (.builtin id)) (ha:PAX X (e::es) fx)
  (hg:Gl X x:=by rfl) (hn:x ≠ "__name__":=by decide) (hdb:(x == ("__debug__":Str))=false:=by decide) (he:starEach (e::es) X.env=(false,eval e X.env)::starEach es X.env:=by rfl)
  (hpl:(backTo pos (starEach es X.env)).any (·.1)=false:=by rfl):PDX X (.Call (.Name x p) (e::es) [] pos) fx:=by
 with_unfolding_all
  intro s σ H ρ c I en q k
  refine wpAny_Call_Name_kw (JT I hg hm hv ?_ hn hdb)
  exact PyProof.Rows.callWith_builtin1 (wpAny_mono (ha pos s σ H ρ c I en q k) (fun _ _ z=>z.elim) fun _ _ z=>z) he hpl
noncomputable def items:PyData->Option (List PyData)
 | .list ds=>some ds
 | .tuple ds=>some ds
 | _=>none
noncomputable def itS (fa:Rho->Option PyData):Rho->Option (List PyData):=fun ρ=>(fa ρ).bind items
theorem aa6 {tg:Expr} (h:PD X e fa):PID X tg e (itS fa):=by
 with_unfolding_all
  intro pins s σ H R I ⟨ρ,ds,en,q,k⟩
  cases hf:fa ρ with
  | none=>simp [itS,hf] at q
  | some d=>
   have q':items d=some ds:=by simpa [itS,hf] using q
   cases d with
   | list es=>
    cases q'
    exact ZD (tg:=tg) h pins s σ H R I ⟨ρ,ds,en,by simp [itL,hf,Zg],k⟩
   | tuple es=>
    cases q'
    exact akz (tg:=tg) h pins s σ H R I ⟨ρ,ds,en,by simp [itT,hf,adt],k⟩
   | _=>cases q'
end
theorem _root_.L2.Room.sort {k:Nat}{A:Around} (r:Room k A):A.in1.in1.units+8 < cLine:=by
 have:=r.un
 show A.units+1+1+8 < cLine
 omega
theorem RoomH.units {k:Nat}{A:Around} (r:RoomH k A):A.units+64 < cLine:=by have:=r.un; omega
theorem RoomH.mono {j k:Nat}{A:Around} (r:RoomH k A) (h:j<=k):RoomH j A:=⟨by have:=r.dp; omega,by have:=r.un; omega⟩
noncomputable def anU:Stmt->List Stmt
 | .If _ _ r _=>r
 | _=>[]
section
variable {X:Cx}{a b:Expr}{pos:Pos}
end
section
variable {X:Cx}{e a b c:Expr}{l r:List Stmt}{fx gx:Rho->Option Str}{pos:Pos}
end
section
variable {X:Cx}{own:Option Nat}{tg:Expr}{st:Stmt}{sts:List Stmt}{fx:Rho->Option Str}{F:Rho->Option Out}
end
section
variable {X:Cx}{a i e:Expr}{es:List Expr}{pos fp:Pos}
end
theorem jn.sE {H H':Hp} (s:jn H H'):jL H H':=jn.e s
section
variable {X:Cx}{own:Option Nat}{e a b c:Expr}{es:List Expr}{st:Stmt}{sts jT:List Stmt}{fa fb fc:Rho->Option PyData}{F G:Rho->Option Out}{pos:Pos}
noncomputable def aoO (F:Rho->Option Out):Rho->Option Out:=fun ρ=>match F ρ with
 | some (.rt d)=>some (.rt d)
 | _=>none
end
section
variable {X:Cx}{tg src:Expr}{pos pos':Pos}{own:Option Nat}
end
noncomputable def anV (ps:List (Int × Int)):PyData:= .tuple (ps.map JJ)
noncomputable def ZP (h:Heap):List Value->List (Int × Int)->Prop
 | [],ps=>ps=[]
 | v::vs,ps=>∃ p r a,ps=p::r/\v= .ref a/\PairAt h (.ref a) p/\ZP h vs r
theorem ZP.len {h:Heap}:∀ {vs:List Value}{ps:List (Int × Int)},ZP h vs ps->vs.length=ps.length
 | [],ps,e=>by cases (show ps=[] from e); rfl
 | v::vs,ps,⟨p,r,a,e,_,_,k⟩=>by rw [e,List.length_cons,List.length_cons,k.len]
structure SetAt (h:Heap) (u:Value) (ps:List (Int × Int)):Prop where
 ex:∃ a o k vs,u= .ref a/\h.get? a=some o/\o.cls= .type "tuple"/\o.data= .seq (List.toArray vs) k/\ZP h vs ps
section
variable {X:Cx}
theorem aeK {pins:List (Addr × Obj)}{σ:St}{H:Hp}{s:Shared}{h':Heap} (I:Inv X pins σ H s) (kp:∀ b o,b ≠ X.env.locals->s.heap.get? b=some o->h'.get? b=some o):∀ (ps:List (Int × Int)) (xs:List V) (us:List Value),Reps X.K H (ps.map JJ) xs->jC xs us->ZP h' us ps
 | [],xs,us,r,v=>by
  cases (show xs=[] from r)
  cases v
  rfl
 | p::ps,xs,us,r,v=>by
  obtain ⟨x,q,rfl,e2,e3⟩:=r
  cases v with
  | cons y v=>
   obtain ⟨a,rfl,pp⟩:=agD I e2 y kp
   exact ⟨p,ps,a,rfl,rfl,pp,aeK I kp ps _ _ e3 v⟩
theorem qT {pins:List (Addr × Obj)}{σ:St}{H:Hp}{s:Shared}{v:V}{p:List (Int × Int)}{u:Value}{h':Heap} (I:Inv X pins σ H s) (r:Rep X.K H (anV p) v) (rv:jQ v u) (kp:∀ b o,b ≠ X.env.locals->s.heap.get? b=some o->h'.get? b=some o):SetAt h' u p:=by
 obtain ⟨a2,ws,e2,e3,e4⟩:=r
 subst e2
 cases rv
 obtain ⟨its,r3,⟨o,eo,co,k,dk⟩,_⟩:=I.tuple e3
 exact ⟨a2,o,k,its,rfl,kp a2 o (afW I eo dk) eo,co,dk,aeK I kp p ws its e4 r3⟩
end
set_option maxHeartbeats 4000000 in
section
variable {X:Cx}
end
section
variable {prog:Program}{w:World}{A:Around}{E:Value->Shared->Prop}{s:Shared}
end
section
variable {X:Cx}{a:Expr}{fa:Rho->Option PyData}{pos p1 p2 p3:Pos}{j:Nat}
theorem Reps.rev {K:PySem.W.Frag}{H:Hp}{ds:List PyData}{xs:List V} (h:Reps K H ds xs):Reps K H ds.reverse xs.reverse:=by
 have app:∀ {as bs:List PyData} {us vs:List V},Reps K H as us->Reps K H bs vs->Reps K H (as++bs) (us++vs):=by
  intro as
  induction as with
  | nil=>intro bs us vs h1 h2; cases (show us=[] from h1); exact h2
  | cons d as ih=>
   intro bs us vs ⟨x,r,e,h1,h2⟩ h3
   subst e
   exact ⟨x,r++vs,rfl,h1,ih h2 h3⟩
 induction ds generalizing xs with
 | nil=>cases (show xs=[] from h); rfl
 | cons d ds ih=>
  obtain ⟨x,r,rfl,h1,h2⟩:=h
  rw [List.reverse_cons,List.reverse_cons]
  exact app (ih h2) ⟨x,[],rfl,h1,rfl⟩
end
section
variable {X:Cx}{e b ev:Expr}{jT:List Stmt}{fe fk fv:Rho->Option PyData}{G:Rho->Option Out}{pos pos2:Pos}
end
section
variable {X:Cx}
theorem aaP:∀ ns:List Int,qp (ns.map PyData.int)=some ns
 | []=>rfl
 | n::ns=>by simp [qp,JF,aaP ns]
theorem RepM.ints {K:PySem.W.Frag}{H:Hp}:∀ {r:List (PyData × PyData)}{ks:List (Key × V)}{ns:List Int},RepM K H r ks->qp (r.map (·.1))=some ns->ks.map (·.1)=ns.map (fun n=>(Sum.inl n:Key))
 | [],ks,ns,h,e=>by cases (show ks=[] from h); cases e; rfl
 | (k,c)::r,ks,ns,⟨i,x,s,h1,h2,h3,h4⟩,e=>by
  subst h1; subst h2
  have e':=zS e
  cases ns with
  | nil=>simp at e'
  | cons n ns=>
   rw [List.map_cons,List.map_cons] at e'
   obtain ⟨e1,e2⟩:=List.cons.inj e'
   have e1:i=n:=by injection e1
   have e3:qp (r.map (·.1))=some ns:=by rw [e2]; exact aaP ns
   rw [List.map_cons,List.map_cons,RepM.ints h4 e3,e1]
end
noncomputable def Kp (X:Cx) (h h':Heap):Prop:=∀ b o,b ∉ frs X.stack->(∀ vs,o.data ≠ .fields vs)->h.get? b=some o->h'.get? b=some o
section
variable {X:Cx}{σ:St}{H:Hp}{s:Shared}{h':Heap}{e C:Addr}{E:Value->Shared->Prop}{A:Around}
theorem acX {oe:Obj}{vs:Array Value}{head:Value}{hadNext:Bool} (T0:Top0 X) (hA:A.frames=some X.stack) (I:Inv X [] σ H s) (me:Mine X H e) (he:s.heap.get? e=some oe) (hc:oe.cls= .ref C/\oe.dict=none) (hd:oe.data= .fields vs) (hsz:1 < vs.size):
  wpAny (model X.prog X.w) A (do let a ←frameOf X.env; let pl ←entryPlaceOf X.env.locals hadNext; let b ←EntryCells.newEntry head a .none (rawInt X.env.locals) .none pl; setField (.ref e) 1 b) (fun _ s'=>Inv X [] σ H s'/\XcT X H s'.heap e C/\Kp X s.heap s'.heap) E s:=by
 have hst:=T0.st
 have hfn:=I.stack
 rw [hst] at hfn hA
 have hene:e ∉ (X.env::X.outer).filterMap (·.frame):=by
  have:=me.nofr I
  rw [hst] at this; exact this
 refine wpAny_bind (wpAny_frameOf_fun hA hfn T0.fr fun h₁ hs₁=>?_)
 refine wpAny_bind (wpAny_entryPlaceOf fun pl hpl=>?_)
 unfold EntryCells.newEntry newFields
 refine wpAny_bind (wpAny_newObj_type ?_ (hpl.sizeOk5 _ _ _ _ _))
 have he₁:h₁.get? e=some oe:=(hs₁.2.1 e hene).trans he
 generalize hob:({ cls:= .type "traceback",dict:=none,data:= .fields ([head,Value.ref X.env.locals,.none,rawInt X.env.locals,.none]++(if pl.isEmpty then List.replicate 6 Value.none else pl)).toArray }:Obj)=ob
 have obd:ob.data= .fields ([head,Value.ref X.env.locals,.none,rawInt X.env.locals,.none]++(if pl.isEmpty then List.replicate 6 Value.none else pl)).toArray:=by rw [←hob]
 have obf:ob.isFreed=false:=by rw [←hob]; rfl
 have he₂:(h₁.push ob).get? e=some oe:=Heap.get?_push_of_some ob he₁
 refine wpAny_setField he₂ hd hsz ?_
 have hTe:h₁.objs.size ≠ e:=Nat.ne_of_gt (Heap.lt_size he₁)
 have hd₃:=Obj.data_mapFields hd (·.setIfInBounds 1 (Value.ref h₁.objs.size))
 have he₃:=Heap.get?_update_self (Obj.mapFields (·.setIfInBounds 1 (Value.ref h₁.objs.size))) he₂ (Obj.isFreed_of_fields hd₃)
 have hT₃:((h₁.push ob).update e (Obj.mapFields (·.setIfInBounds 1 (Value.ref h₁.objs.size)))).get? h₁.objs.size=some ob:=(Heap.get?_update_other _ _ (Ne.symm hTe)).trans (Heap.get?_push_size h₁ obf)
 have keep:∀ b o,b ≠ e->h₁.get? b=some o->((h₁.push ob).update e (Obj.mapFields (·.setIfInBounds 1 (Value.ref h₁.objs.size)))).get? b=some o:=fun b o hb q=>by
  rw [Heap.get?_update_other _ _ (Ne.symm hb)]
  exact Heap.get?_push_of_some _ q
 have hfr:frs X.stack=(X.env::X.outer).filterMap (·.frame):=by rw [hst]; rfl
 have sz:h₁.objs.size=s.heap.objs.size:=hs₁.1
 have J:Inv X [] σ H { s with heap:=(h₁.push ob).update e (Obj.mapFields (·.setIfInBounds 1 (Value.ref h₁.objs.size))) }:=by
  refine Inv.shake (s:=s) (ch:=[e]) I (fun b hb=>by rw [List.mem_singleton.mp hb]; exact me) (fun b o nf nc q=>keep b o (fun z=>nc (by simp [z])) ((hs₁.2.1 b (by rw [←hfr]; exact nf)).trans q)) (fun b o _ nc q=>?_)
  obtain ⟨sl,z⟩:=hs₁.2.2 b o q
  exact ⟨sl,keep b _ (fun w=>nc (by simp [w])) z⟩
 refine ⟨J,⟨me,_,_,h₁.objs.size,ob,_,he₃,?_,hd₃,by simp [hsz],hTe,?_,hT₃,obd,?_⟩,fun b o nf nd q=>keep b o (fun z=>by subst z; rw [he] at q; cases q; exact nd _ hd) ((hs₁.2.1 b (by rw [←hfr]; exact nf)).trans q)⟩
 ·rw [Obj.cls_mapFields]; exact ⟨hc.1,by unfold Obj.mapFields; split <;> exact hc.2⟩
 ·exact Qy T0.ex I (Heap.get?_none_of_le (by rw [sz]; exact Nat.le_refl _))
 ·simp only [List.size_toArray,List.length_append,List.length_cons,List.length_nil]; omega
theorem ajo (T0:Top0 X) (hA:A.frames=some X.stack) (I:Inv X [] σ H s) (x:Xc X H s.heap e C):wpAny (model X.prog X.w) A (noteFrame (.ref e) X.env) (fun _ s'=>Inv X [] σ H s'/\XcT X H s'.heap e C/\Kp X s.heap s'.heap) E s:=by
 obtain ⟨oe,vs,he,hc,hd,hsz,hT⟩:=x.ob
 unfold noteFrame
 simp only [T0.fr]
 rcases hT with h1 | ⟨T,oT,ts,h1,hTe,mT,hT,hdT,h3⟩
 ·refine wpAny_bind (wpAny_field he hd h1 ?_)
  rw [if_neg (by decide)]
  exact acX T0 hA I x.mine he hc hd hsz
 ·refine wpAny_bind (wpAny_field he hd h1 ?_)
  rw [if_pos (show (Value.ref T != Value.none)=true from by simp)]
  refine wpAny_bind (wpAny_field hT hdT (x:=ts[3]) (by simp [h3]) ?_)
  by_cases hq:(ts[3] == rawInt X.env.locals)=true
  ·rw [if_pos hq]
   exact wpAny_pure ⟨I,⟨x.mine,oe,vs,T,oT,ts,he,hc,hd,h1,hTe,mT,hT,hdT,h3⟩,fun _ _ _ _ q=>q⟩
  ·rw [if_neg hq]
   refine wpAny_bind (wpAny_setField hT hdT h3 ?_)
   have other:∀ b,b ≠ T->(s.heap.update T (Obj.mapFields (·.setIfInBounds 3 Value.none))).get? b=s.heap.get? b:=fun b hb=>Heap.get?_update_other _ _ (Ne.symm hb)
   have J:Inv X [] σ H { s with heap:=s.heap.update T (Obj.mapFields (·.setIfInBounds 3 Value.none)) }:=
    Inv.shake (s:=s) (ch:=[T]) I (fun b hb=>by rw [List.mem_singleton.mp hb]; exact mT) (fun b o _ nc q=>(other b fun z=>nc (by simp [z])).trans q) fun b o _ nc q=>⟨o.slots,(other b fun z=>nc (by simp [z])).trans q⟩
   refine wpAny_mono (acX (s:={ s with heap:=s.heap.update T (Obj.mapFields (·.setIfInBounds 3 Value.none)) }) T0 hA J x.mine ((other e (Ne.symm hTe)).trans he) hc hd hsz) (fun _ s2 ⟨a1,a2,a3⟩=>⟨a1,a2,fun b o nf nd q=>a3 b o nf nd ((other b fun z=>by subst z; rw [hT] at q; cases q; exact nd _ hdT).trans q)⟩) fun _ _ z=>z
end
noncomputable def aoB (X:Cx) (pins:List (Addr × Obj)) (σ:St) (H:Hp) (c:Str) (ev:Value) (s':Shared):Prop:=∃ e C s1 H1 H',ev= .ref e/\X.mg c=some (.ref C)/\Inv X pins σ H1 s1/\jn H H1/\s'.os=s1.os/\AllBare s'.gens/\Un (frs X.stack) [] H1 H' s1.heap s'.heap/\HOk X.prog X.w H' s'.heap/\XcO s1.heap H' s'.heap e C/\jn H1 H'
@[irreducible] noncomputable def PXB (X:Cx) (e:Expr) (fx:Rho->Option Str):Prop:=∀ (pins:List (Addr × Obj)) (s:Shared) (σ:St) (H:Hp) (ρ:Rho) (c:Str),Inv X pins σ H s->EnvR X.K H ρ σ->fx ρ=some c->wpAny (model X.prog X.w) X.A (eval e X.env) (fun _ _=>False) (aoB X pins σ H c) s
section
variable {X:Cx}{e a b c:Expr}{es:List Expr}{pos:Pos}
theorem ajp {k j n:Nat}{ps:List Str}{g:List PyData->Option Str}{x:Str}{p:Pos}{fr:Rho->Option (List PyData)} (hxe:X.xe=NoX) (C:zK X.prog X.w X.K X.mg X.base x ps k n g) (hr:Room j X.A) (hkj:k<=j) (ha:PAD X (e::es) fr) (hl:∀ ρ ds,fr ρ=some ds->ds.length=n)
  (hg:Gl X x:=by rfl) (hdb:(x == ("__debug__":Str))=false:=by decide) (he:starEach (e::es) X.env=(false,eval e X.env)::starEach es X.env:=by rfl)
  (hpl:(backTo pos (starEach es X.env)).any (·.1)=false:=by rfl):PXB X (.Call (.Name x p) (e::es) [] pos) (fun ρ=>(fr ρ).bind g):=by
 with_unfolding_all
  intro pins s σ H ρ c I en q
  obtain ⟨f,fd,F,hm,hk,hb⟩:=C
  cases hd:fr ρ with
  | none=>simp [hd] at q
  | some ds=>
   have q':g ds=some c:=by simpa [hd] using q
   have hn:ds.length=n:=hl ρ ds hd
   refine wpAny_Call_Name_kw (QM I hg hm ?_ hdb)
   refine PySem.W.callWith_K (h₀:=X.base) I.ok.mod.kin hk (wpAny_mono (ha pos pins s σ H (fun vs H1=>jn H H1/\Reps X.K H1 ds vs) I ⟨ρ,ds,en,hd,fun vs H1 s1 r1=>⟨s1,r1⟩⟩) (fun us s1 ⟨vs,H1,I1,r,sm,rd⟩=>⟨I1.kIn,?_⟩) fun ev s' z=>by rw [hxe] at z; exact z.elim) he hpl
   have sp:ahm X.K X.mg n g vs H1 (fun _ _=>False) (fun cls _ H'=>X.mg c=some cls/\jn H1 H'):=⟨ds,c,hn,rd,q',fun C H' hC s2=>⟨hC,s2⟩⟩
   have hlu:(us++[]).length=ps.length:=by rw [List.append_nil,←r.length]; exact F.len _ _ _ _ sp
   have hbd:=hb s1 us I1.kIn hlu
   rw [List.append_nil] at hbd
   refine wpAny_call (codeAny_mono (F.run X.A X.stack s1 H1 ⟨us,[]⟩ us vs _ _ (hr.mono hkj) I1.env0 hbd r sp) fun rs s' hq=>?_)
   cases rs with
   | error ev=>
    obtain ⟨e0,C,H',rfl,os,bare,un,hok,xc,hC,sm2⟩:=hq
    exact ⟨e0,C,s1,H1,H',rfl,hC,I1,sm,os,bare,un,hok,xc,sm2⟩
   | ok fl=>
    cases fl with
    | ret u=>obtain ⟨v,H',_,_,_,_,_,z⟩:=hq; exact z.elim
    | next=>exact False.elim hq
    | brk=>exact False.elim hq
    | cont=>exact False.elim hq
end
section
variable {prog:Program}{w:World}{A:Around}{s:Shared}{R:Result->Shared->Prop}
theorem afZ {el tg src:Expr}{ts:List Expr}{sc:Scope}{ps:Pos}{it acc:Value}{en:Env} (J:Nat->Shared->Prop)
  (turn:∀ n s,J n s->wpAny (model prog w) A (pyNext it) (fun r s1=>match r with
   | none=>R (.ok .next) s1
   | some v=>wpAny (model prog w) A (letOwnedTupleGo tg it v) (fun _ sg=>wpAny (model prog w) A (assign tg en v) (fun _ s2=>
     wpAny (model prog w) A (adp ts en) (fun ok s3=>
      if ok=true then wpAny (model prog w) A (eval el en) (fun y s4=>
       wpAny (model prog w) A (call (.builtin "list.append") [acc,y]) (fun _ s5=>∃ m,m < n/\J m s5) NoX s4) (notedBy (model prog w) A en fun x s'=>R (.error x) s') s3
      else ∃ m,m < n/\J m s3) NoX s2) NoX sg) NoX s1) NoX s)
  (n:Nat) (h:J n s):
  codeAny (model prog w) A (.compLoop (.ListComp el [⟨tg,src,ts,0⟩] sc ps) 0 it acc en) R s:=by
 refine codeAny_loop rfl J (fun n s hJ=>?_) n h
 show wpAny _ A
  ((compTurn (.ListComp el [⟨tg,src,ts,0⟩] sc ps) 0 it acc en).onRaise
   (fun x=>do noteFrame x en; theTreesLotGoes x)) _ _ s
 refine wpAny_noted ?_
 rw [compTurn_list]
 have no:∀ {E:Value->Shared->Prop} (e:Value) (s':Shared),NoX e s'->E e s':=fun _ _ z=>z.elim
 refine wpAny_bind (wpAny_standAt (wpAny_bind (wpAny_mono (turn n s hJ) (fun r s1 h1=>?_) no)))
 cases r with
 | none=>exact wpAny_pure h1
 | some v=>
  refine wpAny_bind (wpAny_mono h1 (fun _ sg hg=>?_) no)
  refine wpAny_bind (wpAny_mono hg (fun _ s2 h2=>?_) no)
  refine wpAny_bind (wpAny_mono h2 (fun ok s3 h3=>?_) no)
  cases ok with
  | false=>exact wpAny_pure ⟨rfl,h3⟩
  | true=>
   refine wpAny_bind (wpAny_bind (wpAny_mono h3 (fun y s4 h4=>?_) fun _ _ z=>z))
   exact wpAny_bind (wpAny_mono h4 (fun _ s5 h5=>wpAny_pure (wpAny_pure ⟨rfl,h5⟩)) no)
end
section
variable {X:Cx}{tg src:Expr}
noncomputable def zH (ga:PyData->Rho->Option Rho) (ft:Rho->Option Bool) (fe:Rho->Option PyData) (fx:Rho->Option Str):List PyData->Rho->Option Str
 | [],_=>none
 | d::r,τ=>(ga d τ).bind fun τ2=>(ft τ2).bind fun b=>if b=true then match fx τ2 with
  | some c=>some c
  | none=>(fe τ2).bind fun _=>zH ga ft fe fx r τ2
  else zH ga ft fe fx r τ2
noncomputable def abQ (fi:Rho->Option (List PyData)) (cap:List (Option Nat)) (ga:PyData->Rho->Option Rho) (ft:Rho->Option Bool) (fe:Rho->Option PyData) (fx:Rho->Option Str):Rho->Option Str:=fun ρ=>(fi ρ).bind fun ds=>
 if few ds=true then zH ga ft fe fx ds (zC cap ρ) else none
theorem ajq {el : Expr} {ts : List Expr} {sc : Scope} {ps : Pos} {fi : Rho -> Option (List PyData)} {ga : PyData -> Rho -> Option Rho} {ft : Rho -> Option Bool} {fe : Rho -> Option PyData} {fx : Rho -> Option Str} (N' : List Str) (cap : List (Option Nat)) (T0 : Top0 X) (hc : X.calm = true) (hi : PID X tg src fi) (ok : CompOk X sc N' cap)
    (body : ∀ cl C s0 H0 fp pn, PGD (blk X N' sc cl C s0 H0 fp pn) tg ga /\ ag5 (blk X N' sc cl C s0 H0 fp pn) ts ft /\ PD (blk X N' sc cl C s0 H0 fp pn) el fe /\ PXB (blk X N' sc cl C s0 H0 fp pn) el fx)
    (hs : ∀ x, foldedSetIterable src X.env x = pure x := by intro _; rfl) : PDX X (.ListComp el [⟨tg, src, ts, 0⟩] sc ps) (abQ fi cap ga ft fe fx) := by
  with_unfolding_all
   intro s σ H ρ c I en q kx
   cases h1 : fi ρ with
   | none => simp [abQ, h1] at q
   | some ds =>
    by_cases hf : few ds = true
    · have h2 : zH ga ft fe fx ds (zC cap ρ) = some c := by simpa [abQ, h1, hf] using q
      let R0 : It -> Hp -> Prop := fun J H1 => ∃ W : Nat -> Nat -> St -> List V -> Hp -> Prop, (∃ m, W 0 m (Js cap σ) [] H1) /\ ∀ i m τ ys H0, W i m τ ys H0 -> ys.length < sizeLine /\
        J.go i H0 /\ ∀ x H', J.yld i H0 x H' -> tDG X.K ga x τ H' fun τ2 H2 => tDT X.K ft τ2 H2 fun b H3 => if b = true then ((∃ ρ2, EnvR X.K H3 ρ2 τ2 /\ fx ρ2 = some c /\ jn H H3) ∨ tD X.K fe τ2 H3 fun y H4 => ∃ m', m' < m /\ W (i + 1) m' τ2 (ys ++ [y]) H4) else ∃ m', m' < m /\ W (i + 1) m' τ2 ys H3
      have pins0 : ([] : List (Addr × Obj)) = [] := rfl
      generalize hpn : ([] : List (Addr × Obj)) = pins at *
      have hst : wpAny (model X.prog X.w) X.A (eval src X.env) (fun v s1 => wpAny (model X.prog X.w) X.A (pyIter v) (PIE X pins σ tg R0) X.xe s1) X.xe s := hi pins s σ H R0 I ⟨ρ, ds, en, h1, fun J H1 s1 Y => by
        refine ⟨fun i m τ us H2 => m = ds.length - i /\ i <= ds.length /\ jn H1 H2 /\ us.length <= i /\ ∃ ρ2, EnvR X.K H2 ρ2 τ /\ zH ga ft fe fx (ds.drop i) ρ2 = some c,
          ⟨ds.length, by simp, Nat.zero_le _, jn.refl _, Nat.le_refl _, zC cap ρ, (en.mono s1).cap cap, by simpa using h2⟩, ?_⟩
        rintro i m τ us H2 ⟨rfl, hi', s2, hu, ρ2, en2, q2⟩
        have hsm : us.length < sizeLine := Nat.lt_of_le_of_lt (Nat.le_trans hu hi') (Nat.lt_of_lt_of_le (by simpa [few] using hf) (by rw [sizeLine_eq]; decide : 1000000 <= sizeLine))
        obtain ⟨g1, g2, g3⟩ := Y i H2 (jn.e s2)
        refine ⟨hsm, ?_⟩
        by_cases hlt : i < ds.length
        · have hd : ds.drop i = ds[i] :: ds.drop (i + 1) := List.drop_eq_getElem_cons hlt
          rw [hd] at q2
          refine ⟨g1 hlt, fun x H3 y => ?_⟩
          obtain ⟨s3, r3⟩ := g3 x H3 y
          have r3' := r3 ds[i] (by simp [hlt])
          cases h4 : ga ds[i] ρ2 with
          | none => simp [zH, h4] at q2
          | some ρ4 =>
            refine ⟨ρ2, ds[i], ρ4, en2.mono s3, r3', h4, fun σ5 H5 s5 en5 => ?_⟩
            cases h5 : ft ρ4 with
            | none => simp [zH, h4, h5] at q2
            | some b =>
              refine ⟨ρ4, b, en5, h5, fun H6 s6 => ?_⟩
              have s26 := s3.trans (s5.trans s6)
              cases b with
              | false =>
                refine ako ?_
                exact ⟨ds.length - (i + 1), by omega, rfl, hlt, s2.trans s26, by omega, ρ4, en5.mono s6, by simpa [zH, h4, h5] using q2⟩
              | true =>
                refine akp ?_
                cases h6 : fx ρ4 with
                | some c' =>
                  have : c' = c := by simpa [zH, h4, h5, h6] using q2
                  subst this
                  exact .inl ⟨ρ4, en5.mono s6, h6, s1.trans (s2.trans s26)⟩
                | none =>
                  cases h7 : fe ρ4 with
                  | none => simp [zH, h4, h5, h6, h7] at q2
                  | some y =>
                    refine .inr ⟨ρ4, y, en5.mono s6, h7, fun v H7 s7 r7 => ?_⟩
                    exact ⟨ds.length - (i + 1), by omega, rfl, hlt, s2.trans (s26.trans s7), by rw [List.length_append]; simp; omega, ρ4, (en5.mono s6).mono s7, by simpa [zH, h4, h5, h6, h7] using q2⟩
        · exfalso
          have hn : ds.drop i = [] := by rw [List.drop_eq_nil_iff]; omega
          rw [hn] at q2
          simp [zH] at q2⟩
      have hfr : ∀ x ∈ sc.names, x.2 = .free -> ∃ c, X.env.cells.lookup x.1 = some c := fun x hx e => I.ok.has x.1 (ok.fr x hx e)
      have hcl := aa1 sc X.env hfr
      have clm : ∀ x c, (zF X.env sc.names []).lookup x = some c -> X.env.cells.lookup x = some c := fun x c e =>
        JC X.env sc.names [] hfr (fun _ z => nomatch z) (x, c) (PySem.mem_of_lookup e)
      generalize hgl : zF X.env sc.names [] = cl at hcl clm
      rw [eval_ListComp]
      refine wpAny_comprehension_free (use := none) rfl hs hcl ok.kind ok.nm ?_
      refine thn hst fun v s1 h1' => thn h1' fun itv s2 h2' => ?_
      obtain ⟨it, fp, tn, J, H2, e, I2, T, st2, f2, W, ⟨m0, w0⟩, turn⟩ := h2'
      subst e
      refine wpAny_newObj_type (wpAny_newFunctionEnv ok.nc (by intro y hy; simp at hy) (fun h4 hns hsb => ?_) ok.kind)
      dsimp only at hns hsb ⊢
      generalize hH3 : s2.heap.push { cls := .type "list", dict := none, data := .seq ([] : List Value).toArray } = h3 at hns hsb ⊢
      have hC : h3.objs.size = s2.heap.objs.size + 1 := by rw [← hH3, Heap.size_push]
      generalize hCC : h3.objs.size = C at hns hsb hC ⊢
      generalize hDD : s2.heap.objs.size = D at hC ⊢
      have hDC : D ≠ C := by rw [hC]; exact Nat.ne_of_lt (Nat.lt_succ_self _)
      have old : ∀ b o, s2.heap.get? b = some o -> h4.get? b = some o := fun b o e => hsb.extBut b o (by have := Heap.lt_size e; rw [hDD] at this; rw [hC]; exact Nat.ne_of_lt (Nat.lt_succ_of_lt this)) (Heap.get?_push_of_some _ (hH3 ▸ Heap.get?_push_of_some _ e))
      have accO : h4.get? D = some { cls := .type "list", data := .seq ([] : List Value).toArray 0 } := hsb.extBut _ _ hDC (Heap.get?_push_of_some _ (by rw [← hH3, ← hDD]; exact Heap.get?_push_size _ rfl))
      have H2D : H2 D = none := I2.hok.fresh (by rw [hDD]; exact Nat.le_refl _)
      have H2C : H2 C = none := I2.hok.fresh (by rw [hDD, hC]; exact Nat.le_succ _)
      have cellsLt : ∀ x c, X.env.cells.lookup x = some c -> c < D := fun x c e => by
        obtain ⟨v, q⟩ := I2.cell x c e
        rw [← hDD]; exact q.lt
      have pinLt : ∀ p ∈ X.pn ++ pins, p.1 < D := fun p hp => by rw [← hDD]; exact Heap.lt_size (I2.pin p hp).1
      have stkLt : ∀ b ∈ frs X.stack, b < D := fun b hb => by
        obtain ⟨_, o, ho, _⟩ := I2.stack.mem hb
        rw [← hDD]; exact Heap.lt_size ho
      have fpLt : ∀ b ∈ fp, b < D := fun b hb => by
        obtain ⟨o, ho, _⟩ := T.obj _ _ st2 b hb
        rw [← hDD]; exact Heap.lt_size ho
      have ltC : ∀ {b : Addr}, b < D -> b ≠ C := fun hb => by rw [hC]; exact Nat.ne_of_lt (Nat.lt_succ_of_lt hb)
      have locLt : X.env.locals < D := by rw [← hDD]; exact I2.lt
      have hDge : s2.heap.objs.size <= D := by rw [hDD]; exact Nat.le_refl _
      have hCge : s2.heap.objs.size <= C := by rw [hDD, hC]; exact Nat.le_succ _
      have bok : (blk X N' sc cl C s2 H2 fp (X.pn ++ pins)).Ok := by
        refine ⟨I2.ok.mod, ok.kind, I2.ok.glob, I2.ok.blt, hCge, fun x y c e1 e2 => I2.ok.inj x y c (clm x c e1) (clm y c e2), fun x hx => ?_, fun x c z _ => ?_, I2.ok.hd, I2.ok.frames, .inl rfl, fun b hb => ?_, I2.bs, Nat.le_trans I2.ok.bsz I2.sz, fun b o e hb => ?_, fun b hb z => ?_, I2.stack, I2.stkFree⟩
        · have hx' : (relabel sc X.env).names.lookup x = some .cell ∨ (relabel sc X.env).names.lookup x = some .free := hx
          have hm : (x, NameKind.free) ∈ sc.names := by
            rcases hx' with z | z
            · exact qU (PySem.mem_of_lookup z) ok.nc (.inl rfl)
            · exact qU (PySem.mem_of_lookup z) ok.nc (.inr rfl)
          obtain ⟨c, hc⟩ := qE X.env sc.names [] x hm
          rw [hgl] at hc
          exact j2 hc
        · exact absurd (show false = true from z) Bool.false_ne_true
        · exact ⟨ltC (fpLt b hb), fun x c e => (f2 b hb).2.2.2.2.1 x c (clm x c e)⟩
        · rcases (f2 b hb).2.2.2.1 with z | z
          · exact I2.ok.noex b o e z
          · have := Heap.lt_size e
            exact absurd (Nat.lt_of_lt_of_le this (Nat.le_trans I2.ok.bsz z)) (Nat.lt_irrefl _)
        · rcases List.mem_cons.mp (I2.stkSub b z) with q | q
          · exact (f2 b hb).2.1 q
          · exact (f2 b hb).2.2.1 q
      have pinB : ∀ p ∈ X.pn ++ pins, p.1 ≠ C /\ p.1 ∉ frs X.stack := fun p hp => ⟨ltC (pinLt p hp), fun z => by
        rcases List.mem_cons.mp (I2.stkSub p.1 z) with q | q
        · exact (I2.pin p hp).2.2.1 q
        · exact (I2.pin p hp).2.2.2.1 q⟩
      have I4 : Inv (blk X N' sc cl C s2 H2 fp (X.pn ++ pins)) [] (Js cap σ) H2 { s2 with heap := h4, toks := s2.toks + ([] : List (Str × Value)).length } := by
        refine ⟨bok, rfl, I2.bare, Un.kept old, ⟨_, hns, fun j x v e1 e2 e3 => ?_⟩, fun x c e => ?_, H2C, fun x c e => I2.freeC x c (clm x c e), fun p hp => ?_, I2.hok.kept old, ?_⟩
        · unfold Js at e2
          rw [List.getElem?_map] at e2
          cases e4 : cap[j]? with
          | none => rw [e4] at e2; cases e2
          | some o =>
            rw [e4] at e2
            cases o with
            | none => cases e2
            | some i =>
              obtain ⟨hNi, hf⟩ := ok.cp j i x e1 e4
              have e5 : (σ[i]?).join = some v := by
                have := Option.some.inj e2
                simpa using this
              have e6 : σ[i]? = some (some v) := by
                cases e7 : σ[i]? with
                | none => rw [e7] at e5; cases e5
                | some z => rw [e7] at e5; cases z with
                  | none => cases e5
                  | some z => cases e5; rfl
              have hk := ok.fr (x, .free) (PySem.mem_of_lookup hf) rfl
              obtain ⟨m, hn, hl⟩ := I2.loc
              have hv : Vis X.env.scope x := by
                rcases hk with z | z
                · exact .inr (.inl z)
                · exact .inr (.inr z)
              obtain ⟨u, r, lk⟩ := hl i x v hNi e6 hv
              have cellX : ∃ c, X.env.cells.lookup x = some c /\ s2.heap.IsCell c (some u) := by
                rcases lk with ⟨k1, _⟩ | ⟨_, c, e, z⟩
                · rcases hk with z | z
                  · have z' : X.env.kindOf x = some .cell := z
                    rw [k1] at z'; cases z'
                  · have z' : X.env.kindOf x = some .free := z
                    rw [k1] at z'; cases z'
                · exact ⟨c, e, z⟩
              obtain ⟨c, hc1, ob, hc2, hc3⟩ := cellX
              obtain ⟨c', hc'⟩ := qE X.env sc.names [] x (PySem.mem_of_lookup hf)
              rw [hgl] at hc'
              obtain ⟨d, hd⟩ := j2 hc'
              have ed : d = c := by
                have := clm x d hd
                rw [hc1] at this; cases this; rfl
              subst ed
              refine ⟨u, r, .inr ⟨?_, d, hd, ob, old _ _ hc2, hc3⟩⟩
              exact qZ hf
        · obtain ⟨v, ob, ho, hd⟩ := I2.cell x c (clm x c e)
          exact ⟨v, ob, old _ _ ho, hd⟩
        · have hp' : p ∈ X.pn ++ pins := by simpa [blk] using hp
          obtain ⟨e1, e2, e3, e4, e5⟩ := I2.pin p hp'
          exact ⟨old _ _ e1, e2, (pinB p hp').1, (pinB p hp').2, e5⟩
        · show (Js cap σ).length = N'.length
          unfold Js
          rw [List.length_map]; exact ok.len
      have fpB : ∀ {H' : Hp} {pl : List (Addr × Obj)}, (∀ b ∈ fp, H' b = none) -> (∀ p ∈ pl, p.1 ∉ fp) -> ∀ b ∈ fp, abn (blk X N' sc cl C s2 H2 fp (X.pn ++ pins)) pl H' b := fun {H' pl} hn hpl b hb =>
        ⟨hn b hb, ltC (fpLt b hb), bok.exfs b hb, .inl hb, fun x c e => (f2 b hb).2.2.2.2.1 x c (clm x c e), fun p hp z => by
          rcases List.mem_append.mp (show p ∈ (X.pn ++ pins) ++ pl from hp) with q | q
          · exact (f2 b hb).2.2.2.2.2 p q z
          · exact hpl p q (by rw [z]; exact hb)⟩
      have Dfp : ∀ (o : Obj), ∀ p ∈ [(D, o)], p.1 ∉ fp := fun o p hp z => by
        have e : p = (D, o) := by simpa using hp
        subst e
        exact Nat.lt_irrefl _ (fpLt D z)
      have Dfs : D ∉ frs X.stack := fun z => Nat.lt_irrefl _ (stkLt D z)
      obtain ⟨bG, bT, bE, bX⟩ := body cl C s2 H2 fp (X.pn ++ pins)
      have loop : codeAny (model X.prog X.w) X.A (.compLoop (.ListComp el [⟨tg, src, ts, 0⟩] sc ps) 0 (.ref it) (.ref D) (compEnvC sc cl C X.env)) (compPost (model X.prog X.w) X.A X.xe none (fun _ _ => False) (.ref D) C)
          { s2 with heap := h4, toks := s2.toks + ([] : List (Str × Value)).length } := by
        refine afZ (fun n s' => ∃ i τ ys us k H', Inv (blk X N' sc cl C s2 H2 fp (X.pn ++ pins)) [] τ H' s' /\ tn i s'.heap /\ (∀ b ∈ fp, H' b = none) /\ jC ys us /\ s'.heap.get? D = some { cls := .type "list", data := .seq us.toArray k } /\ H' D = none /\ W i n τ ys H') ?_ m0
          ⟨0, _, [], [], 0, H2, I4, T.keep _ _ _ st2 (fun b _ o e => old b o e), fun b hb => (f2 b hb).1, .nil, accO, H2D, w0⟩
        rintro n s5 ⟨i, τ, ys, us, k, H5, I5, st5, fr5, rv5, ho5, hD5, w5⟩
        obtain ⟨hsz, alt⟩ := turn i n τ ys H5 w5
        have I5p : Inv (blk X N' sc cl C s2 H2 fp (X.pn ++ pins)) [(D, { cls := .type "list", data := .seq us.toArray k })] τ H5 s5 := I5.pins_of fun p hp => by
          have e : p = (D, { cls := .type "list", data := .seq us.toArray k }) := by simpa using hp
          subst e
          exact ⟨ho5, hD5, hDC, Dfs, fun v z => by cases z⟩
        obtain ⟨go, step⟩ := alt
        · refine thn (T.item (blk X N' sc cl C s2 H2 fp (X.pn ++ pins)) rfl rfl rfl hc i _ s5 τ H5 NoX I5p (fpB fr5 (Dfp _)) st5 go) fun r s6 ⟨u, hr, h6⟩ => ?_
          subst hr
          refine thn h6 fun _ s7 ⟨x, H7, I7, r7, y7, st7, fr7⟩ => ?_
          have I7p := I7.pinned (fpB fr7 (Dfp _)) (T.obj _ _ st7)
          refine thn (bG _ s7 τ H7 x u _ I7p r7 (step x H7 y7)) fun _ s8 ⟨τ8, H8, I8, q8⟩ => ?_
          have back : ∀ {τ9 : St} {H9 : Hp} {s9 : Shared}, Inv (blk X N' sc cl C s2 H2 fp (X.pn ++ pins)) ([(D, { cls := .type "list", data := .seq us.toArray k })] ++ Qq fp s7.heap) τ9 H9 s9 ->
              tn (i + 1) s9.heap /\ (∀ b ∈ fp, H9 b = none) /\ s9.heap.get? D = some { cls := .type "list", data := .seq us.toArray k } /\ H9 D = none := fun {τ9 H9 s9} I9 => by
            have pD := I9.pin (D, { cls := .type "list", data := .seq us.toArray k }) (List.mem_append_right _ (List.mem_append_left _ (List.mem_singleton.mpr rfl)))
            refine ⟨T.keep _ _ _ st7 fun b hb o e => (I9.pin (b, o) (List.mem_append_right _ (List.mem_append_right _ (qk hb e)))).1, fun b hb => ?_, pD.1, pD.2.1⟩
            obtain ⟨o, e, _⟩ := T.obj _ _ st7 b hb
            exact (I9.pin (b, o) (List.mem_append_right _ (List.mem_append_right _ (qk hb e)))).2.1
          have drop : ∀ {τ9 : St} {H9 : Hp} {s9 : Shared} {pl : List (Addr × Obj)}, Inv (blk X N' sc cl C s2 H2 fp (X.pn ++ pins)) pl τ9 H9 s9 -> Inv (blk X N' sc cl C s2 H2 fp (X.pn ++ pins)) [] τ9 H9 s9 := fun I9 => I9.pins_of fun p hp => nomatch hp
          refine thn (bT _ s8 τ8 H8 _ I8 q8) fun b s9 ⟨H9, I9, q9⟩ => ?_
          cases b with
          | false =>
            rw [if_neg Bool.false_ne_true] at q9 ⊢
            obtain ⟨m', hm, w9⟩ := q9
            obtain ⟨t9, f9, o9, d9⟩ := back I9
            exact ⟨m', hm, i + 1, τ8, ys, us, k, H9, drop I9, t9, f9, rv5, o9, d9, w9⟩
          | true =>
            rw [if_pos rfl] at q9 ⊢
            rcases q9 with ⟨ρ9, en9, hx9, sm9⟩ | q9
            · refine wpAny_mono (bX _ s9 τ8 H9 ρ9 c I9 en9 hx9) (fun _ _ z => z.elim) fun ev s10 t => ?_
              obtain ⟨e0, C0, s1', H1', H', rfl, hC0, I1', sm1, os, bare, un, hok, xc, sm2⟩ := t
              have I10 : Inv (blk X N' sc cl C s2 H2 fp (X.pn ++ pins)) _ τ8 H' s10 := I1'.call' (ch := []) os un hok bare fun b z => nomatch z
              have J1 : Inv X pins σ H1' s1' := I2.call' (ch := fp) I1'.os I1'.base I1'.hok I1'.bare fun b hb => ⟨(f2 b hb).2.2.2.1, (f2 b hb).2.1, (f2 b hb).2.2.2.2.1, (f2 b hb).2.2.2.2.2⟩
              have J10 : Inv X pins σ H' s10 := I2.call' (ch := fp) I10.os I10.base I10.hok I10.bare fun b hb => ⟨(f2 b hb).2.2.2.1, (f2 b hb).2.1, (f2 b hb).2.2.2.2.1, (f2 b hb).2.2.2.2.2⟩
              have xcc : Xc X H' s10.heap e0 C0 := Xc.of T0.ex J1 xc
              obtain ⟨m10, ⟨oC, esC, epC, hoC, hdC, rC⟩, _⟩ := I10.loc
              have hoC : s10.heap.get? C = some oC := hoC
              have H'C : H' C = none := I10.free
              have ndC : ∀ vs, oC.data ≠ .fields vs := fun vs z => by rw [hdC] at z; cases z
              have Cfs : C ∉ frs X.stack := fun z => by have := stkLt C z; rw [hC] at this; exact Nat.lt_irrefl _ (Nat.lt_of_succ_lt this)
              have J10' : Inv X [] σ H' s10 := J10.pins_of fun p hp => nomatch hp
              show wpAny (model X.prog X.w) X.A (noteFrame (.ref e0) X.env) _ _ s10
              refine wpAny_mono (ajo (E := fun _ _ => False) T0 I2.ok.frames J10' xcc) (fun _ s11 ⟨J11, x11, kp⟩ => ?_) fun _ _ z => z.elim
              have oC11 := kp C oC Cfs ndC hoC
              refine ⟨m10, ⟨oC, esC, epC, oC11, hdC, rC⟩, fun h12 hs12 cenv _ => ?_⟩
              have J12 : Inv X [] σ H' { s11 with heap := h12, toks := s11.toks } := J11.turned (it := C) (fun b o hb e => hs12.extBut b o hb e) H'C (Ne.symm (ltC locLt)) (.inr (Nat.le_trans I2.sz hCge)) (fun x c e => ltC (cellsLt x c e)) (fun p hp => ltC (pinLt p (by simpa using List.mem_append_left _ (by simpa using hp))))
              obtain ⟨oe, vs, T', oT, ts', he, hce, hde, h1e, hTe, mT, hT, hdT, h3T⟩ := x11.ob
              have eC : e0 ≠ C := fun z => by rw [z, oC11] at he; cases he; exact ndC _ hde
              have TC : T' ≠ C := fun z => by rw [z, oC11] at hT; cases hT; exact ndC _ hdT
              have x12 : XcT X H' h12 e0 C0 := ⟨x11.mine, oe, vs, T', oT, ts', hs12.extBut _ _ eC he, hce, hde, h1e, hTe, mT, hs12.extBut _ _ TC hT, hdT, h3T⟩
              unfold PySem.passOn
              refine wpAny_bind (wpAny_field (hs12.extBut _ _ eC he) hde h1e ?_)
              rw [if_neg (by simp)]
              have fin : ∀ s13, Inv X [] σ H' s13 -> XcT X H' s13.heap e0 C0 -> wpAny (model X.prog X.w) X.A (throw (Value.ref e0) : Sem Value) (fun _ _ => False) X.xe s13 := fun s13 J13 x13 => wpAny_throw (kx _ _ ⟨e0, C0, σ, H', rfl, hC0, J13, sm9.trans (sm1.trans sm2), x13.c⟩)
              first
                | exact wpAny_bind (wpAny_mono (zq (E := fun _ _ => False) _ J12 x12) (fun _ s13 ⟨J13, x13⟩ => fin s13 J13 x13) fun _ _ z => z.elim)
                | exact wpAny_bind (wpAny_pure (wpAny_bind (wpAny_mono (zq (E := fun _ _ => False) _ J12 x12) (fun _ s13 ⟨J13, x13⟩ => fin s13 J13 x13) fun _ _ z => z.elim)))
            refine wpAny_mono (bE _ s9 τ8 H9 _ I9 q9) (fun y s10 ⟨z, H10, I10, r10, q10⟩ => ?_) fun _ _ z => (show False from z).elim
            obtain ⟨m', hm, w10⟩ := q10
            obtain ⟨t10, f10, o10, d10⟩ := back I10
            have hl := rv5.length
            refine append_at (hsz := by show us.toArray.size <= sizeLine; rw [List.size_toArray, ← hl]; exact Nat.le_of_lt hsz) o10 fun h11 hs11 hD11 => ?_
            have I11 : Inv (blk X N' sc cl C s2 H2 fp (X.pn ++ pins)) [] τ8 H10 { s10 with heap := h11, toks := s10.toks } := (drop I10).turned (it := D) (fun b o hb e => hs11.extBut b o hb e) d10 hDC (.inr hDge) (fun x c e => Nat.ne_of_lt (cellsLt x c (clm x c e)))
              (fun p hp => by have hp' : p ∈ X.pn ++ pins := by simpa [blk] using hp
                              exact Nat.ne_of_lt (pinLt p hp'))
            refine ⟨m', hm, i + 1, τ8, ys ++ [z], us ++ [y], k + 1, H10, I11, T.keep _ _ _ t10 (fun b hb o e => hs11.extBut b o (Nat.ne_of_lt (fpLt b hb)) e), f10, rv5.append (.cons r10 .nil), ?_, d10, w10⟩
            rw [hD11]
            simp
      refine codeAny_compStart_list loop ?_
      exact T.self _ 0 _ _ _ (T.keep _ _ _ st2 (fun b _ o e => old b o e)) loop
    · simp [abQ, h1, hf] at q
end
section
variable {X:Cx}{e:Expr}{st:Stmt}{jT:List Stmt}{fa:Rho->Option PyData}{G F:Rho->Option Out}{pos:Pos}
noncomputable def adM (i:Nat) (f:Rho->Option PyData) (G F:Rho->Option Out):Rho->Option Out:=fun ρ=>(f ρ).bind fun d=>if i < ρ.length then (G (ρ.set i (some d))).bind fun o=>match o with
  | .nx ρ'=>F ρ'
  | _=>none
 else none
theorem ahy (i:Nat) {x:Str}{pos':Pos} (hN:X.N.Nodup) (he:PN X e fa) (h:PSO X (some i) st G) (hR:Qn X jT F) (hi:X.N[i]?=some x:=by rfl) (hx:Loc X.env.scope x:=by first | exact Or.inl rfl | exact Or.inr rfl) (hs:swapsWith e (some (.Name x pos')) pos.line X.env=pure false:=by rfl)
  (hf:X.fn x=true ∨ X.env.scope.names.lookup x=some .local:=by first | exact .inl rfl | exact .inr rfl | assumption):Qn X (.Assign [.Name x pos'] e pos::st::jT) (adM i fa G F):=by
 with_unfolding_all
  have hR':PSs X jT (fun D σ H=>∃ Hs ρ o,EnvO X.prog X.w X.K Hs H (some i) ρ σ/\F ρ=some o/\(match o with
    | .nx ρ'=>∀ σ' H',jn Hs H'->EnvR X.K H' ρ' σ'->D.nx σ' H'
    | .rt d=>∀ v H',jn Hs H'->Rep X.K H' d v->D.rt v H'
    | .bk ρ'=>∀ σ' H',jn Hs H'->EnvR X.K H' ρ' σ'->D.bk σ' H'
    | .ct ρ'=>∀ σ' H',jn Hs H'->EnvR X.K H' ρ' σ'->D.ct σ' H')):=by
   intro pins s σ H D I ⟨Hs,ρ,o,E,hF,k⟩
   obtain ⟨d0,a,cl,o',g1,g2,g3,S,g4,env,sm,back,keep⟩:=E.opn
   refine hR pins s σ (upd H a o') D (Inv.opened I S g4) ⟨ρ,o,env,hF,?_⟩
   cases o with
   | nx ρ'=>exact fun σ' H' s' e'=>k σ' H' (sm.trans s') e'
   | rt d=>exact fun v H' s' e'=>k v H' (sm.trans s') e'
   | bk ρ'=>exact fun σ' H' s' e'=>k σ' H' (sm.trans s') e'
   | ct ρ'=>exact fun σ' H' s' e'=>k σ' H' (sm.trans s') e'
  refine PSs.imp (zX (abm hN hi hx he hs hf) (zX h hR')) fun D σ H ⟨ρ,o,en,q,k⟩=>?_
  cases h1:fa ρ with
  | none=>simp [adM,h1] at q
  | some d=>
   by_cases hl:i < ρ.length
   ·cases h2:G (ρ.set i (some d)) with
    | none=>simp [adM,h1,h2] at q
    | some p=>
     cases p with
     | nx ρ1=>
      have hF:F ρ1=some o:=by simpa [adM,h1,h2,hl] using q
      refine ⟨ρ,d,en,h1,fun a H' s hn ow=>⟨H,ρ.set i (some d),.nx ρ1,⟨by simp [en.len],s,fun j y q n=>?_,fun j n=>?_⟩,h2,fun σ' H'' E'=>⟨H,ρ1,o,E',hF,?_⟩⟩⟩
      ·have hj:i ≠ j:=fun z=>n (by rw [z])
       rw [List.getElem?_set_ne hj] at q ⊢
       obtain ⟨v,g1,g2⟩:=en.at' j y q
       exact ⟨v,g1,Rep.mono s _ _ g2⟩
      ·cases n
       refine ⟨d,a,by rw [List.getElem?_set_self hl],by rw [List.getElem?_set_self (by rw [←en.len]; exact hl)],hn,ow⟩
      ·cases o with
       | nx ρ'=>exact fun σ' H' s' e'=>k σ' H' s' e'
       | rt d=>exact fun v H' s' e'=>k v H' s' e'
       | bk ρ'=>exact fun σ' H' s' e'=>k σ' H' s' e'
       | ct ρ'=>exact fun σ' H' s' e'=>k σ' H' s' e'
     | rt _=>simp [adM,h1,h2,hl] at q
     | bk _=>simp [adM,h1,h2,hl] at q
     | ct _=>simp [adM,h1,h2,hl] at q
   ·simp [adM,h1,hl] at q
end
section
variable {X:Cx}{e a b c:Expr}{fa fb fc:Rho->Option PyData}{pos p2:Pos}
noncomputable def ze (fa fb fc:Rho->Option PyData):Rho->Option PyData:=fun ρ=>(fa ρ).bind fun p=>(fb ρ).bind fun q=>(inI q).bind fun i=>(fc ρ).bind fun r=>(inI r).bind fun j=>ajc p (some i) (some j)
theorem abR (ha:PD X a fa) (hb:PD X b fb) (hc:PD X c fc):PD X (.Subscript a (.Slice (some b) (some c) none p2) pos) (ze fa fb fc):=by
 with_unfolding_all
  refine PE.imp (aes (amf.or ajb) ha (adl hb) (adl hc)) fun σ H Q ⟨ρ,d,en,q,k⟩=>?_
  cases h1:fa ρ with
  | none=>simp [ze,h1] at q
  | some y=>
   cases h2:fb ρ with
   | none=>simp [ze,h1,h2] at q
   | some z=>
    cases h3:inI z with
    | none=>simp [ze,h1,h2,h3] at q
    | some i=>
     cases h4:fc ρ with
     | none=>simp [ze,h1,h2,h3,h4] at q
     | some z2=>
      cases h5:inI z2 with
      | none=>simp [ze,h1,h2,h3,h4,h5] at q
      | some j=>
       have q':ajc y (some i) (some j)=some d:=by simpa [ze,h1,h2,h3,h4,h5] using q
       have hz:=abK h3
       have hz2:=abK h5
       subst hz; subst hz2
       refine ⟨ρ,y,en,h1,fun v H1 s1 r1=>⟨ρ,_,en.mono s1,h2,fun u H2 s2 r2=>?_⟩⟩
       cases (show u=_ from r2)
       refine ⟨i,rfl,⟨ρ,_,(en.mono s1).mono s2,h4,fun u H3 s3 r3=>?_⟩⟩
       cases (show u=_ from r3)
       exact ⟨j,rfl,amz q' (Rep.mono s3 _ _ (Rep.mono s2 _ _ r1)) fun v H' s r=>k v H' (s1.trans (s2.trans (s3.trans s))) r⟩
end
end BX
end
local macro_rules
  | `(tactic| dsimp? [$xs,*])=>`(tactic| simp only [BX.jJ,BX.ifS,BX.ifD,BX.ifX,BX.akx,BX.orB,BX.zy,BX.tst,BX.op2,BX.chn,BX.jA,BX.Ju,BX.zp,BX.jg,BX.ju,BX.lkp,BX.cst,BX.ql,BX.JD,BX.qS,BX.jH,BX.qM,BX.nxX,BX.orX,BX.adG,BX.acq,BX.asB,zzA,zzB,zzC,zzD,zzH,zzE,zzI,zzF,zzG,zzJ,zzK,zzL,zzM,zzN,$(⟨xs.elemsAndSeps⟩),*])
section
namespace Rods
open PySem L2 BX
open PyProof.Rows hiding St
noncomputable def top (i:Nat):Stmt:=PySem.Challenge.pw_beadrods_k67_counting.main.body.getD i (.Pass ⟨0,0,0,0⟩)
structure Bare (mg:Str->Option Value):Prop where
 isi:mg "isinstance"=none
 bool:mg "bool"=none
 int:mg "int"=none
 tuple:mg "tuple"=none
 zip:mg "zip"=none
 range:mg "range"=none
 all:mg "all"=none
 len:mg "len"=none
 max:mg "max"=none
 min:mg "min"=none
 sum:mg "sum"=none
 sorted:mg "sorted"=none
 abs:mg "abs"=none
 list:mg "list"=none
 enum:mg "enumerate"=none
 vale:mg "ValueError"=none
 str:mg "str"=none
 set:mg "set"=none
 dict:mg "dict"=none
theorem ak5:bootBuiltins "bool"=some (.type "bool"):=by decide +kernel
theorem amF:bootBuiltins "int"=some (.type "int"):=by decide +kernel
theorem aeL:bootBuiltins "tuple"=some (.type "tuple"):=by decide +kernel
theorem amG:bootBuiltins "all"=some (.builtin "all"):=by decide +kernel
theorem Zs:bootBuiltins "len"=some (.builtin "len"):=by decide +kernel
theorem abE:bootBuiltins "max"=some (.builtin "max"):=by decide +kernel
theorem afJ:bootBuiltins "min"=some (.builtin "min"):=by decide +kernel
theorem QA:bootBuiltins "sum"=some (.builtin "sum"):=by decide +kernel
theorem ahz:bootBuiltins "sorted"=some (.builtin "sorted"):=by decide +kernel
theorem adN:bootBuiltins "abs"=some (.builtin "abs"):=by decide +kernel
end Rods
namespace Rods
open PySem L2 BX
open PyProof.Rows hiding St
noncomputable abbrev ZQ:Stmt:=top 6
noncomputable abbrev QQ:Stmt:=top 14
noncomputable abbrev ZR:Stmt:=top 13
noncomputable abbrev adO:Stmt:=top 16
noncomputable abbrev zj (C:Program->World->PySem.W.Frag->(Str->Option Value)->Heap->Prop) (qual:Str) (st:Stmt) (N:List Str) (k:Nat) (B:Rho->Option Out):Prop:=
 ∀ (P:Program) (w:World) (K:PySem.W.Frag) (mg:Str->Option Value) (base:Heap) (f:Addr) (cdv:Value) (A:Around) (outer:List Env) (s:Shared) (H:Hp) (E:XK),C P w K mg base->Room k (A.deeper (envOfC qual (jf st) s.heap.objs.size f cdv))->
  Qn (zY CX0 P w K mg base N qual (jf st) f cdv A outer s H E).nox (jU st) B
theorem af0:FnScope ["thing","least","most"] ["thing","least","most"] (jf ZQ):=⟨rfl,rfl,rfl,by decide +kernel,rfl,by decide +kernel,by decide +kernel⟩
noncomputable def ZS:{ B:Rho->Option Out // zj (fun _ _ _ mg _=>Bare mg) "is_whole" ZQ ["thing","least","most"] 0 B }:=
 ⟨_,fun P w K mg base f cdv A outer s H E T hr=>
  je (qe (abw (afB (zb (afG (.inl rfl) T.isi T.bool ak5 (jb 0))) (ads (qx (zb (afG (.inr (.inl rfl)) T.isi T.int amF (jb 0))))))) (je (jz Jj) ji) ji)
  (je (jz (aiu Qu Qu (jb 1) (jb 0) (jb 2))) ji)⟩
noncomputable def j8:List PyData->Option PyData:=jy ["thing","least","most"] 3 ZS.1
theorem aeM:FnScope ["manner","rod"] ["manner","rod"] (jf QQ):=⟨rfl,rfl,rfl,by decide +kernel,rfl,by decide +kernel,by decide +kernel⟩
noncomputable def aan:{ B:Rho->Option Out // zj (fun _ _ _ _ _=>True) "rod_worth" QQ ["manner","rod"] 0 B }:=
 ⟨_,fun P w K mg base f cdv A outer s H E T hr=>
  je (jz (jp jE (jp zx (j5 (jb 1) jh) (j5 (jb 0) jh)) (j5 (jb 1) jh))) ji⟩
noncomputable def zU:List PyData->Option PyData:=jy ["manner","rod"] 2 aan.1
theorem ajr:FnScope ["rod"] ["rod"] (jf adO):=⟨rfl,rfl,rfl,by decide +kernel,rfl,by decide +kernel,by decide +kernel⟩
noncomputable def af1:{ B:Rho->Option Out // zj (fun _ _ _ _ _=>True) "beads" adO ["rod"] 0 B }:=
 ⟨_,fun P w K mg base f cdv A outer s H E T hr=>je (jz (jp jE (j5 (jb 0) jh) (j5 (jb 0) jh))) ji⟩
noncomputable def qv:List PyData->Option PyData:=jy ["rod"] 1 af1.1
noncomputable def qA (i:Nat) (m:Nat):List PyData:=(List.range m).map fun (j:Nat)=>PyData.tuple [.int (i:Int),.int (j:Int)]
noncomputable def qW (n m:Nat):List PyData:=(List.range n).flatMap fun (i:Nat)=>qA i m
theorem aeN (i m:Nat):qA i (m+1)=qA i m++[PyData.tuple [.int (i:Int),.int (m:Int)]]:=by simp [qA,List.range_succ]
theorem Qd (n m:Nat):qW (n+1) m=qW n m++qA n m:=by simp [qW,List.range_succ]
theorem aeO (i m:Nat):noLs (qA i m)=true:=abB fun d hd=>by
 obtain ⟨j,_,rfl⟩:=List.mem_map.mp hd
 simp [noL,noLs]
theorem ahA (n m:Nat):noLs (qW n m)=true:=by
 induction n with
 | zero=>simp [qW,noLs]
 | succ n ih=>rw [Qd,Qw,ih,aeO]; rfl
theorem adP (i m:Nat):(qA i m).length=m:=by simp [qA]
theorem ZT (n m:Nat):(qW n m).length=n*m:=by
 induction n with
 | zero=>simp [qW]
 | succ n ih=>rw [Qd,List.length_append,ih,adP,Nat.succ_mul]
noncomputable def Je (ds:List PyData):Option PyData:=match ds with
 | [.tuple [.int u,.int _,.int l,.int _]]=>if 0<=u/\u < 1000/\0<=l/\l < 1000 then some (.list (qW (u+1).toNat (l+1).toNat)) else none
 | _=>none
theorem Qe:FnScope ["manner","rods","upper","lower"] ["manner"] (jf ZR):=⟨rfl,rfl,rfl,by decide +kernel,rfl,by decide +kernel,by decide +kernel⟩
end Rods
namespace Rods
open PySem L2 BX
open PyProof.Rows hiding St
section
variable {P:Program}{w:World}{K:PySem.W.Frag}{mg:Str->Option Value}{base:Heap}
theorem af2 {f:Addr}{fd:FuncData} (F:Fun K "all_rods" "all_rods" ZR f fd) (T:Bare mg):FnOk P w K mg base CX0 1 f fd ["manner"] (Pur K 1 Je):=by
 with_unfolding_all
  refine F.ok Qe (fun vs H Q E h=>?_) (fun cdv A outer s H vs Q E hr h=>?_)
  ·obtain ⟨ds,d,h1,h2,_⟩:=h
   rw [h2.length]; exact h1
  ·obtain ⟨ds,d,h1,h2,h3,k⟩:=h
   unfold Je at h3
   split at h3
   ·rename_i u e l b
    split at h3
    ·rename_i hb
     obtain ⟨hu0,hu1,hl0,hl1⟩:=hb
     cases h3
     refine ⟨_,zX (abm (i:=1) Qe.nd rfl (Or.inl rfl) (afx qY))
      (zX (adk PassesOwn.never rfl (aaf rfl T.range (ja (jp jE (j5 (jb 0) jh) jh) jd)) (aa0 (i:=2) Qe.nd rfl (Or.inl rfl))
       (adi (adk PassesOwn.never rfl (aaf rfl T.range (ja (jp jE (j5 (jb 0) jh) jh) jd)) (aa0 (i:=3) Qe.nd rfl (Or.inl rfl))
        (adi (adj (acH PySem.F.plainAttrs_list PySem.F.slot_list_append PySem.F.type_list_append acJ (pv 1) (qg (aig (qg (pv 2) (qg (pv 3) qY))) qY)))))))
      (adi (afr (pv 1)))),?_⟩
     obtain ⟨mv,rr,e1,em,e2⟩:=h2
     cases (show rr=[] from e2)
     subst e1
     have nm:noL (PyData.tuple [.int u,.int e,.int l,.int b])=true:=by simp [noL,noLs]
     refine ⟨Nat.zero_le _,fun p hp=>?_⟩
     have envr:∀ {H2:Hp} {x2 x3:Option V} {y:Option V},jn H H2->EnvR K H2 [some (PyData.tuple [.int u,.int e,.int l,.int b]),none,none,none] [some mv,y,x2,x3]:=fun {H2 x2 x3 y} s2=>
      ⟨rfl,fun i d q=>by
       cases i with
       | zero=>cases q; exact ⟨mv,rfl,Rep.mono s2 _ _ em⟩
       | succ i=>
        match i,q with
        | 0,q=>cases q
        | 1,q=>cases q
        | 2,q=>cases q
        | j+3,q=>simp at q⟩
     refine ⟨_,[.int (u+1)],envr (jD hp),by simp [jg,ju,op2,lkp,dIx,atI,ixN,cst,qF],fun vs1 H1 s1 r1=>?_⟩
     obtain ⟨y1,q1,f1,f2,f3⟩:=r1
     cases (show y1=V.int (u+1) from f2)
     cases (show q1=[] from f3)
     subst f1
     refine ⟨u+1,rfl,by omega,by omega,acC (n:=(u+1).toNat) (fun i σ H2=>∃ x2 x3 xs,σ=[some mv,some (.ref p),x2,x3]/\jn H H2/\H2 p=some (.lst xs)/\Reps K H2 (qW i (l+1).toNat) xs)
      ⟨none,none,[],rfl,(jD hp).trans s1,s1 _ _ jq,rfl⟩ ?_ ?_⟩
     ·rintro i σ H2 hi ⟨x2,x3,xs,rfl,s2,hp2,r2⟩
      refine ⟨_,[.int (l+1)],envr s2,by simp [jg,ju,op2,lkp,dIx,atI,ixN,cst,qF],fun vs2 H3 s3 r3=>?_⟩
      obtain ⟨y2,q2,g1,g2,g3⟩:=r3
      cases (show y2=V.int (l+1) from g2)
      cases (show q2=[] from g3)
      subst g1
      refine ⟨l+1,rfl,by omega,by omega,acC (n:=(l+1).toNat) (fun j σ H4=>∃ x3 ys,σ=[some mv,some (.ref p),some (.int (0+i)),x3]/\jn H H4/\H4 p=some (.lst ys)/\Reps K H4 (qW i (l+1).toNat++qA i j) ys)
       ⟨x3,xs,rfl,s2.trans s3,s3 _ _ hp2,by simpa [qA] using Reps.mono s3 _ _ r2⟩ ?_ ?_⟩
      ·rintro j σ H4 hj ⟨x3',ys,rfl,s4,hp4,r4⟩
       have hlen:ys.length < sizeLine:=by
        rw [r4.length,List.length_append,ZT,adP,sizeLine_eq]
        have h1:i*(l+1).toNat<=1000*1001:=Nat.mul_le_mul (by omega) (by omega)
        omega
       refine ⟨_,rfl,.inl ⟨rfl,ys,SqL.of hp4⟩,_,rfl,_,rfl,by show 2<=sizeLine; rw [sizeLine_eq]; decide,fun q hq=>?_⟩
       have npq:p ≠ q:=qr hp4 hq
       refine ⟨p,ys,.ref q,rfl,rfl,by rw [jm npq]; exact hp4,hlen,?_⟩
       have t1:zm H4 (upd (upd H4 q (.tup [.int (0+(i:Int)),.int (0+(j:Int))])) p (.lst (ys++[.ref q]))):=
        (jn.n (jD hq)).trans (zm.upd (xs:=ys) (by rw [jm npq]; exact hp4))
       refine ⟨_,ys++[.ref q],rfl,fun c o hc=>?_,jq,?_⟩
       ·have hc4:=s4 c o hc
        rw [jm (qr hc hp),jm (qr hc4 hq)]
        exact hc4
       ·rw [aeN,←List.append_assoc]
        refine (Reps.monoN t1 _ _ (by rw [Qw,ahA,aeO]; rfl) r4).append ⟨.ref q,[],rfl,⟨q,_,rfl,SqT.of (by rw [jm (Ne.symm npq)]; exact jq),?_⟩,rfl⟩
        exact ⟨_,_,rfl,by show _=V.int _; rw [Int.zero_add],_,_,rfl,by show _=V.int _; rw [Int.zero_add],rfl⟩
      ·rintro σ H4 ⟨x3',ys,rfl,s4,hp4,r4⟩
       exact ⟨_,x3',ys,rfl,s4,hp4,by rw [Qd]; exact r4⟩
     ·rintro σ H2 ⟨x2,x3,xs,rfl,s2,hp2,r2⟩
      exact ⟨_,rfl,k _ _ s2 ⟨p,xs,rfl,hp2,r2⟩⟩
    ·cases h3
   ·cases h3
end
end Rods
namespace Rods
open PySem L2 BX
open PyProof.Rows hiding St
noncomputable abbrev QR:Stmt:=top 11
noncomputable abbrev QS:Stmt:=top 10
noncomputable abbrev CC:=Program->World->PySem.W.Frag->(Str->Option Value)->Heap->Prop
structure CHasAll (P:Program) (w:World) (K:PySem.W.Frag) (mg:Str->Option Value) (base:Heap):Prop where
 t:Bare mg
 allRods:jo P w K mg base "all_rods" ["manner"] 1 1 Je
 rodWorth:jo P w K mg base "rod_worth" ["manner","rod"] 1 2 zU
theorem acY:FnScope ["manner","worths"] ["manner"] (jf QR):=⟨rfl,rfl,rfl,by decide +kernel,rfl,by decide +kernel,by decide +kernel⟩
theorem nd2:(["rod","manner"]:List Str).Nodup:=by decide +kernel
theorem nd3:(["digit","worths"]:List Str).Nodup:=by decide +kernel
noncomputable def adQ:{ B:Rho->Option Out // zj CHasAll "has_all_digits" QR ["manner","worths"] 1 B }:=
 ⟨_,fun P w K mg base f cdv A outer s H E C hr=>
  je (jR 1 acY.nd (qh ["rod","manner"] [none,some 0] rfl (ZD (jl C.allRods hr (Nat.le_refl _) (ja (jb 0) jd) (jc jk))) (jV (jf QR) ["manner","worths"] (by decide +kernel))
   fun cl C' s0 H0 fp pn=>⟨jw 0 nd2,jO,jl C.rodWorth hr (Nat.le_refl _) (ja (jb 1) (ja (jb 0) jd)) (jc (jc jk))⟩))
  (je (jz (jM (amp rfl) C.t.all amG (ja (qh ["digit","worths"] [none,some 1] rfl (j1 rfl C.t.range (ja (j5 (jb 0) jh) jd)) (jV (jf QR) ["manner","worths"] (by decide +kernel))
   fun cl C' s0 H0 fp pn=>⟨jw 0 nd3,jO,aip (amn hr.units) (jb 0) (jb 1)⟩) jd))) ji)⟩
noncomputable abbrev abS:Stmt:=top 12
noncomputable abbrev JN:Stmt:=top 15
noncomputable abbrev aa7:Stmt:=top 17
noncomputable def GC (K:PySem.W.Frag) (mg:Str->Option Value) (x:Str) (d:PyData):Prop:=∃ v u,mg x=some u/\jQ v u/\∀ H,Rep K H d v
theorem Ze {X:Cx}{pos:Pos}{x:Str}{d:PyData} (c:GC X.K X.mg x d) (hg:Gl X x:=by rfl) (hd:(x == ("__debug__":Str))=false:=by decide):PD X (.Name x pos) (cst d):=by
 with_unfolding_all
  obtain ⟨v,u,h1,h2,h3⟩:=c
  exact akv hg h1 h2 h3 hd
noncomputable def ZU:List PyData->Option PyData:=jy ["manner","worths"] 1 adQ.1
structure CIsManner (P:Program) (w:World) (K:PySem.W.Frag) (mg:Str->Option Value) (base:Heap):Prop where
 t:Bare mg
 least:GC K mg "LEAST_PARTS" (.tuple [.int 0,.int 1,.int 0,.int 2])
 most:GC K mg "MOST_PARTS" (.tuple [.int 3,.int 16,.int 12,.int 16])
 isWhole:jo P w K mg base "is_whole" ["thing","least","most"] 1 3 j8
 hasAll:jo P w K mg base "has_all_digits" ["manner"] 2 1 ZU
theorem Jm:FnScope ["thing","part","least","most"] ["thing"] (jf QS):=⟨rfl,rfl,rfl,by decide +kernel,rfl,by decide +kernel,by decide +kernel⟩
noncomputable def aao:{ B:Rho->Option Out // zj CIsManner "is_manner" QS ["thing","part","least","most"] 2 B }:=
 ⟨_,fun P w K mg base f cdv A outer s H E C hr=>
  je (qe (abw (afB (qx (zb (afG (.inr (.inr rfl)) C.t.isi C.t.tuple aeL (jb 0)))) (ads (jS (Jw hr.units) (jM Zk C.t.len Zs (ja (jb 0) jd)) (jM Zk C.t.len Zs (ja (Ze C.most) jd)))))) (je (jz Jj) ji) ji)
  (je (ZF PassesOwn.never rfl (aiA C.t.zip (ja (jb 0) (ja (Ze C.least) (ja (Ze C.most) jd)))) (JW (n:=3) rfl (j0 (jw 1 Jm.nd) (j0 (jw 2 Jm.nd) (j0 (jw 3 Jm.nd) Jc))))
   (je (qe (qx (zb (jl C.isWhole hr (by decide) (ja (jb 1) (ja (jb 2) (ja (jb 3) jd))) (jc (jc (jc jk)))))) (je (jz Jj) ji) ji) ji))
  (je (jz (jl C.hasAll hr (Nat.le_refl _) (ja (jb 0) jd) (jc jk))) ji))⟩
noncomputable def qm:List PyData->Option PyData:=jy ["thing","part","least","most"] 1 aao.1
structure CCheck (P:Program) (w:World) (K:PySem.W.Frag) (mg:Str->Option Value) (base:Heap):Prop where
 isManner:jo P w K mg base "is_manner" ["thing"] 3 1 qm
theorem aeP:FnScope ["thing"] ["thing"] (jf abS):=⟨rfl,rfl,rfl,by decide +kernel,rfl,by decide +kernel,by decide +kernel⟩
noncomputable def adR:{ B:Rho->Option Out // zj CCheck "check_manner" abS ["thing"] 3 B }:=
 ⟨_,fun P w K mg base f cdv A outer s H E C hr=>
  je (qe (qx (zb (jl C.isManner hr (Nat.le_refl _) (ja (jb 0) jd) (jc jk)))) JV ji) ji⟩
noncomputable def Jx:List PyData->Option PyData:=jy ["thing"] 1 adR.1
structure CRodsWith (P:Program) (w:World) (K:PySem.W.Frag) (mg:Str->Option Value) (base:Heap):Prop where
 allRods:jo P w K mg base "all_rods" ["manner"] 1 1 Je
 rodWorth:jo P w K mg base "rod_worth" ["manner","rod"] 1 2 zU
theorem aeQ:FnScope ["manner","worth"] ["manner","worth"] (jf JN):=⟨rfl,rfl,rfl,by decide +kernel,rfl,by decide +kernel,by decide +kernel⟩
theorem nd4:(["rod","manner","worth"]:List Str).Nodup:=by decide +kernel
noncomputable def aap:{ B:Rho->Option Out // zj CRodsWith "rods_with" JN ["manner","worth"] 1 B }:=
 ⟨_,fun P w K mg base f cdv A outer s H E C hr=>
  je (jz (qh ["rod","manner","worth"] [none,some 0,some 1] rfl (ZD (jl C.allRods hr (Nat.le_refl _) (ja (jb 0) jd) (jc jk))) (jV (jf JN) ["manner","worth"] (by decide +kernel))
   fun cl C' s0 H0 fp pn=>⟨jw 0 nd4,aeu (jS (Jv hr.units) (jl C.rodWorth hr (Nat.le_refl _) (ja (jb 1) (ja (jb 0) jd)) (jc (jc jk))) (jb 2)),jb 0⟩)) ji⟩
noncomputable def QT:List PyData->Option PyData:=jy ["manner","worth"] 2 aap.1
structure CFewest (P:Program) (w:World) (K:PySem.W.Frag) (mg:Str->Option Value) (base:Heap):Prop where
 t:Bare mg
 rodsWith:jo P w K mg base "rods_with" ["manner","worth"] 2 2 QT
 beads:jo P w K mg base "beads" ["rod"] 1 1 qv
theorem ahB:FnScope ["manner","worth"] ["manner","worth"] (jf aa7):=⟨rfl,rfl,rfl,by decide +kernel,rfl,by decide +kernel,by decide +kernel⟩
noncomputable def aa8:{ B:Rho->Option Out // zj CFewest "fewest_beads" aa7 ["manner","worth"] 2 B }:=
 ⟨_,fun P w K mg base f cdv A outer s H E C hr=>
  je (jz (aiG rfl C.beads hr (Nat.le_refl _) C.t.min (jl C.rodsWith hr (by decide) (ja (jb 0) (ja (jb 1) jd)) (jc (jc jk))))) ji⟩
noncomputable def Jn:List PyData->Option PyData:=jy ["manner","worth"] 2 aa8.1
noncomputable abbrev Jf:Stmt:=top 21
noncomputable abbrev zf:Stmt:=top 22
noncomputable abbrev zA:Stmt:=top 23
noncomputable abbrev agE (C:CC) (qual:Str) (st:Stmt) (N:List Str) (k:Nat) (sts:List Stmt) (B:Rho->Option Out):Prop:=
 ∀ (P:Program) (w:World) (K:PySem.W.Frag) (mg:Str->Option Value) (base:Heap) (f:Addr) (cdv:Value) (A:Around) (outer:List Env) (s:Shared) (H:Hp) (E:XK),C P w K mg base->Room k (A.deeper (envOfC qual (jf st) s.heap.objs.size f cdv))->
  Qn (zY CX0 P w K mg base N qual (jf st) f cdv A outer s H E).nox sts B
noncomputable abbrev alN (own:Nat) (C:CC) (qual:Str) (st:Stmt) (N:List Str) (k:Nat) (sts:List Stmt) (B:Rho->Option Out):Prop:=
 ∀ (P:Program) (w:World) (K:PySem.W.Frag) (mg:Str->Option Value) (base:Heap) (f:Addr) (cdv:Value) (A:Around) (outer:List Env) (s:Shared) (H:Hp) (E:XK),C P w K mg base->Room k (A.deeper (envOfC qual (jf st) s.heap.objs.size f cdv))->
  adB (zY CX0 P w K mg base N qual (jf st) f cdv A outer s H E).nox (some own) sts B
noncomputable def ZV:Stmt->List Stmt
 | .For _ _ b _ _=>b
 | _=>[]
noncomputable def aeR (l:List Stmt) (i:Nat):Stmt:=l.getD i (.Pass ⟨0,0,0,0⟩)
structure CChkRods (P:Program) (w:World) (K:PySem.W.Frag) (mg:Str->Option Value) (base:Heap):Prop where
 isWhole:jo P w K mg base "is_whole" ["thing","least","most"] 1 3 j8
 most:GC K mg "MOST_RODS" (.int 4)
theorem abT:FnScope ["rods"] ["rods"] (jf Jf):=⟨rfl,rfl,rfl,by decide +kernel,rfl,by decide +kernel,by decide +kernel⟩
noncomputable def QB:{ B:Rho->Option Out // zj CChkRods "check_rods" Jf ["rods"] 1 B }:=
 ⟨_,fun P w K mg base f cdv A outer s H E C hr=>
  je (qe (qx (zb (jl C.isWhole hr (Nat.le_refl _) (ja (jb 0) (ja jh (ja (Ze C.most) jd))) (jc (jc (jc jk)))))) JV ji) ji⟩
noncomputable def qu:List PyData->Option PyData:=jy ["rods"] 1 QB.1
structure CChkNum (P:Program) (w:World) (K:PySem.W.Frag) (mg:Str->Option Value) (base:Heap):Prop where
 isWhole:jo P w K mg base "is_whole" ["thing","least","most"] 1 3 j8
 most:GC K mg "MOST_NUMBER" (.int 99999)
theorem acZ:FnScope ["number"] ["number"] (jf zf):=⟨rfl,rfl,rfl,by decide +kernel,rfl,by decide +kernel,by decide +kernel⟩
noncomputable def ZW:{ B:Rho->Option Out // zj CChkNum "check_number" zf ["number"] 1 B }:=
 ⟨_,fun P w K mg base f cdv A outer s H E C hr=>
  je (qe (qx (zb (jl C.isWhole hr (Nat.le_refl _) (ja (jb 0) (ja jh (ja (Ze C.most) jd))) (jc (jc (jc jk)))))) JV ji) ji⟩
noncomputable def qH:List PyData->Option PyData:=jy ["number"] 1 ZW.1
structure CAsked (P:Program) (w:World) (K:PySem.W.Frag) (mg:Str->Option Value) (base:Heap):Prop where
 check:jo P w K mg base "check_manner" ["thing"] 4 1 Jx
 rods:jo P w K mg base "check_rods" ["rods"] 2 1 qu
 num:jo P w K mg base "check_number" ["number"] 2 1 qH
theorem aeS:FnScope ["manner","rods","number"] ["manner","rods","number"] (jf zA):=⟨rfl,rfl,rfl,by decide +kernel,rfl,by decide +kernel,by decide +kernel⟩
noncomputable def aaq:{ B:Rho->Option Out // zj CAsked "check_asked" zA ["manner","rods","number"] 4 B }:=
 ⟨_,fun P w K mg base f cdv A outer s H E C hr=>
  je (zc (jl C.check hr (Nat.le_refl _) (ja (jb 0) jd) (jc jk)))
  (je (zc (jl C.rods hr (by decide) (ja (jb 1) jd) (jc jk)))
  (je (zc (jl C.num hr (by decide) (ja (jb 2) jd) (jc jk))) ji))⟩
noncomputable def zg:List PyData->Option PyData:=jy ["manner","rods","number"] 3 aaq.1
noncomputable abbrev QU:Stmt:=top 24
noncomputable abbrev QV:Stmt:=top 25
noncomputable abbrev ak6:List Str:=["base","rods","number","digits","left"]
noncomputable def ahC:Stmt->List Stmt
 | .While _ b _ _=>b
 | _=>[]
theorem adS:FnScope ak6 ["base","rods","number"] (jf QV):=⟨rfl,rfl,rfl,by decide +kernel,rfl,by decide +kernel,by decide +kernel⟩
noncomputable def Zt:{ B:Rho->Option Out // alN 3 (fun _ _ _ mg _=>Bare mg) "digits_by_rods" QV ak6 0 (ahC (aeR (jU QV) 2)) B }:=
 ⟨_,fun P w K mg base f cdv A outer s H E C hr=>
  zT (agy (afP 3 jh (jp Jk (jb 4) (jb 0))))
  (zT (agx 4 adS.nd (jp JE (jb 4) (jb 0))) abI)⟩
noncomputable def ak7:{ B:Rho->Option Out // zj (fun _ _ _ mg _=>Bare mg) "digits_by_rods" QV ak6 0 B }:=
 ⟨_,fun P w K mg base f cdv A outer s H E C hr=>
  aiO (aiT 3 adS.nd (aiS jd)
  (zT (agx 4 adS.nd (jb 2))
  (zT (ahg 10 PassesOwn.never (jS ais (jM Zk C.len Zs (ja (jb 3) jd)) (jp zI (jb 1) jh)) (Zt.2 P w K mg base f cdv A outer s H E C hr))
  (zT (akL (jp jE (Zf (ja (jb 4) jd)) (jb 3))) abI))))⟩
noncomputable def ajs:List PyData->Option PyData:=jy ak6 3 ak7.1
structure CPlainR (P:Program) (w:World) (K:PySem.W.Frag) (mg:Str->Option Value) (base:Heap):Prop where
 t:Bare mg
 dig:jo P w K mg base "digits_by_rods" ["base","rods","number"] 1 3 ajs
 fewest:jo P w K mg base "fewest_beads" ["manner","worth"] 3 2 Jn
noncomputable abbrev QW:List Str:=["manner","rods","number","digits"]
theorem QX:FnScope QW ["manner","rods","number"] (jf QU):=⟨rfl,rfl,rfl,by decide +kernel,rfl,by decide +kernel,by decide +kernel⟩
theorem ndd:(["digit","manner"]:List Str).Nodup:=by decide +kernel
noncomputable def QY:{ B:Rho->Option Out // zj CPlainR "plain_rods" QU QW 3 B }:=
 ⟨_,fun P w K mg base f cdv A outer s H E C hr=>
  je (jR 3 QX.nd (jl C.dig hr (by decide) (ja (j5 (jb 0) jh) (ja (jb 1) (ja (jb 2) jd))) (jc (jc (jc jk)))))
  (je (qe (jS ait (j5 (jb 3) jh) (j5 (jb 0) jh)) JV ji)
  (je (jz (ag6 aiW C.t.tuple aeL (ja (qh ["digit","manner"] [none,some 0] rfl (ZD (jb 3)) (jV (jf QU) QW (by decide +kernel))
   fun cl C' s0 H0 fp pn=>⟨jw 0 ndd,jO,jl C.fewest hr (Nat.le_refl _) (ja (jb 1) (ja (jb 0) jd)) (jc (jc jk))⟩) jd))) ji))⟩
noncomputable def zL:List PyData->Option PyData:=jy QW 3 QY.1
noncomputable abbrev agF:Stmt:=top 37
noncomputable abbrev adT:Stmt:=top 38
noncomputable abbrev aa9:Stmt:=top 39
theorem ak8:FnScope ["_law_script","_law_k"] ["_law_script","_law_k"] (jf agF):=⟨rfl,rfl,rfl,by decide +kernel,rfl,by decide +kernel,by decide +kernel⟩
noncomputable def agG:{ B:Rho->Option Out // zj (fun _ _ _ mg _=>Bare mg) "_law_cell" agF ["_law_script","_law_k"] 0 B }:=
 ⟨_,fun P w K mg base f cdv A outer s H E C hr=>
  je (qe (jS (Jv hr.units) (jb 0) (Zf jd)) (je (jz (jp zx jh (jb 1))) ji) ji)
  (je (jz (jp jE (j5 (jb 0) (jp Jk (jb 1) (jM Zk C.len Zs (ja (jb 0) jd)))) (jp zx jh (jp JE (jb 1) (jM Zk C.len Zs (ja (jb 0) jd)))))) ji)⟩
noncomputable def aeT:List PyData->Option PyData:=jy ["_law_script","_law_k"] 2 agG.1
structure CDrawn (P:Program) (w:World) (K:PySem.W.Frag) (mg:Str->Option Value) (base:Heap):Prop where
 cell:jo P w K mg base "_law_cell" ["_law_script","_law_k"] 1 2 aeT
theorem abU:FnScope ["_law_script","_law_k","_law_many","_law_cell_here"] ["_law_script","_law_k","_law_many"] (jf adT):=⟨rfl,rfl,rfl,by decide +kernel,rfl,by decide +kernel,by decide +kernel⟩
noncomputable def af3:{ B:Rho->Option Out // zj CDrawn "_law_drawn" adT ["_law_script","_law_k","_law_many","_law_cell_here"] 1 B }:=
 ⟨_,fun P w K mg base f cdv A outer s H E C hr=>
  je (jR 3 abU.nd (jp Jk (jp jE (jp zx (jp Jk (jl C.cell hr (Nat.le_refl _) (ja (jb 0) (ja (jb 1) jd)) (jc (jc jk))) jh) jh) (jp zx jh (jp jE (jb 1) jh))) jh))
  (je (jR 3 abU.nd (jp Jk (jp jE (jp zx (jb 3) (jb 3)) (jp JE (jb 3) jh)) jh))
  (je (jz (jp Jk (jp JE (jp Jk (jp jE (jp zx (jb 3) (jb 3)) (jp JE (jb 3) jh)) jh) jh) (jb 2))) ji))⟩
noncomputable def Qf:List PyData->Option PyData:=jy ["_law_script","_law_k","_law_many","_law_cell_here"] 3 af3.1
noncomputable abbrev adU:List Str:=["_law_script","_law_at","_law_known","_law_way","_law_each","_law_upper","_law_lower"]
structure CManner (P:Program) (w:World) (K:PySem.W.Frag) (mg:Str->Option Value) (base:Heap):Prop where
 t:Bare mg
 drawn:jo P w K mg base "_law_drawn" ["_law_script","_law_k","_law_many"] 2 3 Qf
theorem zu:FnScope adU ["_law_script","_law_at"] (jf aa9):=⟨rfl,rfl,rfl,by decide +kernel,rfl,by decide +kernel,by decide +kernel⟩
noncomputable def jr (a b c d:Int):PyData:= .tuple [.int a,.int b,.int c,.int d]
noncomputable def aar:List PyData:=[jr 1 5 4 10,jr 2 5 5 10,jr 0 1 9 10,jr 1 5 5 10,jr 0 1 10 10,jr 1 2 1 4,jr 0 1 1 2]
noncomputable def aas:List PyData:=[jr 1 4 3 8,jr 1 3 2 5,jr 3 4 3 16,jr 2 3 2 7,jr 1 1 1 3]
noncomputable def aba:{ B:Rho->Option Out // zj CManner "_law_manner" aa9 adU 2 B }:=
 ⟨_,fun P w K mg base f cdv A outer s H E C hr=>
  je (jR 2 zu.nd (Jd 3 (.list aar) (by kernel_rfl)))
  (je (jR 2 zu.nd (jp jE (jb 2) (Jd 3 (.list aas) (by kernel_rfl))))
  (je (jR 3 zu.nd (jl C.drawn hr (Nat.le_refl _) (ja (jb 0) (ja (jb 1) (ja (jp zx jh (jM Zk C.t.len Zs (ja (jb 2) jd))) jd))) (jc (jc (jc jk)))))
  (je (qe (jS ais (jb 3) (jM Zk C.t.len Zs (ja (jb 2) jd))) (je (jz (j5 (jb 2) (jb 3))) ji) ji)
  (je (jR 4 zu.nd (jp jE jh (jl C.drawn hr (Nat.le_refl _) (ja (jb 0) (ja (jp jE (jb 1) jh) (ja jh jd))) (jc (jc (jc jk))))))
  (je (jR 5 zu.nd (jl C.drawn hr (Nat.le_refl _) (ja (jb 0) (ja (jp jE (jb 1) jh) (ja jh jd))) (jc (jc (jc jk)))))
  (je (jR 6 zu.nd (jp jE (jM (akD rfl) C.t.max abE (ja (jp zI (jb 4) jh) (ja jh jd))) (jl C.drawn hr (Nat.le_refl _) (ja (jb 0) (ja (jp jE (jb 1) jh) (ja jh jd))) (jc (jc (jc jk))))))
  (je (jz (Ja (ja (jb 5) (ja (jb 4) (ja (jb 6) (ja (jp jE jh (jl C.drawn hr (Nat.le_refl _) (ja (jb 0) (ja (jp jE (jb 1) jh) (ja (jM (akE rfl) C.t.min afJ (ja jh (ja (jp jE (jp zx (jb 5) (jb 4)) (jb 6)) jd))) jd))) (jc (jc (jc jk))))) jd)))))) ji)))))))⟩
noncomputable def QZ:List PyData->Option PyData:=jy adU 2 aba.1
noncomputable abbrev ZX (C:CC) (qual:Str) (st:Stmt) (N:List Str) (k:Nat) (Fx:Rho->Option Str):Prop:=
 ∀ (P:Program) (w:World) (K:PySem.W.Frag) (mg:Str->Option Value) (base:Heap) (f:Addr) (cdv:Value) (A:Around) (outer:List Env) (s:Shared) (H:Hp) (E:XK),C P w K mg base->Room k (A.deeper (envOfC qual (jf st) s.heap.objs.size f cdv))->
  aaY (zY (CXt P w) P w K mg base N qual (jf st) f cdv A outer s H E) (jU st) Fx
noncomputable def aoC (k:Bool):PyData:= .str (if k=true then "lower" else "upper")
noncomputable def mv (r:Int) (k:Bool) (c:Int):PyData:= .tuple [.int r,aoC k,.int c]
theorem abB {ds:List PyData} (h:∀ d ∈ ds,noL d=true):noLs ds=true:=by
 induction ds with
 | nil=>rfl
 | cons d ds ih=>simp only [noLs,h d List.mem_cons_self,ih fun c hc=>h c (List.mem_cons_of_mem _ hc),Bool.and_self]
noncomputable def ab (i:Int):Int:=if i < 0 then -i else i
noncomputable def fd (p q:Int × Int):Int:=ab (q.1 - p.1)+ab (q.2 - p.2)
end Rods
namespace Rods
open PySem L2 BX
open PyProof.Rows hiding St
noncomputable abbrev qQ:List Str:=["NoManner","NoNumber","TooGreat"]
noncomputable abbrev Q0:Stmt:=top 28
structure CRodApart (P:Program) (w:World) (K:PySem.W.Frag) (mg:Str->Option Value) (base:Heap):Prop where
 t:Bare mg
noncomputable abbrev aat:List Str:=["rod","goal"]
theorem aeU:FnScope aat ["rod","goal"] (jf Q0):=⟨rfl,rfl,rfl,by decide +kernel,rfl,by decide +kernel,by decide +kernel⟩
noncomputable def Q1:{ B:Rho->Option Out // zj CRodApart "rod_apart" Q0 aat 0 B }:=
 ⟨_,fun P w K mg base f cdv A outer s H E C hr=>
  (je (jz (jp jE (jM adD C.t.abs adN (ja (jp zI (j5 (jb 1) jh) (j5 (jb 0) jh)) jd)) (jM adD C.t.abs adN (ja (jp zI (j5 (jb 1) jh) (j5 (jb 0) jh)) jd))))
  ji)⟩
noncomputable def zV:List PyData->Option PyData:=jy aat 2 Q1.1
noncomputable abbrev abV:Stmt:=top 27
structure CApart (P:Program) (w:World) (K:PySem.W.Frag) (mg:Str->Option Value) (base:Heap):Prop where
 t:Bare mg
 c_RodApart:jo P w K mg base "rod_apart" ["rod","goal"] 1 2 zV
noncomputable abbrev adV:List Str:=["one","other"]
theorem ajt:FnScope adV ["one","other"] (jf abV):=⟨rfl,rfl,rfl,by decide +kernel,rfl,by decide +kernel,by decide +kernel⟩
theorem ZY:(["rod","goal"]:List Str).Nodup:=by decide +kernel
noncomputable def adW:{ B:Rho->Option Out // zj CApart "apart" abV adV 1 B }:=
 ⟨_,fun P w K mg base f cdv A outer s H E C hr=>
  (je (jz (jM (Zl rfl) C.t.sum QA (ja (qh ["rod","goal"] [none,none] rfl (JK C.t.zip (ja (jb 0) (ja (jb 1) jd))) (jV (jf abV) adV (by decide +kernel))
   fun cl C' s0 H0 fp pn=>⟨(JW (n:=2) rfl (j0 (jw 0 ZY) (j0 (jw 1 ZY) Jc))),jO,(jl C.c_RodApart hr (by decide) (ja (jb 0) (ja (jb 1) jd)) (jc (jc jk)))⟩) jd)))
  ji)⟩
noncomputable def af4:List PyData->Option PyData:=jy adV 2 adW.1
noncomputable abbrev Zu:Stmt:=top 31
structure CWayUp (P:Program) (w:World) (K:PySem.W.Frag) (mg:Str->Option Value) (base:Heap):Prop where
 t:Bare mg
 c_asked:jo P w K mg base "check_asked" ["manner","rods","number"] 5 3 zg
 c_chkNum:jo P w K mg base "check_number" ["number"] 2 1 qH
 c_plainR:jo P w K mg base "plain_rods" ["manner","rods","number"] 4 3 zL
 k_MOST_STEPS:GC K mg "MOST_STEPS" (.int 999)
noncomputable abbrev Zv:List Str:=["manner","rods","first","last"]
theorem aeV:FnScope Zv ["manner","rods","first","last"] (jf Zu):=⟨rfl,rfl,rfl,by decide +kernel,rfl,by decide +kernel,by decide +kernel⟩
theorem aeW:(["number","manner","rods"]:List Str).Nodup:=by decide +kernel
noncomputable def Qg:{ B:Rho->Option Out // zj CWayUp "way_up" Zu Zv 5 B }:=
 ⟨_,fun P w K mg base f cdv A outer s H E C hr=>
  (je (zc (jl C.c_asked hr (by decide) (ja (jb 0) (ja (jb 1) (ja (jb 2) jd))) (jc (jc (jc jk)))))
  (je (zc (jl C.c_chkNum hr (by decide) (ja (jb 3) jd) (jc jk)))
  (je (qe (qx (aaj Qu Qu jh (jp zI (jb 3) (jb 2)) (Ze C.k_MOST_STEPS))) (je acL
  ji) ji)
  (je (jz (qh ["number","manner","rods"] [none,some 0,some 1] rfl (Zi rfl C.t.range (ja (jb 2) (ja (jp jE (jb 3) jh) jd))) (jV (jf Zu) Zv (by decide +kernel))
   fun cl C' s0 H0 fp pn=>⟨(jw 0 aeW),jO,(jl C.c_plainR hr (by decide) (ja (jb 1) (ja (jb 2) (ja (jb 0) jd))) (jc (jc (jc jk))))⟩))
  ji))))⟩
noncomputable def qN:List PyData->Option PyData:=jy Zv 4 Qg.1
noncomputable abbrev zB:Stmt:=top 34
structure CMovesOnRod (P:Program) (w:World) (K:PySem.W.Frag) (mg:Str->Option Value) (base:Heap):Prop where
 t:Bare mg
 c_RodApart:jo P w K mg base "rod_apart" ["rod","goal"] 1 2 zV
noncomputable abbrev Jo:List Str:=["way"]
theorem acy:FnScope Jo ["way"] (jf zB):=⟨rfl,rfl,rfl,by decide +kernel,rfl,by decide +kernel,by decide +kernel⟩
noncomputable def QC:{ B:Rho->Option Out // zj CMovesOnRod "moves_on_rod" zB Jo 1 B }:=
 ⟨_,fun P w K mg base f cdv A outer s H E C hr=>
  (je (jz (jM (Zl rfl) C.t.sum QA (ja (qh ["rod","goal"] [none,none] rfl (JK C.t.zip (ja (jb 0) (ja (J9 (jb 0) jh) jd))) (jV (jf zB) Jo (by decide +kernel))
   fun cl C' s0 H0 fp pn=>⟨(JW (n:=2) rfl (j0 (jw 0 ZY) (j0 (jw 1 ZY) Jc))),jO,(jl C.c_RodApart hr (by decide) (ja (jb 0) (ja (jb 1) jd)) (jc (jc jk)))⟩) jd)))
  ji)⟩
noncomputable def qB:List PyData->Option PyData:=jy Jo 1 QC.1
noncomputable abbrev Jp:Stmt:=top 33
structure CByRods (P:Program) (w:World) (K:PySem.W.Frag) (mg:Str->Option Value) (base:Heap):Prop where
 t:Bare mg
 c_WayUp:jo P w K mg base "way_up" ["manner","rods","first","last"] 6 4 qN
 c_MovesOnRod:jo P w K mg base "moves_on_rod" ["way"] 2 1 qB
noncomputable abbrev Q4:List Str:=["manner","rods","first","last","way"]
theorem aau:FnScope Q4 ["manner","rods","first","last"] (jf Jp):=⟨rfl,rfl,rfl,by decide +kernel,rfl,by decide +kernel,by decide +kernel⟩
theorem aju:(["place","way"]:List Str).Nodup:=by decide +kernel
theorem ajv:(["setting","place"]:List Str).Nodup:=by decide +kernel
noncomputable def amH:Expr->Scope
 | .ListComp _ _ sc _=>sc
 | _=>⟨.function,[],false,false,[]⟩
noncomputable def aoD:Stmt->Expr
 | .Return (some e) _=>e
 | _=> .Constant .none 0 ⟨0,0,0,0⟩
noncomputable abbrev anW:Scope:=relabel (amH (aoD (aeR (jU Jp) 1))) (envOfC "by_rods" (jf Jp) 0 0 .none)
noncomputable def ZZ:{ B:Rho->Option Out // zj CByRods "by_rods" Jp Q4 6 B }:=
 ⟨_,fun P w K mg base f cdv A outer s H E C hr=>
  (je (jR 4 aau.nd (jl C.c_WayUp hr (by decide) (ja (jb 0) (ja (jb 1) (ja (jb 2) (ja (jb 3) jd)))) (jc (jc (jc (jc jk))))))
  (je (jz (ai4 ["place","way"] [none,some 4] rfl (j1 rfl C.t.range (ja (jb 1) jd)) (ai5 (y0:="place") [(".0",.local)] [("moves_on_rod",.globalImplicit),("way",.free)] (jf Jp) Q4 (by decide +kernel))
   fun cl C' s0 H0 fp pn=>⟨(jw 0 aju),jO,(jl C.c_MovesOnRod hr (by decide) (ja (qh ["setting","place"] [none,some 0] rfl (aa6 (jb 1)) (jV anW ["place","way"] (by decide +kernel))
   fun cl C' s0 H0 fp pn=>⟨(jw 0 ajv),jO,(j5 (jb 0) (jb 1))⟩) jd) (jc jk))⟩))
  ji))⟩
noncomputable def zM:List PyData->Option PyData:=jy Q4 4 ZZ.1
noncomputable abbrev QD:Stmt:=top 32
structure CMovesUp (P:Program) (w:World) (K:PySem.W.Frag) (mg:Str->Option Value) (base:Heap):Prop where
 t:Bare mg
 c_ByRods:jo P w K mg base "by_rods" ["manner","rods","first","last"] 7 4 zM
noncomputable abbrev QE:List Str:=["manner","rods","first","last"]
theorem abW:FnScope QE ["manner","rods","first","last"] (jf QD):=⟨rfl,rfl,rfl,by decide +kernel,rfl,by decide +kernel,by decide +kernel⟩
noncomputable def Z0:{ B:Rho->Option Out // zj CMovesUp "moves_up" QD QE 7 B }:=
 ⟨_,fun P w K mg base f cdv A outer s H E C hr=>
  (je (jz (jM (Zl rfl) C.t.sum QA (ja (jl C.c_ByRods hr (by decide) (ja (jb 0) (ja (jb 1) (ja (jb 2) (ja (jb 3) jd)))) (jc (jc (jc (jc jk))))) jd)))
  ji)⟩
noncomputable def Jg:List PyData->Option PyData:=jy QE 4 Z0.1
noncomputable abbrev qI:Stmt:=top 35
structure CBusiestStep (P:Program) (w:World) (K:PySem.W.Frag) (mg:Str->Option Value) (base:Heap):Prop where
 t:Bare mg
 c_WayUp:jo P w K mg base "way_up" ["manner","rods","first","last"] 6 4 qN
 c_Apart:jo P w K mg base "apart" ["one","other"] 2 2 af4
noncomputable abbrev qJ:List Str:=["manner","rods","first","last","way","moves","most"]
theorem qC:FnScope qJ ["manner","rods","first","last"] (jf qI):=⟨rfl,rfl,rfl,by decide +kernel,rfl,by decide +kernel,by decide +kernel⟩
theorem aeX:(["setting","goal"]:List Str).Nodup:=by decide +kernel
noncomputable def zh:{ B:Rho->Option Out // zj CBusiestStep "busiest_step" qI qJ 6 B }:=
 ⟨_,fun P w K mg base f cdv A outer s H E C hr=>
  (je (jR 4 qC.nd (jl C.c_WayUp hr (by decide) (ja (jb 0) (ja (jb 1) (ja (jb 2) (ja (jb 3) jd)))) (jc (jc (jc (jc jk))))))
  (je (ZL 5 ["setting","goal"] [none,none] rfl qC.nd (JK C.t.zip (ja (jb 4) (ja (J9 (jb 4) jh) jd))) (jV (jf qI) qJ (by decide +kernel))
   fun cl C' s0 H0 fp pn=>⟨(JW (n:=2) rfl (j0 (jw 0 aeX) (j0 (jw 1 aeX) Jc))),jO,(jl C.c_Apart hr (by decide) (ja (jb 0) (ja (jb 1) jd)) (jc (jc jk)))⟩)
  (je (qe (qx (akT (jb 5))) (je (jz zo)
  ji) ji)
  (je (jR 6 qC.nd (jM (adz rfl) C.t.max abE (ja (jb 5) jd)))
  (je (jz (Ja (ja (jp jE (jb 2) (aeC (jb 5) (jb 6))) (ja (jb 6) jd))))
  ji)))))⟩
noncomputable def qt:List PyData->Option PyData:=jy qJ 4 zh.1
structure XCheck (P:Program) (w:World) (K:PySem.W.Frag) (mg:Str->Option Value) (base:Heap):Prop where
 c_isManner:jo P w K mg base "is_manner" ["thing"] 3 1 qm
 e_NoManner:afS K mg "NoManner"
noncomputable def aav:{ F:Rho->Option Str // ZX XCheck "check_manner" abS ["thing"] 3 F }:=
 ⟨_,fun P w K mg base f cdv A outer s H E C hr=>
  (jK (aal (qx (zb (jl C.c_isManner hr (by decide) (ja (jb 0) jd) (jc jk)))) (jK (JM rfl C.e_NoManner rfl)) zt))⟩
noncomputable def Zw:List PyData->Option Str:=Jl ["thing"] 1 aav.1
structure XChkRods (P:Program) (w:World) (K:PySem.W.Frag) (mg:Str->Option Value) (base:Heap):Prop where
 c_isWhole:jo P w K mg base "is_whole" ["thing","least","most"] 1 3 j8
 k_MOST_RODS:GC K mg "MOST_RODS" (.int 4)
 e_NoNumber:afS K mg "NoNumber"
noncomputable def JO:{ F:Rho->Option Str // ZX XChkRods "check_rods" Jf ["rods"] 1 F }:=
 ⟨_,fun P w K mg base f cdv A outer s H E C hr=>
  (jK (aal (qx (zb (jl C.c_isWhole hr (by decide) (ja (jb 0) (ja jh (ja (Ze C.k_MOST_RODS) jd))) (jc (jc (jc jk)))))) (jK (JM rfl C.e_NoNumber rfl)) zt))⟩
noncomputable def JP:List PyData->Option Str:=Jl ["rods"] 1 JO.1
structure XChkNum (P:Program) (w:World) (K:PySem.W.Frag) (mg:Str->Option Value) (base:Heap):Prop where
 c_isWhole:jo P w K mg base "is_whole" ["thing","least","most"] 1 3 j8
 k_MOST_NUMBER:GC K mg "MOST_NUMBER" (.int 99999)
 e_NoNumber:afS K mg "NoNumber"
noncomputable def Q5:{ F:Rho->Option Str // ZX XChkNum "check_number" zf ["number"] 1 F }:=
 ⟨_,fun P w K mg base f cdv A outer s H E C hr=>
  (jK (aal (qx (zb (jl C.c_isWhole hr (by decide) (ja (jb 0) (ja jh (ja (Ze C.k_MOST_NUMBER) jd))) (jc (jc (jc jk)))))) (jK (JM rfl C.e_NoNumber rfl)) zt))⟩
noncomputable def Qh:List PyData->Option Str:=Jl ["number"] 1 Q5.1
structure XAsked (P:Program) (w:World) (K:PySem.W.Frag) (mg:Str->Option Value) (base:Heap):Prop where
 c_chkRods:jo P w K mg base "check_rods" ["rods"] 2 1 qu
 c_check:jo P w K mg base "check_manner" ["thing"] 4 1 Jx
 x_check:zK P w K mg base "check_manner" ["thing"] 4 1 Zw
 x_chkRods:zK P w K mg base "check_rods" ["rods"] 2 1 JP
 x_chkNum:zK P w K mg base "check_number" ["number"] 2 1 Qh
noncomputable def Jy:{ F:Rho->Option Str // ZX XAsked "check_asked" zA ["manner","rods","number"] 4 F }:=
 ⟨_,fun P w K mg base f cdv A outer s H E C hr=>
  (QP (jK (Qz (qz rfl C.x_check hr (by decide) (ja (jb 0) jd) (jc jk)))) (zr (zc (jl C.c_check hr (by decide) (ja (jb 0) jd) (jc jk)))
  (QP (jK (Qz (qz rfl C.x_chkRods hr (by decide) (ja (jb 1) jd) (jc jk)))) (zr (zc (jl C.c_chkRods hr (by decide) (ja (jb 1) jd) (jc jk)))
  (jK (Qz (qz rfl C.x_chkNum hr (by decide) (ja (jb 2) jd) (jc jk))))))))⟩
noncomputable def QF:List PyData->Option Str:=Jl ["manner","rods","number"] 3 Jy.1
structure XPlainR (P:Program) (w:World) (K:PySem.W.Frag) (mg:Str->Option Value) (base:Heap):Prop where
 c_digits:jo P w K mg base "digits_by_rods" ["base","rods","number"] 1 3 ajs
 e_TooGreat:afS K mg "TooGreat"
noncomputable def Q6:{ F:Rho->Option Str // ZX XPlainR "plain_rods" QU QW 3 F }:=
 ⟨_,fun P w K mg base f cdv A outer s H E C hr=>
  (zr (jR 3 QX.nd (jl C.c_digits hr (by decide) (ja (j5 (jb 0) jh) (ja (jb 1) (ja (jb 2) jd))) (jc (jc (jc jk)))))
  (jK (aal (jS ait (j5 (jb 3) jh) (j5 (jb 0) jh)) (jK (JM rfl C.e_TooGreat rfl)) zt)))⟩
noncomputable def Z1:List PyData->Option Str:=Jl QW 3 Q6.1
structure XWayUp (P:Program) (w:World) (K:PySem.W.Frag) (mg:Str->Option Value) (base:Heap):Prop where
 t:Bare mg
 c_plainR:jo P w K mg base "plain_rods" ["manner","rods","number"] 4 3 zL
 c_chkNum:jo P w K mg base "check_number" ["number"] 2 1 qH
 c_asked:jo P w K mg base "check_asked" ["manner","rods","number"] 5 3 zg
 k_MOST_STEPS:GC K mg "MOST_STEPS" (.int 999)
 x_asked:zK P w K mg base "check_asked" ["manner","rods","number"] 5 3 QF
 x_chkNum:zK P w K mg base "check_number" ["number"] 2 1 Qh
 x_plainR:zK P w K mg base "plain_rods" ["manner","rods","number"] 4 3 Z1
 e_NoNumber:afS K mg "NoNumber"
noncomputable def Jz:{ F:Rho->Option Str // ZX XWayUp "way_up" Zu Zv 5 F }:=
 ⟨_,fun P w K mg base f cdv A outer s H E C hr=>
  (QP (jK (Qz (qz rfl C.x_asked hr (by decide) (ja (jb 0) (ja (jb 1) (ja (jb 2) jd))) (jc (jc (jc jk)))))) (zr (zc (jl C.c_asked hr (by decide) (ja (jb 0) (ja (jb 1) (ja (jb 2) jd))) (jc (jc (jc jk)))))
  (QP (jK (Qz (qz rfl C.x_chkNum hr (by decide) (ja (jb 3) jd) (jc jk)))) (zr (zc (jl C.c_chkNum hr (by decide) (ja (jb 3) jd) (jc jk)))
  (QP (jK (aal (qx (aaj Qu Qu jh (jp zI (jb 3) (jb 2)) (Ze C.k_MOST_STEPS))) (jK (JM rfl C.e_NoNumber rfl)) zt)) (zr (qe (qx (aaj Qu Qu jh (jp zI (jb 3) (jb 2)) (Ze C.k_MOST_STEPS))) (je acL
  ji) ji)
  (jK (aa4 (ajq ["number","manner","rods"] [none,some 0,some 1] afT rfl (Zi rfl C.t.range (ja (jb 2) (ja (jp jE (jb 3) jh) jd))) (jV (jf Zu) Zv (by decide +kernel))
   fun cl C' s0 H0 fp pn=>⟨(jw 0 aeW),jO,(jl C.c_plainR hr (by decide) (ja (jb 1) (ja (jb 2) (ja (jb 0) jd))) (jc (jc (jc jk)))),(ajp rfl C.x_plainR hr (by decide) (ja (jb 1) (ja (jb 2) (ja (jb 0) jd))) (jc (jc (jc jk))))⟩)))))))))⟩
noncomputable def QG:List PyData->Option Str:=Jl Zv 4 Jz.1
structure XByRods (P:Program) (w:World) (K:PySem.W.Frag) (mg:Str->Option Value) (base:Heap):Prop where
 x_WayUp:zK P w K mg base "way_up" ["manner","rods","first","last"] 6 4 QG
noncomputable def abb:{ F:Rho->Option Str // ZX XByRods "by_rods" Jp Q4 6 F }:=
 ⟨_,fun P w K mg base f cdv A outer s H E C hr=>
  (jK (agB (qz rfl C.x_WayUp hr (by decide) (ja (jb 0) (ja (jb 1) (ja (jb 2) (ja (jb 3) jd)))) (jc (jc (jc (jc jk)))))))⟩
noncomputable def Z2:List PyData->Option Str:=Jl Q4 4 abb.1
structure XMovesUp (P:Program) (w:World) (K:PySem.W.Frag) (mg:Str->Option Value) (base:Heap):Prop where
 t:Bare mg
 x_ByRods:zK P w K mg base "by_rods" ["manner","rods","first","last"] 7 4 Z2
noncomputable def Z3:{ F:Rho->Option Str // ZX XMovesUp "moves_up" QD QE 7 F }:=
 ⟨_,fun P w K mg base f cdv A outer s H E C hr=>
  (jK (aa4 (ahx C.t.sum QA (ajd (qz rfl C.x_ByRods hr (by decide) (ja (jb 0) (ja (jb 1) (ja (jb 2) (ja (jb 3) jd)))) (jc (jc (jc (jc jk)))))))))⟩
noncomputable def Z4:List PyData->Option Str:=Jl QE 4 Z3.1
structure XBusiestStep (P:Program) (w:World) (K:PySem.W.Frag) (mg:Str->Option Value) (base:Heap):Prop where
 x_WayUp:zK P w K mg base "way_up" ["manner","rods","first","last"] 6 4 QG
noncomputable def zN:{ F:Rho->Option Str // ZX XBusiestStep "busiest_step" qI qJ 6 F }:=
 ⟨_,fun P w K mg base f cdv A outer s H E C hr=>
  (jK (agB (qz rfl C.x_WayUp hr (by decide) (ja (jb 0) (ja (jb 1) (ja (jb 2) (ja (jb 3) jd)))) (jc (jc (jc (jc jk)))))))⟩
noncomputable def zO:List PyData->Option Str:=Jl qJ 4 zN.1
noncomputable abbrev Zx:Stmt:=top 40
structure CLRods (P:Program) (w:World) (K:PySem.W.Frag) (mg:Str->Option Value) (base:Heap):Prop where
 t:Bare mg
noncomputable abbrev abX:List Str:=["_law_manner_here","_law_found","_law_upper"]
theorem Z5:FnScope abX ["_law_manner_here"] (jf Zx):=⟨rfl,rfl,rfl,by decide +kernel,rfl,by decide +kernel,by decide +kernel⟩
theorem ajw:(["_law_lower","_law_upper"]:List Str).Nodup:=by decide +kernel
noncomputable def adX:{ B:Rho->Option Out // agE CLRods "_law_rods" Zx abX 0 (ZV (aeR (jU Zx) 1)) B }:=
 ⟨_,fun P w K mg base f cdv A outer s H E C hr=>
  (je (jR 1 Z5.nd (jp jE (jb 1) (qh ["_law_lower","_law_upper"] [none,some 2] rfl (j1 rfl C.t.range (ja (jp jE (j5 (jb 0) jh) jh) jd)) (jV (jf Zx) abX (by decide +kernel))
   fun cl C' s0 H0 fp pn=>⟨(jw 0 ajw),jO,(Ja (ja (jb 1) (ja (jb 0) jd)))⟩)))
  ji)⟩
noncomputable def adY:{ B:Rho->Option Out // zj CLRods "_law_rods" Zx abX 0 B }:=
 ⟨_,fun P w K mg base f cdv A outer s H E C hr=>
  (je (jR 1 Z5.nd (Zf jd))
  (je (ZF PassesOwn.never rfl (j1 rfl C.t.range (ja (jp jE (j5 (jb 0) jh) jh) jd)) (jw 2 Z5.nd) (adX.2 P w K mg base f cdv A outer s H E C hr))
  (je (jz (jb 1))
  ji)))⟩
noncomputable def adZ:List PyData->Option PyData:=jy abX 1 adY.1
noncomputable abbrev QH:Stmt:=top 41
structure CLFewest (P:Program) (w:World) (K:PySem.W.Frag) (mg:Str->Option Value) (base:Heap):Prop where
 t:Bare mg
 c_LRods:jo P w K mg base "_law_rods" ["_law_manner_here"] 1 1 adZ
noncomputable abbrev Z6:List Str:=["_law_manner_here","_law_digit","_law_some"]
theorem abY:FnScope Z6 ["_law_manner_here","_law_digit"] (jf QH):=⟨rfl,rfl,rfl,by decide +kernel,rfl,by decide +kernel,by decide +kernel⟩
theorem ajx:(["_law_rod","_law_digit","_law_manner_here"]:List Str).Nodup:=by decide +kernel
noncomputable def Z7:{ B:Rho->Option Out // zj CLFewest "_law_fewest" QH Z6 1 B }:=
 ⟨_,fun P w K mg base f cdv A outer s H E C hr=>
  (je (ZL 2 ["_law_rod","_law_digit","_law_manner_here"] [none,some 1,some 0] rfl abY.nd (aa6 (jl C.c_LRods hr (by decide) (ja (jb 0) jd) (jc jk))) (jV (jf QH) Z6 (by decide +kernel))
   fun cl C' s0 H0 fp pn=>⟨(jw 0 ajx),(aeu (jS (Jv hr.units) (jp jE (jp zx (j5 (jb 0) jh) (j5 (jb 2) jh)) (j5 (jb 0) jh)) (jb 1))),(Ja (ja (jM (Zl rfl) C.t.sum QA (ja (jb 0) jd)) (ja (jb 0) jd)))⟩)
  (je (jz (j5 (j5 (jM (ajn hr.sort) C.t.sorted ahz (ja (jb 2) jd)) jh) jh))
  ji))⟩
noncomputable def abZ:List PyData->Option PyData:=jy Z6 2 Z7.1
noncomputable abbrev Q7:Stmt:=top 42
structure CLPlain (P:Program) (w:World) (K:PySem.W.Frag) (mg:Str->Option Value) (base:Heap):Prop where
 t:Bare mg
 c_LFewest:jo P w K mg base "_law_fewest" ["_law_manner_here","_law_digit"] 2 2 abZ
noncomputable abbrev abc:List Str:=["_law_manner_here","_law_rods_here","_law_number","_law_found","_law_k"]
theorem JQ:FnScope abc ["_law_manner_here","_law_rods_here","_law_number"] (jf Q7):=⟨rfl,rfl,rfl,by decide +kernel,rfl,by decide +kernel,by decide +kernel⟩
noncomputable def QI:{ B:Rho->Option Out // agE CLPlain "_law_plain" Q7 abc 2 (ZV (aeR (jU Q7) 1)) B }:=
 ⟨_,fun P w K mg base f cdv A outer s H E C hr=>
  (je (jR 3 JQ.nd (jp jE (Ja (ja (jl C.c_LFewest hr (by decide) (ja (jb 0) (ja (jp Jk (jb 2) (j5 (jb 0) jh)) jd)) (jc (jc jk))) jd)) (jb 3)))
  (je (jR 2 JQ.nd (jp JE (jb 2) (j5 (jb 0) jh)))
  ji))⟩
noncomputable def Z8:{ B:Rho->Option Out // zj CLPlain "_law_plain" Q7 abc 2 B }:=
 ⟨_,fun P w K mg base f cdv A outer s H E C hr=>
  (je (jR 3 JQ.nd (Ja jd))
  (je (ZF PassesOwn.never rfl (j1 rfl C.t.range (ja (jb 1) jd)) (jw 4 JQ.nd) (QI.2 P w K mg base f cdv A outer s H E C hr))
  (je (jz (aiq (jS (Jv hr.units) (jb 2) jh) (jb 3) zo))
  ji)))⟩
noncomputable def zP:List PyData->Option PyData:=jy abc 3 Z8.1
noncomputable abbrev aeY:Stmt:=top 43
structure CLFar (P:Program) (w:World) (K:PySem.W.Frag) (mg:Str->Option Value) (base:Heap):Prop where
 t:Bare mg
noncomputable abbrev agH:List Str:=["_law_one","_law_other"]
theorem ak9:FnScope agH ["_law_one","_law_other"] (jf aeY):=⟨rfl,rfl,rfl,by decide +kernel,rfl,by decide +kernel,by decide +kernel⟩
theorem aeZ:(["_law_mine","_law_yours"]:List Str).Nodup:=by decide +kernel
noncomputable def agI:{ B:Rho->Option Out // zj CLFar "_law_far" aeY agH 0 B }:=
 ⟨_,fun P w K mg base f cdv A outer s H E C hr=>
  (je (jz (jM (Zl rfl) C.t.sum QA (ja (qh ["_law_mine","_law_yours"] [none,none] rfl (JK C.t.zip (ja (jb 0) (ja (jb 1) jd))) (jV (jf aeY) agH (by decide +kernel))
   fun cl C' s0 H0 fp pn=>⟨(JW (n:=2) rfl (j0 (jw 0 aeZ) (j0 (jw 1 aeZ) Jc))),jO,(jp jE (jM adD C.t.abs adN (ja (jp zI (j5 (jb 0) jh) (j5 (jb 1) jh)) jd)) (jM adD C.t.abs adN (ja (jp zI (j5 (jb 0) jh) (j5 (jb 1) jh)) jd)))⟩) jd)))
  ji)⟩
noncomputable def ae0:List PyData->Option PyData:=jy agH 2 agI.1
noncomputable abbrev zW:Stmt:=top 44
structure CLRefused (P:Program) (w:World) (K:PySem.W.Frag) (mg:Str->Option Value) (base:Heap):Prop where
 t:Bare mg
 errT:ErrT K mg "BeadError" qQ
noncomputable abbrev aaw:List Str:=["_law_e","_law_flags"]
theorem aaQ:FnScope aaw ["_law_e"] (jf zW):=⟨rfl,rfl,rfl,by decide +kernel,rfl,by decide +kernel,by decide +kernel⟩
noncomputable def ac0:{ B:Rho->Option Out // ∀ (P:Program) (w:World) (K:PySem.W.Frag) (mg:Str->Option Value) (base:Heap) (f:Addr) (cdv:Value) (A:Around) (outer:List Env) (s:Shared) (H:Hp) (E:XK),CLRefused P w K mg base->RoomH 0 (A.deeper (envOfC "_law_refused" (jf zW) s.heap.objs.size f cdv))->
  Qn (cxH P w K mg base aaw "_law_refused" (jf zW) f cdv A outer s H E) (jU zW) B }:=
 ⟨_,fun P w K mg base f cdv A outer s H E C hr=>
  (je (jR 1 aaQ.nd (Zf (ja (adK C.errT C.t.isi (jb 0)) (ja (adK C.errT C.t.isi (jb 0)) (ja (adK C.errT C.t.isi (jb 0)) jd)))))
  (je (qe (abw (afB (jS (Jw hr.units) (ahs (jb 1) Jj) jh) (ads (qx (zb (ak1 C.errT C.t.isi C.t.vale (jb 0))))))) (je (jz (Ja (ja adq (ja (aiJ jh) jd))))
  ji) ji)
  (je (jz (Ja (ja adq (ja (ahr (jb 1) Jj) jd))))
  ji)))⟩
noncomputable def qK:List PyData->Option PyData:=jy aaw 1 ac0.1
noncomputable abbrev aax:Stmt:=top 45
structure CLTold (P:Program) (w:World) (K:PySem.W.Frag) (mg:Str->Option Value) (base:Heap):Prop where
 c_MovesUp:jo P w K mg base "moves_up" ["manner","rods","first","last"] 8 4 Jg
 c_ByRods:jo P w K mg base "by_rods" ["manner","rods","first","last"] 7 4 zM
 c_BusiestStep:jo P w K mg base "busiest_step" ["manner","rods","first","last"] 7 4 qt
 x_MovesUp:zK P w K mg base "moves_up" ["manner","rods","first","last"] 8 4 Z4
 x_ByRods:zK P w K mg base "by_rods" ["manner","rods","first","last"] 7 4 Z2
 x_BusiestStep:zK P w K mg base "busiest_step" ["manner","rods","first","last"] 7 4 zO
 h_LRefused:aa5 P w K mg base "_law_refused" ["_law_e"] 1 1 qK
 errT:ErrT K mg "BeadError" qQ
noncomputable abbrev af5:List Str:=["_law_way","_law_manner_here","_law_rods_here","_law_first","_law_last","_law_e"]
theorem ae1:FnScope af5 ["_law_way","_law_manner_here","_law_rods_here","_law_first","_law_last"] (jf aax):=⟨rfl,rfl,rfl,by decide +kernel,rfl,by decide +kernel,by decide +kernel⟩
noncomputable def zi:{ B:Rho->Option Out // ∀ (P:Program) (w:World) (K:PySem.W.Frag) (mg:Str->Option Value) (base:Heap) (f:Addr) (cdv:Value) (A:Around) (outer:List Env) (s:Shared) (H:Hp) (E:XK),CLTold P w K mg base->Room 8 (A.deeper (envOfC "_law_told" (jf aax) s.heap.objs.size f cdv))->
  ai9 (zY CX0 P w K mg base af5 "_law_told" (jf aax) f cdv A outer s H E) (jU aax) B }:=
 ⟨_,fun P w K mg base f cdv A outer s H E C hr=>
  (ahn (ajj (n:=6) 5 afT rfl ae1.nd C.errT
   (fun E'=>(je (qe (jS (Jv hr.units) (jb 0) jh) (je (jz (jl C.c_MovesUp hr (by decide) (ja (jb 1) (ja (jb 2) (ja (jb 3) (ja (jb 4) jd)))) (jc (jc (jc (jc jk))))))
  ji) ji)
  (je (jz (aiq (jS (Jv hr.units) (jb 0) jh) (jl C.c_ByRods hr (by decide) (ja (jb 1) (ja (jb 2) (ja (jb 3) (ja (jb 4) jd)))) (jc (jc (jc (jc jk))))) (jl C.c_BusiestStep hr (by decide) (ja (jb 1) (ja (jb 2) (ja (jb 3) (ja (jb 4) jd)))) (jc (jc (jc (jc jk)))))))
  ji)))
   (fun E'=>(QP (jK (aal (jS (Jv hr.units) (jb 0) jh) (jK (aa4 (qz rfl C.x_MovesUp hr (by decide) (ja (jb 1) (ja (jb 2) (ja (jb 3) (ja (jb 4) jd)))) (jc (jc (jc (jc jk))))))) zt)) (zr (qe (jS (Jv hr.units) (jb 0) jh) (je (jz (jl C.c_MovesUp hr (by decide) (ja (jb 1) (ja (jb 2) (ja (jb 3) (ja (jb 4) jd)))) (jc (jc (jc (jc jk))))))
  ji) ji)
  (jK (aa4 (amE (jS (Jv hr.units) (jb 0) jh) (qz rfl C.x_ByRods hr (by decide) (ja (jb 1) (ja (jb 2) (ja (jb 3) (ja (jb 4) jd)))) (jc (jc (jc (jc jk))))) (qz rfl C.x_BusiestStep hr (by decide) (ja (jb 1) (ja (jb 2) (ja (jb 3) (ja (jb 4) jd)))) (jc (jc (jc (jc jk)))))))))))
   (fun e=>(je (jz (aje C.h_LRefused (RoomH.mark (BX.Room.h (hr.mono (j:=1) (by decide)))) (ja (jb 5) jd) (jc jk))) ji))) (akX ji))⟩
noncomputable def qD:List PyData->Option PyData:=jy af5 5 zi.1
noncomputable abbrev JR:Stmt:=top 46
structure CLaw (P:Program) (w:World) (K:PySem.W.Frag) (mg:Str->Option Value) (base:Heap):Prop where
 t:Bare mg
 c_manner:jo P w K mg base "_law_manner" ["_law_script","_law_at"] 3 2 QZ
 c_drawn:jo P w K mg base "_law_drawn" ["_law_script","_law_k","_law_many"] 2 3 Qf
 c_LPlain:jo P w K mg base "_law_plain" ["_law_manner_here","_law_rods_here","_law_number"] 3 3 zP
 c_LTold:jo P w K mg base "_law_told" ["_law_way","_law_manner_here","_law_rods_here","_law_first","_law_last"] 9 5 qD
 c_LFar:jo P w K mg base "_law_far" ["_law_one","_law_other"] 1 2 ae0
noncomputable abbrev Zb:List Str:=["_law_script","_law_manner_here","_law_rods_here","_law_first","_law_last","_law_rows","_law_fars","_law_on","_law_rod","_law_best","_law_bad"]
theorem zE:FnScope Zb ["_law_script"] (jf JR):=⟨rfl,rfl,rfl,by decide +kernel,rfl,by decide +kernel,by decide +kernel⟩
theorem ae2:(["_law_way","_law_manner_here","_law_rods_here","_law_first","_law_last"]:List Str).Nodup:=by decide +kernel
theorem ajy:(["_law_number","_law_manner_here","_law_rods_here"]:List Str).Nodup:=by decide +kernel
theorem ac1:(["_law_one","_law_other"]:List Str).Nodup:=by decide +kernel
theorem ac2:(["_law_one","_law_other","_law_rod"]:List Str).Nodup:=by decide +kernel
theorem aay:(["_law_way","_law_manner_here","_law_bad"]:List Str).Nodup:=by decide +kernel
theorem ahD:(["_law_way","_law_manner_here"]:List Str).Nodup:=by decide +kernel
theorem ahE:(["_law_way"]:List Str).Nodup:=by decide +kernel
noncomputable def ae3:{ B:Rho->Option Out // alN 7 CLaw "law" JR Zb 9 (ZV (aeR (anU (aeR (jU JR) 4)) 3)) B }:=
 ⟨_,fun P w K mg base f cdv A outer s H E C hr=>
  (zT (agy (ahi 7 (jM (Zl rfl) C.t.sum QA (ja (qh ["_law_one","_law_other","_law_rod"] [none,none,some 8] rfl (JK C.t.zip (ja (jb 5) (ja (J9 (jb 5) jh) jd))) (jV (jf JR) Zb (by decide +kernel))
   fun cl C' s0 H0 fp pn=>⟨(JW (n:=2) rfl (j0 (jw 0 ac2) (j0 (jw 1 ac2) Jc))),jO,(jl C.c_LFar hr (by decide) (ja (abR (jb 0) (jb 2) (jp jE (jb 2) jh)) (ja (abR (jb 1) (jb 2) (jp jE (jb 2) jh)) jd)) (jc (jc jk)))⟩) jd))))
  abI)⟩
noncomputable def ae4:{ B:Rho->Option Out // agE CLaw "law" JR Zb 9 (ZV (aeR (jU JR) 5)) B }:=
 ⟨_,fun P w K mg base f cdv A outer s H E C hr=>
  (je (qe (jS (Jw hr.units) (qh ["_law_way","_law_manner_here","_law_bad"] [none,some 1,some 10] rfl (j1 rfl C.t.range (ja jh jd)) (jV (jf JR) Zb (by decide +kernel))
   fun cl C' s0 H0 fp pn=>⟨(jw 0 aay),jO,(jl C.c_LTold hr (by decide) (ja (jb 0) (ja (jb 1) (ja jh (ja (jb 2) (ja zo jd))))) (jc (jc (jc (jc (jc jk))))))⟩) (jp JL (Jd 3 (.list [.tuple [.str "refused",.int 1]]) (by kernel_rfl)) jh)) (je (jz Jj)
  ji) ji)
  (je (qe (jS (Jw hr.units) (qh ["_law_way","_law_manner_here","_law_bad"] [none,some 1,some 10] rfl (j1 rfl C.t.range (ja jh jd)) (jV (jf JR) Zb (by decide +kernel))
   fun cl C' s0 H0 fp pn=>⟨(jw 0 aay),jO,(jl C.c_LTold hr (by decide) (ja (jb 0) (ja (jb 1) (ja jh (ja jh (ja (jb 2) jd))))) (jc (jc (jc (jc (jc jk))))))⟩) (jp JL (Jd 3 (.list [.tuple [.str "refused",.int 1]]) (by kernel_rfl)) jh)) (je (jz Jj)
  ji) ji)
  ji))⟩
noncomputable def ae5:{ B:Rho->Option Out // agE CLaw "law" JR Zb 9 (ZV (aeR (jU JR) 6)) B }:=
 ⟨_,fun P w K mg base f cdv A outer s H E C hr=>
  (je (qe (jS (Jw hr.units) (qh ["_law_way","_law_manner_here","_law_bad"] [none,some 1,some 10] rfl (j1 rfl C.t.range (ja jh jd)) (jV (jf JR) Zb (by decide +kernel))
   fun cl C' s0 H0 fp pn=>⟨(jw 0 aay),jO,(jl C.c_LTold hr (by decide) (ja (jb 0) (ja (jb 1) (ja (jb 2) (ja zo (ja zo jd))))) (jc (jc (jc (jc (jc jk))))))⟩) (jp JL (Jd 3 (.list [.tuple [.str "refused",.int 1]]) (by kernel_rfl)) jh)) (je (jz Jj)
  ji) ji)
  ji)⟩
noncomputable def ahF:{ B:Rho->Option Out // zj CLaw "law" JR Zb 9 B }:=
 ⟨_,fun P w K mg base f cdv A outer s H E C hr=>
  (je (jR 1 zE.nd (jl C.c_manner hr (by decide) (ja (jb 0) (ja jh jd)) (jc (jc jk))))
  (je (jR 2 zE.nd (jp jE jh (jl C.c_drawn hr (by decide) (ja (jb 0) (ja jh (ja jh jd))) (jc (jc (jc jk))))))
  (je (jR 3 zE.nd (jl C.c_drawn hr (by decide) (ja (jb 0) (ja jh (ja (j5 (Jd 2 (.list [.int 9,.int 60,.int 600]) (by kernel_rfl)) (jl C.c_drawn hr (by decide) (ja (jb 0) (ja jh (ja jh jd))) (jc (jc (jc jk))))) jd))) (jc (jc (jc jk)))))
  (je (jR 4 zE.nd (jp jE (jb 3) (jl C.c_drawn hr (by decide) (ja (jb 0) (ja jh (ja jh jd))) (jc (jc (jc jk))))))
  (je (qe (jS akO (jl C.c_LPlain hr (by decide) (ja (jb 1) (ja (jb 2) (ja (jb 4) jd))) (jc (jc (jc jk)))) zo) (je (qe (jS (Jw hr.units) (qh ["_law_way","_law_manner_here","_law_rods_here","_law_first","_law_last"] [none,some 1,some 2,some 3,some 4] rfl (j1 rfl C.t.range (ja jh jd)) (jV (jf JR) Zb (by decide +kernel))
   fun cl C' s0 H0 fp pn=>⟨(jw 0 ae2),jO,(jl C.c_LTold hr (by decide) (ja (jb 0) (ja (jb 1) (ja (jb 2) (ja (jb 3) (ja (jb 4) jd))))) (jc (jc (jc (jc (jc jk))))))⟩) (jp JL (Jd 3 (.list [.tuple [.str "refused",.int 2]]) (by kernel_rfl)) jh)) (je (jz Jj)
  ji) ji)
  ji) (je (ZL 5 ["_law_number","_law_manner_here","_law_rods_here"] [none,some 1,some 2] rfl zE.nd (Zi rfl C.t.range (ja (jb 3) (ja (jp jE (jb 4) jh) jd))) (jV (jf JR) Zb (by decide +kernel))
   fun cl C' s0 H0 fp pn=>⟨(jw 0 ajy),jO,(jl C.c_LPlain hr (by decide) (ja (jb 1) (ja (jb 2) (ja (jb 0) jd))) (jc (jc (jc jk))))⟩)
  (je (ZL 6 ["_law_one","_law_other"] [none,none] rfl zE.nd (JK C.t.zip (ja (jb 5) (ja (J9 (jb 5) jh) jd))) (jV (jf JR) Zb (by decide +kernel))
   fun cl C' s0 H0 fp pn=>⟨(JW (n:=2) rfl (j0 (jw 0 ac1) (j0 (jw 1 ac1) Jc))),jO,(jl C.c_LFar hr (by decide) (ja (jb 0) (ja (jb 1) jd)) (jc (jc jk)))⟩)
  (ahy 7 zE.nd (aiS jd) (akM PassesOwn.never rfl (j1 rfl C.t.range (ja (jb 2) jd)) (aiP 8 zE.nd) (ae3.2 P w K mg base f cdv A outer s H E C hr))
  (je (jR 9 zE.nd (aiq (jS (Jw hr.units) (jb 6) (Zf jd)) (Ja (ja (jp jE (jb 3) (aeC (jb 6) (jM (adz rfl) C.t.max abE (ja (jb 6) jd)))) (ja (jM (adz rfl) C.t.max abE (ja (jb 6) jd)) jd))) zo))
  (je (qe (jS (Jw hr.units) (qh ["_law_way","_law_manner_here","_law_rods_here","_law_first","_law_last"] [none,some 1,some 2,some 3,some 4] rfl (j1 rfl C.t.range (ja jh jd)) (jV (jf JR) Zb (by decide +kernel))
   fun cl C' s0 H0 fp pn=>⟨(jw 0 ae2),jO,(jl C.c_LTold hr (by decide) (ja (jb 0) (ja (jb 1) (ja (jb 2) (ja (jb 3) (ja (jb 4) jd))))) (jc (jc (jc (jc (jc jk))))))⟩) (Zf (ja (jM (Zl rfl) C.t.sum QA (ja (jb 6) jd)) (ja (jb 7) (ja (jb 9) jd))))) (je (jz Jj)
  ji) ji)
  ji))))))
  (je (ZF PassesOwn.never rfl (aa6 (Ja (ja (aiJ jh) (ja jh (ja zo (ja Jj (ja adq jd))))))) (jw 10 zE.nd) (ae4.2 P w K mg base f cdv A outer s H E C hr))
  (je (ZF PassesOwn.never rfl (aa6 (Jd 2 (.tuple [.int 0,.int 5,.none,.bool true]) (by kernel_rfl))) (jw 10 zE.nd) (ae5.2 P w K mg base f cdv A outer s H E C hr))
  (je (qe (jS (Jw hr.units) (qh ["_law_way","_law_manner_here"] [none,some 1] rfl (j1 rfl C.t.range (ja jh jd)) (jV (jf JR) Zb (by decide +kernel))
   fun cl C' s0 H0 fp pn=>⟨(jw 0 ahD),jO,(jl C.c_LTold hr (by decide) (ja (jb 0) (ja (jb 1) (ja jh (ja jh (ja jh jd))))) (jc (jc (jc (jc (jc jk))))))⟩) (jp JL (Jd 3 (.list [.tuple [.str "refused",.int 1]]) (by kernel_rfl)) jh)) (je (jz Jj)
  ji) ji)
  (je (qe (jS (Jw hr.units) (jl C.c_LTold hr (by decide) (ja jh (ja (jb 1) (ja jh (ja jh (ja jh jd))))) (jc (jc (jc (jc (jc jk)))))) (Jd 2 (.tuple [.str "refused",.int 1]) (by kernel_rfl))) (je (jz Jj)
  ji) ji)
  (je (jz (aip (Jv hr.units) (qh ["_law_way"] [none] rfl (j1 rfl C.t.range (ja jh jd)) (jV (jf JR) Zb (by decide +kernel))
   fun cl C' s0 H0 fp pn=>⟨(jw 0 ahE),jO,(jl C.c_LTold hr (by decide) (ja (jb 0) (ja zo (ja zo (ja zo (ja zo jd))))) (jc (jc (jc (jc (jc jk))))))⟩) (jp JL (Jd 3 (.list [.tuple [.str "refused",.int 0]]) (by kernel_rfl)) jh)))
  ji))))))))))⟩
noncomputable def ajz:List PyData->Option PyData:=jy Zb 1 ahF.1
theorem j9 (i a b:Int):j8 [.int i,.int a,.int b]=some (.bool (decide (a<=i) && decide (i<=b))):=by
 by_cases h:a<=i <;> simp [j8,jy,ZS,jB,jJ,ifS,orB,tst,lkp,aaW,tyn,asB,zy,chn,Qo,ql,qM,h]
theorem ad0 (u e l b x y:Int) (h:-18446744073709551616 < x/\x < 18446744073709551616):zU [.tuple [.int u,.int e,.int l,.int b],.tuple [.int x,.int y]]=some (.int (x*e+y)):=by
 simp [zU,jy,aan,jB,jJ,op2,lkp,dIx,atI,ixN,ql,qM,cst,Zj,qF,h]
theorem aaz (x y:Int):qv [.tuple [.int x,.int y]]=some (.int (x+y)):=by
 simp [qv,jy,af1,jB,jJ,op2,lkp,dIx,atI,ixN,ql,qM,cst,qF]
theorem ad1 {n:Nat}{i:Int} (h0:0<=i) (h:i.toNat < n):ixN n i=some i.toNat:=by
 unfold ixN
 rw [if_pos h0,if_pos (by omega)]
noncomputable def okN (u e l b:Int):Bool:=decide (0<=u) && decide (u<=3) && decide (1<=e) && decide (e<=5) && decide (e - 1<=l) && decide (1<=l) && decide (l<=11) && decide (2<=b) && decide (b<=16) && decide (b<=u*e+l+1)
noncomputable def qo (u l:Int):List PyData:=qW (u+1).toNat (l+1).toNat
noncomputable def jP (e:Int):PyData->Int
 | .tuple [.int x,.int y]=>x*e+y
 | _=>-1
noncomputable def fpr (m:PyData) (d:Int):Int × Int:=match Jn [m,.int d] with
 | some (.tuple [.int x,.int y])=>(x,y)
 | _=>(0,0)
noncomputable def pr (p:Int × Int):PyData:= .tuple [.int p.1,.int p.2]
noncomputable def jI (ps:List (Int × Int)):PyData:= .tuple (ps.map pr)
noncomputable def okP (u l:Int) (p:Int × Int):Bool:=decide (0<=p.1) && decide (p.1<=u) && decide (0<=p.2) && decide (p.2<=l)
noncomputable def wt (e:Int) (p:Int × Int):Int:=p.1*e+p.2
noncomputable def dgl (b:Int):Nat->Int->List Int
 | 0,_=>[]
 | 1,n=>[n]
 | k+2,n=>dgl b (k+1) (n / b)++[n % b]
noncomputable def pln (m:PyData) (b:Int) (r:Nat) (n:Int):List (Int × Int):=(dgl b r n).map (fpr m)
noncomputable def anX (e:Int):List Int->List PyData->List Int
 | c,[]=>c
 | c,r::rs=>anX e (c.set (jP e r).toNat (c.getD (jP e r).toNat 0+1)) rs
noncomputable def anY (u e l:Int):List Int:=anX e (List.replicate (u*e+l+1).toNat 0) (qo u l)
noncomputable def cnt (u e l n:Int):Int:=((qo u l).filter fun r=>jP e r == n).length
noncomputable def okM (u e l b:Int):Bool:=decide (0<=u) && decide (u<=3) && decide (1<=e) && decide (e<=5) && decide (e - 1<=l) && decide (1<=l) && decide (l<=10) && decide (2<=b) && decide (b<=16) && decide (b<=u*e+l+1)
theorem ac3 {n m:Nat}{d:PyData} (h:d ∈ qW n m):∃ i j:Nat,i < n/\j < m/\d= .tuple [.int i,.int j]:=by
 obtain ⟨i,hi,hd⟩:=List.mem_flatMap.mp h
 obtain ⟨j,hj,rfl⟩:=List.mem_map.mp hd
 exact ⟨i,j,List.mem_range.mp hi,List.mem_range.mp hj,rfl⟩
theorem abd (i:Int):okD (.int i)=true:=by simp [okD,PyData.canLay0,PyData.depth]
theorem aaR {u e l b:Int} (hu:0<=u) (hu':u < 100) (hl:0<=l) (hl':l < 100):Je [jr u e l b]=some (.list (qo u l)):=by
 simp [Je,jr,qo,hu,hl,show u < 1000 by omega,show l < 1000 by omega]
theorem ab0 {u l:Int} (hu':u < 100) (hl':l < 100):few (qo u l)=true:=by
 simp only [few,qo,ZT,decide_eq_true_eq]
 have:(u+1).toNat*(l+1).toNat<=100*100:=Nat.mul_le_mul (by omega) (by omega)
 omega
theorem ac4 {u e l b:Int} (hu':u < 100) {d:PyData} (h:d ∈ qo u l):zU [jr u e l b,d]=some (.int (jP e d)):=by
 obtain ⟨i,j,hi,hj,rfl⟩:=ac3 h
 exact ad0 u e l b i j (by omega)
theorem ab1 {α:Type} (f:α->Int):∀ xs:List α,qp (xs.map fun d=>PyData.int (f d))=some (xs.map f)
 | []=>rfl
 | x::xs=>by simp [qp,JF,ab1 f xs]
theorem ajA (ns:List Int):okD (.list (ns.map PyData.int))=true:=by
 have h1:∀ ns:List Int,PyData.canLayAll0 (ns.map PyData.int)=true:=fun ns=>by
  induction ns with
  | nil=>rfl
  | cons n ns ih=>simp [PyData.canLayAll0,PyData.canLay0,ih]
 have h2:∀ ns:List Int,PyData.depthAll (ns.map PyData.int)=0:=fun ns=>by
  induction ns with
  | nil=>rfl
  | cons n ns ih=>simp [PyData.depthAll,PyData.depth,ih]
 simp [okD,PyData.canLay0,h1,PyData.depth,h2]
theorem ajB (ns:List Int) (d:Int):(ns.map PyData.int).any (fun z=>PyData.eqv z (.int d))=ns.any (fun z=>z == d):=by
 induction ns with
 | nil=>rfl
 | cons n ns ih=>simp only [List.map_cons,List.any_cons,ih]; rfl
theorem agJ {α:Type} (f:α->Bool):∀ xs:List α,bls (xs.map fun d=>PyData.bool (f d))=some (xs.map f)
 | []=>rfl
 | x::xs=>by simp [bls,asB,agJ f xs]
theorem ix0 (u e l b:Int):dIx (jr u e l b) (.int 0)=some (.int u):=rfl
theorem ix1 (u e l b:Int):dIx (jr u e l b) (.int 1)=some (.int e):=rfl
theorem ix2 (u e l b:Int):dIx (jr u e l b) (.int 2)=some (.int l):=rfl
theorem ix3 (u e l b:Int):dIx (jr u e l b) (.int 3)=some (.int b):=rfl
theorem Q8 {j:Int} (h:0<=j) (h':j < 1000000):Zh [.int j]=some (qi 0 j.toNat):=by
 unfold Zh
 exact if_pos (by omega)
theorem ad2 (a b:Int):PyData.eqv (.int a) (.int b)=(a == b):=by unfold PyData.eqv; rfl
theorem ab2 {u e l b:Int} (hu:0<=u) (hu':u < 100) (hl:0<=l) (hl':l < 100) (hb:0<=b) (hb':b < 100):ZU [jr u e l b]=some (.bool ((List.range b.toNat).all fun d=>((qo u l).map (jP e)).any fun z=>z == (d:Int))):=by
 have h1:=aaR (e:=e) (b:=b) hu hu' hl hl'
 have h2:=ab0 hu' hl'
 have h4:few (qi 0 b.toNat)=true:=by simp [few,qi]; omega
 simp only [ZU,jy,adQ,jB,jJ,ql,jZ,itL,jA,jg,ju,lkp,Zg,List.length_cons,List.length_nil,zzM,List.map_cons,List.map_nil,List.cons_append,List.nil_append,zzA,zzC,zzD,zzE,h1,h2,zC,qS]
 rw [JG (fun d=> .int (jP e d))]
 ·simp only [jH,qM,op2,cst,lkp,zzD,zzE,zzF,zzG,List.replicate,List.length_cons,List.length_nil,zzA,zzB,zzC,ix3,Q8 hb (show b < 1000000 by omega),h4,zzM]
  rw [JG (fun d=> .bool (((qo u l).map (jP e)).any fun z=>z == (JF d).getD 0))]
  ·have:(qi 0 b.toNat).map (fun d=>PyData.bool (((qo u l).map (jP e)).any fun z=>z == (JF d).getD 0))=(List.range b.toNat).map fun (d:Nat)=>PyData.bool (((qo u l).map (jP e)).any fun z=>z == (d:Int)):=by
    simp [qi,JF,Function.comp_def]
   simp only [zzE,zzD,this,amo,agJ (fun (d:Nat)=>((qo u l).map (jP e)).any fun z=>z == (d:Int)),List.all_map,Function.comp_def,id]
  ·intro d hd
   obtain ⟨k,_,rfl⟩:=List.mem_map.mp hd
   have h5:(qo u l).map (fun d=>PyData.int (jP e d))=((qo u l).map (jP e)).map PyData.int:=by simp
   have h6:=ajA ((qo u l).map (jP e))
   simp only [op2,lkp,zzG,zzA,zzB,zzC,zzD,dIn,abd,h5,h6,ajB]
   simp [JF]
 ·intro d hd
  simp [jA,jg,ju,lkp,ac4 (b:=b) (e:=e) hu' hd]
theorem ad3 {u e l b:Int} (hu:0<=u) (hu':u<=3) (he:1<=e) (he':e<=16) (hl:0<=l) (hl':l<=12) (hb:2<=b) (hb':b<=16):qm [jr u e l b]=ZU [jr u e l b]:=by
 have g:=ab2 (e:=e) hu (by omega) hl (by omega) (show 0<=b by omega) (by omega)
 have w1:j8 [.int u,.int 0,.int 3]=some (.bool true):=by rw [j9]; simp [hu,hu']
 have w2:j8 [.int e,.int 1,.int 16]=some (.bool true):=by rw [j9]; simp [he,he']
 have w3:j8 [.int l,.int 0,.int 12]=some (.bool true):=by rw [j9]; simp [hl,hl']
 have w4:j8 [.int b,.int 2,.int 16]=some (.bool true):=by rw [j9]; simp [hb,hb']
 have z:ags [jr u e l b,.tuple [.int 0,.int 1,.int 0,.int 2],.tuple [.int 3,.int 16,.int 12,.int 16]]=some [.tuple [.int u,.int 0,.int 3],.tuple [.int e,.int 1,.int 16],.tuple [.int l,.int 0,.int 12],.tuple [.int b,.int 2,.int 16]]:=rfl
 rw [g]
 rw [show jr u e l b= .tuple [.int u,.int e,.int l,.int b] from rfl] at g z ⊢
 simp [qm,jy,aao,jB,jJ,ifS,orB,zy,tst,aaW,tyn,asB,lkp,op2,jA,jg,ju,afE,cst,dNe,abd,ad2,qM,acr,z,j7,ZC,jY,Jb,jH,w1,w2,w3,w4,ql,g]
theorem Q9 {m:PyData} (h:qm [m]=some (.bool true)):Jx [m]=some .none:=by
 simp [Jx,jy,adR,jB,jJ,ifS,zy,tst,asB,jA,jg,ju,lkp,h,qM]
theorem ala:few []=true:=by simp [few]
theorem add_int (i j:Int):qF (.int i) (.int j)=some (.int (i+j)):=rfl
theorem zv {i j:Int} (h:-1000000000000 < i/\i < 1000000000000):Zj (.int i) (.int j)=some (.int (i*j)):=by
 unfold Zj; exact if_pos (.inl ⟨by omega,by omega⟩)
theorem ad4 {i j:Int} (h:0 < j):afC (.int i) (.int j)=some (.int (i % j)):=by unfold afC; exact if_pos h
theorem ab3 {i j:Int} (h:0 < j) (h':j < 1000000000):abz (.int i) (.int j)=some (.int (i / j)):=by unfold abz; exact if_pos ⟨h,by omega⟩
theorem ajC (ns:List Int) (hn:ns.length < 1000000) (k:Int) (hk:0<=k):∃ c,aeT [scr ns,.int k]=some (.int c):=by
 cases ns with
 | nil=>
  refine ⟨7*k,?_⟩
  simp [aeT,jy,agG,jB,jJ,ifS,tst,op2,lkp,zp,ju,few,dEq,scr,zG,asB,ql,cst,zv,qM]
 | cons n ns=>
  have hl:0 < (((n::ns).map fun n=>(PyData.int n,PyData.none)).length:Int):=by simp
  have hl':(((n::ns).map fun n=>(PyData.int n,PyData.none)).length:Int) < 1000000:=by simp at hn ⊢; omega
  have hsc:=acK (n::ns)
  have e1:dEq (scr (n::ns)) (.list [])=some (.bool false):=by
   show (if zG ((n::ns).map fun n=>(PyData.int n,PyData.none))=true then some (PyData.bool ((n::ns).map fun n=>(PyData.int n,PyData.none)).isEmpty) else none)=_
   rw [if_pos hsc]; rfl
  have e2:afE [scr (n::ns)]=some (.int (((n::ns).map fun n=>(PyData.int n,PyData.none)).length)):=by
   show (if zG ((n::ns).map fun n=>(PyData.int n,PyData.none))=true then some (PyData.int ((n::ns).map fun n=>(PyData.int n,PyData.none)).length) else none)=_
   rw [if_pos hsc]
  generalize hL:(((n::ns).map fun n=>(PyData.int n,PyData.none)).length:Int)=L at*
  have h0:0<=k % L:=Int.emod_nonneg _ (by omega)
  have h1:k % L < L:=Int.emod_lt_of_pos _ hl
  have e3:∃ c,dIx (scr (n::ns)) (.int (k % L))=some (.int c):=by
   have hlen:((n::ns).map fun n=>(PyData.int n,PyData.none)).length < 1000000:=by omega
   have hlt:(k % L).toNat < ((n::ns).map fun n=>(PyData.int n,PyData.none)).length:=by omega
   have hx:ixN ((n::ns).map fun n=>(PyData.int n,PyData.none)).length (k % L)=some (k % L).toNat:=ad1 h0 hlt
   refine ⟨((n::ns)[(k % L).toNat]'(by simpa using hlt)),?_⟩
   show (if ((n::ns).map fun n=>(PyData.int n,PyData.none)).length < 1000000/\zG ((n::ns).map fun n=>(PyData.int n,PyData.none))=true then (atI ((n::ns).map fun n=>(PyData.int n,PyData.none)) (k % L)).map (·.1) else none)=_
   rw [if_pos ⟨hlen,hsc⟩]
   unfold atI
   rw [hx,zzD,List.getElem?_eq_getElem hlt,zzE,List.getElem_map]
  obtain ⟨c,e3⟩:=e3
  refine ⟨c+6553*(k / L),?_⟩
  simp [aeT,jy,agG,jB,jJ,ifS,tst,op2,lkp,zp,ju,few,asB,ql,cst,qM,jA,jg,e1,e2,e3,ad4 hl,ab3 hl (show L < 1000000000 by omega),zv,add_int]
theorem qL (ns:List Int) (hn:ns.length < 1000000) (k m:Int) (hk:0<=k) (hm:0 < m):∃ r,Qf [scr ns,.int k,.int m]=some (.int r)/\0<=r/\r < m:=by
 obtain ⟨c,hc⟩:=ajC ns hn k hk
 generalize h1:(c % 2147483563*69069+104723*(k+1)) % 2147483563=a
 generalize h2:(a*a+a / 3) % 2147483399=d
 have ha:0<=a/\a < 2147483563:=by rw [←h1]; exact ⟨Int.emod_nonneg _ (by omega),Int.emod_lt_of_pos _ (by omega)⟩
 have hd:0<=d/\d < 2147483399:=by rw [←h2]; exact ⟨Int.emod_nonneg _ (by omega),Int.emod_lt_of_pos _ (by omega)⟩
 have hc':0<=c % 2147483563/\c % 2147483563 < 2147483563:=⟨Int.emod_nonneg _ (by omega),Int.emod_lt_of_pos _ (by omega)⟩
 refine ⟨(d*d+d / 7) % 2147483647 / 11 % m,?_,Int.emod_nonneg _ (by omega),Int.emod_lt_of_pos _ hm⟩
 have m1:Zj (.int (c % 2147483563)) (.int 69069)=some (.int (c % 2147483563*69069)):=zv (by omega)
 have m2:Zj (.int 104723) (.int (k+1))=some (.int (104723*(k+1))):=zv (by omega)
 have m3:Zj (.int a) (.int a)=some (.int (a*a)):=zv (by omega)
 have m4:Zj (.int d) (.int d)=some (.int (d*d)):=zv (by omega)
 simp [Qf,jy,af3,jB,jJ,qS,jH,op2,lkp,ju,ql,cst,qM,jA,jg,hc,m1,m2,m3,m4,ad4,ab3,add_int,h1,h2,hm]
theorem ajD (w:Int) (h0:0<=w) (h:w < 12):∃ u e l b,dIx (.list (aar++aas)) (.int w)=some (jr u e l b)/\okM u e l b=true:=by
 obtain ⟨n,rfl⟩:=Int.eq_ofNat_of_zero_le h0
 have hn:n < 12:=by omega
 have:∀ n < 12,∃ u e l b,dIx (.list (aar++aas)) (.int (n:Nat))=some (jr u e l b)/\okM u e l b=true:=by
  intro n hn
  match n,hn with
  | 0,_=>exact ⟨_,_,_,_,rfl,by decide⟩
  | 1,_=>exact ⟨_,_,_,_,rfl,by decide⟩
  | 2,_=>exact ⟨_,_,_,_,rfl,by decide⟩
  | 3,_=>exact ⟨_,_,_,_,rfl,by decide⟩
  | 4,_=>exact ⟨_,_,_,_,rfl,by decide⟩
  | 5,_=>exact ⟨_,_,_,_,rfl,by decide⟩
  | 6,_=>exact ⟨_,_,_,_,rfl,by decide⟩
  | 7,_=>exact ⟨_,_,_,_,rfl,by decide⟩
  | 8,_=>exact ⟨_,_,_,_,rfl,by decide⟩
  | 9,_=>exact ⟨_,_,_,_,rfl,by decide⟩
  | 10,_=>exact ⟨_,_,_,_,rfl,by decide⟩
  | 11,_=>exact ⟨_,_,_,_,rfl,by decide⟩
  | k+12,h=>omega
 exact this n hn
theorem af6 (ns:List Int) (hn:ns.length < 1000000) (k:Int) (hk:0<=k):∃ u e l b,QZ [scr ns,.int k]=some (jr u e l b)/\okM u e l b=true:=by
 obtain ⟨w,hw,hw0,hw1⟩:=qL ns hn k 24 hk (by omega)
 have a1:qF (.list aar) (.list aas)=some (.list (aar++aas)):=rfl
 have a2:afE [.list (aar++aas)]=some (.int 12):=rfl
 have a3:Zj (.int 2) (.int 12)=some (.int 24):=rfl
 by_cases hlt:w < 12
 ·obtain ⟨u,e,l,b,h1,h2⟩:=ajD w hw0 hlt
  refine ⟨u,e,l,b,?_,h2⟩
  simp [QZ,jy,aba,jB,jJ,qS,jH,op2,lkp,ju,ql,cst,qM,jA,jg,ifS,tst,asB,a1,a2,a3,hw,Qo,hlt,h1]
 ·obtain ⟨r1,e1,p1,q1⟩:=qL ns hn (k+1) 5 (by omega) (by omega)
  obtain ⟨r2,e2,p2,q2⟩:=qL ns hn (k+2) 4 (by omega) (by omega)
  obtain ⟨r3,e3,p3,q3⟩:=qL ns hn (k+3) 4 (by omega) (by omega)
  generalize hlo:(if (1:Int) > 1+r1 - 1 then 1 else 1+r1 - 1)+r3=lo
  have hlo1:1<=lo/\r1<=lo/\lo<=10:=by
   rw [←hlo]; split <;> omega
  have hue:0<=r2*(1+r1)/\r2*(1+r1)<=3*5:=⟨Int.mul_nonneg p2 (by omega),Int.mul_le_mul (by omega) (by omega) (by omega) (by omega)⟩
  generalize hmn:(if r2*(1+r1)+lo < 15 then r2*(1+r1)+lo else 15)=mn
  have hmn1:0 < mn/\mn<=15/\mn<=r2*(1+r1)+lo:=by
   rw [←hmn]; split <;> omega
  obtain ⟨r4,e4,p4,q4⟩:=qL ns hn (k+4) mn (by omega) (by omega)
  refine ⟨r2,1+r1,lo,2+r4,?_,?_⟩
  ·have m1:Zj (.int r2) (.int (1+r1))=some (.int (r2*(1+r1))):=zv (by omega)
   have x1:aiv [.int (1+r1 - 1),.int 1]=some (.int (if (1:Int) > 1+r1 - 1 then 1 else 1+r1 - 1)):=rfl
   have x2:aiw [.int 15,.int (r2*(1+r1)+lo)]=some (.int (if r2*(1+r1)+lo < 15 then r2*(1+r1)+lo else 15)):=rfl
   have x3:aby (.int (1+r1)) (.int 1)=some (.int (1+r1 - 1)):=rfl
   simp only [QZ,jy,aba,jB,jJ,qS,jH,op2,lkp,ju,ql,cst,qM,jA,jg,ifS,tst,asB,a1,a2,a3,hw,Qo,hlt,zzD,zzE,zzF,zzG,List.replicate,List.length_cons,List.length_nil,zzM,List.map_cons,List.map_nil,List.cons_append,List.nil_append,zzA,zzB,zzC,add_int,e1,e2,e3,m1,x1,x2,x3,decide_false,hlo,hmn,e4]
   simp [e1,e2,e3,m1,x1,x2,x3,hlo,hmn,e4,add_int,lkp,Ju,jg,ju,few,jr]
   simp only [Ju,jg,ju,lkp,op2,jA,cst,zzD,zzE,zzA,zzB,zzC,add_int,m1,x2,hmn,e4]
   simp
  ·have:=hue.1
   simp [okM]
   omega
noncomputable def isInt (t:Int):PyData->Bool
 | .int x=>x == t
 | _=>false
noncomputable def amI (u e l:Int):Bool:=
 isInt (u*e+l) (ams none ((qo u l).map (jP e))) &&
 ((List.range (u*e+l+1).toNat).all fun n=>(qo u l).any fun r=>jP e r == (n:Int)) &&
 ((qo u l).all fun r=>decide (0<=jP e r) && decide (jP e r<=u*e+l)) &&
 decide (anY u e l=(List.range (u*e+l+1).toNat).map fun (n:Nat)=>cnt u e l n)
noncomputable def zk:Bool:=(List.range 4).all fun (i:Nat)=>(List.range 5).all fun (j:Nat)=>(List.range 11).all fun (k:Nat)=>decide (k+1 < j) || amI i (j+1) (k+1)
structure Chk (u e l:Int):Prop where
 most:ams none ((qo u l).map (jP e))= .int (u*e+l)
 dig:∀ n:Nat,n < (u*e+l+1).toNat->((qo u l).any fun r=>jP e r == (n:Int))=true
 rng:∀ r ∈ qo u l,0<=jP e r/\jP e r<=u*e+l
 lst:anY u e l=(List.range (u*e+l+1).toNat).map fun (n:Nat)=>cnt u e l n
theorem amJ {u e l:Int} (h:amI u e l=true):Chk u e l:=by
 simp only [amI,Bool.and_eq_true,List.all_eq_true,decide_eq_true_eq] at h
 obtain ⟨⟨⟨h1,h2⟩,h3⟩,h4⟩:=h
 refine ⟨?_,fun n hn=>h2 n (List.mem_range.mpr hn),fun r hr=>h3 r hr,h4⟩
 generalize ams none ((qo u l).map (jP e))=x at h1
 cases x <;> simp [isInt] at h1
 rw [h1]
theorem qy {u e l b:Int} (h:okN u e l b=true):0<=u/\u<=3/\1<=e/\e<=5/\e - 1<=l/\1<=l/\l<=11/\2<=b/\b<=16/\b<=u*e+l+1:=by
 simp only [okN,Bool.and_eq_true,decide_eq_true_eq] at h
 omega
theorem amK {u e l b:Int} (H:zk=true) (h:okN u e l b=true):Chk u e l:=by
 obtain ⟨a1,a2,a3,a4,a5,a6,a7,_⟩:=qy h
 simp only [zk,List.all_eq_true,Bool.or_eq_true,decide_eq_true_eq] at H
 have:=H u.toNat (List.mem_range.mpr (by omega)) (e - 1).toNat (List.mem_range.mpr (by omega)) (l - 1).toNat (List.mem_range.mpr (by omega))
 rcases this with z | z
 ·exfalso; omega
 ·rw [show ((u.toNat:Nat):Int)=u by omega,show (((e - 1).toNat:Nat):Int)+1=e by omega,show (((l - 1).toNat:Nat):Int)+1=l by omega] at z
  exact amJ z
theorem alb {u e l b:Int} (h:okM u e l b=true):okN u e l b=true:=by
 simp only [okM,okN,Bool.and_eq_true,decide_eq_true_eq] at h ⊢
 omega
theorem af7 {u e l b:Int} (H:zk=true) (h:okN u e l b=true) {n:Int} (h0:0<=n) (hn:n < b):((qo u l).any fun r=>jP e r == n)=true:=by
 obtain ⟨a1,a2,a3,a4,a5,a6,a7,a8,a9,a10⟩:=qy h
 have:=(amK H h).dig n.toNat (by omega)
 rw [show ((n.toNat:Nat):Int)=n by omega] at this
 exact this
noncomputable def zn (u e l w:Int):List PyData:=(qo u l).filter fun r=>jP e r == w
theorem Z9 {u e l b w:Int} (hu:0<=u) (hu':u < 100) (hl:0<=l) (hl':l < 100):QT [jr u e l b,.int w]=some (.list (zn u e l w)):=by
 have h1:=aaR (e:=e) (b:=b) hu hu' hl hl'
 have h2:=ab0 hu' hl'
 simp only [QT,jy,aap,jB,jJ,ql,jZ,itL,jA,jg,ju,lkp,Zg,List.length_cons,List.length_nil,zzM,List.map_cons,List.map_nil,List.cons_append,List.nil_append,zzA,zzC,zzD,zzE,h1,h2,zC]
 rw [abC (fun d=>jP e d == w) id]
 ·simp [zn]
 ·intro d hd
  simp [tst,op2,jA,jg,ju,lkp,ac4 (b:=b) (e:=e) hu' hd,dEq,abd,PyData.eqv,asB]
 ·intro d hd _
  simp [lkp]
theorem aaA (kf:PyData->Int):∀ (r:List PyData) (d:PyData),JH kf d r=d ∨ JH kf d r ∈ r
 | [],d=> .inl rfl
 | x::r,d=>by
  unfold JH
  split
  ·rcases aaA kf r x with z | z
   ·exact .inr (by rw [z]; exact List.mem_cons_self)
   ·exact .inr (List.mem_cons_of_mem _ z)
  ·rcases aaA kf r d with z | z
   ·exact .inl z
   ·exact .inr (List.mem_cons_of_mem _ z)
noncomputable def agK (m:PyData) (d:Int):PyData:=pr (fpr m d)
theorem ahG {u e l b:Int} (H:zk=true) (h:okN u e l b=true) {d:Int} (h0:0<=d) (hd:d < b):
  Jn [jr u e l b,.int d]=some (agK (jr u e l b) d)/\wt e (fpr (jr u e l b) d)=d/\okP u l (fpr (jr u e l b) d)=true:=by
 obtain ⟨a1,a2,a3,a4,a5,a6,a7,a8,a9,a10⟩:=qy h
 have hw:=Z9 (e:=e) (b:=b) (w:=d) a1 (show u < 100 by omega) (show 0<=l by omega) (show l < 100 by omega)
 have any:=af7 H h h0 hd
 have rods:∀ r ∈ zn u e l d,∃ i j:Nat,r= .tuple [.int i,.int j]/\(i:Int)*e+j=d/\(i:Int)<=u/\(j:Int)<=l:=fun r hr=>by
  obtain ⟨h1,h2⟩:=List.mem_filter.mp hr
  obtain ⟨i,j,q1,q2,rfl⟩:=ac3 h1
  exact ⟨i,j,rfl,by simpa [jP] using h2,by omega,by omega⟩
 have kb:∀ i j:Nat,qv [.tuple [.int i,.int j]]=some (.int (i+j)):=fun i j=>aaz i j
 have hk:Zm qv (zn u e l d)=true:=List.all_eq_true.mpr fun r hr=>by
  obtain ⟨i,j,rfl,_,_⟩:=rods r hr
  rw [kb]; rfl
 have mem:abD (JI qv) none (zn u e l d) ∈ zn u e l d:=by
  cases hr:zn u e l d with
  | nil=>
   exfalso
   obtain ⟨r,h1,h2⟩:=List.any_eq_true.mp any
   have:r ∈ zn u e l d:=List.mem_filter.mpr ⟨h1,h2⟩
   rw [hr] at this; cases this
  | cons r rs=>
   show JH (JI qv) r rs ∈ r::rs
   rcases aaA (JI qv) rs r with z | z
   ·rw [z]; exact List.mem_cons_self
   ·exact List.mem_cons_of_mem _ z
 obtain ⟨i,j,e1,e2,e3,e4⟩:=rods _ mem
 have g:Jn [jr u e l b,.int d]=some (.tuple [.int i,.int j]):=by
  have hm:Zn qv (.list (zn u e l d))=some (.tuple [.int i,.int j]):=by
   show (if Zm qv (zn u e l d)=true then some (abD (JI qv) none (zn u e l d)) else none)=_
   rw [if_pos hk,e1]
  simp [Jn,jy,aa8,jB,jJ,jA,jg,ju,lkp,ql,hw,hm]
 have f:fpr (jr u e l b) d=((i:Int),(j:Int)):=by unfold fpr; rw [g]
 unfold agK
 rw [f]
 refine ⟨g,e2,?_⟩
 simp only [okP,Bool.and_eq_true,decide_eq_true_eq]
 exact ⟨⟨⟨by omega,e3⟩,by omega⟩,e4⟩
end Rods
theorem Rods.allN_true:Rods.zk=true:=by decide +kernel
namespace Rods
open PySem L2 BX
open PyProof.Rows hiding St
theorem Za {tc:Rho->Option Bool}{F:Rho->Option Out}{n:Nat}{ρ ρ':Rho} (h:tc ρ=some true) (h':F ρ=some (.nx ρ')):zd tc F (n+1) ρ=zd tc F n ρ':=by
 show (tc ρ).bind _=_
 rw [h,h']
 rfl
theorem abe {tc:Rho->Option Bool}{F:Rho->Option Out}{n:Nat}{ρ:Rho} (h:tc ρ=some false):zd tc F (n+1) ρ=some (.nx ρ):=by
 show (tc ρ).bind _=_
 rw [h]
 rfl
theorem jG {F G:Rho->Option Out}{ρ ρ1:Rho} (h:F ρ=some (.nx ρ1)):jJ F G ρ=G ρ1:=by
 unfold jJ
 rw [h]
 rfl
theorem j4 {N:List Str}{n:Nat}{B:Rho->Option Out}{ds:List PyData}{d:PyData} (hl:ds.length=n) (h:B (jB N ds)=some (.rt d)):jy N n B ds=some d:=by
 unfold jy
 rw [if_pos hl,h]
noncomputable def tcD:Rho->Option Bool:=tst (op2 (Qo fun i j=>decide (i < j)) (jA afE (jg (lkp 3) ju)) (op2 aby (lkp 1) (cst (.int 1))))
theorem ac5 {b k:Int}{r n:Option PyData}{ds:List PyData} (hb:0 < b) (hb':b<=16) (hl:ds.length < 1000):
  Zt.1 [some (.int b),r,n,some (.list ds),some (.int k)]=some (.nx [some (.int b),r,n,some (.list (.int (k % b)::ds)),some (.int (k / b))]):=by
 have m1:∀ i:Int,afC (.int i) (.int b)=some (.int (i % b)):=fun i=>ad4 hb
 have m2:∀ i:Int,abz (.int i) (.int b)=some (.int (i / b)):=fun i=>ab3 hb (by omega)
 have hl':ds.length < 1000000:=by omega
 simp [Zt,jJ,aiQ,anQ,akP,op2,lkp,cst,m1,m2,noL,hl',qS,jH,brw,hid,qM]
theorem JA {b:Option PyData}{r:Int}{n k:Option PyData}{ds:List PyData}:tcD [b,some (.int r),n,some (.list ds),k]=some (decide ((ds.length:Int) < r - 1)):=by
 simp [tcD,tst,op2,jA,jg,ju,lkp,cst,afE,aby,Qo,asB]
theorem ad5 {b r n:Int}{ds:List PyData}{k:Int} (hl:zd tcD Zt.1 10 [some (.int b),some (.int r),some (.int n),some (.list []),some (.int n)]=some (.nx [some (.int b),some (.int r),some (.int n),some (.list ds),some (.int k)]))
  (hd:ds.length < 100) (hn:noLs ds=true):ajs [.int b,.int r,.int n]=some (.list (.int k::ds)):=by
 have f0:few []=true:=ala
 have f1:few [PyData.int k]=true:=by rw [few]; exact decide_eq_true (by show 1 < 1000000; decide)
 have f2:few ([PyData.int k]++ds)=true:=by
  rw [few]
  refine decide_eq_true ?_
  rw [List.length_append,List.length_singleton]
  omega
 have e:ak7.1 [some (.int b),some (.int r),some (.int n),none,none]=some (.rt (.list (.int k::ds))):=by
  simp only [ak7]
  show acw 3 (zp ju) (jJ (qS (brw (some 3) (lkp 2)) (jH 4)) (jJ (zd tcD Zt.1 10) (jJ (ql (op2 qF (zp (jg (lkp 4) ju)) (lkp 3))) qM))) _=_
  have h2:jJ (zd tcD Zt.1 10) (jJ (ql (op2 qF (zp (jg (lkp 4) ju)) (lkp 3))) qM) [some (.int b),some (.int r),some (.int n),some (.list []),some (.int n)]=some (.rt (.list (.int k::ds))):=by
   unfold jJ
   rw [hl]
   simp only [zzD,ql,op2,zp,jg,ju,lkp,zzA,zzB,zzC,zzE,f1,zzM,qF,f2]
   rfl
  have h1:qS (brw (some 3) (lkp 2)) (jH 4) [some (.int b),some (.int r),some (.int n),some (.list []),none]=some (.nx [some (.int b),some (.int r),some (.int n),some (.list []),some (.int n)]):=rfl
  have h3:jJ (qS (brw (some 3) (lkp 2)) (jH 4)) (jJ (zd tcD Zt.1 10) (jJ (ql (op2 qF (zp (jg (lkp 4) ju)) (lkp 3))) qM)) [some (.int b),some (.int r),some (.int n),some (.list []),none]=some (.rt (.list (.int k::ds))):=by
   rw [←h2]
   conv=>lhs; unfold jJ
   rw [h1]
   rfl
  unfold acw
  simp only [zp,ju,zzD,f0,zzM,List.length_cons,List.length_nil]
  rw [if_pos (by decide)]
  simp only [zzF,zzG,h3,zzD]
 exact j4 rfl e
theorem abf {b n:Int} (hb:0 < b) (hb':b<=16) {r:Nat} (h1:1<=r) (h4:r<=4):ajs [.int b,.int (r:Int),.int n]=some (.list ((dgl b r n).map .int)):=by
 have:r=1 ∨ r=2 ∨ r=3 ∨ r=4:=by omega
 rcases this with e | e | e | e <;> subst e
 ·refine ad5 (ds:=[]) (k:=n) ?_ (by simp) (by simp [noLs,noL])
  rw [abe (JA.trans (by rfl))]
 ·refine ad5 (ds:=[.int (n % b)]) (k:=n / b) ?_ (by simp) (by simp [noLs,noL])
  rw [Za (JA.trans (by rfl)) (ac5 hb hb' (by simp)),abe (JA.trans (by rfl))]
 ·refine ad5 (ds:=[.int (n / b % b),.int (n % b)]) (k:=n / b / b) ?_ (by simp) (by simp [noLs,noL])
  rw [Za (JA.trans (by rfl)) (ac5 hb hb' (by simp)),Za (JA.trans (by rfl)) (ac5 hb hb' (by simp)),abe (JA.trans (by rfl))]
 ·refine ad5 (ds:=[.int (n / b / b % b),.int (n / b % b),.int (n % b)]) (k:=n / b / b / b) ?_ (by simp) (by simp [noLs,noL])
  rw [Za (JA.trans (by rfl)) (ac5 hb hb' (by simp)),Za (JA.trans (by rfl)) (ac5 hb hb' (by simp)),Za (JA.trans (by rfl)) (ac5 hb hb' (by simp)),abe (JA.trans (by rfl))]
theorem pw1 (b:Int):b ^ 1=b:=by rw [Int.pow_succ,Int.pow_zero,Int.one_mul]
theorem ajE {b:Int} (hb:0 < b):∀ r:Nat,0 < b ^ r
 | 0=>by simp
 | r+1=>by rw [Int.pow_succ]; exact Int.mul_pos (ajE hb r) hb
theorem ab4 (b:Int) (k:Nat) (n:Int):dgl b (k+2) n=dgl b (k+1) (n / b)++[n % b]:=rfl
theorem abg (b:Int):∀ (r:Nat) (n:Int),(dgl b r n).length=r
 | 0,_=>rfl
 | 1,_=>rfl
 | k+2,n=>by rw [ab4,List.length_append,abg b (k+1)]; rfl
theorem aaB {b n:Int} (hb:0 < b) {k:Nat} (h:n < b ^ (k+1)):n / b < b ^ k:=
 Int.ediv_lt_of_lt_mul hb (by rw [←Int.pow_succ]; exact h)
theorem agL {b:Int} (hb:0 < b):∀ (r:Nat) (n:Int),0<=n->n < b ^ r->∀ d ∈ dgl b r n,0<=d/\d < b
 | 0,n,_,_,d,hd=>by cases hd
 | 1,n,h0,h1,d,hd=>by
  rw [show dgl b 1 n=[n] from rfl,List.mem_singleton] at hd
  subst hd
  exact ⟨h0,by rw [pw1] at h1; exact h1⟩
 | k+2,n,h0,h1,d,hd=>by
  rw [ab4] at hd
  rcases List.mem_append.mp hd with q | q
  ·exact agL hb (k+1) (n / b) (Int.ediv_nonneg h0 (by omega)) (aaB hb h1) d q
  ·rw [List.mem_singleton] at q
   subst q
   exact ⟨Int.emod_nonneg _ (by omega),Int.emod_lt_of_pos _ hb⟩
theorem QJ {b:Int} (hb:0 < b):∀ (k:Nat) (n:Int),0<=n->∃ x r,dgl b (k+1) n=x::r/\(n < b ^ (k+1)->x < b)/\(b ^ (k+1)<=n->b<=x)
 | 0,n,h0=>⟨n,[],rfl,fun h=>by rw [Nat.zero_add,pw1] at h; exact h,fun h=>by rw [Nat.zero_add,pw1] at h; exact h⟩
 | k+1,n,h0=>by
  obtain ⟨x,r,e,h1,h2⟩:=QJ hb k (n / b) (Int.ediv_nonneg h0 (by omega))
  refine ⟨x,r++[n % b],?_,fun h=>h1 (aaB hb h),fun h=>h2 ?_⟩
  ·rw [ab4,e]; rfl
  ·refine Int.le_ediv_of_mul_le hb ?_
   rw [←Int.pow_succ]; exact h
theorem qR {ds:List PyData} (h:ds.length < 10000):few ds=true:=by
 rw [few]
 refine decide_eq_true ?_
 omega
theorem af8 {u e l b:Int} (H:zk=true) (h:okN u e l b=true):qm [jr u e l b]=some (.bool true):=by
 obtain ⟨a1,a2,a3,a4,a5,a6,a7,a8,a9,a10⟩:=qy h
 rw [ad3 a1 a2 a3 (by omega) (by omega) (by omega) a8 a9,ab2 a1 (by omega) (by omega) (by omega) (by omega) (by omega)]
 congr 2
 refine List.all_eq_true.mpr fun d hd=>?_
 have:=af7 H h (n:=(d:Int)) (by omega) (by have:=List.mem_range.mp hd; omega)
 simpa [List.any_map,Function.comp_def] using this
end Rods
namespace Rods
open PySem L2 BX
open PyProof.Rows hiding St
section
variable {u e l b:Int}{ps qs:List (Int × Int)}
end
end Rods
namespace Rods
open PySem L2 BX
open PyProof.Rows hiding St
theorem ajF {n:Int} (h0:0<=n) (h1:n<=99999):qH [.int n]=some .none:=by
 have w:j8 [.int n,.int 0,.int 99999]=some (.bool true):=by rw [j9]; simp [h0,h1]
 simp [qH,jy,ZW,jB,jJ,ifS,zy,tst,asB,jA,jg,ju,lkp,cst,w,qM]
theorem ajG {n:Int} (h0:1<=n) (h1:n<=4):qu [.int n]=some .none:=by
 have w:j8 [.int n,.int 1,.int 4]=some (.bool true):=by rw [j9]; simp [h0,h1]
 simp [qu,jy,QB,jB,jJ,ifS,zy,tst,asB,jA,jg,ju,lkp,cst,w,qM]
end Rods
namespace Rods
open PySem L2 BX
open PyProof.Rows hiding St
section
variable {u e l b:Int}{ps qs:List (Int × Int)}
theorem agM (i j:Int):dEq (.int i) (.int j)=some (.bool (decide (i=j))):=by
 have:(i == j)=decide (i=j):=rfl
 simp only [dEq,abd,ad2,and_self,zzM,this]
theorem agN {b:Int}{r:Nat}{n x:Int}{xs:List Int} (h4:r<=4) (hx:dgl b r n=x::xs):dIx (.list ((dgl b r n).map .int)) (.int 0)=some (.int x):=by
 have hl:=abg b r n
 have hlt:((dgl b r n).map PyData.int).length < 1000000:=by rw [List.length_map,hl]; omega
 show (if ((dgl b r n).map PyData.int).length < 1000000 then atI ((dgl b r n).map PyData.int) 0 else none)=_
 rw [if_pos hlt,hx]
 simp [atI,ixN]
theorem Zy (H:zk=true) (h:okN u e l b=true) {r:Nat}{n:Int} (h1:1<=r) (h4:r<=4) (h0:0<=n) (hn:n < b ^ r):zL [jr u e l b,.int (r:Int),.int n]=some (jI (pln (jr u e l b) b r n)):=by
 obtain ⟨a1,a2,a3,a4,a5,a6,a7,a8,a9,a10⟩:=qy h
 have hb:0 < b:=by omega
 have hd:=abf (n:=n) hb a9 h1 h4
 have hg:=agL hb r n h0 hn
 have hl:=abg b r n
 obtain ⟨k,rfl⟩:∃ k,r=k+1:=⟨r - 1,by omega⟩
 obtain ⟨x,xs,hx,hx1,_⟩:=QJ hb k n h0
 have hi:=agN h4 hx
 have hc:Qo (fun i j=>decide (j<=i)) (.int x) (.int b)=some (.bool false):=by
  show some (PyData.bool (decide (b<=x)))=_
  rw [decide_eq_false (by have:=hx1 hn; omega)]
 have hf:few ((dgl b (k+1) n).map .int)=true:=qR (by rw [List.length_map,hl]; omega)
 generalize hr:((k+1:Nat):Int)=rr at hd ⊢
 refine j4 rfl ?_
 show QY.1 [some (jr u e l b),some (.int rr),some (.int n),none]=_
 simp only [QY]
 refine (jG (ρ1:=[some (jr u e l b),some (.int rr),some (.int n),some (.list ((dgl b (k+1) n).map .int))]) ?_).trans ?_
 ·simp only [qS,jA,jg,ju,op2,lkp,cst,jH,zzA,zzB,zzC,zzD,zzE,ix3,hd,zzF,zzG]
 refine (jG (ρ1:=[some (jr u e l b),some (.int rr),some (.int n),some (.list ((dgl b (k+1) n).map .int))]) ?_).trans ?_
 ·simp only [ifS,tst,op2,lkp,cst,zzA,zzB,zzC,zzD,hi,ix3,hc,asB,zzL,zzN,qM]
 simp only [jJ,ql,jA,jg,ju,jZ,itL,lkp,Zg,zzA,zzB,zzC,zzD,zzE,hf,zzM,zC,List.map_cons,List.map_nil,zzH]
 rw [JG (fun d=>agK (jr u e l b) ((JF d).getD 0))]
 ·simp [afQ,jI,pln,agK,JF,Function.comp_def]
 ·intro d hd
  obtain ⟨i,hi,rfl⟩:=List.mem_map.mp hd
  simp [jA,jg,ju,lkp,JF,(ahG H h (hg i hi).1 (hg i hi).2).1]
end
end Rods
namespace BX
open PySem PySem.Spec L2
open PyProof.Rows hiding St
theorem ab5 {ga:PyData->Rho->Option Rho}{F:Rho->Option Out} (Iv:Nat->Rho->Prop):∀ (ds:List PyData) (i:Nat) (ρ:Rho),Iv i ρ->
  (∀ j d ρ,ds[j]?=some d->Iv (i+j) ρ->∃ ρ1 ρ2,ga d ρ=some ρ1/\F ρ1=some (.nx ρ2)/\Iv (i+j+1) ρ2)->∃ ρ',j7 ga F ds ρ=some (.nx ρ')/\Iv (i+ds.length) ρ'
 | [],i,ρ,h,_=>⟨ρ,rfl,h⟩
 | d::ds,i,ρ,h,hs=>by
  obtain ⟨ρ1,ρ2,h1,h2,h3⟩:=hs 0 d ρ rfl h
  obtain ⟨ρ',h4,h5⟩:=ab5 Iv ds (i+1) ρ2 h3 fun j d ρ hd hi=>by
   have:=hs (j+1) d ρ (by simpa using hd) (by rw [show i+(j+1)=i+1+j by omega]; exact hi)
   rw [show i+1+j+1=i+(j+1)+1 by omega]; exact this
  refine ⟨ρ',?_,by rw [List.length_cons,show i+(ds.length+1)=i+1+ds.length by omega]; exact h5⟩
  simp [j7,h1,h2,h4]
theorem ae6 {n j:Nat}{d:PyData} (h:(qi 0 n)[j]?=some d):j < n/\d= .int j:=by
 simp only [qi,List.getElem?_map] at h
 cases hj:(List.range n)[j]? with
 | none=>rw [hj] at h; cases h
 | some k=>
  rw [hj] at h
  obtain ⟨h1,h2⟩:=List.getElem?_eq_some_iff.mp hj
  simp at h1 h2
  subst h2
  simp at h
  exact ⟨h1,h.symm⟩
theorem ab6 (n:Nat):(qi 0 n).length=n:=by simp [qi]
end BX
namespace Rods
open PySem L2 BX
open PyProof.Rows hiding St
section
variable {u e l b:Int}
theorem ahH (H:zk=true) (h:okN u e l b=true) {r n:Int} (h1:1<=r) (h4:r<=4) (h0:0<=n) (hn:n<=99999):zg [jr u e l b,.int r,.int n]=some .none:=by
 have g1:=Q9 (af8 H h)
 have g2:qu [.int r]=some .none:=ajG h1 h4
 have g3:qH [.int n]=some .none:=ajF h0 hn
 simp [zg,jy,aaq,jB,jJ,JD,jA,jg,ju,lkp,g1,g2,g3,qM]
theorem amL {n:Nat} (hn:n<=1000):Zh [.int (n:Int)]=some (qi 0 n):=by
 have:=Q8 (j:=(n:Int)) (by omega) (by omega)
 rw [show ((n:Int)).toNat=n by omega] at this
 exact this
end
end Rods
namespace Rods
open PySem L2 BX
open PyProof.Rows hiding St
theorem Qi (ns:List Int):qp (ns.map PyData.int)=some ns:=by
 have:=ab1 (fun x:Int=>x) ns
 simpa using this
end Rods
namespace Rods
open PySem L2 BX
open PyProof.Rows hiding St
section
variable {u e l b:Int}{ps qs:List (Int × Int)}
theorem alc {xs ys:List PyData} (hx:xs ≠ [] ∨ True) (hl:xs.length+ys.length < 10000):qF (.tuple xs) (.tuple ys)=some (.tuple (xs++ys)):=by
 cases xs with
 | nil=>rfl
 | cons x xs=>
  have hf:few ((x::xs)++ys)=true:=qR (by rw [List.length_append]; exact hl)
  show (if few ((x::xs)++ys)=true then some (PyData.tuple ((x::xs)++ys)) else none)=_
  rw [if_pos hf]
theorem aaa {N:List Str}{n:Nat}{F:Rho->Option Str}{ds:List PyData} (hl:ds.length=n):Jl N n F ds=F (jB N ds):=by
 unfold Jl
 rw [if_pos hl]
theorem af9 (h:okN u e l b=true) {r:Nat}{n:Int} (h1:1<=r) (h4:r<=4) (h0:0<=n) (hn:b ^ r<=n):Z1 [jr u e l b,.int (r:Int),.int n]=some ("TooGreat":Str):=by
 obtain ⟨a1,a2,a3,a4,a5,a6,a7,a8,a9,a10⟩:=qy h
 have hb:0 < b:=by omega
 have hd:=abf (n:=n) hb a9 h1 h4
 obtain ⟨k,rfl⟩:∃ k,r=k+1:=⟨r - 1,by omega⟩
 obtain ⟨x,xs,hx,_,hx2⟩:=QJ hb k n h0
 have hi:=agN h4 hx
 have hc:Qo (fun i j=>decide (j<=i)) (.int x) (.int b)=some (.bool true):=by
  show some (PyData.bool (decide (b<=x)))=_
  rw [decide_eq_true (hx2 hn)]
 generalize hr:((k+1:Nat):Int)=rr at hd ⊢
 refine (aaa rfl).trans ?_
 show Q6.1 [some (jr u e l b),some (.int rr),some (.int n),none]=_
 simp only [Q6,nxX,qS,jA,jg,ju,op2,lkp,cst,jH,zzA,zzB,zzC,zzD,zzE,ix3,hd,zzF,zzG,ifX,tst,hi,hc,asB,zzM]
end
end Rods
namespace Rods
open PySem L2 BX
open PyProof.Rows hiding St
noncomputable def whB (a b:Int):PyData->Bool
 | .int i=>decide (a<=i) && decide (i<=b)
 | _=>false
theorem aaS (d:PyData) (hd:noD d=true) (a b:Int):j8 [d,.int a,.int b]=some (.bool (whB a b d)):=by
 cases d with
 | int i=>exact j9 i a b
 | dict k=>simp [noD] at hd
 | _=>simp [j8,jy,ZS,jB,jJ,ifS,orB,tst,lkp,aaW,tyn,asB,zy,chn,Qo,ql,qM,whB,cst]
theorem ahI {d:PyData} (h:qm [d]=some (.bool false)):Jx [d]=none:=by
 simp [Jx,jy,adR,jB,jJ,ifS,zy,tst,asB,jA,jg,ju,lkp,h,acq]
theorem ahJ {d:PyData} (h:qm [d]=some (.bool false)):Zw [d]=some ("NoManner":Str):=by
 refine (aaa rfl).trans ?_
 show aav.1 [some d]=_
 simp [aav,ifX,zy,tst,asB,jA,jg,ju,lkp,h]
theorem aaC {d:PyData} (h:qm [d]=some (.bool true)):Zw [d]=none:=by
 refine (aaa rfl).trans ?_
 show aav.1 [some d]=_
 simp [aav,ifX,zy,tst,asB,jA,jg,ju,lkp,h,adG]
theorem aoE {i j:Int} (h:-1000<=j/\j<=1000):Zj (.int i) (.int j)=some (.int (i*j)):=by
 show (if (-(2 ^ 64) < i/\i < 2 ^ 64) ∨ (-(2 ^ 64) < j/\j < 2 ^ 64) then some (PyData.int (i*j)) else none)=_
 rw [if_pos (.inr ⟨by omega,by omega⟩)]
end Rods
namespace Rods
open PySem L2 BX
open PyProof.Rows hiding St
section
variable {u e l b:Int}
theorem ald (i n:Nat):(qi 0 n).map (fun d=>PyData.tuple [.int (i:Int),d])=qA i n:=by
 simp [qi,qA]
theorem ahK (hu:0<=u) (hu':u < 50) (hl:0<=l) (hl':l < 50):adZ [jr u e l b]=some (.list (qo u l)):=by
 have r1:Zh [.int (u+1)]=some (qi 0 (u+1).toNat):=Q8 (by omega) (by omega)
 have r2:Zh [.int (l+1)]=some (qi 0 (l+1).toNat):=Q8 (by omega) (by omega)
 have f2:few (qi 0 (l+1).toNat)=true:=qR (by simp [qi]; omega)
 obtain ⟨ρ',hl1,hI⟩:=ab5 (ga:=jH 2) (F:=adX.1) (fun i ρ=>i<=(u+1).toNat->∃ x,ρ=[some (jr u e l b),some (.list (qW i (l+1).toNat)),x]) (qi 0 (u+1).toNat) 0 [some (jr u e l b),some (.list []),none] (fun _=>⟨none,rfl⟩) (fun j d ρ hd hi=>by
  obtain ⟨hj,rfl⟩:=ae6 hd
  rw [Nat.zero_add] at hi ⊢
  obtain ⟨x,rfl⟩:=hi (by omega)
  have cm:jF (jH 0) qP (Ju (jg (lkp 1) (jg (lkp 0) ju))) (qi 0 (l+1).toNat) [none,some (.int (j:Int))]=some (qA j (l+1).toNat):=by
   rw [JG (fun d=>PyData.tuple [.int (j:Int),d]),ald]
   intro d hd
   have f1:few [PyData.int (j:Int),d]=true:=qR (by simp)
   simp only [Ju,jg,ju,lkp,zzG,zzA,zzB,zzC,zzD,zzE,f1,zzM]
  have ad:qF (.list (qW j (l+1).toNat)) (.list (qA j (l+1).toNat))=some (.list (qW (j+1) (l+1).toNat)):=by
   rw [Qd]
   show (if few (qW j (l+1).toNat++qA j (l+1).toNat)=true then some (PyData.list (qW j (l+1).toNat++qA j (l+1).toNat)) else none)=_
   rw [if_pos]
   refine qR ?_
   rw [List.length_append,ZT,adP]
   have:j*(l+1).toNat<=50*50:=Nat.mul_le_mul (by omega) (by omega)
   omega
  refine ⟨_,_,rfl,?_,fun _=>⟨some (.int (j:Int)),rfl⟩⟩
  simp only [adX,jJ,qS,op2,jZ,lkp,cst,jg,ju,jH,zC,List.map_cons,List.map_nil,zzA,zzB,zzC,zzD,zzH,zzE,ix2,add_int,r2,f2,zzM,cm,ad,zzF,zzG,qM])
 rw [ab6,Nat.zero_add] at hI
 obtain ⟨x,rfl⟩:=hI (Nat.le_refl _)
 refine j4 rfl ?_
 show adY.1 [some (jr u e l b),none,none]=_
 simp only [adY]
 refine (jG (ρ1:=[some (jr u e l b),some (.list []),none]) rfl).trans ?_
 refine (jG (ρ1:=[some (jr u e l b),some (.list (qW (u+1).toNat (l+1).toNat)),x]) ?_).trans rfl
 simp only [acr,jg,ju,op2,lkp,cst,zzA,zzB,zzC,zzD,zzE,ix0,add_int,r1]
 exact hl1
end
end Rods
namespace Rods
open PySem L2 BX
open PyProof.Rows hiding St
theorem ale (x:PyData) (xs:List PyData) (h:xs.length < 9999):dIx (.list (x::xs)) (.int 0)=some x:=by
 have e1:ixN (xs.length+1) 0=some 0:=ad1 (by omega) (by omega)
 simp only [dIx,atI,List.length_cons,e1]
 rw [if_pos (by omega)]
 rfl
noncomputable def bdP (p:Int × Int):Int:=p.1+p.2
noncomputable abbrev Jh (p:Int × Int):ZO:=(bdP p,p)
noncomputable def Qp:Int × Int->List (Int × Int)->Int × Int
 | p,[]=>p
 | p,x::r=>if bdP x < bdP p then Qp x r else Qp p r
theorem ab7 {kf:PyData->Int} (hk:∀ p,kf (pr p)=bdP p):∀ (r:List (Int × Int)) (p:Int × Int),JH kf (pr p) (r.map pr)=pr (Qp p r)
 | [],p=>rfl
 | x::r,p=>by
  rw [List.map_cons]
  unfold JH Qp
  rw [hk,hk]
  split
  ·exact ab7 hk r x
  ·exact ab7 hk r p
noncomputable def ahL (p q:Int × Int):Prop:=p.1 < q.1 ∨ (p.1=q.1/\p.2 < q.2)
theorem aaD:∀ (r:List (Int × Int)) (p:Int × Int),(∀ y ∈ p::r,inT (Jh y)=true)->(p::r).Pairwise ahL->(Qp p r ∈ p::r)/\∀ y ∈ p::r,qf (Jh (Qp p r))<=qf (Jh y)
 | [],p,_,_=>⟨List.mem_cons_self,fun y hy=>by rw [List.mem_singleton.mp hy]; exact Int.le_refl _⟩
 | x::r,p,hB,hs=>by
  have hp:=hB p List.mem_cons_self
  have hx:=hB x (List.mem_cons_of_mem _ List.mem_cons_self)
  have s1:=List.pairwise_cons.mp hs
  have hpx:=s1.1 x List.mem_cons_self
  simp only [inT,inB,Jh,Bool.and_eq_true,decide_eq_true_eq] at hp hx
  unfold Qp
  split
  ·rename_i hlt
   obtain ⟨m1,m2⟩:=aaD r x (fun y hy=>hB y (List.mem_cons_of_mem _ hy)) s1.2
   refine ⟨List.mem_cons_of_mem _ m1,fun y hy=>?_⟩
   rcases List.mem_cons.mp hy with rfl | hy
   ·refine Int.le_trans (m2 x List.mem_cons_self) ?_
    simp only [qf,Jh]
    omega
   ·exact m2 y hy
  ·rename_i hge
   have s2:(p::r).Pairwise ahL:=List.pairwise_cons.mpr ⟨fun y hy=>s1.1 y (List.mem_cons_of_mem _ hy),(List.pairwise_cons.mp s1.2).2⟩
   obtain ⟨m1,m2⟩:=aaD r p (fun y hy=>hB y (by rcases List.mem_cons.mp hy with rfl | q; exact List.mem_cons_self; exact List.mem_cons_of_mem _ (List.mem_cons_of_mem _ q))) s2
   refine ⟨by rcases List.mem_cons.mp m1 with q | q; rw [q]; exact List.mem_cons_self; exact List.mem_cons_of_mem _ (List.mem_cons_of_mem _ q),fun y hy=>?_⟩
   rcases List.mem_cons.mp hy with rfl | hy
   ·exact m2 _ List.mem_cons_self
   ·rcases List.mem_cons.mp hy with rfl | hy
    ·refine Int.le_trans (m2 p List.mem_cons_self) ?_
     simp only [qf,Jh]
     rcases hpx with q | ⟨q1,q2⟩ <;> omega
    ·exact m2 y (List.mem_cons_of_mem _ hy)
theorem ahM {p:Int × Int}{r:List (Int × Int)} (hB:∀ y ∈ p::r,inT (Jh y)=true) (hs:(p::r).Pairwise ahL):∃ jT,aaM qf ((p::r).map Jh)=Jh (Qp p r)::jT/\jT.length=r.length:=by
 obtain ⟨m1,m2⟩:=aaD r p hB hs
 have pm:=Zr qf ((p::r).map Jh)
 have so:=Qc qf ((p::r).map Jh)
 cases hq:aaM qf ((p::r).map Jh) with
 | nil=>rw [hq] at pm; have:=pm.length_eq; simp at this
 | cons t ts=>
  rw [hq] at pm so
  refine ⟨ts,?_⟩
  have ht:t ∈ (p::r).map Jh:=pm.mem_iff.mp List.mem_cons_self
  obtain ⟨y,hy,rfl⟩:=List.mem_map.mp ht
  have hm:Jh (Qp p r) ∈ Jh y::ts:=pm.mem_iff.mpr (List.mem_map.mpr ⟨_,m1,rfl⟩)
  have le1:qf (Jh y)<=qf (Jh (Qp p r)):=by
   rcases List.mem_cons.mp hm with q | q
   ·rw [q]; exact Int.le_refl _
   ·exact (List.pairwise_cons.mp so).1 _ q
  have:=acW (hB y hy) (hB _ m1) (Int.le_antisymm le1 (m2 y hy))
  rw [this]
  refine ⟨rfl,?_⟩
  have:=pm.length_eq
  simpa using this
noncomputable def ae7 (i m:Nat):List (Int × Int):=(List.range m).map fun (j:Nat)=>((i:Int),(j:Int))
noncomputable def JS (n m:Nat):List (Int × Int):=(List.range n).flatMap fun (i:Nat)=>ae7 i m
theorem ab8 (n m:Nat):qW n m=(JS n m).map pr:=by
 unfold qW JS
 rw [List.map_flatMap]
 congr 1
 funext i
 simp [qA,ae7,pr]
theorem ac6 {n m:Nat}{p:Int × Int} (h:p ∈ JS n m):0<=p.1/\p.1 < n/\0<=p.2/\p.2 < m:=by
 obtain ⟨i,hi,hp⟩:=List.mem_flatMap.mp h
 obtain ⟨j,hj,rfl⟩:=List.mem_map.mp hp
 have:=List.mem_range.mp hi
 have:=List.mem_range.mp hj
 simp only
 omega
theorem ae8 (i:Nat):∀ m,(ae7 i m).Pairwise ahL
 | 0=>by simp [ae7]
 | m+1=>by
  have:ae7 i (m+1)=ae7 i m++[((i:Int),(m:Int))]:=by simp [ae7,List.range_succ]
  rw [this]
  refine List.pairwise_append.mpr ⟨ae8 i m,List.pairwise_singleton _ _,fun a ha c hc=>?_⟩
  rw [List.mem_singleton.mp hc]
  obtain ⟨j,hj,rfl⟩:=List.mem_map.mp ha
  have:=List.mem_range.mp hj
  exact .inr ⟨rfl,by simp only; omega⟩
theorem ac7 (m:Nat):∀ n,(JS n m).Pairwise ahL
 | 0=>by simp [JS]
 | n+1=>by
  have:JS (n+1) m=JS n m++ae7 n m:=by simp [JS,List.range_succ]
  rw [this]
  refine List.pairwise_append.mpr ⟨ac7 m n,ae8 n m,fun a ha c hc=>?_⟩
  have h1:=ac6 ha
  obtain ⟨j,hj,rfl⟩:=List.mem_map.mp hc
  exact .inl (by simp only; omega)
end Rods
namespace Rods
open PySem L2 BX
open PyProof.Rows hiding St
section
variable {u e l b:Int}
noncomputable def qw (u e l w:Int):List (Int × Int):=(JS (u+1).toNat (l+1).toNat).filter fun p=>wt e p == w
theorem ab9 (w:Int):zn u e l w=(qw u e l w).map pr:=by
 unfold zn qw qo
 rw [ab8,List.filter_map]
 rfl
theorem ajH (p:Int × Int):JI qv (pr p)=bdP p:=by
 unfold JI pr
 rw [aaz]; rfl
theorem ad6 (hu:0<=u) (hu':u < 100) (hl:0<=l) (hl':l < 100) {d:Int}{p:Int × Int}{r:List (Int × Int)} (hw:qw u e l d=p::r):Jn [jr u e l b,.int d]=some (pr (Qp p r)):=by
 have h1:=Z9 (e:=e) (b:=b) (w:=d) hu hu' hl hl'
 have hk:Zm qv (zn u e l d)=true:=by
  rw [ab9]
  refine List.all_eq_true.mpr fun x hx=>?_
  obtain ⟨y,_,rfl⟩:=List.mem_map.mp hx
  unfold pr
  rw [aaz]; rfl
 have hm:Zn qv (.list (zn u e l d))=some (pr (Qp p r)):=by
  show (if Zm qv (zn u e l d)=true then some (abD (JI qv) none (zn u e l d)) else none)=_
  rw [if_pos hk,ab9,hw,List.map_cons]
  show some (JH (JI qv) (pr p) (r.map pr))=_
  rw [ab7 ajH]
 simp [Jn,jy,aa8,jB,jJ,jA,jg,ju,lkp,ql,h1,hm]
theorem amM (p:Int × Int):acs [pr p]=some (.int (bdP p)):=by
 show some (PyData.int ([p.1,p.2].sum))=_
 simp [bdP]
theorem aoF (p:Int × Int):dIx (pr p) (.int 0)=some (.int p.1):=rfl
theorem aoG (p:Int × Int):dIx (pr p) (.int 1)=some (.int p.2):=rfl
theorem aoH (x y:PyData):few [x,y]=true:=qR (by simp)
noncomputable def acz (p:Int × Int):PyData:= .tuple [.int (bdP p),pr p]
theorem alf (he:1<=e/\e<=5) {d:Int} (p:Int × Int):tst (op2 dEq (op2 qF (op2 Zj (op2 dIx (lkp 0) (cst (.int 0))) (op2 dIx (lkp 2) (cst (.int 1)))) (op2 dIx (lkp 0) (cst (.int 1)))) (lkp 1)) [some (pr p),some (.int d),some (jr u e l b)]=some (wt e p == d):=by
 have m1:Zj (.int p.1) (.int e)=some (.int (p.1*e)):=aoE (by omega)
 have dq:dEq (.int (p.1*e+p.2)) (.int d)=some (.bool (decide (p.1*e+p.2=d))):=agM _ _
 simp only [tst,op2,lkp,cst,zzA,zzB,zzC,zzD,zzE,aoF,aoG,ix1,m1,add_int,dq,asB]
 rw [Bool.beq_eq_decide_eq]; rfl
theorem anZ {d:Int} (p:Int × Int):Ju (jg (jA acs (jg (lkp 0) ju)) (jg (lkp 0) ju)) [some (pr p),some (.int d),some (jr u e l b)]=some (acz p):=by
 simp only [Ju,jA,jg,ju,lkp,zzA,zzB,zzC,zzD,zzE,amM,aoH,zzM]
 rfl
theorem ae9 {ft:Rho->Option Bool}{fe:Rho->Option PyData} (t:Int × Int->Bool) (g:Int × Int->PyData) {τ:Rho} (h1:∀ p,ft (some (pr p)::τ)=some (t p)) (h2:∀ p,fe (some (pr p)::τ)=some (g p)):∀ (ps:List (Int × Int)) (x:Option PyData),jF (jH 0) ft fe (ps.map pr) (x::τ)=some ((ps.filter t).map g)
 | [],x=>rfl
 | p::ps,x=>by
  have ih:=ae9 t g h1 h2 ps (some (pr p))
  simp only [List.map_cons,jF,jH,zzD,zzG,h1,h2,ih]
  by_cases hp:t p=true
  ·simp [hp,List.filter_cons]
  ·simp [hp,List.filter_cons]
theorem ajI:qo u l=(JS (u+1).toNat (l+1).toNat).map pr:=ab8 _ _
theorem amN (hu:u<=3) (hl:l<=11) (d:Int):(qw u e l d).length<=48:=by
 have h1:(qw u e l d).length<=(JS (u+1).toNat (l+1).toNat).length:=List.length_filter_le _ _
 have h2:(JS (u+1).toNat (l+1).toNat).length=(u+1).toNat*(l+1).toNat:=by
  rw [←List.length_map (f:=pr),←ab8,ZT]
 have h3:(u+1).toNat*(l+1).toNat<=4*12:=Nat.mul_le_mul (by omega) (by omega)
 omega
theorem alg (hu:u<=3) (hl:l<=11) {d:Int}{p:Int × Int}{r:List (Int × Int)} (hw:qw u e l d=p::r):∃ jT,afY [.list ((qw u e l d).map acz)]=some (.list (acz (Qp p r)::jT))/\jT.length < 100:=by
 have mem:∀ y ∈ qw u e l d,0<=y.1/\y.1 < ((u+1).toNat:Int)/\0<=y.2/\y.2 < ((l+1).toNat:Int):=fun y hy=>ac6 (List.mem_filter.mp hy).1
 have hB:∀ y ∈ p::r,inT (Jh y)=true:=fun y hy=>by
  have:=mem y (by rw [hw]; exact hy)
  simp only [inT,inB,Jh,Bool.and_eq_true,decide_eq_true_eq]
  omega
 have hs:(p::r).Pairwise ahL:=by
  rw [←hw]
  exact (ac7 _ _).filter _
 obtain ⟨jT,hsort,hrl⟩:=ahM hB hs
 have hlen:=amN (e:=e) hu hl d
 have tr:zD ((qw u e l d).map acz)=some ((qw u e l d).map Jh):=by
  have:=acV ((qw u e l d).map Jh)
  rw [List.map_map] at this
  exact this
 refine ⟨jT.map Zd,?_,by rw [List.length_map,hrl]; rw [hw,List.length_cons] at hlen; omega⟩
 show (zD _).bind _=_
 rw [tr,zzD]
 have c1:(decide (((qw u e l d).map Jh).length < 64) && ((qw u e l d).map Jh).all inT)=true:=by
  rw [Bool.and_eq_true]
  refine ⟨decide_eq_true (by rw [List.length_map]; omega),List.all_eq_true.mpr fun t ht=>?_⟩
  obtain ⟨y,hy,rfl⟩:=List.mem_map.mp ht
  exact hB y (by rw [←hw]; exact hy)
 rw [if_pos c1,hw,hsort]
 rfl
theorem alh (h:okN u e l b=true) {d:Int}:qS (jZ (itS (jA adZ (jg (lkp 0) ju))) [none,some 1,some 0] (jH 0) (tst (op2 dEq (op2 qF (op2 Zj (op2 dIx (lkp 0) (cst (.int 0))) (op2 dIx (lkp 2) (cst (.int 1)))) (op2 dIx (lkp 0) (cst (.int 1)))) (lkp 1))) (Ju (jg (jA acs (jg (lkp 0) ju)) (jg (lkp 0) ju)))) (jH 2) [some (jr u e l b),some (.int d),none]=some (.nx [some (jr u e l b),some (.int d),some (.list ((qw u e l d).map acz))]):=by
 obtain ⟨a1,a2,a3,a4,a5,a6,a7,a8,a9,a10⟩:=qy h
 have lr:=ahK (e:=e) (b:=b) a1 (show u < 50 by omega) (show 0<=l by omega) (show l < 50 by omega)
 have fw:=ab0 (u:=u) (l:=l) (by omega) (by omega)
 have cp:=ae9 (τ:=[some (.int d),some (jr u e l b)]) (fun p=>wt e p == d) acz (fun p=>alf (u:=u) (l:=l) (b:=b) ⟨a3,a4⟩ p) (fun p=>anZ p) (JS (u+1).toNat (l+1).toNat) none
 rw [←ajI] at cp
 simp only [qS,jZ,itS,items,jA,jg,ju,lkp,zzA,zzB,zzC,zzD,zzE,lr,fw,zzM,zC,List.map_cons,List.map_nil,zzH,cp,jH,zzG,zzF]
 rfl
theorem an0 (H:zk=true) (h:okN u e l b=true) {d:Int} (h0:0<=d) (hd:d < b):∃ p r,qw u e l d=p::r:=by
 have any:=af7 H h h0 hd
 cases hq:qw u e l d with
 | nil=>
  obtain ⟨r,h1,h2⟩:=List.any_eq_true.mp any
  have:r ∈ zn u e l d:=List.mem_filter.mpr ⟨h1,h2⟩
  rw [ab9,hq] at this
  cases this
 | cons p r=>exact ⟨p,r,rfl⟩
theorem ali (h:okN u e l b=true) {d:Int}{p:Int × Int}{r:List (Int × Int)} (hw:qw u e l d=p::r):fpr (jr u e l b) d=Qp p r:=by
 obtain ⟨a1,a2,a3,a4,a5,a6,a7,a8,a9,a10⟩:=qy h
 have gf:=ad6 (e:=e) (b:=b) a1 (show u < 100 by omega) (show 0<=l by omega) (show l < 100 by omega) hw
 unfold fpr
 rw [gf]
 rfl
theorem afa (H:zk=true) (h:okN u e l b=true) {d:Int} (h0:0<=d) (hd:d < b):abZ [jr u e l b,.int d]=some (pr (fpr (jr u e l b) d)):=by
 obtain ⟨a1,a2,a3,a4,a5,a6,a7,a8,a9,a10⟩:=qy h
 obtain ⟨p,r,hw⟩:=an0 H h h0 hd
 obtain ⟨jT,so,hr⟩:=alg (u:=u) (e:=e) (l:=l) a2 a7 hw
 have ls:=alh h (d:=d)
 have hd0:=ale (acz (Qp p r)) jT (by omega)
 have hd1:dIx (acz (Qp p r)) (.int 1)=some (pr (Qp p r)):=rfl
 rw [ali h hw]
 refine j4 rfl ?_
 show Z7.1 [some (jr u e l b),some (.int d),none]=_
 simp only [Z7]
 refine (jG ls).trans ?_
 generalize PyData.list ((qw u e l d).map acz)=L at*
 generalize PyData.list (acz (Qp p r)::jT)=M at*
 simp only [jJ,ql,op2,jA,jg,ju,lkp,cst,zzA,zzB,zzC,zzD,zzE,so,hd0,hd1]
end
end Rods
namespace Rods
open PySem L2 BX
open PyProof.Rows hiding St
theorem aga {i j:Int} (h:0 < j/\j < 1073741824):afC (.int i) (.int j)=some (.int (i % j)):=by
 show (if 0 < j then some (PyData.int (i % j)) else none)=_
 rw [if_pos h.1]
theorem afb {i j:Int} (h:0 < j/\j < 1073741824):abz (.int i) (.int j)=some (.int (i / j)):=by
 show (if 0 < j/\j < 1073741824 then some (PyData.int (i / j)) else none)=_
 rw [if_pos h]
end Rods
namespace Rods
open PySem L2 BX
open PyProof.Rows hiding St
section
variable {u e l b:Int}
noncomputable def dgm (b:Int):Nat->Int->List Int
 | 0,_=>[]
 | k+1,n=>dgm b k (n / b)++[n % b]
theorem agO {b:Int} (hb:0 < b):∀ (r:Nat) (n:Int),1<=r->0<=n->n < b ^ r->dgm b r n=dgl b r n
 | 0,n,h1,_,_=>by omega
 | 1,n,_,h0,hn=>by
  rw [pw1] at hn
  show []++[n % b]=[n]
  rw [Int.emod_eq_of_lt h0 hn]; rfl
 | k+2,n,_,h0,hn=>by
  show dgm b (k+1) (n / b)++[n % b]=dgl b (k+1) (n / b)++[n % b]
  rw [agO hb (k+1) (n / b) (by omega) (Int.ediv_nonneg h0 (by omega)) (aaB hb hn)]
theorem aaT (H:zk=true) (h:okN u e l b=true) {R:PyData}:∀ (ds:List PyData) (n:Int) (acc:List (Int × Int)) (x:Option PyData),acc.length+ds.length < 1000->
  ∃ x',j7 (jH 4) QI.1 ds [some (jr u e l b),some R,some (.int n),some (jI acc),x]=some (.nx [some (jr u e l b),some R,some (.int (n / b ^ ds.length)),some (jI ((dgm b ds.length n).map (fpr (jr u e l b))++acc)),x'])
 | [],n,acc,x,_=>⟨x,by
  have:n / b ^ ([]:List PyData).length=n:=by simp
  rw [this]; rfl⟩
 | d::ds,n,acc,x,hl=>by
  obtain ⟨a1,a2,a3,a4,a5,a6,a7,a8,a9,a10⟩:=qy h
  have hb:0 < b:=by omega
  have hm:afC (.int n) (.int b)=some (.int (n % b)):=aga ⟨hb,by omega⟩
  have hf:abz (.int n) (.int b)=some (.int (n / b)):=afb ⟨hb,by omega⟩
  have gf:=afa H h (d:=n % b) (Int.emod_nonneg _ (by omega)) (Int.emod_lt_of_pos _ hb)
  rw [List.length_cons] at hl
  have ad:qF (.tuple [pr (fpr (jr u e l b) (n % b))]) (jI acc)=some (jI (fpr (jr u e l b) (n % b)::acc)):=by
   have:=alc (xs:=[pr (fpr (jr u e l b) (n % b))]) (ys:=acc.map pr) (.inr trivial) (by rw [List.length_map]; simp; omega)
   exact this
  have f1:few [pr (fpr (jr u e l b) (n % b))]=true:=qR (by simp)
  have step:QI.1 [some (jr u e l b),some R,some (.int n),some (jI acc),some d]=some (.nx [some (jr u e l b),some R,some (.int (n / b)),some (jI (fpr (jr u e l b) (n % b)::acc)),some d]):=by
   simp only [QI,jJ,qS,op2,Ju,jA,jg,ju,lkp,cst,jH,zzA,zzB,zzC,zzD,zzE,ix3,hm,hf,gf,f1,zzM,ad,zzF,zzG,qM]
  obtain ⟨x',hx⟩:=aaT H h (R:=R) ds (n / b) (fpr (jr u e l b) (n % b)::acc) (some d) (by rw [List.length_cons]; omega)
  refine ⟨x',?_⟩
  have ga:jH 4 d [some (jr u e l b),some R,some (.int n),some (jI acc),x]=some [some (jr u e l b),some R,some (.int n),some (jI acc),some d]:=rfl
  have e1:n / b ^ (d::ds).length=n / b / b ^ ds.length:=by
   rw [List.length_cons,Int.pow_succ,Int.mul_comm,Int.ediv_ediv_of_nonneg (by omega)]
  have e2:(dgm b (d::ds).length n).map (fpr (jr u e l b))++acc=(dgm b ds.length (n / b)).map (fpr (jr u e l b))++fpr (jr u e l b) (n % b)::acc:=by
   rw [List.length_cons,dgm,List.map_append,List.append_assoc]; rfl
  rw [e1,e2]
  simp only [j7,ga,zzD,step]
  exact hx
theorem amO {b n:Int} (hb:0 < b) (r:Nat) (h0:0<=n):n / b ^ r=0 ↔ n < b ^ r:=by
 have hp:=ajE hb r
 constructor
 ·intro hz
  exact Int.lt_of_not_ge fun hge=>by
   have:1<=n / b ^ r:=Int.le_ediv_of_mul_le hp (by omega)
   omega
 ·intro hlt
  exact Int.ediv_eq_zero_of_lt h0 hlt
noncomputable def lpl (m:PyData) (b:Int) (r:Nat) (n:Int):PyData:=if n < b ^ r then jI (pln m b r n) else .none
theorem agb {m R:PyData}{k:Int}{s:List (Int × Int)}{x:Option PyData}{c:Bool} (dq:dEq (.int k) (.int 0)=some (.bool c)):jJ (ql (ifD (tst (op2 dEq (lkp 2) (cst (.int 0)))) (lkp 3) (cst .none))) qM [some m,some R,some (.int k),some (jI s),x]=some (.rt (if c=true then jI s else .none)):=by
 cases c with
 | true=>simp only [jJ,ql,ifD,tst,op2,lkp,cst,zzA,zzB,zzC,zzD,zzE,dq,asB,zzM]
 | false=>simp only [jJ,ql,ifD,tst,op2,lkp,cst,zzA,zzB,zzC,zzD,zzE,dq,asB,zzL,zzN]
theorem ad7 {m:PyData}{r n:Int}{RR:List PyData}{ρ':Rho}{o:Option Out} (rg:Zh [.int r]=some RR) (hx:j7 (jH 4) QI.1 RR [some m,some (.int r),some (.int n),some (jI []),none]=some (.nx ρ')) (he:jJ (ql (ifD (tst (op2 dEq (lkp 2) (cst (.int 0)))) (lkp 3) (cst .none))) qM ρ'=o):Z8.1 [some m,some (.int r),some (.int n),none,none]=o:=by
 simp only [Z8]
 refine (jG (ρ1:=[some m,some (.int r),some (.int n),some (jI []),none]) rfl).trans ?_
 refine (jG (ρ1:=ρ') ?_).trans he
 simp only [acr,jg,ju,lkp,zzA,zzB,zzC,zzD,zzE,rg]
 exact hx
theorem aca (H:zk=true) (h:okN u e l b=true) {r:Nat}{n:Int} (h1:1<=r) (h4:r<=4) (h0:0<=n):zP [jr u e l b,.int (r:Int),.int n]=some (lpl (jr u e l b) b r n):=by
 obtain ⟨a1,a2,a3,a4,a5,a6,a7,a8,a9,a10⟩:=qy h
 have hb:0 < b:=by omega
 have hlen:(qi 0 r).length=r:=ab6 r
 obtain ⟨x',hx⟩:=aaT H h (R:= .int (r:Int)) (qi 0 r) n [] none (by rw [hlen,List.length_nil]; omega)
 rw [hlen,List.append_nil] at hx
 have dq:dEq (.int (n / b ^ r)) (.int 0)=some (.bool (decide (n < b ^ r))):=by
  rw [agM,decide_eq_decide.mpr (amO hb r h0)]
 have key:=ad7 (amL (show r<=1000 by omega)) hx (agb dq)
 generalize (r:Int)=rr at key ⊢
 refine (j4 (d:=if decide (n < b ^ r)=true then jI ((dgm b r n).map (fpr (jr u e l b))) else .none) rfl ?_).trans ?_
 ·show Z8.1 [some (jr u e l b),some (.int rr),some (.int n),none,none]=_
  exact key
 unfold lpl
 by_cases hlt:n < b ^ r
 ·rw [if_pos hlt,decide_eq_true hlt,if_pos rfl,pln,agO hb r n h1 h0 hlt]
 ·rw [if_neg hlt,decide_eq_false hlt,if_neg Bool.false_ne_true]
end
end Rods
namespace Rods
open PySem L2 BX
open PyProof.Rows hiding St
theorem jW {N:List Str}{n:Nat}{F:Rho->Option Str}{ds:List PyData}{c:Option Str} (hl:ds.length=n) (h:F (jB N ds)=c):Jl N n F ds=c:=(aaa hl).trans h
theorem agP {N:List Str}{n:Nat}{B:Rho->Option Out}{ds:List PyData} (hl:ds.length=n) (h:B (jB N ds)=none):jy N n B ds=none:=by
 unfold jy; rw [if_pos hl,h]
end Rods
namespace Rods
open PySem L2 BX
open PyProof.Rows hiding St
section
variable {u e l b:Int}{ps qs:List (Int × Int)}
theorem agc (h:okN u e l b=true) {r:Nat}{n:Int} (h1:1<=r) (h4:r<=4) (h0:0<=n) (hn:b ^ r<=n):zL [jr u e l b,.int (r:Int),.int n]=none:=by
 obtain ⟨a1,a2,a3,a4,a5,a6,a7,a8,a9,a10⟩:=qy h
 have hb:0 < b:=by omega
 have hd:=abf (n:=n) hb a9 h1 h4
 obtain ⟨k,rfl⟩:∃ k,r=k+1:=⟨r - 1,by omega⟩
 obtain ⟨x,xs,hx,_,hx2⟩:=QJ hb k n h0
 have hi:=agN h4 hx
 have hc:Qo (fun i j=>decide (j<=i)) (.int x) (.int b)=some (.bool true):=by
  show some (PyData.bool (decide (b<=x)))=_
  rw [decide_eq_true (hx2 hn)]
 generalize hr:((k+1:Nat):Int)=rr at hd ⊢
 refine agP rfl ?_
 show QY.1 [some (jr u e l b),some (.int rr),some (.int n),none]=none
 dsimp? [QY,ix3,hd,hi,hc]
end
end Rods
namespace Rods
open PySem L2 BX
open PyProof.Rows hiding St
section
variable {b:Int}
variable {n:Int}
end
end Rods
namespace Rods
open PySem L2 BX
open PyProof.Rows hiding St
theorem afc:∀ xs:List Int,PyData.eqvAll (xs.map .int) (xs.map .int)=true
 | []=>by simp [PyData.eqvAll]
 | x::xs=>by simp [PyData.eqvAll,ad2,afc xs]
theorem ajJ {d:PyData} (hd:noD d=true) (w:whB 0 99999 d=false):qH [d]=none/\Qh [d]=some ("NoNumber":Str):=by
 have gw:=aaS d hd 0 99999
 rw [w] at gw
 constructor
 ·simp [qH,jy,ZW,jB,jJ,ifS,zy,tst,asB,cst,jA,jg,ju,lkp,gw,acq]
 ·refine jW rfl ?_
  show Q5.1 [some d]=_
  simp [Q5,orX,ifX,zy,tst,asB,cst,jA,jg,ju,lkp,gw]
theorem ad8 {i:Int} (h:0<=i/\i<=99999):qH [.int i]=some .none/\Qh [.int i]=none:=by
 have gw:=j9 i 0 99999
 rw [decide_eq_true h.1,decide_eq_true h.2] at gw
 constructor
 ·simp [qH,jy,ZW,jB,jJ,ifS,zy,tst,asB,cst,jA,jg,ju,lkp,gw,qM]
 ·refine jW rfl ?_
  show Q5.1 [some (.int i)]=_
  simp [Q5,orX,ifX,zy,tst,asB,cst,jA,jg,ju,lkp,gw,adG]
theorem alj {d:PyData} (hd:noD d=true) (w:whB 1 4 d=false):qu [d]=none/\JP [d]=some ("NoNumber":Str):=by
 have gw:=aaS d hd 1 4
 rw [w] at gw
 constructor
 ·simp [qu,jy,QB,jB,jJ,ifS,zy,tst,asB,cst,jA,jg,ju,lkp,gw,acq]
 ·refine jW rfl ?_
  show JO.1 [some d]=_
  simp [JO,orX,ifX,zy,tst,asB,cst,jA,jg,ju,lkp,gw]
theorem agQ {i:Int} (h:1<=i/\i<=4):qu [.int i]=some .none/\JP [.int i]=none:=by
 have gw:=j9 i 1 4
 rw [decide_eq_true h.1,decide_eq_true h.2] at gw
 constructor
 ·simp [qu,jy,QB,jB,jJ,ifS,zy,tst,asB,cst,jA,jg,ju,lkp,gw,qM]
 ·refine jW rfl ?_
  show JO.1 [some (.int i)]=_
  simp [JO,orX,ifX,zy,tst,asB,cst,jA,jg,ju,lkp,gw,adG]
theorem QK {ga:PyData->Rho->Option Rho}{F:Rho->Option Out} (E:Option PyData->Rho) (hga:∀ d x,ga d (E x)=some (E (some d))):∀ (ds:List PyData) (x:Option PyData),(∀ d ∈ ds,F (E (some d))=some (.nx (E (some d))))->∃ y,j7 ga F ds (E x)=some (.nx (E y))
 | [],x,_=>⟨x,rfl⟩
 | d::ds,x,h=>by
  obtain ⟨y,hy⟩:=QK E hga ds (some d) fun c hc=>h c (List.mem_cons_of_mem _ hc)
  refine ⟨y,?_⟩
  simp only [j7,hga,zzD,h d List.mem_cons_self]
  exact hy
theorem amP {ds:List PyData} (h:ds.length < 50):few ds=true:=qR (by omega)
theorem fw2 {a b:PyData}:few [a,b]=true:=amP (by simp)
theorem fw3 {a b c:PyData}:few [a,b,c]=true:=amP (by simp)
noncomputable def shl (n:Nat) (d:PyData):Prop:=d.canLay0=true/\d.depth<=n
theorem abh {ds:List PyData}:PyData.canLayAll0 ds=true ↔ ∀ d ∈ ds,d.canLay0=true:=by
 induction ds with
 | nil=>simp [PyData.canLayAll0]
 | cons x xs ih=>simp [PyData.canLayAll0,ih]
theorem abi {ds:List PyData}{n:Nat}:PyData.depthAll ds<=n ↔ ∀ d ∈ ds,d.depth<=n:=by
 induction ds with
 | nil=>simp [PyData.depthAll]
 | cons x xs ih=>simp only [PyData.depthAll,List.mem_cons,forall_eq_or_imp,←ih]; omega
theorem alk {n:Nat}{ds:List PyData}:shl (n+1) (.tuple ds) ↔ ∀ d ∈ ds,shl n d:=by
 constructor
 ·rintro ⟨h1,h2⟩ d hd
  refine ⟨abh.mp (by simpa [PyData.canLay0] using h1) d hd,abi.mp ?_ d hd⟩
  simp only [PyData.depth] at h2; omega
 ·intro h
  refine ⟨by simp only [PyData.canLay0]; exact abh.mpr fun d hd=>(h d hd).1,?_⟩
  have:=abi.mpr fun d hd=>(h d hd).2
  simp only [PyData.depth]; omega
theorem ad9 {n:Nat}{ds:List PyData}:shl (n+1) (.list ds) ↔ ∀ d ∈ ds,shl n d:=by
 constructor
 ·rintro ⟨h1,h2⟩ d hd
  refine ⟨abh.mp (by simpa [PyData.canLay0] using h1) d hd,abi.mp ?_ d hd⟩
  simp only [PyData.depth] at h2; omega
 ·intro h
  refine ⟨by simp only [PyData.canLay0]; exact abh.mpr fun d hd=>(h d hd).1,?_⟩
  have:=abi.mpr fun d hd=>(h d hd).2
  simp only [PyData.depth]; omega
theorem ajK {n:Nat}{d:PyData} (h:shl n d) (hn:n < 30):okD d=true:=by
 unfold okD
 rw [h.1,decide_eq_true (show d.depth < 30 by have:=h.2; omega)]; rfl
theorem aea (i:Int):shl 1 (.int i):=⟨rfl,by simp [PyData.depth]⟩
theorem amQ {ds:List PyData}{k:Int} (h0:0<=k) (hk:k < ds.length) (hl:ds.length < 9999):∃ v,dIx (.list ds) (.int k)=some v/\v ∈ ds:=by
 have hlt:k.toNat < ds.length:=by omega
 refine ⟨ds[k.toNat],?_,List.getElem_mem _⟩
 have e1:ixN ds.length k=some k.toNat:=ad1 h0 hlt
 show (if ds.length < 1000000 then atI ds k else none)=_
 rw [if_pos (by omega)]
 unfold atI
 rw [e1]
 show ds[k.toNat]?=_
 rw [List.getElem?_eq_getElem hlt]
theorem alm {ps:List (Int × Int)}{i:Nat}{p:Int × Int} (h4:ps.length<=4) (hd:ps[i]?=some p):dIx (jI ps) (.int (i:Int))=some (pr p):=by
 have hi:i < ps.length:=(List.getElem?_eq_some_iff.mp hd).1
 show (if (ps.map pr).length < 1000000 then atI (ps.map pr) (i:Int) else none)=_
 rw [if_pos (by rw [List.length_map]; omega)]
 unfold atI
 rw [ad1 (by omega) (by rw [List.length_map]; simpa using hi),zzD,List.getElem?_map]
 rw [show ((i:Int)).toNat=i by simp,hd]; rfl
theorem add_list {xs ys:List PyData} (h:xs.length+ys.length < 9999):qF (.list xs) (.list ys)=some (.list (xs++ys)):=by
 show (if few (xs++ys)=true then some (PyData.list (xs++ys)) else none)=_
 rw [if_pos (qR (by rw [List.length_append]; omega))]
end Rods
namespace Rods
open PySem L2 BX
open PyProof.Rows hiding St
section
variable {u e l b:Int}
end
end Rods
namespace Rods
open PySem L2 BX
open PyProof.Rows hiding St
noncomputable def far:List (Int × Int)->List (Int × Int)->Int
 | p::ps,q::qs=>fd p q+far ps qs
 | _,_=>0
theorem aab (p q:Int × Int):zV [pr p,pr q]=some (.int (fd p q)):=by
 have i0:∀ p:Int × Int,dIx (pr p) (.int 0)=some (.int p.1):=fun _=>rfl
 have i1:∀ p:Int × Int,dIx (pr p) (.int 1)=some (.int p.2):=fun _=>rfl
 have s1:∀ i j:Int,aby (.int i) (.int j)=some (.int (i - j)):=fun _ _=>rfl
 have a1:∀ i:Int,ahl [.int i]=some (.int (ab i)):=fun _=>rfl
 refine j4 rfl ?_
 show Q1.1 [some (pr p),some (pr q)]=_
 dsimp? [Q1,i0,i1,s1,a1,add_int]
 rfl
theorem acb:∀ (ps qs:List (Int × Int)) (x y:Option PyData),jF (ZC 2 (jY (jH 0) (jY (jH 1) Jb))) qP (jA zV (jg (lkp 0) (jg (lkp 1) ju))) (qq (ps.map pr) (qs.map pr)) [x,y]=some ((List.zipWith fd ps qs).map .int)
 | [],qs,x,y=>rfl
 | p::ps,[],x,y=>rfl
 | p::ps,q::qs,x,y=>by
  have ih:=acb ps qs (some (pr p)) (some (pr q))
  have g:=aab p q
  have ga:ZC 2 (jY (jH 0) (jY (jH 1) Jb)) (.tuple [pr p,pr q]) [x,y]=some [some (pr p),some (pr q)]:=rfl
  simp only [List.map_cons,qq,jF,ga,zzD,qP,zzM,List.zipWith_cons_cons]
  generalize pr p=P at*
  generalize pr q=Q at*
  dsimp? [g,ih]
theorem aeb:∀ ps qs:List (Int × Int),(List.zipWith fd ps qs).sum=far ps qs
 | [],qs=>by simp [far]
 | p::ps,[]=>by simp [far]
 | p::ps,q::qs=>by simp [far,aeb ps qs]
theorem ac8 (ps qs:List (Int × Int)) (h:ps.length<=4):few (qq (ps.map pr) (qs.map pr))=true:=amP (by rw [QO,List.length_map]; omega)
theorem ahN (ps qs:List (Int × Int)) (h:ps.length<=4):af4 [jI ps,jI qs]=some (.int (far ps qs)):=by
 have c:=acb ps qs none none
 have z:aaL [jI ps,jI qs]=some (qq (ps.map pr) (qs.map pr)):=rfl
 have f:=ac8 ps qs h
 have sm:acs [.list ((List.zipWith fd ps qs).map .int)]=some (.int (far ps qs)):=by
  show (qp ((List.zipWith fd ps qs).map PyData.int)).map _=_
  rw [Qi,←aeb]
  rfl
 refine j4 rfl ?_
 show adW.1 [some (jI ps),some (jI qs)]=_
 generalize jI ps=S at*
 generalize jI qs=T at*
 dsimp? [adW,jZ,zC,List.map_cons,List.map_nil,z,f,c,sm]
end Rods
namespace Rods
open PySem L2 BX
open PyProof.Rows hiding St
section
variable {u e l b:Int}
theorem amR {ms:List PyData} (h:∀ d ∈ ms,shl 2 d):dEq (.list ms) (.list [])=some (.bool (decide (ms=[])))/\dNe (.list ms) (.list [])=some (.bool (!decide (ms=[]))):=by
 have o1:okD (.list ms)=true:=ajK (n:=3) (ad9.mpr h) (by omega)
 have o2:okD (.list [])=true:=rfl
 have e:PyData.eqv (.list ms) (.list [])=decide (ms=[]):=by cases ms <;> simp [PyData.eqv,PyData.eqvAll]
 constructor
 ·show (if okD (.list ms)=true/\okD (.list [])=true then some (PyData.bool (PyData.eqv (.list ms) (.list []))) else none)=_
  rw [if_pos ⟨o1,o2⟩,e]
 ·show (if okD (.list ms)=true/\okD (.list [])=true then some (PyData.bool (!PyData.eqv (.list ms) (.list []))) else none)=_
  rw [if_pos ⟨o1,o2⟩,e]
end
noncomputable abbrev rfd (i:Int):PyData:= .tuple [.str "refused",.int i]
theorem aec:qK [Jt "NoManner"]=some (rfd 0):=by kernel_rfl
theorem aed:("NoManner":Str) ∈ qQ:=by decide
theorem zQ:qK [Jt "NoNumber"]=some (rfd 1):=by kernel_rfl
theorem zR:("NoNumber":Str) ∈ qQ:=by decide
theorem aee:qK [Jt "TooGreat"]=some (rfd 2):=by kernel_rfl
theorem aef:("TooGreat":Str) ∈ qQ:=by decide
theorem aoI {tt:Rho->Option Bool}{A B:Rho->Option Out}{ρ:Rho} (h:tt ρ=some true):ifS tt A B ρ=A ρ:=by
 show (tt ρ).bind _=_
 rw [h]; rfl
theorem aeg {tt:Rho->Option Bool}{A:Rho->Option Out}{ρ:Rho} (h:tt ρ=some false):ifS tt A (fun ρ=>some (.nx ρ)) ρ=some (.nx ρ):=by
 show (tt ρ).bind _=_
 rw [h]; rfl
theorem qT {i:Nat}{f:Rho->Option PyData}{ρ:Rho}{d:PyData} (h:f ρ=some d):qS f (jH i) ρ=some (.nx (ρ.set i (some d))):=by
 show (f ρ).bind _=_
 rw [h]; rfl
theorem j6 {g:PyData->PyData->Option PyData}{f1 f2:Rho->Option PyData}{ρ:Rho}{x y z:PyData} (h1:f1 ρ=some x) (h2:f2 ρ=some y) (h3:g x y=some z):op2 g f1 f2 ρ=some z:=by
 show (f1 ρ).bind _=_
 rw [h1,zzD,h2,zzD,h3]
theorem Jq {fi:Rho->Option (List PyData)}{cap:List (Option Nat)}{ga:PyData->Rho->Option Rho}{ft:Rho->Option Bool}{fe:Rho->Option PyData}{ρ:Rho}{ds ys:List PyData} (h1:fi ρ=some ds) (hf:few ds=true) (h2:jF ga ft fe ds (zC cap ρ)=some ys):jZ fi cap ga ft fe ρ=some (.list ys):=by
 show (fi ρ).bind _=_
 rw [h1,zzD,if_pos hf,h2]; rfl
theorem jx {g:List PyData->Option PyData}{fs:Rho->Option (List PyData)}{ρ:Rho}{ds:List PyData}{d:PyData} (h1:fs ρ=some ds) (h2:g ds=some d):jA g fs ρ=some d:=by
 show (fs ρ).bind _=_
 rw [h1,zzD,h2]
theorem jt {f:Rho->Option PyData}{fs:Rho->Option (List PyData)}{ρ:Rho}{d:PyData}{ds:List PyData} (h1:f ρ=some d) (h2:fs ρ=some ds):jg f fs ρ=some (d::ds):=by
 unfold jg
 rw [h1,zzD,h2]; rfl
theorem zw {f:Rho->Option PyData}{ρ:Rho}{c:Bool} (h:f ρ=some (.bool c)):tst f ρ=some c:=by
 show (f ρ).bind _=_
 rw [h]; rfl
theorem acd {fi:Rho->Option (List PyData)}{ga:PyData->Rho->Option Rho}{F:Rho->Option Out}{ρ:Rho}{ds:List PyData}{o:Option Out} (h1:fi ρ=some ds) (h2:j7 ga F ds ρ=o):acr fi ga F ρ=o:=by
 show (fi ρ).bind _=_
 rw [h1,zzD]; exact h2
theorem ace {f:Rho->Option PyData}{G:Rho->Option Out}{ρ:Rho}{d:PyData} (h:f ρ=some d):jJ (ql f) G ρ=some (.rt d):=by
 unfold jJ ql
 rw [h]; rfl
theorem ajL (i j:Int):ab (i - j)=ab (j - i):=by unfold ab; split <;> split <;> omega
theorem ac9:∀ (ps qs:List (Int × Int)) (x y:Option PyData),jF (ZC 2 (jY (jH 0) (jY (jH 1) Jb))) qP (op2 qF (jA ahl (jg (op2 aby (op2 dIx (lkp 0) (cst (.int 0))) (op2 dIx (lkp 1) (cst (.int 0)))) ju)) (jA ahl (jg (op2 aby (op2 dIx (lkp 0) (cst (.int 1))) (op2 dIx (lkp 1) (cst (.int 1)))) ju))) (qq (ps.map pr) (qs.map pr)) [x,y]=some ((List.zipWith fd ps qs).map .int)
 | [],qs,x,y=>rfl
 | p::ps,[],x,y=>rfl
 | p::ps,q::qs,x,y=>by
  have ih:=ac9 ps qs (some (pr p)) (some (pr q))
  have i0:∀ p:Int × Int,dIx (pr p) (.int 0)=some (.int p.1):=fun _=>rfl
  have i1:∀ p:Int × Int,dIx (pr p) (.int 1)=some (.int p.2):=fun _=>rfl
  have s1:∀ i j:Int,aby (.int i) (.int j)=some (.int (i - j)):=fun _ _=>rfl
  have a1:∀ i:Int,ahl [.int i]=some (.int (ab i)):=fun _=>rfl
  have ga:ZC 2 (jY (jH 0) (jY (jH 1) Jb)) (.tuple [pr p,pr q]) [x,y]=some [some (pr p),some (pr q)]:=rfl
  have ef:ab (p.1 - q.1)+ab (p.2 - q.2)=fd p q:=by unfold fd; rw [ajL p.1,ajL p.2]
  simp only [List.map_cons,qq,jF,ga,zzD,qP,zzM,List.zipWith_cons_cons]
  dsimp? [i0,i1,s1,a1,add_int,ef,ih]
theorem afd (ps qs:List (Int × Int)) (h:ps.length<=4):ae0 [jI ps,jI qs]=some (.int (far ps qs)):=by
 have c:=ac9 ps qs none none
 have z:aaL [jI ps,jI qs]=some (qq (ps.map pr) (qs.map pr)):=rfl
 have f:=ac8 ps qs h
 have sm:acs [.list ((List.zipWith fd ps qs).map .int)]=some (.int (far ps qs)):=by
  show (qp ((List.zipWith fd ps qs).map PyData.int)).map _=_
  rw [Qi,←aeb]
  rfl
 refine j4 rfl ?_
 show agI.1 [some (jI ps),some (jI qs)]=_
 generalize jI ps=S at*
 generalize jI qs=T at*
 dsimp? [agI,jZ,zC,List.map_cons,List.map_nil,z,f,c,sm]
section
variable {m r n:PyData}{c:Str}
theorem aln (g:Jx [m]=none) (x:Zw [m]=some c):zg [m,r,n]=none/\QF [m,r,n]=some c:=by
 constructor
 ·simp [zg,jy,aaq,jB,jJ,JD,jA,jg,ju,lkp,g]
 ·refine jW rfl ?_
  show Jy.1 [some m,some r,some n]=_
  simp [Jy,orX,nxX,JD,jA,jg,ju,lkp,g,x]
theorem alo (g:Jx [m]=some .none) (x:Zw [m]=none) (g2:qu [r]=none) (x2:JP [r]=some c):zg [m,r,n]=none/\QF [m,r,n]=some c:=by
 constructor
 ·simp [zg,jy,aaq,jB,jJ,JD,jA,jg,ju,lkp,g,g2]
 ·refine jW rfl ?_
  show Jy.1 [some m,some r,some n]=_
  simp [Jy,orX,nxX,JD,jA,jg,ju,lkp,g,x,g2,x2]
theorem alp (g:Jx [m]=some .none) (x:Zw [m]=none) (g2:qu [r]=some .none) (x2:JP [r]=none) (g3:qH [n]=none) (x3:Qh [n]=some c):zg [m,r,n]=none/\QF [m,r,n]=some c:=by
 constructor
 ·simp [zg,jy,aaq,jB,jJ,JD,jA,jg,ju,lkp,g,g2,g3]
 ·refine jW rfl ?_
  show Jy.1 [some m,some r,some n]=_
  simp [Jy,orX,nxX,JD,jA,jg,ju,lkp,g,x,g2,x2,g3,x3]
end
theorem amS {i:Nat}{f:Rho->Option PyData}{G F:Rho->Option Out}{ρ ρ1:Rho}{d:PyData}{o:Option Out} (h1:f ρ=some d) (h2:i < ρ.length) (h3:G (ρ.set i (some d))=some (.nx ρ1)) (h4:F ρ1=o):adM i f G F ρ=o:=by
 show (f ρ).bind _=_
 rw [h1,zzD,if_pos h2,h3]; exact h4
section
variable {m r f t d:PyData}{c:Str}
theorem w00:dEq (.int 0) (.int 0)=some (.bool true):=rfl
theorem w10:dEq (.int 1) (.int 0)=some (.bool false):=rfl
theorem w11:dEq (.int 1) (.int 1)=some (.bool true):=rfl
theorem w20:dEq (.int 2) (.int 0)=some (.bool false):=rfl
theorem w21:dEq (.int 2) (.int 1)=some (.bool false):=rfl
theorem aeh {α:Type} (x:Unit->Option α):(none:Option α).orElse x=x ():=rfl
theorem aei {α:Type} (a:α) (x:Unit->Option α):(some a).orElse x=some a:=rfl
theorem an1 (g:Jg [m,r,f,t]=some d):qD [.int 0,m,r,f,t]=some d:=by
 refine j4 rfl ?_
 show zi.1 [some (.int 0),some m,some r,some f,some t,none]=_
 dsimp? [zi,Zq,w00,w10,w11,w20,w21,g]
theorem amT (g:Jg [m,r,f,t]=none) (x:Z4 [m,r,f,t]=some c) (hc:c ∈ qQ) (hr:qK [Jt c]=some d):qD [.int 0,m,r,f,t]=some d:=by
 refine j4 rfl ?_
 show zi.1 [some (.int 0),some m,some r,some f,some t,none]=_
 have hb:lkp 5 ((ZM 6).set 5 (some (Jt c)))=some (Jt c):=rfl
 unfold lkp at hb
 dsimp? [zi,Zq,aeh,aei,w00,w10,w11,w20,w21,g,x,hc,hb,hr]
theorem an2 (g:zM [m,r,f,t]=some d):qD [.int 1,m,r,f,t]=some d:=by
 refine j4 rfl ?_
 show zi.1 [some (.int 1),some m,some r,some f,some t,none]=_
 dsimp? [zi,Zq,w00,w10,w11,w20,w21,g]
theorem amU (g:zM [m,r,f,t]=none) (x:Z2 [m,r,f,t]=some c) (hc:c ∈ qQ) (hr:qK [Jt c]=some d):qD [.int 1,m,r,f,t]=some d:=by
 refine j4 rfl ?_
 show zi.1 [some (.int 1),some m,some r,some f,some t,none]=_
 have hb:lkp 5 ((ZM 6).set 5 (some (Jt c)))=some (Jt c):=rfl
 unfold lkp at hb
 dsimp? [zi,Zq,aeh,aei,w00,w10,w11,w20,w21,g,x,hc,hb,hr]
theorem an3 (g:qt [m,r,f,t]=some d):qD [.int 2,m,r,f,t]=some d:=by
 refine j4 rfl ?_
 show zi.1 [some (.int 2),some m,some r,some f,some t,none]=_
 dsimp? [zi,Zq,w00,w10,w11,w20,w21,g]
theorem amV (g:qt [m,r,f,t]=none) (x:zO [m,r,f,t]=some c) (hc:c ∈ qQ) (hr:qK [Jt c]=some d):qD [.int 2,m,r,f,t]=some d:=by
 refine j4 rfl ?_
 show zi.1 [some (.int 2),some m,some r,some f,some t,none]=_
 have hb:lkp 5 ((ZM 6).set 5 (some (Jt c)))=some (Jt c):=rfl
 unfold lkp at hb
 dsimp? [zi,Zq,aeh,aei,w00,w10,w11,w20,w21,g,x,hc,hb,hr]
theorem ahO {i:Int} (g:qN [m,r,f,t]=none) (x:QG [m,r,f,t]=some c) (hc:c ∈ qQ) (hr:qK [Jt c]=some (rfd i)):qD [.int 0,m,r,f,t]=some (rfd i)/\qD [.int 1,m,r,f,t]=some (rfd i)/\qD [.int 2,m,r,f,t]=some (rfd i):=by
 have b1:zM [m,r,f,t]=none:=by simp [zM,jy,ZZ,jB,jJ,qS,jA,jg,ju,lkp,g]
 have b2:Z2 [m,r,f,t]=some c:=by
  refine jW rfl ?_
  show abb.1 [some m,some r,some f,some t,none]=_
  simp [abb,jA,jg,ju,lkp,x]
 have u1:Jg [m,r,f,t]=none:=by simp [Jg,jy,Z0,jB,jJ,ql,jA,jg,ju,lkp,b1]
 have u2:Z4 [m,r,f,t]=some c:=by
  refine jW rfl ?_
  show Z3.1 [some m,some r,some f,some t]=_
  simp [Z3,jA,jg,ju,lkp,b2]
 have s1:qt [m,r,f,t]=none:=by simp [qt,jy,zh,jB,jJ,qS,jA,jg,ju,lkp,g]
 have s2:zO [m,r,f,t]=some c:=by
  refine jW rfl ?_
  show zN.1 [some m,some r,some f,some t,none,none,none]=_
  simp [zN,jA,jg,ju,lkp,x]
 exact ⟨amT u1 u2 hc hr,amU b1 b2 hc hr,amV s1 s2 hc hr⟩
theorem ajM (g:zg [m,r,f]=none) (x:QF [m,r,f]=some c):qN [m,r,f,t]=none/\QG [m,r,f,t]=some c:=by
 constructor
 ·simp [qN,jy,Qg,jB,jJ,JD,jA,jg,ju,lkp,g]
 ·refine jW rfl ?_
  show Jz.1 [some m,some r,some f,some t]=_
  simp [Jz,orX,jA,jg,ju,lkp,x]
theorem an4 (g:zg [m,r,f]=some .none) (x:QF [m,r,f]=none) (g2:qH [t]=none) (x2:Qh [t]=some c):qN [m,r,f,t]=none/\QG [m,r,f,t]=some c:=by
 constructor
 ·simp [qN,jy,Qg,jB,jJ,JD,jA,jg,ju,lkp,g,g2]
 ·refine jW rfl ?_
  show Jz.1 [some m,some r,some f,some t]=_
  simp [Jz,orX,nxX,JD,jA,jg,ju,lkp,g,x,g2,x2]
end
section
variable {u e l b:Int}
theorem aac (H:zk=true) (h:okN u e l b=true) {r n:Int} (h1:1<=r) (h4:r<=4) (h0:0<=n) (hn:n<=99999):zg [jr u e l b,.int r,.int n]=some .none/\QF [jr u e l b,.int r,.int n]=none:=by
 refine ⟨ahH H h h1 h4 h0 hn,?_⟩
 have g:=Q9 (af8 H h)
 have x:=aaC (af8 H h)
 obtain ⟨g2,x2⟩:=agQ ⟨h1,h4⟩
 obtain ⟨g3,x3⟩:=ad8 ⟨h0,hn⟩
 refine jW rfl ?_
 show Jy.1 [some (jr u e l b),some (.int r),some (.int n)]=_
 simp [Jy,orX,nxX,JD,jA,jg,ju,lkp,g,x,g2,x2,g3,x3]
theorem chT {ρ:Rho}{i j:Int} (h3:lkp 3 ρ=some (.int j)) (h2:lkp 2 ρ=some (.int i)):chn (Qo fun i j=>decide (i<=j)) (Qo fun i j=>decide (i<=j)) (cst (.int 0)) (op2 aby (lkp 3) (lkp 2)) (cst (.int 999)) ρ=some (.bool (decide (0<=j - i) && decide (j - i<=999))):=by
 have s1:aby (.int j) (.int i)=some (.int (j - i)):=rfl
 simp only [chn,cst,op2,h3,h2,zzD,s1,Qo,asB]
 by_cases hh:i<=j <;> simp [hh]
theorem an5 (H:zk=true) (h:okN u e l b=true) {r i j:Int} (h1:1<=r) (h4:r<=4) (hi:0<=i/\i<=99999) (hj:0<=j/\j<=99999) (hs:(decide (0<=j - i) && decide (j - i<=999))=false):qN [jr u e l b,.int r,.int i,.int j]=none/\QG [jr u e l b,.int r,.int i,.int j]=some ("NoNumber":Str):=by
 obtain ⟨g,x⟩:=aac H h h1 h4 hi.1 hi.2
 obtain ⟨g2,x2⟩:=ad8 hj
 have ch:=chT (ρ:=[some (jr u e l b),some (.int r),some (.int i),some (.int j)]) (i:=i) (j:=j) rfl rfl
 rw [hs] at ch
 constructor
 ·simp [qN,jy,Qg,jB,jJ,JD,ifS,zy,tst,asB,acq,jA,jg,ju,lkp,g,g2,ch]
 ·refine jW rfl ?_
  show Jz.1 [some (jr u e l b),some (.int r),some (.int i),some (.int j)]=_
  simp [Jz,orX,nxX,JD,ifX,zy,tst,asB,jA,jg,ju,lkp,g,x,g2,x2,ch]
theorem agd (h:okN u e l b=true) {r:Nat}{n:Int} (h1:1<=r) (h4:r<=4) (h0:0<=n) (hn:n < b ^ r):Z1 [jr u e l b,.int (r:Int),.int n]=none:=by
 obtain ⟨a1,a2,a3,a4,a5,a6,a7,a8,a9,a10⟩:=qy h
 have hb:0 < b:=by omega
 have hd:=abf (n:=n) hb a9 h1 h4
 obtain ⟨k,rfl⟩:∃ k,r=k+1:=⟨r - 1,by omega⟩
 obtain ⟨x,xs,hx,hx1,_⟩:=QJ hb k n h0
 have hi:=agN h4 hx
 have hc:Qo (fun i j=>decide (j<=i)) (.int x) (.int b)=some (.bool false):=by
  show some (PyData.bool (decide (b<=x)))=_
  rw [decide_eq_false (by have:=hx1 hn; omega)]
 generalize hr:((k+1:Nat):Int)=rr at hd ⊢
 refine jW rfl ?_
 show Q6.1 [some (jr u e l b),some (.int rr),some (.int n),none]=_
 simp only [Q6,nxX,adG,qS,jA,jg,ju,op2,lkp,cst,jH,zzA,zzB,zzC,zzD,zzE,ix3,hd,zzF,zzG,ifX,tst,hi,hc,asB,zzL,zzN]
end
noncomputable abbrev PL:=List (Int × Int)
noncomputable abbrev z00:Int × Int:=(0,0)
noncomputable def col (p:Nat) (W:List PL):PL:=W.map fun q=>q.getD p z00
noncomputable def onP (W:List PL) (p:Nat):Int:=(List.zipWith fd (col p W) ((col p W).drop 1)).sum
noncomputable def Qj (W:List PL):List Int:=List.zipWith far W (W.drop 1)
theorem afe:∀ (p q:PL),p.length=q.length->far p q=((List.range p.length).map fun i=>fd (p.getD i z00) (q.getD i z00)).sum
 | [],[],_=>rfl
 | a::p,b::q,h=>by
  have ih:=afe p q (by simpa using h)
  rw [List.length_cons,List.range_succ_eq_map,List.map_cons,List.sum_cons,List.map_map,far,ih]
  rfl
theorem alq (n:Nat) (f g:Nat->Int):((List.range n).map fun i=>f i+g i).sum=((List.range n).map f).sum+((List.range n).map g).sum:=by
 generalize List.range n=L
 induction L with
 | nil=>rfl
 | cons a L ih=>simp only [List.map_cons,List.sum_cons,ih]; omega
theorem aff (n:Nat):((List.range n).map fun _=>(0:Int)).sum=0:=by
 generalize List.range n=L
 induction L with
 | nil=>rfl
 | cons a L ih=>simp only [List.map_cons,List.sum_cons,ih]; omega
theorem dbl (r:Nat):∀ W:List PL,(∀ q ∈ W,q.length=r)->((List.range r).map (onP W)).sum=(Qj W).sum
 | [],_=>aff r
 | [a],_=>aff r
 | a::b::W,h=>by
  have ih:=dbl r (b::W) fun q hq=>h q (List.mem_cons_of_mem _ hq)
  have e1:∀ i,onP (a::b::W) i=fd (a.getD i z00) (b.getD i z00)+onP (b::W) i:=fun i=>rfl
  have e2:Qj (a::b::W)=far a b::Qj (b::W):=rfl
  rw [e2,List.sum_cons,←ih,List.map_congr_left (fun i _=>e1 i),alq,afe a b (by rw [h a (by simp),h b (by simp)]),h a (by simp)]
theorem alr {α:Type} (S:α->PyData) (F:α->α->Int) {fe:Rho->Option PyData}{τ:Rho}:∀ (A B:List α) (x y:Option PyData),(∀ p ∈ A,∀ q ∈ B,fe (some (S p)::some (S q)::τ)=some (.int (F p q)))->
  jF (ZC 2 (jY (jH 0) (jY (jH 1) Jb))) qP fe (qq (A.map S) (B.map S)) (x::y::τ)=some ((List.zipWith F A B).map .int)
 | [],B,x,y,_=>rfl
 | a::A,[],x,y,_=>rfl
 | a::A,b::B,x,y,h=>by
  have ih:=alr S F A B (some (S a)) (some (S b)) fun p hp q hq=>h p (List.mem_cons_of_mem _ hp) q (List.mem_cons_of_mem _ hq)
  have ga:ZC 2 (jY (jH 0) (jY (jH 1) Jb)) (.tuple [S a,S b]) (x::y::τ)=some (some (S a)::some (S b)::τ):=rfl
  have h0:=h a List.mem_cons_self b List.mem_cons_self
  simp only [List.map_cons,qq,jF,ga,zzD,qP,zzM,List.zipWith_cons_cons,h0,ih,zzE]
theorem aad (xs:List Int):acs [.list (xs.map .int)]=some (.int xs.sum):=by
 show (qp (xs.map PyData.int)).map _=_
 rw [Qi]; rfl
theorem als (ds:List PyData) (k:Nat):aaX ds (some (k:Int)) none=ds.drop k:=by
 unfold aaX
 rw [HT.sIx_none,HT.sIx_nat]
 by_cases h:k<=ds.length
 ·rw [Nat.min_eq_left h,List.take_of_length_le (by rw [List.length_drop]; omega)]
 ·rw [Nat.min_eq_right (by omega),List.drop_of_length_le (by omega),List.drop_of_length_le (by omega),List.take_nil]
theorem alu {fi:Rho->Option (List PyData)}{cap:List (Option Nat)}{ga:PyData->Rho->Option Rho}{ft:Rho->Option Bool}{fe:Rho->Option PyData}{ρ:Rho}{ds:List PyData} (h1:fi ρ=some ds) (hf:few ds=true) (h2:jF ga ft fe ds (zC cap ρ)=none):jZ fi cap ga ft fe ρ=none:=by
 show (fi ρ).bind _=_
 rw [h1,zzD,if_pos hf,h2]; rfl
theorem amW {fi:Rho->Option (List PyData)}{cap:List (Option Nat)}{ga:PyData->Rho->Option Rho}{ft:Rho->Option Bool}{fe:Rho->Option PyData}{fx:Rho->Option Str}{ρ:Rho}{ds:List PyData}{c:Str} (h1:fi ρ=some ds) (hf:few ds=true) (h2:zH ga ft fe fx ds (zC cap ρ)=some c):abQ fi cap ga ft fe fx ρ=some c:=by
 show (fi ρ).bind _=_
 rw [h1,zzD,if_pos hf,h2]
theorem amX {f:Rho->Option PyData}{G:Rho->Option Out}{ρ:Rho} (h:f ρ=none):jJ (ql f) G ρ=none:=by
 unfold jJ ql
 rw [h]; rfl
theorem amY {fx gx:Rho->Option Str}{ρ:Rho}{o:Option Str} (h:fx ρ=none) (k:gx ρ=o):orX fx gx ρ=o:=by
 unfold orX; rw [h]; exact k
theorem ajN {F:Rho->Option Out}{gx:Rho->Option Str}{ρ ρ1:Rho}{o:Option Str} (h:F ρ=some (.nx ρ1)) (k:gx ρ1=o):nxX F gx ρ=o:=by
 unfold nxX; rw [h]; exact k
theorem aoJ (xs:List PyData):akR (.list xs) (some 1) none=some (.list (xs.drop 1)):=by
 show some (PyData.list (aaX xs (some ((1:Nat):Int)) none))=_
 rw [als]
theorem amZ (A B:List PyData):aaL [.list A,.list B]=some (qq A B):=rfl
theorem ajO {α:Type} (S:α->PyData) (A B:List α) (h:A.length < 2000):few (qq (A.map S) (B.map S))=true:=qR (by rw [QO,List.length_map]; omega)
noncomputable def zfi (i:Nat):Rho->Option (List PyData):=fun ρ=>(jg (lkp i) (jg (zJ (lkp i) (cst (.int 1))) ju) ρ).bind aaL
noncomputable def rfi (i j:Nat):Rho->Option (List PyData):=fun ρ=>(jg (lkp i) (jg (op2 qF (lkp j) (cst (.int 1))) ju) ρ).bind adu
theorem aej {i:Nat}{ρ:Rho}{xs:List PyData} (h:lkp i ρ=some (.list xs)):zfi i ρ=some (qq xs (xs.drop 1)):=by
 show (jg (lkp i) (jg (zJ (lkp i) (cst (.int 1))) ju) ρ).bind aaL=_
 have c1:=aoJ xs
 have s1:zJ (lkp i) (cst (.int 1)) ρ=some (.list (xs.drop 1)):=by
  unfold zJ
  rw [h,zzD]
  exact c1
 rw [jt h (jt s1 rfl),zzD,amZ]
theorem acf (C:PL) (h:C.length < 2000):qB [.list (C.map pr)]=some (.int (List.zipWith fd C (C.drop 1)).sum):=by
 have cp:=alr pr fd (fe:=jA zV (jg (lkp 0) (jg (lkp 1) ju))) (τ:=[]) C (C.drop 1) none none (fun p _ q _=>jx (jt rfl (jt rfl rfl)) (aab p q))
 have zz:=aej (i:=0) (ρ:=[some (.list (C.map pr))]) (xs:=C.map pr) rfl
 rw [←List.map_drop] at zz
 have cm:=Jq (fi:=zfi 0) (ρ:=[some (.list (C.map pr))]) (cap:=[none,none]) zz (ajO pr _ _ h) cp
 refine j4 rfl ?_
 show QC.1 [some (.list (C.map pr))]=_
 exact ace (jx (jt cm rfl) (aad _))
section
variable {u e l b:Int}{r:Nat}
noncomputable def afg (M:PyData) (b:Int) (r:Nat) (f:Int) (n:Nat):List PL:=(List.range n).map fun (k:Nat)=>pln M b r (f+k)
theorem alv {M:PyData}{f:Int}{n:Nat}:∀ q ∈ afg M b r f n,q.length=r:=fun q hq=>by
 obtain ⟨k,_,rfl⟩:=List.mem_map.mp hq
 rw [pln,List.length_map,abg]
theorem ajP {M:PyData}{f:Int}{n:Nat}:(afg M b r f n).length=n:=by simp [afg]
theorem agR {f t:Int} (h0:0<=f) (h1:f<=100000) (h2:0<=t) (h3:t<=100000):adu [.int f,.int t]=some (qi f (t - f).toNat):=by
 unfold adu
 exact if_pos (by omega)
theorem abj {f:Int}{n:Nat} (h:n < 2000):few (qi f n)=true:=qR (by simp [qi]; omega)
theorem acg {g:List PyData->Option PyData}{M R:PyData}{f:Int}{n:Nat} (hg:∀ k:Nat,k < n->g [M,R,.int (f+k)]=some (jI (pln M b r (f+k)))):jF (jH 0) qP (jA g (jg (lkp 1) (jg (lkp 2) (jg (lkp 0) ju)))) (qi f n) [none,some M,some R]=some ((afg M b r f n).map jI):=by
 rw [JG (fun d=>jI (pln M b r ((JF d).getD 0)))]
 ·rw [afg,List.map_map,qi,List.map_map]; rfl
 ·intro d hd
  obtain ⟨k,hk,rfl⟩:=List.mem_map.mp hd
  exact jx (jt rfl (jt rfl (jt rfl rfl))) (hg k (List.mem_range.mp hk))
theorem ada (H:zk=true) (h:okN u e l b=true) {i j:Int}{o:Option Out} (h1:1<=r) (h4:r<=4) (hi:0<=i/\i<=9999) (hj:i<=j/\j<=i+900) (k:jJ (ql (jZ (fun ρ=>(jg (lkp 2) (jg (op2 qF (lkp 3) (cst (.int 1))) ju) ρ).bind adu) [none,some 0,some 1] (jH 0) qP (jA zL (jg (lkp 1) (jg (lkp 2) (jg (lkp 0) ju)))))) qM [some (jr u e l b),some (.int (r:Int)),some (.int i),some (.int j)]=o):Qg.1 [some (jr u e l b),some (.int (r:Int)),some (.int i),some (.int j)]=o:=by
 obtain ⟨g,_⟩:=aac H h (r:=(r:Int)) (n:=i) (by omega) (by omega) hi.1 (by omega)
 obtain ⟨g2,_⟩:=ad8 (i:=j) ⟨by omega,by omega⟩
 have ch:=chT (ρ:=[some (jr u e l b),some (.int (r:Int)),some (.int i),some (.int j)]) (i:=i) (j:=j) rfl rfl
 have hs:(decide (0<=j - i) && decide (j - i<=999))=true:=by rw [decide_eq_true (by omega),decide_eq_true (by omega)]; rfl
 rw [hs] at ch
 generalize jr u e l b=M at*
 simp only [Qg]
 refine (jG (ρ1:=[some M,some (.int (r:Int)),some (.int i),some (.int j)]) ?_).trans ?_
 ·dsimp? [g]
 refine (jG (ρ1:=[some M,some (.int (r:Int)),some (.int i),some (.int j)]) ?_).trans ?_
 ·dsimp? [g2]
 refine (jG (ρ1:=[some M,some (.int (r:Int)),some (.int i),some (.int j)]) ?_).trans ?_
 ·simp only [jJ,ifS,ifD,ifX,akx,orB,zy,tst,jA,Ju,zp,jg,ju,lkp,ql,JD,qS,jH,qM,nxX,orX,adG,acq,asB,zzA,zzB,zzC,zzD,zzH,zzE,zzI,zzF,zzG,zzJ,zzK,zzL,zzM,zzN,ch]
 exact k
theorem alO {M:PyData}{i j:Int} (hi:0<=i/\i<=9999) (hj:i<=j/\j<=i+900) {ρ:Rho} (h2:lkp 2 ρ=some (.int i)) (h3:lkp 3 ρ=some (.int j)):rfi 2 3 ρ=some (qi i (j+1 - i).toNat):=by
 show (jg (lkp 2) (jg (op2 qF (lkp 3) (cst (.int 1))) ju) ρ).bind adu=_
 rw [jt h2 (jt (j6 h3 rfl (add_int j 1)) rfl),zzD]
 exact agR hi.1 (by omega) (by omega) (by omega)
theorem ahP (H:zk=true) (h:okN u e l b=true) {i j:Int} (h1:1<=r) (h4:r<=4) (hi:0<=i/\i<=9999) (hj:i<=j/\j<=i+900) (hb:j < b ^ r):qN [jr u e l b,.int (r:Int),.int i,.int j]=some (.list ((afg (jr u e l b) b r i (j+1 - i).toNat).map jI)):=by
 refine j4 rfl ?_
 show Qg.1 [some (jr u e l b),some (.int (r:Int)),some (.int i),some (.int j)]=_
 refine ada H h h1 h4 hi hj ?_
 refine ace (Jq (fi:=rfi 2 3) (alO (M:= .none) hi hj rfl rfl) (abj (by omega)) ?_)
 exact acg fun k hk=>Zy H h h1 h4 (by omega) (by omega)
theorem adb (f:Int) (n:Nat):qi f (n+1)= .int f::qi (f+1) n:=by
 unfold qi
 rw [List.range_succ_eq_map,List.map_cons,List.map_map]
 congr 1
 ·simp
 ·apply List.map_congr_left
  intro k _
  simp only [Function.comp]
  congr 1
  rw [Int.natCast_succ]; omega
theorem agS (H:zk=true) (h:okN u e l b=true) (h1:1<=r) (h4:r<=4):∀ (n:Nat) (f:Int) (x:Option PyData),0<=f->b ^ r<=f+n->jF (jH 0) qP (jA zL (jg (lkp 1) (jg (lkp 2) (jg (lkp 0) ju)))) (qi f (n+1)) [x,some (jr u e l b),some (.int (r:Int))]=none
 | n,f,x,h0,hn=>by
  rw [adb]
  by_cases hf:b ^ r<=f
  ·have g:=agc h h1 h4 h0 hf
   simp only [jF,jH,zzG,zzD,qP,zzM,jA,jg,ju,lkp,zzA,zzB,zzC,zzE,g,zzH]
  ·have g:=Zy H h h1 h4 h0 (show f < b ^ r by omega)
   cases n with
   | zero=>exfalso; apply hf; simpa using hn
   | succ n=>
    have ih:=agS H h h1 h4 n (f+1) (some (.int f)) (by omega) (by rw [Int.natCast_succ] at hn; omega)
    rw [jF]
    simp only [jH,zzG,zzD,qP,zzM,ih,zzI]
    rw [jx (jt rfl (jt rfl (jt rfl rfl))) g]; rfl
theorem agT (H:zk=true) (h:okN u e l b=true) (h1:1<=r) (h4:r<=4):∀ (n:Nat) (f:Int) (x:Option PyData),0<=f->b ^ r<=f+n->zH (jH 0) qP (jA zL (jg (lkp 1) (jg (lkp 2) (jg (lkp 0) ju)))) (fun ρ=>(jg (lkp 1) (jg (lkp 2) (jg (lkp 0) ju)) ρ).bind Z1) (qi f (n+1)) [x,some (jr u e l b),some (.int (r:Int))]=some ("TooGreat":Str)
 | n,f,x,h0,hn=>by
  rw [adb]
  have ca:jg (lkp 1) (jg (lkp 2) (jg (lkp 0) ju)) [some (.int f),some (jr u e l b),some (.int (r:Int))]=some [jr u e l b,.int (r:Int),.int f]:=rfl
  by_cases hf:b ^ r<=f
  ·have g:=af9 h h1 h4 h0 hf
   simp only [zH,jH,zzG,zzD,qP,zzM,ca,g]
  ·have g:=Zy H h h1 h4 h0 (show f < b ^ r by omega)
   have g2:=agd h h1 h4 h0 (show f < b ^ r by omega)
   have g3:jA zL (jg (lkp 1) (jg (lkp 2) (jg (lkp 0) ju))) [some (.int f),some (jr u e l b),some (.int (r:Int))]=some (jI (pln (jr u e l b) b r f)):=jx ca g
   cases n with
   | zero=>exfalso; apply hf; simpa using hn
   | succ n=>
    have ih:=agT H h h1 h4 n (f+1) (some (.int f)) (by omega) (by rw [Int.natCast_succ] at hn; omega)
    rw [zH]
    simp only [jH,zzG,zzD,qP,zzM,ca,g2,g3,ih]
theorem ahQ (H:zk=true) (h:okN u e l b=true) {i j:Int} (h1:1<=r) (h4:r<=4) (hi:0<=i/\i<=9999) (hj:i<=j/\j<=i+900) (hb:b ^ r<=j):qN [jr u e l b,.int (r:Int),.int i,.int j]=none/\QG [jr u e l b,.int (r:Int),.int i,.int j]=some ("TooGreat":Str):=by
 obtain ⟨n,hn⟩:∃ n:Nat,(j+1 - i).toNat=n+1:=⟨(j - i).toNat,by omega⟩
 have rg:=alO (M:= .none) hi hj (ρ:=[some (jr u e l b),some (.int (r:Int)),some (.int i),some (.int j)]) rfl rfl
 rw [hn] at rg
 have fw:few (qi i (n+1))=true:=abj (by omega)
 constructor
 ·refine agP rfl ?_
  show Qg.1 [some (jr u e l b),some (.int (r:Int)),some (.int i),some (.int j)]=_
  refine ada H h h1 h4 hi hj ?_
  have cl:=agS H h h1 h4 n i none hi.1 (by omega)
  have cd:=alu (fi:=rfi 2 3) (ρ:=[some (jr u e l b),some (.int (r:Int)),some (.int i),some (.int j)]) (cap:=[none,some 0,some 1]) rg fw cl
  exact amX cd
 ·obtain ⟨g,x⟩:=aac H h (r:=(r:Int)) (n:=i) (by omega) (by omega) hi.1 (by omega)
  obtain ⟨g2,x2⟩:=ad8 (i:=j) ⟨by omega,by omega⟩
  have ch:=chT (ρ:=[some (jr u e l b),some (.int (r:Int)),some (.int i),some (.int j)]) (i:=i) (j:=j) rfl rfl
  have hs:(decide (0<=j - i) && decide (j - i<=999))=true:=by rw [decide_eq_true (by omega),decide_eq_true (by omega)]; rfl
  rw [hs] at ch
  have cx:=amW (fi:=rfi 2 3) (ρ:=[some (jr u e l b),some (.int (r:Int)),some (.int i),some (.int j)]) (cap:=[none,some 0,some 1]) rg fw (agT H h h1 h4 n i none hi.1 (by omega))
  refine jW rfl ?_
  show Jz.1 [some (jr u e l b),some (.int (r:Int)),some (.int i),some (.int j)]=_
  generalize jr u e l b=M at*
  simp only [Jz]
  refine amY ?_ (ajN (ρ1:=[some M,some (.int (r:Int)),some (.int i),some (.int j)]) ?_ (amY ?_ (ajN (ρ1:=[some M,some (.int (r:Int)),some (.int i),some (.int j)]) ?_ (amY ?_ (ajN (ρ1:=[some M,some (.int (r:Int)),some (.int i),some (.int j)]) ?_ cx)))))
  ·dsimp? [x]
  ·dsimp? [g]
  ·dsimp? [x2]
  ·dsimp? [g2]
  ·simp only [jJ,ifS,ifD,ifX,akx,orB,zy,tst,jA,Ju,zp,jg,ju,lkp,ql,JD,qS,jH,qM,nxX,orX,adG,acq,asB,zzA,zzB,zzC,zzD,zzH,zzE,zzI,zzF,zzG,zzJ,zzK,zzL,zzM,zzN,ch]
  ·simp only [jJ,ifS,ifD,ifX,akx,orB,zy,tst,jA,Ju,zp,jg,ju,lkp,ql,JD,qS,jH,qM,nxX,orX,adG,acq,asB,zzA,zzB,zzC,zzD,zzH,zzE,zzI,zzF,zzG,zzJ,zzK,zzL,zzM,zzN,ch]
end
theorem ajQ {α:Type} (S:α->PyData) (G:α->PyData) {fe:Rho->Option PyData}{τ:Rho}:∀ (W:List α) (x:Option PyData),(∀ q ∈ W,fe (some (S q)::τ)=some (G q))->jF (jH 0) qP fe (W.map S) (x::τ)=some (W.map G)
 | [],x,_=>rfl
 | a::W,x,h=>by
  have ih:=ajQ S G W (some (S a)) fun q hq=>h q (List.mem_cons_of_mem _ hq)
  simp only [List.map_cons,jF,jH,zzG,zzD,qP,zzM,h a List.mem_cons_self,ih,zzE]
theorem an6 (n:Nat):qi 0 n=(List.range n).map fun (k:Nat)=>PyData.int (k:Int):=by
 unfold qi
 apply List.map_congr_left
 intro k _
 simp
section
variable {M f t:PyData}{r:Nat}{W:List PL}
theorem ajR {p:Nat} (h4:r<=4) (hp:p < r) (hW:∀ q ∈ W,q.length=r):jF (jH 0) qP (op2 dIx (lkp 0) (lkp 1)) (W.map jI) [none,some (.int (p:Int))]=some ((col p W).map pr):=by
 have:=ajQ jI (fun q=>pr (q.getD p z00)) (fe:=op2 dIx (lkp 0) (lkp 1)) (τ:=[some (.int (p:Int))]) W none (fun q hq=>by
  have hl:=hW q hq
  refine j6 rfl rfl (alm (by omega) ?_)
  rw [List.getD_eq_getElem?_getD,List.getElem?_eq_getElem (by omega)]; rfl)
 rw [this,col,List.map_map]; rfl
theorem an7 {p:Nat} (h4:r<=4) (hp:p < r) (hl:W.length < 2000) (hW:∀ q ∈ W,q.length=r):jA qB (jg (jZ (itS (lkp 1)) [none,some 0] (jH 0) qP (op2 dIx (lkp 0) (lkp 1))) ju) [some (.int (p:Int)),some (.list (W.map jI))]=some (.int (onP W p)):=by
 have fW:few (W.map jI)=true:=qR (by rw [List.length_map]; omega)
 have cc:=ajR h4 hp hW
 have gm:=acf (col p W) (by rw [col,List.length_map]; exact hl)
 have ge:(List.zipWith fd (col p W) ((col p W).drop 1)).sum=onP W p:=rfl
 rw [ge] at gm
 generalize onP W p=Y at*
 generalize (col p W).map pr=CC at*
 generalize W.map jI=WW at*
 generalize PyData.int (p:Int)=P at*
 have cm:=Jq (fi:=itS (lkp 1)) (ρ:=[some P,some (.list WW)]) (cap:=[none,some 0]) (ds:=WW) rfl fW cc
 exact jx (jt cm rfl) gm
theorem alw {R WW:PyData}{RR YY:List PyData} (gw:qN [M,R,f,t]=some WW) (rg:Zh [R]=some RR) (fr:few RR=true) (cp:jF (jH 0) qP (jA qB (jg (jZ (itS (lkp 1)) [none,some 0] (jH 0) qP (op2 dIx (lkp 0) (lkp 1))) ju)) RR [none,some WW]=some YY):zM [M,R,f,t]=some (.list YY):=by
 refine j4 rfl ?_
 show ZZ.1 [some M,some R,some f,some t,none]=_
 simp only [ZZ]
 refine (jG (ρ1:=[some M,some R,some f,some t,some WW]) ?_).trans ?_
 ·dsimp? [gw]
 generalize hfe:jA qB (jg (jZ (itS (lkp 1)) [none,some 0] (jH 0) qP (op2 dIx (lkp 0) (lkp 1))) ju)=fe at*
 simp only [jJ,ql,jZ,jg,ju,lkp,zzA,zzB,zzC,zzD,zzE,rg,fr,zzM,zC,List.map_cons,List.map_nil,zzH,cp]
theorem ach (h4:r<=4) (hl:W.length < 2000) (hW:∀ q ∈ W,q.length=r) (gw:qN [M,.int (r:Int),f,t]=some (.list (W.map jI))):zM [M,.int (r:Int),f,t]=some (.list (((List.range r).map (onP W)).map .int)):=by
 have rg:Zh [.int (r:Int)]=some (qi 0 r):=by
  have:=Q8 (j:=(r:Int)) (by omega) (by omega)
  rw [Int.toNat_natCast] at this; exact this
 have fr:few (qi 0 r)=true:=abj (by omega)
 have cp:=ajQ (fun (k:Nat)=>PyData.int (k:Int)) (fun k=> .int (onP W k)) (fe:=jA qB (jg (jZ (itS (lkp 1)) [none,some 0] (jH 0) qP (op2 dIx (lkp 0) (lkp 1))) ju)) (τ:=[some (.list (W.map jI))]) (List.range r) none (fun p hp=>an7 h4 (List.mem_range.mp hp) hl hW)
 rw [←an6] at cp
 rw [List.map_map]
 exact alw gw rg fr cp
theorem afh (h4:r<=4) (hl:W.length < 2000) (hW:∀ q ∈ W,q.length=r) (gw:qN [M,.int (r:Int),f,t]=some (.list (W.map jI))):Jg [M,.int (r:Int),f,t]=some (.int (Qj W).sum):=by
 have gb:=ach h4 hl hW gw
 rw [←dbl r W hW]
 refine j4 rfl ?_
 show Z0.1 [some M,some (.int (r:Int)),some f,some t]=_
 exact ace (jx (jt (jx (jt rfl (jt rfl (jt rfl (jt rfl rfl)))) gb) rfl) (aad _))
theorem adc:∀ xs:List Int,adE (xs.map .int)=some xs
 | []=>rfl
 | x::xs=>by rw [List.map_cons,adE,adc xs]; rfl
theorem aci (c:Int->Int->Bool):∀ (ns:List Int) (n:Int),ns.foldl (fun a b=>if c b a=true then b else a) n ∈ n::ns
 | [],n=>List.mem_cons_self
 | y::ns,n=>by
  rw [List.foldl_cons]
  by_cases h:c y n=true
  ·rw [if_pos h]; exact List.mem_cons_of_mem _ (aci c ns y)
  ·rw [if_neg h]
   rcases List.mem_cons.mp (aci c ns n) with q | q
   ·rw [q]; exact List.mem_cons_self
   ·exact List.mem_cons_of_mem _ (List.mem_cons_of_mem _ q)
theorem alx {FS:List Int} (h:FS ≠ []):∃ mx j:Int,Ql (fun i j=>decide (i > j)) [.list (FS.map .int)]=some (.int mx)/\Qx (.list (FS.map .int)) (.int mx)=some (.int j):=by
 cases FS with
 | nil=>exact absurd rfl h
 | cons n ns=>
  have hm:=aci (fun i j=>decide (i > j)) ns n
  have hb:Ql (fun i j=>decide (i > j)) [.list ((n::ns).map .int)]=some (.int (ns.foldl (fun a b=>if decide (b > a)=true then b else a) n)):=by
   show (qp ((n::ns).map PyData.int)).bind _=_
   rw [Qi]; rfl
  generalize ns.foldl (fun a b=>if decide (b > a)=true then b else a) n=mx at*
  have hs:((n::ns).findIdx? (· == mx)).isSome=true:=by
   rw [List.findIdx?_isSome,List.any_eq_true]
   exact ⟨mx,hm,by simp⟩
  obtain ⟨j,hj⟩:=Option.isSome_iff_exists.mp hs
  refine ⟨mx,(j:Int),hb,?_⟩
  show (adE ((n::ns).map PyData.int)).bind _=_
  rw [adc,zzD,hj]; rfl
theorem ajS (h4:r<=4) (hW:∀ q ∈ W,q.length=r) {g:List PyData->Option PyData} (hg:∀ ps qs:PL,ps.length<=4->g [jI ps,jI qs]=some (.int (far ps qs))):jF (ZC 2 (jY (jH 0) (jY (jH 1) Jb))) qP (jA g (jg (lkp 0) (jg (lkp 1) ju))) (qq (W.map jI) ((W.map jI).drop 1)) [none,none]=some ((Qj W).map .int):=by
 rw [←List.map_drop]
 exact alr jI far W (W.drop 1) none none fun p hp q _=>jx (jt rfl (jt rfl rfl)) (hg p q (by rw [hW p hp]; exact h4))
theorem ajT (hl:W.length < 2000):few (qq (W.map jI) ((W.map jI).drop 1))=true:=by
 rw [←List.map_drop]; exact ajO jI _ _ hl
noncomputable def aek (FS:List Int) (f:Int) (d:PyData):Prop:=(FS=[]/\d= .none) ∨ ∃ mx j:Int,FS ≠ []/\Ql (fun i j=>decide (i > j)) [.list (FS.map .int)]=some (.int mx)/\Qx (.list (FS.map .int)) (.int mx)=some (.int j)/\d= .tuple [.int (f+j),.int mx]
theorem ahR (FS:List Int) (f:Int):∃ d,aek FS f d:=by
 by_cases h:FS=[]
 ·exact ⟨_,.inl ⟨h,rfl⟩⟩
 ·obtain ⟨mx,j,h1,h2⟩:=alx h
  exact ⟨_,.inr ⟨mx,j,h,h1,h2,rfl⟩⟩
theorem ajU {i:Int}{d:PyData} (h4:r<=4) (hl:W.length < 2000) (hW:∀ q ∈ W,q.length=r) (gw:qN [M,.int (r:Int),.int i,t]=some (.list (W.map jI))) (hd:aek (Qj W) i d):qt [M,.int (r:Int),.int i,t]=some d:=by
 have cm:=Jq (fi:=zfi 4) (ρ:=[some M,some (.int (r:Int)),some (.int i),some t,some (.list (W.map jI)),none,none]) (cap:=[none,none]) (aej (i:=4) rfl) (ajT hl) (ajS h4 hW ahN)
 refine j4 rfl ?_
 show zh.1 [some M,some (.int (r:Int)),some (.int i),some t,none,none,none]=_
 simp only [zh]
 refine (jG (ρ1:=[some M,some (.int (r:Int)),some (.int i),some t,some (.list (W.map jI)),none,none]) (qT (i:=4) (jx (jt rfl (jt rfl (jt rfl (jt rfl rfl)))) gw))).trans ?_
 refine (jG (ρ1:=[some M,some (.int (r:Int)),some (.int i),some t,some (.list (W.map jI)),some (.list ((Qj W).map .int)),none]) (qT (i:=5) cm)).trans ?_
 rcases hd with ⟨h0,rfl⟩ | ⟨mx,j,h0,h1,h2,rfl⟩
 ·rw [h0]
  rfl
 ·have tl:ai6 (lkp 5) [some M,some (.int (r:Int)),some (.int i),some t,some (.list (W.map jI)),some (.list ((Qj W).map .int)),none]=some true:=by
   show some (!((Qj W).map PyData.int).isEmpty)=_
   cases hc:Qj W with
   | nil=>exact absurd hc h0
   | cons x xs=>rfl
  generalize PyData.list ((Qj W).map .int)=FS at*
  generalize PyData.list (W.map jI)=WW at*
  refine (jG (ρ1:=[some M,some (.int (r:Int)),some (.int i),some t,some WW,some FS,none]) ?_).trans ?_
  ·dsimp? [tl]
  refine (jG (ρ1:=[some M,some (.int (r:Int)),some (.int i),some t,some WW,some FS,some (.int mx)]) (qT (i:=6) (jx (jt rfl rfl) h1))).trans ?_
  dsimp? [h2,add_int,fw2]
theorem aoK (ds:List PyData) (k:Nat):aaX ds (some (k:Int)) (some ((k:Int)+1))=(ds.drop k).take 1:=by
 have e:((k:Int)+1)=((k+1:Nat):Int):=by omega
 unfold aaX
 rw [e,HT.sIx_nat,HT.sIx_nat]
 by_cases h:k < ds.length
 ·rw [Nat.min_eq_left (by omega),Nat.min_eq_left (by omega),show k+1 - k=1 by omega]
 ·rw [Nat.min_eq_right (by omega),Nat.min_eq_right (by omega),List.drop_of_length_le (Nat.le_refl _),List.drop_of_length_le (by omega)]; simp
theorem ajV {q:PL}{k:Nat} (h:k < q.length):ajc (jI q) (some (k:Int)) (some ((k:Int)+1))=some (jI [q.getD k z00]):=by
 show some (PyData.tuple (aaX (q.map pr) (some (k:Int)) (some ((k:Int)+1))))=_
 rw [aoK,←List.map_drop,←List.map_take,List.drop_eq_getElem_cons h,List.take_succ_cons,List.take_zero,List.getD_eq_getElem?_getD,List.getElem?_eq_getElem h]
 rfl
theorem aly {k:Nat} (h4:r<=4) (hk:k < r) (hW:∀ q ∈ W,q.length=r):jF (ZC 2 (jY (jH 0) (jY (jH 1) Jb))) qP (jA ae0 (jg (ze (lkp 0) (lkp 2) (op2 qF (lkp 2) (cst (.int 1)))) (jg (ze (lkp 1) (lkp 2) (op2 qF (lkp 2) (cst (.int 1)))) ju))) (qq (W.map jI) ((W.map jI).drop 1)) [none,none,some (.int (k:Int))]=some ((List.zipWith fd (col k W) ((col k W).drop 1)).map .int):=by
 rw [←List.map_drop,alr jI (fun p q=>fd (p.getD k z00) (q.getD k z00)) W (W.drop 1) none none]
 ·rw [col,←List.map_drop,List.zipWith_map]
 ·intro p hp q hq
  have hp':=hW p hp
  have hq':=hW q (List.mem_of_mem_drop hq)
  have s1:ze (lkp 0) (lkp 2) (op2 qF (lkp 2) (cst (.int 1))) [some (jI p),some (jI q),some (.int (k:Int))]=some (jI [p.getD k z00]):=ajV (by omega)
  have s2:ze (lkp 1) (lkp 2) (op2 qF (lkp 2) (cst (.int 1))) [some (jI p),some (jI q),some (.int (k:Int))]=some (jI [q.getD k z00]):=ajV (by omega)
  have g:=afd [p.getD k z00] [q.getD k z00] (by simp)
  have ef:far [p.getD k z00] [q.getD k z00]=fd (p.getD k z00) (q.getD k z00):=by simp [far]
  rw [ef] at g
  exact jx (jt s1 (jt s2 rfl)) g
end
theorem aoL {tt:Rho->Option Bool}{A B:Rho->Option Out}{ρ:Rho} (h:tt ρ=some false):ifS tt A B ρ=B ρ:=by
 show (tt ρ).bind _=_
 rw [h]; rfl
noncomputable def fi3:Rho->Option (List PyData):=fun ρ=>(jg (cst (.int 3)) ju ρ).bind Zh
theorem aae {fe:Rho->Option PyData}{cap:List (Option Nat)}{ρ τ:Rho}{d0 d1 d2:PyData} (hc:zC cap ρ=none::τ) (h0:fe (some (.int 0)::τ)=some d0) (h1:fe (some (.int 1)::τ)=some d1) (h2:fe (some (.int 2)::τ)=some d2):jZ fi3 cap (jH 0) qP fe ρ=some (.list [d0,d1,d2]):=by
 refine Jq (ds:=[.int 0,.int 1,.int 2]) rfl fw3 ?_
 rw [hc]
 simp only [jF,jH,zzG,zzD,qP,zzM,h0,h1,h2,zzE]
noncomputable def thr (i:Int):PyData:= .list [rfd i,rfd i,rfd i]
theorem sOk:PyData.strOk "refused"=true:=by decide +kernel
theorem ael (i:Int):okD (thr i)=true:=by simp [thr,rfd,okD,PyData.canLay0,PyData.canLayAll0,PyData.depth,PyData.depthAll]; exact sOk
theorem agU (i:Int):PyData.eqv (thr i) (thr i)=true:=by simp [thr,rfd,PyData.eqv,PyData.eqvAll]
theorem aaE (i:Int):dNe (thr i) (thr i)=some (.bool false):=by
 unfold dNe; rw [if_pos ⟨ael i,ael i⟩,agU]; rfl
theorem ajW (i:Int):dEq (thr i) (thr i)=some (.bool true):=by
 show (if okD _=true/\okD _=true then some (PyData.bool _) else none)=_
 rw [if_pos ⟨ael i,ael i⟩,agU]
theorem Jr (i:Int):ai0 (.list [.tuple [.str "refused",.int i]]) (.int 3)=some (thr i):=rfl
theorem ajX (i:Int):okD (rfd i)=true:=by simp [rfd,okD,PyData.canLay0,PyData.canLayAll0,PyData.depth,PyData.depthAll]; exact sOk
theorem ajY (i:Int):dNe (rfd i) (rfd i)=some (.bool false):=by
 have e:PyData.eqv (rfd i) (rfd i)=true:=by simp [rfd,PyData.eqv,PyData.eqvAll]
 unfold dNe; rw [if_pos ⟨ajX i,ajX i⟩,e]; rfl
noncomputable def T3 (m r f t:PyData) (i:Int):Prop:=qD [.int 0,m,r,f,t]=some (rfd i)/\qD [.int 1,m,r,f,t]=some (rfd i)/\qD [.int 2,m,r,f,t]=some (rfd i)
section
variable {u e l b:Int}
theorem ahS (H:zk=true) (h:okN u e l b=true) {x t:PyData} (hn:noD x=true) (hw:whB 0 99999 x=false):T3 (jr u e l b) (.int 1) x t 1:=by
 obtain ⟨g2,x2⟩:=agQ (i:=1) ⟨by omega,by omega⟩
 obtain ⟨g3,x3⟩:=ajJ hn hw
 obtain ⟨a1,a2⟩:=alp (Q9 (af8 H h)) (aaC (af8 H h)) g2 x2 g3 x3
 obtain ⟨w1,w2⟩:=ajM (t:=t) a1 a2
 exact ahO w1 w2 zR zQ
theorem ajZ (H:zk=true) (h:okN u e l b=true) {x:PyData} (hn:noD x=true) (hw:whB 0 99999 x=false):T3 (jr u e l b) (.int 1) (.int 0) x 1:=by
 obtain ⟨g,xx⟩:=aac H h (r:=1) (n:=0) (by omega) (by omega) (by omega) (by omega)
 obtain ⟨g3,x3⟩:=ajJ hn hw
 obtain ⟨w1,w2⟩:=an4 g xx g3 x3
 exact ahO w1 w2 zR zQ
theorem aj0 (H:zk=true) (h:okN u e l b=true) {x f t:PyData} (hn:noD x=true) (hw:whB 1 4 x=false):T3 (jr u e l b) x f t 1:=by
 obtain ⟨g2,x2⟩:=alj hn hw
 obtain ⟨a1,a2⟩:=alo (n:=f) (Q9 (af8 H h)) (aaC (af8 H h)) g2 x2
 obtain ⟨w1,w2⟩:=ajM (t:=t) a1 a2
 exact ahO w1 w2 zR zQ
theorem afi (H:zk=true) (h:okN u e l b=true) {i j:Int} (hi:0<=i/\i<=99999) (hj:0<=j/\j<=99999) (hs:(decide (0<=j - i) && decide (j - i<=999))=false):T3 (jr u e l b) (.int 4) (.int i) (.int j) 1:=by
 obtain ⟨w1,w2⟩:=an5 H h (r:=4) (by omega) (by omega) hi hj hs
 exact ahO w1 w2 zR zQ
theorem alz (r f t:PyData):T3 .none r f t 0:=by
 have hm:qm [.none]=some (.bool false):=rfl
 obtain ⟨a1,a2⟩:=aln (r:=r) (n:=f) (ahI hm) (ahJ hm)
 obtain ⟨w1,w2⟩:=ajM (t:=t) a1 a2
 exact ahO w1 w2 aed aec
end
theorem alP {S M x:PyData}{R F T x5 x6 x7 x8 x9:Option PyData} (a:T3 M (.int 1) x .none 1) (c:T3 M (.int 1) (.int 0) x 1):ae4.1 [some S,some M,R,F,T,x5,x6,x7,x8,x9,some x]=some (.nx [some S,some M,R,F,T,x5,x6,x7,x8,x9,some x]):=by
 obtain ⟨a0,a1,a2⟩:=a
 obtain ⟨c0,c1,c2⟩:=c
 simp only [ae4]
 refine (jG (ρ1:=[some S,some M,R,F,T,x5,x6,x7,x8,x9,some x]) ?_).trans ((jG (ρ1:=[some S,some M,R,F,T,x5,x6,x7,x8,x9,some x]) ?_).trans rfl)
 ·exact aeg (zw (j6 (aae (τ:=[some M,some x]) rfl (jx rfl a0) (jx rfl a1) (jx rfl a2)) (Jr 1) (aaE 1)))
 ·exact aeg (zw (j6 (aae (τ:=[some M,some x]) rfl (jx rfl c0) (jx rfl c1) (jx rfl c2)) (Jr 1) (aaE 1)))
theorem alQ {S M x:PyData}{R F T x5 x6 x7 x8 x9:Option PyData} (a:T3 M x .none .none 1):ae5.1 [some S,some M,R,F,T,x5,x6,x7,x8,x9,some x]=some (.nx [some S,some M,R,F,T,x5,x6,x7,x8,x9,some x]):=by
 obtain ⟨a0,a1,a2⟩:=a
 simp only [ae5]
 refine (jG (ρ1:=[some S,some M,R,F,T,x5,x6,x7,x8,x9,some x]) ?_).trans rfl
 exact aeg (zw (j6 (aae (τ:=[some M,some x]) rfl (jx rfl a0) (jx rfl a1) (jx rfl a2)) (Jr 1) (aaE 1)))
theorem am0 {i:Nat}{g:Rho->Option PyData}{ρ:Rho}{d:PyData} (h:g ρ=some d):aiQ i g ρ=some (.nx (ρ.set i (some d))):=by
 show (g ρ).map _=_
 rw [h]; rfl
theorem am1 {i:Nat}{f:Rho->Option PyData}{ρ:Rho}{c x d:PyData} (h1:lkp i ρ=some c) (h2:f ρ=some x) (h3:ahh (some c) (some x)=some d):anL i f ρ=some d:=by
 show ahh (lkp i ρ) (f ρ)=_
 rw [h1,h2,h3]
theorem alA {S M F T:Option PyData}{r:Nat}{W:List PL}{L:List Int}{x6 x9 x10:Option PyData}{k:Nat} (h4:r<=4) (hk:k < r) (hl:W.length < 2000) (hW:∀ q ∈ W,q.length=r) (hL:L.length < 1000):
  ae3.1 [S,M,some (.int (r:Int)),F,T,some (.list (W.map jI)),x6,some (.list (L.map .int)),some (.int (k:Int)),x9,x10]=some (.nx [S,M,some (.int (r:Int)),F,T,some (.list (W.map jI)),x6,some (.list ((L++[onP W k]).map .int)),some (.int (k:Int)),x9,x10]):=by
 have cm0:=Jq (fi:=zfi 5) (ρ:=[S,M,some (.int (r:Int)),F,T,some (.list (W.map jI)),x6,some (.list (L.map .int)),some (.int (k:Int)),x9,x10]) (cap:=[none,none,some 8]) (aej (i:=5) rfl) (ajT hl) (aly h4 hk hW)
 have cm:=jx (jt (fs:=ju) cm0 rfl) (aad _)
 have ap:ahh (some (.list (L.map .int))) (some (.int (onP W k)))=some (.list ((L++[onP W k]).map .int)):=by
  show (if noL (.int (onP W k))=true/\(L.map PyData.int).length < 1000000 then some (PyData.list (L.map PyData.int++[.int (onP W k)])) else none)=_
  rw [if_pos ⟨rfl,by rw [List.length_map]; omega⟩,List.map_append]; rfl
 simp only [ae3]
 refine (jG (ρ1:=[S,M,some (.int (r:Int)),F,T,some (.list (W.map jI)),x6,some (.list ((L++[onP W k]).map .int)),some (.int (k:Int)),x9,x10]) ?_).trans rfl
 exact am0 (i:=7) (am1 (i:=7) rfl cm ap)
theorem am2 {a:Int}{xs:List Int}{d:PyData}{f:Int}{FS:List Int} (hd:aek FS f d):dNe (.list [.int a,.list (xs.map .int),d]) (.list [.int a,.list (xs.map .int),d])=some (.bool false):=by
 have sd:shl 2 d/\PyData.eqv d d=true:=by
  rcases hd with ⟨_,rfl⟩ | ⟨mx,j,_,_,_,rfl⟩
  ·exact ⟨⟨rfl,by simp [PyData.depth]⟩,rfl⟩
  ·exact ⟨alk.mpr fun x hx=>by
    rcases List.mem_cons.mp hx with rfl | hx
    ·exact aea _
    ·rw [List.mem_singleton.mp hx]; exact aea _,by simp [PyData.eqv,PyData.eqvAll]⟩
 have ok:okD (.list [.int a,.list (xs.map .int),d])=true:=ajK (n:=3) (ad9.mpr fun x hx=>by
  rcases List.mem_cons.mp hx with rfl | hx
  ·exact ⟨rfl,by simp [PyData.depth]⟩
  ·rcases List.mem_cons.mp hx with rfl | hx
   ·exact ad9.mpr fun y hy=>by
     obtain ⟨i,_,rfl⟩:=List.mem_map.mp hy
     exact aea _
   ·rw [List.mem_singleton.mp hx]; exact sd.1) (by omega)
 have ee:PyData.eqv (.list [.int a,.list (xs.map .int),d]) (.list [.int a,.list (xs.map .int),d])=true:=by
  simp [PyData.eqv,PyData.eqvAll,afc,sd.2]
 unfold dNe
 rw [if_pos ⟨ok,ok⟩,ee]; rfl
theorem aj1 {FS:List Int}{i:Int}{d:PyData} (hd:aek FS i d) {ρ:Rho} (h3:lkp 3 ρ=some (.int i)) (h6:lkp 6 ρ=some (.list (FS.map .int))):ifD (tst (op2 dNe (lkp 6) (zp ju))) (Ju (jg (op2 qF (lkp 3) (op2 Qx (lkp 6) (jA (Ql fun i j=>decide (i > j)) (jg (lkp 6) ju)))) (jg (jA (Ql fun i j=>decide (i > j)) (jg (lkp 6) ju)) ju))) (cst .none) ρ=some d:=by
 have en:=(amR (ms:=FS.map .int) fun x hx=>by
  obtain ⟨k,_,rfl⟩:=List.mem_map.mp hx
  exact ⟨rfl,by simp [PyData.depth]⟩).2
 rcases hd with ⟨rfl,rfl⟩ | ⟨mx,j,h0,h1,h2,rfl⟩
 ·have t:tst (op2 dNe (lkp 6) (zp ju)) ρ=some false:=zw (j6 h6 rfl en)
  unfold ifD; rw [t]; rfl
 ·have t:tst (op2 dNe (lkp 6) (zp ju)) ρ=some true:=by
   refine zw (j6 h6 rfl (en.trans ?_))
   rw [decide_eq_false (fun z=>h0 (List.map_eq_nil_iff.mp z))]; rfl
  have bm:=jx (jt (fs:=ju) h6 rfl) h1
  have tp:Ju (jg (op2 qF (lkp 3) (op2 Qx (lkp 6) (jA (Ql fun i j=>decide (i > j)) (jg (lkp 6) ju)))) (jg (jA (Ql fun i j=>decide (i > j)) (jg (lkp 6) ju)) ju)) ρ=some (.tuple [.int (i+j),.int mx]):=by
   unfold Ju
   rw [jt (j6 h3 (j6 h6 bm h2) (add_int i j)) (jt bm rfl),zzD,if_pos fw2]
  unfold ifD; rw [t]; exact tp
theorem an8 {S M R I J WD FD OD PJ bd:PyData}{RR:List PyData}{SM d k m q:Int}{y8:Option PyData} (mn:QZ [S,.int 0]=some M) (d10:Qf [S,.int 10,.int 4]=some (.int d)) (ar:qF (.int 1) (.int d)=some R) (d12:Qf [S,.int 12,.int 3]=some (.int k)) (ixm:dIx (.list [.int 9,.int 60,.int 600]) (.int k)=some (.int m)) (d11:Qf [S,.int 11,.int m]=some I) (d13:Qf [S,.int 13,.int 40]=some (.int q)) (aj:qF I (.int q)=some J) (lp':zP [M,R,J]=some PJ) (hPJ:akN PJ .none=some (.bool false))
  (c5:jZ (rfi 3 4) [none,some 1,some 2] (jH 0) qP (jA zP (jg (lkp 1) (jg (lkp 2) (jg (lkp 0) ju)))) [some S,some M,some R,some I,some J,none,none,none,none,none,none]=some WD)
  (c6:jZ (zfi 5) [none,none] (ZC 2 (jY (jH 0) (jY (jH 1) Jb))) qP (jA ae0 (jg (lkp 0) (jg (lkp 1) ju))) [some S,some M,some R,some I,some J,some WD,none,none,none,none,none]=some FD)
  (rgr:Zh [R]=some RR) (lp1:j7 (jH 8) ae3.1 RR [some S,some M,some R,some I,some J,some WD,some FD,some (.list []),none,none,none]=some (.nx [some S,some M,some R,some I,some J,some WD,some FD,some OD,y8,none,none]))
  (bs:ifD (tst (op2 dNe (lkp 6) (zp ju))) (Ju (jg (op2 qF (lkp 3) (op2 Qx (lkp 6) (jA (Ql fun i j=>decide (i > j)) (jg (lkp 6) ju)))) (jg (jA (Ql fun i j=>decide (i > j)) (jg (lkp 6) ju)) ju))) (cst .none) [some S,some M,some R,some I,some J,some WD,some FD,some OD,y8,none,none]=some bd)
  (sm:acs [FD]=some (.int SM)) (nr:dNe (.list [.int SM,OD,bd]) (.list [.int SM,OD,bd])=some (.bool false)) (t0:qD [.int 0,M,R,I,J]=some (.int SM)) (t1:qD [.int 1,M,R,I,J]=some OD) (t2:qD [.int 2,M,R,I,J]=some bd)
  (B1:∀ {x:PyData},noD x=true->whB 0 99999 x=false->T3 M (.int 1) x .none 1) (B2:∀ {x:PyData},noD x=true->whB 0 99999 x=false->T3 M (.int 1) (.int 0) x 1) (B3:∀ {x:PyData},noD x=true->whB 1 4 x=false->T3 M x .none .none 1)
  (B4:T3 M (.int 4) (.int 5) (.int 4) 1) (B5:T3 M (.int 4) (.int 0) (.int 1000) 1) (B6:T3 .none .none .none .none 0):ajz [S]=some (.bool true):=by
 have lst3:zp (jg (jA acs (jg (lkp 6) ju)) (jg (lkp 7) (jg (lkp 9) ju))) [some S,some M,some R,some I,some J,some WD,some FD,some OD,y8,some bd,none]=some (.list [.int SM,OD,bd]):=by
  unfold zp
  rw [jt (jx (jt (d:=FD) (ds:=[]) rfl rfl) sm) (jt (d:=OD) rfl (jt (d:=bd) (ds:=[]) rfl rfl)),zzD,if_pos fw3]
 have frg:(fun ρ=>(jg (lkp 2) ju ρ).bind Zh) [some S,some M,some R,some I,some J,some WD,some FD,some (.list []),none,none,none]=some RR:=by
  have c0:jg (lkp 2) ju [some S,some M,some R,some I,some J,some WD,some FD,some (.list []),none,none,none]=some [R]:=rfl
  simp only [c0,zzD,rgr]
 refine j4 rfl ?_
 show ahF.1 [some S,none,none,none,none,none,none,none,none,none,none]=_
 simp only [ahF]
 refine (jG (ρ1:=[some S,some M,none,none,none,none,none,none,none,none,none]) (qT (i:=1) (jx rfl mn))).trans ?_
 refine (jG (ρ1:=[some S,some M,some R,none,none,none,none,none,none,none,none]) (qT (i:=2) (j6 rfl (jx rfl d10) ar))).trans ?_
 refine (jG (ρ1:=[some S,some M,some R,some I,none,none,none,none,none,none,none]) (qT (i:=3) (jx (jt rfl (jt rfl (jt (j6 (x:= .list [.int 9,.int 60,.int 600]) rfl (jx rfl d12) ixm) rfl))) d11))).trans ?_
 refine (jG (ρ1:=[some S,some M,some R,some I,some J,none,none,none,none,none,none]) (qT (i:=4) (j6 rfl (jx rfl d13) aj))).trans ?_
 refine (jG (ρ1:=[some S,some M,some R,some I,some J,some WD,some FD,some OD,y8,some bd,none]) ?_).trans ?_
 ·refine (aoL (zw (j6 (jx rfl lp') rfl hPJ))).trans ?_
  refine (jG (ρ1:=[some S,some M,some R,some I,some J,some WD,none,none,none,none,none]) (qT (i:=5) c5)).trans ?_
  refine (jG (ρ1:=[some S,some M,some R,some I,some J,some WD,some FD,none,none,none,none]) (qT (i:=6) c6)).trans ?_
  refine amS (i:=7) (d:= .list []) rfl (by simp) (ρ1:=[some S,some M,some R,some I,some J,some WD,some FD,some OD,y8,none,none]) (acd frg lp1) ?_
  refine (jG (ρ1:=[some S,some M,some R,some I,some J,some WD,some FD,some OD,y8,some bd,none]) (qT (i:=9) bs)).trans ?_
  refine (jG (ρ1:=[some S,some M,some R,some I,some J,some WD,some FD,some OD,y8,some bd,none]) ?_).trans rfl
  exact aeg (zw (j6 (aae (τ:=[some M,some R,some I,some J]) rfl (jx rfl t0) (jx rfl t1) (jx rfl t2)) lst3 nr))
 obtain ⟨z1,lp1⟩:=QK (ga:=jH 10) (F:=ae4.1) (fun x=>[some S,some M,some R,some I,some J,some WD,some FD,some OD,y8,some bd,x]) (fun _ _=>rfl) [.int (-1),.int 100000,.none,.bool true,.str "1"] none (fun d hd=>by
  have hb:noD d=true/\whB 0 99999 d=false:=by
   simp only [List.mem_cons,List.not_mem_nil,or_false] at hd
   rcases hd with rfl | rfl | rfl | rfl | rfl <;> exact ⟨rfl,rfl⟩
  exact alP (B1 hb.1 hb.2) (B2 hb.1 hb.2))
 obtain ⟨z2,lp2⟩:=QK (ga:=jH 10) (F:=ae5.1) (fun x=>[some S,some M,some R,some I,some J,some WD,some FD,some OD,y8,some bd,x]) (fun _ _=>rfl) [.int 0,.int 5,.none,.bool true] z1 (fun d hd=>by
  have hb:noD d=true/\whB 1 4 d=false:=by
   simp only [List.mem_cons,List.not_mem_nil,or_false] at hd
   rcases hd with rfl | rfl | rfl | rfl <;> exact ⟨rfl,rfl⟩
  exact alQ (B3 hb.1 hb.2))
 refine (jG (ρ1:=[some S,some M,some R,some I,some J,some WD,some FD,some OD,y8,some bd,z1]) (acd (ds:=[.int (-1),.int 100000,.none,.bool true,.str "1"]) rfl lp1)).trans ?_
 refine (jG (ρ1:=[some S,some M,some R,some I,some J,some WD,some FD,some OD,y8,some bd,z2]) (acd (ds:=[.int 0,.int 5,.none,.bool true]) rfl lp2)).trans ?_
 refine (jG (ρ1:=[some S,some M,some R,some I,some J,some WD,some FD,some OD,y8,some bd,z2]) ?_).trans ?_
 ·exact aeg (zw (j6 (aae (τ:=[some M]) rfl (jx rfl B4.1) (jx rfl B4.2.1) (jx rfl B4.2.2)) (Jr 1) (aaE 1)))
 refine (jG (ρ1:=[some S,some M,some R,some I,some J,some WD,some FD,some OD,y8,some bd,z2]) ?_).trans ?_
 ·exact aeg (zw (j6 (jx rfl B5.1) (y:=rfd 1) rfl (ajY 1)))
 exact ace (j6 (aae (τ:=[]) rfl (jx rfl B6.1) (jx rfl B6.2.1) (jx rfl B6.2.2)) (Jr 0) (ajW 0))
theorem ahT (H:zk=true) (ns:List Int) (hn:ns.length < 1000000):ajz [scr ns]=some (.bool true):=by
 obtain ⟨u,e,l,b,mn,hm⟩:=af6 ns hn 0 (by omega)
 have h:=alb hm
 obtain ⟨a1,a2,a3,a4,a5,a6,a7,a8,a9,a10⟩:=qy h
 obtain ⟨d,d10,hd0,hd4⟩:=qL ns hn 10 4 (by omega) (by omega)
 obtain ⟨k,d12,hk0,hk3⟩:=qL ns hn 12 3 (by omega) (by omega)
 obtain ⟨mv,ixm,hmem⟩:=amQ (ds:=[PyData.int 9,.int 60,.int 600]) hk0 (show k < 3 from hk3) (by decide)
 obtain ⟨m,rfl,hm0,hm6⟩:∃ m:Int,mv= .int m/\0 < m/\m<=600:=by
  simp only [List.mem_cons,List.not_mem_nil,or_false] at hmem
  rcases hmem with rfl | rfl | rfl
  ·exact ⟨9,rfl,by omega,by omega⟩
  ·exact ⟨60,rfl,by omega,by omega⟩
  ·exact ⟨600,rfl,by omega,by omega⟩
 obtain ⟨i,d11,hi0,him⟩:=qL ns hn 11 m (by omega) hm0
 obtain ⟨q,d13,hq0,hq4⟩:=qL ns hn 13 40 (by omega) (by omega)
 obtain ⟨r,hr,hr1,hr4⟩:∃ r:Nat,1+d=(r:Int)/\1<=r/\r<=4:=⟨(1+d).toNat,by omega,by omega,by omega⟩
 obtain ⟨j,hj⟩:∃ j,i+q=j:=⟨_,rfl⟩
 have hi9:0<=i/\i<=9999:=⟨hi0,by omega⟩
 have hj9:i<=j/\j<=i+900:=⟨by omega,by omega⟩
 have lp:=aca H h (r:=r) (n:=j) hr1 hr4 (by omega)
 have B1:∀ {x:PyData},noD x=true->whB 0 99999 x=false->T3 (jr u e l b) (.int 1) x .none 1:=fun hn hw=>ahS H h hn hw
 have B2:∀ {x:PyData},noD x=true->whB 0 99999 x=false->T3 (jr u e l b) (.int 1) (.int 0) x 1:=fun hn hw=>ajZ H h hn hw
 have B3:∀ {x:PyData},noD x=true->whB 1 4 x=false->T3 (jr u e l b) x .none .none 1:=fun hn hw=>aj0 H h hn hw
 have B4:T3 (jr u e l b) (.int 4) (.int 5) (.int 4) 1:=afi H h ⟨by omega,by omega⟩ ⟨by omega,by omega⟩ (by decide)
 have B5:T3 (jr u e l b) (.int 4) (.int 0) (.int 1000) 1:=afi H h ⟨by omega,by omega⟩ ⟨by omega,by omega⟩ (by decide)
 have B6:T3 .none .none .none .none 0:=alz _ _ _
 have aj:qF (.int i) (.int q)=some (.int j):=by rw [add_int,hj]
 have ar:qF (.int 1) (.int d)=some (.int (r:Int)):=by rw [add_int,hr]
 by_cases hb:j < b ^ r
 ·have gw:=ahP H h hr1 hr4 hi9 hj9 hb
  have hW:=alv (M:=jr u e l b) (b:=b) (r:=r) (f:=i) (n:=(j+1 - i).toNat)
  have hWl:(afg (jr u e l b) b r i (j+1 - i).toNat).length < 2000:=by rw [ajP]; omega
  have lrows:=acg (g:=zP) (M:=jr u e l b) (R:= .int (r:Int)) (b:=b) (r:=r) (f:=i) (n:=(j+1 - i).toNat) (fun k hk=>by
   have:=aca H h (r:=r) (n:=i+k) hr1 hr4 (by omega)
   rw [lpl,if_pos (by omega)] at this; exact this)
  have lp':zP [jr u e l b,.int (r:Int),.int j]=some (jI (pln (jr u e l b) b r j)):=by rw [lpl,if_pos hb] at lp; exact lp
  generalize hWd:afg (jr u e l b) b r i (j+1 - i).toNat=W at*
  obtain ⟨bd,hbd⟩:=ahR (Qj W) i
  have t0:=an1 (afh hr4 hWl hW gw)
  have t1:=an2 (ach hr4 hWl hW gw)
  have t2:=an3 (ajU hr4 hWl hW gw hbd)
  have rgf:=agR (f:=i) (t:=j+1) hi0 (by omega) (by omega) (by omega)
  have fwr:few (qi i (j+1 - i).toNat)=true:=abj (by omega)
  have rgr:Zh [.int (r:Int)]=some (qi 0 r):=by
   have:=Q8 (j:=(r:Int)) (by omega) (by omega)
   rw [Int.toNat_natCast] at this; exact this
  have hPJ:akN (jI (pln (jr u e l b) b r j)) .none=some (.bool false):=rfl
  generalize jI (pln (jr u e l b) b r j)=PJ at lp' hPJ
  generalize scr ns=S at*
  generalize jr u e l b=M at*
  have c5:jZ (rfi 3 4) [none,some 1,some 2] (jH 0) qP (jA zP (jg (lkp 1) (jg (lkp 2) (jg (lkp 0) ju)))) [some S,some M,some (.int (r:Int)),some (.int i),some (.int j),none,none,none,none,none,none]=some (.list (W.map jI)):=by
   refine Jq ?_ fwr lrows
   show (jg (lkp 3) (jg (op2 qF (lkp 4) (cst (.int 1))) ju) _).bind adu=_
   rw [jt (d:= .int i) rfl (jt (j6 (x:= .int j) (y:= .int 1) rfl rfl (add_int j 1)) rfl),zzD]
   exact rgf
  have c6:=Jq (fi:=zfi 5) (ρ:=[some S,some M,some (.int (r:Int)),some (.int i),some (.int j),some (.list (W.map jI)),none,none,none,none,none]) (cap:=[none,none]) (aej (i:=5) rfl) (ajT hWl) (ajS hr4 hW afd)
  obtain ⟨ρ',lp1,hI⟩:=ab5 (ga:=jH 8) (F:=ae3.1) (fun k ρ=>k<=r->∃ y8,ρ=[some S,some M,some (.int (r:Int)),some (.int i),some (.int j),some (.list (W.map jI)),some (.list ((Qj W).map .int)),some (.list (((List.range k).map (onP W)).map .int)),y8,none,none]) (qi 0 r) 0 [some S,some M,some (.int (r:Int)),some (.int i),some (.int j),some (.list (W.map jI)),some (.list ((Qj W).map .int)),some (.list []),none,none,none] (fun _=>⟨none,rfl⟩) (fun jj d ρ hd hi=>by
   obtain ⟨hjj,rfl⟩:=ae6 hd
   rw [Nat.zero_add] at hi ⊢
   obtain ⟨y8,rfl⟩:=hi (by omega)
   refine ⟨_,_,rfl,alA hr4 hjj hWl hW (by rw [List.length_map,List.length_range]; omega),fun _=>⟨some (.int (jj:Int)),?_⟩⟩
   rw [List.range_succ,List.map_append (f:=onP W)]; rfl)
  rw [ab6,Nat.zero_add] at hI
  obtain ⟨y8,rfl⟩:=hI (Nat.le_refl _)
  have sm:=aad (Qj W)
  have nr:=am2 (a:=(Qj W).sum) (xs:=(List.range r).map (onP W)) hbd
  have bs:=aj1 hbd (ρ:=[some S,some M,some (.int (r:Int)),some (.int i),some (.int j),some (.list (W.map jI)),some (.list ((Qj W).map .int)),some (.list (((List.range r).map (onP W)).map .int)),y8,none,none]) rfl rfl
  generalize PyData.list (((List.range r).map (onP W)).map .int)=OD at*
  generalize PyData.list ((Qj W).map .int)=FD at*
  generalize PyData.list (W.map jI)=WD at*
  generalize (Qj W).sum=SM at*
  exact an8 mn d10 ar d12 ixm d11 d13 aj lp' hPJ c5 c6 rgr lp1 bs sm nr t0 t1 t2 B1 B2 B3 B4 B5 B6
 ·obtain ⟨w1,w2⟩:=ahQ H h hr1 hr4 hi9 hj9 (by omega)
  obtain ⟨c0,c1,c2⟩:=ahO w1 w2 aef aee
  have lp':zP [jr u e l b,.int (r:Int),.int j]=some .none:=by rw [lpl,if_neg hb] at lp; exact lp
  generalize scr ns=S at*
  generalize jr u e l b=M at*
  refine j4 rfl ?_
  show ahF.1 [some S,none,none,none,none,none,none,none,none,none,none]=_
  simp only [ahF]
  refine (jG (ρ1:=[some S,some M,none,none,none,none,none,none,none,none,none]) (qT (i:=1) (jx rfl mn))).trans ?_
  refine (jG (ρ1:=[some S,some M,some (.int (r:Int)),none,none,none,none,none,none,none,none]) (qT (i:=2) (j6 rfl (jx rfl d10) ar))).trans ?_
  refine (jG (ρ1:=[some S,some M,some (.int (r:Int)),some (.int i),none,none,none,none,none,none,none]) (qT (i:=3) (jx (jt rfl (jt rfl (jt (j6 (x:= .list [.int 9,.int 60,.int 600]) rfl (jx rfl d12) ixm) rfl))) d11))).trans ?_
  refine (jG (ρ1:=[some S,some M,some (.int (r:Int)),some (.int i),some (.int j),none,none,none,none,none,none]) (qT (i:=4) (j6 rfl (jx rfl d13) aj))).trans ?_
  refine (jG (ρ1:=[some S,some M,some (.int (r:Int)),some (.int i),some (.int j),none,none,none,none,none,none]) ?_).trans ?_
  ·refine (aoI (zw (j6 (jx rfl lp') rfl rfl))).trans ?_
   refine (jG (ρ1:=[some S,some M,some (.int (r:Int)),some (.int i),some (.int j),none,none,none,none,none,none]) ?_).trans rfl
   exact aeg (zw (j6 (aae (τ:=[some M,some (.int (r:Int)),some (.int i),some (.int j)]) rfl (jx rfl c0) (jx rfl c1) (jx rfl c2)) (Jr 2) (aaE 2)))
  obtain ⟨z1,lp1⟩:=QK (ga:=jH 10) (F:=ae4.1) (fun x=>[some S,some M,some (.int (r:Int)),some (.int i),some (.int j),none,none,none,none,none,x]) (fun _ _=>rfl) [.int (-1),.int 100000,.none,.bool true,.str "1"] none (fun d hd=>by
   have hb:noD d=true/\whB 0 99999 d=false:=by
    simp only [List.mem_cons,List.not_mem_nil,or_false] at hd
    rcases hd with rfl | rfl | rfl | rfl | rfl <;> exact ⟨rfl,rfl⟩
   exact alP (B1 hb.1 hb.2) (B2 hb.1 hb.2))
  obtain ⟨z2,lp2⟩:=QK (ga:=jH 10) (F:=ae5.1) (fun x=>[some S,some M,some (.int (r:Int)),some (.int i),some (.int j),none,none,none,none,none,x]) (fun _ _=>rfl) [.int 0,.int 5,.none,.bool true] z1 (fun d hd=>by
   have hb:noD d=true/\whB 1 4 d=false:=by
    simp only [List.mem_cons,List.not_mem_nil,or_false] at hd
    rcases hd with rfl | rfl | rfl | rfl <;> exact ⟨rfl,rfl⟩
   exact alQ (B3 hb.1 hb.2))
  refine (jG (ρ1:=[some S,some M,some (.int (r:Int)),some (.int i),some (.int j),none,none,none,none,none,z1]) (acd (ds:=[.int (-1),.int 100000,.none,.bool true,.str "1"]) rfl lp1)).trans ?_
  refine (jG (ρ1:=[some S,some M,some (.int (r:Int)),some (.int i),some (.int j),none,none,none,none,none,z2]) (acd (ds:=[.int 0,.int 5,.none,.bool true]) rfl lp2)).trans ?_
  refine (jG (ρ1:=[some S,some M,some (.int (r:Int)),some (.int i),some (.int j),none,none,none,none,none,z2]) ?_).trans ?_
  ·exact aeg (zw (j6 (aae (τ:=[some M]) rfl (jx rfl B4.1) (jx rfl B4.2.1) (jx rfl B4.2.2)) (Jr 1) (aaE 1)))
  refine (jG (ρ1:=[some S,some M,some (.int (r:Int)),some (.int i),some (.int j),none,none,none,none,none,z2]) ?_).trans ?_
  ·exact aeg (zw (j6 (jx rfl B5.1) (y:=rfd 1) rfl (ajY 1)))
  exact ace (j6 (aae (τ:=[]) rfl (jx rfl B6.1) (jx rfl B6.2.1) (jx rfl B6.2.2)) (Jr 0) (ajW 0))
end Rods
end
section
namespace BX
open PySem L2
open PyProof.Rows hiding St
theorem jX.thr {P:Program}{w:World}{K:PySem.W.Frag}{mg:Str->Option Value}{base h:Heap}{x:Str}{st:Stmt}{ps:List Str}{k n:Nat}{g:List PyData->Option Str} (T:jX K x st) (X:K.In h) (G:h.Ns mainGlobals mg)
  (pa:jv x st ps) (ok:∀ f fd,Fun K x x st f fd->FnOk P w K mg base (CXt P w) k f fd ps (ahm K mg n g)):zK P w K mg base x ps k n g:=by
 obtain ⟨f,oc,od,an,kV,doc,pm,cdv,ct,osl,a,l,c,kp⟩:=T
 have F1:=ado (st:=st) l c kp
 exact ⟨f,_,ok f _ F1,PySem.W.mg_of X G a,kp,F1.binds pa⟩
theorem jX.hdl {P:Program}{w:World}{K:PySem.W.Frag}{mg:Str->Option Value}{base h:Heap}{x:Str}{st:Stmt}{ps:List Str}{k n:Nat}{g:List PyData->Option PyData} (T:jX K x st) (X:K.In h) (G:h.Ns mainGlobals mg)
  (pa:jv x st ps) (ok:∀ f fd,Fun K x x st f fd->FnH P w K mg base k f fd ps (Pur K n g)):aa5 P w K mg base x ps k n g:=by
 obtain ⟨f,oc,od,an,kV,doc,pm,cdv,ct,osl,a,l,c,kp⟩:=T
 have F1:=ado (st:=st) l c kp
 exact ⟨f,_,ok f _ F1,PySem.W.mg_of X G a,kp,F1.binds pa⟩
end BX
namespace Rods
open PySem L2 BX
open PyProof.Rows hiding St
structure Tops (K:PySem.W.Frag):Prop where
 isWhole:jX K "is_whole" ZQ
 rodWorth:jX K "rod_worth" QQ
 beads:jX K "beads" adO
 allRods:jX K "all_rods" ZR
 hasAll:jX K "has_all_digits" QR
 isManner:jX K "is_manner" QS
 check:jX K "check_manner" abS
 rodsWith:jX K "rods_with" JN
 fewest:jX K "fewest_beads" aa7
 chkRods:jX K "check_rods" Jf
 chkNum:jX K "check_number" zf
 asked:jX K "check_asked" zA
 digits:jX K "digits_by_rods" QV
 plainR:jX K "plain_rods" QU
 cell:jX K "_law_cell" agF
 drawn:jX K "_law_drawn" adT
 manner:jX K "_law_manner" aa9
 RodApart:jX K "rod_apart" Q0
 Apart:jX K "apart" abV
 WayUp:jX K "way_up" Zu
 MovesOnRod:jX K "moves_on_rod" zB
 ByRods:jX K "by_rods" Jp
 MovesUp:jX K "moves_up" QD
 BusiestStep:jX K "busiest_step" qI
 LRods:jX K "_law_rods" Zx
 LFewest:jX K "_law_fewest" QH
 LPlain:jX K "_law_plain" Q7
 LFar:jX K "_law_far" aeY
 LRefused:jX K "_law_refused" zW
 LTold:jX K "_law_told" aax
 law:jX K "law" JR
structure Consts (K:PySem.W.Frag) (mg:Str->Option Value):Prop where
 b:Bare mg
 least:GC K mg "LEAST_PARTS" (.tuple [.int 0,.int 1,.int 0,.int 2])
 most:GC K mg "MOST_PARTS" (.tuple [.int 3,.int 16,.int 12,.int 16])
 mostRods:GC K mg "MOST_RODS" (.int 4)
 mostNumber:GC K mg "MOST_NUMBER" (.int 99999)
 mostSteps:GC K mg "MOST_STEPS" (.int 999)
 errT:ErrT K mg "BeadError" qQ
theorem age:jv "is_whole" ZQ ["thing","least","most"]:=fun _ _ _ _ _ _ us hl=>by obtain ⟨v0,v1,v2,rfl⟩:=afw us hl; rfl
theorem afj:jv "rod_worth" QQ ["manner","rod"]:=fun _ _ _ _ _ _ us hl=>by obtain ⟨v0,v1,rfl⟩:=acl us hl; rfl
theorem aj2:jv "beads" adO ["rod"]:=fun _ _ _ _ _ _ us hl=>by obtain ⟨v0,rfl⟩:=abp us hl; rfl
theorem agf:jv "all_rods" ZR ["manner"]:=fun _ _ _ _ _ _ us hl=>by obtain ⟨v0,rfl⟩:=abp us hl; rfl
theorem ahU:jv "has_all_digits" QR ["manner"]:=fun _ _ _ _ _ _ us hl=>by obtain ⟨v0,rfl⟩:=abp us hl; rfl
theorem afk:jv "is_manner" QS ["thing"]:=fun _ _ _ _ _ _ us hl=>by obtain ⟨v0,rfl⟩:=abp us hl; rfl
theorem afl:jv "check_manner" abS ["thing"]:=fun _ _ _ _ _ _ us hl=>by obtain ⟨v0,rfl⟩:=abp us hl; rfl
theorem afm:jv "rods_with" JN ["manner","worth"]:=fun _ _ _ _ _ _ us hl=>by obtain ⟨v0,v1,rfl⟩:=acl us hl; rfl
theorem ahV:jv "fewest_beads" aa7 ["manner","worth"]:=fun _ _ _ _ _ _ us hl=>by obtain ⟨v0,v1,rfl⟩:=acl us hl; rfl
theorem acj:jv "check_rods" Jf ["rods"]:=fun _ _ _ _ _ _ us hl=>by obtain ⟨v0,rfl⟩:=abp us hl; rfl
theorem add:jv "check_number" zf ["number"]:=fun _ _ _ _ _ _ us hl=>by obtain ⟨v0,rfl⟩:=abp us hl; rfl
theorem afn:jv "check_asked" zA ["manner","rods","number"]:=fun _ _ _ _ _ _ us hl=>by obtain ⟨v0,v1,v2,rfl⟩:=afw us hl; rfl
theorem ahW:jv "digits_by_rods" QV ["base","rods","number"]:=fun _ _ _ _ _ _ us hl=>by obtain ⟨v0,v1,v2,rfl⟩:=afw us hl; rfl
theorem ade:jv "plain_rods" QU ["manner","rods","number"]:=fun _ _ _ _ _ _ us hl=>by obtain ⟨v0,v1,v2,rfl⟩:=afw us hl; rfl
theorem alB:jv "_law_cell" agF ["_law_script","_law_k"]:=fun _ _ _ _ _ _ us hl=>by obtain ⟨v0,v1,rfl⟩:=acl us hl; rfl
theorem aj3:jv "_law_drawn" adT ["_law_script","_law_k","_law_many"]:=fun _ _ _ _ _ _ us hl=>by obtain ⟨v0,v1,v2,rfl⟩:=afw us hl; rfl
theorem ahX:jv "_law_manner" aa9 ["_law_script","_law_at"]:=fun _ _ _ _ _ _ us hl=>by obtain ⟨v0,v1,rfl⟩:=acl us hl; rfl
theorem afo:jv "rod_apart" Q0 ["rod","goal"]:=fun _ _ _ _ _ _ us hl=>by obtain ⟨v0,v1,rfl⟩:=acl us hl; rfl
theorem aj4:jv "apart" abV ["one","other"]:=fun _ _ _ _ _ _ us hl=>by obtain ⟨v0,v1,rfl⟩:=acl us hl; rfl
theorem afp:jv "way_up" Zu ["manner","rods","first","last"]:=fun _ _ _ _ _ _ us hl=>by obtain ⟨v0,v1,v2,v3,rfl⟩:=aif us hl; rfl
theorem acA:jv "moves_on_rod" zB ["way"]:=fun _ _ _ _ _ _ us hl=>by obtain ⟨v0,rfl⟩:=abp us hl; rfl
theorem adf:jv "by_rods" Jp ["manner","rods","first","last"]:=fun _ _ _ _ _ _ us hl=>by obtain ⟨v0,v1,v2,v3,rfl⟩:=aif us hl; rfl
theorem ack:jv "moves_up" QD ["manner","rods","first","last"]:=fun _ _ _ _ _ _ us hl=>by obtain ⟨v0,v1,v2,v3,rfl⟩:=aif us hl; rfl
theorem QL:jv "busiest_step" qI ["manner","rods","first","last"]:=fun _ _ _ _ _ _ us hl=>by obtain ⟨v0,v1,v2,v3,rfl⟩:=aif us hl; rfl
theorem aj5:jv "_law_rods" Zx ["_law_manner_here"]:=fun _ _ _ _ _ _ us hl=>by obtain ⟨v0,rfl⟩:=abp us hl; rfl
theorem agg:jv "_law_fewest" QH ["_law_manner_here","_law_digit"]:=fun _ _ _ _ _ _ us hl=>by obtain ⟨v0,v1,rfl⟩:=acl us hl; rfl
theorem ahY:jv "_law_plain" Q7 ["_law_manner_here","_law_rods_here","_law_number"]:=fun _ _ _ _ _ _ us hl=>by obtain ⟨v0,v1,v2,rfl⟩:=afw us hl; rfl
theorem alC:jv "_law_far" aeY ["_law_one","_law_other"]:=fun _ _ _ _ _ _ us hl=>by obtain ⟨v0,v1,rfl⟩:=acl us hl; rfl
theorem afq:jv "_law_refused" zW ["_law_e"]:=fun _ _ _ _ _ _ us hl=>by obtain ⟨v0,rfl⟩:=abp us hl; rfl
theorem aj6:jv "_law_told" aax ["_law_way","_law_manner_here","_law_rods_here","_law_first","_law_last"]:=fun _ _ _ _ _ _ us hl=>by obtain ⟨v0,v1,v2,v3,v4,rfl⟩:=aon us hl; rfl
theorem aoM (HT:zk=true) {P:Program}{w:World}{K:PySem.W.Frag}{h:Heap}{mg:Str->Option Value}{base:Heap} (X:K.In h) (G:h.Ns mainGlobals mg) (T:Tops K) (C:Consts K mg):CLaw P w K mg base:=by
 have c_isWhole:jo P w K mg base "is_whole" ["thing","least","most"] 1 3 j8:=T.isWhole.callee X G age fun f fd F=>jN F af0 fun cdv A outer s H E hr=>ZS.2 P w K mg base f cdv A outer s H E C.b hr
 have c_rodWorth:jo P w K mg base "rod_worth" ["manner","rod"] 1 2 zU:=T.rodWorth.callee X G afj fun f fd F=>jN F aeM fun cdv A outer s H E hr=>aan.2 P w K mg base f cdv A outer s H E trivial hr
 have c_beads:jo P w K mg base "beads" ["rod"] 1 1 qv:=T.beads.callee X G aj2 fun f fd F=>jN F ajr fun cdv A outer s H E hr=>af1.2 P w K mg base f cdv A outer s H E trivial hr
 have c_allRods:jo P w K mg base "all_rods" ["manner"] 1 1 Je:=T.allRods.callee X G agf fun f fd F=>af2 F C.b
 have c_hasAll:jo P w K mg base "has_all_digits" ["manner"] 2 1 ZU:=T.hasAll.callee X G ahU fun f fd F=>jN F acY fun cdv A outer s H E hr=>adQ.2 P w K mg base f cdv A outer s H E ⟨C.b,c_allRods,c_rodWorth⟩ hr
 have c_isManner:jo P w K mg base "is_manner" ["thing"] 3 1 qm:=T.isManner.callee X G afk fun f fd F=>jN F Jm fun cdv A outer s H E hr=>aao.2 P w K mg base f cdv A outer s H E ⟨C.b,C.least,C.most,c_isWhole,c_hasAll⟩ hr
 have c_check:jo P w K mg base "check_manner" ["thing"] 4 1 Jx:=T.check.callee X G afl fun f fd F=>jN F aeP fun cdv A outer s H E hr=>adR.2 P w K mg base f cdv A outer s H E ⟨c_isManner⟩ hr
 have c_rodsWith:jo P w K mg base "rods_with" ["manner","worth"] 2 2 QT:=T.rodsWith.callee X G afm fun f fd F=>jN F aeQ fun cdv A outer s H E hr=>aap.2 P w K mg base f cdv A outer s H E ⟨c_allRods,c_rodWorth⟩ hr
 have c_fewest:jo P w K mg base "fewest_beads" ["manner","worth"] 3 2 Jn:=T.fewest.callee X G ahV fun f fd F=>jN F ahB fun cdv A outer s H E hr=>aa8.2 P w K mg base f cdv A outer s H E ⟨C.b,c_rodsWith,c_beads⟩ hr
 have c_chkRods:jo P w K mg base "check_rods" ["rods"] 2 1 qu:=T.chkRods.callee X G acj fun f fd F=>jN F abT fun cdv A outer s H E hr=>QB.2 P w K mg base f cdv A outer s H E ⟨c_isWhole,C.mostRods⟩ hr
 have c_chkNum:jo P w K mg base "check_number" ["number"] 2 1 qH:=T.chkNum.callee X G add fun f fd F=>jN F acZ fun cdv A outer s H E hr=>ZW.2 P w K mg base f cdv A outer s H E ⟨c_isWhole,C.mostNumber⟩ hr
 have c_asked:jo P w K mg base "check_asked" ["manner","rods","number"] 5 3 zg:=T.asked.callee X G afn fun f fd F=>jN F aeS fun cdv A outer s H E hr=>aaq.2 P w K mg base f cdv A outer s H E ⟨c_check,c_chkRods,c_chkNum⟩ hr
 have c_digits:jo P w K mg base "digits_by_rods" ["base","rods","number"] 1 3 ajs:=T.digits.callee X G ahW fun f fd F=>jN F adS fun cdv A outer s H E hr=>ak7.2 P w K mg base f cdv A outer s H E C.b hr
 have c_plainR:jo P w K mg base "plain_rods" ["manner","rods","number"] 4 3 zL:=T.plainR.callee X G ade fun f fd F=>jN F QX fun cdv A outer s H E hr=>QY.2 P w K mg base f cdv A outer s H E ⟨C.b,c_digits,c_fewest⟩ hr
 have c_cell:jo P w K mg base "_law_cell" ["_law_script","_law_k"] 1 2 aeT:=T.cell.callee X G alB fun f fd F=>jN F ak8 fun cdv A outer s H E hr=>agG.2 P w K mg base f cdv A outer s H E C.b hr
 have c_drawn:jo P w K mg base "_law_drawn" ["_law_script","_law_k","_law_many"] 2 3 Qf:=T.drawn.callee X G aj3 fun f fd F=>jN F abU fun cdv A outer s H E hr=>af3.2 P w K mg base f cdv A outer s H E ⟨c_cell⟩ hr
 have c_manner:jo P w K mg base "_law_manner" ["_law_script","_law_at"] 3 2 QZ:=T.manner.callee X G ahX fun f fd F=>jN F zu fun cdv A outer s H E hr=>aba.2 P w K mg base f cdv A outer s H E ⟨C.b,c_drawn⟩ hr
 have x_check:zK P w K mg base "check_manner" ["thing"] 4 1 Zw:=T.check.thr X G afl fun f fd F=>Qb F aeP fun cdv A outer s H E hr=>aav.2 P w K mg base f cdv A outer s H E ⟨c_isManner,(C.errT.err (by decide))⟩ hr
 have x_chkRods:zK P w K mg base "check_rods" ["rods"] 2 1 JP:=T.chkRods.thr X G acj fun f fd F=>Qb F abT fun cdv A outer s H E hr=>JO.2 P w K mg base f cdv A outer s H E ⟨c_isWhole,C.mostRods,(C.errT.err (by decide))⟩ hr
 have x_chkNum:zK P w K mg base "check_number" ["number"] 2 1 Qh:=T.chkNum.thr X G add fun f fd F=>Qb F acZ fun cdv A outer s H E hr=>Q5.2 P w K mg base f cdv A outer s H E ⟨c_isWhole,C.mostNumber,(C.errT.err (by decide))⟩ hr
 have x_asked:zK P w K mg base "check_asked" ["manner","rods","number"] 5 3 QF:=T.asked.thr X G afn fun f fd F=>Qb F aeS fun cdv A outer s H E hr=>Jy.2 P w K mg base f cdv A outer s H E ⟨c_chkRods,c_check,x_check,x_chkRods,x_chkNum⟩ hr
 have x_plainR:zK P w K mg base "plain_rods" ["manner","rods","number"] 4 3 Z1:=T.plainR.thr X G ade fun f fd F=>Qb F QX fun cdv A outer s H E hr=>Q6.2 P w K mg base f cdv A outer s H E ⟨c_digits,(C.errT.err (by decide))⟩ hr
 have c_RodApart:jo P w K mg base "rod_apart" ["rod","goal"] 1 2 zV:=T.RodApart.callee X G afo fun f fd F=>jN F aeU fun cdv A outer s H E hr=>Q1.2 P w K mg base f cdv A outer s H E ⟨C.b⟩ hr
 have c_Apart:jo P w K mg base "apart" ["one","other"] 2 2 af4:=T.Apart.callee X G aj4 fun f fd F=>jN F ajt fun cdv A outer s H E hr=>adW.2 P w K mg base f cdv A outer s H E ⟨C.b,c_RodApart⟩ hr
 have c_WayUp:jo P w K mg base "way_up" ["manner","rods","first","last"] 6 4 qN:=T.WayUp.callee X G afp fun f fd F=>jN F aeV fun cdv A outer s H E hr=>Qg.2 P w K mg base f cdv A outer s H E ⟨C.b,c_asked,c_chkNum,c_plainR,C.mostSteps⟩ hr
 have c_MovesOnRod:jo P w K mg base "moves_on_rod" ["way"] 2 1 qB:=T.MovesOnRod.callee X G acA fun f fd F=>jN F acy fun cdv A outer s H E hr=>QC.2 P w K mg base f cdv A outer s H E ⟨C.b,c_RodApart⟩ hr
 have c_ByRods:jo P w K mg base "by_rods" ["manner","rods","first","last"] 7 4 zM:=T.ByRods.callee X G adf fun f fd F=>jN F aau fun cdv A outer s H E hr=>ZZ.2 P w K mg base f cdv A outer s H E ⟨C.b,c_WayUp,c_MovesOnRod⟩ hr
 have c_MovesUp:jo P w K mg base "moves_up" ["manner","rods","first","last"] 8 4 Jg:=T.MovesUp.callee X G ack fun f fd F=>jN F abW fun cdv A outer s H E hr=>Z0.2 P w K mg base f cdv A outer s H E ⟨C.b,c_ByRods⟩ hr
 have c_BusiestStep:jo P w K mg base "busiest_step" ["manner","rods","first","last"] 7 4 qt:=T.BusiestStep.callee X G QL fun f fd F=>jN F qC fun cdv A outer s H E hr=>zh.2 P w K mg base f cdv A outer s H E ⟨C.b,c_WayUp,c_Apart⟩ hr
 have x_WayUp:zK P w K mg base "way_up" ["manner","rods","first","last"] 6 4 QG:=T.WayUp.thr X G afp fun f fd F=>Qb F aeV fun cdv A outer s H E hr=>Jz.2 P w K mg base f cdv A outer s H E ⟨C.b,c_plainR,c_chkNum,c_asked,C.mostSteps,x_asked,x_chkNum,x_plainR,(C.errT.err (by decide))⟩ hr
 have x_ByRods:zK P w K mg base "by_rods" ["manner","rods","first","last"] 7 4 Z2:=T.ByRods.thr X G adf fun f fd F=>Qb F aau fun cdv A outer s H E hr=>abb.2 P w K mg base f cdv A outer s H E ⟨x_WayUp⟩ hr
 have x_MovesUp:zK P w K mg base "moves_up" ["manner","rods","first","last"] 8 4 Z4:=T.MovesUp.thr X G ack fun f fd F=>Qb F abW fun cdv A outer s H E hr=>Z3.2 P w K mg base f cdv A outer s H E ⟨C.b,x_ByRods⟩ hr
 have x_BusiestStep:zK P w K mg base "busiest_step" ["manner","rods","first","last"] 7 4 zO:=T.BusiestStep.thr X G QL fun f fd F=>Qb F qC fun cdv A outer s H E hr=>zN.2 P w K mg base f cdv A outer s H E ⟨x_WayUp⟩ hr
 have c_LRods:jo P w K mg base "_law_rods" ["_law_manner_here"] 1 1 adZ:=T.LRods.callee X G aj5 fun f fd F=>jN F Z5 fun cdv A outer s H E hr=>adY.2 P w K mg base f cdv A outer s H E ⟨C.b⟩ hr
 have c_LFewest:jo P w K mg base "_law_fewest" ["_law_manner_here","_law_digit"] 2 2 abZ:=T.LFewest.callee X G agg fun f fd F=>jN F abY fun cdv A outer s H E hr=>Z7.2 P w K mg base f cdv A outer s H E ⟨C.b,c_LRods⟩ hr
 have c_LPlain:jo P w K mg base "_law_plain" ["_law_manner_here","_law_rods_here","_law_number"] 3 3 zP:=T.LPlain.callee X G ahY fun f fd F=>jN F JQ fun cdv A outer s H E hr=>Z8.2 P w K mg base f cdv A outer s H E ⟨C.b,c_LFewest⟩ hr
 have c_LFar:jo P w K mg base "_law_far" ["_law_one","_law_other"] 1 2 ae0:=T.LFar.callee X G alC fun f fd F=>jN F ak9 fun cdv A outer s H E hr=>agI.2 P w K mg base f cdv A outer s H E ⟨C.b⟩ hr
 have h_LRefused:aa5 P w K mg base "_law_refused" ["_law_e"] 1 1 qK:=T.LRefused.hdl X G afq fun f fd F=>aoA F aaQ fun cdv A outer s H E hr=>ac0.2 P w K mg base f cdv A outer s H E ⟨C.b,C.errT⟩ hr
 have c_LTold:jo P w K mg base "_law_told" ["_law_way","_law_manner_here","_law_rods_here","_law_first","_law_last"] 9 5 qD:=T.LTold.callee X G aj6 fun f fd F=>aja F ae1 fun cdv A outer s H E hr=>zi.2 P w K mg base f cdv A outer s H E ⟨c_MovesUp,c_ByRods,c_BusiestStep,x_MovesUp,x_ByRods,x_BusiestStep,h_LRefused,C.errT⟩ hr
 exact ⟨C.b,c_manner,c_drawn,c_LPlain,c_LTold,c_LFar⟩
theorem am3 (HT:zk=true) {P:Program}{w:World}{K:PySem.W.Frag}{h:Heap}{mg:Str->Option Value}{fa:Addr} (X:K.In h) (G:h.Ns mainGlobals mg) (hfa:mg "law"=some (.ref fa)) (T:Tops K) (C:Consts K mg):
  ∃ fd:FuncData,(∀ (s:Shared) (v:Value),BindsTo s fd ⟨[v],[]⟩ [("_law_script",v)])/\∀ base:Heap,K.In base->base.Ns mainGlobals mg->FnOk P w K mg base CX0 10 fa fd ["_law_script"] (Pur K 1 ajz):=by
 have Q:∀ base:Heap,CLaw P w K mg base:=fun base=>aoM HT X G T C
 obtain ⟨f,oc,od,an,kV,doc,pm,cdv,ct,osl,a,l,c,kp⟩:=T.law
 have e:=hfa.symm.trans (PySem.W.mg_of X G a)
 cases e
 have F1:=ado (st:=JR) l c kp
 exact ⟨_,fun s v=> .of_eq rfl,fun base _ _=>jN F1 zE fun cdv A outer s H E hr=>ahF.2 P w K mg base fa cdv A outer s H E (Q base) hr⟩
theorem an9 (HT:zk=true) (K:PySem.W.Frag) (H:Hp) (a:Addr) (ns:List Int) (hl:ns.length<=63) (hS:SqL K H a (ns.map V.int)):Pur K 1 ajz [.ref a] H (fun v _=>v= .bl true) fun _ _ _=>False:=
 ⟨[scr ns],.bool true,rfl,⟨_,_,rfl,⟨a,rfl,.inl ⟨ns,hS,rfl⟩⟩,rfl⟩,ahT HT ns (by omega),fun v H' _ r=>r⟩
theorem aoN (HT:zk=true) {l:PySem.W.OpenLaw}{q:Program}{loose:List Str}{XP:(Str->Option Value)->Heap->Prop}{YP:World->Heap->Prop}{d:DefRec}{K:Params->PySem.W.Frag} (hn:l.most=some 63) (hdf:d.params.defaults=[])
  (hY:∀ (w:World) (h:Heap),YP w h->(K w.params).In h) (hnm:d.name="law")
  (F:∀ (w:World) (mg:Str->Option Value) (h:Heap),(K w.params).In h->h.Ns mainGlobals mg->Tops (K w.params)/\Consts (K w.params) mg):
  PySem.W.WalkO q loose XP YP l.row.toRowW d [] (fun f vs=>PySem.call f vs):=
 L2.akn (n:=63) (k:=10) (x:="_law_script") (CX:=fun _=>CX0) (sp:=fun w=>Pur (K w.params) 1 ajz) hn (by decide) hdf ⟨rfl,by decide,by decide⟩ hY (fun w mg fa h KX G hm=>by
  obtain ⟨T,C⟩:=F w mg h KX G
  rw [hnm] at hm
  exact am3 HT KX G hm T C) (fun w H a ns hl _ hS=>an9 HT (K w.params) H a ns hl hS) fun _ _ _ _ _ z=>z
theorem alD {K:PySem.W.Frag}{mg:Str->Option Value}{h:Heap} (X:K.In h) (G:h.Ns mainGlobals mg) (z1:PySem.W.nsIn K mainGlobals "isinstance"=some none) (z2:PySem.W.nsIn K mainGlobals "bool"=some none) (z3:PySem.W.nsIn K mainGlobals "int"=some none) (z4:PySem.W.nsIn K mainGlobals "tuple"=some none) (z5:PySem.W.nsIn K mainGlobals "zip"=some none) (z6:PySem.W.nsIn K mainGlobals "range"=some none) (z7:PySem.W.nsIn K mainGlobals "all"=some none) (z8:PySem.W.nsIn K mainGlobals "len"=some none) (z9:PySem.W.nsIn K mainGlobals "max"=some none) (z10:PySem.W.nsIn K mainGlobals "min"=some none) (z11:PySem.W.nsIn K mainGlobals "sum"=some none) (z12:PySem.W.nsIn K mainGlobals "sorted"=some none) (z13:PySem.W.nsIn K mainGlobals "abs"=some none) (z14:PySem.W.nsIn K mainGlobals "list"=some none) (z15:PySem.W.nsIn K mainGlobals "enumerate"=some none) (z16:PySem.W.nsIn K mainGlobals "ValueError"=some none) (z17:PySem.W.nsIn K mainGlobals "str"=some none) (z18:PySem.W.nsIn K mainGlobals "set"=some none) (z19:PySem.W.nsIn K mainGlobals "dict"=some none):Bare mg:=
 have f:∀ {x:Str},PySem.W.nsIn K mainGlobals x=some none->mg x=none:=fun z=>PySem.W.mg_none_of X G z
 ⟨f z1,f z2,f z3,f z4,f z5,f z6,f z7,f z8,f z9,f z10,f z11,f z12,f z13,f z14,f z15,f z16,f z17,f z18,f z19⟩
theorem gc4 {K:PySem.W.Frag}{mg:Str->Option Value}{h:Heap}{x:Str}{a:Addr}{od:Option Addr}{n:Nat}{osl:Array (Option Value)}{i1 i2 i3 i4:Int}{t1 t2 t3 t4:Tok} (X:K.In h) (G:h.Ns mainGlobals mg) (e:PySem.W.nsIn K mainGlobals x=some (some (.ref a)))
  (l:K.lookup a=some ⟨.type "tuple",od,.seq #[.int i1 t1,.int i2 t2,.int i3 t3,.int i4 t4] n,osl⟩):GC K mg x (.tuple [.int i1,.int i2,.int i3,.int i4]):=
 aiN X G e l rfl ⟨_,_,[.int i1,.int i2,.int i3,.int i4],rfl,(by show 4<=sizeLine; rw [sizeLine_eq]; decide),.cons ⟨_,rfl⟩ (.cons ⟨_,rfl⟩ (.cons ⟨_,rfl⟩ (.cons ⟨_,rfl⟩ .nil))),fun H=>⟨_,_,rfl,rfl,_,_,rfl,rfl,_,_,rfl,rfl,_,_,rfl,rfl,rfl⟩⟩
theorem gcI {K:PySem.W.Frag}{mg:Str->Option Value}{h:Heap}{x:Str}{i:Int}{t:Tok} (X:K.In h) (G:h.Ns mainGlobals mg) (e:PySem.W.nsIn K mainGlobals x=some (some (.int i t))):GC K mg x (.int i):=
 ⟨.int i,_,PySem.W.mg_of X G e,⟨t,rfl⟩,fun H=>rfl⟩
theorem alE {K:PySem.W.Frag}{mg:Str->Option Value}{h:Heap}{y:Str}{cs:List Str} (X:K.In h) (G:h.Ns mainGlobals mg) (q:adJ K y cs=true):ErrT K mg y cs:=
 ⟨q,fun c C e=>PySem.W.mg_of X G (agC e)⟩
end Rods
def PySem.W.Fast.tw12058108720117487594:Unit:=()
def PySem.W.Fast.tw12933419068779575638:Unit:=()
def PySem.W.Fast.tw4833604673049286255:Unit:=()
def PySem.W.Fast.tw14054363181476269359:Unit:=()
def PySem.W.Fast.tw9511534746143562770:Unit:=()
def PySem.W.Fast.tw459380640697928663:Unit:=()
open PySem PySem.W PyProof.Rows
set_option maxRecDepth 100000 in
set_option maxHeartbeats 0 in
theorem PySem.Challenge.cw_beadrods_k67_counting_holds : PySem.Challenge.rw_beadrods_k67_counting.Holds := by
  w_on; o_law; k_head; (case hw => w_witness2)
  k_fill
  refine Rods.aoN Rods.allN_true (l := PySem.Challenge.rw_beadrods_k67_counting) rfl rfl (fun w h Y => PySem.W.kIn_of Y) rfl ?F
  case F =>
    intro w mg h KX G
    refine ⟨⟨?f1, ?f2, ?f3, ?f4, ?f5, ?f6, ?f7, ?f8, ?f9, ?f10, ?f11, ?f12, ?f13, ?f14, ?f15, ?f16, ?f17, ?f18, ?f19, ?f20, ?f21, ?f22, ?f23, ?f24, ?f25, ?f26, ?f27, ?f28, ?f29, ?f30, ?f31⟩, ⟨?b, ?c1, ?c2, ?c3, ?c4, ?c5, ?et⟩⟩
    case b => refine' Rods.alD KX G ?_ ?_ ?_ ?_ ?_ ?_ ?_ ?_ ?_ ?_ ?_ ?_ ?_ ?_ ?_ ?_ ?_ ?_ ?_ <;> k_is
    case c1 =>
      refine' Rods.gc4 KX G ?a ?l
      (case a => k_is); (case l => k_is)
    case c2 =>
      refine' Rods.gc4 KX G ?a ?l
      (case a => k_is); (case l => k_is)
    case c3 =>
      refine' Rods.gcI KX G ?a
      (case a => k_is)
    case c4 =>
      refine' Rods.gcI KX G ?a
      (case a => k_is)
    case c5 =>
      refine' Rods.gcI KX G ?a
      (case a => k_is)
    case et => exact Rods.alE KX G (by kernel_rfl)
    all_goals
      refine' BX.aiM ?a ?l ?c ?k
      (case a => k_is); (case l => k_is); (case c => k_is); (case k => k_is)
#print axioms PySem.Challenge.cw_beadrods_k67_counting_holds
end
