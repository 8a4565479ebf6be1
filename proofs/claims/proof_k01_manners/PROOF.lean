import PyProof.Rows.All
import Wide.All
import OpenK.AllK
import Wide.FinOn
import Lean
import PyProof.EqAt
import PyProof.EqKinds
import PyProof.TupleCall
import PyProof.DictWalks
import PyProof.ListMulRoad
import PyProof.Rows.Range3
import PyProof.StationsW
import OpenK.KOwn
import PyProof.ExcBaseAll.ValueError
import PyProof.MaxThree
import KE.KIsAll
import KE.KIsNot
import PyProof.RulesAs
import PyProof.ExcArgsOwn
import PyProof.ExcAttrAll.ValueError
import KE.KRevSl
import PySem.Challenge.RW_beadrods_k01_manners
set_option Elab.async false
set_option linter.all false
set_option maxRecDepth 100000
set_option maxHeartbeats 4000000
theorem zzA {α : Type _} {a : α} {l : List α} : (a :: l)[0]? = some a := rfl
theorem zzB {α : Type _} {a : α} {i : Nat} {l : List α} : (a :: l)[i + 1]? = l[i]? := rfl
theorem zzC {α : Type _} {o : Option α} : (some o).join = o := rfl
theorem zzD {α β : Type _} (a : α) (f : α → Option β) : (some a).bind f = f a := rfl
theorem zzE {α β : Type _} (a : α) (f : α → β) : Option.map f (some a) = some (f a) := rfl
theorem zzF {α : Type _} {x : α} {xs : List α} {i : Nat} {a : α} : (x :: xs).set (i + 1) a = x :: xs.set i a := rfl
theorem zzG {α : Type _} {x : α} {xs : List α} {a : α} : (x :: xs).set 0 a = a :: xs := rfl
theorem zzH {α β : Type _} (f : α → Option β) : (none : Option α).bind f = none := rfl
theorem zzI {α β : Type _} (f : α → β) : Option.map f (none : Option α) = none := rfl
theorem zzJ : (!true) = false := rfl
theorem zzK : (!false) = true := rfl
theorem zzL : (false = true) = False := Bool.false_eq_true
theorem zzM {α : Sort _} {x : Decidable True} (a b : α) : ite True a b = a := if_true a b
theorem zzN {α : Sort _} {x : Decidable False} (a b : α) : ite False a b = b := if_false a b
section
namespace L2
open PySem PySem.Spec PyProof.Rows
noncomputable abbrev Key:=Sum Int Str
noncomputable def ZP:Key->Value->Bool
 | .inl k,v=>Value.isInt k v
 | .inr x,v=>Value.isStrOf x v
noncomputable def akJ (w:World):Key->Int
 | .inl k=>hashInt k
 | .inr x=>hashStr w x
theorem jQ:∀ {k:Key}{v:Value},ZP k v=true->(∃ i t,k=Sum.inl i/\v=Value.int i t) ∨ (∃ x t,k=Sum.inr x/\v=Value.str x t)
 | .inl i,v,h=>by
  obtain ⟨t,e⟩:=Value.isInt_shape (k:=i) (v:=v) h
  exact .inl ⟨i,t,rfl,e⟩
 | .inr x,v,h=>by
  obtain ⟨t,e⟩:=Value.isStrOf_shape (x:=x) (v:=v) h
  exact .inr ⟨x,t,rfl,e⟩
theorem adV (i:Int) (t:Tok):ZP (.inl i) (.int i t)=true:=by simp [ZP,Value.isInt]
theorem adW (x:Str) (t:Tok):ZP (.inr x) (.str x t)=true:=by simp [ZP,Value.isStrOf]
theorem aiw (a b:Int):decide ((Sum.inl a:Key)=Sum.inl b)=(a == b):=by
 by_cases e:a=b
 ·subst e; simp
 ·have h:¬ (Sum.inl a:Key)=Sum.inl b:=fun q=>e (Sum.inl.inj q)
  rw [decide_eq_false h]
  exact (beq_eq_false_iff_ne.mpr e).symm
theorem aix (a b:Str):decide ((Sum.inr a:Key)=Sum.inr b)=decide (a=b):=by
 by_cases e:a=b
 ·subst e; simp
 ·have h:¬ (Sum.inr a:Key)=Sum.inr b:=fun q=>e (Sum.inr.inj q)
  rw [decide_eq_false h,decide_eq_false e]
theorem aiy (a:Int) (b:Str):decide ((Sum.inl a:Key)=Sum.inr b)=false:=decide_eq_false (fun q=>nomatch q)
theorem aiz (a:Str) (b:Int):decide ((Sum.inr a:Key)=Sum.inl b)=false:=decide_eq_false (fun q=>nomatch q)
noncomputable def jN (prog:Program) (w:World):PySem.KeyKind prog w Key where
 is:=ZP
 hash:=akJ w
 inj:=fun v a b ha hb=>by
  rcases jQ ha with ⟨i,t,rfl,rfl⟩ | ⟨x,t,rfl,rfl⟩
  ·rcases jQ hb with ⟨j,u,rfl,e⟩ | ⟨y,u,rfl,e⟩
   ·injection e with e1 _; rw [e1]
   ·exact nomatch e
  ·rcases jQ hb with ⟨j,u,rfl,e⟩ | ⟨y,u,rfl,e⟩
   ·exact nomatch e
   ·injection e with e1 _; rw [e1]
 byValue:=fun k v h=>by
  rcases jQ h with ⟨i,t,rfl,rfl⟩ | ⟨x,t,rfl,rfl⟩ <;> rfl
 pyHash:=fun hv h=>by
  rcases jQ hv with ⟨i,t,rfl,rfl⟩ | ⟨x,t,rfl,rfl⟩
  ·exact wpAny_pyHash_int h
  ·exact wpAny_pyHash_str h
 eqBool:=fun hu hv h=>by
  rcases jQ hu with ⟨i,t,rfl,rfl⟩ | ⟨x,t,rfl,rfl⟩
  ·rcases jQ hv with ⟨j,u,rfl,rfl⟩ | ⟨y,u,rfl,rfl⟩
   ·rw [aiw] at h; exact wpAny_eqBool_int h
   ·rw [aiy] at h; exact SeqAt.EqAt.int_str i t y u _ _ _ _ h
  ·rcases jQ hv with ⟨j,u,rfl,rfl⟩ | ⟨y,u,rfl,rfl⟩
   ·rw [aiz] at h; exact SeqAt.EqAt.str_int x t j u _ _ _ _ h
   ·rw [aix] at h; exact wpAny_eqBool_str h
 «strs»:=fun k x t v h=>by
  rcases jQ h with ⟨i,u,rfl,e⟩ | ⟨y,u,rfl,e⟩
  ·exact nomatch e
  ·injection e with e1 _
   subst e1
   cases v <;> rfl
theorem acK (prog:Program) (w:World) (k:Key) (v:Value):(jN prog w).is k v=ZP k v:=rfl
theorem abO (prog:Program) (w:World) (i:Int) (t:Tok):(jN prog w).is (.inl i) (.int i t)=true:=adV i t
theorem abP (prog:Program) (w:World) (x:Str) (t:Tok):(jN prog w).is (.inr x) (.str x t)=true:=adW x t
end L2
namespace L2
open PySem PySem.Spec PyProof.Rows
inductive V where
 | non | bl (b:Bool) | int (i:Int) | str (x:Str) | byt (b:Array UInt8) | flt (b:UInt64) | ref (a:Addr) | ty (n:String)
 deriving DecidableEq
noncomputable def jy:V->Value->Prop
 | .non,u=>u=Value.none
 | .bl b,u=>u=Value.bool b
 | .int i,u=>∃ t,u=Value.int i t
 | .str x,u=>∃ t,u=Value.str x t
 | .byt b,u=>∃ t,u=Value.bytes b t
 | .flt b,u=>∃ t,u=Value.float b t
 | .ref a,u=>u=Value.ref a
 | .ty n,u=>u=Value.type n
noncomputable abbrev jw:List V->List Value->Prop:=Paired jy
theorem jw.length {xs:List V}{us:List Value} (r:jw xs us):xs.length=us.length:=Paired.length r
theorem jw.get:∀ {xs:List V}{us:List Value}{i:Nat}{x:V},jw xs us->xs[i]?=some x->∃ u,us[i]?=some u/\jy x u
 | _,_,_,_,.nil,e=>by simp at e
 | _,_,0,_,.cons r _,e=>by simp at e; subst e; exact ⟨_,rfl,r⟩
 | _,_,i+1,x,.cons _ t,e=>by
  obtain ⟨u,h1,h2⟩:=jw.get (i:=i) (x:=x) t (by simpa using e)
  exact ⟨u,by simpa using h1,h2⟩
theorem jw.set {x:V}{u:Value} (r:jy x u):∀ {xs:List V}{us:List Value} (i:Nat),jw xs us->jw (xs.set i x) (us.set i u)
 | _,_,_,.nil=> .nil
 | _,_,0,.cons _ t=> .cons r t
 | _,_,i+1,.cons q t=> .cons q (jw.set r i t)
theorem jw.append:∀ {xs ys:List V}{us ws:List Value},jw xs us->jw ys ws->jw (xs++ys) (us++ws)
 | _,_,_,_,.nil,s=>s
 | _,_,_,_,.cons r t,s=> .cons r (jw.append t s)
theorem jw.take:∀ {xs:List V}{us:List Value} (n:Nat),jw xs us->jw (xs.take n) (us.take n)
 | _,_,0,_=> .nil
 | _,_,_+1,.nil=> .nil
 | _,_,n+1,.cons r t=> .cons r (jw.take n t)
theorem jw.drop:∀ {xs:List V}{us:List Value} (n:Nat),jw xs us->jw (xs.drop n) (us.drop n)
 | _,_,0,r=>r
 | _,_,_+1,.nil=> .nil
 | _,_,n+1,.cons _ t=>jw.drop n t
noncomputable def Zt:Option V->Option Value->Prop
 | some v,some u=>jy v u
 | none,none=>True
 | _,_=>False
noncomputable def KV {κ:Type}:List (κ × V)->List (κ × Value)->Prop:=Paired fun (p:κ × V) (q:κ × Value)=>p.1=q.1/\jy p.2 q.2
noncomputable def kV:Key->V
 | .inl i=> .int i
 | .inr x=> .str x
inductive HO where
 | lst (xs:List V)
 | tup (xs:List V)
 | dK (kvs:List (Key × V)) | dT (kvs:List (List Key × V))
 | set (S:Int->Bool) (n:Nat)
 | ins (C dx:Addr) (fs:List (Str × V))
 | own (x:Addr)
 | xd (fs:List (Str × V))
 | met (f x:Addr)
 | rng (lo hi:Int)
 | frz (o:Obj) (u:HO)
 | tbl (ps:Array Value)
 | ext (φ:Heap->Prop)
noncomputable abbrev Hp:=Addr->Option HO
noncomputable def upd (H:Hp) (a:Addr) (o:HO):Hp:=fun b=>if b=a then some o else H b
theorem jp {H:Hp}{a:Addr}{o:HO}:upd H a o a=some o:=by unfold upd; rw [if_pos rfl]
theorem jl {H:Hp}{a b:Addr}{o:HO} (h:b ≠ a):upd H a o b=H b:=by unfold upd; rw [if_neg h]
theorem ZA {H:Hp}{a:Addr}{o u:HO}:upd (upd H a o) a u=upd H a u:=by
 funext b; unfold upd; split <;> rfl
theorem ajN {H:Hp}{a b:Addr}{o u:HO} (h:H a=some o) (h':H b=some u) (d:o ≠ u):a ≠ b:=by
 intro e; subst e; rw [h] at h'; exact d (Option.some.inj h')
theorem j0 {H:Hp}{a b:Addr}{o:HO} (h:H a=some o) (h':H b=none):a ≠ b:=by
 intro e; subst e; rw [h] at h'; cases h'
section
variable (P:Program) (w:World)
noncomputable def qh (H:Hp) (h:Heap) (a:Addr):HO->Prop
 | .lst xs=>xs.length<=sizeLine/\∃ (its:List Value) (n:Nat),jw xs its/\h.get? a=some { cls:= .type "list",data:= .seq its.toArray n }
 | .tup xs=>xs.length<=sizeLine/\∃ its:List Value,jw xs its/\IsTup h a its.toArray
 | .dK kvs=>kvs.length<=sizeLine/\(a == sysModules)=false/\∃ vs,KV kvs vs/\h.DictOf (jN P w) a vs
 | .dT kvs=>kvs.length<=sizeLine/\(a == sysModules)=false/\∃ xs:List (List Key × Addr × Value),
   Paired (fun (p:List Key × V) (q:List Key × Addr × Value)=>p.1=q.1/\H q.2.1=some (.tup (p.1.map kV))/\jy p.2 q.2.2) kvs xs/\
   ∃ o es ep,h.get? a=some o/\o.ExactDict/\o.data= .dict es ep/\es.toList=xs.map (entryOfKey (tupleKind (jN P w)))/\(xs.map (·.1)).Nodup
 | .set S n=>h.SetOf (intKind P w) a S n
 | .ins C dx fs=>H dx=some (.own a)/\fs.length<=1000/\dx ≠ a/\h.get? a=some (PySem.W.instObj C dx)/\
   ∃ mA,h.Ns1 dx mA/\(∀ f,Zt (fs.lookup f) (mA f))/\PySem.Within mA (fs.map (·.1))
 | .own _=>∃ o,h.get? a=some o
 | .xd fs=>∃ mA,h.Ns1 a mA/\∀ f,Zt (fs.lookup f) (mA f)
 | .rng lo hi=>∃ t u v,h.get? a=some { cls:= .type "range",data:= .fields #[.int lo t,.int hi u,.int 1 v] }
 | .frz o u=>h.get? a=some o/\qh H h a u
 | .tbl ps=>h.get? a=some { cls:= .none,data:= .fields ps }
 | .met f x=>h.get? a=some (PySem.W.methodObj (.ref f) (.ref x))
 | .ext φ=>φ h/\(∃ o,h.get? a=some o)/\∀ h1 h2:Heap,φ h1->(∀ o,h1.get? a=some o->h2.get? a=some o)->φ h2
noncomputable def HOk (H:Hp) (h:Heap):Prop:=∀ a o,H a=some o->qh P w H h a o
end
section
variable {P:Program}{w:World}{H H':Hp}{h h':Heap}{a:Addr}{o:HO}
theorem qh.lt (x:qh P w H h a o):a < h.objs.size:=by
 cases o with
 | lst xs=>obtain ⟨_,_,_,_,e⟩:=x; exact Heap.lt_size e
 | tup xs=>obtain ⟨_,_,_,p⟩:=x; exact p.lt
 | dK kvs=>obtain ⟨_,_,_,_,o,_,_,e,_⟩:=x; exact Heap.lt_size e
 | dT kvs=>obtain ⟨_,_,_,_,o,_,_,e,_⟩:=x; exact Heap.lt_size e
 | set S n=>obtain ⟨o,_,_,_,e,_⟩:=x; exact Heap.lt_size e
 | ins C dx fs=>obtain ⟨_,_,_,e,_⟩:=x; exact Heap.lt_size e
 | own y=>obtain ⟨_,e⟩:=x; exact Heap.lt_size e
 | xd fs=>obtain ⟨_,⟨_,_,_,e,_⟩,_⟩:=x; exact Heap.lt_size e
 | rng lo hi=>obtain ⟨_,_,_,e⟩:=x; exact Heap.lt_size e
 | frz ob u=>obtain ⟨e,_⟩:=x; exact Heap.lt_size e
 | tbl ps=>exact Heap.lt_size (show h.get? a=some _ from x)
 | met f y=>exact Heap.lt_size (show h.get? a=some _ from x)
 | ext φ=>obtain ⟨_,⟨_,e⟩,_⟩:=x; exact Heap.lt_size e
theorem Paired.mapP {α β:Type}{F G:α->β->Prop}:∀ {l₁:List α}{l₂:List β},Paired F l₁ l₂->(∀ a b,F a b->G a b)->Paired G l₁ l₂
 | _,_,.nil,_=> .nil
 | _,_,.cons r t,f=> .cons (f _ _ r) (Paired.mapP t f)
theorem qh.stay (x:qh P w H h a o) (k:∀ b u,(b=a ∨ H b=some (.own a))->h.get? b=some u->h'.get? b=some u)
  (ho:∀ b,H b=some (.own a)->H' b=some (.own a)) (ht:∀ b xs,H b=some (.tup xs)->H' b=some (.tup xs)):qh P w H' h' a o:=by
 induction o with
 | lst xs=>obtain ⟨z,its,n,r,e⟩:=x; exact ⟨z,its,n,r,k _ _ (.inl rfl) e⟩
 | tup xs=>obtain ⟨z,its,r,ob,e,c⟩:=x; exact ⟨z,its,r,ob,k _ _ (.inl rfl) e,c⟩
 | dK kvs=>obtain ⟨z,y,vs,r,ob,es,ep,e,c⟩:=x; exact ⟨z,y,vs,r,ob,es,ep,k _ _ (.inl rfl) e,c⟩
 | dT kvs=>
  obtain ⟨z,y,xs,r,ob,es,ep,e,c⟩:=x
  exact ⟨z,y,xs,Paired.mapP r fun p q z=>⟨z.1,ht _ _ z.2.1,z.2.2⟩,ob,es,ep,k _ _ (.inl rfl) e,c⟩
 | set S n=>obtain ⟨ob,es,ep,t,e,c⟩:=x; exact ⟨ob,es,ep,t,k _ _ (.inl rfl) e,c⟩
 | ins C dx fs=>
  obtain ⟨d,z,ne,e,mA,⟨od,es,ep,e2,c⟩,r⟩:=x
  exact ⟨ho _ d,z,ne,k _ _ (.inl rfl) e,mA,⟨od,es,ep,k _ _ (.inr d) e2,c⟩,r⟩
 | own y=>obtain ⟨ob,e⟩:=x; exact ⟨ob,k _ _ (.inl rfl) e⟩
 | xd fs=>obtain ⟨mA,⟨od,es,ep,e,c⟩,r⟩:=x; exact ⟨mA,⟨od,es,ep,k _ _ (.inl rfl) e,c⟩,r⟩
 | rng lo hi=>obtain ⟨t,u,v,e⟩:=x; exact ⟨t,u,v,k _ _ (.inl rfl) e⟩
 | frz ob u ih=>obtain ⟨e,q⟩:=x; exact ⟨k _ _ (.inl rfl) e,ih q⟩
 | tbl ps=>
  have e:h.get? a=some { cls:= .none,data:= .fields ps }:=x
  show h'.get? a=some { cls:= .none,data:= .fields ps }
  exact k a _ (.inl rfl) e
 | met f y=>
  have e:h.get? a=some (PySem.W.methodObj (.ref f) (.ref y)):=x
  show h'.get? a=some (PySem.W.methodObj (.ref f) (.ref y))
  exact k a _ (.inl rfl) e
 | ext φ=>obtain ⟨p,⟨o,e⟩,st⟩:=x; exact ⟨st _ _ p fun o q=>k _ _ (.inl rfl) q,⟨o,k _ _ (.inl rfl) e⟩,st⟩
theorem HOk.lt (x:HOk P w H h) (e:H a=some o):a < h.objs.size:=(x a o e).lt
theorem HOk.fresh (x:HOk P w H h) (e:h.objs.size<=a):H a=none:=by
 cases q:H a with
 | none=>rfl
 | some u=>exact absurd (Nat.lt_of_lt_of_le (x.lt q) e) (Nat.lt_irrefl _)
theorem HOk.kept (x:HOk P w H h) (k:∀ b u,h.get? b=some u->h'.get? b=some u):HOk P w H h':=fun a o e=>
 (x a o e).stay (fun b u _ q=>k b u q) (fun _ q=>q) fun _ _ q=>q
theorem HOk.laid (x:HOk P w H h) (k:∀ b u,h.get? b=some u->h'.get? b=some u) (hp:h.objs.size<=a) (new:qh P w (upd H a o) h' a o):HOk P w (upd H a o) h':=fun b u e=>by
 have hn:=x.fresh hp
 by_cases hb:b=a
 ·subst hb; rw [jp] at e; cases e; exact new
 ·rw [jl hb] at e
  exact (x b u e).stay (fun c v _ q=>k c v q) (fun c q=>by rw [jl (j0 q hn)]; exact q) fun c xs q=>by rw [jl (j0 q hn)]; exact q
end
noncomputable def Rd (H:Hp) (a:Addr) (u:HO):Prop:=H a=some u ∨ ∃ o,H a=some (.frz o u)
theorem Rd.of {H:Hp}{a:Addr}{u:HO} (h:H a=some u):Rd H a u:= .inl h
theorem Rd.ok {P:Program}{w:World}{H:Hp}{h:Heap}{a:Addr}{u:HO} (r:Rd H a u) (x:HOk P w H h):qh P w H h a u:=by
 rcases r with r | ⟨o,r⟩
 ·exact x a u r
 ·obtain ⟨_,q⟩:=x a _ r
  exact q
noncomputable def Mut:Option HO->Prop
 | some (.lst _)=>True
 | some (.dK _)=>True
 | some (.dT _)=>True
 | some (.set _ _)=>True
 | some (.ins _ _ _)=>True
 | some (.ext _)=>True
 | _=>False
section
variable {P:Program}{w:World}{H:Hp}{h h':Heap}{x e:Addr}{o':HO}
theorem HOk.write (ok:HOk P w H h) (mu:Mut (H x)) (he:e=x ∨ H e=some (.own x)) (k:∀ b u,b ≠ e->h.get? b=some u->h'.get? b=some u) (heo:∃ u,h'.get? e=some u)
  (new:qh P w (upd H x o') h' x o'):HOk P w (upd H x o') h':=fun b u q=>by
 have nown:∀ c y,H c=some (.own y)->c ≠ x:=fun c y r z=>by subst z; rw [r] at mu; exact mu
 have ntup:∀ c xs,H c=some (.tup xs)->c ≠ x:=fun c xs r z=>by subst z; rw [r] at mu; exact mu
 by_cases hb:b=x
 ·subst hb; rw [jp] at q; cases q; exact new
 ·rw [jl hb] at q
  by_cases hbe:b=e
  ·have q':H b=some (.own x):=by
    rcases he with z | z
    ·exact absurd (hbe.trans z) hb
    ·rw [hbe]; exact z
   rw [q] at q'; cases q'
   obtain ⟨v,hv⟩:=heo
   exact ⟨v,by rw [hbe]; exact hv⟩
  ·refine (ok b u q).stay (fun c v hc r=>k c v ?_ r) (fun c r=>by rw [jl (nown c b r)]; exact r) fun c xs r=>by rw [jl (ntup c xs r)]; exact r
   rcases hc with rfl | hc
   ·exact hbe
   ·rintro rfl
    rcases he with z | z
    ·exact nown c b hc z
    ·rw [hc] at z; cases z; exact hb rfl
end
structure Un (fs ex:List Addr) (H H':Hp) (h h':Heap):Prop where
 keep:∀ b o,h.get? b=some o->H b=none->b ∉ fs->b ∉ ex->h'.get? b=some o
 slot:∀ b o,h.get? b=some o->H b=none->b ∈ fs->b ∉ ex->∃ sl,h'.get? b=some { o with slots:=sl }
 free:∀ b o,h.get? b=some o->H b=none->b ∉ ex->H' b=none
 there:∀ b o,h.get? b=some o->b ∉ ex->∃ o',h'.get? b=some o'
 tups:∀ b xs,H b=some (.tup xs)->H' b=some (.tup xs)
 frzs:∀ b o u,H b=some (.frz o u)->H' b=some (.frz o u)
 tbls:∀ b ps,H b=some (.tbl ps)->∃ more,H' b=some (.tbl (ps++more))
section
variable {fs fs' ex ex':List Addr}{H H1 H2:Hp}{h h1 h2 h':Heap}{a x e:Addr}{o:HO}
theorem Un.any (u:Un fs ex H H1 h h1) {b:Addr}{ob:Obj} (q:h.get? b=some ob) (n:H b=none) (hx:b ∉ ex):∃ sl,h1.get? b=some { ob with slots:=sl }:=by
 by_cases hb:b ∈ fs
 ·exact u.slot b ob q n hb hx
 ·exact ⟨ob.slots,u.keep b ob q n hb hx⟩
theorem Un.trans (a:Un fs ex H H1 h h1) (b:Un fs ex H1 H2 h1 h2):Un fs ex H H2 h h2 where
 keep:=fun c ob q n hc hx=>b.keep c ob (a.keep c ob q n hc hx) (a.free c ob q n hx) hc hx
 slot:=fun c ob q n hc hx=>by
  obtain ⟨sl,e1⟩:=a.slot c ob q n hc hx
  obtain ⟨sl',e2⟩:=b.slot c _ e1 (a.free c ob q n hx) hc hx
  exact ⟨sl',e2⟩
 free:=fun c ob q n hx=>by
  obtain ⟨o',e1⟩:=a.there c ob q hx
  exact b.free c o' e1 (a.free c ob q n hx) hx
 there:=fun c ob q hx=>by
  obtain ⟨o',e1⟩:=a.there c ob q hx
  exact b.there c o' e1 hx
 tups:=fun c xs q=>b.tups c xs (a.tups c xs q)
 frzs:=fun c ob xs q=>b.frzs c ob xs (a.frzs c ob xs q)
 tbls:=fun c ps q=>by
  obtain ⟨m1,e1⟩:=a.tbls c ps q
  obtain ⟨m2,e2⟩:=b.tbls c _ e1
  exact ⟨m1++m2,by rw [e2,Array.append_assoc]⟩
theorem Un.kept (k:∀ b u,h.get? b=some u->h'.get? b=some u):Un fs ex H H h h':=
 ⟨fun b ob q _ _ _=>k b ob q,fun b ob q _ _ _=>⟨ob.slots,k b ob q⟩,fun _ _ _ n _=>n,fun b ob q _=>⟨ob,k b ob q⟩,fun _ _ q=>q,fun _ _ _ q=>q,fun _ ps q=>⟨#[],by rw [q]; simp⟩⟩
theorem Un.refl:Un fs ex H H h h:=Un.kept fun _ _ q=>q
theorem Un.laid (k:∀ b u,h.get? b=some u->h'.get? b=some u) (hp:h.objs.size<=a) (hn:H a=none):Un fs ex H (upd H a o) h h' where
 keep:=fun b u q _ _ _=>k b u q
 slot:=fun b u q _ _ _=>⟨u.slots,k b u q⟩
 free:=fun b u q n _=>by rw [jl (Nat.ne_of_lt (Nat.lt_of_lt_of_le (Heap.lt_size q) hp))]; exact n
 there:=fun b u q _=>⟨u,k b u q⟩
 tups:=fun b xs q=>by rw [jl (j0 q hn)]; exact q
 frzs:=fun b u xs q=>by rw [jl (j0 q hn)]; exact q
 tbls:=fun b ps q=>⟨#[],by rw [jl (j0 q hn),q]; simp⟩
theorem Un.write (mu:Mut (H x)) (he:e=x ∨ H e=some (.own x)) (k:∀ b u,b ≠ e->h.get? b=some u->h'.get? b=some u) (heo:∃ u,h'.get? e=some u):Un fs ex H (upd H x o) h h':=by
 have hx:∀ b,H b=none->b ≠ x:=fun b n z=>by subst z; rw [n] at mu; exact mu
 have hb:∀ b,H b=none->b ≠ e:=fun b n z=>by
  subst z
  rcases he with r | r
  ·exact hx b n r
  ·rw [n] at r; cases r
 have hm:∀ b u,H b=some u->¬ Mut (some u)->b ≠ x:=fun b u q nm z=>by subst z; rw [q] at mu; exact nm mu
 refine ⟨fun b u q n _ _=>k b u (hb b n) q,fun b u q n _ _=>⟨u.slots,k b u (hb b n) q⟩,fun b u q n _=>by rw [jl (hx b n)]; exact n,fun b u q _=>?_,
  fun b xs q=>by rw [jl (hm b _ q fun z=>z)]; exact q,fun b u xs q=>by rw [jl (hm b _ q fun z=>z)]; exact q,fun b ps q=>⟨#[],by rw [jl (hm b _ q fun z=>z),q]; simp⟩⟩
 by_cases hbe:b=e
 ·subst hbe; exact heo
 ·exact ⟨u,k b u hbe q⟩
theorem Un.mono (u:Un fs ex H H1 h h1) (hs:∀ b ∈ fs,b ∈ fs') (hx:∀ b ∈ ex,b ∈ ex'):Un fs' ex' H H1 h h1:=
 ⟨fun b ob q n hb he=>u.keep b ob q n (fun z=>hb (hs b z)) fun z=>he (hx b z),fun _ _ q n _ he=>u.any q n fun z=>he (hx _ z),fun b ob q n he=>u.free b ob q n fun z=>he (hx b z),fun b ob q he=>u.there b ob q fun z=>he (hx b z),u.tups,u.frzs,u.tbls⟩
end
noncomputable def trk (h:Heap) (H:Hp):List Addr:=(List.range h.objs.size).filter fun a=>(H a).isSome
noncomputable def aa1 (h:Heap) (H:Hp):Heap:=PySem.W.hideAll h (trk h H)
theorem adX (h:Heap) (H:Hp):(aa1 h H).objs.size=h.objs.size:=PySem.W.hideAll_size _ _
theorem aeW {h:Heap}{H:Hp}{b:Addr}{o:Obj} (e:h.get? b=some o) (n:H b=none):(aa1 h H).get? b=some o:=
 PySem.W.hideAll_get _ e fun hm=>by
  have q:(H b).isSome=true:=(List.mem_filter.mp hm).2
  rw [n] at q; simp at q
theorem agQ {h:Heap}{H:Hp}{b:Addr}{o:Obj} (e:(aa1 h H).get? b=some o):h.get? b=some o/\H b=none:=by
 have e':h.get? b=some o:=PySem.W.of_hideAll (trk h H) e
 refine ⟨e',?_⟩
 cases q:H b with
 | none=>rfl
 | some x=>
  have hm:b ∈ trk h H:=List.mem_filter.mpr ⟨List.mem_range.mpr (Heap.lt_size e'),by simp [q]⟩
  have z:(aa1 h H).get? b=none:=PySem.W.hideAll_none (trk h H) hm
  rw [z] at e; cases e
noncomputable def agR (g h:Heap) (L:Addr):List (Addr × Obj):=(List.range h.objs.size).filterMap fun a=>if a=L ∨ (g.get? a).isSome=true then none else (h.get? a).map fun o=>(a,o)
noncomputable def jO (g h:Heap) (L d:Addr):List (Addr × Obj):=(agR g h L).filter fun p=>decide (p.1 ≠ d)
end L2
namespace L2
open PySem PySem.Spec PyProof.Rows
structure Mod (K:PySem.W.Frag) (mg:Str->Option Value) (base:Heap):Prop where
 kin:K.In base
 glob:base.Ns mainGlobals mg
 blt:∃ mb,base.Ns builtinsNs mb/\∀ x:Str,x ≠ "__name__"->mb x=bootBuiltins x
 nolimit:base.NoLimit
structure Cx where
 prog:Program
 w:World
 K:PySem.W.Frag
 mg:Str->Option Value
 base:Heap
 A:Around
 N:List Str
 s₀:Shared
 H₀:Hp
 env:Env
 outer:List Env
 stack:List Env
 ex:List Addr
 fn:Str->Bool
 calm:Bool
 pn:List (Addr × Obj)
 xe:Value->Shared->Prop
noncomputable def frs (l:List Env):List Addr:=l.filterMap (·.frame)
noncomputable abbrev Cx.fs (X:Cx):List Addr:=frs X.outer
noncomputable def Vis (sc:Scope) (x:Str):Prop:=sc.names.lookup x=some .local ∨ sc.names.lookup x=some .cell ∨ sc.names.lookup x=some .free
noncomputable def Loc (sc:Scope) (x:Str):Prop:=sc.names.lookup x=some .local ∨ sc.names.lookup x=some .cell
noncomputable def akK (env:Env) (h:Heap) (m:Str->Option Value) (x:Str) (u:Value):Prop:=
 (env.kindOf x=some .local/\m x=some u) ∨ ((env.kindOf x=some .cell ∨ env.kindOf x=some .free)/\∃ c,env.cells.lookup x=some c/\h.IsCell c (some u))
structure Cx.Ok (X:Cx):Prop where
 mod:Mod X.K X.mg X.base
 kind:X.env.scope.kind= .function
 glob:X.env.globals=mainGlobals
 blt:X.env.builtins=builtinsNs
 above:X.s₀.heap.objs.size<=X.env.locals
 inj:∀ x y c,X.env.cells.lookup x=some c->X.env.cells.lookup y=some c->x=y
 has:∀ x,(X.env.kindOf x=some .cell ∨ X.env.kindOf x=some .free)->∃ c,X.env.cells.lookup x=some c
 cab:∀ x c,X.fn x=true->X.env.cells.lookup x=some c->X.s₀.heap.objs.size<=c
 hd:X.calm=true->X.A.handled=none
 frames:X.A.frames=some X.stack
 stk:X.stack=X.outer ∨ (X.stack=X.env::X.outer/\X.env.frame=some X.env.locals)
 exf:∀ b ∈ X.ex,b ≠ X.env.locals/\∀ x c,X.env.cells.lookup x=some c->c ≠ b
 bs:∀ b o,X.base.get? b=some o->X.s₀.heap.get? b=some o/\X.H₀ b=none
 bsz:X.base.objs.size<=X.s₀.heap.objs.size
 noex:∀ b o,X.base.get? b=some o->b ∉ X.ex
 exfs:∀ b ∈ X.ex,b ∉ X.fs
 funs:X.s₀.heap.FunFrames X.base X.outer
 frf:∀ b ∈ X.fs,X.H₀ b=none
structure Inv (X:Cx) (pins:List (Addr × Obj)) (σ:List (Option V)) (H:Hp) (s:Shared):Prop where
 ok:X.Ok
 os:s.os=X.s₀.os
 bare:AllBare s.gens
 base:Un X.fs X.ex X.H₀ H X.s₀.heap s.heap
 loc:∃ m,s.heap.Ns X.env.locals m/\∀ (i:Nat) (x:Str) (v:V),X.N[i]?=some x->σ[i]?=some (some v)->Vis X.env.scope x->∃ u,jy v u/\akK X.env s.heap m x u
 cell:∀ x c,X.env.cells.lookup x=some c->∃ v,s.heap.IsCell c v
 free:H X.env.locals=none
 freeC:∀ x c,X.env.cells.lookup x=some c->H c=none
 pin:∀ p ∈ X.pn++pins,s.heap.get? p.1=some p.2/\H p.1=none/\p.1 ≠ X.env.locals/\p.1 ∉ X.fs/\∀ v,p.2.data ≠ .cell v
 hok:HOk X.prog X.w H s.heap
 len:σ.length=X.N.length
section
variable {X:Cx}{pins:List (Addr × Obj)}{σ:List (Option V)}{H H':Hp}{s:Shared}{h':Heap}
theorem Cx.Ok.nofr (ok:X.Ok) {b:Addr}{o:Obj} (e:X.base.get? b=some o):b ∉ X.fs:=fun hb=>by
 have:=(ok.funs.mem hb).1
 rw [e] at this; cases this
theorem Inv.bs (I:Inv X pins σ H s):∀ b o,X.base.get? b=some o->s.heap.get? b=some o/\H b=none:=fun b o e=>
 ⟨I.base.keep b o (I.ok.bs b o e).1 (I.ok.bs b o e).2 (I.ok.nofr e) (I.ok.noex b o e),I.base.free b o (I.ok.bs b o e).1 (I.ok.bs b o e).2 (I.ok.noex b o e)⟩
theorem Inv.bk (I:Inv X pins σ H s):∀ b o,X.base.get? b=some o->s.heap.get? b=some o:=fun b o e=>(I.bs b o e).1
theorem Inv.mod (I:Inv X pins σ H s):Mod X.K X.mg X.base:=I.ok.mod
theorem Inv.kIn (I:Inv X pins σ H s):X.K.In s.heap:=I.ok.mod.kin.keeps I.bk
theorem Inv.nolimit (I:Inv X pins σ H s):s.heap.NoLimit:=I.ok.mod.nolimit.keeps I.bk
theorem Inv.fr (I:Inv X pins σ H s):∃ m,Fr X.base X.env.locals s.heap m:=
 let ⟨m,hn,_⟩:=I.loc
 ⟨m,hn,I.bk,Nat.le_trans I.ok.bsz I.ok.above⟩
theorem Inv.lt (I:Inv X pins σ H s):X.env.locals < s.heap.objs.size:=let ⟨_,hn,_⟩:=I.loc; hn.lt
theorem Inv.sz (I:Inv X pins σ H s):X.s₀.heap.objs.size<=s.heap.objs.size:=Nat.le_trans I.ok.above (Nat.le_of_lt I.lt)
theorem Inv.nofs (I:Inv X pins σ H s) {a:Addr} (h:s.heap.objs.size<=a):a ∉ X.fs:=fun hb=>by
 obtain ⟨_,o,ho,_⟩:=I.ok.funs.mem hb
 exact absurd (Nat.lt_of_lt_of_le (Heap.lt_size ho) (Nat.le_trans I.sz h)) (Nat.lt_irrefl _)
theorem Inv.cne (I:Inv X pins σ H s):∀ x c,X.env.cells.lookup x=some c->c ≠ X.env.locals:=fun x c e z=>by
 obtain ⟨v,o,ho,hd⟩:=I.cell x c e
 obtain ⟨m,⟨o',es,ep,ho',hd',_⟩,_⟩:=I.loc
 rw [z,ho'] at ho; cases ho; rw [hd'] at hd; cases hd
theorem Inv.funs (I:Inv X pins σ H s):s.heap.FunFrames X.base X.outer:=by
 have all:∀ (l:List Env),(∀ b ∈ frs l,b ∈ X.fs)->X.s₀.heap.FunFrames X.base l->s.heap.FunFrames X.base l:=by
  intro l
  induction l with
  | nil=>intro _ _; trivial
  | cons env r ih=>
   intro hs hl
   obtain ⟨hk,⟨L,o,hf,hn,ho,hd⟩,hr⟩:=hl
   have hL:L ∈ X.fs:=hs L (by unfold frs; rw [List.filterMap_cons,hf]; exact List.mem_cons_self)
   obtain ⟨sl,e⟩:=I.base.slot L o ho (I.ok.frf L hL) hL fun z=>I.ok.exfs L z hL
   exact ⟨hk,⟨L,_,hf,hn,e,hd⟩,ih (fun b hb=>hs b (by unfold frs; rw [List.filterMap_cons,hf]; exact List.mem_cons_of_mem _ hb)) hr⟩
 exact all X.outer (fun _ hb=>hb) I.ok.funs
theorem Inv.stack (I:Inv X pins σ H s):s.heap.FunFrames X.base X.stack:=by
 rcases I.ok.stk with e | ⟨e,hf⟩
 ·rw [e]; exact I.funs
 ·rw [e]
  obtain ⟨m,hn,_⟩:=I.loc
  refine .cons (by rw [I.ok.kind]; decide) hf hn ?_ I.funs
  exact Heap.get?_none_of_le (Nat.le_trans I.ok.bsz I.ok.above)
theorem Inv.stkSub (I:Inv X pins σ H s):∀ b ∈ frs X.stack,b ∈ X.env.locals::X.fs:=fun b hb=>by
 rcases I.ok.stk with e | ⟨e,hf⟩
 ·rw [e] at hb; exact List.mem_cons_of_mem _ hb
 ·rw [e] at hb
  unfold frs at hb
  rw [List.filterMap_cons,hf] at hb
  exact hb
theorem Inv.stkFree (I:Inv X pins σ H s):∀ b ∈ frs X.stack,H b=none:=fun b hb=>by
 rcases List.mem_cons.mp (I.stkSub b hb) with e | hb
 ·rw [e]; exact I.free
 ·obtain ⟨_,o,ho,_⟩:=I.ok.funs.mem hb
  exact I.base.free b o ho (I.ok.frf b hb) fun z=>I.ok.exfs b z hb
theorem Inv.step {g':Array GenState}{t':Nat}{d':Drawn}{ch:List Addr} (I:Inv X pins σ H s)
  (hch:∀ b ∈ ch,(b ∈ X.ex ∨ X.s₀.heap.objs.size<=b)/\b ≠ X.env.locals/\(∀ x c,X.env.cells.lookup x=some c->c ≠ b)/\∀ p ∈ X.pn++pins,p.1 ≠ b)
  (keep:∀ b o,b ≠ X.env.locals->b ∉ X.fs->b ∉ ch->s.heap.get? b=some o->H b=none->h'.get? b=some o)
  (slot:∀ b o,b ≠ X.env.locals->b ∈ X.fs->b ∉ ch->s.heap.get? b=some o->H b=none->∃ sl,h'.get? b=some { o with slots:=sl }) (free:∀ b o,b ∉ ch->s.heap.get? b=some o->H b=none->H' b=none)
  (there:∀ b o,b ∉ ch->s.heap.get? b=some o->∃ o',h'.get? b=some o')
  (tups:∀ b xs,H b=some (.tup xs)->H' b=some (.tup xs)) (frzs:∀ b o u,H b=some (.frz o u)->H' b=some (.frz o u)) (tbls:∀ b ps,H b=some (.tbl ps)->∃ more,H' b=some (.tbl (ps++more)))
  (ns:∀ m,s.heap.Ns X.env.locals m->h'.Ns X.env.locals m) (hok:HOk X.prog X.w H' h') (hg:AllBare g'):
  Inv X pins σ H' { s with heap:=h',gens:=g',drawn:=d',toks:=t' }:=by
 have neL:∀ b o,X.s₀.heap.get? b=some o->b ≠ X.env.locals:=fun b o e=>Nat.ne_of_lt (Nat.lt_of_lt_of_le (Heap.lt_size e) I.ok.above)
 have neC:∀ b o,X.s₀.heap.get? b=some o->b ∉ X.ex->b ∉ ch:=fun b o e hx hb=>by
  rcases (hch b hb).1 with z | z
  ·exact hx z
  ·exact absurd (Nat.lt_of_lt_of_le (Heap.lt_size e) z) (Nat.lt_irrefl _)
 have cellK:∀ x c,X.env.cells.lookup x=some c->∀ v,s.heap.IsCell c v->h'.IsCell c v:=fun x c e v ⟨o,ho,hd⟩=>by
  have nch:c ∉ ch:=fun z=>(hch c z).2.2.1 x c e rfl
  by_cases hc:c ∈ X.fs
  ·obtain ⟨sl,q⟩:=slot c o (I.cne x c e) hc nch ho (I.freeC x c e)
   exact ⟨_,q,hd⟩
  ·exact ⟨o,keep c o (I.cne x c e) hc nch ho (I.freeC x c e),hd⟩
 refine ⟨I.ok,I.os,hg,⟨fun b o e n hb hx=>?_,fun b o e n hb hx=>?_,fun b o e n hx=>?_,fun b o e hx=>?_,fun b xs e=>tups b xs (I.base.tups b xs e),fun b o xs e=>frzs b o xs (I.base.frzs b o xs e),fun b ps e=>?_⟩,?_,fun x c e=>?_,?_,fun x c e=>?_,fun p hp=>?_,hok,I.len⟩
 ·exact keep b o (neL b o e) hb (neC b o e hx) (I.base.keep b o e n hb hx) (I.base.free b o e n hx)
 ·obtain ⟨sl,e1⟩:=I.base.slot b o e n hb hx
  obtain ⟨sl',e2⟩:=slot b _ (neL b o e) hb (neC b o e hx) e1 (I.base.free b o e n hx)
  exact ⟨sl',e2⟩
 ·obtain ⟨o',e1⟩:=I.base.there b o e hx
  exact free b o' (neC b o e hx) e1 (I.base.free b o e n hx)
 ·obtain ⟨o',e1⟩:=I.base.there b o e hx
  exact there b o' (neC b o e hx) e1
 ·obtain ⟨m1,e1⟩:=I.base.tbls b ps e
  obtain ⟨m2,e2⟩:=tbls b _ e1
  exact ⟨m1++m2,by rw [e2,Array.append_assoc]⟩
 ·obtain ⟨m,hn,hl⟩:=I.loc
  refine ⟨m,ns m hn,fun i x v e1 e2 e3=>?_⟩
  obtain ⟨u,r,l⟩:=hl i x v e1 e2 e3
  refine ⟨u,r,?_⟩
  rcases l with l | ⟨k,c,e,z⟩
  ·exact .inl l
  ·exact .inr ⟨k,c,e,cellK x c e _ z⟩
 ·obtain ⟨v,z⟩:=I.cell x c e
  exact ⟨v,cellK x c e v z⟩
 ·obtain ⟨m,⟨o,_,_,ho,_⟩,_⟩:=I.loc
  exact free _ o (fun z=>(hch _ z).2.1 rfl) ho I.free
 ·obtain ⟨v,o,ho,hd⟩:=I.cell x c e
  exact free c o (fun z=>(hch c z).2.2.1 x c e rfl) ho (I.freeC x c e)
 ·obtain ⟨e,n,ne,nf,d⟩:=I.pin p hp
  have nch:p.1 ∉ ch:=fun z=>(hch p.1 z).2.2.2 p hp rfl
  exact ⟨keep p.1 p.2 ne nf nch e n,free p.1 p.2 nch e n,ne,nf,d⟩
theorem Inv.un {t':Nat} (I:Inv X pins σ H s) (u:Un X.fs [] H H' s.heap h') (hok:HOk X.prog X.w H' h'):Inv X pins σ H' { s with heap:=h',toks:=t' }:=by
 obtain ⟨m,⟨o,es,ep,ho,r⟩,_⟩:=id I.loc
 obtain ⟨sl,hL⟩:=u.any ho I.free (by simp)
 exact I.step (g':=s.gens) (d':=s.drawn) (ch:=[]) (fun _ z=>nomatch z) (fun b o _ hb _ e n=>u.keep b o e n hb (by simp)) (fun b o _ hb _ e n=>u.slot b o e n hb (by simp)) (fun b o _ e n=>u.free b o e n (by simp)) (fun b o _ e=>u.there b o e (by simp)) u.tups u.frzs u.tbls (fun m' hm=>by
  obtain ⟨o',es',ep',ho',r'⟩:=hm
  rw [ho] at ho'; cases ho'
  exact ⟨_,es',ep',hL,r'⟩) hok I.bare
theorem Inv.call {g':Array GenState}{t':Nat}{d':Drawn}{ch:List Addr} (I:Inv X pins σ H s) (u:Un (frs X.stack) ch H H' s.heap h') (hok:HOk X.prog X.w H' h') (hg:AllBare g')
  (hch:∀ b ∈ ch,(b ∈ X.ex ∨ X.s₀.heap.objs.size<=b)/\b ≠ X.env.locals/\(∀ x c,X.env.cells.lookup x=some c->c ≠ b)/\∀ p ∈ X.pn++pins,p.1 ≠ b):
  Inv X pins σ H' { s with heap:=h',gens:=g',drawn:=d',toks:=t' }:=by
 obtain ⟨m,⟨o,es,ep,ho,r⟩,_⟩:=id I.loc
 obtain ⟨sl,hL⟩:=u.any ho I.free fun z=>(hch _ z).2.1 rfl
 exact I.step (ch:=ch) hch (fun b o hL hb hc e n=>u.keep b o e n (fun z=>(List.mem_cons.mp (I.stkSub b z)).elim hL hb) hc) (fun b o _ _ hc e n=>u.any e n hc) (fun b o hc e n=>u.free b o e n hc) (fun b o hc e=>u.there b o e hc) u.tups u.frzs u.tbls (fun m' hm=>by
  obtain ⟨o',es',ep',ho',r'⟩:=hm
  rw [ho] at ho'; cases ho'
  exact ⟨_,es',ep',hL,r'⟩) hok hg
theorem Inv.turned {t':Nat}{it:Addr} (I:Inv X pins σ H s) (k:∀ b o,b ≠ it->s.heap.get? b=some o->h'.get? b=some o) (hn:H it=none) (hL:it ≠ X.env.locals)
  (h1:it ∈ X.ex ∨ X.s₀.heap.objs.size<=it) (h2:∀ x c,X.env.cells.lookup x=some c->c ≠ it) (h3:∀ p ∈ X.pn++pins,p.1 ≠ it):Inv X pins σ H { s with heap:=h',toks:=t' }:=by
 have nit:∀ b u,H b=some u->b ≠ it:=fun b u e z=>by rw [z,hn] at e; cases e
 refine I.step (g':=s.gens) (d':=s.drawn) (ch:=[it]) (fun b hb=>?_) (fun b o _ _ hc e _=>k b o (fun z=>hc (by simp [z])) e) (fun b o _ _ hc e _=>⟨o.slots,k b o (fun z=>hc (by simp [z])) e⟩) (fun _ _ _ _ n=>n)
  (fun b o hc e=>⟨o,k b o (fun z=>hc (by simp [z])) e⟩) (fun _ _ e=>e) (fun _ _ _ e=>e) (fun b ps e=>⟨#[],by rw [e]; simp⟩) (fun m hm=>?_) (fun b u e=>?_) I.bare
 ·have e:b=it:=by simpa using hb
  subst e
  exact ⟨h1,hL,h2,h3⟩
 ·obtain ⟨o,es,ep,ho,r⟩:=hm
  exact ⟨o,es,ep,k _ o (Ne.symm hL) ho,r⟩
 ·refine (I.hok b u e).stay (fun c v hc q=>k c v ?_ q) (fun _ q=>q) fun _ _ q=>q
  rcases hc with z | z
  ·rw [z]; exact nit b u e
  ·exact nit c _ z
theorem Inv.tok (I:Inv X pins σ H s) (t:Nat):Inv X pins σ H { s with toks:=t }:=I.un (h':=s.heap) (t':=t) Un.refl I.hok
theorem Inv.kept {t':Nat} (I:Inv X pins σ H s) (k:∀ b u,s.heap.get? b=some u->h'.get? b=some u):Inv X pins σ H { s with heap:=h',toks:=t' }:=I.un (Un.kept k) (I.hok.kept k)
theorem Inv.laid {a:Addr}{o:HO}{t':Nat} (I:Inv X pins σ H s) (k:∀ b u,s.heap.get? b=some u->h'.get? b=some u) (hp:s.heap.objs.size<=a) (new:qh X.prog X.w (upd H a o) h' a o):
  Inv X pins σ (upd H a o) { s with heap:=h',toks:=t' }:=I.un (Un.laid k hp (I.hok.fresh hp)) (I.hok.laid k hp new)
theorem Inv.write {x e:Addr}{o:HO}{t':Nat} (I:Inv X pins σ H s) (mu:Mut (H x)) (he:e=x ∨ H e=some (.own x)) (k:∀ b u,b ≠ e->s.heap.get? b=some u->h'.get? b=some u) (heo:∃ u,h'.get? e=some u)
  (new:qh X.prog X.w (upd H x o) h' x o):Inv X pins σ (upd H x o) { s with heap:=h',toks:=t' }:=I.un (Un.write mu he k heo) (I.hok.write mu he k heo new)
theorem Inv.pins_of {pins':List (Addr × Obj)} (I:Inv X pins σ H s) (h:∀ p ∈ pins',s.heap.get? p.1=some p.2/\H p.1=none/\p.1 ≠ X.env.locals/\p.1 ∉ X.fs/\∀ v,p.2.data ≠ .cell v):Inv X pins' σ H s:=
 ⟨I.ok,I.os,I.bare,I.base,I.loc,I.cell,I.free,I.freeC,fun p hp=>(List.mem_append.mp hp).elim (fun z=>I.pin p (List.mem_append_left _ z)) (h p),I.hok,I.len⟩
theorem abQ {N:List Str} (hN:N.Nodup) {i j:Nat}{x:Str} (a:N[i]?=some x) (b:N[j]?=some x):i=j:=by
 obtain ⟨h1,e1⟩:=List.getElem?_eq_some_iff.mp a
 obtain ⟨h2,e2⟩:=List.getElem?_eq_some_iff.mp b
 exact (List.getElem_inj hN).mp (e1.trans e2.symm)
theorem adY {M:Model}{A:Around}{E:Value->Shared->Prop}{i:Nat}{x:Str}{v:V}{u:Value}{Q:Unit->Shared->Prop} (I:Inv X pins σ H s) (hN:X.N.Nodup) (hi:X.N[i]?=some x) (hx:Loc X.env.scope x) (r:jy v u)
  (h:∀ s',Inv X pins (σ.set i (some v)) H s'->(∃ a,Heap.SameBut a s.heap s'.heap/\(a=X.env.locals ∨ X.env.cells.lookup x=some a))->Q () s') (hf:X.fn x=true ∨ X.env.scope.names.lookup x=some .local:=by first | exact .inl rfl | exact .inr rfl | assumption):wpAny M A (storeName X.env x u) Q E s:=by
 obtain ⟨m,hn,hl⟩:=id I.loc
 have hcls:(X.env.scope.kind == .class || (X.env.scope.kind == .module && X.env.locals != X.env.globals))=false:=by rw [I.ok.kind]; rfl
 have hiσ:i < σ.length:=by rw [I.len]; exact (List.getElem?_eq_some_iff.mp hi).1
 have cne:=I.cne
 have tracked:∀ {a:Addr} {h':Heap},(∃ o,s.heap.get? a=some o/\H a=none)->Heap.SameBut a s.heap h'->HOk X.prog X.w H h':=fun {a h'} ha hs b ob e=>by
  obtain ⟨_,_,hfree⟩:=ha
  refine (I.hok b ob e).stay (fun c w' hc q=>(hs.2 c ?_).trans q) (fun _ q=>q) fun _ _ q=>q
  rintro rfl
  rcases hc with rfl | hc
  ·rw [hfree] at e; cases e
  ·rw [hfree] at hc; cases hc
 rcases hx with hk | hk
 ·refine wpAny_storeName_local hk hn (fun h' hn' hs=>?_) hcls
  obtain ⟨oL,_,_,hoL,_⟩:=id hn
  refine h _ ⟨I.ok,I.os,I.bare,⟨fun b o e n hb hx=>?_,fun b o e n hb hx=>?_,I.base.free,fun b o e hx=>?_,I.base.tups,I.base.frzs,I.base.tbls⟩,⟨_,hn',fun j y v' e1 e2 e3=>?_⟩,fun y c e=>?_,I.free,I.freeC,fun p hp=>?_,tracked ⟨oL,hoL,I.free⟩ hs,by simpa using I.len⟩ ⟨_,hs,.inl rfl⟩
  ·exact (hs.2 b (Nat.ne_of_lt (Nat.lt_of_lt_of_le (Heap.lt_size e) I.ok.above))).trans (I.base.keep b o e n hb hx)
  ·obtain ⟨sl,e1⟩:=I.base.slot b o e n hb hx
   exact ⟨sl,(hs.2 b (Nat.ne_of_lt (Nat.lt_of_lt_of_le (Heap.lt_size e) I.ok.above))).trans e1⟩
  ·obtain ⟨o',e1⟩:=I.base.there b o e hx
   exact ⟨o',(hs.2 b (Nat.ne_of_lt (Nat.lt_of_lt_of_le (Heap.lt_size e) I.ok.above))).trans e1⟩
  ·by_cases hj:j=i
   ·subst hj
    rw [hi] at e1; cases e1
    rw [List.getElem?_set_self hiσ] at e2
    cases e2
    exact ⟨u,r,.inl ⟨hk,by simp⟩⟩
   ·rw [List.getElem?_set_ne (Ne.symm hj)] at e2
    obtain ⟨u',r',q⟩:=hl j y v' e1 e2 e3
    refine ⟨u',r',?_⟩
    rcases q with ⟨k,e⟩ | ⟨k,c,e,z⟩
    ·refine .inl ⟨k,?_⟩
     have:y ≠ x:=fun e=>hj (abQ hN e1 (e ▸ hi))
     simp [this,e]
    ·exact .inr ⟨k,c,e,z.sameBut hs (cne y c e)⟩
  ·obtain ⟨w',z⟩:=I.cell y c e
   exact ⟨w',z.sameBut hs (cne y c e)⟩
  ·obtain ⟨e,n,ne,nf,d⟩:=I.pin p hp
   exact ⟨(hs.2 p.1 ne).trans e,n,ne,nf,d⟩
 ·have hfn:X.fn x=true:=by
   rcases hf with z | z
   ·exact z
   ·rw [z] at hk; cases hk
  obtain ⟨c,hc⟩:=I.ok.has x (.inl hk)
  obtain ⟨w',z⟩:=I.cell x c hc
  refine wpAny_storeName_cell I.ok.kind hk hc z (fun h' hc' hs=>?_)
  obtain ⟨oc,hoc,hocd⟩:=id z
  refine h { s with heap:=h' } ⟨I.ok,I.os,I.bare,⟨fun b o e n hb hx=>?_,fun b o e n hb hx=>?_,I.base.free,fun b o e hx=>?_,I.base.tups,I.base.frzs,I.base.tbls⟩,⟨m,hn.sameBut hs (Ne.symm (cne x c hc)),fun j y v' e1 e2 e3=>?_⟩,fun y c' e=>?_,I.free,I.freeC,fun p hp=>?_,tracked ⟨oc,hoc,I.freeC x c hc⟩ hs,by simpa using I.len⟩ ⟨c,hs,.inr hc⟩
  ·exact (hs.2 b (Nat.ne_of_lt (Nat.lt_of_lt_of_le (Heap.lt_size e) (I.ok.cab x c hfn hc)))).trans (I.base.keep b o e n hb hx)
  ·obtain ⟨sl,e1⟩:=I.base.slot b o e n hb hx
   exact ⟨sl,(hs.2 b (Nat.ne_of_lt (Nat.lt_of_lt_of_le (Heap.lt_size e) (I.ok.cab x c hfn hc)))).trans e1⟩
  ·obtain ⟨o',e1⟩:=I.base.there b o e hx
   exact ⟨o',(hs.2 b (Nat.ne_of_lt (Nat.lt_of_lt_of_le (Heap.lt_size e) (I.ok.cab x c hfn hc)))).trans e1⟩
  ·by_cases hj:j=i
   ·subst hj
    rw [hi] at e1; cases e1
    rw [List.getElem?_set_self hiσ] at e2
    cases e2
    exact ⟨u,r,.inr ⟨.inl hk,c,hc,hc'⟩⟩
   ·rw [List.getElem?_set_ne (Ne.symm hj)] at e2
    obtain ⟨u',r',q⟩:=hl j y v' e1 e2 e3
    refine ⟨u',r',?_⟩
    rcases q with q | ⟨k,c',e,z'⟩
    ·exact .inl q
    ·refine .inr ⟨k,c',e,z'.sameBut hs ?_⟩
     rintro rfl
     exact hj (abQ hN e1 (I.ok.inj _ _ _ e hc ▸ hi))
  ·by_cases hcc:c'=c
   ·subst hcc; exact ⟨_,hc'⟩
   ·obtain ⟨w2,z2⟩:=I.cell y c' e
    exact ⟨w2,z2.sameBut hs hcc⟩
  ·obtain ⟨e,n,ne,nf,d⟩:=I.pin p hp
   refine ⟨(hs.2 p.1 ?_).trans e,n,ne,nf,d⟩
   intro q
   rw [q,hoc] at e
   have q':oc=p.2:=Option.some.inj e
   exact d w' (by rw [←q']; exact hocd)
theorem ZQ {M:Model}{A:Around}{E:Value->Shared->Prop}{i:Nat}{x:Str}{v:V}{u:Value}{Q:Unit->Shared->Prop} (I:Inv X pins σ H s) (hN:X.N.Nodup) (hi:X.N[i]?=some x) (hx:Loc X.env.scope x) (r:jy v u)
  (h:∀ s',Inv X pins (σ.set i (some v)) H s'->Q () s') (hf:X.fn x=true ∨ X.env.scope.names.lookup x=some .local:=by first | exact .inl rfl | exact .inr rfl | assumption):wpAny M A (storeName X.env x u) Q E s:=
 adY I hN hi hx r (fun s' I' _=>h s' I') hf
theorem Inv.call' {s':Shared}{ch:List Addr} (I:Inv X pins σ H s) (ho:s'.os=s.os) (u:Un (frs X.stack) ch H H' s.heap s'.heap) (hok:HOk X.prog X.w H' s'.heap) (hg:AllBare s'.gens)
  (hch:∀ b ∈ ch,(b ∈ X.ex ∨ X.s₀.heap.objs.size<=b)/\b ≠ X.env.locals/\(∀ x c,X.env.cells.lookup x=some c->c ≠ b)/\∀ p ∈ X.pn++pins,p.1 ≠ b):Inv X pins σ H' s':=by
 obtain ⟨h',g',d',t',o'⟩:=s'
 have e:o'=s.os:=ho
 subst e
 exact I.call (g':=g') (t':=t') (d':=d') u hok hg hch
end
noncomputable abbrev XK:=Value->Option Addr->Hp->Prop
noncomputable abbrev St:=List (Option V)
noncomputable abbrev VK:=V->Hp->Prop
noncomputable abbrev TE:=St->Hp->VK->Prop
noncomputable abbrev TT:=St->Hp->(Bool->Hp->Prop)->Prop
noncomputable abbrev TA:=St->Hp->(List V->Hp->Prop)->Prop
structure Ends where
 nx:St->Hp->Prop
 rt:VK
 bk:St->Hp->Prop:=fun _ _=>False
 ct:St->Hp->Prop:=fun _ _=>False
noncomputable abbrev TS:=Ends->St->Hp->Prop
noncomputable def EP (X:Cx) (pins:List (Addr × Obj)) (σ:St) (Q:VK) (u:Value) (s':Shared):Prop:=∃ v H',Inv X pins σ H' s'/\jy v u/\Q v H'
noncomputable def TP (X:Cx) (pins:List (Addr × Obj)) (σ:St) (Q:Bool->Hp->Prop) (b:Bool) (s':Shared):Prop:=∃ H',Inv X pins σ H' s'/\Q b H'
noncomputable def AP (X:Cx) (pins:List (Addr × Obj)) (σ:St) (Q:List V->Hp->Prop) (us:List Value) (s':Shared):Prop:=∃ vs H',Inv X pins σ H' s'/\jw vs us/\Q vs H'
noncomputable def SP (X:Cx) (pins:List (Addr × Obj)) (D:Ends) (f:Flow) (s':Shared):Prop:=
 match f with
 | .next=>∃ σ' H',Inv X pins σ' H' s'/\D.nx σ' H'
 | .brk=>∃ σ' H',Inv X pins σ' H' s'/\D.bk σ' H'
 | .cont=>∃ σ' H',Inv X pins σ' H' s'/\D.ct σ' H'
 | .ret u=>∃ v σ' H',Inv X pins σ' H' s'/\jy v u/\D.rt v H'
noncomputable def PE (X:Cx) (e:Expr) (t:TE):Prop:=
 ∀ (pins:List (Addr × Obj)) (s:Shared) (σ:St) (H:Hp) (Q:VK),Inv X pins σ H s->t σ H Q->wpAny (model X.prog X.w) X.A (eval e X.env) (EP X pins σ Q) X.xe s
noncomputable def PT (X:Cx) (e:Expr) (t:TT):Prop:=
 ∀ (pins:List (Addr × Obj)) (s:Shared) (σ:St) (H:Hp) (Q:Bool->Hp->Prop),Inv X pins σ H s->t σ H Q->wpAny (model X.prog X.w) X.A (isTrue e X.env (eval e X.env)) (TP X pins σ Q) X.xe s
noncomputable def PW (X:Cx) (e:Expr) (t:TT):Prop:=
 ∀ (whole:Sem Value) (pins:List (Addr × Obj)) (s:Shared) (σ:St) (H:Hp) (Q:Bool->Hp->Prop),Inv X pins σ H s->t σ H Q->wpAny (model X.prog X.w) X.A (isTrue e X.env whole) (TP X pins σ Q) X.xe s
theorem PW.pt {X:Cx}{e:Expr}{t:TT} (h:PW X e t):PT X e t:=h _
noncomputable def PA (X:Cx) (es:List Expr) (t:TA):Prop:=
 ∀ (pos:Pos) (pins:List (Addr × Obj)) (s:Shared) (σ:St) (H:Hp) (Q:List V->Hp->Prop),Inv X pins σ H s->t σ H Q->wpAny (model X.prog X.w) X.A (spliced (backTo pos (starEach es X.env))) (AP X pins σ Q) X.xe s
noncomputable def PS (X:Cx) (st:Stmt) (t:TS):Prop:=
 ∀ (pins:List (Addr × Obj)) (s:Shared) (σ:St) (H:Hp) (D:Ends),Inv X pins σ H s->t D σ H->wpAny (model X.prog X.w) X.A (exec st X.env) (SP X pins D) X.xe s
noncomputable def PSs (X:Cx) (st:List Stmt) (t:TS):Prop:=
 ∀ (pins:List (Addr × Obj)) (s:Shared) (σ:St) (H:Hp) (D:Ends),Inv X pins σ H s->t D σ H->wpAny (model X.prog X.w) X.A (execs st X.env) (SP X pins D) X.xe s
theorem thn {α:Type}{t:Sem α}{Q Q':α->Shared->Prop}{M:Model}{A:Around}{E:Value->Shared->Prop}{s:Shared} (h:wpAny M A t Q E s) (hQ:∀ a s,Q a s->Q' a s):wpAny M A t Q' E s:=wpAny_mono h hQ fun _ _ x=>x
end L2
namespace L2
open PySem PySem.Spec PyProof.Rows
section
variable {X:Cx}
noncomputable def ajO (i:Nat):TE:=fun σ H Q=>∃ v,σ[i]?=some (some v)/\Q v H
noncomputable def tC (v:V):TE:=fun _ H Q=>Q v H
theorem acL {i:Nat}{x:Str}{pos:Pos} (hN:X.N[i]?=some x) (hv:Vis X.env.scope x) (hd:(x == ("__debug__":Str))=false:=by decide) (hcd:(x == ("__classdict__":Str))=false:=by decide):PE X (.Name x pos) (ajO i):=by
 intro pins s σ H Q I h
 obtain ⟨v,e,h⟩:=h
 obtain ⟨m,hn,hl⟩:=I.loc
 obtain ⟨u,r,l⟩:=hl i x v hN e hv
 have fin:EP X pins σ Q u s:=⟨v,H,I,r,h⟩
 rcases l with ⟨hk,hm⟩ | ⟨hk,c,hc,hcell⟩
 ·exact wpAny_Name (wpAny_loadName_local I.ok.kind hk hn hm fin) hd
 ·rcases hk with hk | hk
  ·exact wpAny_Name (wpAny_loadName_cell I.ok.kind hk hc hcell fin) hd
  ·exact wpAny_Name (wpAny_loadName_free I.ok.kind hk hc hcell fin hcd) hd
theorem aa2 {i j pos}:PE X (.Constant (.int i) j pos) (tC (.int i)):=fun _ _ _ H _ I h=>wpAny_Constant_int ⟨.int i,H,I.tok _,⟨_,rfl⟩,h⟩
theorem ajP {b j pos}:PE X (.Constant (.bool b) j pos) (tC (.bl b)):=fun _ _ _ H _ I h=>Constant_bool ⟨.bl b,H,I,rfl,h⟩
theorem acM {j pos}:PE X (.Constant .none j pos) (tC .non):=fun _ _ _ H _ I h=>Constant_none ⟨.non,H,I,rfl,h⟩
theorem aeX {x j pos}:PE X (.Constant (.str x) j pos) (tC (.str x)):=fun _ _ _ H _ I h=>Calls.Constant_str ⟨.str x,H,I.tok _,⟨_,rfl⟩,h⟩
noncomputable def Gl (X:Cx) (x:Str):Prop:=X.env.kindOf x=some .globalImplicit
theorem Qd {E:Value->Shared->Prop}{pins:List (Addr × Obj)}{s:Shared}{σ:St}{H:Hp}{x:Str}{u:Value}{pos:Pos}{Q:Value->Shared->Prop} (I:Inv X pins σ H s) (hg:Gl X x) (hm:X.mg x=some u) (h:Q u s)
  (hd:(x == ("__debug__":Str))=false:=by decide):wpAny (model X.prog X.w) X.A (eval (.Name x pos) X.env) Q E s:=
 Calls.Name_function_global I.ok.kind hg (Calls.loadGlobal_global (by rw [I.ok.glob]; exact I.mod.glob.keeps I.bk) hm h) hd
theorem JU {E:Value->Shared->Prop}{pins:List (Addr × Obj)}{s:Shared}{σ:St}{H:Hp}{x:Str}{u:Value}{pos:Pos}{Q:Value->Shared->Prop} (I:Inv X pins σ H s) (hg:Gl X x) (hm:X.mg x=none) (hv:bootBuiltins x=some u) (h:Q u s)
  (hn:x ≠ "__name__":=by decide) (hd:(x == ("__debug__":Str))=false:=by decide):wpAny (model X.prog X.w) X.A (eval (.Name x pos) X.env) Q E s:=by
 obtain ⟨mb,h1,h2⟩:=I.mod.blt
 exact Calls.Name_function_global I.ok.kind hg (Calls.loadGlobal_builtin (by rw [I.ok.glob]; exact I.mod.glob.keeps I.bk) hm (by rw [I.ok.blt]; exact h1.keeps I.bk) ((h2 x hn).trans hv) h) hd
theorem ZB {x:Str}{v:V}{u:Value}{pos:Pos} (hg:Gl X x) (hm:X.mg x=some u) (r:jy v u) (hd:(x == ("__debug__":Str))=false:=by decide):PE X (.Name x pos) (tC v):=
 fun _ _ _ H _ I h=>Qd I hg hm ⟨v,H,I,r,h⟩ hd
theorem ads {x:Str}{v:V}{u:Value}{pos:Pos} (hg:Gl X x) (hm:X.mg x=none) (hv:bootBuiltins x=some u) (r:jy v u) (hn:x ≠ "__name__":=by decide) (hd:(x == ("__debug__":Str))=false:=by decide):PE X (.Name x pos) (tC v):=
 fun _ _ _ H _ I h=>JU I hg hm hv ⟨v,H,I,r,h⟩ hn hd
variable {a b:Expr}{ta tb:TE}{pos:Pos}
noncomputable def PC (X:Cx) (op:CmpOp) (a b:Expr) (t:TE):Prop:=
 ∀ (pins:List (Addr × Obj)) (s:Shared) (σ:St) (H:Hp) (Q:VK),Inv X pins σ H s->t σ H Q->
  wpAny (model X.prog X.w) X.A (eval a X.env) (fun v s₁=>wpAny (model X.prog X.w) X.A (eval b X.env) (fun u s₂=>wpAny (model X.prog X.w) X.A (compareOp op v u) (EP X pins σ Q) X.xe s₂) X.xe s₁) X.xe s
theorem aeY (b:Expr) {op:CmpOp} (h:op ≠ .In) (h2:op ≠ .NotIn):behindInMarks op b=false:=by
 have e1:(op == CmpOp.In)=false:=by cases op <;> first | rfl | exact absurd rfl h
 have e2:(op == CmpOp.NotIn)=false:=by cases op <;> first | rfl | exact absurd rfl h2
 cases b <;> simp [behindInMarks,e1,e2]
noncomputable def tB (t:TE):TT:=fun σ H Q=>t σ H fun x H1=>∃ c,x= .bl c/\Q c H1
theorem aiA {op:CmpOp}{t:TE} (h:PC X op a b t) (h1:behindInMarks op b=false:=by first | exact aeY _ (by decide) (by decide) | rfl):PT X (.Compare a [op] [b] pos) (tB t):=by
 intro pins s σ H Q I hw
 refine wpAny_isTrue_Compare1 (thn (h pins s σ H _ I hw) fun v s1 h1=>thn h1 fun u s2 h2=>thn h2 fun c s3 ⟨x,H1,I1,r1,q1⟩=>?_) h1
 obtain ⟨d,rfl,q⟩:=q1
 cases r1
 exact wpAny_truthy_bool ⟨H1,I1,q⟩
theorem aiB {e:Expr}{t:TE} (h:PE X e t) (he:∀ whole,isTrue e X.env whole=(do let v ←whole; standAt e.pos; holding [v] (truthy v)):=by intro _; rfl):PT X e (tB t):=by
 intro pins s σ H Q I hw
 refine isTrue_plain (thn (h pins s σ H _ I hw) fun v s1 ⟨x,H1,I1,r1,q1⟩=>?_) (he _)
 obtain ⟨d,rfl,q⟩:=q1
 cases r1
 exact wpAny_truthy_bool ⟨H1,I1,q⟩
variable {tA tB':TT}{jO:List Expr}
noncomputable def akL (t u:TT):TT:=fun σ H Q=>t σ H fun c H1=>if c=true then u σ H1 Q else Q false H1
noncomputable def tOr (t u:TT):TT:=fun σ H Q=>t σ H fun c H1=>if c=true then Q true H1 else u σ H1 Q
noncomputable def akM (t:TT):TT:=fun σ H Q=>t σ H fun c H1=>Q (!c) H1
theorem agS (ha:PT X a tA):PW X (.BoolOp .And [a] pos) tA:=by
 intro wh pins s σ H Q I h
 refine isTrue_and (thn (ha pins s σ H Q I h) fun c s1 e=>?_)
 cases c with
 | true=>exact isTrue_and_nil e
 | false=>exact e
theorem aiC (ha:PT X a tA):PW X (.BoolOp .Or [a] pos) tA:=by
 intro wh pins s σ H Q I h
 refine isTrue_or (thn (ha pins s σ H Q I h) fun c s1 e=>?_)
 cases c with
 | false=>exact isTrue_or_nil e
 | true=>exact e
theorem aiD (ha:PT X a tA) (hb:PW X (.BoolOp .And (b::jO) pos) tB'):PW X (.BoolOp .And (a::b::jO) pos) (akL tA tB'):=by
 intro wh pins s σ H Q I h
 refine isTrue_and (thn (ha pins s σ H _ I h) fun c s1 ⟨H1,I1,q1⟩=>?_)
 cases c with
 | true=>exact hb wh pins s1 σ H1 Q I1 q1
 | false=>exact ⟨H1,I1,q1⟩
theorem ajQ (ha:PT X a tA) (hb:PW X (.BoolOp .Or (b::jO) pos) tB'):PW X (.BoolOp .Or (a::b::jO) pos) (tOr tA tB'):=by
 intro wh pins s σ H Q I h
 refine isTrue_or (thn (ha pins s σ H _ I h) fun c s1 ⟨H1,I1,q1⟩=>?_)
 cases c with
 | true=>exact ⟨H1,I1,q1⟩
 | false=>exact hb wh pins s1 σ H1 Q I1 q1
theorem aiE (ha:PT X a tA):PT X (.UnaryOp .Not a pos) (akM tA):=by
 intro pins s σ H Q I h
 exact isTrue_not (ha pins s σ H (fun c H1=>Q (!c) H1) I h)
noncomputable def tIf (t:TT) (ta tb:TE):TE:=fun σ H Q=>t σ H fun c H1=>if c=true then ta σ H1 Q else tb σ H1 Q
theorem aeZ {c:Expr} (hc:PT X c tA) (ha:PE X a ta) (hb:PE X b tb):PE X (.IfExp c a b pos) (tIf tA ta tb):=by
 intro pins s σ H Q I h
 refine wpAny_IfExp (thn (hc pins s σ H _ I h) fun d s1 ⟨H1,I1,q1⟩=>?_)
 cases d with
 | true=>exact ha pins s1 σ H1 Q I1 q1
 | false=>exact hb pins s1 σ H1 Q I1 q1
end
end L2
namespace L2
open PySem PySem.Spec PyProof.Rows
noncomputable def SqL (K:PySem.W.Frag) (H:Hp) (a:Addr) (xs:List V):Prop:=
 Rd H a (.lst xs) ∨
  ∃ (o:Obj) (its:Array Value) (n:Nat),K.lookup a=some o/\o.cls= .type "list"/\o.dict=none/\o.data= .seq its n/\its.size<=sizeLine/\jw xs its.toList
noncomputable def SqT (K:PySem.W.Frag) (H:Hp) (a:Addr) (xs:List V):Prop:=
 Rd H a (.tup xs) ∨
  ∃ (o:Obj) (its:Array Value) (n:Nat),K.lookup a=some o/\o.cls= .type "tuple"/\o.data= .seq its n/\its.size<=sizeLine/\jw xs its.toList
noncomputable def akN:Value->Option V
 | .none=>some .non
 | .bool b=>some (.bl b)
 | .int i _=>some (.int i)
 | .str x _=>some (.str x)
 | .bytes b _=>some (.byt b)
 | .float b _=>some (.flt b)
 | .ref a=>some (.ref a)
 | .type n=>some (.ty n)
 | _=>none
theorem jy.abs {x:V}{u:Value} (r:jy x u):akN u=some x:=by
 cases x with
 | non=>cases r; rfl
 | bl _=>cases r; rfl
 | int _=>obtain ⟨t,rfl⟩:=r; rfl
 | str _=>obtain ⟨t,rfl⟩:=r; rfl
 | byt _=>obtain ⟨t,rfl⟩:=r; rfl
 | flt _=>obtain ⟨t,rfl⟩:=r; rfl
 | ref _=>cases r; rfl
 | ty _=>cases r; rfl
theorem jy.inj {x y:V}{u:Value} (r:jy x u) (q:jy y u):x=y:=Option.some.inj (r.abs.symm.trans q.abs)
theorem jw.inj:∀ {xs ys:List V}{us:List Value},jw xs us->jw ys us->xs=ys
 | _,_,_,.nil,.nil=>rfl
 | _,_,_,.cons r t,.cons r' t'=>by rw [r.inj r',jw.inj t t']
section
variable {X:Cx}{pins:List (Addr × Obj)}{σ:St}{H:Hp}{s:Shared}{a:Addr}{xs ys:List V}
theorem SqL.of {K:PySem.W.Frag} (h:H a=some (.lst xs)):SqL K H a xs:= .inl (.inl h)
theorem SqT.of {K:PySem.W.Frag} (h:H a=some (.tup xs)):SqT K H a xs:= .inl (.inl h)
theorem Inv.list (I:Inv X pins σ H s) (h:SqL X.K H a xs):∃ its:List Value,jw xs its/\PlainL s.heap a its.toArray/\xs.length<=sizeLine:=by
 rcases h with h | ⟨o,its,n,hk,hc,hd,hs,hz,r⟩
 ·obtain ⟨z,its,n,r,e⟩:=h.ok I.hok
  exact ⟨its,r,⟨_,n,e,rfl,rfl,rfl⟩,z⟩
 ·refine ⟨its.toList,r,⟨o,n,I.kIn a o hk,hc,hd,by simpa using hs⟩,?_⟩
  have e:=r.length
  simp only [Array.length_toList] at e
  omega
theorem Inv.tuple (I:Inv X pins σ H s) (h:SqT X.K H a xs):∃ its:List Value,jw xs its/\IsTup s.heap a its.toArray/\xs.length<=sizeLine:=by
 rcases h with h | ⟨o,its,n,hk,hc,hs,hz,r⟩
 ·obtain ⟨z,its,r,p⟩:=h.ok I.hok
  exact ⟨its,r,p,z⟩
 ·refine ⟨its.toList,r,⟨o,I.kIn a o hk,hc,n,by simpa using hs⟩,?_⟩
  have e:=r.length
  simp only [Array.length_toList] at e
  omega
theorem Inv.list_inj (I:Inv X pins σ H s) (h:SqL X.K H a xs) (h':SqL X.K H a ys):xs=ys:=by
 obtain ⟨its,r,⟨o,n,e,_,_,d⟩,_⟩:=I.list h
 obtain ⟨its',r',⟨o',n',e',_,_,d'⟩,_⟩:=I.list h'
 rw [e] at e'; cases e'
 rw [d] at d'
 injection d' with d1 _
 have:its=its':=by simpa using congrArg Array.toList d1
 subst this
 exact r.inj r'
theorem Inv.tuple_inj (I:Inv X pins σ H s) (h:SqT X.K H a xs) (h':SqT X.K H a ys):xs=ys:=by
 obtain ⟨its,r,⟨o,e,_,n,d⟩,_⟩:=I.tuple h
 obtain ⟨its',r',⟨o',e',_,n',d'⟩,_⟩:=I.tuple h'
 rw [e] at e'; cases e'
 rw [d] at d'
 injection d' with d1 _
 have:its=its':=by simpa using congrArg Array.toList d1
 subst this
 exact r.inj r'
end
noncomputable abbrev Cx.wish (X:Cx) (E:Value->Shared->Prop):Cx:={ X with xe:=E }
noncomputable abbrev Cx.nox (X:Cx):Cx:=X.wish fun _ _=>False
theorem Cx.Ok.wish {X:Cx} (ok:X.Ok) (E:Value->Shared->Prop):(X.wish E).Ok:=
 ⟨ok.mod,ok.kind,ok.glob,ok.blt,ok.above,ok.inj,ok.has,ok.cab,ok.hd,ok.frames,ok.stk,ok.exf,ok.bs,ok.bsz,ok.noex,ok.exfs,ok.funs,ok.frf⟩
theorem Cx.Ok.unwish {X:Cx}{E:Value->Shared->Prop} (ok:(X.wish E).Ok):X.Ok:=
 ⟨ok.mod,ok.kind,ok.glob,ok.blt,ok.above,ok.inj,ok.has,ok.cab,ok.hd,ok.frames,ok.stk,ok.exf,ok.bs,ok.bsz,ok.noex,ok.exfs,ok.funs,ok.frf⟩
section
variable {X:Cx}{pins:List (Addr × Obj)}{σ:St}{H:Hp}{s:Shared}{E:Value->Shared->Prop}
theorem Inv.wish (I:Inv X pins σ H s) (E:Value->Shared->Prop):Inv (X.wish E) pins σ H s:=⟨I.ok.wish E,I.os,I.bare,I.base,I.loc,I.cell,I.free,I.freeC,I.pin,I.hok,I.len⟩
theorem Inv.unwish (I:Inv (X.wish E) pins σ H s):Inv X pins σ H s:=⟨I.ok.unwish,I.os,I.bare,I.base,I.loc,I.cell,I.free,I.freeC,I.pin,I.hok,I.len⟩
theorem SP.unwish {D:Ends}{f:Flow}{s':Shared} (h:SP (X.wish E) pins D f s'):SP X pins D f s':=by
 cases f with
 | next=>obtain ⟨σ',H',I,q⟩:=h; exact ⟨σ',H',I.unwish,q⟩
 | brk=>obtain ⟨σ',H',I,q⟩:=h; exact ⟨σ',H',I.unwish,q⟩
 | cont=>obtain ⟨σ',H',I,q⟩:=h; exact ⟨σ',H',I.unwish,q⟩
 | ret u=>obtain ⟨v,σ',H',I,r,q⟩:=h; exact ⟨v,σ',H',I.unwish,r,q⟩
theorem PE.nox {e:Expr}{t:TE} (h:PE X.nox e t):PE X e t:=fun pins s σ H Q I hw=>
 wpAny_mono (h pins s σ H Q (I.wish _) hw) (fun _ _ ⟨v,H',I',r,q⟩=>⟨v,H',I'.unwish,r,q⟩) fun _ _ z=>False.elim z
theorem PT.nox {e:Expr}{t:TT} (h:PT X.nox e t):PT X e t:=fun pins s σ H Q I hw=>
 wpAny_mono (h pins s σ H Q (I.wish _) hw) (fun _ _ ⟨H',I',q⟩=>⟨H',I'.unwish,q⟩) fun _ _ z=>False.elim z
theorem PSs.nox {st:List Stmt}{t:TS} (h:PSs X.nox st t):PSs X st t:=fun pins s σ H D I hw=>
 wpAny_mono (h pins s σ H D (I.wish _) hw) (fun _ _ q=>q.unwish) fun _ _ z=>False.elim z
end
section
variable {X:Cx}{st:Stmt}{jO:List Stmt}{t u:TS}{e:Expr}{te:TE}{pos:Pos}
noncomputable def ajR:TS:=fun D σ H=>D.nx σ H
noncomputable def akO (t u:TS):TS:=fun D σ H=>t { D with nx:=u D } σ H
theorem adt:PSs X [] ajR:=fun _ _ σ H _ I h=>wpAny_execs_nil ⟨σ,H,I,h⟩
theorem qZ (h1:PS X st t) (h2:PSs X jO u):PSs X (st::jO) (akO t u):=by
 intro pins s σ H D I h
 refine wpAny_execs_cons (thn (h1 pins s σ H { D with nx:=u D } I h) fun f s1 q=>?_)
 cases f with
 | next=>
  obtain ⟨σ',H',I',q⟩:=q
  exact h2 pins s1 σ' H' D I' q
 | ret v=>exact q
 | brk=>exact q
 | cont=>exact q
theorem Qe (h1:PS X st t):PSs X [st] t:=by
 intro pins s σ H D I h
 refine wpAny_execs_cons (thn (h1 pins s σ H D I h) fun f s1 q=>?_)
 cases f with
 | next=>exact wpAny_execs_nil q
 | ret v=>exact q
 | brk=>exact q
 | cont=>exact q
theorem Inv.quiet {pins:List (Addr × Obj)}{σ:St}{H:Hp}{s:Shared} (I:Inv X pins σ H s):interactive X.env=false:=by simp [interactive,I.ok.kind]
noncomputable def ajS (te:TE):TS:=fun D σ H=>te σ H fun _ H1=>D.nx σ H1
theorem adu (he:PE X e te) (hs:swapsWith e none pos.line X.env=pure false:=by rfl):PS X (.Expr e pos) (ajS te):=by
 intro pins s σ H D I h
 exact wpAny_Expr_any (thn (he pins s σ H _ I h) fun v s1 ⟨x,H1,I1,r1,q1⟩=>⟨σ,H1,I1,q1⟩) I.quiet hs
noncomputable def akP (te:TE):TS:=fun D σ H=>te σ H D.rt
theorem acN (he:PE X e te):PS X (.Return (some e) pos) (akP te):=by
 intro pins s σ H D I h
 exact wpAny_Return_some (thn (he pins s σ H _ I h) fun v s1 ⟨x,H1,I1,r1,q1⟩=>⟨x,σ,H1,I1,r1,q1⟩)
noncomputable def akQ (c:TT) (t u:TS):TS:=fun D σ H=>c σ H fun b H1=>if b=true then t D σ H1 else u D σ H1
theorem ajT {c:Expr}{a b:List Stmt}{tc:TT} (hc:PT X c tc) (ha:PSs X a t) (hb:PSs X b u):PS X (.If c a b pos) (akQ tc t u):=by
 intro pins s σ H D I h
 refine wpAny_If (thn (hc pins s σ H _ I h) fun d s1 ⟨H1,I1,q1⟩=>?_)
 cases d with
 | true=>exact ha pins s1 σ H1 D I1 q1
 | false=>exact hb pins s1 σ H1 D I1 q1
noncomputable def aiF:TS:=fun _ _ _=>False
theorem adZ {sts:List Stmt}:PSs X sts aiF:=fun _ _ _ _ _ _ h=>h.elim
end
noncomputable abbrev TG:=V->St->Hp->(St->Hp->Prop)->Prop
noncomputable abbrev TGs:=List V->St->Hp->(St->Hp->Prop)->Prop
noncomputable def PG (X:Cx) (target:Expr) (t:TG):Prop:=
 ∀ (pins:List (Addr × Obj)) (s:Shared) (σ:St) (H:Hp) (v:V) (u:Value) (Q:St->Hp->Prop),Inv X pins σ H s->jy v u->t v σ H Q->
  wpAny (model X.prog X.w) X.A (assign target X.env u) (fun _ s'=>∃ σ' H',Inv X pins σ' H' s'/\Q σ' H') X.xe s
noncomputable def PGs (X:Cx) (ts:List Expr) (t:TGs):Prop:=
 ∀ (pins:List (Addr × Obj)) (s:Shared) (σ:St) (H:Hp) (vs:List V) (us:List Value) (Q:St->Hp->Prop),Inv X pins σ H s->jw vs us->t vs σ H Q->
  wpAny (model X.prog X.w) X.A (assignInOrder ((assignEach ts X.env).map (·.2)) us) (fun _ s'=>∃ σ' H',Inv X pins σ' H' s'/\Q σ' H') X.xe s
noncomputable abbrev ae0:=V->V->V->Hp->(Hp->Prop)->Prop
noncomputable def agT (X:Cx) (t:ae0):Prop:=
 ∀ (pins:List (Addr × Obj)) (s:Shared) (σ:St) (H:Hp) (o i v:V) (ov iv u:Value) (Q:Hp->Prop),Inv X pins σ H s->jy o ov->jy i iv->jy v u->t o i v H Q->
  wpAny (model X.prog X.w) X.A (setItem ov iv u) (fun _ s'=>∃ H',Inv X pins σ H' s'/\Q H') X.xe s
noncomputable abbrev TIp:=V->V->Hp->VK->Prop
noncomputable def PIp (X:Cx) (op:Operator) (t:TIp):Prop:=
 ∀ (pins:List (Addr × Obj)) (s:Shared) (σ:St) (H:Hp) (x y:V) (v u:Value) (Q:VK),Inv X pins σ H s->jy x v->jy y u->t x y H Q->
  wpAny (model X.prog X.w) X.A (inplaceOp op v u) (EP X pins σ Q) X.xe s
section
variable {X:Cx}{pos:Pos}
noncomputable def aik (i:Nat):TG:=fun v σ H Q=>Q (σ.set i (some v)) H
theorem Qf {i:Nat}{x:Str} (hN:X.N.Nodup) (hi:X.N[i]?=some x) (hx:Loc X.env.scope x) (hf:X.fn x=true ∨ X.env.scope.names.lookup x=some .local:=by first | exact .inl rfl | exact .inr rfl | assumption):PG X (.Name x pos) (aik i):=by
 intro pins s σ H v u Q I r h
 exact wpAny_assign_Name (ZQ I hN hi hx r (fun s' I'=>⟨_,H,I',h⟩) hf)
noncomputable def akR:TGs:=fun vs σ H Q=>vs=[]/\Q σ H
noncomputable def ajU (t:TG) (u:TGs):TGs:=fun vs σ H Q=>∃ v r,vs=v::r/\t v σ H fun σ' H'=>u r σ' H' Q
theorem agU:PGs X [] akR:=by
 intro pins s σ H vs us Q I r h
 obtain ⟨e,h⟩:=h
 subst e
 cases r
 exact assignInOrder_nil ⟨σ,H,I,h⟩
theorem ae1 {e:Expr}{es:List Expr}{t:TG}{u:TGs} (h1:PG X e t) (h2:PGs X es u)
  (hs:(assignEach (e::es) X.env).map (·.2)=assign e X.env::(assignEach es X.env).map (·.2):=by rfl):PGs X (e::es) (ajU t u):=by
 intro pins s σ H vs us Q I r h
 obtain ⟨v,vr,e1,h⟩:=h
 subst e1
 cases r with
 | cons r rr=>
  rw [hs]
  refine assignInOrder_cons (thn (h1 pins s σ H _ _ _ I r h) fun _ s1 ⟨σ1,H1,I1,q1⟩=>?_)
  exact h2 pins s1 σ1 H1 _ _ Q I1 rr q1
noncomputable def akS (K:PySem.W.Frag) (n:Nat) (t:TGs):TG:=fun v σ H Q=>∃ a xs,v= .ref a/\SqT K H a xs/\xs.length=n/\t xs σ H Q
theorem aiG {es:List Expr}{k:Nat}{t:TGs}{n:Nat} (hc:X.calm=true) (h:PGs X es t)
  (hn:(assignEach es X.env).length=n:=by rfl) (hst:(assignEach es X.env).findIdx? (·.1)=none:=by rfl):PG X (.Tuple es k pos) (akS X.K n t):=by
 intro pins s σ H v u Q I r hw
 obtain ⟨a,xs,e1,hq,hl,hw⟩:=hw
 subst e1
 cases r
 obtain ⟨its,rv,ht,hz⟩:=I.tuple hq
 refine assign_Tuple_tuple (I.ok.hd hc) ht (by simp [hn,←hl,rv.length]) hst fun h' hx=>?_
 have I1:Inv X pins σ H { s with heap:=h' }:=I.kept (t':=s.toks) fun b o e=>hx b o (Nat.ne_of_lt (Heap.lt_size e)) e
 exact h pins _ σ H xs _ Q I1 (by simpa using rv) hw
noncomputable def akT (to ti:TE) (t:ae0):TG:=fun v σ H Q=>to σ H fun o H1=>ti σ H1 fun i H2=>t o i v H2 fun H3=>Q σ H3
theorem aiH {o i:Expr}{to ti:TE}{t:ae0} (ho:PE X o to) (hi:PE X i ti) (hs:agT X t)
  (ha:∀ v,assign (.Subscript o i pos) X.env v=(do
   let ov ←holding [v] (eval o X.env)
   let iv ←holding [v,ov] (eval i X.env)
   standAt pos
   holding [v,ov,iv] (setItem ov iv v)
   release [v,ov,iv] []):=by intro _; rfl):PG X (.Subscript o i pos) (akT to ti t):=by
 intro pins s σ H v u Q I r h
 rw [ha]
 refine wpAny_bind (wpAny_holding (thn (ho pins s σ H _ I h) fun ov s1 ⟨x,H1,I1,r1,q1⟩=>?_))
 refine wpAny_bind (wpAny_holding (thn (hi pins s1 σ H1 _ I1 q1) fun iv s2 ⟨y,H2,I2,r2,q2⟩=>?_))
 refine wpAny_bind (wpAny_standAt (wpAny_bind (wpAny_holding (thn (hs pins s2 σ H2 x y v ov iv u _ I2 r1 r2 r q2) fun _ s3 ⟨H3,I3,q3⟩=>?_))))
 exact wpAny_release ⟨σ,H3,I3,q3⟩
noncomputable def ajV (te:TE) (g:TG):TS:=fun D σ H=>te σ H fun x H1=>g x σ H1 D.nx
theorem ae2 {tg e:Expr}{te:TE}{g:TG} (he:PE X e te) (hg:PG X tg g) (hs:swapsWithSole [tg] e pos.line X.env=pure false:=by rfl) (hw:swappedStores [tg] e X.env=pure none:=by rfl)
  (h1:(assignEach [tg] X.env).map (·.2)=[assign tg X.env]:=by rfl):PS X (.Assign [tg] e pos) (ajV te g):=by
 intro pins s σ H D I h
 refine wpAny_Assign_stores (thn (he pins s σ H _ I h) fun v s1 ⟨x,H1,I1,r1,q1⟩=>?_) hs hw
 rw [h1]
 exact thn (hg pins s1 σ H1 x v _ I1 r1 q1) fun _ s2 q=>q
theorem ZR {i:Nat}{x:Str}{e:Expr}{te:TE}{pos':Pos} (hN:X.N.Nodup) (hi:X.N[i]?=some x) (hx:Loc X.env.scope x) (he:PE X e te) (hs:swapsWith e (some (.Name x pos')) pos.line X.env=pure false:=by rfl) (hf:X.fn x=true ∨ X.env.scope.names.lookup x=some .local:=by first | exact .inl rfl | exact .inr rfl | assumption):
  PS X (.Assign [.Name x pos'] e pos) (ajV te (aik i)):=by
 intro pins s σ H D I h
 refine wpAny_Assign_Name (thn (he pins s σ H _ I h) fun v s1 ⟨y,H1,I1,r1,q1⟩=>?_) hs
 exact ZQ I1 hN hi hx r1 (fun s2 I2=>⟨_,H1,I2,q1⟩) hf
noncomputable def ajW (to ti te:TE) (tget:V->V->Hp->VK->Prop) (tip:TIp) (tset:ae0):TS:=fun D σ H=>to σ H fun o H1=>ti σ H1 fun i H2=>tget o i H2 fun x H3=>te σ H3 fun y H4=>tip x y H4 fun z H5=>tset o i z H5 fun H6=>D.nx σ H6
noncomputable def ajX (X:Cx) (t:V->V->Hp->VK->Prop):Prop:=
 ∀ (pins:List (Addr × Obj)) (s:Shared) (σ:St) (H:Hp) (o i:V) (ov iv:Value) (Q:VK),Inv X pins σ H s->jy o ov->jy i iv->t o i H Q->
  wpAny (model X.prog X.w) X.A (getItem ov iv) (EP X pins σ Q) X.xe s
theorem agV {o i e:Expr}{to ti te:TE}{tget:V->V->Hp->VK->Prop}{tip:TIp}{tset:ae0}{op:Operator}{tpos:Pos} (ho:PE X o to) (hi:PE X i ti) (hg:ajX X tget) (he:PE X e te) (hp:PIp X op tip) (hs:agT X tset)
  (ha:∀ ov iv new,augStore i ov iv new=(do holding [new,ov,iv] (setItem ov iv new); release [new,ov,iv] []; pure .next):=by intros; rfl):PS X (.AugAssign (.Subscript o i tpos) op e pos) (ajW to ti te tget tip tset):=by
 intro pins s σ H D I h
 refine wpAny_AugAssign_SubscriptAny (thn (ho pins s σ H _ I h) fun ov s1 ⟨x1,H1,I1,r1,q1⟩=>?_) ha
 refine thn (hi pins s1 σ H1 _ I1 q1) fun iv s2 ⟨x2,H2,I2,r2,q2⟩=>?_
 refine thn (hg pins s2 σ H2 x1 x2 ov iv _ I2 r1 r2 q2) fun old s3 ⟨x3,H3,I3,r3,q3⟩=>?_
 refine thn (he pins s3 σ H3 _ I3 q3) fun v s4 ⟨x4,H4,I4,r4,q4⟩=>?_
 refine thn (hp pins s4 σ H4 x3 x4 old v _ I4 r3 r4 q4) fun new s5 ⟨x5,H5,I5,r5,q5⟩=>?_
 exact thn (hs pins s5 σ H5 x1 x2 x5 ov iv new _ I5 r1 r2 r5 q5) fun _ s6 ⟨H6,I6,q6⟩=>⟨σ,H6,I6,q6⟩
noncomputable def ipI (f:Int->Int->Int):TIp:=fun x y H Q=>∃ i j,x= .int i/\y= .int j/\Q (.int (f i j)) H
theorem aiI:PIp X .Add (ipI fun i j=>i+j):=by
 intro pins s σ H x y v u Q I r1 r2 h
 obtain ⟨i,j,e1,e2,q⟩:=h
 subst e1; subst e2
 obtain ⟨t,rfl⟩:=r1
 obtain ⟨t',rfl⟩:=r2
 exact iadd_int ⟨.int _,H,I.tok _,⟨_,rfl⟩,q⟩
end
section
variable {X:Cx}{pos:Pos}
end
structure It where
 go:Nat->Hp->Prop
 yld:Nat->Hp->V->Hp->Prop
 stop:Nat->Hp->Prop
noncomputable def abR (X:Cx) (pins:List (Addr × Obj)) (H:Hp) (b:Addr):Prop:=
 H b=none/\b ≠ X.env.locals/\b ∉ X.fs/\(b ∈ X.ex ∨ X.s₀.heap.objs.size<=b)/\(∀ x c,X.env.cells.lookup x=some c->c ≠ b)/\∀ p ∈ X.pn++pins,p.1 ≠ b
theorem Inv.fpOk {X:Cx}{pins:List (Addr × Obj)}{σ:St}{H H':Hp}{s:Shared}{b:Addr} (I:Inv X pins σ H s) (hb:s.heap.objs.size<=b) (hn:H' b=none):abR X pins H' b:=by
 refine ⟨hn,Nat.ne_of_gt (Nat.lt_of_lt_of_le I.lt hb),I.nofs hb,.inr (Nat.le_trans I.sz hb),fun x c e z=>?_,fun p hp z=>?_⟩
 ·obtain ⟨v,q⟩:=I.cell x c e
  exact absurd (Nat.lt_of_lt_of_le q.lt (by rw [z]; exact hb)) (Nat.lt_irrefl _)
 ·exact absurd (Nat.lt_of_lt_of_le (Heap.lt_size (I.pin p hp).1) (by rw [z]; exact hb)) (Nat.lt_irrefl _)
structure Turn (P:Program) (w:World) (K:PySem.W.Frag) (tg:Expr) (J:It) (fp:List Addr) (it:Addr) (tn:Nat->Heap->Prop):Prop where
 mem:it ∈ fp
 obj:∀ i h,tn i h->∀ b ∈ fp,∃ o,h.get? b=some o/\∀ v,o.data ≠ .cell v
 keep:∀ i h h',tn i h->(∀ b ∈ fp,∀ o,h.get? b=some o->h'.get? b=some o)->tn i h'
 item:∀ (X:Cx),X.prog=P->X.w=w->X.K=K->X.calm=true->∀ (i:Nat) (pins:List (Addr × Obj)) (s:Shared) (σ:St) (H:Hp) (E:Value->Shared->Prop),Inv X pins σ H s->(∀ b ∈ fp,abR X pins H b)->tn i s.heap->J.go i H->
  wpAny (model P w) X.A (pyNext (.ref it)) (fun r s1=>∃ u,r=some u/\
   wpAny (model P w) X.A (letOwnedTupleGo tg (.ref it) u) (fun _ s2=>∃ x H',Inv X pins σ H' s2/\jy x u/\J.yld i H x H'/\tn (i+1) s2.heap/\∀ b ∈ fp,H' b=none) E s1) E s
 done:∀ (X:Cx),X.prog=P->X.w=w->X.K=K->X.calm=true->∀ (i:Nat) (pins:List (Addr × Obj)) (s:Shared) (σ:St) (H:Hp) (E:Value->Shared->Prop),Inv X pins σ H s->(∀ b ∈ fp,abR X pins H b)->tn i s.heap->J.stop i H->
  wpAny (model P w) X.A (pyNext (.ref it)) (fun r s1=>r=none/\Inv X pins σ H s1) E s
 self:∀ (A:Around) (i:Nat) (s:Shared) (Q:Value->Shared->Prop) (E:Value->Shared->Prop),tn i s.heap->Q (.ref it) s->wpAny (model P w) A (pyIter (.ref it)) Q E s
noncomputable abbrev TI:=St->Hp->(It->Hp->Prop)->Prop
noncomputable def PIE (X:Cx) (pins:List (Addr × Obj)) (σ:St) (tg:Expr) (R:It->Hp->Prop) (itv:Value) (s2:Shared):Prop:=
 ∃ (it:Addr) (fp:List Addr) (tn:Nat->Heap->Prop) (J:It) (H':Hp),itv= .ref it/\Inv X pins σ H' s2/\Turn X.prog X.w X.K tg J fp it tn/\tn 0 s2.heap/\(∀ b ∈ fp,abR X pins H' b)/\R J H'
noncomputable def PI (X:Cx) (tg iter:Expr) (wi:TI):Prop:=
 ∀ (pins:List (Addr × Obj)) (s:Shared) (σ:St) (H:Hp) (R:It->Hp->Prop),Inv X pins σ H s->wi σ H R->
  wpAny (model X.prog X.w) X.A (eval iter X.env) (fun v s1=>wpAny (model X.prog X.w) X.A (pyIter v) (PIE X pins σ tg R) X.xe s1) X.xe s
theorem ae3 {M : Model} {A : Around} {E : Value -> Shared -> Prop} {s : Shared} {tg : Expr} {it : Addr} {u : Value} {o : Obj} {n : String} {vs : Array Value} {Q : Unit -> Shared -> Prop} (ho : s.heap.get? it = some o) (hc : o.cls = .type n) (hd : o.data = .fields vs)
    (hn : ["enumerate", "zip", "dict_itemiterator", "dict_reverseitemiterator", "odict_iterator", "itertools.zip_longest", "itertools.pairwise"].contains n = false) (hQ : Q () s) : wpAny M A (letOwnedTupleGo tg (.ref it) u) Q E s := by
  unfold letOwnedTupleGo
  cases tg <;> first
    | exact wpAny_pure hQ
    | (cases u <;> first
        | exact wpAny_pure hQ
        | (refine wpAny_bind (wpAny_load ho ?_)
           rw [hc, hd]
           show wpAny M A (if (["enumerate", "zip", "dict_itemiterator", "dict_reverseitemiterator", "odict_iterator", "itertools.zip_longest", "itertools.pairwise"].contains n && vs[0]? == some (rawInt _)) = true then _ else _) Q E s
           rw [if_neg (by intro h; rw [hn, Bool.false_and] at h; cases h)]
           exact wpAny_pure hQ))
noncomputable def Itl (K:PySem.W.Frag) (a:Addr):It:=
 ⟨fun i H=>∃ xs x,SqL K H a xs/\xs[i]?=some x,fun i H x H'=>H'=H/\∀ xs,SqL K H a xs->xs[i]?=some x,fun i H=>∃ xs,SqL K H a xs/\xs.length<=i⟩
noncomputable def Itt (K:PySem.W.Frag) (a:Addr):It:=
 ⟨fun i H=>∃ xs x,SqT K H a xs/\xs[i]?=some x,fun i H x H'=>H'=H/\∀ xs,SqT K H a xs->xs[i]?=some x,fun i H=>∃ xs,SqT K H a xs/\xs.length<=i⟩
noncomputable def Itr (lo:Int) (n:Nat):It:=⟨fun i _=>i < n,fun i H x H'=>H'=H/\x= .int (lo+i),fun i _=>n<=i⟩
theorem ad0 {P:Program}{w:World}{K:PySem.W.Frag}{tg:Expr} (a it:Addr):Turn P w K tg (Itl K a) [it] it (fun i h=>h.IsListIter it a i) where
 mem:=by simp
 obj:=fun i h st b hb=>by
  have e:b=it:=by simpa using hb
  subst e
  obtain ⟨o,e,c,d⟩:=st
  exact ⟨o,e,fun v z=>by rw [d] at z; cases z⟩
 keep:=fun i h h' st k=>st.at fun o e=>k it (by simp) o e
 item:=by
  intro X hP hw hK hc i pins s σ H E I hf st hg
  subst hP hw hK
  obtain ⟨xs,x,hq,hx⟩:=hg
  obtain ⟨its,rv,p,hz⟩:=I.list hq
  obtain ⟨u,hu,ru⟩:=rv.get hx
  obtain ⟨f0,f1,f2,f3,f4,f5⟩:=hf it (by simp)
  refine wpAny_pyNext_list_item st p.isList (x:=u) (by simpa using hu) fun h' st' sb=>?_
  have I1:Inv X pins σ H { s with heap:=h' }:=I.turned (t':=s.toks) (fun b o hb e=>(sb.2 b hb).trans e) f0 f1 f3 f4 f5
  obtain ⟨o,e,c,d⟩:=id st'
  exact ⟨u,rfl,ae3 (s:={ s with heap:=h' }) e c d (by decide) ⟨x,H,I1,ru,⟨rfl,fun ys hy=>by rw [I.list_inj hy hq]; exact hx⟩,st',fun b hb=>(hf b hb).1⟩⟩
 done:=by
  intro X hP hw hK hc i pins s σ H E I hf st hg
  subst hP hw hK
  obtain ⟨xs,hq,hx⟩:=hg
  obtain ⟨its,rv,p,hz⟩:=I.list hq
  obtain ⟨f0,f1,f2,f3,f4,f5⟩:=hf it (by simp)
  have hl:=rv.length
  exact wpAny_pyNext_list_end (I.ok.hd hc) st p.isList (by simp; omega) fun h' eb=>⟨rfl,I.turned (t':=s.toks) (fun b o hb e=>eb b o hb e) f0 f1 f3 f4 f5⟩
 self:=fun _ _ _ _ _ st h=>wpAny_pyIter_listiter st h
theorem acO {P:Program}{w:World}{K:PySem.W.Frag}{tg:Expr} (a it:Addr):Turn P w K tg (Itt K a) [it] it (fun i h=>h.IsTupleIter it a i) where
 mem:=by simp
 obj:=fun i h st b hb=>by
  have e:b=it:=by simpa using hb
  subst e
  obtain ⟨o,e,c,d⟩:=st
  exact ⟨o,e,fun v z=>by rw [d] at z; cases z⟩
 keep:=fun i h h' st k=>st.at fun o e=>k it (by simp) o e
 item:=by
  intro X hP hw hK hc i pins s σ H E I hf st hg
  subst hP hw hK
  obtain ⟨xs,x,hq,hx⟩:=hg
  obtain ⟨its,rv,p,hz⟩:=I.tuple hq
  obtain ⟨u,hu,ru⟩:=rv.get hx
  obtain ⟨f0,f1,f2,f3,f4,f5⟩:=hf it (by simp)
  refine wpAny_pyNext_tuple_item st (show s.heap.IsTuple a its.toArray from p) (x:=u) (by simpa using hu) fun h' st' sb=>?_
  have I1:Inv X pins σ H { s with heap:=h' }:=I.turned (t':=s.toks) (fun b o hb e=>(sb.2 b hb).trans e) f0 f1 f3 f4 f5
  obtain ⟨o,e,c,d⟩:=id st'
  exact ⟨u,rfl,ae3 (s:={ s with heap:=h' }) e c d (by decide) ⟨x,H,I1,ru,⟨rfl,fun ys hy=>by rw [I.tuple_inj hy hq]; exact hx⟩,st',fun b hb=>(hf b hb).1⟩⟩
 done:=by
  intro X hP hw hK hc i pins s σ H E I hf st hg
  subst hP hw hK
  obtain ⟨xs,hq,hx⟩:=hg
  obtain ⟨its,rv,p,hz⟩:=I.tuple hq
  obtain ⟨f0,f1,f2,f3,f4,f5⟩:=hf it (by simp)
  have hl:=rv.length
  exact wpAny_pyNext_tuple_end (I.ok.hd hc) st (show s.heap.IsTuple a its.toArray from p) (by simp; omega) fun h' eb=>⟨rfl,I.turned (t':=s.toks) (fun b o hb e=>eb b o hb e) f0 f1 f3 f4 f5⟩
 self:=fun _ _ _ _ _ st h=>wpAny_pyIter_tupleiter st h
theorem acP {P:Program}{w:World}{K:PySem.W.Frag}{tg:Expr} (it:Addr) (lo:Int) (n:Nat):Turn P w K tg (Itr lo n) [it] it (fun i h=>IsRangeIter h it (lo+(i:Nat)*1) ((n:Int) - (i:Nat)) 1) where
 mem:=by simp
 obj:=fun i h st b hb=>by
  have e:b=it:=by simpa using hb
  subst e
  exact ⟨_,st,fun v z=>by
   have z':Data.fields _=Data.cell v:=z
   cases z'⟩
 keep:=fun i h h' st k=>k it (by simp) _ st
 item:=by
  intro X hP hw hK hc i pins s σ H E I hf st hg
  subst hP hw hK
  obtain ⟨f0,f1,f2,f3,f4,f5⟩:=hf it (by simp)
  have W:=Walks.range (prog:=X.prog) (w:=X.w) (I.ok.hd hc) it lo 1 n
  refine W.item i s _ _ hg st fun v h' tk hv st' kk=>?_
  obtain ⟨t,rfl⟩:=hv
  have I1:Inv X pins σ H { s with heap:=h',toks:=tk }:=I.turned (fun b o hb e=>kk b o (by simpa using hb) e) f0 f1 f3 f4 f5
  refine ⟨_,rfl,ae3 (s:={ s with heap:=h',toks:=tk }) (n:="range_iterator") st' rfl rfl (by decide) ⟨.int (lo+i),H,I1,⟨t,?_⟩,⟨rfl,rfl⟩,st',fun b hb=>(hf b hb).1⟩⟩
  rw [Int.mul_one]
 done:=by
  intro X hP hw hK hc i pins s σ H E I hf st hg
  subst hP hw hK
  obtain ⟨f0,f1,f2,f3,f4,f5⟩:=hf it (by simp)
  exact wpAny_pyNext_range_end (I.ok.hd hc) st (by have:n<=i:=hg; omega) fun h' eb=>⟨rfl,I.turned (t':=s.toks) (fun b o hb e=>eb b o hb e) f0 f1 f3 f4 f5⟩
 self:=fun _ _ _ _ _ st h=>wpAny_pyIter_rangeiter st h
end L2
namespace L2
open PySem PySem.Spec PyProof.Rows
section
variable {X:Cx}{tg:Expr}
noncomputable def ajY (K:PySem.W.Frag) (tl:TE):TI:=fun σ H R=>tl σ H fun x H1=>∃ a,x= .ref a/\(∃ xs,SqL K H1 a xs)/\R (Itl K a) H1
noncomputable def akU (K:PySem.W.Frag) (tl:TE):TI:=fun σ H R=>tl σ H fun x H1=>∃ a,x= .ref a/\(∃ xs,SqT K H1 a xs)/\R (Itt K a) H1
theorem adv {l:Expr}{tl:TE} (hl:PE X l tl):PI X tg l (ajY X.K tl):=by
 intro pins s σ H R I h
 refine thn (hl pins s σ H _ I h) fun v s1 ⟨x,H1,I1,r1,q1⟩=>?_
 obtain ⟨a,e,⟨xs,hq⟩,q⟩:=q1
 subst e
 cases r1
 obtain ⟨its,rv,p,hz⟩:=I1.list hq
 refine wpAny_pyIter_list p.isList ?_
 refine ⟨s1.heap.objs.size,[s1.heap.objs.size],_,_,H1,rfl,I1.kept (t':=s1.toks) fun b o e=>Heap.get?_push_of_some _ e,ad0 a _,⟨_,Heap.get?_push_size _ rfl,rfl,rfl⟩,fun b hb=>?_,q⟩
 have e:b=s1.heap.objs.size:=by simpa using hb
 subst e
 exact I1.fpOk (Nat.le_refl _) (I1.hok.fresh (Nat.le_refl _))
theorem aiJ {l:Expr}{tl:TE} (hl:PE X l tl):PI X tg l (akU X.K tl):=by
 intro pins s σ H R I h
 refine thn (hl pins s σ H _ I h) fun v s1 ⟨x,H1,I1,r1,q1⟩=>?_
 obtain ⟨a,e,⟨xs,hq⟩,q⟩:=q1
 subst e
 cases r1
 obtain ⟨its,rv,p,hz⟩:=I1.tuple hq
 refine wpAny_pyIter_tuple (show s1.heap.IsTuple a its.toArray from p) ?_
 refine ⟨s1.heap.objs.size,[s1.heap.objs.size],_,_,H1,rfl,I1.kept (t':=s1.toks) fun b o e=>Heap.get?_push_of_some _ e,acO a _,⟨_,Heap.get?_push_size _ rfl,rfl,rfl⟩,fun b hb=>?_,q⟩
 have e:b=s1.heap.objs.size:=by simpa using hb
 subst e
 exact I1.fpOk (Nat.le_refl _) (I1.hok.fresh (Nat.le_refl _))
theorem ae4 {pins:List (Addr × Obj)}{σ:St}{H:Hp}{s:Shared}{R:It->Hp->Prop}{E:Value->Shared->Prop}{lo hi:Int}{t u v:Tok}{tk:Nat} (I:Inv X pins σ H s) (h1:-(2 ^ 62)<=lo) (h2:lo < 2 ^ 62) (h3:-(2 ^ 62)<=hi) (h4:hi < 2 ^ 62)
  (q:R (Itr lo (hi - lo).toNat) H):wpAny (model X.prog X.w) X.A (pyIter (.ref s.heap.objs.size)) (PIE X pins σ tg R) E { s with heap:=s.heap.push { cls:= .type "range",data:= .fields #[.int lo t,.int hi u,.int 1 v] },toks:=tk }:=by
 refine wpAny_pyIter_range (IsRange.new ..) (small_one h1 h2 h3 h4) ?_
 have I1:Inv X pins σ H { s with heap:=s.heap.push { cls:= .type "range",data:= .fields #[.int lo t,.int hi u,.int 1 v] },toks:=tk }:=I.kept fun b o e=>Heap.get?_push_of_some _ e
 refine ⟨(s.heap.push { cls:= .type "range",data:= .fields #[.int lo t,.int hi u,.int 1 v] }).objs.size,[(s.heap.push { cls:= .type "range",data:= .fields #[.int lo t,.int hi u,.int 1 v] }).objs.size],_,_,H,rfl,
  I1.kept (t':=tk) fun b o e=>Heap.get?_push_of_some _ e,acP _ lo (hi - lo).toNat,?_,fun b hb=>?_,q⟩
 ·have e1:lo+((0:Nat):Int)*1=lo:=by simp
  have e2:(((hi - lo).toNat:Nat):Int) - ((0:Nat):Int)=Builtin.Range.rangeSize lo hi 1:=by rw [rangeSize_one]; split <;> omega
  show IsRangeIter _ _ (lo+((0:Nat):Int)*1) ((((hi - lo).toNat:Nat):Int) - ((0:Nat):Int)) 1
  rw [e1,e2]
  exact Heap.get?_push_size _ rfl
 ·have e:b=(s.heap.push { cls:= .type "range",data:= .fields #[.int lo t,.int hi u,.int 1 v] }).objs.size:=by simpa using hb
  subst e
  exact I1.fpOk (Nat.le_refl _) (I1.hok.fresh (Nat.le_refl _))
noncomputable def ajZ (ta:TA):TI:=fun σ H R=>ta σ H fun vs H1=>∃ j:Int,vs=[.int j]/\-(2 ^ 62)<=j/\j < 2 ^ 62/\R (Itr 0 j.toNat) H1
theorem QR {a:Expr}{ta:TA}{p pos:Pos} (hg:Gl X "range") (hm:X.mg "range"=none) (ha:PA X [a] ta) (hs:starEach [a] X.env=[(false,eval a X.env)]:=by rfl):PI X tg (.Call (.Name "range" p) [a] [] pos) (ajZ ta):=by
 intro pins s σ H R I h
 refine Call_ (JU I hg hm boot_range (PyProof.Rows.callWith_type1 (thn (ha pos pins s σ H _ I h) fun us s1 ⟨vs,H1,I1,r1,q1⟩=>?_) hs rfl))
 obtain ⟨j,e,q1,q2,q⟩:=q1
 subst e
 cases r1 with
 | cons r rr=>
  cases rr
  obtain ⟨t,rfl⟩:=r
  exact call_range_1 (ae4 I1 (by omega) (by omega) q1 q2 (by simpa using q))
noncomputable def akV (wi:TI) (g:TG) (tb:TS):TS:=fun D σ H=>wi σ H fun J H1=>∃ W:Nat->Nat->St->Hp->Prop,(∃ m,W 0 m σ H1)/\∀ i m σ H,W i m σ H->
 (J.stop i H/\D.nx σ H) ∨ (J.go i H/\∃ N:St->Hp->Prop,(∀ σ' H',N σ' H'->∃ m',m' < m/\W (i+1) m' σ' H')/\∀ x H',J.yld i H x H'->g x σ H' fun σ2 H2=>tb { D with nx:=N,ct:=N,bk:=D.nx } σ2 H2)
noncomputable def ZS (fp:List Addr) (h:Heap):List (Addr × Obj):=fp.filterMap fun b=>(h.get? b).map fun o=>(b,o)
theorem zR {fp:List Addr}{h:Heap}{b:Addr}{o:Obj} (hb:b ∈ fp) (e:h.get? b=some o):(b,o) ∈ ZS fp h:=List.mem_filterMap.mpr ⟨b,hb,by rw [e]; rfl⟩
theorem ad3 {fp:List Addr}{h:Heap}{p:Addr × Obj} (hp:p ∈ ZS fp h):p.1 ∈ fp/\h.get? p.1=some p.2:=by
 obtain ⟨b,hb,e⟩:=List.mem_filterMap.mp hp
 cases q:h.get? b with
 | none=>rw [q] at e; cases e
 | some o=>
  rw [q] at e
  have e':(b,o)=p:=Option.some.inj e
  subst e'
  exact ⟨hb,q⟩
theorem Inv.pinned {pins:List (Addr × Obj)}{σ:St}{H:Hp}{s:Shared}{fp:List Addr} (I:Inv X pins σ H s) (hf:∀ b ∈ fp,abR X pins H b) (ho:∀ b ∈ fp,∃ o,s.heap.get? b=some o/\∀ v,o.data ≠ .cell v):Inv X (pins++ZS fp s.heap) σ H s:=
 I.pins_of fun p hp=>(List.mem_append.mp hp).elim (fun z=>I.pin p (List.mem_append_right _ z)) fun z=>by
  obtain ⟨hb,e⟩:=ad3 z
  obtain ⟨f0,f1,f2,_⟩:=hf p.1 hb
  obtain ⟨o,e',d⟩:=ho p.1 hb
  rw [e] at e'; cases e'
  exact ⟨e,f0,f1,f2,d⟩
theorem Inv.unpinned {pins pl:List (Addr × Obj)}{σ:St}{H:Hp}{s:Shared} (I:Inv X (pins++pl) σ H s):Inv X pins σ H s:=I.pins_of fun p hp=>I.pin p (List.mem_append_right _ (List.mem_append_left _ hp))
theorem ZT {iter:Expr}{body:List Stmt}{wi:TI}{g:TG}{tb:TS}{pos:Pos} (hp:PassesOwn (model X.prog X.w) X.A X.env X.xe) (hc:X.calm=true) (hi:PI X tg iter wi) (hg:PG X tg g) (hb:PSs X body tb)
  (hs:∀ x,foldedSetIterable iter X.env x=pure x:=by intro _; rfl):PS X (.For tg iter body [] pos) (akV wi g tb):=by
 intro pins s σ H D I h
 refine wpAny_For (thn (hi pins s σ H _ I h) fun v s1 h1=>thn h1 fun itv s2 h2=>?_) hs
 obtain ⟨it,fp,tn,J,H2,e,I2,T,st2,f2,W,⟨m0,w0⟩,turn⟩:=h2
 subst e
 have stat:∀ {H':Hp},(∀ b ∈ fp,H' b=none)->∀ b ∈ fp,abR X pins H' b:=fun hn b hb=>⟨hn b hb,(f2 b hb).2⟩
 refine codeAny_forLoop_any (fun n s'=>∃ i σ' H',Inv X pins σ' H' s'/\tn i s'.heap/\(∀ b ∈ fp,H' b=none)/\W i n σ' H') ?_ m0 ⟨0,σ,H2,I2,st2,fun b hb=>(f2 b hb).1,w0⟩
 rintro n s3 ⟨i,σ3,H3,I3,st3,fr3,w3⟩
 rcases turn i n σ3 H3 w3 with ⟨stop,qn⟩ | ⟨go,N,hN,step⟩
 ·refine wpAny_passesOwn hp (thn (T.done X rfl rfl rfl hc i pins s3 σ3 H3 X.xe I3 (stat fr3) st3 stop) fun r s4 ⟨hr,I4⟩=>?_)
  subst hr
  exact wpAny_execs_nil ⟨σ3,H3,I4,qn⟩
 ·refine wpAny_passesOwn hp (thn (T.item X rfl rfl rfl hc i pins s3 σ3 H3 X.xe I3 (stat fr3) st3 go) fun r s4 ⟨u,hr,h4⟩=>?_)
  subst hr
  refine wpAny_passesOwn hp (thn h4 fun _ s5 ⟨x,H5,I5,r5,y5,st5,fr5⟩=>?_)
  have I5':=I5.pinned (stat fr5) (T.obj _ _ st5)
  refine wpAny_passesOwn hp (thn (hg _ s5 σ3 H5 x u _ I5' r5 (step x H5 y5)) fun _ s6 ⟨σ6,H6,I6,q6⟩=>?_)
  refine wpAny_passesOwn hp (thn (hb _ s6 σ6 H6 _ I6 q6) fun f s7 q7=>?_)
  have again:∀ {σ7:St} {H7:Hp},Inv X (pins++ZS fp s5.heap) σ7 H7 s7->N σ7 H7->∃ m,m < n/\∃ i σ' H',Inv X pins σ' H' s7/\tn i s7.heap/\(∀ b ∈ fp,H' b=none)/\W i m σ' H':=fun {σ7 H7} I7 n7=>by
   obtain ⟨m',hm,w7⟩:=hN σ7 H7 n7
   refine ⟨m',hm,i+1,σ7,H7,I7.unpinned,T.keep _ _ _ st5 fun b hb o e=>(I7.pin (b,o) (List.mem_append_right _ (List.mem_append_right _ (zR hb e)))).1,fun b hb=>?_,w7⟩
   obtain ⟨o,e,d⟩:=T.obj _ _ st5 b hb
   exact (I7.pin (b,o) (List.mem_append_right _ (List.mem_append_right _ (zR hb e)))).2.1
  cases f with
  | next=>obtain ⟨σ7,H7,I7,n7⟩:=q7; exact again I7 n7
  | cont=>obtain ⟨σ7,H7,I7,n7⟩:=q7; exact again I7 n7
  | brk=>obtain ⟨σ7,H7,I7,q7⟩:=q7; exact ⟨σ7,H7,I7.unpinned,q7⟩
  | ret v=>obtain ⟨x7,σ7,H7,I7,r7,q7⟩:=q7; exact ⟨x7,σ7,H7,I7.unpinned,r7,q7⟩
end
theorem ae5 {K:PySem.W.Frag}{a:Addr}{xs:List V}{g:TG}{tb:TS}{D:Ends}{σ:St}{H:Hp} (Pv:Nat->St->Hp->Prop) (h0:Pv 0 σ H) (hl:∀ i σ H,i<=xs.length->Pv i σ H->SqL K H a xs)
  (hs:∀ i x σ H,xs[i]?=some x->Pv i σ H->g x σ H fun σ2 H2=>tb { D with nx:=Pv (i+1),ct:=Pv (i+1),bk:=D.nx } σ2 H2) (hd:∀ σ H,Pv xs.length σ H->D.nx σ H):
  ∃ W:Nat->Nat->St->Hp->Prop,(∃ m,W 0 m σ H)/\∀ i m σ H,W i m σ H->
   ((Itl K a).stop i H/\D.nx σ H) ∨ ((Itl K a).go i H/\∃ N:St->Hp->Prop,(∀ σ' H',N σ' H'->∃ m',m' < m/\W (i+1) m' σ' H')/\∀ x H',(Itl K a).yld i H x H'->g x σ H' fun σ2 H2=>tb { D with nx:=N,ct:=N,bk:=D.nx } σ2 H2):=by
 refine ⟨fun i m σ H=>m=xs.length - i/\i<=xs.length/\Pv i σ H,⟨xs.length,by simp,Nat.zero_le _,h0⟩,?_⟩
 rintro i m σ H ⟨rfl,hi,p⟩
 have q:=hl i σ H hi p
 by_cases hlt:i < xs.length
 ·refine .inr ⟨⟨xs,xs[i],q,by simp [hlt]⟩,Pv (i+1),fun σ' H' p'=>⟨xs.length - (i+1),by omega,rfl,hlt,p'⟩,fun x H' y=>?_⟩
  obtain ⟨e,y⟩:=y
  subst e
  exact hs i x σ _ (y xs q) p
 ·have e:i=xs.length:=by omega
  subst e
  exact .inl ⟨⟨xs,q,Nat.le_refl _⟩,hd σ H p⟩
theorem aaz {lo:Int}{n:Nat}{g:TG}{tb:TS}{D:Ends}{σ:St}{H:Hp} (Pv:Nat->St->Hp->Prop) (h0:Pv 0 σ H)
  (hs:∀ i σ H,i < n->Pv i σ H->g (.int (lo+i)) σ H fun σ2 H2=>tb { D with nx:=Pv (i+1),ct:=Pv (i+1),bk:=D.nx } σ2 H2) (hd:∀ σ H,Pv n σ H->D.nx σ H):
  ∃ W:Nat->Nat->St->Hp->Prop,(∃ m,W 0 m σ H)/\∀ i m σ H,W i m σ H->
   ((Itr lo n).stop i H/\D.nx σ H) ∨ ((Itr lo n).go i H/\∃ N:St->Hp->Prop,(∀ σ' H',N σ' H'->∃ m',m' < m/\W (i+1) m' σ' H')/\∀ x H',(Itr lo n).yld i H x H'->g x σ H' fun σ2 H2=>tb { D with nx:=N,ct:=N,bk:=D.nx } σ2 H2):=by
 refine ⟨fun i m σ H=>m=n - i/\i<=n/\Pv i σ H,⟨n,by simp,Nat.zero_le _,h0⟩,?_⟩
 rintro i m σ H ⟨rfl,hi,p⟩
 by_cases hlt:i < n
 ·refine .inr ⟨hlt,Pv (i+1),fun σ' H' p'=>⟨n - (i+1),by omega,rfl,hlt,p'⟩,fun x H' y=>?_⟩
  obtain ⟨e,y⟩:=y
  subst e y
  exact hs i σ _ hlt p
 ·have e:i=n:=by omega
  subst e
  exact .inl ⟨Nat.le_refl _,hd σ H p⟩
end L2
namespace L2
open PySem PySem.Spec PyProof.Rows
noncomputable abbrev R2:=V->V->Hp->VK->Prop
noncomputable def OpR (X:Cx) (f:Value->Value->Sem Value) (r:R2):Prop:=
 ∀ (pins:List (Addr × Obj)) (s:Shared) (σ:St) (H:Hp) (x y:V) (v u:Value) (Q:VK),Inv X pins σ H s->jy x v->jy y u->r x y H Q->
  wpAny (model X.prog X.w) X.A (f v u) (EP X pins σ Q) X.xe s
noncomputable def UnR (X:Cx) (f:Value->Sem Value) (r:V->Hp->VK->Prop):Prop:=
 ∀ (pins:List (Addr × Obj)) (s:Shared) (σ:St) (H:Hp) (x:V) (v:Value) (Q:VK),Inv X pins σ H s->jy x v->r x H Q->
  wpAny (model X.prog X.w) X.A (f v) (EP X pins σ Q) X.xe s
noncomputable def za (X:Cx) (f:Value) (r:List V->Hp->VK->Prop):Prop:=
 ∀ (pins:List (Addr × Obj)) (s:Shared) (σ:St) (H:Hp) (xs:List V) (us:List Value) (Q:VK),Inv X pins σ H s->jw xs us->r xs H Q->
  wpAny (model X.prog X.w) X.A (call f us) (EP X pins σ Q) X.xe s
noncomputable def tOp (r:R2) (ta tb:TE):TE:=fun σ H Q=>ta σ H fun x H1=>tb σ H1 fun y H2=>r x y H2 Q
noncomputable def tUn (r:V->Hp->VK->Prop) (ta:TE):TE:=fun σ H Q=>ta σ H fun x H1=>r x H1 Q
noncomputable def rI (C:Int->Int->Prop) (g:Int->Int->V):R2:=fun x y H Q=>∃ i j,x= .int i/\y= .int j/\C i j/\Q (g i j) H
noncomputable def rI0 (g:Int->Int->V):R2:=fun x y H Q=>∃ i j,x= .int i/\y= .int j/\Q (g i j) H
noncomputable def rU (g:Int->V):V->Hp->VK->Prop:=fun x H Q=>∃ i,x= .int i/\Q (g i) H
section
variable {X:Cx}{a b c:Expr}{ta tb tc:TE}{pos:Pos}
theorem aiK (ha:PE X a ta) (hb:PE X b tb) {pins:List (Addr × Obj)}{s:Shared}{σ:St}{H:Hp}{R:V->V->Hp->Prop} (I:Inv X pins σ H s)
  (h:ta σ H fun x H1=>tb σ H1 fun y H2=>R x y H2) {Q:Value->Shared->Prop} {f:Value->Value->Sem Value}
  (hf:∀ v u s2 x y H2,Inv X pins σ H2 s2->jy x v->jy y u->R x y H2->wpAny (model X.prog X.w) X.A (f v u) Q X.xe s2):
  wpAny (model X.prog X.w) X.A (eval a X.env) (fun v s₁=>wpAny (model X.prog X.w) X.A (eval b X.env) (fun u s₂=>wpAny (model X.prog X.w) X.A (f v u) Q X.xe s₂) X.xe s₁) X.xe s:=by
 refine thn (ha pins s σ H _ I h) fun v s1 ⟨x,H1,I1,r1,q1⟩=>?_
 refine thn (hb pins s1 σ H1 _ I1 q1) fun u s2 ⟨y,H2,I2,r2,q2⟩=>?_
 exact hf v u s2 x y H2 I2 r1 r2 q2
theorem ail {op:Operator}{r:R2} (ho:OpR X (binaryOp op) r) (ha:PE X a ta) (hb:PE X b tb):PE X (.BinOp a op b pos) (tOp r ta tb):=by
 intro pins s σ H Q I h
 exact wpAny_BinOp (aiK ha hb I h fun v u s2 x y H2 I2 rx ry q=>ho pins s2 σ H2 x y v u Q I2 rx ry q)
theorem aim {op:UnaryOp}{r:V->Hp->VK->Prop} (ho:UnR X (unaryOp op) r) (ha:PE X a ta):PE X (.UnaryOp op a pos) (tUn r ta):=by
 intro pins s σ H Q I h
 exact UnaryOp_ (thn (ha pins s σ H _ I h) fun v s1 ⟨x,H1,I1,r1,q1⟩=>ho pins s1 σ H1 x v Q I1 r1 q1)
theorem opI {f:Value->Value->Sem Value}{C:Int->Int->Prop}{g:Int->Int->Int}
  (rule:∀ (i j:Int) (t u:Tok) (s:Shared) (Q:Value->Shared->Prop) (E:Value->Shared->Prop),C i j->Q (.int (g i j) s.toks) { s with toks:=s.toks+1 }->wpAny (model X.prog X.w) X.A (f (.int i t) (.int j u)) Q E s):
  OpR X f (rI C fun i j=> .int (g i j)):=by
 intro pins s σ H x y v u Q I rx ry h
 obtain ⟨i,j,rfl,rfl,hc,q⟩:=h
 obtain ⟨t,rfl⟩:=rx
 obtain ⟨t',rfl⟩:=ry
 exact rule i j t t' s _ _ hc ⟨.int (g i j),H,I.tok _,⟨_,rfl⟩,q⟩
theorem aj0 {f:Value->Value->Sem Value}{g:Int->Int->Int}
  (rule:∀ (i j:Int) (t u:Tok) (s:Shared) (Q:Value->Shared->Prop) (E:Value->Shared->Prop),Q (.int (g i j) s.toks) { s with toks:=s.toks+1 }->wpAny (model X.prog X.w) X.A (f (.int i t) (.int j u)) Q E s):
  OpR X f (rI0 fun i j=> .int (g i j)):=by
 intro pins s σ H x y v u Q I rx ry h
 obtain ⟨i,j,rfl,rfl,q⟩:=h
 obtain ⟨t,rfl⟩:=rx
 obtain ⟨t',rfl⟩:=ry
 exact rule i j t t' s _ _ ⟨.int (g i j),H,I.tok _,⟨_,rfl⟩,q⟩
theorem aj1 {f:Value->Value->Sem Value}{g:Int->Int->Bool}
  (rule:∀ (i j:Int) (t u:Tok) (s:Shared) (Q:Value->Shared->Prop) (E:Value->Shared->Prop),Q (.bool (g i j)) s->wpAny (model X.prog X.w) X.A (f (.int i t) (.int j u)) Q E s):
  OpR X f (rI0 fun i j=> .bl (g i j)):=by
 intro pins s σ H x y v u Q I rx ry h
 obtain ⟨i,j,rfl,rfl,q⟩:=h
 obtain ⟨t,rfl⟩:=rx
 obtain ⟨t',rfl⟩:=ry
 exact rule i j t t' s _ _ ⟨.bl (g i j),H,I,rfl,q⟩
noncomputable def akW (i j:Int):Prop:=0 < j/\j < 1073741824
noncomputable def aiL (i j:Int):Prop:=(-(2 ^ 64) < i/\i < 2 ^ 64) ∨ (-(2 ^ 64) < j/\j < 2 ^ 64)
theorem aiL.ok {i j:Int} (h:aiL i j):IntMulOk i j:=by
 rcases h with ⟨h1,h2⟩ | ⟨h1,h2⟩
 ·exact .of_left (intBits_le_64 h1 h2)
 ·exact .of_right (intBits_le_64 h1 h2)
theorem aiM:OpR X (binaryOp .Add) (rI0 fun i j=> .int (i+j)):=aj0 fun _ _ _ _ _ _ _ q=>add_int q
theorem aiN:OpR X (binaryOp .Sub) (rI0 fun i j=> .int (i - j)):=aj0 fun _ _ _ _ _ _ _ q=>sub_int q
theorem aiO:OpR X (binaryOp .Mult) (rI aiL fun i j=> .int (i*j)):=opI fun _ _ _ _ _ _ _ hc q=>mul_int q hc.ok
theorem agW:OpR X (binaryOp .FloorDiv) (rI akW fun i j=> .int (i / j)):=opI fun i j _ _ _ _ _ hc q=>by
 have h1:(0:Int) < j:=hc.1
 have h2:j < 1073741824:=hc.2
 exact floordiv_int (by omega) (by rw [Int.fdiv_eq_ediv_of_nonneg i (by omega)]; exact q) (.inl (PyProof.noPylong_small (by omega)))
theorem aiP:OpR X (binaryOp .Mod) (rI (fun _ j=>0 < j) fun i j=> .int (i % j)):=opI fun i j _ _ _ _ _ hc q=>by
 have h1:(0:Int) < j:=hc
 exact mod_int' (by omega) (by rw [Int.fmod_eq_emod_of_nonneg i (by omega)]; exact q)
theorem unI {f:Value->Sem Value}{g:Int->Int}
  (rule:∀ (i:Int) (t:Tok) (s:Shared) (Q:Value->Shared->Prop) (E:Value->Shared->Prop),Q (.int (g i) s.toks) { s with toks:=s.toks+1 }->wpAny (model X.prog X.w) X.A (f (.int i t)) Q E s):
  UnR X f (rU fun i=> .int (g i)):=by
 intro pins s σ H x v Q I rx h
 obtain ⟨i,rfl,q⟩:=h
 obtain ⟨t,rfl⟩:=rx
 exact rule i t s _ _ ⟨.int (g i),H,I.tok _,⟨_,rfl⟩,q⟩
theorem ae6:UnR X (unaryOp .USub) (rU fun i=> .int (-i)):=unI fun _ _ _ _ _ q=>neg_int q
end
section
variable {X:Cx}{a b c:Expr}{ta tb tc:TE}{pos:Pos}
theorem aj2:OpR X (compareOp .Lt) (rI0 fun i j=> .bl (decide (i < j))):=aj1 fun _ _ _ _ _ _ _ q=>lt_int q
theorem aj3:OpR X (compareOp .LtE) (rI0 fun i j=> .bl (decide (i<=j))):=aj1 fun _ _ _ _ _ _ _ q=>le_int q
theorem OpR.or {f:Value->Value->Sem Value}{r r':R2} (h:OpR X f r) (h':OpR X f r'):OpR X f (fun x y H Q=>r x y H Q ∨ r' x y H Q):=by
 intro pins s σ H x y v u Q I rx ry q
 rcases q with q | q
 ·exact h pins s σ H x y v u Q I rx ry q
 ·exact h' pins s σ H x y v u Q I rx ry q
theorem acQ (b:Expr) {op:CmpOp} (h:op ≠ .In:=by decide) (h2:op ≠ .NotIn:=by decide):behindInMarks op b=false:=by
 have e1:(op == CmpOp.In)=false:=by cases op <;> first | rfl | exact absurd rfl h
 have e2:(op == CmpOp.NotIn)=false:=by cases op <;> first | rfl | exact absurd rfl h2
 cases b <;> simp [behindInMarks,e1,e2]
theorem agX {op:CmpOp}{r:R2} (ho:OpR X (compareOp op) r) (ha:PE X a ta) (hb:PE X b tb) (hm:behindInMarks op b=false):PE X (.Compare a [op] [b] pos) (tOp r ta tb):=by
 intro pins s σ H Q I h
 exact wpAny_Compare1 (aiK ha hb I h fun v u s2 x y H2 I2 rx ry q=>ho pins s2 σ H2 x y v u Q I2 rx ry q) hm
noncomputable def ain (t:TE):TT:=fun σ H Q=>t σ H fun x H'=>∃ k,x= .bl k/\Q k H'
theorem agY {op:CmpOp}{r:R2} (ho:OpR X (compareOp op) r) (ha:PE X a ta) (hb:PE X b tb) (hm:behindInMarks op b=false):PT X (.Compare a [op] [b] pos) (ain (tOp r ta tb)):=by
 intro pins s σ H Q I h
 refine wpAny_isTrue_Compare1 (thn (ha pins s σ H _ I h) fun v s1 ⟨x,H1,I1,r1,q1⟩=>thn (hb pins s1 σ H1 _ I1 q1) fun u s2 ⟨y,H2,I2,r2,q2⟩=>
  thn (ho pins s2 σ H2 x y v u _ I2 r1 r2 q2) fun c s3 ⟨z,H3,I3,r3,k,e,q3⟩=>?_) hm
 subst e
 cases r3
 exact wpAny_truthy_bool ⟨H3,I3,q3⟩
noncomputable def acR (r r':R2) (ta tb tc:TE):TE:=fun σ H Q=>ta σ H fun x H1=>tb σ H1 fun y H2=>r x y H2 fun z H3=>∃ k,z= .bl k/\
 (if k=true then tc σ H3 fun w' H4=>r' y w' H4 Q else Q (.bl false) H3)
theorem ae7 {op op':CmpOp}{r r':R2} (ho:OpR X (compareOp op) r) (ho':OpR X (compareOp op') r') (ha:PE X a ta) (hb:PE X b tb) (hc:PE X c tc)
  (hm:lastMarks [op,op'] [b,c]=false:=by with_unfolding_all rfl):PE X (.Compare a [op,op'] [b,c] pos) (acR r r' ta tb tc):=by
 intro pins s σ H Q I h
 refine Compare_chain (thn (ha pins s σ H _ I h) fun v s1 ⟨x,H1,I1,r1,q1⟩=>chain_link (thn (hb pins s1 σ H1 _ I1 q1) fun u s2 ⟨y,H2,I2,r2,q2⟩=>
  thn (ho pins s2 σ H2 x y v u _ I2 r1 r2 q2) fun d s3 ⟨z,H3,I3,r3,k,e,q3⟩=>?_)) hm
 subst e
 cases r3
 refine wpAny_truthy_bool ?_
 cases k with
 | false=>exact ite_ff ⟨.bl false,H3,I3,rfl,q3⟩
 | true=>exact ite_tt (chain_last (thn (hc pins s3 σ H3 _ I3 q3) fun w' s4 ⟨z',H4,I4,r4,q4⟩=>ho' pins s4 σ H4 y z' u w' Q I4 r2 r4 q4))
theorem ae8 {op op':CmpOp}{r r':R2} (ho:OpR X (compareOp op) r) (ho':OpR X (compareOp op') r') (ha:PE X a ta) (hb:PE X b tb) (hc:PE X c tc)
  (hm:lastMarks [op,op'] [b,c]=false:=by with_unfolding_all rfl):PT X (.Compare a [op,op'] [b,c] pos) (ain (acR r r' ta tb tc)):=by
 intro pins s σ H Q I h
 refine isTrue_chain (thn (ha pins s σ H _ I h) fun v s1 ⟨x,H1,I1,r1,q1⟩=>test_link (thn (hb pins s1 σ H1 _ I1 q1) fun u s2 ⟨y,H2,I2,r2,q2⟩=>
  thn (ho pins s2 σ H2 x y v u _ I2 r1 r2 q2) fun d s3 ⟨z,H3,I3,r3,k,e,q3⟩=>?_)) hm
 subst e
 cases r3
 refine wpAny_truthy_bool ?_
 cases k with
 | false=>
  obtain ⟨k',e',q'⟩:=q3
  cases e'
  exact ite_ff ⟨H3,I3,q'⟩
 | true=>
  refine ite_tt (test_last (thn (hc pins s3 σ H3 _ I3 q3) fun w' s4 ⟨z',H4,I4,r4,q4⟩=>thn (ho' pins s4 σ H4 y z' u w' _ I4 r2 r4 q4) fun d' s5 ⟨z2,H5,I5,r5,k2,e2,q5⟩=>?_))
  subst e2
  cases r5
  exact wpAny_truthy_bool ⟨H5,I5,q5⟩
theorem QS:(sizeLine:Nat) < 2 ^ 63:=by rw [sizeLine_eq]; decide
theorem Qg {x:V}{us:List Value} (r:jw [x] us):∃ u,us=[u]/\jy x u:=by
 cases r with
 | cons r1 r2=>cases r2; exact ⟨_,rfl,r1⟩
theorem abS {x y:V}{us:List Value} (r:jw [x,y] us):∃ u w',us=[u,w']/\jy x u/\jy y w':=by
 cases r with
 | cons r1 r2=>
  cases r2 with
  | cons r3 r4=>cases r4; exact ⟨_,_,rfl,r1,r3⟩
theorem ad4 (hc:X.calm=true):za X (.builtin "max") (fun xs H Q=>∃ i j,xs=[.int i,.int j]/\Q (.int (if j > i then j else i)) H):=by
 intro pins s σ H xs us Q I r h
 obtain ⟨i,j,rfl,q⟩:=h
 obtain ⟨u,w',rfl,⟨t,rfl⟩,⟨t',rfl⟩⟩:=abS r
 refine max_two_ints (I.ok.hd hc) fun h' tk k=>⟨_,H,I.kept k,?_,q⟩
 by_cases hj:j > i
 ·rw [if_pos hj,if_pos hj]; exact ⟨_,rfl⟩
 ·rw [if_neg hj,if_neg hj]; exact ⟨_,rfl⟩
theorem ad5 (hc:X.calm=true):za X (.builtin "min") (fun xs H Q=>∃ i j,xs=[.int i,.int j]/\Q (.int (if j < i then j else i)) H):=by
 intro pins s σ H xs us Q I r h
 obtain ⟨i,j,rfl,q⟩:=h
 obtain ⟨u,w',rfl,⟨t,rfl⟩,⟨t',rfl⟩⟩:=abS r
 refine min_two_ints (I.ok.hd hc) fun h' tk k=>⟨_,H,I.kept k,?_,q⟩
 by_cases hj:j < i
 ·rw [if_pos hj,if_pos hj]; exact ⟨_,rfl⟩
 ·rw [if_neg hj,if_neg hj]; exact ⟨_,rfl⟩
end
end L2
namespace L2
open PySem PySem.Spec PyProof.Rows
structure ObjM (h:Heap) (x dx C:Addr) (mA:Str->Option Value):Prop where
 obj:h.get? x=some (PySem.W.instObj C dx)
 ns:h.Ns1 dx mA
 ne:dx ≠ x
section
variable {prog:Program}{w:World}{A:Around}{E:Value->Shared->Prop}{s:Shared}{K:PySem.W.Frag}{x dx C f:Addr}{mA:Str->Option Value}{name:Str}{v:Value}
end
theorem Zt.some_of {v:V}{o:Option Value} (r:Zt (some v) o):∃ u,o=some u/\jy v u:=by
 cases o with
 | none=>exact (show False from r).elim
 | some u=>exact ⟨u,rfl,r⟩
section
variable {P:Program}{w:World}{H H':Hp}{h h':Heap}{a C dx:Addr}{fs fs':List (Str × V)}
end
structure Cls (K:PySem.W.Frag) (C:Addr):Prop where
 pg:PySem.W.plainGet K C Str.empty=true
 hd:PySem.W.hasDictIn K C=true
 po:PySem.W.plainOver K C=true
 sa:PySem.W.findIn K (.ref C) "__setattr__"=some (some (.builtin "object.__setattr__"))
theorem Cls.get {K:PySem.W.Frag}{C:Addr} (c:Cls K C) (f:Str):PySem.W.plainGet K C f=true:=c.pg
structure Con (K:PySem.W.Frag) (C:Addr) (f:Str) (v:V) (u:Value):Prop where
 at_:PySem.W.findIn K (.ref C) f=some (some u)
 rel:jy v u
 get:PySem.W.specialIn K u "__get__"=some none
 cp:PySem.W.copiedNames.contains f=false
structure Meth (K:PySem.W.Frag) (C:Addr) (m:Str) (f:Addr):Prop where
 at_:PySem.W.findIn K (.ref C) m=some (some (.ref f))
 fn:PySem.W.isFn K (.ref f)=true
 kp:PySem.W.keepIn K (.ref f)=true
section
variable {X:Cx}{pins:List (Addr × Obj)}{σ:St}{H:Hp}{s:Shared}{a C dx:Addr}{fs:List (Str × V)}{f:Str}{v:V}{A:Around}{E:Value->Shared->Prop}
theorem Inv.made (I:Inv X pins σ H s):Inv X pins σ (upd (upd H s.heap.objs.size (.own (s.heap.objs.size+1))) (s.heap.objs.size+1) (.ins C s.heap.objs.size []))
  { s with heap:=(s.heap.push PySem.W.emptyDict).push (PySem.W.instObj C s.heap.objs.size) }:=by
 have e1:(s.heap.push PySem.W.emptyDict).get? s.heap.objs.size=some PySem.W.emptyDict:=Heap.get?_push_size s.heap rfl
 have e2:((s.heap.push PySem.W.emptyDict).push (PySem.W.instObj C s.heap.objs.size)).get? (s.heap.objs.size+1)=some (PySem.W.instObj C s.heap.objs.size):=by
  have:=Heap.get?_push_size (s.heap.push PySem.W.emptyDict) (o:=PySem.W.instObj C s.heap.objs.size) rfl
  rwa [Heap.size_push] at this
 have e3:(s.heap.push PySem.W.emptyDict).Ns s.heap.objs.size (fun _=>none):=⟨PySem.W.emptyDict,#[],_,e1,rfl,(fun e he=>absurd he (by simp)),fun _=>rfl⟩
 have I1:=I.laid (a:=s.heap.objs.size) (o:= .own (s.heap.objs.size+1)) (h':=s.heap.push PySem.W.emptyDict) (t':=s.toks) (fun b u q=>Heap.get?_push_of_some _ q) (Nat.le_refl _) ⟨_,e1⟩
 refine I1.laid (a:=s.heap.objs.size+1) (o:= .ins C s.heap.objs.size []) (t':=s.toks) (fun b u q=>Heap.get?_push_of_some _ q) (Nat.le_of_eq (Heap.size_push _ _)) ?_
 have ne:s.heap.objs.size ≠ s.heap.objs.size+1:=Nat.ne_of_lt (Nat.lt_succ_self _)
 refine ⟨by rw [jl ne,jp],Nat.zero_le _,ne,e2,fun _=>none,(Heap.Ns1.of_empty e3).at fun o q=>Heap.get?_push_of_some _ q,fun _=>True.intro,fun y hy=>absurd rfl hy⟩
end
section
variable {X:Cx}{o e value:Expr}{f:Str}{pos pos' tpos:Pos}{ta tv:TE}
end
section
variable {X:Cx}{pins:List (Addr × Obj)}{σ:St}{H:Hp}{s:Shared}{A:Around}{E:Value->Shared->Prop}{Q:Value->Shared->Prop}{c:Value}{b:Bool}
inductive TyOf (K:PySem.W.Frag) (H:Hp):V->Value->Prop where
 | non:TyOf K H .non (.type "NoneType")
 | bl (x:Bool):TyOf K H (.bl x) (.type "bool")
 | int (i:Int):TyOf K H (.int i) (.type "int")
 | str (x:Str):TyOf K H (.str x) (.type "str")
 | flt (x:UInt64):TyOf K H (.flt x) (.type "float")
 | lst {a:Addr} {xs:List V} (e:H a=some (.lst xs)):TyOf K H (.ref a) (.type "list")
 | frz {a:Addr} {o:Obj} {xs:List V} (e:H a=some (.frz o (.lst xs))):TyOf K H (.ref a) (.type "list")
 | tup {a:Addr} {xs:List V} (e:H a=some (.tup xs)):TyOf K H (.ref a) (.type "tuple")
 | dK {a:Addr} {kvs:List (Key × V)} (e:H a=some (.dK kvs)):TyOf K H (.ref a) (.type "dict")
 | dT {a:Addr} {kvs:List (List Key × V)} (e:H a=some (.dT kvs)):TyOf K H (.ref a) (.type "dict")
 | ins {a C dx:Addr} {fs:List (Str × V)} (e:H a=some (.ins C dx fs)) (cl:Cls K C) (ha:PySem.W.findIn K (.ref C) "__class__"=some (some (.builtin "object.__class__")))
   (hn:PySem.W.specialIn K (.builtin "object.__class__") "__get__"=some (some (.builtin "getset_descriptor.__get__"))) (htk:PySem.W.takesIn K (.builtin "object.__class__")=some true)
   (hm:PySem.W.mroIn K C (.type "object")=some true):TyOf K H (.ref a) (.ref C)
end
end L2
namespace L2
open PySem PySem.Spec PyProof.Rows
structure Room (k:Nat) (A:Around):Prop where
 hd:A.handled=none
 dp:A.depth+3*k+5 < recursionLimit
 un:A.units+16*k+200 < cLine
theorem Room.mono {j k:Nat}{A:Around} (r:Room k A) (h:j<=k):Room j A:=⟨r.hd,by have:=r.dp; omega,by have:=r.un; omega⟩
theorem Room.deeper {k:Nat}{A:Around} (r:Room (k+1) A) (env:Env):Room k (A.deeper env):=
 ⟨r.hd,by have:=r.dp; show A.depth+1+3*k+5 < _; omega,by have:=r.un; show A.units+3+16*k+200 < _; omega⟩
theorem Room.in1 {k:Nat}{A:Around} (r:Room (k+1) A):Room k A.in1:=
 ⟨r.hd,by have:=r.dp; show A.depth+3*k+5 < _; omega,by have:=r.un; show A.units+1+16*k+200 < _; omega⟩
theorem Room.depth {k:Nat}{A:Around} (r:Room k A):A.depth < recursionLimit:=by have:=r.dp; omega
theorem Room.units {k:Nat}{A:Around} (r:Room k A):A.units+64 < cLine:=by have:=r.un; omega
noncomputable def ad6:TA:=fun _ H Q=>Q [] H
noncomputable def ZU (ta:TE) (tr:TA):TA:=fun σ H Q=>ta σ H fun x H1=>tr σ H1 fun xs H2=>Q (x::xs) H2
section
variable {X:Cx}{e:Expr}{es:List Expr}{te:TE}{t:TA}{pos:Pos}
theorem Zu {α:Type}:∀ (us:List α),us.length=1->∃ a,us=[a]
 | [a],_=>⟨a,rfl⟩
theorem acS {α:Type} (us:List α) (h:us.length=2):∃ a b,us=[a,b]:=by
 cases us with
 | nil=>cases h
 | cons a r=>obtain ⟨b,rfl⟩:=Zu r (Nat.succ.inj h); exact ⟨a,b,rfl⟩
theorem aiQ {α:Type} (us:List α) (h:us.length=3):∃ a b c,us=[a,b,c]:=by
 cases us with
 | nil=>cases h
 | cons a r=>obtain ⟨b,c,rfl⟩:=acS r (Nat.succ.inj h); exact ⟨a,b,c,rfl⟩
theorem qQ:PA X [] ad6:=fun _ _ _ _ H Q I h=>Calls.spliced_nil ⟨[],H,I,.nil,h⟩
theorem j4 (ha:PE X e te) (hr:PA X es t) (hs:starEach (e::es) X.env=(false,eval e X.env)::starEach es X.env:=by rfl):PA X (e::es) (ZU te t):=by
 intro pos pins s σ H Q I h
 rw [hs]
 show wpAny _ _ (spliced ((false,eval e X.env)::backTo pos (starEach es X.env))) _ _ s
 refine Calls.spliced_cons (thn (ha pins s σ H _ I h) fun u s1 ⟨x,H1,I1,r1,q1⟩=>?_)
 exact thn (hr pos pins s1 σ H1 _ I1 q1) fun us s2 ⟨xs,H2,I2,r2,q2⟩=>⟨x::xs,H2,I2,.cons r1 r2,q2⟩
noncomputable def akX (t:TA):TE:=fun σ H Q=>t σ H fun xs H1=>xs.length<=sizeLine/\∀ p,H1 p=none->Q (.ref p) (upd H1 p (.tup xs))
noncomputable def akY (t:TA):TE:=fun σ H Q=>t σ H fun xs H1=>xs.length<=sizeLine/\∀ p,H1 p=none->Q (.ref p) (upd H1 p (.lst xs))
theorem ae9 {x1} (h:PA X es t):PE X (.Tuple es x1 pos) (akX t):=by
 intro pins s σ H Q I hq
 refine wpAny_Tuple_spliced (thn (h pos pins s σ H _ I hq) fun us s1 ⟨xs,H1,I1,r,z,q⟩=>⟨by rw [←r.length]; exact z,?_⟩)
 have hf:H1 s1.heap.objs.size=none:=I1.hok.fresh (Nat.le_refl _)
 refine ⟨.ref s1.heap.objs.size,upd H1 s1.heap.objs.size (.tup xs),I1.laid (t':=s1.toks) (fun b u e=>Heap.get?_push_of_some _ e) (Nat.le_refl _) ?_,rfl,q _ hf⟩
 exact ⟨z,us,r,⟨_,Heap.get?_push_size _ rfl,rfl,_,rfl⟩⟩
theorem acT (h:PA X es t):PE X (.List es pos) (akY t):=by
 intro pins s σ H Q I hq
 refine wpAny_List_spliced (thn (h pos pins s σ H _ I hq) fun us s1 ⟨xs,H1,I1,r,z,q⟩=>⟨by rw [←r.length]; exact z,?_⟩)
 have hf:H1 s1.heap.objs.size=none:=I1.hok.fresh (Nat.le_refl _)
 refine ⟨.ref s1.heap.objs.size,upd H1 s1.heap.objs.size (.lst xs),I1.laid (t':=s1.toks) (fun b u e=>Heap.get?_push_of_some _ e) (Nat.le_refl _) ?_,rfl,q _ hf⟩
 exact ⟨z,us,0,r,Heap.get?_push_size _ rfl⟩
end
noncomputable abbrev Sp:=List V->Hp->VK->XK->Prop
noncomputable abbrev CXT:=List Env->Hp->Shared->XK->Value->Shared->Prop
structure Env0 (P:Program) (w:World) (K:PySem.W.Frag) (mg:Str->Option Value) (base:Heap) (A:Around) (outer:List Env) (s:Shared) (H:Hp):Prop where
 frames:A.frames=some outer
 mod:Mod K mg base
 bs:∀ b o,base.get? b=some o->s.heap.get? b=some o/\H b=none
 bsz:base.objs.size<=s.heap.objs.size
 funs:s.heap.FunFrames base outer
 frf:∀ b ∈ frs outer,H b=none
 hok:HOk P w H s.heap
 bare:AllBare s.gens
noncomputable def CE (outer:List Env) (P:Program) (w:World) (H:Hp) (s:Shared) (Q:VK) (u:Value) (s':Shared):Prop:=
 ∃ v H',s'.os=s.os/\AllBare s'.gens/\Un (frs outer) [] H H' s.heap s'.heap/\HOk P w H' s'.heap/\jy v u/\Q v H'
noncomputable def CR (CX:CXT) (outer:List Env) (P:Program) (w:World) (H:Hp) (s:Shared) (Q:VK) (E:XK) (r:Result) (s':Shared):Prop:=
 match r with
 | .ok (.ret u)=>CE outer P w H s Q u s'
 | .ok _=>False
 | .error e=>CX outer H s E e s'
structure FnOk (P:Program) (w:World) (K:PySem.W.Frag) (mg:Str->Option Value) (base:Heap) (CX:CXT) (k:Nat) (f:Addr) (fd:FuncData) (ps:List Str) (sp:Sp):Prop where
 len:∀ vs H Q E,sp vs H Q E->vs.length=ps.length
 run:∀ (A:Around) (outer:List Env) (s:Shared) (H:Hp) (args:Args) (us:List Value) (vs:List V) (Q:VK) (E:XK),Room k A->Env0 P w K mg base A outer s H->BindsTo s fd args (ps.zip us)->jw vs us->sp vs H Q E->
  codeAny (model P w) A (.call (.ref f) args) (CR CX outer P w H s Q E) s
theorem FnOk.mono {P:Program}{w:World}{K:PySem.W.Frag}{mg:Str->Option Value}{base:Heap}{CX:CXT}{j k:Nat}{f:Addr}{fd:FuncData}{ps:List Str}{sp:Sp} (F:FnOk P w K mg base CX j f fd ps sp) (h:j<=k):
  FnOk P w K mg base CX k f fd ps sp:=⟨F.len,fun A outer s H args us vs Q E hr=>F.run A outer s H args us vs Q E (hr.mono h)⟩
theorem FnOk.imp {P:Program}{w:World}{K:PySem.W.Frag}{mg:Str->Option Value}{base:Heap}{CX:CXT}{k:Nat}{f:Addr}{fd:FuncData}{ps:List Str}{sp sp':Sp} (F:FnOk P w K mg base CX k f fd ps sp)
  (h:∀ vs H Q E,sp' vs H Q E->sp vs H Q E):FnOk P w K mg base CX k f fd ps sp':=
 ⟨fun vs H Q E q=>F.len vs H Q E (h _ _ _ _ q),fun A outer s H args us vs Q E hr he hb hv hs=>F.run A outer s H args us vs Q E hr he hb hv (h _ _ _ _ hs)⟩
theorem Env0.in1 {P:Program}{w:World}{K:PySem.W.Frag}{mg:Str->Option Value}{base:Heap}{A:Around}{outer:List Env}{s:Shared}{H:Hp} (e:Env0 P w K mg base A outer s H):
  Env0 P w K mg base A.in1 outer s H:=⟨e.frames,e.mod,e.bs,e.bsz,e.funs,e.frf,e.hok,e.bare⟩
section
variable {X:Cx}{pins:List (Addr × Obj)}{σ:St}{H:Hp}{s s':Shared}
theorem Inv.env0 (I:Inv X pins σ H s):Env0 X.prog X.w X.K X.mg X.base X.A X.stack s H:=
 ⟨I.ok.frames,I.ok.mod,I.bs,Nat.le_trans I.ok.bsz I.sz,I.stack,I.stkFree,I.hok,I.bare⟩
theorem Inv.after {Q:VK}{u:Value} (I:Inv X pins σ H s) (h:CE X.stack X.prog X.w H s Q u s'):EP X pins σ Q u s':=by
 obtain ⟨v,H',os,bare,un,hok,r,q⟩:=h
 obtain ⟨hh,g,d,t,os'⟩:=s'
 obtain rfl:os'=s.os:=os
 exact ⟨v,H',I.call (h':=hh) (g':=g) (d':=d) (t':=t) (ch:=[]) un hok bare (fun b z=>absurd z (by simp)),r,q⟩
end
noncomputable def aio (sp:Sp) (dvs:List V) (E:XK) (t:TA):TE:=fun σ H Q=>t σ H fun vs H1=>sp (vs++dvs) H1 Q E
noncomputable def Jg (K:PySem.W.Frag) (fd:FuncData) (ps:List Str) (ds:List Value):Prop:=
 ∀ (s:Shared) (us:List Value),K.In s.heap->(us++ds).length=ps.length->BindsTo s fd ⟨us,[]⟩ (ps.zip (us++ds))
theorem Jg.all {K:PySem.W.Frag}{fd:FuncData}{ps:List Str} (h:∀ us:List Value,us.length=ps.length->bindArgs fd ⟨us,[]⟩=pure (ps.zip us)):Jg K fd ps []:=fun s us _ hl=>by
 rw [List.append_nil] at hl ⊢
 exact .of_eq (h us hl)
noncomputable def acU (CX:CXT) (X:Cx) (E:XK):Prop:=∀ (pins:List (Addr × Obj)) (σ:St) (H:Hp) (s:Shared) (e:Value) (s':Shared),Inv X pins σ H s->CX X.stack H s E e s'->X.xe e s'
section
variable {X:Cx}{CX:CXT}{k:Nat}{f C:Addr}{fd:FuncData}{ps:List Str}{sp:Sp}{dvs:List V}{ds:List Value}{E:XK}{x m:Str}{p pos apos:Pos}{e o:Expr}{es:List Expr}{ta:TE}{t:TA}
theorem afa {pins:List (Addr × Obj)}{σ:St}{H:Hp}{s:Shared}{Q:VK}{us:List Value}{vs:List V} (F:FnOk X.prog X.w X.K X.mg X.base CX k f fd ps sp) (hr:Room k X.A) (hb:Jg X.K fd ps ds) (hd:jw dvs ds) (hx:acU CX X E)
  (I:Inv X pins σ H s) (r:jw vs us) (h:sp (vs++dvs) H Q E):wpAny (model X.prog X.w) X.A (call (.ref f) us) (EP X pins σ Q) X.xe s:=by
 have r2:jw (vs++dvs) (us++ds):=r.append hd
 have hl:(us++ds).length=ps.length:=by rw [←r2.length]; exact F.len _ _ _ _ h
 refine wpAny_call (codeAny_mono (F.run X.A X.stack s H ⟨us,[]⟩ (us++ds) (vs++dvs) Q E hr I.env0 (hb s us I.kIn hl) r2 h) fun r s' hq=>?_)
 cases r with
 | error e=>exact hx pins σ H s e s' I hq
 | ok fl=>
  cases fl with
  | ret u=>exact I.after hq
  | next=>exact False.elim hq
  | brk=>exact False.elim hq
  | cont=>exact False.elim hq
theorem agZ (F:FnOk X.prog X.w X.K X.mg X.base CX k f fd ps sp) (hr:Room k X.A) (hg:Gl X x) (hm:X.mg x=some (.ref f)) (hk:PySem.W.keepIn X.K (.ref f)=true) (hb:Jg X.K fd ps ds) (hd:jw dvs ds) (hx:acU CX X E)
  (ha:PA X (e::es) t) (hdb:(x == ("__debug__":Str))=false:=by decide) (he:starEach (e::es) X.env=(false,eval e X.env)::starEach es X.env:=by rfl) (hpl:(backTo pos (starEach es X.env)).any (·.1)=false:=by rfl):
  PE X (.Call (.Name x p) (e::es) [] pos) (aio sp dvs E t):=by
 intro pins s σ H Q I h
 refine wpAny_Call_Name_kw (Qd I hg hm ?_ hdb)
 refine PySem.W.callWith_K (h₀:=X.base) I.ok.mod.kin hk (thn (ha pos pins s σ H _ I h) fun us s1 ⟨vs,H1,I1,r,q⟩=>⟨I1.kIn,?_⟩) he hpl
 exact afa F hr hb hd hx I1 r q
structure Mk (K:PySem.W.Frag) (C f:Addr):Prop where
 makes:PySem.W.makesIn K C=true
 init:PySem.W.findIn K (.ref C) "__init__"=some (some (.ref f))
 fn:PySem.W.isFn K (.ref f)=true
 kp:PySem.W.keepIn K (.ref C)=true
end
noncomputable def PK (X:Cx) (kws:List Keyword) (t:TA):Prop:=
 ∀ (pos:Pos) (pins:List (Addr × Obj)) (s:Shared) (σ:St) (H:Hp) (Q:List V->Hp->Prop),Inv X pins σ H s->t σ H Q->wpAny (model X.prog X.w) X.A (evalAll ((backToKw pos (keywordEach kws X.env)).map (·.2))) (AP X pins σ Q) X.xe s
section
variable {X:Cx}{CX:CXT}{k:Nat}{f C:Addr}{fd:FuncData}{ps ks:List Str}{sp:Sp}{E:XK}{x m:Str}{p pos apos kpos:Pos}{e o:Expr}{es:List Expr}{kws:List Keyword}{te ta:TE}{t tk:TA}{nm:Option Str}
theorem afb:PK X [] ad6:=fun _ _ _ _ H Q I h=>wpAny_evalAll_nil ⟨[],H,I,.nil,h⟩
theorem aa3 (ha:PE X e te) (hr:PK X kws t):PK X (⟨nm,e,kpos⟩::kws) (ZU te t):=by
 intro pos pins s σ H Q I h
 show wpAny _ _ (evalAll ((do let v ←eval e X.env; standAt pos; pure v)::(backToKw pos (keywordEach kws X.env)).map (·.2))) _ _ s
 refine wpAny_evalAll_cons (wpAny_bind (thn (ha pins s σ H _ I h) fun u s1 ⟨x,H1,I1,r1,q1⟩=>wpAny_bind (wpAny_standAt (wpAny_pure ?_))))
 exact thn (hr pos pins s1 σ H1 _ I1 q1) fun us s2 ⟨xs,H2,I2,r2,q2⟩=>⟨x::xs,H2,I2,.cons r1 r2,q2⟩
structure KBinds (K:PySem.W.Frag) (fd:FuncData) (ps ks:List Str) (g:List Value->List Value->List Value) (gV:List V->List V->List V):Prop where
 to:∀ (s:Shared) (us ws:List Value),K.In s.heap->(g us ws).length=ps.length->BindsTo s fd ⟨us,ks.zip ws⟩ (ps.zip (g us ws))
 rel:∀ {vs:List V} {us:List Value} {zs:List V} {ws:List Value},jw vs us->jw zs ws->jw (gV vs zs) (g us ws)
variable {g:List Value->List Value->List Value}{gV:List V->List V->List V}
end
structure FnScope (N P:List Str) (sc:Scope):Prop where
 kind:sc.kind= .function
 co:sc.isCoroutine=false
 gen:sc.isGenerator=false
 nd:N.Nodup
 pre:N.take P.length=P
 par:∀ x ∈ P,sc.names.lookup x=some .local ∨ sc.names.lookup x=some .cell
 nofree:∀ y ∈ sc.names,y.2 ≠ .free
theorem aaA {kindOf:Str->Option NameKind}{x:Str}:∀ {binds:List (Str × Value)}{m:Str->Option Value},(∀ v,(x,v) ∉ binds)->bindL kindOf binds m x=m x
 | [],_,_=>rfl
 | (n,v)::r,m,h=>by
  unfold bindL
  rw [aaA fun w hw=>h w (List.mem_cons_of_mem _ hw)]
  split
  ·have:x ≠ n:=by rintro rfl; exact h v List.mem_cons_self
   simp [this]
  ·rfl
theorem aaB {kindOf:Str->Option NameKind}{x:Str}:∀ {binds:List (Str × Value)}{m:Str->Option Value},(∀ v,(x,v) ∉ binds)->bindC kindOf binds m x=m x
 | [],_,_=>rfl
 | (n,v)::r,m,h=>by
  unfold bindC
  rw [aaB fun w hw=>h w (List.mem_cons_of_mem _ hw)]
  split
  ·rfl
  ·have:x ≠ n:=by rintro rfl; exact h v List.mem_cons_self
   simp [this]
theorem aaC {kindOf:Str->Option NameKind}{x:Str}{v:Value}:∀ {P:List Str}{vs:List Value}{i:Nat}{m:Str->Option Value},P.Nodup->P[i]?=some x->vs[i]?=some v->kindOf x=some .local->
  bindL kindOf (P.zip vs) m x=some v
 | [],_,_,_,_,h,_,_=>by simp at h
 | _::_,[],_,_,_,_,h,_=>by simp at h
 | p::P,w::vs,0,m,nd,h1,h2,hk=>by
  simp at h1 h2; subst h1; subst h2
  show bindL kindOf ((p,w)::P.zip vs) m p=_
  unfold bindL
  rw [aaA fun v hv=>(List.nodup_cons.mp nd).1 (List.of_mem_zip hv).1,if_pos hk]
  simp
 | p::P,w::vs,i+1,m,nd,h1,h2,hk=>by
  show bindL kindOf ((p,w)::P.zip vs) m x=_
  unfold bindL
  exact aaC (i:=i) (List.nodup_cons.mp nd).2 (by simpa using h1) (by simpa using h2) hk
theorem aaD {kindOf:Str->Option NameKind}{x:Str}{v:Value}:∀ {P:List Str}{vs:List Value}{i:Nat}{m:Str->Option Value},P.Nodup->P[i]?=some x->vs[i]?=some v->kindOf x ≠ some .local->
  bindC kindOf (P.zip vs) m x=some v
 | [],_,_,_,_,h,_,_=>by simp at h
 | _::_,[],_,_,_,_,h,_=>by simp at h
 | p::P,w::vs,0,m,nd,h1,h2,hk=>by
  simp at h1 h2; subst h1; subst h2
  show bindC kindOf ((p,w)::P.zip vs) m p=_
  unfold bindC
  rw [aaB fun v hv=>(List.nodup_cons.mp nd).1 (List.of_mem_zip hv).1,if_neg hk]
  simp
 | p::P,w::vs,i+1,m,nd,h1,h2,hk=>by
  show bindC kindOf ((p,w)::P.zip vs) m x=_
  unfold bindC
  exact aaD (i:=i) (List.nodup_cons.mp nd).2 (by simpa using h1) (by simpa using h2) hk
noncomputable def qN (N:List Str) (vs:List V):St:=vs.map some++List.replicate (N.length - vs.length) none
noncomputable def zp (CX:CXT) (P:Program) (w:World) (K:PySem.W.Frag) (mg:Str->Option Value) (base:Heap) (N:List Str) (qual:Str) (scope:Scope) (f:Addr) (cd:Value) (A:Around) (outer:List Env) (s:Shared) (H:Hp) (E:XK):Cx where
 prog:=P
 w:=w
 K:=K
 mg:=mg
 base:=base
 A:=A.deeper (envOfC qual scope s.heap.objs.size f cd)
 N:=N
 s₀:=s
 H₀:=H
 env:=envOfC qual scope s.heap.objs.size f cd
 outer:=outer
 stack:=envOfC qual scope s.heap.objs.size f cd::outer
 ex:=[]
 calm:=true
 fn:=fun _=>true
 pn:=[]
 xe:=fun e s'=>wpAny (model P w) (A.deeper (envOfC qual scope s.heap.objs.size f cd)) (leaving (envOfC qual scope s.heap.objs.size f cd) e) (fun _ s''=>CX outer H s E e s'') (fun e' s''=>CX outer H s E e' s'') s'
theorem abT {sc:Scope}{n:Nat}{x:Str} (h:sc.names.lookup x=some .cell):∃ c,(cellsFrom n sc.names []).lookup x=some c:=by
 have q:=PySem.W.cellsFrom_some sc.names n [] (.inl h)
 exact Option.isSome_iff_exists.mp q
theorem QT {CX:CXT}{P:Program}{w:World}{K:PySem.W.Frag}{mg:Str->Option Value}{base:Heap}{N ps:List Str}{qual:Str}{scope:Scope}{f:Addr}{cd:Value}{A:Around}{outer:List Env}{s s1:Shared}{H:Hp}{E:XK}{us:List Value}{vs:List V}
  (S:FnScope N ps scope) (hd:A.handled=none) (e0:Env0 P w K mg base A outer s H) (hl:vs.length=ps.length) (r:jw vs us)
  (x:InCallC s s.heap.objs.size (bindL (envOfC qual scope s.heap.objs.size f cd).kindOf (ps.zip us) fun _=>none) (cellsFrom (s.heap.objs.size+1) scope.names []) (bindC (envOfC qual scope s.heap.objs.size f cd).kindOf (ps.zip us) fun _=>none) s1):
  Inv (zp CX P w K mg base N qual scope f cd A outer s H E) [] (qN N vs) H s1:=by
 have hpl:ps.length<=N.length:=by have:=congrArg List.length S.pre; rw [List.length_take] at this; omega
 obtain ⟨h1,tk,rfl,hk⟩:=x.done
 have noA:∀ b:Addr,b ∉ (zp CX P w K mg base N qual scope f cd A outer s H E).ex:=fun b z=>absurd (show b ∈ ([]:List Addr) from z) (by simp)
 refine ⟨⟨e0.mod,S.kind,rfl,rfl,Nat.le_refl _,fun y z c h1 h2=>?_,fun y hy=>?_,fun y c _ h=>?_,fun _=>hd,Around.frames_deeper e0.frames,.inr ⟨rfl,rfl⟩,fun b z=>absurd z (noA b),e0.bs,e0.bsz,fun b _ _=>noA b,fun b z=>absurd z (noA b),e0.funs,e0.frf⟩,
  rfl,e0.bare,Un.kept hk,⟨_,x.toInCall.ns,fun i y v h1 h2 h3=>?_⟩,fun y c h=>⟨_,x.cell y c h⟩,e0.hok.fresh (Nat.le_refl _),fun y c h=>?_,fun p hp=>absurd (show p ∈ ([]:List (Addr × Obj)) from hp) (by simp),e0.hok.kept hk,?_⟩
 ·exact name_of_addr x.apart (PySem.mem_of_lookup h1) (PySem.mem_of_lookup h2)
 ·have hy:scope.names.lookup y=some .cell ∨ scope.names.lookup y=some .free:=hy
  rcases hy with hy | hy
  ·exact abT hy
  ·exact absurd rfl (S.nofree _ (PySem.mem_of_lookup hy))
 ·exact Nat.le_of_lt (x.above y c (PySem.mem_of_lookup h))
 ·have hi:i < vs.length:=by
   unfold qN at h2
   by_cases hi:i < vs.length
   ·exact hi
   ·rw [List.getElem?_append_right (by simpa using hi)] at h2
    rw [List.getElem?_replicate] at h2
    split at h2 <;> cases h2
  have ha:vs[i]?=some v:=by
   unfold qN at h2
   rw [List.getElem?_append_left (by simpa using hi),List.getElem?_map] at h2
   cases e:vs[i]? with
   | none=>rw [e] at h2; cases h2
   | some a=>rw [e] at h2; cases h2; rfl
  obtain ⟨u,hu,rv⟩:=r.get ha
  have hp:ps[i]?=some y:=by
   rw [←S.pre,List.getElem?_take_of_lt (by omega)]; exact h1
  have ndP:ps.Nodup:=by rw [←S.pre]; exact S.nd.sublist (List.take_sublist _ _)
  refine ⟨u,rv,?_⟩
  rcases S.par y (List.mem_of_getElem? hp) with k | k
  ·exact .inl ⟨k,aaC ndP hp hu k⟩
  ·obtain ⟨c,e⟩:=abT (n:=s.heap.objs.size+1) k
   refine .inr ⟨.inl k,c,e,?_⟩
   have q:=x.cell y c e
   rw [aaD ndP hp hu (by show scope.names.lookup y ≠ _; rw [k]; decide)] at q
   exact q
 ·exact e0.hok.fresh (Nat.le_of_lt (x.above y c (PySem.mem_of_lookup h)))
 ·unfold qN
  show _=N.length
  rw [List.length_append,List.length_map,List.length_replicate]
  omega
theorem aj4 {CX:CXT}{P:Program}{w:World}{K:PySem.W.Frag}{mg:Str->Option Value}{base:Heap}{k:Nat}{f:Addr}{name qual:Str}{params:Arguments}{body:List Stmt}{scope:Scope}{dV kV doc pm cdv ct oc:Value}{an od:Option Addr}
  {osl:Array (Option Value)} {N ps:List Str} {sp:Sp} (lk:K.lookup f=some ⟨oc,od,.func (PySem.W.fnOf name qual params body scope dV kV doc pm an cdv ct),osl⟩) (hcd:PySem.W.codeIn K cdv qual=true) (S:FnScope N ps scope)
  (len:∀ vs H Q E,sp vs H Q E->vs.length=ps.length)
  (hbody:∀ (A:Around) (outer:List Env) (s:Shared) (H:Hp) (vs:List V) (Q:VK) (E:XK),Room k (A.deeper (envOfC qual scope s.heap.objs.size f cdv))->sp vs H Q E->
   ∃ t,PSs (zp CX P w K mg base N qual scope f cdv A outer s H E) body t/\t { nx:=fun _ H'=>Q .non H',rt:=Q } (qN N vs) H):
  FnOk P w K mg base CX (k+1) f (PySem.W.fnOf name qual params body scope dV kV doc pm an cdv ct) ps sp:=by
 refine ⟨len,fun A outer s H args us vs Q E hr e0 hb r hsp=>?_⟩
 have hl:=len _ _ _ _ hsp
 have KX:K.In s.heap:=e0.mod.kin.keeps fun b o e=>(e0.bs b o e).1
 have lim:s.heap.NoLimit:=e0.mod.nolimit.keeps fun b o e=>(e0.bs b o e).1
 have hkind:∀ y ∈ ps.zip us,scope.names.lookup y.1=some .local ∨ (scope.names.lookup y.1=some .cell/\((cellsFrom (s.heap.objs.size+1) scope.names []).lookup y.1).isSome=true):=fun ⟨n,v⟩ hy=>by
  rcases S.par n (List.of_mem_zip hy).1 with q | q
  ·exact .inl q
  ·exact .inr ⟨q,PySem.W.cellsFrom_some _ _ _ (.inl q)⟩
 refine codeAny_call_function hr.depth (KX _ _ lk) rfl S.co S.gen rfl (PySem.W.codeRec_of KX hcd) (hb _ _ _ _ ?_)
 refine wpAny_newFunctionEnv_cells S.kind hkind fun env he s1 x=>?_
 subst he
 refine ⟨lim.keeps x.toInCall.keep,codeAny_func ?_⟩
 obtain ⟨t,ht,hq⟩:=hbody A outer s H vs Q E (hr.deeper _) hsp
 have I:Inv (zp CX P w K mg base N qual scope f cdv A outer s H E) [] (qN N vs) H s1:=QT S hr.hd e0 hl r x
 refine wpAny_mono (ht [] s1 (qN N vs) H _ I hq) (fun fl s' hs=>?_) fun e s' hs=>hs
 have fin:∀ {σ':St} {H':Hp} {v:V} {u:Value},Inv (zp CX P w K mg base N qual scope f cdv A outer s H E) [] σ' H' s'->jy v u->Q v H'->CE outer P w H s Q u s':=
  fun {σ' H' v u} J rv q=>⟨v,H',J.os,J.bare,J.base,J.hok,rv,q⟩
 cases fl with
 | ret u=>
  obtain ⟨v,σ',H',J,rv,q⟩:=hs
  exact fin J rv q
 | next=>
  obtain ⟨σ',H',J,q⟩:=hs
  exact fin (v:=V.non) (u:=Value.none) J rfl q
 | brk=>
  obtain ⟨_,_,_,q⟩:=hs
  exact False.elim q
 | cont=>
  obtain ⟨_,_,_,q⟩:=hs
  exact False.elim q
end L2
namespace L2
open PySem PySem.Spec PyProof.Rows
section
variable {X:Cx}{x:Str}{p pos:Pos}{e:Expr}{es:List Expr}{t:TA}{id T:String}{r:List V->Hp->VK->Prop}
noncomputable def tCB (r:List V->Hp->VK->Prop) (t:TA):TE:=fun σ H Q=>t σ H fun vs H1=>r vs H1 Q
theorem Qh (hc:za X (.builtin id) r) (hg:Gl X x) (hm:X.mg x=none) (hv:bootBuiltins x=some (.builtin id)) (ha:PA X (e::es) t) (hn:x ≠ "__name__":=by decide) (hdb:(x == ("__debug__":Str))=false:=by decide)
  (he:starEach (e::es) X.env=(false,eval e X.env)::starEach es X.env:=by rfl) (hpl:(backTo pos (starEach es X.env)).any (·.1)=false:=by rfl):PE X (.Call (.Name x p) (e::es) [] pos) (tCB r t):=by
 intro pins s σ H Q I h
 refine wpAny_Call_Name_kw (JU I hg hm hv ?_ hn hdb)
 exact PyProof.Rows.callWith_builtin1 (thn (ha pos pins s σ H _ I h) fun us s1 ⟨vs,H1,I1,r1,q1⟩=>hc pins s1 σ H1 vs us Q I1 r1 q1) he hpl
theorem ad7 (hc:za X (.type T) r) (hg:Gl X x) (hm:X.mg x=none) (hv:bootBuiltins x=some (.type T)) (ha:PA X (e::es) t) (hn:x ≠ "__name__":=by decide) (hdb:(x == ("__debug__":Str))=false:=by decide)
  (he:starEach (e::es) X.env=(false,eval e X.env)::starEach es X.env:=by rfl) (hpl:(backTo pos (starEach es X.env)).any (·.1)=false:=by rfl):PE X (.Call (.Name x p) (e::es) [] pos) (tCB r t):=by
 intro pins s σ H Q I h
 refine wpAny_Call_Name_kw (JU I hg hm hv ?_ hn hdb)
 exact PyProof.Rows.callWith_type1 (thn (ha pos pins s σ H _ I h) fun us s1 ⟨vs,H1,I1,r1,q1⟩=>hc pins s1 σ H1 vs us Q I1 r1 q1) he hpl
end
end L2
namespace HT
open PySem PyProof.Rows
section
open PySem.SeqAt
open PySem.AutoSeq1 (wpAny_loadPart')
open PySem.MeetsSeq PySem.MeetsSeq2 PySem.MeetsSeq3
end
section
variable {prog:Program}{w:World}{A:Around}{E:Value->Shared->Prop}{s:Shared}
theorem cat_tup {t b:Addr}{vs ws:List Value}{Q:Value->Shared->Prop} (ht:IsTup s.heap t vs.toArray) (hb:IsTup s.heap b ws.toArray) (hv:vs ≠ [])
  (h1:ws=[]->Q (.ref t) s) (h2:ws ≠ []->Q (.ref s.heap.objs.size) { s with heap:=s.heap.push { cls:= .type "tuple",data:= .seq (vs++ws).toArray } })
  (hsz:vs.length+ws.length<=sizeLine):wpAny (model prog w) A (binaryOp .Add (.ref t) (.ref b)) Q E s:=by
 obtain ⟨⟨cls,dd,data,sl⟩,ho,hc,n,hd⟩:=id ht
 obtain ⟨⟨cls2,dd2,data2,sl2⟩,ho2,hc2,n2,hd2⟩:=id hb
 simp only at hc hd hc2 hd2
 subst hc hd hc2 hd2
 have e:vs.toArray++ws.toArray=(vs++ws).toArray:=by simp
 by_cases hw:ws=[]
 ·exact concat_meets ⟨_,ho,rfl⟩ ⟨_,ho2,rfl⟩ noFill_tuple_add seq_tuple_add PySem.F.slot_tuple_add PySem.F.entry_tuple_add (PySem.F.args_tuple_add_2 _ _)
   (tuple_addW1 t b vs.toArray ws.toArray n n2 dd dd2 sl sl2 (by simpa using hv) (by simp [hw])) ⟨ho,ho2,h1 hw⟩
 ·refine concat_meets ⟨_,ho,rfl⟩ ⟨_,ho2,rfl⟩ noFill_tuple_add seq_tuple_add PySem.F.slot_tuple_add PySem.F.entry_tuple_add (PySem.F.args_tuple_add_2 _ _)
   (tuple_addW2 t b vs.toArray ws.toArray n n2 dd dd2 sl sl2 (by simpa using hv) (by simpa using hw) (by rw [List.size_toArray,List.size_toArray]; exact hsz)) ⟨ho,ho2,?_⟩
  rw [e]
  exact h2 hw
noncomputable def sIx (n d:Nat):Option Int->Nat
 | none=>d
 | some v=>if v < 0 then (v+(n:Int)).toNat else min v.toNat n
theorem aiR (n d:Nat) (hd:d<=n) (o:Option Int):sIx n d o<=n:=by
 cases o with
 | none=>exact hd
 | some v=>
  show (if v < 0 then (v+(n:Int)).toNat else min v.toNat n)<=n
  by_cases hv:v < 0
  ·rw [if_pos hv]; omega
  ·rw [if_neg hv]; exact Nat.min_le_right _ _
theorem adw (v:Int) (n d:Nat):(if v < 0 then max (v+(n:Int)) 0 else min v (n:Int))=((sIx n d (some v):Nat):Int):=by
 show (if v < 0 then max (v+(n:Int)) 0 else min v (n:Int))=(((if v < 0 then (v+(n:Int)).toNat else min v.toNat n):Nat):Int)
 by_cases hv:v < 0
 ·simp only [if_pos hv]; omega
 ·simp only [if_neg hv]; omega
theorem acV (lo hi:Option Int) (n:Nat):Builtin.Slice.sliceAdjust lo hi 1 (n:Int)=(((sIx n 0 lo:Nat):Int),((sIx n n hi:Nat):Int)):=by
 have h1:¬ ((1:Int) < 0):=by omega
 unfold Builtin.Slice.sliceAdjust
 simp only [h1,zzN]
 refine Prod.ext ?_ ?_
 ·cases lo with
  | none=>rfl
  | some v=>exact adw v n 0
 ·cases hi with
  | none=>rfl
  | some v=>exact adw v n n
theorem acW (i j:Nat):Builtin.Slice.slicePlaces (i:Int) (j:Int) 1=j - i:=by
 unfold Builtin.Slice.slicePlaces
 have h1:(1:Int) > 0:=by omega
 simp only [h1,zzM,Int.ediv_one]
 split <;> omega
theorem slicePart_ {v:Value}{o:Option Int}{Q:Option Int->Shared->Prop} (p:IsPart v o) (h:Q o s):wpAny (model prog w) A (Builtin.Slice.slicePartIndex v) Q E s:=by
 cases p with
 | none=>exact slicePart_none h
 | int i t=>exact slicePart_int h
theorem sliceApplied_gen {sl:Addr}{vl vu:Value}{lo hi:Option Int}{n:Nat}{Q:Int × Int × Nat->Shared->Prop} (hs:s.heap.IsSliceOf sl vl vu .none) (pl:IsPart vl lo) (pu:IsPart vu hi)
  (h:Q (((sIx n 0 lo:Nat):Int),1,sIx n n hi - sIx n 0 lo) s):wpAny (model prog w) A (Builtin.Slice.sliceApplied (.ref sl) (pure (n:Int))) Q E s:=by
 obtain ⟨os,hos,hcs,hds⟩:=id hs
 unfold Builtin.Slice.sliceApplied Builtin.Slice.sliceFields
 refine wpAny_bind (wpAny_bind (wpAny_field hos hds (x:=vl) rfl (wpAny_bind (wpAny_field hos hds (x:=vu) rfl (wpAny_bind (wpAny_field hos hds (x:= .none) rfl (wpAny_pure ?_)))))))
 refine wpAny_bind (slicePart_none ?_)
 show wpAny _ _ (if ((1:Int) == 0)=true then _ else _) _ _ s
 rw [if_neg (by decide)]
 refine wpAny_bind (slicePart_ pl (wpAny_bind (slicePart_ pu (wpAny_bind (wpAny_pure ?_)))))
 show wpAny _ _ (match Builtin.Slice.sliceAdjust lo hi 1 (n:Int) with | (lo,hi)=>pure (lo,(1:Int),Builtin.Slice.slicePlaces lo hi 1)) _ _ s
 rw [acV lo hi n]
 show wpAny _ _ (pure (((sIx n 0 lo:Nat):Int),(1:Int),Builtin.Slice.slicePlaces ((sIx n 0 lo:Nat):Int) ((sIx n n hi:Nat):Int) 1)) _ _ s
 rw [acW]
 exact wpAny_pure h
theorem afc (xs:Array Value) (i k:Nat):((List.range k).filterMap fun (m:Nat)=>xs[((i:Int)+(m:Int)*1).toNat]?).toArray=((xs.toList.drop i).take k).toArray:=by
 have e:(fun (m:Nat)=>xs[((i:Int)+(m:Int)*1).toNat]?)=fun m=>xs[i+m]?:=by
  funext m
  have:((i:Int)+(m:Int)*1).toNat=i+m:=by omega
  rw [this]
 rw [e]
 have:=pick_run xs i k
 rw [List.filterMap_map] at this
 have e2:((fun x=>xs[x]?) ∘ fun x=>i+x)=fun m=>xs[i+m]?:=rfl
 rw [e2] at this
 rw [this]
theorem getItem_tuple_cut {t sl:Addr}{items:Array Value}{vl vu:Value}{lo hi:Option Int}{Q:Value->Shared->Prop} (ht:IsTup s.heap t items) (hs:s.heap.IsSliceOf sl vl vu .none) (pl:IsPart vl lo) (pu:IsPart vu hi)
  (hw:¬ (sIx items.size 0 lo=0/\sIx items.size items.size hi=items.size))
  (h:Q (.ref s.heap.objs.size) { s with heap:=s.heap.push { cls:= .type "tuple",data:= .seq ((items.toList.drop (sIx items.size 0 lo)).take (sIx items.size items.size hi - sIx items.size 0 lo)).toArray } })
  (hsz:items.size<=sizeLine):wpAny (model prog w) A (getItem (.ref t) (.ref sl)) Q E s:=by
 have htake:sizeOk (.seq ((items.toList.drop (sIx items.size 0 lo)).take (sIx items.size items.size hi - sIx items.size 0 lo)).toArray):=by
  show ((items.toList.drop (sIx items.size 0 lo)).take (sIx items.size items.size hi - sIx items.size 0 lo)).toArray.size<=sizeLine
  rw [List.size_toArray,List.length_take,List.length_drop,Array.length_toList]
  omega
 have hj:sIx items.size items.size hi<=items.size:=aiR _ _ (Nat.le_refl _) hi
 obtain ⟨os,hos,hcs,hds⟩:=id hs
 have hTs:s.TypeIs (.ref sl) "slice":=⟨os,hos,hcs⟩
 unfold getItem
 try with_reducible refine wpAny_holding ?_
 first | refine wpAny_bind (wpAny_pure ?_) | skip
 refine wpAny_bind (wpAny_sequenceKey ht.typeIs (by decide) ?_)
 refine wpAny_bind (wpAny_callSpecial?_slot (name:=Str.ofString "__getitem__") ht.typeIs PyProof.Rows.slot_tuple_getitem
  (wpAny_call_entry PyProof.Rows.slot_tuple_getitem ht.typeIs entry_tuple_getitem ?_ (args_tuple_getitem _ _)))
 show wpAny _ _ (Builtin.Tuple.tupleItemsOf (.ref t) >>= _) _ _ s
 refine wpAny_bind (tupleItemsOf_ ht ?_)
 refine wpAny_bind (wpAny_typeOf hTs ?_)
 rw [if_pos (by decide)]
 refine wpAny_bind (sliceApplied_gen hs pl pu ?_)
 have hno:¬ ((((sIx items.size 0 lo:Nat):Int) == 0 && (1:Int) == 1 && (sIx items.size items.size hi - sIx items.size 0 lo) == items.size)=true):=by
  intro q
  rw [Bool.and_eq_true,Bool.and_eq_true] at q
  have q1:((sIx items.size 0 lo:Nat):Int)=0:=eq_of_beq q.1.1
  have q2:sIx items.size items.size hi - sIx items.size 0 lo=items.size:=eq_of_beq q.2
  exact hw ⟨by omega,by omega⟩
 show wpAny _ _ (if (((sIx items.size 0 lo:Nat):Int) == 0 && (1:Int) == 1 && (sIx items.size items.size hi - sIx items.size 0 lo) == items.size)=true then _ else _) _ _ s
 rw [if_neg hno,afc]
 first
  | exact wpAny_bind (m:=Builtin.Tuple.tupleExact _) (wpAny_newObj_type (wpAny_pure ⟨_,rfl,wpAny_pure h⟩) htake)
  | exact wpAny_bind (m:=Builtin.Tuple.tupleExact _) (wpAny_newObj_type (wpAny_bind (wpAny_pure (wpAny_pure ⟨_,rfl,wpAny_pure h⟩))) htake)
  | exact wpAny_bind (wpAny_bind (m:=Builtin.Tuple.tupleExact _) (wpAny_newObj_type (wpAny_pure (wpAny_pure ⟨_,rfl,wpAny_pure h⟩)) htake))
  | exact wpAny_bind (wpAny_bind (m:=Builtin.Tuple.tupleExact _) (wpAny_newObj_type (wpAny_pure ⟨_,rfl,wpAny_pure h⟩) htake))
end
end HT
namespace L2
open PySem PySem.Spec PyProof.Rows
noncomputable abbrev TO:=St->Hp->(Option Int->Hp->Prop)->Prop
noncomputable def PO (X:Cx) (e:Option Expr) (t:TO):Prop:=
 ∀ (pins:List (Addr × Obj)) (s:Shared) (σ:St) (H:Hp) (Q:Option Int->Hp->Prop),Inv X pins σ H s->t σ H Q->
  wpAny (model X.prog X.w) X.A (evalPart e X.env) (fun u s'=>∃ o H',Inv X pins σ H' s'/\IsPart u o/\Q o H') X.xe s
noncomputable def ag0:TO:=fun _ H Q=>Q none H
noncomputable def aj5 (t:TE):TO:=fun σ H Q=>t σ H fun x H1=>∃ i,x= .int i/\Q (some i) H1
section
variable {X:Cx}{e:Expr}{te:TE}{lo hi:Option Expr}{tl th:TO}{pos p2:Pos}
theorem adx:PO X none ag0:=by
 intro pins s σ H Q I h
 rw [evalPart_none]
 exact wpAny_pure ⟨none,H,I,.none,h⟩
theorem aa4 (h:PE X e te):PO X (some e) (aj5 te):=by
 intro pins s σ H Q I hw
 rw [evalPart_some]
 refine thn (h pins s σ H _ I hw) fun u s1 ⟨x,H1,I1,r1,q1⟩=>?_
 obtain ⟨i,rfl,q⟩:=q1
 obtain ⟨t,rfl⟩:=r1
 exact ⟨some i,H1,I1,.int i t,q⟩
noncomputable def SlR (X:Cx) (r:V->Option Int->Option Int->Hp->VK->Prop):Prop:=
 ∀ (pins:List (Addr × Obj)) (s:Shared) (σ:St) (H:Hp) (x:V) (v vl vu:Value) (lo hi:Option Int) (sl:Addr) (Q:VK),Inv X pins σ H s->jy x v->s.heap.IsSliceOf sl vl vu .none->IsPart vl lo->IsPart vu hi->r x lo hi H Q->
  ∃ T id,typeLookup (.type T) "__getitem__"=pure (some (.builtin id))/\s.TypeIs v T/\wpAny (model X.prog X.w) X.A (getItem v (.ref sl)) (EP X pins σ Q) X.xe s
theorem SlR.or {r r':V->Option Int->Option Int->Hp->VK->Prop} (h:SlR X r) (h':SlR X r'):SlR X (fun x lo hi H Q=>r x lo hi H Q ∨ r' x lo hi H Q):=by
 intro pins s σ H x v vl vu lo hi sl Q I rx hs pl pu q
 rcases q with q | q
 ·exact h pins s σ H x v vl vu lo hi sl Q I rx hs pl pu q
 ·exact h' pins s σ H x v vl vu lo hi sl Q I rx hs pl pu q
noncomputable def tSl (r:V->Option Int->Option Int->Hp->VK->Prop) (te:TE) (tl th:TO):TE:=fun σ H Q=>te σ H fun x H1=>tl σ H1 fun l H2=>th σ H2 fun u H3=>r x l u H3 Q
theorem abU {r:V->Option Int->Option Int->Hp->VK->Prop} (hr:SlR X r) (he:PE X e te) (hl:PO X lo tl) (hu:PO X hi th):PE X (.Subscript e (.Slice lo hi none p2) pos) (tSl r te tl th):=by
 intro pins s σ H Q I h
 refine Subscript_ (thn (he pins s σ H _ I h) fun v s1 ⟨x,H1,I1,r1,q1⟩=>?_)
 refine wpAny_Slice (thn (hl pins s1 σ H1 _ I1 q1) fun vl s2 ⟨l,H2,I2,pl,q2⟩=>thn (hu pins s2 σ H2 _ I2 q2) fun vu s3 ⟨u,H3,I3,pu,q3⟩=>?_)
 rw [evalPart_none]
 refine wpAny_pure ?_
 have I4:Inv X pins σ H3 { s3 with heap:=s3.heap.push { cls:= .type "slice",data:= .fields #[vl,vu,.none] } }:=I3.kept (t':=s3.toks) fun b ob q=>Heap.get?_push_of_some _ q
 obtain ⟨T,id,hT,ht,hg⟩:=hr pins { s3 with heap:=s3.heap.push { cls:= .type "slice",data:= .fields #[vl,vu,.none] } } σ H3 x v vl vu l u s3.heap.objs.size Q I4 r1 (Heap.IsSliceOf.new ..) pl pu q3
 show wpAny (model X.prog X.w) X.A (subscriptTail e (.Slice lo hi none p2) v (.ref s3.heap.objs.size)) (EP X pins σ Q) X.xe { s3 with heap:=s3.heap.push { cls:= .type "slice",data:= .fields #[vl,vu,.none] } }
 exact tail_any (ops:=[.ref s3.heap.objs.size,v]) ht hT hg (by with_unfolding_all rfl)
noncomputable def aa5 (xs:List V) (lo hi:Option Int):List V:=(xs.drop (HT.sIx xs.length 0 lo)).take (HT.sIx xs.length xs.length hi - HT.sIx xs.length 0 lo)
theorem abV (xs:List V) (lo hi:Option Int):(aa5 xs lo hi).length<=xs.length:=by
 unfold aa5
 rw [List.length_take,List.length_drop]
 omega
noncomputable def aj6 (K:PySem.W.Frag):V->Option Int->Option Int->Hp->VK->Prop:=fun x lo hi H Q=>∃ a xs,x= .ref a/\SqT K H a xs/\
 ¬ (HT.sIx xs.length 0 lo=0/\HT.sIx xs.length xs.length hi=xs.length)/\∀ p,H p=none->Q (.ref p) (upd H p (.tup (aa5 xs lo hi)))
theorem afd:SlR X (aj6 X.K):=by
 intro pins s σ H x v vl vu lo hi sl Q I rx hs pl pu h
 obtain ⟨a,xs,rfl,hx,hw,q⟩:=h
 cases rx
 obtain ⟨its,r,ht,hz⟩:=I.tuple hx
 have hlen:its.toArray.size=xs.length:=by rw [List.size_toArray]; exact r.length.symm
 refine ⟨"tuple",_,PyProof.Rows.slot_tuple_getitem.lookup,ht.typeIs,?_⟩
 refine HT.getItem_tuple_cut ht hs pl pu (by rw [hlen]; exact hw) ?_ (by rw [hlen]; exact hz)
 rw [hlen]
 refine ⟨.ref s.heap.objs.size,_,I.laid (t':=s.toks) (o:= .tup (aa5 xs lo hi)) (fun b ob q=>Heap.get?_push_of_some _ q) (Nat.le_refl _) ?_,rfl,q _ (I.hok.fresh (Nat.le_refl _))⟩
 exact ⟨Nat.le_trans (abV xs lo hi) hz,_,(r.drop (HT.sIx xs.length 0 lo)).take (HT.sIx xs.length xs.length hi - HT.sIx xs.length 0 lo),IsTup.new _ _⟩
noncomputable def aj7 (K:PySem.W.Frag):R2:=fun x y H Q=>∃ a b xs ys,x= .ref a/\y= .ref b/\SqT K H a xs/\SqT K H b ys/\xs ≠ []/\xs.length+ys.length<=sizeLine/\
 (ys=[]->Q (.ref a) H)/\(ys ≠ []->∀ p,H p=none->Q (.ref p) (upd H p (.tup (xs++ys))))
theorem jw.nil_iff {xs:List V}{us:List Value} (r:jw xs us):us=[] ↔ xs=[]:=by
 cases r with
 | nil=>simp
 | cons _ _=>simp
theorem ag1:OpR X (binaryOp .Add) (aj7 X.K):=by
 intro pins s σ H x y v u Q I rx ry h
 obtain ⟨a,b,xs,ys,rfl,rfl,ha,hb,hx,hz,q1,q2⟩:=h
 cases rx
 cases ry
 obtain ⟨its,r1,p1,_⟩:=I.tuple ha
 obtain ⟨its2,r2,p2,_⟩:=I.tuple hb
 refine HT.cat_tup p1 p2 (fun z=>hx (r1.nil_iff.mp z)) (fun z=>⟨.ref a,H,I,rfl,q1 (r2.nil_iff.mp z)⟩) (fun z=>?_) (by rw [←r1.length,←r2.length]; exact hz)
 refine ⟨.ref s.heap.objs.size,_,I.laid (t':=s.toks) (o:= .tup (xs++ys)) (fun b ob q=>Heap.get?_push_of_some _ q) (Nat.le_refl _) ?_,rfl,q2 (fun w=>z (r2.nil_iff.mpr w)) _ (I.hok.fresh (Nat.le_refl _))⟩
 exact ⟨by rw [List.length_append]; exact hz,_,r1.append r2,IsTup.new _ _⟩
end
end L2
namespace L2
open PySem PySem.Spec PyProof.Rows
noncomputable def ixN (n:Nat) (i:Int):Option Nat:=if 0<=i then (if i < n then some i.toNat else none) else if -(n:Int)<=i then some (i+n).toNat else none
noncomputable def atI {α:Type} (xs:List α) (i:Int):Option α:=(ixN xs.length i).bind fun j=>xs[j]?
theorem ady {n:Nat}{i:Int}{j:Nat} (h:ixN n i=some j):seqIndex? i n=some j/\j < n/\-(n:Int)<=i/\i < n:=by
 unfold ixN at h
 by_cases h0:0<=i
 ·rw [if_pos h0] at h
  by_cases h1:i < n
  ·rw [if_pos h1] at h
   have e:i.toNat=j:=Option.some.inj h
   exact ⟨by rw [seqIndex_of h0 h1,e],by omega,by omega,h1⟩
  ·rw [if_neg h1] at h; cases h
 ·rw [if_neg h0] at h
  by_cases h1:-(n:Int)<=i
  ·rw [if_pos h1] at h
   have e:(i+n).toNat=j:=Option.some.inj h
   exact ⟨by rw [seqIndex_neg (by omega) h1,e],by omega,h1,by omega⟩
  ·rw [if_neg h1] at h; cases h
theorem adz {α:Type}{xs:List α}{i:Int}{v:α} (h:atI xs i=some v):∃ j,seqIndex? i xs.length=some j/\xs[j]?=some v/\j < xs.length/\-(xs.length:Int)<=i/\i < xs.length:=by
 unfold atI at h
 cases e:ixN xs.length i with
 | none=>rw [e] at h; cases h
 | some j=>
  rw [e] at h
  obtain ⟨h1,h2,h3,h4⟩:=ady e
  exact ⟨j,h1,h,h2,h3,h4⟩
noncomputable def adA (b:Expr):Prop:=∀ o i,subscripted b false o i=operate [o,i] (getItem o i)
noncomputable def IxR (X:Cx) (r:R2):Prop:=
 ∀ (value slice:Expr) (pins:List (Addr × Obj)) (s:Shared) (σ:St) (H:Hp) (x y:V) (v u:Value) (Q:VK),Inv X pins σ H s->jy x v->jy y u->r x y H Q->
  subscripted slice false v u=operate [v,u] (getItem v u)->wpAny (model X.prog X.w) X.A (subscriptTail value slice v u) (EP X pins σ Q) X.xe s
noncomputable def MtR (X:Cx) (id:String) (r:V->List V->Hp->VK->Prop):Prop:=
 ∀ (pins:List (Addr × Obj)) (s:Shared) (σ:St) (H:Hp) (x:V) (xs:List V) (v:Value) (us:List Value) (Q:VK),Inv X pins σ H s->jy x v->jw xs us->r x xs H Q->
  wpAny (model X.prog X.w) X.A (call (.builtin id) (v::us)) (EP X pins σ Q) X.xe s
section
variable {X:Cx}{a b:Expr}{ta tb:TE}{pos:Pos}
theorem IxR.or {r r':R2} (h:IxR X r) (h':IxR X r'):IxR X (fun x y H Q=>r x y H Q ∨ r' x y H Q):=by
 intro value slice pins s σ H x y v u Q I rx ry q hs
 rcases q with q | q
 ·exact h value slice pins s σ H x y v u Q I rx ry q hs
 ·exact h' value slice pins s σ H x y v u Q I rx ry q hs
theorem MtR.or {id:String}{r r':V->List V->Hp->VK->Prop} (h:MtR X id r) (h':MtR X id r'):MtR X id (fun x xs H Q=>r x xs H Q ∨ r' x xs H Q):=by
 intro pins s σ H x xs v us Q I rx rs q
 rcases q with q | q
 ·exact h pins s σ H x xs v us Q I rx rs q
 ·exact h' pins s σ H x xs v us Q I rx rs q
theorem aj8 {r:R2} (hr:IxR X r) (ha:PE X a ta) (hb:PE X b tb) (hs:adA b):PE X (.Subscript a b pos) (tOp r ta tb):=by
 intro pins s σ H Q I h
 exact Subscript_ (aiK ha hb I h fun v u s2 x y H2 I2 rx ry q=>hr a b pins s2 σ H2 x y v u Q I2 rx ry q (hs _ _))
noncomputable def akZ (K:PySem.W.Frag):R2:=fun x y H Q=>∃ p xs i v,x= .ref p/\y= .int i/\SqL K H p xs/\atI xs i=some v/\Q v H
noncomputable def ak0 (K:PySem.W.Frag):R2:=fun x y H Q=>∃ p xs i v,x= .ref p/\y= .int i/\SqT K H p xs/\atI xs i=some v/\Q v H
theorem ag2:IxR X (akZ X.K):=by
 intro value slice pins s σ H x y v u Q I rx ry h hs
 obtain ⟨p,xs,i,z,rfl,rfl,hq,he,q⟩:=h
 cases rx
 obtain ⟨t,rfl⟩:=ry
 obtain ⟨its,r,pl,hz⟩:=I.list hq
 obtain ⟨j,h1,h2,h3,h4,h5⟩:=adz he
 obtain ⟨w,ew,rw'⟩:=r.get h2
 have hl:=r.length
 have hn:=QS
 have fin:EP X pins σ Q w s:=⟨z,H,I,rw',q⟩
 by_cases h0:0<=i
 ·have hj:i.toNat=j:=by
   rw [seqIndex_of h0 h5] at h1
   exact Option.some.inj h1
  exact item_listR pl.isList h0 (by omega) (by rw [hj]; simpa using ew) fin hs
 ·have hj:(i+(its.toArray.size:Int)).toNat=j:=by
   rw [seqIndex_neg (by omega) h4] at h1
   rw [List.size_toArray,←hl]
   exact Option.some.inj h1
  exact subscriptTail_builtinR (x:=w) pl.isList.typeIs slot_list_getitem.lookup
   (wpAny_getItem_list_neg (Q:=fun r s'=>r=w/\EP X pins σ Q r s') pl.isList (by omega) (by rw [List.size_toArray] <;> omega) (by omega) (by rw [hj]; simpa using ew) ⟨rfl,fin⟩) hs
theorem aiS:IxR X (ak0 X.K):=by
 intro value slice pins s σ H x y v u Q I rx ry h hs
 obtain ⟨p,xs,i,z,rfl,rfl,hq,he,q⟩:=h
 cases rx
 obtain ⟨t,rfl⟩:=ry
 obtain ⟨its,r,pl,hz⟩:=I.tuple hq
 obtain ⟨j,h1,h2,h3,h4,h5⟩:=adz he
 obtain ⟨w,ew,rw'⟩:=r.get h2
 have hl:=r.length
 have hn:=QS
 have fin:EP X pins σ Q w s:=⟨z,H,I,rw',q⟩
 exact subscriptTail_builtinR (x:=w) pl.typeIs slot_tuple_getitem.lookup
  (getItem_tuple (j:=j) (Q:=fun r s'=>r=w/\EP X pins σ Q r s') pl (by omega) (by omega) (by rw [List.size_toArray,←hl]; exact h1) (by simpa using ew) ⟨rfl,fin⟩) hs
theorem acX (its:List Value) (n j:Nat) (u:Value):Obj.mapSeq (·.setIfInBounds j u) { cls:= .type "list",data:= .seq its.toArray n }={ cls:= .type "list",data:= .seq (its.set j u).toArray n }:=by
 simp [Obj.mapSeq]
theorem Inv.lst {pins:List (Addr × Obj)}{σ:St}{H:Hp}{s:Shared}{p:Addr}{xs:List V} (I:Inv X pins σ H s) (h:H p=some (.lst xs)):
  ∃ (its:List Value) (n:Nat),jw xs its/\s.heap.get? p=some { cls:= .type "list",data:= .seq its.toArray n }/\xs.length<=sizeLine:=by
 obtain ⟨z,its,n,r,e⟩:=I.hok p _ h
 exact ⟨its,n,r,e,z⟩
theorem Inv.lstUpd {pins:List (Addr × Obj)}{σ:St}{H:Hp}{s:Shared}{p:Addr}{xs ys:List V}{its its':List Value}{n n':Nat}{f:Obj->Obj} (I:Inv X pins σ H s) (h:H p=some (.lst xs))
  (ho:s.heap.get? p=some { cls:= .type "list",data:= .seq its.toArray n }) (hf:f { cls:= .type "list",data:= .seq its.toArray n }={ cls:= .type "list",data:= .seq its'.toArray n' }) (r:jw ys its') (hz:ys.length<=sizeLine) (t:Nat):
  Inv X pins σ (upd H p (.lst ys)) { s with heap:=s.heap.update p f,toks:=t }:=by
 have e:(s.heap.update p f).get? p=some { cls:= .type "list",data:= .seq its'.toArray n' }:=by
  rw [Heap.get?_update_self f ho (by rw [hf] <;> rfl),hf]
 refine I.write (x:=p) (e:=p) (by rw [h]; trivial) (.inl rfl) (fun b u hb q=>(Heap.get?_update_other _ _ (Ne.symm hb)).trans q) ⟨_,e⟩ ?_
 exact ⟨hz,its',n',r,e⟩
noncomputable def aj9:V->V->V->Hp->(Hp->Prop)->Prop:=fun o i v H Q=>∃ p xs k j,o= .ref p/\i= .int k/\H p=some (.lst xs)/\ixN xs.length k=some j/\Q (upd H p (.lst (xs.set j v)))
theorem afe:agT X aj9:=by
 intro pins s σ H o i v ov iv u Q I ro ri rv h
 obtain ⟨p,xs,k,j,rfl,rfl,hp,hj,q⟩:=h
 cases ro
 obtain ⟨t,rfl⟩:=ri
 obtain ⟨its,n,r,ho,hz⟩:=I.lst hp
 obtain ⟨h1,h2,h3,h4⟩:=ady hj
 have hl:=r.length
 have hn:=QS
 have I':Inv X pins σ (upd H p (.lst (xs.set j v))) { s with heap:=s.heap.update p (Obj.mapSeq (·.setIfInBounds j u)) }:=
  I.lstUpd hp ho (acX its n j u) (r.set rv j) (by rw [List.length_set]; exact hz) s.toks
 by_cases h0:0<=k
 ·have hk:k.toNat=j:=by
   rw [seqIndex_of h0 h4] at h1
   exact Option.some.inj h1
  exact PySem.W.ki_setAt ho h0 (by omega) (by rw [List.size_toArray,←hl]; exact h4) (by rw [hk]; exact ⟨_,I',q⟩)
 ·have hk:(k+(its.toArray.size:Int)).toNat=j:=by
   rw [seqIndex_neg (by omega) h3] at h1
   rw [List.size_toArray,←hl]
   exact Option.some.inj h1
  exact PySem.W.ki_setBack ho (by omega) (by rw [List.size_toArray,←hl]; exact h3) (by omega) (by rw [hk]; exact ⟨_,I',q⟩)
theorem aa6:za X (.builtin "len") (fun xs H Q=>∃ p ys,xs=[.ref p]/\(SqL X.K H p ys ∨ SqT X.K H p ys)/\Q (.int ys.length) H):=by
 intro pins s σ H xs us Q I r h
 obtain ⟨p,ys,rfl,hq,q⟩:=h
 obtain ⟨u,rfl,rx⟩:=Qg r
 cases rx
 have hn:=QS
 rcases hq with hq | hq
 ·obtain ⟨its,r',pl,hz⟩:=I.list hq
  have hlen:=r'.length
  exact Calls.call_len_list pl.isList (by simp only [List.size_toArray] <;> omega) ⟨.int ys.length,H,I.tok _,⟨s.toks+1,by rw [List.size_toArray,hlen]⟩,q⟩
 ·obtain ⟨its,r',pl,hz⟩:=I.tuple hq
  have hlen:=r'.length
  exact len_tuple pl (by simp only [List.size_toArray] <;> omega) ⟨.int ys.length,H,I.tok _,⟨s.toks+1,by rw [List.size_toArray,hlen]⟩,q⟩
theorem za.or {f:Value}{r r':List V->Hp->VK->Prop} (h:za X f r) (h':za X f r'):za X f (fun xs H Q=>r xs H Q ∨ r' xs H Q):=by
 intro pins s σ H xs us Q I rs q
 rcases q with q | q
 ·exact h pins s σ H xs us Q I rs q
 ·exact h' pins s σ H xs us Q I rs q
theorem aa7:za X (.type "list") (fun xs H Q=>∃ p ys,xs=[.ref p]/\(SqL X.K H p ys ∨ SqT X.K H p ys)/\∀ l,H l=none->Q (.ref l) (upd H l (.lst ys))):=by
 intro pins s σ H xs us Q I r h
 obtain ⟨p,ys,rfl,hq,q⟩:=h
 obtain ⟨u,rfl,rx⟩:=Qg r
 cases rx
 have fin:∀ (its:List Value),jw ys its->ys.length<=sizeLine->∀ (h':Heap) (c':Nat),(∀ b o',s.heap.get? b=some o'->h'.get? b=some o')->
   h'.get? s.heap.objs.size=some { cls:= .type "list",dict:=none,data:= .seq its.toArray c',slots:=#[] }->EP X pins σ Q (.ref s.heap.objs.size) { s with heap:=h' }:=fun its r' hz h' c' kp e=>
  ⟨.ref s.heap.objs.size,_,I.laid (t':=s.toks) kp (Nat.le_refl _) (show qh X.prog X.w _ h' _ (.lst ys) from ⟨hz,its,c',r',e⟩),rfl,q _ (I.hok.fresh (Nat.le_refl _))⟩
 rcases hq with hq | hq
 ·obtain ⟨its,r',pl,hz⟩:=I.list hq
  have hlen:=r'.length
  obtain ⟨o,ho,hc,n,hd⟩:=pl.isList
  exact call_list_seq p (.inl rfl) ho hc hd (fun h' c' kp e=>fin its r' hz h' c' kp e) (by simp only [List.size_toArray] <;> omega)
 ·obtain ⟨its,r',pl,hz⟩:=I.tuple hq
  have hlen:=r'.length
  obtain ⟨o,ho,hc,n,hd⟩:=pl
  exact call_list_seq p (.inr rfl) ho hc hd (fun h' c' kp e=>fin its r' hz h' c' kp e) (by simp only [List.size_toArray] <;> omega)
noncomputable def tyV (K:PySem.W.Frag) (T:String) (x:V) (H:Hp):Prop:=match x with
 | .str _=>T="str"
 | .int _=>T="int"
 | .ref p=>(T="list"/\∃ xs,SqL K H p xs) ∨ (T="tuple"/\∃ o,K.lookup p=some o/\o.cls= .type "tuple"/\o.dict=none) ∨
   (T="dict"/\((∃ kvs,H p=some (.dK kvs)) ∨ ∃ kvs,H p=some (.dT kvs))) ∨ (T="set"/\∃ S n,H p=some (.set S n))
 | _=>False
theorem aiT {pins:List (Addr × Obj)}{σ:St}{H:Hp}{s:Shared}{T:String}{x:V}{v:Value} (I:Inv X pins σ H s) (r:jy x v) (ty:tyV X.K T x H):
  s.TypeIs v T/\∀ a,v= .ref a->∃ ob,s.heap.get? a=some ob/\ob.dict=none:=by
 cases x with
 | str z=>
  obtain ⟨t,rfl⟩:=r
  cases (show T="str" from ty)
  exact ⟨typeIs_str s z t,fun _ e=>nomatch e⟩
 | int i=>
  obtain ⟨t,rfl⟩:=r
  cases (show T="int" from ty)
  exact ⟨typeIs_int s i t,fun _ e=>nomatch e⟩
 | ref p=>
  cases r
  rcases ty with ⟨rfl,xs,hq⟩ | ⟨rfl,o,hk,hc,hd⟩ | ⟨rfl,hk⟩ | ⟨rfl,S,n,hk⟩
  ·obtain ⟨its,_,pl,_⟩:=I.list hq
   refine ⟨pl.isList.typeIs,fun a e=>?_⟩
   cases e
   obtain ⟨o,n,e,c,hd,_⟩:=pl
   exact ⟨o,e,hd⟩
  ·refine ⟨⟨o,I.kIn p o hk,hc⟩,fun a e=>?_⟩
   cases e
   exact ⟨o,I.kIn _ o hk,hd⟩
  ·have z:∃ o,s.heap.get? p=some o/\o.ExactDict:=by
    rcases hk with ⟨kvs,hk⟩ | ⟨kvs,hk⟩
    ·obtain ⟨_,_,_,_,o,_,_,e,ex,_⟩:=I.hok p _ hk
     exact ⟨o,e,ex⟩
    ·obtain ⟨_,_,_,_,o,_,_,e,ex,_⟩:=I.hok p _ hk
     exact ⟨o,e,ex⟩
   obtain ⟨o,e,ex⟩:=z
   refine ⟨⟨o,e,ex.1⟩,fun a e2=>?_⟩
   cases e2
   exact ⟨o,e,ex.2.1⟩
  ·obtain ⟨o,_,_,_,e,ex,_⟩:=I.hok p _ hk
   refine ⟨⟨o,e,ex.1⟩,fun a e2=>?_⟩
   cases e2
   exact ⟨o,e,ex.2.1⟩
 | _=>exact False.elim ty
noncomputable def tBM (K:PySem.W.Frag) (T:String) (r:V->List V->Hp->VK->Prop) (to:TE) (t:TA):TE:=fun σ H Q=>to σ H fun x H1=>tyV K T x H1/\t σ H1 fun xs H2=>r x xs H2 Q
variable {o e:Expr}{es:List Expr}{to:TE}{t:TA}{name:Str}{apos cpos:Pos}{T id:String}{r:V->List V->Hp->VK->Prop}
theorem aff (pa:PlainAttrs T) (slot:Slot T name id) (hty:typeOf (.builtin id)=pure (.type "method_descriptor")) (hm:MtR X id r) (ho:PE X o to) (ha:PA X (e::es) t)
  (hbase:attributeBase o name X.env (eval o X.env)=eval o X.env:=by rfl)
  (hfew:((backTo cpos (starEach (e::es) X.env)).all (fun x=>!x.1) && (backToKw cpos (keywordEach [] X.env)).all (fun x=>x.1.isSome)
   && decide ((e::es).length+([]:List Keyword).length+(if ([]:List Keyword).isEmpty then 0 else 1) < 30))=true:=by rfl)
  (hline:(apos.endLine == cpos.line)=true:=by rfl) (hs:starEach (e::es) X.env=(false,eval e X.env)::starEach es X.env:=by rfl) (hplain:(backTo cpos (starEach es X.env)).any (·.1)=false:=by rfl):
  PE X (.Call (.Attribute o name apos) (e::es) [] cpos) (tBM X.K T r to t):=by
 intro pins s σ H Q I h
 refine wpAny_Call_method_late hbase hfew hline rfl (thn (ho pins s σ H _ I h) fun v s1 ⟨x,H1,I1,r1,ty,q1⟩=>?_)
 obtain ⟨h1,h2⟩:=aiT I1 r1 ty
 refine ⟨T,id,pa,slot,hty,h1,h2,?_⟩
 have hA:=ha cpos pins s1 σ H1 _ I1 q1
 rw [hs] at hA ⊢
 refine Calls.callWith_builtin (by show (false || (backTo cpos (starEach es X.env)).any (·.1))=false; rw [hplain] <;> rfl) (Calls.evalArgs_plain ?_)
 exact thn hA fun us s2 ⟨vs,H2,I2,r2,q2⟩=>hm pins s2 σ H2 x vs v us Q I2 r1 r2 q2
end
end L2
namespace L2
open PySem PySem.Spec PyProof.Rows
noncomputable def MtM (X:Cx) (id:String) (r:V->List V->Hp->VK->Prop):Prop:=
 ∀ (pins:List (Addr × Obj)) (s:Shared) (σ:St) (H:Hp) (x:V) (xs:List V) (v:Value) (us:List Value) (Q:VK),Inv X pins σ H s->jy x v->jw xs us->r x xs H Q->
  wpAny (model X.prog X.w) X.A (call (.builtin id) (v::us)) (EP X pins σ Q) X.xe s
theorem jw.one:∀ {x:V}{us:List Value},jw [x] us->∃ u,us=[u]/\jy x u
 | _,_,.cons r .nil=>⟨_,rfl,r⟩
theorem jw.two:∀ {x y:V}{us:List Value},jw [x,y] us->∃ u v,us=[u,v]/\jy x u/\jy y v
 | _,_,_,.cons r (.cons q .nil)=>⟨_,_,rfl,r,q⟩
theorem jw.zero:∀ {us:List Value},jw [] us->us=[]
 | _,.nil=>rfl
theorem jw.reverse {xs:List V}{us:List Value} (h:jw xs us):jw xs.reverse us.reverse:=by
 induction h with
 | nil=>exact .nil
 | cons r t ih=>rw [List.reverse_cons,List.reverse_cons]; exact jw.append ih (.cons r .nil)
theorem jw.rep {xs:List V}{us:List Value} (h:jw xs us):∀ k:Nat,jw (List.replicate k xs).flatten (List.replicate k us).flatten
 | 0=> .nil
 | k+1=>by
  rw [List.replicate_succ,List.replicate_succ,List.flatten_cons,List.flatten_cons]
  exact jw.append h (jw.rep h k)
theorem aaE (its:List Value):∀ (k:Nat) (acc:List Value),
  List.foldl (fun x1 x2=>x1++x2) acc.toArray (List.replicate k its.toArray)=(acc++(List.replicate k its).flatten).toArray
 | 0,acc=>by simp
 | k+1,acc=>by
  have e:acc.toArray++its.toArray=(acc++its).toArray:=by simp
  have e2:(acc++its)++(List.replicate k its).flatten=acc++(List.replicate (k+1) its).flatten:=by
   rw [List.replicate_succ,List.flatten_cons,List.append_assoc]
  rw [←e2,←aaE its k (acc++its),←e,List.replicate_succ,List.foldl_cons]
section
variable {X:Cx}{pins:List (Addr × Obj)}{σ:St}{H:Hp}{s:Shared}{l b:Addr}{xs ys zs:List V}
theorem Inv.lset {its its':List Value}{n:Nat}{f:Array Value->Array Value}{t':Nat} (I:Inv X pins σ H s) (hH:H l=some (.lst xs))
  (e:s.heap.get? l=some { cls:= .type "list",data:= .seq its.toArray n }) (hf:f its.toArray=its'.toArray) (hv:jw ys its') (hz:ys.length<=sizeLine):
  Inv X pins σ (upd H l (.lst ys)) { s with heap:=s.heap.update l (Obj.mapSeq f),toks:=t' }:=by
 have q:=PySem.IsL.update e f
 rw [hf] at q
 refine I.write (x:=l) (e:=l) (by rw [hH]; exact trivial) (.inl rfl) (fun b' u hb hu=>(Heap.get?_update_other s.heap (Obj.mapSeq f) (Ne.symm hb)).trans hu) ⟨_,q⟩ ?_
 exact ⟨hz,its',_,hv,q⟩
theorem Inv.lnew {its:List Value}{t':Nat} (I:Inv X pins σ H s) (hv:jw ys its) (hz:ys.length<=sizeLine):
  Inv X pins σ (upd H s.heap.objs.size (.lst ys)) { s with heap:=s.heap.push { cls:= .type "list",data:= .seq its.toArray },toks:=t' }:=
 I.laid (fun _ _ q=>Heap.get?_push_of_some _ q) (Nat.le_refl _) ⟨hz,its,0,hv,Heap.get?_push_size _ rfl⟩
theorem Inv.fresh (I:Inv X pins σ H s):H s.heap.objs.size=none:=I.hok.fresh (Nat.le_refl _)
theorem Inv.lstM (I:Inv X pins σ H s) (hH:H l=some (.lst xs)):xs.length<=sizeLine/\∃ (its:List Value) (n:Nat),jw xs its/\xs.length=its.length/\s.heap.get? l=some { cls:= .type "list",data:= .seq its.toArray n }:=by
 obtain ⟨z,its,n,r,e⟩:=I.hok l _ hH
 exact ⟨z,its,n,r,r.length,e⟩
theorem afg {n:Nat} (h:n<=sizeLine):Builtin.List.listTooLong n=false:=by
 unfold Builtin.List.listTooLong
 exact decide_eq_false (by omega)
end
section
variable {X:Cx}
noncomputable def ag3:V->List V->Hp->VK->Prop:=fun x vs H Q=>∃ l xs y,x= .ref l/\vs=[y]/\H l=some (.lst xs)/\xs.length < sizeLine/\Q .non (upd H l (.lst (xs++[y])))
theorem ad8:MtM X "list.append" ag3:=by
 intro pins s σ H x vs v us Q I rx rv h
 obtain ⟨l,xs,y,rfl,rfl,hH,hz,q⟩:=h
 cases rx
 obtain ⟨u,rfl,ru⟩:=rv.one
 obtain ⟨z,its,n,r,hl,e⟩:=I.lstM hH
 refine call_meets F.slot_list_append ⟨_,e,rfl⟩ F.entry_list_append (F.args_list_append_2 _ _) (PySem.list_append l its.toArray n u (by rw [List.size_toArray]; omega)) ⟨e,?_⟩
 refine ⟨.non,_,I.lset (its':=its++[u]) hH e (by simp) (r.append (.cons ru .nil)) ?_,rfl,q⟩
 rw [List.length_append,List.length_singleton]
 omega
noncomputable def ak1:R2:=fun x y H Q=>∃ l b xs zs,x= .ref l/\y= .ref b/\H l=some (.lst xs)/\H b=some (.lst zs)/\xs.length+zs.length<=sizeLine/\∀ p,H p=none->Q (.ref p) (upd H p (.lst (xs++zs)))
theorem aiU:OpR X (binaryOp .Add) ak1:=by
 intro pins s σ H x y v u Q I rx ry h
 obtain ⟨l,b,xs,zs,rfl,rfl,hH,hB,hz,q⟩:=h
 cases rx
 cases ry
 obtain ⟨z,its,n,r,hl,e⟩:=I.lstM hH
 obtain ⟨z2,its2,n2,r2,hl2,e2⟩:=I.lstM hB
 refine PySem.P.add_list e e2 ?_ (by rw [List.size_toArray,List.size_toArray]; omega)
 have ea:its.toArray++its2.toArray=(its++its2).toArray:=by simp
 rw [ea]
 exact ⟨.ref _,_,I.lnew (t':=s.toks) (r.append r2) (by rw [List.length_append]; omega),rfl,q _ I.fresh⟩
noncomputable def ak2:R2:=fun x y H Q=>∃ l k xs,x= .ref l/\y= .int k/\H l=some (.lst xs)/\-(2 ^ 63)<=k/\k < 2 ^ 63/\xs.length*k.toNat<=sizeLine/\
 ∀ p,H p=none->Q (.ref p) (upd H p (.lst (List.replicate k.toNat xs).flatten))
theorem ag4 {α:Type} (xs:List α) (k:Nat):(List.replicate k xs).flatten.length=k*xs.length:=by
 induction k with
 | zero=>simp
 | succ k ih=>rw [List.replicate_succ,List.flatten_cons,List.length_append,ih,Nat.succ_mul,Nat.add_comm]
theorem acY:OpR X (binaryOp .Mult) ak2:=by
 intro pins s σ H x y v u Q I rx ry h
 obtain ⟨l,k,xs,rfl,rfl,hH,h1,h2,hz,q⟩:=h
 cases rx
 obtain ⟨t,rfl⟩:=ry
 obtain ⟨z,its,n,r,hl,e⟩:=I.lstM hH
 have hlen:its.toArray.size*k.toNat<=sizeLine:=by rw [List.size_toArray,←hl]; exact hz
 have hcap:¬ its.toArray.size*k.toNat > (2 ^ 63 - 1) / 8:=by
  have:(sizeLine:Nat)<=(2 ^ 63 - 1) / 8:=by decide
  omega
 have hfit:¬ (!Builtin.List.listFitsIndex k)=true:=by
  rw [fitsIndex_both h1 h2]
  exact Bool.false_ne_true
 have hlong:¬ Builtin.List.listTooLong (its.toArray.size*k.toNat)=true:=by
  rw [afg hlen]
  exact Bool.false_ne_true
 have hnew:List.foldl (fun x1 x2=>x1++x2) #[] (List.replicate (if its.toArray.isEmpty=true then 0 else k.toNat) its.toArray)=(List.replicate k.toNat its).flatten.toArray:=by
  have f0:∀ m:Nat,List.foldl (fun x1 x2=>x1++x2) #[] (List.replicate m its.toArray)=(List.replicate m its).flatten.toArray:=fun m=>by
   have:=aaE its m []
   rw [List.nil_append] at this
   exact this
  rw [f0]
  cases its with
  | nil=>simp
  | cons a r'=>rw [if_neg (by simp)]
 refine wpAny_binaryOp_repeat_ref (T:="list") (U:="int") (by decide) ⟨_,e,rfl⟩ (fun s'=>typeIs_int s' k t) noFill_list_mul F.fills_int_mul F.slot_int_rmul repeat_list F.slot_int_index.lookup
  (call_meets F.slot_int_rmul (typeIs_int s k t) F.entry_int_rmul (F.args_int_rmul_2 _ _) (int___rmul___int_list k t l its.toArray n)
   ⟨e,rfl,⟨_,e,rfl⟩,call_meets F.slot_list_mul ⟨_,e,rfl⟩ F.entry_list_mul (F.args_list_mul_2 _ _) (AutoListH.list___mul___list_int_3 l its.toArray n k t hfit hcap hlong) ⟨e,?_⟩⟩)
 rw [hnew]
 exact ⟨.ref _,_,I.lnew (t':=s.toks) (r.rep k.toNat) (by rw [ag4,Nat.mul_comm]; exact hz),rfl,q _ I.fresh⟩
end
section
variable {prog:Program}{w:World}{A:Around}{E:Value->Shared->Prop}{s:Shared}
set_option maxRecDepth 100000 in
end
section
variable {X:Cx}
end
end L2
namespace Att
open PySem PySem.W PySem.Calls PyProof.Rows
theorem Zv {P:Params}{h:Heap}:∀ (ns:List Int) (vs:List Value),WellAll P h vs (ns.map WData.int)->IntsAre vs ns:=by
 intro ns
 induction ns with
 | nil=>
  intro vs w
  rw [List.map_nil] at w
  cases w
  exact .nil
 | cons n ns ih=>
  intro vs w
  rw [List.map_cons] at w
  cases w with
  | cons a b=>
   cases a
   exact .cons _ _ (ih _ b)
theorem ad9 {l:OpenLaw}{n:Nat} (hn:l.most=some n) {P:Params}{h:Heap}{args:List WData}{vals:List Value}
  (hpre:l.row.toRowW.claim.pre args=true) (hwl:WellAll P h vals args):
  ∃ a vs ns,vals=[Value.ref a]/\args=[WData.list (ns.map WData.int)]/\h.get? a=some { cls:= .type "list",data:= .seq vs.toArray }/\IntsAre vs ns/\ns.length<=n:=by
 have hsh:WShape.hasAll [] args [.list .int]=true:=(pre_splitW hpre).1
 have hc:l.pre.holds [] { args:=args }=true:=(pre_splitW hpre).2
 obtain ⟨d,r,rfl,h1,h2⟩:=hasAllW_cons hsh
 obtain rfl:=hasAllW_nil h2
 obtain ⟨xs,rfl,h3⟩:=hasW_list h1
 obtain ⟨ns,rfl⟩:=items_int h3
 have hlen:ns.length<=n:=by
  unfold OpenLaw.pre at hc
  have h4:(WTm.not (.lt (.lit (.int (n:Int))) (.len (.arg 0)))).holds [] { args:=[.list (ns.map .int)] }=true:=by
   have h4:=(holds_andW hc).1
   rw [hn] at h4
   exact h4
  have h5:=condW_of h4 (w_not (w_lt w_lit (w_len_list (w_arg rfl))))
  rw [List.length_map] at h5
  refine Nat.le_of_not_lt fun q=>?_
  have q':(n:Int) < ((ns.length:Nat):Int):=by omega
  first
   | (rw [decide_eq_true q'] at h5; exact absurd h5 (by decide))
   | (simp at h5; omega)
 cases hwl with
 | cons w1 w2=>
  cases w2
  cases w1 with
  | list ho hall=>exact ⟨_,_,ns,rfl,rfl,ho,Zv ns _ hall,hlen⟩
theorem aea (l:OpenLaw) (args:List WData):l.row.toRowW.claim.post args (.bool true) args=true:=
 postW_of (r:=l.row.toRowW) (X:=(true == true))
  (show WShape.has [] (.bool true) .bool=true by first | rfl | decide | simp [WShape.has,WShape.arms,WShape.armsAll])
  (show (WTm.eq .res (.lit (.bool true))).value [] { args:=args,res:=some (.bool true),after:=args }=some (.bool (true == true)) from w_eq_bool (w_res rfl) w_lit) rfl
theorem attach_call {l:OpenLaw}{n:Nat}{q:Program}{loose:List Str}{XP:(Str->Option Value)->Heap->Prop}{YP:World->Heap->Prop}{d:DefRec}
  (hn:l.most=some n) (hdf:d.params.defaults=[])
  (call:∀ (w:World) (s₀ s₁:Shared) (mg mb:Str->Option Value) (fa:Addr) (o:Obj) (pm cd doc:Value) (a:Addr) (vs:List Value) (ns:List Int),
   Ground q loose [] XP w s₀ mg mb s₁.heap->YP w s₁.heap->
   s₁.heap.get? fa=some o->o.data= .func (docDef d.name d.params d.body d.scope pm cd doc)->s₁.heap.CodeRec cd d.name->mg d.name=some (.ref fa)->
   s₁.heap.get? a=some { cls:= .type "list",data:= .seq vs.toArray }->IntsAre vs ns->ns.length<=n->s₁.gens=#[]->
   codeAny (model l.prog w) callerA (.call (.ref fa) ⟨[.ref a],[]⟩) (fun r s'=>r= .ok (.ret (.bool true))/\OldK s₁.heap s'.heap/\s'.os=s₁.os/\AllBare s'.gens) s₁):
  WalkO q loose XP YP l.row.toRowW d [] (fun f vs=>PySem.call f vs):=by
 intro w s₀ s₁ mg mb G Y fa o pm cd doc dV kV ho hd hcd hD hmg hg args vals as hpre hlay hrd hwl hlo
 obtain rfl:dV= .none:=Dflts.none hD hdf
 obtain rfl:kV= .none:=Dflts.noKw hD
 obtain ⟨a,vs,ns,rfl,rfl,hobj,hints,hlen⟩:=ad9 hn hpre hwl
 refine enter_call (codeAny_mono (call w s₀ s₁ mg mb fa o pm cd doc a vs ns G Y ho (fd_plain hd) hcd hmg hobj hints hlen hg) fun r s' hq=>?_)
 obtain ⟨rfl,h2,h3,h4⟩:=hq
 exact ⟨.inl ⟨.bool true,.bool true,[],rfl,fun _=>rfl,.bool true,aea l _,fun _=>⟨List.Pairwise.nil,fun _ hm=>(nomatch hm)⟩⟩,h2,h3,h4⟩
section
variable {prog:Program}{w:World}{A:Around}{E:Value->Shared->Prop}{s:Shared}{K:Frag}
noncomputable def ak3 (h:Heap) (L d:Addr):List (Addr × Obj):=(List.range h.objs.size).filterMap fun a=>if a=L ∨ a=d then none else (h.get? a).map fun o=>(a,o)
end
end Att
namespace L2
open PySem PySem.Spec PyProof.Rows
theorem JB:∀ {vs:List Value}{ns:List Int},IntsAre vs ns->jw (ns.map V.int) vs
 | _,_,.nil=> .nil
 | _,_,.cons n t h=> .cons ⟨t,rfl⟩ (JB h)
noncomputable def aiV (H:Hp):Prop:=∀ b,H b=none ∨ ∃ o xs,H b=some (.frz o (.lst xs))
theorem afh {P:Program}{w:World}{K:PySem.W.Frag}{mg mb:Str->Option Value}{CX:CXT}{k:Nat}{fa a:Addr}{fd:FuncData}{x:Str}{sp:Sp}{s₁:Shared}{vs:List Value}{ns:List Int}
  (KX:K.In s₁.heap) (hns:s₁.heap.Ns mainGlobals mg) (hb:s₁.heap.Ns builtinsNs mb) (hbb:∀ x:Str,x ≠ "__name__"->mb x=bootBuiltins x) (hlim:s₁.heap.NoLimit) (hg:s₁.gens=#[])
  (ha:s₁.heap.get? a=some { cls:= .type "list",data:= .seq vs.toArray }) (hi:IntsAre vs ns) (hl:ns.length<=sizeLine) (hr:Room k callerA)
  (F:∀ base:Heap,K.In base->base.Ns mainGlobals mg->FnOk P w K mg base CX k fa fd [x] sp) (hbind:∀ (s:Shared) (u:Value),BindsTo s fd ⟨[u],[]⟩ [(x,u)])
  (hsp:∀ H:Hp,aiV H->SqL K H a (ns.map V.int)->sp [.ref a] H (fun v _=>v= .bl true) fun _ _ _=>False)
  (hCX:∀ H e s',CX [] H s₁ (fun _ _ _=>False) e s'->False):
  codeAny (model P w) callerA (.call (.ref fa) ⟨[.ref a],[]⟩) (fun r s'=>r= .ok (.ret (.bool true))/\OldK s₁.heap s'.heap/\s'.os=s₁.os/\AllBare s'.gens) s₁:=by
 have rv:=JB hi
 have lenV:=hi.length
 have core:∀ H:Hp,aiV H->SqL K H a (ns.map V.int)->HOk P w H s₁.heap->(∀ b,H b ≠ none->b=a)->(H a ≠ none->K.lookup a=none)->
   codeAny (model P w) callerA (.call (.ref fa) ⟨[.ref a],[]⟩) (fun r s'=>r= .ok (.ret (.bool true))/\OldK s₁.heap s'.heap/\s'.os=s₁.os/\AllBare s'.gens) s₁:=by
  intro H hO hS hok hA hK
  have base_of:∀ {b:Addr} {o:Obj},s₁.heap.get? b=some o->H b=none->(aa1 s₁.heap H).get? b=some o:=fun e n=>aeW e n
  have noA:∀ {b:Addr} {o:Obj} {es:Array DictEntry} {ep:Nat},s₁.heap.get? b=some o->o.data= .dict es ep->H b=none:=fun {b o es ep} e d=>by
   cases q:H b with
   | none=>rfl
   | some u=>
    have e':b=a:=hA b (by rw [q]; simp)
    subst e'
    rw [ha] at e; cases e
    have d':Data.seq vs.toArray _=Data.dict es ep:=d
    cases d'
  have nsK:∀ {b:Addr} {m:Str->Option Value},s₁.heap.Ns b m->(aa1 s₁.heap H).Ns b m:=fun {b m} ⟨o,es,ep,e,d,r⟩=>⟨o,es,ep,base_of e (noA e d),d,r⟩
  have hKb:K.In (aa1 s₁.heap H):=fun b o e=>base_of (KX b o e) (by
   cases q:H b with
   | none=>rfl
   | some u=>
    have e':b=a:=hA b (by rw [q]; simp)
    subst e'
    rw [hK (by rw [q]; simp)] at e; cases e)
  have hM:Mod K mg (aa1 s₁.heap H):=⟨hKb,nsK hns,⟨mb,nsK hb,hbb⟩,let ⟨mc,h1,h2⟩:=hlim; ⟨mc,nsK h1,h2⟩⟩
  have e0:Env0 P w K mg (aa1 s₁.heap H) callerA [] s₁ H:=⟨rfl,hM,fun b o e=>agQ e,Nat.le_of_eq (adX _ _),trivial,fun b hb=>absurd (show b ∈ ([]:List Addr) from hb) (by simp),hok,.of_eq hg⟩
  refine codeAny_mono ((F _ hKb (nsK hns)).run callerA [] s₁ H ⟨[.ref a],[]⟩ [.ref a] [.ref a] _ _ hr e0 (hbind s₁ (.ref a)) (.cons rfl .nil) (hsp H hO hS)) fun r s' h=>?_
  cases r with
  | error e=>exact (hCX H e s' h).elim
  | ok fl=>
   cases fl with
   | next=>exact False.elim h
   | brk=>exact False.elim h
   | cont=>exact False.elim h
   | ret u=>
    obtain ⟨v,H',os,bare,un,hok',r',q⟩:=h
    have q':v= .bl true:=q
    subst q'
    obtain rfl:u=Value.bool true:=r'
    refine ⟨rfl,OldK.of_keep fun b o e=>?_,os,bare⟩
    cases q:H b with
    | none=>exact un.keep b o e q (by intro z; exact absurd (show b ∈ ([]:List Addr) from z) (by simp)) (by simp)
    | some u=>
     rcases hO b with z | ⟨ob,xs,z⟩
     ·rw [q] at z; cases z
     ·have z2:=un.frzs b ob _ z
      obtain ⟨e1,_⟩:=hok b _ z
      obtain ⟨e2,_⟩:=hok' b _ z2
      rw [e] at e1; cases e1
      exact e2
 cases hk:K.lookup a with
 | some o=>
  have e:=KX a o hk
  rw [ha] at e
  cases e
  refine core (fun _=>none) (fun _=> .inl rfl) (.inr ⟨_,vs.toArray,_,hk,rfl,rfl,rfl,by rw [List.size_toArray,lenV]; exact hl,by simpa using rv⟩) (fun b u z=>by have z':(none:Option HO)=some u:=z; cases z') (fun b z=>absurd rfl z) fun z=>absurd rfl z
 | none=>
  refine core (fun b=>if b=a then some (.frz { cls:= .type "list",data:= .seq vs.toArray } (.lst (ns.map V.int))) else none) (fun b=>?_) (.inl (.inr ⟨{ cls:= .type "list",data:= .seq vs.toArray },if_pos rfl⟩)) (fun b u z=>?_) (fun b z=>?_) fun _=>hk
  ·by_cases hb:b=a
   ·exact .inr ⟨_,_,if_pos hb⟩
   ·exact .inl (if_neg hb)
  ·by_cases hb:b=a
   ·have z':=(if_pos hb).symm.trans z
    cases z'
    subst hb
    exact ⟨ha,by rw [List.length_map]; exact hl,vs,_,rv,ha⟩
   ·have z':=(if_neg hb).symm.trans z
    cases z'
  ·by_cases hb:b=a
   ·exact hb
   ·exact absurd (if_neg hb) z
end L2
namespace L2
open PySem PySem.Spec PyProof.Rows
theorem ag5 {l:PySem.W.OpenLaw}{n k:Nat}{q:Program}{loose:List Str}{XP:(Str->Option Value)->Heap->Prop}{YP:World->Heap->Prop}{d:DefRec}{K:Params->PySem.W.Frag}{CX:World->CXT}{sp:World->Sp}{x:Str}
  (hn:l.most=some n) (hn2:n<=sizeLine) (hdf:d.params.defaults=[]) (hr:Room k callerA)
  (hY:∀ (w:World) (h:Heap),YP w h->(K w.params).In h)
  (F:∀ (w:World) (mg:Str->Option Value) (fa:Addr) (h:Heap),(K w.params).In h->h.Ns mainGlobals mg->mg d.name=some (.ref fa)->
   ∃ fd:FuncData,(∀ (s:Shared) (u:Value),BindsTo s fd ⟨[u],[]⟩ [(x,u)])/\
    ∀ base:Heap,(K w.params).In base->base.Ns mainGlobals mg->FnOk l.prog w (K w.params) mg base (CX w) k fa fd [x] (sp w))
  (hsp:∀ (w:World) (H:Hp) (a:Addr) (ns:List Int),ns.length<=n->aiV H->SqL (K w.params) H a (ns.map V.int)->sp w [.ref a] H (fun v _=>v= .bl true) fun _ _ _=>False)
  (hCX:∀ (w:World) (H:Hp) (s:Shared) (e:Value) (s':Shared),CX w [] H s (fun _ _ _=>False) e s'->False):
  PySem.W.WalkO q loose XP YP l.row.toRowW d [] (fun f vs=>PySem.call f vs):=by
 refine Att.attach_call hn hdf fun w s₀ s₁ mg mb fa o pm cd doc a vs ns G Y ho hd hcd hmg hobj hints hlen hg=>?_
 have KX:=hY w _ Y
 obtain ⟨fd,hb,hF⟩:=F w mg fa _ KX G.T.g hmg
 exact afh KX G.T.g G.T.b G.T.builtins G.T.nolimit hg hobj hints (Nat.le_trans hlen hn2) hr hF hb (fun H hO hS=>hsp w H a ns hlen hO hS) fun H e s'=>hCX w H s₁ e s'
end L2
namespace L2
open PySem PySem.Spec PyProof.Rows
noncomputable def zS (s:Stmt):Arguments:=match s with
 | .FunctionDef _ a _ _ _ _ _ _ _ _=>a
 | _=>{ posonlyargs:=[],args:=[],vararg:=none,kwonlyargs:=[],kw_defaults:=[],kwarg:=none,defaults:=[] }
noncomputable def jK (s:Stmt):List Stmt:=match s with
 | .FunctionDef _ _ b _ _ _ _ _ _ _=>b
 | _=>[]
noncomputable def jf (s:Stmt):Scope:=match s with
 | .FunctionDef _ _ _ _ _ _ sc _ _ _=>sc
 | _=>{ kind:= .function,names:=[],isGenerator:=false,isCoroutine:=false }
noncomputable abbrev CX0:CXT:=fun _ _ _ _ _ _=>False
noncomputable abbrev E0:XK:=fun _ _ _=>False
theorem afi {X:Cx}:acU CX0 X E0:=fun _ _ _ _ _ _ _ h=>h.elim
structure Fun (K:PySem.W.Frag) (x qual:Str) (st:Stmt) (f:Addr) (fd:FuncData):Prop where
 ex:∃ (oc:Value) (od:Option Addr) (kV doc pm:Value) (an:Option Addr) (cdv ct:Value) (osl:Array (Option Value)),
  fd=PySem.W.fnOf x qual (zS st) (jK st) (jf st) .none kV doc pm an cdv ct/\K.lookup f=some ⟨oc,od,.func fd,osl⟩/\PySem.W.codeIn K cdv qual=true
 kp:PySem.W.keepIn K (.ref f)=true
section
variable {P:Program}{w:World}{K:PySem.W.Frag}{mg:Str->Option Value}{base:Heap}
theorem Fun.ok {x qual:Str}{st:Stmt}{f:Addr}{fd:FuncData}{N ps:List Str}{k:Nat}{sp:Sp} (F:Fun K x qual st f fd) (S:FnScope N ps (jf st)) (len:∀ vs H Q E,sp vs H Q E->vs.length=ps.length)
  (hbody:∀ (cdv:Value) (A:Around) (outer:List Env) (s:Shared) (H:Hp) (vs:List V) (Q:VK) (E:XK),Room k (A.deeper (envOfC qual (jf st) s.heap.objs.size f cdv))->sp vs H Q E->
   ∃ t,PSs (zp CX0 P w K mg base N qual (jf st) f cdv A outer s H E).nox (jK st) t/\t { nx:=fun _ H'=>Q .non H',rt:=Q } (qN N vs) H):FnOk P w K mg base CX0 (k+1) f fd ps sp:=by
 obtain ⟨oc,od,kV,doc,pm,an,cdv,ct,osl,rfl,lk,hcd⟩:=F.ex
 refine aj4 lk hcd S len fun A outer s H vs Q E hr hsp=>?_
 obtain ⟨t,h,q⟩:=hbody cdv A outer s H vs Q E hr hsp
 exact ⟨t,h.nox,q⟩
theorem Fun.binds {x qual:Str}{st:Stmt}{f:Addr}{fd:FuncData}{ps:List Str} (F:Fun K x qual st f fd)
  (h:∀ (kV doc pm:Value) (an:Option Addr) (cdv ct:Value) (us:List Value),us.length=ps.length->bindArgs (PySem.W.fnOf x qual (zS st) (jK st) (jf st) .none kV doc pm an cdv ct) ⟨us,[]⟩=pure (ps.zip us)):Jg K fd ps []:=by
 obtain ⟨oc,od,kV,doc,pm,an,cdv,ct,osl,rfl,lk,hcd⟩:=F.ex
 exact .all (h kV doc pm an cdv ct)
theorem aa8 {x qual:Str}{st:Stmt}{f:Addr}{oc:Value}{od an:Option Addr}{osl:Array (Option Value)}{kV doc pm cdv ct:Value} (l:K.lookup f=some ⟨oc,od,.func (PySem.W.fnOf x qual (zS st) (jK st) (jf st) .none kV doc pm an cdv ct),osl⟩)
  (c:PySem.W.codeIn K cdv qual=true) (k:PySem.W.keepIn K (.ref f)=true):Fun K x qual st f (PySem.W.fnOf x qual (zS st) (jK st) (jf st) .none kV doc pm an cdv ct):=⟨⟨oc,od,kV,doc,pm,an,cdv,ct,osl,rfl,l,c⟩,k⟩
end
section
variable {X:Cx}
theorem pv (i:Nat) {x:Str}{pos:Pos} (hN:X.N[i]?=some x:=by rfl) (hv:Vis X.env.scope x:=by first | exact Or.inl rfl | exact Or.inr (Or.inl rfl) | exact Or.inr (Or.inr rfl)) (hd:(x == ("__debug__":Str))=false:=by decide)
  (hcd:(x == ("__classdict__":Str))=false:=by decide):PE X (.Name x pos) (ajO i):=acL hN hv hd hcd
end
theorem ak4 {A B:Prop} (h:B):if false=true then A else B:=by
 rw [if_neg Bool.false_ne_true]
 exact h
theorem ak5 {A B:Prop} (h:A):if true=true then A else B:=by
 rw [if_pos rfl]
 exact h
noncomputable def ji (H H':Hp):Prop:=∀ b o,H b=some o->H' b=some o
theorem ji.refl (H:Hp):ji H H:=fun _ _ h=>h
theorem ji.trans {H H1 H2:Hp} (a:ji H H1) (b:ji H1 H2):ji H H2:=fun c o h=>b c o (a c o h)
theorem ji.free {H H':Hp} (e:ji H H') {l:Addr} (h:H' l=Option.none):H l=Option.none:=by
 cases q:H l with
 | none=>rfl
 | some o=>
  rw [e l o q] at h
  cases h
theorem ji.seq {K:PySem.W.Frag}{H H':Hp}{a:Addr}{xs:List V} (e:ji H H') (h:SqL K H a xs):SqL K H' a xs:=by
 rcases h with (h | ⟨o,h⟩) | h
 ·exact .inl (.inl (e _ _ h))
 ·exact .inl (.inr ⟨o,e _ _ h⟩)
 ·exact .inr h
section
variable {κ:Type} [DecidableEq κ]
noncomputable def zT (kvs:List (κ × V)) (k:κ):Option V:=(kvs.find? fun kv=>decide (kv.1=k)).map (·.2)
noncomputable def JN (kvs:List (κ × V)) (k:κ) (v:V):List (κ × V):=
 if (kvs.any fun kv=>decide (kv.1=k))=true then kvs.map (fun kv=>if kv.1=k then (kv.1,v) else kv) else kvs++[(k,v)]
noncomputable def aip (kvs:List (κ × V)) (k:κ):List (κ × V):=kvs.filter fun kv=>decide (kv.1 ≠ k)
theorem ZV {p:κ × V}{r:List (κ × V)}{k:κ} (e:p.1=k):zT (p::r) k=some p.2:=by simp [zT,List.find?_cons,e]
theorem ZW {p:κ × V}{r:List (κ × V)}{k:κ} (e:¬ p.1=k):zT (p::r) k=zT r k:=by simp [zT,List.find?_cons,e]
theorem abW (k:κ):∀ kvs:List (κ × V),(kvs.any fun kv=>decide (kv.1=k))=(zT kvs k).isSome
 | []=>rfl
 | p::r=>by
  rw [List.any_cons]
  by_cases e:p.1=k
  ·simp only [ZV e,decide_eq_true e,Bool.true_or,Option.isSome_some]
  ·rw [ZW e,decide_eq_false e,Bool.false_or]; exact abW k r
theorem Zl (kvs:List (κ × V)) (k:κ) (v:V):(JN kvs k v).length<=kvs.length+1:=by
 unfold JN
 split
 ·rw [List.length_map]; omega
 ·rw [List.length_append,List.length_cons,List.length_nil]; omega
theorem Zt.isSome_eq {o:Option V}{u:Option Value} (r:Zt o u):o.isSome=u.isSome:=by
 cases o with
 | none=>cases u with
  | none=>rfl
  | some _=>exact (show False from r).elim
 | some _=>cases u with
  | none=>exact (show False from r).elim
  | some _=>rfl
theorem Zt.getD {o:Option V}{u:Option Value}{d:V}{d':Value} (r:Zt o u) (rd:jy d d'):jy (o.getD d) (u.getD d'):=by
 cases o with
 | none=>cases u with
  | none=>exact rd
  | some _=>exact (show False from r).elim
 | some _=>cases u with
  | none=>exact (show False from r).elim
  | some _=>exact r
theorem KV.val {kvs:List (κ × V)}{vs:List (κ × Value)} (r:KV kvs vs) (k:κ):Zt (zT kvs k) (valueAt vs k):=by
 unfold KV at r
 induction r with
 | nil=>exact True.intro
 | @cons p q ps qs h t ih=>
  obtain ⟨h1,h2⟩:=h
  by_cases e:p.1=k
  ·have e':q.1=k:=h1.symm.trans e
   have b:valueAt (q::qs) k=some q.2:=by simp [valueAt,List.find?_cons,e']
   rw [ZV e,b]; exact h2
  ·have e':¬ q.1=k:=fun z=>e (h1.trans z)
   have b:valueAt (q::qs) k=valueAt qs k:=by simp [valueAt,List.find?_cons,e']
   rw [ZW e,b]; exact ih
theorem KV.any {kvs:List (κ × V)}{vs:List (κ × Value)} (r:KV kvs vs) (k:κ):(kvs.any fun kv=>decide (kv.1=k))=vs.any fun kv=>decide (kv.1=k):=by
 unfold KV at r
 induction r with
 | nil=>rfl
 | cons h t ih=>rw [List.any_cons,List.any_cons,ih,h.1]
theorem KV.repl {kvs:List (κ × V)}{vs:List (κ × Value)} (r:KV kvs vs) (k:κ) {y:V}{u:Value} (ry:jy y u):
  KV (kvs.map fun kv=>if kv.1=k then (kv.1,y) else kv) (vs.map fun kv=>if kv.1=k then (kv.1,u) else kv):=by
 unfold KV at r ⊢
 induction r with
 | nil=>exact .nil
 | @cons p q ps qs h t ih=>
  rw [List.map_cons,List.map_cons]
  refine .cons ?_ ih
  obtain ⟨h1,h2⟩:=h
  by_cases e:p.1=k
  ·rw [if_pos e,if_pos (h1.symm.trans e)]; exact ⟨h1,ry⟩
  ·rw [if_neg e,if_neg (fun z=>e (h1.trans z))]; exact ⟨h1,h2⟩
theorem KV.put {kvs:List (κ × V)}{vs:List (κ × Value)} (r:KV kvs vs) (k:κ) {y:V}{u:Value} (ry:jy y u):KV (JN kvs k y) (stored vs k u):=by
 unfold JN stored
 rw [r.any k]
 by_cases e:(vs.any fun kv=>decide (kv.1=k))=true
 ·rw [if_pos e,if_pos e]; exact r.repl k ry
 ·rw [if_neg e,if_neg e]; exact Paired.snoc r ⟨rfl,ry⟩
theorem KV.drop {kvs:List (κ × V)}{vs:List (κ × Value)} (r:KV kvs vs) (k:κ):KV (aip kvs k) (without vs k):=by
 unfold KV at r ⊢
 unfold aip without
 induction r with
 | nil=>exact .nil
 | @cons p q ps qs h t ih=>
  obtain ⟨h1,h2⟩:=h
  rw [List.filter_cons,List.filter_cons]
  by_cases e:p.1=k
  ·have a:¬ decide (p.1 ≠ k)=true:=by simp [e]
   have b:¬ decide (q.1 ≠ k)=true:=by simp [h1.symm.trans e]
   rw [if_neg a,if_neg b]; exact ih
  ·have e':¬ q.1=k:=fun z=>e (h1.trans z)
   have a:decide (p.1 ≠ k)=true:=by simp [e]
   have b:decide (q.1 ≠ k)=true:=by simp [e']
   rw [if_pos a,if_pos b]; exact .cons ⟨h1,h2⟩ ih
theorem KV.keys {kvs:List (κ × V)}{vs:List (κ × Value)} (r:KV kvs vs):kvs.map (·.1)=vs.map (·.1):=by
 unfold KV at r
 induction r with
 | nil=>rfl
 | cons h t ih=>rw [List.map_cons,List.map_cons,ih,h.1]
theorem KV.length {kvs:List (κ × V)}{vs:List (κ × Value)} (r:KV kvs vs):kvs.length=vs.length:=Paired.length r
end
theorem abX {P:Program}{w:World}{k:Key}{u:Value} (r:jy (kV k) u):(jN P w).is k u=true:=by
 cases k with
 | inl i=>obtain ⟨t,e⟩:=(show ∃ t,u=Value.int i t from r); subst e; exact abO P w i t
 | inr x=>obtain ⟨t,e⟩:=(show ∃ t,u=Value.str x t from r); subst e; exact abP P w x t
theorem aaF {P:Program}{w:World}:∀ {ks:List Key}{us:List Value},jw (ks.map kV) us->ItemsAre (jN P w) ks us
 | [],_,r=>by rw [List.map_nil] at r; cases r; exact .nil
 | k::ks,_,r=>by
  rw [List.map_cons] at r
  cases r with
  | cons h t=>exact .cons (abX h) (aaF t)
noncomputable abbrev KT (H:Hp):List (List Key × V)->List (List Key × Addr × Value)->Prop:=Paired fun p q=>p.1=q.1/\H q.2.1=some (.tup (p.1.map kV))/\jy p.2 q.2.2
theorem KT.val {H:Hp}{kvs:List (List Key × V)}{xs:List (List Key × Addr × Value)} (r:KT H kvs xs) (k:List Key):Zt (zT kvs k) ((atKey xs k).map (·.2)):=by
 induction r with
 | nil=>exact True.intro
 | @cons p q ps qs h t ih=>
  obtain ⟨h1,_,h2⟩:=h
  by_cases e:p.1=k
  ·have e':q.1=k:=h1.symm.trans e
   have b:atKey (q::qs) k=some q.2:=by simp [atKey,List.find?_cons,e']
   rw [ZV e,b]; exact h2
  ·have e':¬ q.1=k:=fun z=>e (h1.trans z)
   have b:atKey (q::qs) k=atKey qs k:=by simp [atKey,List.find?_cons,e']
   rw [ZW e,b]; exact ih
theorem KT.repl {H:Hp}{kvs:List (List Key × V)}{xs:List (List Key × Addr × Value)} (r:KT H kvs xs) (k:List Key) {y:V}{u:Value} (ry:jy y u):
  KT H (kvs.map fun kv=>if kv.1=k then (kv.1,y) else kv) (xs.map (putAt k u)):=by
 induction r with
 | nil=>exact .nil
 | @cons p q ps qs h t ih=>
  rw [List.map_cons,List.map_cons]
  refine .cons ?_ ih
  obtain ⟨h1,h2,h3⟩:=h
  unfold putAt
  by_cases e:p.1=k
  ·rw [if_pos e,if_pos (h1.symm.trans e)]; exact ⟨h1,h2,ry⟩
  ·rw [if_neg e,if_neg (fun z=>e (h1.trans z))]; exact ⟨h1,h2,h3⟩
theorem KT.put {H:Hp}{kvs:List (List Key × V)}{xs:List (List Key × Addr × Value)} (r:KT H kvs xs) (k:List Key) {b:Addr}{y:V}{u:Value} (hb:H b=some (.tup (k.map kV))) (ry:jy y u):
  KT H (JN kvs k y) (storedH xs k b u):=by
 have e:(kvs.any fun kv=>decide (kv.1=k))=(atKey xs k).isSome:=by
  rw [abW,(r.val k).isSome_eq,Option.isSome_map]
 unfold JN storedH
 rw [e]
 by_cases q:(atKey xs k).isSome=true
 ·rw [if_pos q,if_pos q]; exact r.repl k ry
 ·rw [if_neg q,if_neg q]; exact Paired.snoc r ⟨rfl,hb,ry⟩
theorem KT.keeps {H H':Hp}{kvs:List (List Key × V)}{xs:List (List Key × Addr × Value)} (r:KT H kvs xs) (ht:∀ b ys,H b=some (.tup ys)->H' b=some (.tup ys)):KT H' kvs xs:=
 Paired.mapP r fun _ _ z=>⟨z.1,ht _ _ z.2.1,z.2.2⟩
section
variable {P:Program}{w:World}{H:Hp}{h:Heap}{a:Addr}
theorem aiq {u:HO} (ok:HOk P w H h) (e:Rd H a u):qh P w H h a u:=e.ok ok
theorem ZX {kvs:List (Key × V)} (ok:HOk P w H h) (e:Rd H a (.dK kvs)):kvs.length<=sizeLine/\(a == sysModules)=false/\∃ vs,KV kvs vs/\h.DictOf (jN P w) a vs:=
 show qh P w H h a (.dK kvs) from aiq ok e
theorem aka {kvs:List (Key × V)} (ok:HOk P w H h) (e:H a=some (.dK kvs)):kvs.length<=sizeLine/\(a == sysModules)=false/\∃ vs,KV kvs vs/\h.DictOf (jN P w) a vs:=ZX ok (.inl e)
theorem ZY {ks:List Key} (ok:HOk P w H h) (e:H a=some (.tup (ks.map kV))):(tupleKind (jN P w)).is h ks a:=by
 obtain ⟨_,its,r,o,h1,h2,n,h3⟩:=(show qh P w H h a (.tup (ks.map kV)) from ok a _ e)
 exact ⟨o,its.toArray,n,h1,h2,h3,by simpa using aaF r⟩
theorem aaG {kvs:List (List Key × V)} (ok:HOk P w H h) (e:Rd H a (.dT kvs)):kvs.length<=sizeLine/\(a == sysModules)=false/\
  ∃ xs,KT H kvs xs/\h.DictOfH (tupleKind (jN P w)) a xs:=by
 obtain ⟨z,y,xs,r,o,es,ep,h1,h2,h3,h4,h5⟩:=(show qh P w H h a (.dT kvs) from aiq ok e)
 refine ⟨z,y,xs,r,o,es,ep,h1,h2,h3,h4,fun x hx=>?_,h5⟩
 have all:∀ {l:List (List Key × V)} {m:List (List Key × Addr × Value)},KT H l m->∀ x ∈ m,(tupleKind (jN P w)).is h x.1 x.2.1:=by
  intro l m q
  induction q with
  | nil=>intro x hx; exact nomatch hx
  | @cons p q ps qs hq t ih=>
   intro x hx
   rcases List.mem_cons.mp hx with e | hx
   ·subst e
    exact ZY ok (by rw [←hq.1]; exact hq.2.1)
   ·exact ih x hx
 exact all r x hx
theorem akb {kvs:List (List Key × V)} (ok:HOk P w H h) (e:H a=some (.dT kvs)):kvs.length<=sizeLine/\(a == sysModules)=false/\
  ∃ xs,KT H kvs xs/\h.DictOfH (tupleKind (jN P w)) a xs:=aaG ok (.inl e)
end
noncomputable def Zw (H:Hp) (a:Addr) (y:V) (r:Option V):Prop:=
 (∃ kvs k,Rd H a (.dK kvs)/\y=kV k/\r=zT kvs k) ∨ ∃ kvs k b,Rd H a (.dT kvs)/\y= .ref b/\H b=some (.tup (k.map kV))/\r=zT kvs k
noncomputable def aeb (H:Hp) (a:Addr) (y v:V) (H':Hp):Prop:=
 (∃ kvs k,H a=some (.dK kvs)/\y=kV k/\kvs.length < sizeLine/\H'=upd H a (.dK (JN kvs k v))) ∨
 ∃ kvs k b,H a=some (.dT kvs)/\y= .ref b/\H b=some (.tup (k.map kV))/\kvs.length < sizeLine/\H'=upd H a (.dT (JN kvs k v))
theorem Zw.k {H:Hp}{a:Addr}{kvs:List (Key × V)}{k:Key} (e:H a=some (.dK kvs)):Zw H a (kV k) (zT kvs k):= .inl ⟨kvs,k,.inl e,rfl,rfl⟩
theorem Zw.t {H:Hp}{a b:Addr}{kvs:List (List Key × V)}{k:List Key} (e:H a=some (.dT kvs)) (eb:H b=some (.tup (k.map kV))):Zw H a (.ref b) (zT kvs k):= .inr ⟨kvs,k,b,.inl e,rfl,eb,rfl⟩
theorem aeb.k {H:Hp}{a:Addr}{kvs:List (Key × V)}{k:Key}{v:V} (e:H a=some (.dK kvs)) (hl:kvs.length < sizeLine):aeb H a (kV k) v (upd H a (.dK (JN kvs k v))):= .inl ⟨kvs,k,e,rfl,hl,rfl⟩
theorem aeb.t {H:Hp}{a b:Addr}{kvs:List (List Key × V)}{k:List Key}{v:V} (e:H a=some (.dT kvs)) (eb:H b=some (.tup (k.map kV))) (hl:kvs.length < sizeLine):
  aeb H a (.ref b) v (upd H a (.dT (JN kvs k v))):= .inr ⟨kvs,k,b,e,rfl,eb,hl,rfl⟩
section
variable {X:Cx}{pins:List (Addr × Obj)}{σ:St}{H:Hp}{s:Shared}{a:Addr}{y v:V}{u r:Value}{o:Option V}{A:Around}{E:Value->Shared->Prop}
theorem Inv.big (I:Inv X pins σ H s):sysModules < s.heap.objs.size:=by
 have h:mainGlobals < s.heap.objs.size:=(I.mod.glob.keeps I.bk).lt
 exact Nat.lt_trans (by decide) h
theorem aec {Q:Value->Shared->Prop} (hu:A.units+1 < cLine) (I:Inv X pins σ H s) (g:Zw H a y (some v)) (ry:jy y u) (h:∀ w' s',Inv X pins σ H s'->jy v w'->Q w' s'):
  wpAny (model X.prog X.w) A (getItem (.ref a) u) Q E s:=by
 rcases g with ⟨kvs,k,e,ey,l⟩ | ⟨kvs,k,b,e,ey,eb,l⟩
 ·subst ey
  obtain ⟨z,hd,vs,rel,dd⟩:=ZX I.hok e
  obtain ⟨w',hw,rw'⟩:=Zt.some_of (v:=v) (o:=valueAt vs k) (by rw [l]; exact rel.val k)
  exact wpAny_getItem_of (abX ry) dd.mapOf hw (h w' _ (I.tok _) rw')
 ·subst ey
  cases (show u=Value.ref b from ry)
  obtain ⟨z,hd,xs,rel,dd⟩:=aaG I.hok e
  obtain ⟨w',hw,rw'⟩:=Zt.some_of (v:=v) (o:=(atKey xs k).map (·.2)) (by rw [l]; exact rel.val k)
  obtain ⟨p,hp,hp2⟩:=Option.map_eq_some_iff.mp hw
  refine wpAny_getItem_heap (tupleKind_room_in1 hu) (ZY I.hok eb) dd hp ?_
  rw [hp2]
  exact h w' _ (I.tok _) rw'
theorem ak6 {Q:Value->Shared->Prop} (hu:A.units+1 < cLine) (I:Inv X pins σ H s) (g:Zw H a y o) (ry:jy y u) (h:∀ s',Inv X pins σ H s'->Q (.bool o.isSome) s'):
  wpAny (model X.prog X.w) A (compareOp .In u (.ref a)) Q E s:=by
 rcases g with ⟨kvs,k,e,ey,l⟩ | ⟨kvs,k,b,e,ey,eb,l⟩
 ·subst ey
  obtain ⟨z,hd,vs,rel,dd⟩:=ZX I.hok e
  refine wpAny_in_of (abX ry) hd dd.mapOf ?_
  rw [←(rel.val k).isSome_eq,←l]
  exact h _ (I.tok _)
 ·subst ey
  cases (show u=Value.ref b from ry)
  obtain ⟨z,hd,xs,rel,dd⟩:=aaG I.hok e
  refine wpAny_in_heap (tupleKind_room_in1 hu) (ZY I.hok eb) hd dd ?_
  have q:=(rel.val k).isSome_eq
  rw [Option.isSome_map] at q
  rw [←q,←l]
  exact h _ (I.tok _)
theorem adB {h':Heap}{t':Nat}{ob:HO} (I:Inv X pins σ H s) (mu:Mut (H a)) (hs:Heap.SameBut a s.heap h') (he:∃ q,h'.get? a=some q) (new:qh X.prog X.w (upd H a ob) h' a ob):
  Inv X pins σ (upd H a ob) { s with heap:=h',toks:=t' }:=
 I.write (x:=a) (e:=a) mu (.inl rfl) (fun b q hb z=>(hs.2 b hb).trans z) he new
theorem aiW {P:Program}{w:World}{H':Hp}{h':Heap}{kvs:List (Key × V)}{vs:List (Key × Value)} (z:kvs.length<=sizeLine) (hd:(a == sysModules)=false) (rel:KV kvs vs) (dd:h'.DictOf (jN P w) a vs):
  qh P w H' h' a (.dK kvs):=⟨z,hd,vs,rel,dd⟩
theorem aed {H':Hp}{Q:Unit->Shared->Prop} (hu:A.units+1 < cLine) (I:Inv X pins σ H s) (g:aeb H a y v H') (ry:jy y u) (rv:jy v r) (h:∀ s',Inv X pins σ H' s'->Q () s'):
  wpAny (model X.prog X.w) A (setItem (.ref a) u r) Q E s:=by
 rcases g with ⟨kvs,k,e,ey,l,eH⟩ | ⟨kvs,k,b,e,ey,eb,l,eH⟩
 ·subst ey eH
  obtain ⟨z,hd,vs,rel,dd⟩:=aka I.hok e
  have hz:vs.length<=sizeLine:=by rw [←rel.length]; exact z
  have hl:(JN kvs k v).length<=sizeLine:=by have:=Zl kvs k v; omega
  refine wpAny_setItem_pairs (hsz:=hz) (abX ry) dd fun h' dd' hs=>h _ ?_
  have he:∃ q,h'.get? a=some q:=let ⟨q,_,_,hq,_⟩:=dd'; ⟨q,hq⟩
  exact adB I (by rw [e]; exact True.intro) hs he (aiW hl hd (rel.put k rv) dd')
 ·subst ey eH
  cases (show u=Value.ref b from ry)
  obtain ⟨z,hd,xs,rel,dd⟩:=akb I.hok e
  have hz:xs.length<=sizeLine:=by rw [←Paired.length rel]; exact z
  have hl:(JN kvs k v).length<=sizeLine:=by have:=Zl kvs k v; omega
  refine wpAny_setItem_heap (hsz:=hz) (tupleKind_room_in1 hu) (ZY I.hok eb) dd fun h' dd' hs=>h _ ?_
  obtain ⟨q,es,ep,hq,h2,h3,h4,_,h5⟩:=dd'
  refine adB I (by rw [e]; exact True.intro) hs ⟨q,hq⟩ ⟨hl,hd,_,(rel.put k eb rv).keeps fun c ys ec=>?_,q,es,ep,hq,h2,h3,h4,h5⟩
  rw [jl (ajN ec e (fun z=>nomatch z))]
  exact ec
end
section
variable {X:Cx}{pins:List (Addr × Obj)}{σ:St}{H:Hp}{s:Shared}{a:Addr}{kvs:List (Key × V)}{k:Key}{u:Value}{A:Around}{E:Value->Shared->Prop}
end
noncomputable def aiX (i:Expr):Prop:=∀ ov iv,subscripted i false ov iv=operate [ov,iv] (getItem ov iv)
theorem ag6 {prog:Program}{w:World}{A:Around}{E:Value->Shared->Prop}{s:Shared}{env:Env}{value slice:Expr}{pos:Pos}{T id:String}{Q:Value->Shared->Prop}
  (hl:typeLookup (.type T) "__getitem__"=pure (some (.builtin id))) (hs:aiX slice)
  (h:wpAny (model prog w) A (eval value env) (fun o s₁=>wpAny (model prog w) A (eval slice env) (fun i s₂=>s₂.TypeIs o T/\wpAny (model prog w) A (getItem o i) Q E s₂) E s₁) E s):
  wpAny (model prog w) A (eval (.Subscript value slice pos) env) Q E s:=by
 refine Subscript_ (wpAny_mono h (fun o s₁ h₁=>wpAny_mono h₁ (fun i s₂ h₂=>?_) fun _ _ x=>x) fun _ _ x=>x)
 obtain ⟨hT,h₂⟩:=h₂
 unfold subscriptTail
 refine wpAny_bind ?_
 rw [getitemInPython_of_ne hT.not_modules]
 refine wpAny_bind (wpAny_specialOf hT hl ?_)
 have fin:wpAny (model prog w) A (subscripted slice false o i) (fun r s₃=>wpAny (model prog w) A (letTemporaryGo value o r >>= fun _=>pure r) Q E s₃) E s₂:=by
  rw [hs o i]
  exact wpAny_operating (wpAny_mono h₂ (fun r s₃ h₃=>wpAny_bind (wpAny_letTemporaryGo (wpAny_pure h₃))) fun _ _ x=>x)
 first
  | exact wpAny_pure (wpAny_bind fin)
  | exact wpAny_bind (wpAny_pure (wpAny_bind fin))
  | exact wpAny_bind fin
theorem abY {X:Cx}{pins:List (Addr × Obj)}{σ:St}{H:Hp}{s:Shared}{a:Addr}{y:V}{o:Option V} (I:Inv X pins σ H s) (g:Zw H a y o):s.TypeIs (.ref a) "dict":=by
 rcases g with ⟨kvs,k,e,_,_⟩ | ⟨kvs,k,b,e,_,_,_⟩
 ·obtain ⟨_,_,vs,_,dd⟩:=ZX I.hok e
  exact dd.typeIs
 ·obtain ⟨_,_,xs,_,dd⟩:=aaG I.hok e
  exact dd.typeIs
noncomputable def akc (td ty:TE):TE:=fun σ H Q=>td σ H fun x H1=>ty σ H1 fun y H2=>∃ a v,x= .ref a/\Zw H2 a y (some v)/\Q v H2
noncomputable def ak7 (ty td:TE):TE:=fun σ H Q=>ty σ H fun y H1=>td σ H1 fun x H2=>∃ a o,x= .ref a/\Zw H2 a y o/\Q (.bl o.isSome) H2
section
variable {X:Cx}{o i e value:Expr}{pos pos' tpos:Pos}{td ty tv:TE}
theorem ag7 (hu:X.A.units+1 < cLine) (ho:PE X o td) (hi:PE X i ty) (hs:aiX i):PE X (.Subscript o i pos) (akc td ty):=by
 intro pins s σ H Q I h
 refine ag6 PySem.F.slot_dict_getitem.lookup hs (thn (ho pins s σ H _ I h) fun u s1 ⟨x,H1,I1,rx,q1⟩=>thn (hi pins s1 σ H1 _ I1 q1) fun iv s2 ⟨y,H2,I2,ry,a,v,ex,g,q2⟩=>?_)
 subst ex
 obtain rfl:u=Value.ref a:=rx
 exact ⟨abY I2 g,aec hu I2 g ry fun w' s3 I3 rw'=>⟨v,H2,I3,rw',q2⟩⟩
theorem aiY (hu:X.A.units+1 < cLine) (hi:PE X i ty) (ho:PE X o td):PC X .In i o (ak7 ty td):=by
 intro pins s σ H Q I h
 refine thn (hi pins s σ H _ I h) fun iv s1 ⟨y,H1,I1,ry,q1⟩=>thn (ho pins s1 σ H1 _ I1 q1) fun u s2 ⟨x,H2,I2,rx,a,ov,ex,g,q2⟩=>?_
 subst ex
 obtain rfl:u=Value.ref a:=rx
 exact ak6 hu I2 g ry fun s3 I3=>⟨.bl ov.isSome,H2,I3,rfl,q2⟩
end
theorem afj {P:Program}{w:World}{H:Hp} (h:Heap) (hb:sysModules < h.objs.size):qh P w H (h.push { cls:= .type "dict",data:= .dict #[] }) h.objs.size (.dK []):=
 ⟨Nat.zero_le _,beq_eq_false_iff_ne.mpr (Ne.symm (Nat.ne_of_lt hb)),[],.nil,Heap.DictOf.new h⟩
noncomputable def aiZ:TE:=fun _ H Q=>∀ p,H p=none->Q (.ref p) (upd H p (.dK []))
section
variable {X:Cx}{pos:Pos}
theorem afk:PE X (.Dict [] [] pos) aiZ:=fun pins s σ H Q I h=>
 wpAny_Dict_empty ⟨.ref s.heap.objs.size,_,I.laid (a:=s.heap.objs.size) (o:= .dK []) (t':=s.toks) (fun _ _ q=>Heap.get?_push_of_some _ q) (Nat.le_refl _) (afj s.heap I.big),rfl,h _ (I.hok.fresh (Nat.le_refl _))⟩
end
structure M1 (X:Cx) (o:Expr) (m:Str) (apos:Pos) (e:Expr) (cpos:Pos):Prop where
 base:attributeBase o m X.env (eval o X.env)=eval o X.env
 few:((backTo cpos (starEach [e] X.env)).all (fun x=>!x.1) && (backToKw cpos (keywordEach [] X.env)).all (fun x=>x.1.isSome)
  && decide (([e]:List Expr).length+([]:List Keyword).length+(if ([]:List Keyword).isEmpty then 0 else 1) < 30))=true
 line:(apos.endLine == cpos.line)=true
 trees:backTo cpos (starEach [e] X.env)=[(false,eval e X.env)]
structure M2 (X:Cx) (o:Expr) (m:Str) (apos:Pos) (e f:Expr) (cpos:Pos):Prop where
 base:attributeBase o m X.env (eval o X.env)=eval o X.env
 few:((backTo cpos (starEach [e,f] X.env)).all (fun x=>!x.1) && (backToKw cpos (keywordEach [] X.env)).all (fun x=>x.1.isSome)
  && decide (([e,f]:List Expr).length+([]:List Keyword).length+(if ([]:List Keyword).isEmpty then 0 else 1) < 30))=true
 line:(apos.endLine == cpos.line)=true
 trees:backTo cpos (starEach [e,f] X.env)=[(false,eval e X.env),(false,eval f X.env)]
noncomputable def IsD (H:Hp) (a:Addr):Prop:=(∃ kvs,Rd H a (.dK kvs)) ∨ ∃ kvs,Rd H a (.dT kvs)
theorem ai0 {X:Cx}{pins:List (Addr × Obj)}{σ:St}{H:Hp}{s:Shared}{a:Addr} (I:Inv X pins σ H s) (d:IsD H a):
  s.TypeIs (.ref a) "dict"/\(∀ b,Value.ref a= .ref b->∃ ob,s.heap.get? b=some ob/\ob.dict=none)/\(a == sysModules)=false:=by
 rcases d with ⟨kvs,e⟩ | ⟨kvs,e⟩
 ·obtain ⟨_,hd,vs,_,dd⟩:=ZX I.hok e
  refine ⟨dd.typeIs,fun b q=>?_,hd⟩
  cases q
  obtain ⟨ob,_,_,h1,h2,_⟩:=dd
  exact ⟨ob,h1,h2.2.1⟩
 ·obtain ⟨_,hd,xs,_,dd⟩:=aaG I.hok e
  refine ⟨dd.typeIs,fun b q=>?_,hd⟩
  cases q
  obtain ⟨ob,_,_,h1,h2,_⟩:=dd
  exact ⟨ob,h1,h2.2.1⟩
section
variable {X:Cx}{pins:List (Addr × Obj)}{σ:St}{H:Hp}{s:Shared}{a:Addr}{y d:V}{u r:Value}{o:Option V}{A:Around}{E:Value->Shared->Prop}
theorem ai1 {Q:Value->Shared->Prop} (hu:A.units+1 < cLine) (I:Inv X pins σ H s) (g:Zw H a y o) (ry:jy y u) (rd:jy d r) (h:∀ w' s',Inv X pins σ H s'->jy (o.getD d) w'->Q w' s'):
  wpAny (model X.prog X.w) A (call (.builtin "dict.get") [.ref a,u,r]) Q E s:=by
 rcases g with ⟨kvs,k,e,ey,l⟩ | ⟨kvs,k,b,e,ey,eb,l⟩
 ·subst ey
  obtain ⟨z,hd,vs,rel,dd⟩:=ZX I.hok e
  refine call_meetsIn PySem.F.slot_dict_get dd.typeIs PySem.F.entry_dict_get (PySem.F.args_dict_get_3 _ _ _) (meets_dict_get_default (jN X.prog X.w) a (abX ry) hd r) ⟨_,dd.mapOf,h _ _ (I.tok _) ?_⟩
  rw [l]
  exact (rel.val k).getD rd
 ·subst ey
  cases (show u=Value.ref b from ry)
  obtain ⟨z,hd,xs,rel,dd⟩:=aaG I.hok e
  refine call_meetsIn PySem.F.slot_dict_get dd.typeIs PySem.F.entry_dict_get (PySem.F.args_dict_get_3 _ _ _) (meetsH_dict_get_default (tupleKind (jN X.prog X.w)) a b hd r) ⟨tupleKind_room_in1 hu,k,xs,ZY I.hok eb,dd,h _ _ (I.tok _) ?_⟩
  rw [l]
  exact (rel.val k).getD rd
end
noncomputable def ai2 (td ty tx:TE):TE:=fun σ H Q=>td σ H fun x H1=>∃ a,x= .ref a/\IsD H1 a/\ty σ H1 fun y H2=>tx σ H2 fun z H3=>∃ o,Zw H3 a y o/\Q (o.getD z) H3
section
variable {X:Cx}{o e f:Expr}{apos cpos:Pos}{td ty tx:TE}
theorem afl (hu:X.A.units+1 < cLine) (ho:PE X o td) (he:PE X e ty) (hf:PE X f tx) (m:M2 X o "get" apos e f cpos):PE X (.Call (.Attribute o "get" apos) [e,f] [] cpos) (ai2 td ty tx):=by
 intro pins s σ H Q I h
 refine wpAny_Call_method m.base m.few m.line PySem.F.plainAttrs_dict PySem.F.slot_dict_get PySem.F.type_dict_get (thn (ho pins s σ H _ I h) fun u s1 ⟨x,H1,I1,rx,a,ex,d,q1⟩=>?_)
 subst ex
 obtain rfl:u=Value.ref a:=rx
 obtain ⟨t1,t2,_⟩:=ai0 I1 d
 refine ⟨t1,t2,?_⟩
 rw [m.trees]
 refine Calls.callWith_builtin rfl (Calls.evalArgs_plain (Calls.spliced_cons (thn (he pins s1 σ H1 _ I1 q1) fun iv s2 ⟨y,H2,I2,ry,q2⟩=>
  Calls.spliced_cons (thn (hf pins s2 σ H2 _ I2 q2) fun fv s3 ⟨z,H3,I3,rz,ov,g,q3⟩=>Calls.spliced_nil ?_))))
 exact ai1 hu I3 g ry rz fun w' s4 I4 rw'=>⟨_,H3,I4,rw',q3⟩
end
section
variable {X:Cx}{pins:List (Addr × Obj)}{σ:St}{H:Hp}{s:Shared}{a:Addr}{kvs:List (Key × V)}{A:Around}{E:Value->Shared->Prop}
end
section
variable {X:Cx}{pins:List (Addr × Obj)}{σ:St}{H:Hp}{s:Shared}{a:Addr}{y:V}{u:Value}{A:Around}{E:Value->Shared->Prop}
end
end L2
namespace L2
open PySem PySem.Spec PyProof.Rows
section
variable {X:Cx}
end
section
variable {κ:Type} [DecidableEq κ]
end
end L2
end
section
namespace BX
open PySem PySem.Spec L2
open PyProof.Rows hiding St
noncomputable abbrev NoX:Value->Shared->Prop:=fun _ _=>False
noncomputable def adC (ts:List Expr) (en:Env):Sem Bool:=
 forIn ts true fun c r=>if r=true then do let ok ←isTrue c en (eval c en); pure (ForInStep.yield ok) else pure (ForInStep.yield r)
section
variable {prog:Program}{w:World}{A:Around}{s:Shared}{R:Result->Shared->Prop}
theorem aee {el tg src:Expr}{ts:List Expr}{sc:Scope}{ps:Pos}{it acc:Value}{en:Env} (J:Nat->Shared->Prop)
  (turn:∀ n s,J n s->wpAny (model prog w) A (pyNext it) (fun r s1=>match r with
   | none=>R (.ok .next) s1
   | some v=>wpAny (model prog w) A (letOwnedTupleGo tg it v) (fun _ sg=>wpAny (model prog w) A (assign tg en v) (fun _ s2=>
     wpAny (model prog w) A (adC ts en) (fun ok s3=>
      if ok=true then wpAny (model prog w) A (eval el en) (fun y s4=>
       wpAny (model prog w) A (call (.builtin "list.append") [acc,y]) (fun _ s5=>∃ m,m < n/\J m s5) NoX s4) NoX s3
      else ∃ m,m < n/\J m s3) NoX s2) NoX sg) NoX s1) NoX s)
  (n:Nat) (h:J n s):
  codeAny (model prog w) A (.compLoop (.ListComp el [⟨tg,src,ts,0⟩] sc ps) 0 it acc en) R s:=by
 refine codeAny_loop rfl J (fun n s hJ=>?_) n h
 show wpAny _ A
  ((compTurn (.ListComp el [⟨tg,src,ts,0⟩] sc ps) 0 it acc en).onRaise
   (fun x=>do noteFrame x en; theTreesLotGoes x)) _ _ s
 refine wpAny_noted ?_
 rw [compTurn_list]
 have no:∀ {E:Value->Shared->Prop} (e:Value) (s':Shared),NoX e s'->E e s':=fun _ _ z=>z.elim
 refine wpAny_bind (wpAny_standAt (wpAny_bind (wpAny_mono (turn n s hJ) (fun r s1 h1=>?_) no)))
 cases r with
 | none=>exact wpAny_pure h1
 | some v=>
  refine wpAny_bind (wpAny_mono h1 (fun _ sg hg=>?_) no)
  refine wpAny_bind (wpAny_mono hg (fun _ s2 h2=>?_) no)
  refine wpAny_bind (wpAny_mono h2 (fun ok s3 h3=>?_) no)
  cases ok with
  | false=>exact wpAny_pure ⟨rfl,h3⟩
  | true=>
   refine wpAny_bind (wpAny_bind (wpAny_mono h3 (fun y s4 h4=>?_) no))
   exact wpAny_bind (wpAny_mono h4 (fun _ s5 h5=>wpAny_pure (wpAny_pure ⟨rfl,h5⟩)) no)
end
noncomputable def JQ (en:Env):List (Str × NameKind)->List (Str × Addr)->List (Str × Addr)
 | [],cs=>cs
 | (n,k)::r,cs=>JQ en r (if k == .free then (n,(en.cells.lookup n).getD 0)::cs else cs)
theorem ag8 (sc:Scope) (en:Env) (h:∀ x ∈ sc.names,x.2= .free->∃ c,en.cells.lookup x.1=some c):closureFor sc en=pure (JQ en sc.names []):=by
 have go:∀ (l:List (Str × NameKind)) (cs:List (Str × Addr)),(∀ x ∈ l,x.2= .free->∃ c,en.cells.lookup x.1=some c)->
   (forIn l cs (fun (x:Str × NameKind) (r:List (Str × Addr))=>(do
    if x.2 == .free then do
     let c ←cellOf en x.1
     pure (ForInStep.yield ((x.1,c)::r))
    else pure (ForInStep.yield r):Sem (ForInStep (List (Str × Addr))))):Sem _)=pure (JQ en l cs):=by
  intro l
  induction l with
  | nil=>intro cs _; rfl
  | cons x l ih=>
   intro cs hl
   obtain ⟨n,k⟩:=x
   rw [List.forIn_cons]
   by_cases hk:(k == NameKind.free)=true
   ·obtain ⟨c,e⟩:=hl (n,k) List.mem_cons_self (by simpa using hk)
    have e':en.cells.lookup n=some c:=e
    simp only [hk,zzM,cellOf,e',pure_bind,JQ,Option.getD_some]
    exact ih _ fun y hy=>hl y (List.mem_cons_of_mem _ hy)
   ·simp only [hk,pure_bind,JQ,zzL,zzN]
    exact ih _ fun y hy=>hl y (List.mem_cons_of_mem _ hy)
 have:=go sc.names [] h
 unfold closureFor
 rw [←this]
 first
  | (simp only [bind_pure_comp,id_map',map_pure]; done)
  | (simp only [bind_pure_comp,id_map',map_pure]; exact bind_pure _)
theorem aaH (en:Env):∀ (l:List (Str × NameKind)) (cs:List (Str × Addr)),(∀ x ∈ l,x.2= .free->∃ c,en.cells.lookup x.1=some c)->(∀ p ∈ cs,en.cells.lookup p.1=some p.2)->
  ∀ p ∈ JQ en l cs,en.cells.lookup p.1=some p.2
 | [],_,_,h,p,hp=>h p hp
 | (n,k)::r,cs,hl,h,p,hp=>by
  refine aaH en r _ (fun y hy=>hl y (List.mem_cons_of_mem _ hy)) (fun q hq=>?_) p hp
  by_cases hk:(k == NameKind.free)=true
  ·rw [if_pos hk] at hq
   rcases List.mem_cons.mp hq with rfl | hq
   ·obtain ⟨c,e⟩:=hl (n,k) List.mem_cons_self (by simpa using hk)
    have e':en.cells.lookup n=some c:=e
    show en.cells.lookup n=some ((en.cells.lookup n).getD 0)
    rw [e']; rfl
   ·exact h q hq
  ·rw [if_neg hk] at hq
   exact h q hq
theorem Zm (en:Env):∀ (l:List (Str × NameKind)) (cs:List (Str × Addr)) (x:Str),(∃ c,(x,c) ∈ cs)->∃ c,(x,c) ∈ JQ en l cs
 | [],_,_,h=>h
 | (n,k)::r,cs,x,⟨c,h⟩=>by
  refine Zm en r _ x ?_
  by_cases hk:(k == NameKind.free)=true
  ·rw [if_pos hk]; exact ⟨c,List.mem_cons_of_mem _ h⟩
  ·rw [if_neg hk]; exact ⟨c,h⟩
theorem QU (en:Env):∀ (l:List (Str × NameKind)) (cs:List (Str × Addr)) (x:Str),(x,NameKind.free) ∈ l->∃ c,(x,c) ∈ JQ en l cs
 | (n,k)::r,cs,x,h=>by
  rcases List.mem_cons.mp h with e | h
  ·obtain ⟨e1,e2⟩:=Prod.mk.inj e
   subst e1; subst e2
   exact Zm en r _ _ ⟨_,by rw [if_pos (by rfl)]; exact List.mem_cons_self⟩
  ·exact QU en r _ x h
theorem zD {β:Type}:∀ {l:List (Str × β)}{x:Str}{c:β},(x,c) ∈ l->∃ d,l.lookup x=some d
 | (n,k)::r,x,c,h=>by
  by_cases e:x=n
  ·subst e; exact ⟨k,by simp [List.lookup_cons]⟩
  ·have eb:(x == n)=false:=by simpa using e
   rcases List.mem_cons.mp h with z | h
   ·cases z; exact absurd rfl e
   ·obtain ⟨d,hd⟩:=zD h
    exact ⟨d,by simp only [List.lookup_cons,eb]; exact hd⟩
theorem Zn {sc:Scope}{en:Env}{x:Str}{k:NameKind} (h:(x,k) ∈ (relabel sc en).names) (hc:∀ y ∈ sc.names,y.2 ≠ .cell) (hk:k= .cell ∨ k= .free):(x,NameKind.free) ∈ sc.names:=by
 obtain ⟨⟨n,j⟩,hm,e⟩:=List.mem_map.mp h
 by_cases q:(j == NameKind.free && en.scope.kind == .function && en.kindOf n == some .cell)=true
 ·have e1:(n,NameKind.cell)=(x,k):=by simpa only [q,zzM] using e
  cases e1
  have hj:j= .free:=by
   simp only [Bool.and_eq_true] at q
   simpa using q.1.1
  rw [←hj]; exact hm
 ·have e1:(n,j)=(x,k):=by simpa only [q,zzL,zzN] using e
  cases e1
  rcases hk with rfl | rfl
  ·exact absurd rfl (hc _ hm)
  ·exact hm
theorem Qi {en:Env}:∀ {l:List (Str × NameKind)}{x:Str},l.lookup x=some .free->
  (l.map fun (n,k)=>if (k == NameKind.free && en.scope.kind == .function && en.kindOf n == some .cell) then (n,NameKind.cell) else (n,k)).lookup x=some .cell ∨
  (l.map fun (n,k)=>if (k == NameKind.free && en.scope.kind == .function && en.kindOf n == some .cell) then (n,NameKind.cell) else (n,k)).lookup x=some .free
 | (n,k)::r,x,h=>by
  rw [List.map_cons]
  cases hx:x == n with
  | true=>
   simp only [List.lookup_cons,hx] at h
   cases h
   by_cases q:(NameKind.free == NameKind.free && en.scope.kind == .function && en.kindOf n == some .cell)=true
   ·left; simp only [q,zzM,List.lookup_cons,hx]
   ·right; simp only [q,zzL,zzN,List.lookup_cons,hx]
  | false=>
   simp only [List.lookup_cons,hx] at h
   rcases Qi (en:=en) h with g | g
   ·left
    by_cases q:(k == NameKind.free && en.scope.kind == .function && en.kindOf n == some .cell)=true
    ·simp only [q,zzM,List.lookup_cons,hx]; exact g
    ·simp only [q,zzL,zzN,List.lookup_cons,hx]; exact g
   ·right
    by_cases q:(k == NameKind.free && en.scope.kind == .function && en.kindOf n == some .cell)=true
    ·simp only [q,zzM,List.lookup_cons,hx]; exact g
    ·simp only [q,zzL,zzN,List.lookup_cons,hx]; exact g
noncomputable def blk (X:Cx) (N':List Str) (sc:Scope) (cl:List (Str × Addr)) (C:Addr) (s0:Shared) (H0:Hp) (fp:List Addr) (pn:List (Addr × Obj)):Cx:=
 { X with N:=N',s₀:=s0,H₀:=H0,env:=compEnvC sc cl C X.env,outer:=X.stack,ex:=fp,fn:=fun _=>false,pn:=pn,xe:=NoX }
noncomputable def abZ (cap:List (Option Nat)) (σ:St):St:=cap.map fun o=>o.bind fun i=>(σ[i]?).join
noncomputable def PTs (X:Cx) (ts:List Expr) (t:TT):Prop:=
 ∀ (pins:List (Addr × Obj)) (s:Shared) (σ:St) (H:Hp) (Q:Bool->Hp->Prop),Inv X pins σ H s->t σ H Q->wpAny (model X.prog X.w) X.A (adC ts X.env) (TP X pins σ Q) X.xe s
noncomputable def akd:TT:=fun _ H Q=>Q true H
theorem ag9 {X:Cx}:PTs X [] akd:=fun _ _ _ H _ I h=>wpAny_pure ⟨H,I,h⟩
theorem aha {X:Cx}{c:Expr}{t:TT} (h:PT X c t):PTs X [c] t:=fun pins s σ H Q I hq=>wpAny_tests_one (h pins s σ H Q I hq)
structure CompOk (X:Cx) (sc:Scope) (N':List Str) (cap:List (Option Nat)):Prop where
 fr:∀ x ∈ sc.names,x.2= .free->X.env.kindOf x.1=some .cell ∨ X.env.kindOf x.1=some .free
 nc:∀ x ∈ sc.names,x.2 ≠ .cell
 kind:sc.kind= .function
 nm:∀ x ∈ sc.names,x.2= .local->sc.names.lookup x.1=some .local
 len:cap.length=N'.length
 cp:∀ (j i:Nat) (x:Str),N'[j]?=some x->cap[j]?=some (some i)->X.N[i]?=some x/\sc.names.lookup x=some .free
noncomputable def ake (wi:TI) (cap:List (Option Nat)) (g:TG) (tt:TT) (te:TE):TE:=fun σ H Q=>wi σ H fun J H1=>
 ∃ W:Nat->Nat->St->List V->Hp->Prop,(∃ m,W 0 m (abZ cap σ) [] H1)/\∀ i m τ ys H,W i m τ ys H->ys.length < sizeLine/\
  ((J.stop i H/\∀ l,H l=none->Q (.ref l) (upd H l (.lst ys))) ∨
   (J.go i H/\∀ x H',J.yld i H x H'->g x τ H' fun τ2 H2=>tt τ2 H2 fun b H3=>if b=true then te τ2 H3 fun y H4=>∃ m',m' < m/\W (i+1) m' τ2 (ys++[y]) H4 else ∃ m',m' < m/\W (i+1) m' τ2 ys H3))
theorem Inv.track {X:Cx}{pins:List (Addr × Obj)}{σ:St}{H:Hp}{s:Shared}{D:Addr}{o:HO} (I:Inv X pins σ H s) (hn:H D=none) (h1:X.s₀.heap.objs.size<=D) (h2:D ≠ X.env.locals) (h3:∀ x c,X.env.cells.lookup x=some c->c ≠ D)
  (h4:∀ p ∈ X.pn++pins,p.1 ≠ D) (new:qh X.prog X.w (upd H D o) s.heap D o):Inv X pins σ (upd H D o) s:=by
 have nd:∀ b u,H b=some u->b ≠ D:=fun b u e z=>by rw [z,hn] at e; cases e
 have hok:HOk X.prog X.w (upd H D o) s.heap:=fun b u e=>by
  by_cases hb:b=D
  ·subst hb; rw [jp] at e; cases e; exact new
  ·rw [jl hb] at e
   exact (I.hok b u e).stay (fun _ _ _ q=>q) (fun c q=>by rw [jl (nd c _ q)]; exact q) fun c xs q=>by rw [jl (nd c _ q)]; exact q
 refine I.step (h':=s.heap) (g':=s.gens) (d':=s.drawn) (t':=s.toks) (ch:=[D]) (fun b hb=>?_) (fun b o _ _ _ e _=>e) (fun b o _ _ _ e _=>⟨o.slots,e⟩) (fun b o hc _ n=>?_) (fun b o _ e=>⟨o,e⟩) (fun b xs e=>by rw [jl (nd b _ e)]; exact e)
  (fun b ob u e=>by rw [jl (nd b _ e)]; exact e) (fun b ps e=>⟨#[],by rw [jl (nd b _ e),e]; simp⟩) (fun m hm=>hm) hok I.bare
 ·have e:b=D:=by simpa using hb
  subst e
  exact ⟨.inr h1,h2,h3,h4⟩
 ·have e:b ≠ D:=by simpa using hc
  rw [jl e]; exact n
theorem ahb {X : Cx} {el tg src : Expr} {ts : List Expr} {sc : Scope} {ps : Pos} {wi : TI} {g : TG} {tt : TT} {te : TE} {N' : List Str} {cap : List (Option Nat)} (hc : X.calm = true) (hi : PI X tg src wi) (ok : CompOk X sc N' cap)
    (body : ∀ cl C s0 H0 fp pn, PG (blk X N' sc cl C s0 H0 fp pn) tg g /\ PTs (blk X N' sc cl C s0 H0 fp pn) ts tt /\ PE (blk X N' sc cl C s0 H0 fp pn) el te)
    (hs : ∀ x, foldedSetIterable src X.env x = pure x := by intro _; rfl) : PE X (.ListComp el [⟨tg, src, ts, 0⟩] sc ps) (ake wi cap g tt te) := by
  intro pins s σ H Q I h
  have hfr : ∀ x ∈ sc.names, x.2 = .free -> ∃ c, X.env.cells.lookup x.1 = some c := fun x hx e => I.ok.has x.1 (ok.fr x hx e)
  have hcl := ag8 sc X.env hfr
  have clm : ∀ x c, (JQ X.env sc.names []).lookup x = some c -> X.env.cells.lookup x = some c := fun x c e =>
    aaH X.env sc.names [] hfr (fun _ z => nomatch z) (x, c) (PySem.mem_of_lookup e)
  generalize hgl : JQ X.env sc.names [] = cl at hcl clm
  rw [eval_ListComp]
  refine wpAny_comprehension_free (use := none) rfl hs hcl ok.kind ok.nm ?_
  refine thn (hi pins s σ H _ I h) fun v s1 h1 => thn h1 fun itv s2 h2 => ?_
  obtain ⟨it, fp, tn, J, H2, e, I2, T, st2, f2, W, ⟨m0, w0⟩, turn⟩ := h2
  subst e
  refine wpAny_newObj_type (wpAny_newFunctionEnv ok.nc (by intro y hy; simp at hy) (fun h4 hns hsb => ?_) ok.kind)
  dsimp only at hns hsb ⊢
  generalize hH3 : s2.heap.push { cls := .type "list", dict := none, data := .seq ([] : List Value).toArray } = h3 at hns hsb ⊢
  have hC : h3.objs.size = s2.heap.objs.size + 1 := by rw [← hH3, Heap.size_push]
  generalize hCC : h3.objs.size = C at hns hsb hC ⊢
  generalize hDD : s2.heap.objs.size = D at hC ⊢
  have hDC : D ≠ C := by rw [hC]; exact Nat.ne_of_lt (Nat.lt_succ_self _)
  have old : ∀ b o, s2.heap.get? b = some o -> h4.get? b = some o := fun b o e => hsb.extBut b o (by have := Heap.lt_size e; rw [hDD] at this; rw [hC]; exact Nat.ne_of_lt (Nat.lt_succ_of_lt this)) (Heap.get?_push_of_some _ (hH3 ▸ Heap.get?_push_of_some _ e))
  have accO : h4.get? D = some { cls := .type "list", data := .seq ([] : List Value).toArray 0 } := hsb.extBut _ _ hDC (Heap.get?_push_of_some _ (by rw [← hH3, ← hDD]; exact Heap.get?_push_size _ rfl))
  have H2D : H2 D = none := I2.hok.fresh (by rw [hDD]; exact Nat.le_refl _)
  have H2C : H2 C = none := I2.hok.fresh (by rw [hDD, hC]; exact Nat.le_succ _)
  have cellsLt : ∀ x c, X.env.cells.lookup x = some c -> c < D := fun x c e => by
    obtain ⟨v, q⟩ := I2.cell x c e
    rw [← hDD]; exact q.lt
  have pinLt : ∀ p ∈ X.pn ++ pins, p.1 < D := fun p hp => by rw [← hDD]; exact Heap.lt_size (I2.pin p hp).1
  have stkLt : ∀ b ∈ frs X.stack, b < D := fun b hb => by
    obtain ⟨_, o, ho, _⟩ := I2.stack.mem hb
    rw [← hDD]; exact Heap.lt_size ho
  have fpLt : ∀ b ∈ fp, b < D := fun b hb => by
    obtain ⟨o, ho, _⟩ := T.obj _ _ st2 b hb
    rw [← hDD]; exact Heap.lt_size ho
  have ltC : ∀ {b : Addr}, b < D -> b ≠ C := fun hb => by rw [hC]; exact Nat.ne_of_lt (Nat.lt_succ_of_lt hb)
  have locLt : X.env.locals < D := by rw [← hDD]; exact I2.lt
  have hDge : s2.heap.objs.size <= D := by rw [hDD]; exact Nat.le_refl _
  have hCge : s2.heap.objs.size <= C := by rw [hDD, hC]; exact Nat.le_succ _
  have bok : (blk X N' sc cl C s2 H2 fp (X.pn ++ pins)).Ok := by
    refine ⟨I2.ok.mod, ok.kind, I2.ok.glob, I2.ok.blt, hCge, fun x y c e1 e2 => I2.ok.inj x y c (clm x c e1) (clm y c e2), fun x hx => ?_, fun x c z _ => ?_, I2.ok.hd, I2.ok.frames, .inl rfl, fun b hb => ?_, I2.bs, Nat.le_trans I2.ok.bsz I2.sz, fun b o e hb => ?_, fun b hb z => ?_, I2.stack, I2.stkFree⟩
    · have hx' : (relabel sc X.env).names.lookup x = some .cell ∨ (relabel sc X.env).names.lookup x = some .free := hx
      have hm : (x, NameKind.free) ∈ sc.names := by
        rcases hx' with z | z
        · exact Zn (PySem.mem_of_lookup z) ok.nc (.inl rfl)
        · exact Zn (PySem.mem_of_lookup z) ok.nc (.inr rfl)
      obtain ⟨c, hc⟩ := QU X.env sc.names [] x hm
      rw [hgl] at hc
      exact zD hc
    · exact absurd (show false = true from z) Bool.false_ne_true
    · exact ⟨ltC (fpLt b hb), fun x c e => (f2 b hb).2.2.2.2.1 x c (clm x c e)⟩
    · rcases (f2 b hb).2.2.2.1 with z | z
      · exact I2.ok.noex b o e z
      · have := Heap.lt_size e
        exact absurd (Nat.lt_of_lt_of_le this (Nat.le_trans I2.ok.bsz z)) (Nat.lt_irrefl _)
    · rcases List.mem_cons.mp (I2.stkSub b z) with q | q
      · exact (f2 b hb).2.1 q
      · exact (f2 b hb).2.2.1 q
  have pinB : ∀ p ∈ X.pn ++ pins, p.1 ≠ C /\ p.1 ∉ frs X.stack := fun p hp => ⟨ltC (pinLt p hp), fun z => by
    rcases List.mem_cons.mp (I2.stkSub p.1 z) with q | q
    · exact (I2.pin p hp).2.2.1 q
    · exact (I2.pin p hp).2.2.2.1 q⟩
  have I4 : Inv (blk X N' sc cl C s2 H2 fp (X.pn ++ pins)) [] (abZ cap σ) H2 { s2 with heap := h4, toks := s2.toks + ([] : List (Str × Value)).length } := by
    refine ⟨bok, rfl, I2.bare, Un.kept old, ⟨_, hns, fun j x v e1 e2 e3 => ?_⟩, fun x c e => ?_, H2C, fun x c e => I2.freeC x c (clm x c e), fun p hp => ?_, I2.hok.kept old, ?_⟩
    · unfold abZ at e2
      rw [List.getElem?_map] at e2
      cases e4 : cap[j]? with
      | none => rw [e4] at e2; cases e2
      | some o =>
        rw [e4] at e2
        cases o with
        | none => cases e2
        | some i =>
          obtain ⟨hNi, hf⟩ := ok.cp j i x e1 e4
          have e5 : (σ[i]?).join = some v := by
            have := Option.some.inj e2
            simpa using this
          have e6 : σ[i]? = some (some v) := by
            cases e7 : σ[i]? with
            | none => rw [e7] at e5; cases e5
            | some z => rw [e7] at e5; cases z with
              | none => cases e5
              | some z => cases e5; rfl
          have hk := ok.fr (x, .free) (PySem.mem_of_lookup hf) rfl
          obtain ⟨m, hn, hl⟩ := I2.loc
          have hv : Vis X.env.scope x := by
            rcases hk with z | z
            · exact .inr (.inl z)
            · exact .inr (.inr z)
          obtain ⟨u, r, lk⟩ := hl i x v hNi e6 hv
          have cellX : ∃ c, X.env.cells.lookup x = some c /\ s2.heap.IsCell c (some u) := by
            rcases lk with ⟨k1, _⟩ | ⟨_, c, e, z⟩
            · rcases hk with z | z
              · have z' : X.env.kindOf x = some .cell := z
                rw [k1] at z'; cases z'
              · have z' : X.env.kindOf x = some .free := z
                rw [k1] at z'; cases z'
            · exact ⟨c, e, z⟩
          obtain ⟨c, hc1, ob, hc2, hc3⟩ := cellX
          obtain ⟨c', hc'⟩ := QU X.env sc.names [] x (PySem.mem_of_lookup hf)
          rw [hgl] at hc'
          obtain ⟨d, hd⟩ := zD hc'
          have ed : d = c := by
            have := clm x d hd
            rw [hc1] at this; cases this; rfl
          subst ed
          refine ⟨u, r, .inr ⟨?_, d, hd, ob, old _ _ hc2, hc3⟩⟩
          exact Qi hf
    · obtain ⟨v, ob, ho, hd⟩ := I2.cell x c (clm x c e)
      exact ⟨v, ob, old _ _ ho, hd⟩
    · have hp' : p ∈ X.pn ++ pins := by simpa [blk] using hp
      obtain ⟨e1, e2, e3, e4, e5⟩ := I2.pin p hp'
      exact ⟨old _ _ e1, e2, (pinB p hp').1, (pinB p hp').2, e5⟩
    · show (abZ cap σ).length = N'.length
      unfold abZ
      rw [List.length_map]; exact ok.len
  have fpB : ∀ {H' : Hp} {pl : List (Addr × Obj)}, (∀ b ∈ fp, H' b = none) -> (∀ p ∈ pl, p.1 ∉ fp) -> ∀ b ∈ fp, abR (blk X N' sc cl C s2 H2 fp (X.pn ++ pins)) pl H' b := fun {H' pl} hn hpl b hb =>
    ⟨hn b hb, ltC (fpLt b hb), bok.exfs b hb, .inl hb, fun x c e => (f2 b hb).2.2.2.2.1 x c (clm x c e), fun p hp z => by
      rcases List.mem_append.mp (show p ∈ (X.pn ++ pins) ++ pl from hp) with q | q
      · exact (f2 b hb).2.2.2.2.2 p q z
      · exact hpl p q (by rw [z]; exact hb)⟩
  have Dfp : ∀ (o : Obj), ∀ p ∈ [(D, o)], p.1 ∉ fp := fun o p hp z => by
    have e : p = (D, o) := by simpa using hp
    subst e
    exact Nat.lt_irrefl _ (fpLt D z)
  have Dfs : D ∉ frs X.stack := fun z => Nat.lt_irrefl _ (stkLt D z)
  obtain ⟨bG, bT, bE⟩ := body cl C s2 H2 fp (X.pn ++ pins)
  have loop : codeAny (model X.prog X.w) X.A (.compLoop (.ListComp el [⟨tg, src, ts, 0⟩] sc ps) 0 (.ref it) (.ref D) (compEnvC sc cl C X.env)) (compPost (model X.prog X.w) X.A X.xe none (EP X pins σ Q) (.ref D) C)
      { s2 with heap := h4, toks := s2.toks + ([] : List (Str × Value)).length } := by
    refine aee (fun n s' => ∃ i τ ys us k H', Inv (blk X N' sc cl C s2 H2 fp (X.pn ++ pins)) [] τ H' s' /\ tn i s'.heap /\ (∀ b ∈ fp, H' b = none) /\ jw ys us /\ s'.heap.get? D = some { cls := .type "list", data := .seq us.toArray k } /\ H' D = none /\ W i n τ ys H') ?_ m0
      ⟨0, _, [], [], 0, H2, I4, T.keep _ _ _ st2 (fun b _ o e => old b o e), fun b hb => (f2 b hb).1, .nil, accO, H2D, w0⟩
    rintro n s5 ⟨i, τ, ys, us, k, H5, I5, st5, fr5, rv5, ho5, hD5, w5⟩
    obtain ⟨hsz, alt⟩ := turn i n τ ys H5 w5
    have I5p : Inv (blk X N' sc cl C s2 H2 fp (X.pn ++ pins)) [(D, { cls := .type "list", data := .seq us.toArray k })] τ H5 s5 := I5.pins_of fun p hp => by
      have e : p = (D, { cls := .type "list", data := .seq us.toArray k }) := by simpa using hp
      subst e
      exact ⟨ho5, hD5, hDC, Dfs, fun v z => by cases z⟩
    rcases alt with ⟨stop, fin⟩ | ⟨go, step⟩
    · refine thn (T.done (blk X N' sc cl C s2 H2 fp (X.pn ++ pins)) rfl rfl rfl hc i _ s5 τ H5 NoX I5p (fpB fr5 (Dfp _)) st5 stop) fun r s6 ⟨hr, I6⟩ => ?_
      subst hr
      have ho6 := (I6.pin (D, _) (List.mem_append_right _ (List.mem_singleton.mpr rfl))).1
      obtain ⟨m6, hn6, _⟩ := I6.loc
      refine ⟨m6, hn6, fun h7 hs7 => ?_⟩
      have J6 : Inv X pins σ H5 s6 := I2.call' (ch := fp) I6.os I6.base I6.hok I6.bare fun b hb => ⟨(f2 b hb).2.2.2.1, (f2 b hb).2.1, (f2 b hb).2.2.2.2.1, (f2 b hb).2.2.2.2.2⟩
      have H5C : H5 C = none := I6.free
      have cne : ∀ {b : Addr}, b < D -> b ≠ C := ltC
      have J7 : Inv X pins σ H5 { s6 with heap := h7, toks := s6.toks } := J6.turned (it := C) (fun b o hb e => hs7.extBut b o hb e) H5C (Ne.symm (ltC locLt)) (.inr (Nat.le_trans I2.sz hCge)) (fun x c e => ltC (cellsLt x c e)) (fun p hp => ltC (pinLt p hp))
      have ho7 : h7.get? D = some { cls := .type "list", data := .seq us.toArray k } := hs7.extBut D _ hDC ho6
      refine ⟨.ref D, upd H5 D (.lst ys), ?_, rfl, fin D hD5⟩
      exact Inv.track J7 hD5 (Nat.le_trans I2.sz hDge) (Ne.symm (Nat.ne_of_lt locLt)) (fun x c e => Nat.ne_of_lt (cellsLt x c e)) (fun p hp => Nat.ne_of_lt (pinLt p hp)) ⟨Nat.le_of_lt hsz, us, k, rv5, ho7⟩
    · refine thn (T.item (blk X N' sc cl C s2 H2 fp (X.pn ++ pins)) rfl rfl rfl hc i _ s5 τ H5 NoX I5p (fpB fr5 (Dfp _)) st5 go) fun r s6 ⟨u, hr, h6⟩ => ?_
      subst hr
      refine thn h6 fun _ s7 ⟨x, H7, I7, r7, y7, st7, fr7⟩ => ?_
      have I7p := I7.pinned (fpB fr7 (Dfp _)) (T.obj _ _ st7)
      refine thn (bG _ s7 τ H7 x u _ I7p r7 (step x H7 y7)) fun _ s8 ⟨τ8, H8, I8, q8⟩ => ?_
      have back : ∀ {τ9 : St} {H9 : Hp} {s9 : Shared}, Inv (blk X N' sc cl C s2 H2 fp (X.pn ++ pins)) ([(D, { cls := .type "list", data := .seq us.toArray k })] ++ ZS fp s7.heap) τ9 H9 s9 ->
          tn (i + 1) s9.heap /\ (∀ b ∈ fp, H9 b = none) /\ s9.heap.get? D = some { cls := .type "list", data := .seq us.toArray k } /\ H9 D = none := fun {τ9 H9 s9} I9 => by
        have pD := I9.pin (D, { cls := .type "list", data := .seq us.toArray k }) (List.mem_append_right _ (List.mem_append_left _ (List.mem_singleton.mpr rfl)))
        refine ⟨T.keep _ _ _ st7 fun b hb o e => (I9.pin (b, o) (List.mem_append_right _ (List.mem_append_right _ (zR hb e)))).1, fun b hb => ?_, pD.1, pD.2.1⟩
        obtain ⟨o, e, _⟩ := T.obj _ _ st7 b hb
        exact (I9.pin (b, o) (List.mem_append_right _ (List.mem_append_right _ (zR hb e)))).2.1
      have drop : ∀ {τ9 : St} {H9 : Hp} {s9 : Shared} {pl : List (Addr × Obj)}, Inv (blk X N' sc cl C s2 H2 fp (X.pn ++ pins)) pl τ9 H9 s9 -> Inv (blk X N' sc cl C s2 H2 fp (X.pn ++ pins)) [] τ9 H9 s9 := fun I9 => I9.pins_of fun p hp => nomatch hp
      refine thn (bT _ s8 τ8 H8 _ I8 q8) fun b s9 ⟨H9, I9, q9⟩ => ?_
      cases b with
      | false =>
        rw [if_neg Bool.false_ne_true] at q9 ⊢
        obtain ⟨m', hm, w9⟩ := q9
        obtain ⟨t9, f9, o9, d9⟩ := back I9
        exact ⟨m', hm, i + 1, τ8, ys, us, k, H9, drop I9, t9, f9, rv5, o9, d9, w9⟩
      | true =>
        rw [if_pos rfl] at q9 ⊢
        refine thn (bE _ s9 τ8 H9 _ I9 q9) fun y s10 ⟨z, H10, I10, r10, q10⟩ => ?_
        obtain ⟨m', hm, w10⟩ := q10
        obtain ⟨t10, f10, o10, d10⟩ := back I10
        have hl := rv5.length
        refine append_at (hsz := by show us.toArray.size <= sizeLine; rw [List.size_toArray, ← hl]; exact Nat.le_of_lt hsz) o10 fun h11 hs11 hD11 => ?_
        have I11 : Inv (blk X N' sc cl C s2 H2 fp (X.pn ++ pins)) [] τ8 H10 { s10 with heap := h11, toks := s10.toks } := (drop I10).turned (it := D) (fun b o hb e => hs11.extBut b o hb e) d10 hDC (.inr hDge) (fun x c e => Nat.ne_of_lt (cellsLt x c (clm x c e)))
          (fun p hp => by have hp' : p ∈ X.pn ++ pins := by simpa [blk] using hp
                          exact Nat.ne_of_lt (pinLt p hp'))
        refine ⟨m', hm, i + 1, τ8, ys ++ [z], us ++ [y], k + 1, H10, I11, T.keep _ _ _ t10 (fun b hb o e => hs11.extBut b o (Nat.ne_of_lt (fpLt b hb)) e), f10, rv5.append (.cons r10 .nil), ?_, d10, w10⟩
        rw [hD11]
        simp
  refine codeAny_compStart_list loop ?_
  exact T.self _ 0 _ _ _ (T.keep _ _ _ st2 (fun b _ o e => old b o e)) loop
theorem ji.tup {K:PySem.W.Frag}{H H':Hp}{a:Addr}{xs:List V} (e:ji H H') (h:SqT K H a xs):SqT K H' a xs:=by
 rcases h with (h | ⟨o,h⟩) | h
 ·exact .inl (.inl (e _ _ h))
 ·exact .inl (.inr ⟨o,e _ _ h⟩)
 ·exact .inr h
noncomputable def scr (ns:List Int):PyData:= .dict (ns.map fun n=>(.int n,.none))
mutual
noncomputable def Rep (K:PySem.W.Frag) (H:Hp):PyData->V->Prop
 | .none,v=>v= .non
 | .bool b,v=>v= .bl b
 | .int i,v=>v= .int i
 | .str x,v=>v= .str x
 | .tuple ds,v=>∃ a xs,v= .ref a/\SqT K H a xs/\Reps K H ds xs
 | .list ds,v=>∃ a xs,v= .ref a/\H a=some (.lst xs)/\Reps K H ds xs
 | .dict kvs,v=>∃ a,v= .ref a/\((∃ ns:List Int,SqL K H a (List.map V.int ns)/\kvs=ns.map (fun n=>(PyData.int n,PyData.none))) ∨ (∃ ks ob,H a=some (.frz ob (.dK ks))/\RepD K H kvs ks) ∨ (∃ x:Str,kvs=[(.str x,.none)]/\PySem.W.nsIn K mainGlobals x=some (some (.ref a))) ∨ ∃ (x:Str) (C:Addr) (oe:Obj),kvs=[(.str x,.bool true)]/\H a=some (.frz oe (.own a))/\PySem.W.nsIn K mainGlobals x=some (some (.ref C))/\oe.cls= .ref C/\oe.dict=none/\∃ vs,oe.data= .fields vs)
noncomputable def Reps (K:PySem.W.Frag) (H:Hp):List PyData->List V->Prop
 | [],xs=>xs=[]
 | d::ds,xs=>∃ x r,xs=x::r/\Rep K H d x/\Reps K H ds r
noncomputable def RepD (K:PySem.W.Frag) (H:Hp):List (PyData × PyData)->List (Key × V)->Prop
 | [],_=>False
 | (.none,_)::r,ks=>RepM K H r ks
 | _::_,_=>False
noncomputable def RepM (K:PySem.W.Frag) (H:Hp):List (PyData × PyData)->List (Key × V)->Prop
 | [],ks=>ks=[]
 | (k,d)::r,ks=>∃ i x s,k= .int i/\ks=(Sum.inl i,x)::s/\Rep K H d x/\RepM K H r s
end
noncomputable def zi (kvs:List (PyData × PyData)):Bool:=kvs.all fun p=>match p with
 | (.int _,.none)=>true
 | _=>false
theorem aaI (ns:List Int):zi (ns.map fun n=>(PyData.int n,PyData.none))=true:=by
 simp [zi]
theorem RepD.out {K:PySem.W.Frag}{H:Hp}:∀ {kvs:List (PyData × PyData)}{ks:List (Key × V)},RepD K H kvs ks->∃ c r,kvs=(.none,c)::r/\RepM K H r ks
 | [],_,h=>h.elim
 | (.none,c)::r,ks,h=>⟨c,r,rfl,h⟩
 | (.bool _,_)::_,_,h=>h.elim
 | (.int _,_)::_,_,h=>h.elim
 | (.str _,_)::_,_,h=>h.elim
 | (.list _,_)::_,_,h=>h.elim
 | (.tuple _,_)::_,_,h=>h.elim
 | (.dict _,_)::_,_,h=>h.elim
theorem Rep.scrOut {K:PySem.W.Frag}{H:Hp}{kvs:List (PyData × PyData)}{v:V} (h:Rep K H (.dict kvs) v) (hs:zi kvs=true):∃ a ns,v= .ref a/\SqL K H a (List.map V.int ns)/\kvs=ns.map (fun n=>(PyData.int n,PyData.none)):=by
 obtain ⟨a,h1,h2 | ⟨ks,ob,h2,h3⟩ | ⟨x,h2,_⟩ | ⟨x,_,_,h2,_⟩⟩:=h
 ·obtain ⟨ns,q1,q2⟩:=h2; exact ⟨a,ns,h1,q1,q2⟩
 ·obtain ⟨c,r,rfl,_⟩:=h3.out
  simp [zi] at hs
 ·subst h2; simp [zi] at hs
 ·subst h2; simp [zi] at hs
noncomputable def JO (x:Str):PyData:= .dict [(.str x,.bool true)]
noncomputable def fnD (x:Str):PyData:= .dict [(.str x,.none)]
noncomputable def jB (H H':Hp):Prop:=∀ b o,H b=some o->(∀ φ,o ≠ .ext φ)->H' b=some o
theorem ji.e {H H':Hp} (s:ji H H'):jB H H':=fun b o h _=>s b o h
theorem jB.refl (H:Hp):jB H H:=fun _ _ h _=>h
theorem jB.trans {H H1 H2:Hp} (a:jB H H1) (b:jB H1 H2):jB H H2:=fun c o h n=>b c o (a c o h n) n
theorem jB.tup {K:PySem.W.Frag}{H H':Hp}{a:Addr}{xs:List V} (e:jB H H') (h:SqT K H a xs):SqT K H' a xs:=by
 rcases h with (h | ⟨o,h⟩) | h
 ·exact .inl (.inl (e _ _ h fun _ z=>nomatch z))
 ·exact .inl (.inr ⟨o,e _ _ h fun _ z=>nomatch z⟩)
 ·exact .inr h
theorem jB.sql {K:PySem.W.Frag}{H H':Hp}{a:Addr}{xs:List V} (e:jB H H') (h:SqL K H a xs):SqL K H' a xs:=by
 rcases h with (h | ⟨o,h⟩) | h
 ·exact .inl (.inl (e _ _ h fun _ z=>nomatch z))
 ·exact .inl (.inr ⟨o,e _ _ h fun _ z=>nomatch z⟩)
 ·exact .inr h
section
variable {K:PySem.W.Frag}{H H':Hp}
mutual
theorem Rep.mono (e:ji H H'):∀ (d:PyData) (v:V),Rep K H d v->Rep K H' d v
 | .none,v,h=>h
 | .bool _,v,h=>h
 | .int _,v,h=>h
 | .str _,v,h=>h
 | .tuple ds,v,⟨a,xs,h1,h2,h3⟩=>⟨a,xs,h1,ji.tup e h2,Reps.mono e ds xs h3⟩
 | .list ds,v,⟨a,xs,h1,h2,h3⟩=>⟨a,xs,h1,e _ _ h2,Reps.mono e ds xs h3⟩
 | .dict kvs,v,⟨a,h1,h2⟩=>⟨a,h1,h2.imp (fun ⟨ns,q1,q2⟩=>⟨ns,e.seq q1,q2⟩) fun z=>z.imp (fun ⟨ks,ob,q1,q2⟩=>⟨ks,ob,e _ _ q1,RepD.mono e kvs ks q2⟩) fun y=>y.imp id fun ⟨x,C,oe,q1,q2,q3⟩=>⟨x,C,oe,q1,e _ _ q2,q3⟩⟩
theorem Reps.mono (e:ji H H'):∀ (ds:List PyData) (xs:List V),Reps K H ds xs->Reps K H' ds xs
 | [],xs,h=>h
 | d::ds,xs,⟨x,r,h1,h2,h3⟩=>⟨x,r,h1,Rep.mono e d x h2,Reps.mono e ds r h3⟩
theorem RepD.mono (e:ji H H'):∀ (kvs:List (PyData × PyData)) (ks:List (Key × V)),RepD K H kvs ks->RepD K H' kvs ks
 | [],_,h=>h
 | (.none,c)::r,ks,h=>RepM.mono e r ks h
 | (.bool _,_)::_,_,h=>h
 | (.int _,_)::_,_,h=>h
 | (.str _,_)::_,_,h=>h
 | (.list _,_)::_,_,h=>h
 | (.tuple _,_)::_,_,h=>h
 | (.dict _,_)::_,_,h=>h
theorem RepM.mono (e:ji H H'):∀ (kvs:List (PyData × PyData)) (ks:List (Key × V)),RepM K H kvs ks->RepM K H' kvs ks
 | [],_,h=>h
 | (k,d)::r,ks,⟨i,x,s,h1,h2,h3,h4⟩=>⟨i,x,s,h1,h2,Rep.mono e d x h3,RepM.mono e r s h4⟩
end
mutual
theorem Rep.monoE (e:jB H H'):∀ (d:PyData) (v:V),Rep K H d v->Rep K H' d v
 | .none,v,h=>h
 | .bool _,v,h=>h
 | .int _,v,h=>h
 | .str _,v,h=>h
 | .tuple ds,v,⟨a,xs,h1,h2,h3⟩=>⟨a,xs,h1,jB.tup e h2,Reps.monoE e ds xs h3⟩
 | .list ds,v,⟨a,xs,h1,h2,h3⟩=>⟨a,xs,h1,e _ _ h2 (fun _ z=>nomatch z),Reps.monoE e ds xs h3⟩
 | .dict kvs,v,⟨a,h1,h2⟩=>⟨a,h1,h2.imp (fun ⟨ns,q1,q2⟩=>⟨ns,jB.sql e q1,q2⟩) fun z=>z.imp (fun ⟨ks,ob,q1,q2⟩=>⟨ks,ob,e _ _ q1 (fun _ z=>nomatch z),RepD.monoE e kvs ks q2⟩) fun y=>y.imp id fun ⟨x,C,oe,q1,q2,q3⟩=>⟨x,C,oe,q1,e _ _ q2 (fun _ z=>nomatch z),q3⟩⟩
theorem Reps.monoE (e:jB H H'):∀ (ds:List PyData) (xs:List V),Reps K H ds xs->Reps K H' ds xs
 | [],xs,h=>h
 | d::ds,xs,⟨x,r,h1,h2,h3⟩=>⟨x,r,h1,Rep.monoE e d x h2,Reps.monoE e ds r h3⟩
theorem RepD.monoE (e:jB H H'):∀ (kvs:List (PyData × PyData)) (ks:List (Key × V)),RepD K H kvs ks->RepD K H' kvs ks
 | [],_,h=>h
 | (.none,c)::r,ks,h=>RepM.monoE e r ks h
 | (.bool _,_)::_,_,h=>h
 | (.int _,_)::_,_,h=>h
 | (.str _,_)::_,_,h=>h
 | (.list _,_)::_,_,h=>h
 | (.tuple _,_)::_,_,h=>h
 | (.dict _,_)::_,_,h=>h
theorem RepM.monoE (e:jB H H'):∀ (kvs:List (PyData × PyData)) (ks:List (Key × V)),RepM K H kvs ks->RepM K H' kvs ks
 | [],_,h=>h
 | (k,d)::r,ks,⟨i,x,s,h1,h2,h3,h4⟩=>⟨i,x,s,h1,h2,Rep.monoE e d x h3,RepM.monoE e r s h4⟩
end
theorem Reps.length:∀ {ds:List PyData}{xs:List V},Reps K H ds xs->xs.length=ds.length
 | [],xs,h=>by cases h; rfl
 | d::ds,xs,⟨x,r,h1,h2,h3⟩=>by subst h1; simp [Reps.length h3]
theorem Reps.get:∀ {ds:List PyData}{xs:List V}{i:Nat}{d:PyData},Reps K H ds xs->ds[i]?=some d->∃ x,xs[i]?=some x/\Rep K H d x
 | [],xs,i,d,h,e=>by simp at e
 | c::ds,xs,0,d,⟨x,r,h1,h2,h3⟩,e=>by subst h1; simp at e; subst e; exact ⟨x,rfl,h2⟩
 | c::ds,xs,i+1,d,⟨x,r,h1,h2,h3⟩,e=>by
  subst h1
  obtain ⟨y,e1,e2⟩:=Reps.get (i:=i) h3 (by simpa using e)
  exact ⟨y,by simpa using e1,e2⟩
theorem Reps.append:∀ {ds es:List PyData}{xs ys:List V},Reps K H ds xs->Reps K H es ys->Reps K H (ds++es) (xs++ys)
 | [],es,xs,ys,h,g=>by cases h; exact g
 | d::ds,es,xs,ys,⟨x,r,h1,h2,h3⟩,g=>by subst h1; exact ⟨x,r++ys,rfl,h2,Reps.append h3 g⟩
theorem Reps.take:∀ {ds:List PyData}{xs:List V} (n:Nat),Reps K H ds xs->Reps K H (ds.take n) (xs.take n)
 | ds,xs,0,h=>by simp; rfl
 | [],xs,n+1,h=>by cases h; rfl
 | d::ds,xs,n+1,⟨x,r,h1,h2,h3⟩=>by subst h1; exact ⟨x,_,rfl,h2,Reps.take n h3⟩
theorem Reps.drop:∀ {ds:List PyData}{xs:List V} (n:Nat),Reps K H ds xs->Reps K H (ds.drop n) (xs.drop n)
 | ds,xs,0,h=>by simpa using h
 | [],xs,n+1,h=>by cases h; rfl
 | d::ds,xs,n+1,⟨x,r,h1,h2,h3⟩=>by subst h1; simpa using Reps.drop n h3
theorem Reps.ints:∀ {ns:List Int}{xs:List V},Reps K H (ns.map PyData.int) xs->xs=ns.map V.int
 | [],xs,h=>h
 | n::ns,xs,⟨x,r,h1,h2,h3⟩=>by subst h1; cases (show x=V.int n from h2); rw [Reps.ints h3]; rfl
end
section
variable {X:Cx}{pins:List (Addr × Obj)}{σ:St}{H:Hp}{s:Shared}
mutual
theorem j9 (I:Inv X pins σ H s):∀ (d:PyData) (v:V) (u:Value),Rep X.K H d v->jy v u->d.canLay0=true->∃ as,Reads s.heap u d as
 | .none,v,u,h,r,_=>by cases h; cases r; exact ⟨_,.none⟩
 | .bool b,v,u,h,r,_=>by cases h; cases r; exact ⟨_,.bool b⟩
 | .int i,v,u,h,r,_=>by cases h; obtain ⟨t,rfl⟩:=r; exact ⟨_,.int i t⟩
 | .str x,v,u,h,r,_=>by cases h; obtain ⟨t,rfl⟩:=r; exact ⟨_,.str x t⟩
 | .tuple ds,v,u,⟨a,xs,h1,h2,h3⟩,r,hc=>by
  subst h1; cases r
  obtain ⟨its,rv,⟨o,e1,e2,n,e3⟩,_⟩:=I.tuple h2
  obtain ⟨as,ra⟩:=readsAll_of I ds xs its h3 rv (by simpa [PyData.canLay0] using hc)
  exact ⟨as,.tuple e1 e2 e3 (by simpa using ra)⟩
 | .list ds,v,u,⟨a,xs,h1,h2,h3⟩,r,hc=>by
  subst h1; cases r
  obtain ⟨its,rv,⟨o,n,e1,e2,e3,e4⟩,_⟩:=I.list (SqL.of h2)
  obtain ⟨as,ra⟩:=readsAll_of I ds xs its h3 rv (by simpa [PyData.canLay0] using hc)
  exact ⟨a::as,.list e1 e2 e4 (by simpa using ra)⟩
 | .dict kvs,v,u,h,r,hc=>by simp [PyData.canLay0] at hc
theorem readsAll_of (I:Inv X pins σ H s):∀ (ds:List PyData) (xs:List V) (us:List Value),Reps X.K H ds xs->jw xs us->PyData.canLayAll0 ds=true->∃ as,ReadsAll s.heap us ds as
 | [],xs,us,h,r,_=>by cases h; cases r; exact ⟨_,.nil⟩
 | d::ds,xs,us,⟨x,q,h1,h2,h3⟩,r,hc=>by
  subst h1
  cases r with
  | cons r1 r2=>
   have hc':d.canLay0=true/\PyData.canLayAll0 ds=true:=by simpa [PyData.canLayAll0] using hc
   obtain ⟨as,ra⟩:=j9 I d x _ h2 r1 hc'.1
   obtain ⟨bs,rb⟩:=readsAll_of I ds q _ h3 r2 hc'.2
   exact ⟨_,.cons ra rb⟩
end
end
noncomputable abbrev Rho:=List (Option PyData)
structure EnvR (K:PySem.W.Frag) (H:Hp) (ρ:Rho) (σ:St):Prop where
 len:ρ.length=σ.length
 at':∀ (i:Nat) (d:PyData),ρ[i]?=some (some d)->∃ v,σ[i]?=some (some v)/\Rep K H d v
theorem EnvR.mono {K:PySem.W.Frag}{H H':Hp}{ρ:Rho}{σ:St} (e:EnvR K H ρ σ) (h:ji H H'):EnvR K H' ρ σ:=
 ⟨e.len,fun i d q=>let ⟨v,e1,e2⟩:=e.at' i d q; ⟨v,e1,Rep.mono h d v e2⟩⟩
theorem EnvR.set {K:PySem.W.Frag}{H:Hp}{ρ:Rho}{σ:St} (e:EnvR K H ρ σ) {i:Nat}{d:PyData}{v:V} (r:Rep K H d v):EnvR K H (ρ.set i (some d)) (σ.set i (some v)):=by
 refine ⟨by simp [e.len],fun j c q=>?_⟩
 by_cases hj:i=j
 ·subst hj
  rw [List.getElem?_set] at q ⊢
  simp only [zzM] at q ⊢
  by_cases hl:i < ρ.length
  ·rw [if_pos hl] at q
   rw [if_pos (by rw [←e.len]; exact hl)]
   cases q
   exact ⟨v,rfl,r⟩
  ·rw [if_neg hl] at q; cases q
 ·rw [List.getElem?_set_ne hj] at q ⊢
  exact e.at' j c q
noncomputable def lkp (i:Nat) (ρ:Rho):Option PyData:=(ρ[i]?).join
theorem zI {i:Nat}{ρ:Rho}{d:PyData} (h:lkp i ρ=some d):ρ[i]?=some (some d):=by
 unfold lkp at h
 cases e:ρ[i]? with
 | none=>rw [e] at h; cases h
 | some o=>rw [e] at h; cases o with
  | none=>cases h
  | some c=>cases h; rfl
noncomputable def tD (K:PySem.W.Frag) (f:Rho->Option PyData):TE:=fun σ H Q=>∃ ρ d,EnvR K H ρ σ/\f ρ=some d/\∀ v H',ji H H'->Rep K H' d v->Q v H'
@[irreducible] noncomputable def PD (X:Cx) (e:Expr) (f:Rho->Option PyData):Prop:=PE X e (tD X.K f)
noncomputable def tDT (K:PySem.W.Frag) (f:Rho->Option Bool):TT:=fun σ H Q=>∃ ρ b,EnvR K H ρ σ/\f ρ=some b/\∀ H',ji H H'->Q b H'
@[irreducible] noncomputable def PTD (X:Cx) (e:Expr) (f:Rho->Option Bool):Prop:=PT X e (tDT X.K f)
noncomputable def tDA (K:PySem.W.Frag) (f:Rho->Option (List PyData)):TA:=fun σ H Q=>∃ ρ ds,EnvR K H ρ σ/\f ρ=some ds/\∀ vs H',ji H H'->Reps K H' ds vs->Q vs H'
@[irreducible] noncomputable def PAD (X:Cx) (es:List Expr) (f:Rho->Option (List PyData)):Prop:=PA X es (tDA X.K f)
inductive Out where
 | nx (ρ:Rho) | rt (d:PyData) | bk (ρ:Rho) | ct (ρ:Rho)
noncomputable def adD (K:PySem.W.Frag) (D:Ends) (H:Hp):Out->Prop
 | .nx ρ=>∀ σ H',ji H H'->EnvR K H' ρ σ->D.nx σ H'
 | .rt d=>∀ v H',ji H H'->Rep K H' d v->D.rt v H'
 | .bk ρ=>∀ σ H',ji H H'->EnvR K H' ρ σ->D.bk σ H'
 | .ct ρ=>∀ σ H',ji H H'->EnvR K H' ρ σ->D.ct σ H'
theorem adD.mono {K:PySem.W.Frag}{D:Ends}{H H':Hp}{o:Out} (h:adD K D H o) (e:ji H H'):adD K D H' o:=by
 cases o with
 | nx ρ=>exact fun σ H2 e2 r=>h σ H2 (e.trans e2) r
 | rt d=>exact fun v H2 e2 r=>h v H2 (e.trans e2) r
 | bk ρ=>exact fun σ H2 e2 r=>h σ H2 (e.trans e2) r
 | ct ρ=>exact fun σ H2 e2 r=>h σ H2 (e.trans e2) r
noncomputable def tDS (K:PySem.W.Frag) (F:Rho->Option Out):TS:=fun D σ H=>∃ ρ o,EnvR K H ρ σ/\F ρ=some o/\adD K D H o
@[irreducible] noncomputable def PSD (X:Cx) (st:Stmt) (F:Rho->Option Out):Prop:=PS X st (tDS X.K F)
@[irreducible] noncomputable def Jh (X:Cx) (st:List Stmt) (F:Rho->Option Out):Prop:=PSs X st (tDS X.K F)
noncomputable def tDG (K:PySem.W.Frag) (ga:PyData->Rho->Option Rho):TG:=fun v σ H Q=>∃ ρ d ρ',EnvR K H ρ σ/\Rep K H d v/\ga d ρ=some ρ'/\∀ σ' H',ji H H'->EnvR K H' ρ' σ'->Q σ' H'
@[irreducible] noncomputable def PGD (X:Cx) (tg:Expr) (ga:PyData->Rho->Option Rho):Prop:=PG X tg (tDG X.K ga)
section
variable {X:Cx}{e a b c:Expr}{es:List Expr}{fa fb fc:Rho->Option PyData}{pos:Pos}
theorem PE.imp {t t':TE} (h:PE X e t) (hi:∀ σ H Q,t' σ H Q->t σ H Q):PE X e t':=fun pins s σ H Q I q=>h pins s σ H Q I (hi σ H Q q)
theorem PT.imp {t t':TT} (h:PT X e t) (hi:∀ σ H Q,t' σ H Q->t σ H Q):PT X e t':=fun pins s σ H Q I q=>h pins s σ H Q I (hi σ H Q q)
theorem PA.imp {t t':TA} (h:PA X es t) (hi:∀ σ H Q,t' σ H Q->t σ H Q):PA X es t':=fun pos pins s σ H Q I q=>h pos pins s σ H Q I (hi σ H Q q)
theorem PS.imp {st:Stmt}{t t':TS} (h:PS X st t) (hi:∀ D σ H,t' D σ H->t D σ H):PS X st t':=fun pins s σ H D I q=>h pins s σ H D I (hi D σ H q)
theorem PSs.imp {st:List Stmt}{t t':TS} (h:PSs X st t) (hi:∀ D σ H,t' D σ H->t D σ H):PSs X st t':=fun pins s σ H D I q=>h pins s σ H D I (hi D σ H q)
theorem PG.imp {t t':TG} (h:PG X e t) (hi:∀ v σ H Q,t' v σ H Q->t v σ H Q):PG X e t':=fun pins s σ H v u Q I r q=>h pins s σ H v u Q I r (hi v σ H Q q)
theorem jb (i:Nat) {x:Str}{pos:Pos} (hN:X.N[i]?=some x:=by rfl) (hv:Vis X.env.scope x:=by first | exact Or.inl rfl | exact Or.inr (Or.inl rfl) | exact Or.inr (Or.inr rfl)) (hd:(x == ("__debug__":Str))=false:=by decide)
  (hcd:(x == ("__classdict__":Str))=false:=by decide):PD X (.Name x pos) (lkp i):=by
 with_unfolding_all exact (PE.imp (acL hN hv hd hcd) fun σ H Q ⟨ρ,d,e,h,k⟩=>let ⟨v,e1,e2⟩:=e.at' i d (zI h); ⟨v,e1,k v H (ji.refl H) e2⟩)
noncomputable def cst (d:PyData) (_:Rho):Option PyData:=some d
theorem jg {i j pos}:PD X (.Constant (.int i) j pos) (cst (.int i)):=by
 with_unfolding_all exact (PE.imp aa2 fun σ H Q ⟨ρ,d,e,h,k⟩=>by cases h; exact k _ H (ji.refl H) rfl)
theorem qF {i j pos}:PD X (.Constant (.bool i) j pos) (cst (.bool i)):=by
 with_unfolding_all exact (PE.imp ajP fun σ H Q ⟨ρ,d,e,h,k⟩=>by cases h; exact k _ H (ji.refl H) rfl)
theorem QV {j pos}:PD X (.Constant .none j pos) (cst .none):=by
 with_unfolding_all exact (PE.imp acM fun σ H Q ⟨ρ,d,e,h,k⟩=>by cases h; exact k _ H (ji.refl H) rfl)
theorem ZZ {i j pos}:PD X (.Constant (.str i) j pos) (cst (.str i)):=by
 with_unfolding_all exact (PE.imp aeX fun σ H Q ⟨ρ,d,e,h,k⟩=>by cases h; exact k _ H (ji.refl H) rfl)
theorem ahc {x:Str}{v:V}{u:Value}{d:PyData} (hg:Gl X x) (hm:X.mg x=some u) (r:jy v u) (hr:∀ H,Rep X.K H d v) (hd:(x == ("__debug__":Str))=false:=by decide):PD X (.Name x pos) (cst d):=by
 with_unfolding_all exact (PE.imp (ZB hg hm r hd) fun σ H Q ⟨ρ,d',e,h,k⟩=>by cases h; exact k _ H (ji.refl H) (hr H))
noncomputable def op2 (g:PyData->PyData->Option PyData) (fa fb:Rho->Option PyData):Rho->Option PyData:=fun ρ=>(fa ρ).bind fun x=>(fb ρ).bind fun y=>g x y
noncomputable def OpD (X:Cx) (f:Value->Value->Sem Value) (g:PyData->PyData->Option PyData):Prop:=
 ∃ r,OpR X f r/\∀ p q d x y H Q,g p q=some d->Rep X.K H p x->Rep X.K H q y->(∀ v H',ji H H'->Rep X.K H' d v->Q v H')->r x y H Q
theorem ahd {g:PyData->PyData->Option PyData}{K:PySem.W.Frag}{r:R2} (hr:∀ p q d x y H Q,g p q=some d->Rep K H p x->Rep K H q y->(∀ v H',ji H H'->Rep K H' d v->Q v H')->r x y H Q)
  {σ:St} {H:Hp} {Q:VK} (h:tD K (op2 g fa fb) σ H Q):tOp r (tD K fa) (tD K fb) σ H Q:=by
 obtain ⟨ρ,d,e,h,k⟩:=h
 unfold op2 at h
 cases ha:fa ρ with
 | none=>rw [ha] at h; cases h
 | some p=>
  rw [ha] at h
  cases hb:fb ρ with
  | none=>rw [hb] at h; cases h
  | some q=>
   rw [hb] at h
   refine ⟨ρ,p,e,ha,fun x H1 s1 r1=>⟨ρ,q,e.mono s1,hb,fun y H2 s2 r2=>?_⟩⟩
   exact hr p q d x y H2 Q h (Rep.mono s2 p x r1) r2 fun v H' s3 r3=>k v H' (s1.trans (s2.trans s3)) r3
theorem jo {op:Operator}{g:PyData->PyData->Option PyData} (ho:OpD X (binaryOp op) g) (ha:PD X a fa) (hb:PD X b fb):PD X (.BinOp a op b pos) (op2 g fa fb):=by
 with_unfolding_all
  obtain ⟨r,h1,h2⟩:=ho
  exact PE.imp (ail h1 ha hb) fun σ H Q h=>ahd h2 h
theorem acZ {op:CmpOp}{g:PyData->PyData->Option PyData} (ho:OpD X (compareOp op) g) (ha:PD X a fa) (hb:PD X b fb) (hm:behindInMarks op b=false:=by first | exact acQ _ | with_unfolding_all rfl):PD X (.Compare a [op] [b] pos) (op2 g fa fb):=by
 with_unfolding_all
  obtain ⟨r,h1,h2⟩:=ho
  exact PE.imp (agX h1 ha hb hm) fun σ H Q h=>ahd h2 h
noncomputable def asB:PyData->Option Bool
 | .bool b=>some b
 | _=>none
noncomputable def tst (f:Rho->Option PyData):Rho->Option Bool:=fun ρ=>(f ρ).bind asB
theorem zJ {d:PyData}{b:Bool} (h:asB d=some b):d= .bool b:=by
 cases d <;> simp [asB] at h
 rw [h]
theorem jP {op:CmpOp}{g:PyData->PyData->Option PyData} (ho:OpD X (compareOp op) g) (ha:PD X a fa) (hb:PD X b fb) (hm:behindInMarks op b=false:=by first | exact acQ _ | with_unfolding_all rfl):PTD X (.Compare a [op] [b] pos) (tst (op2 g fa fb)):=by
 with_unfolding_all
  obtain ⟨r,h1,h2⟩:=ho
  refine PT.imp (agY h1 ha hb hm) fun σ H Q ⟨ρ,t,e,h,k⟩=>?_
  cases hd:op2 g fa fb ρ with
  | none=>simp [tst,hd] at h
  | some d=>
   have ht:d= .bool t:=zJ (by simpa [tst,hd] using h)
   subst ht
   exact ahd h2 ⟨ρ,_,e,hd,fun v H' s r=>⟨t,r,k H' s⟩⟩
theorem j7 (h:PD X e fa) (he:∀ whole,isTrue e X.env whole=(do let v ←whole; standAt e.pos; holding [v] (truthy v)):=by intro _; rfl):PTD X e (tst fa):=by
 with_unfolding_all
  refine PT.imp (aiB h he) fun σ H Q ⟨ρ,t,e,h,k⟩=>?_
  cases hd:fa ρ with
  | none=>simp [tst,hd] at h
  | some d=>
   have ht:d= .bool t:=zJ (by simpa [tst,hd] using h)
   subst ht
   exact ⟨ρ,_,e,hd,fun v H' s r=>⟨t,r,k H' s⟩⟩
variable {ta tb:Rho->Option Bool}{jO:List Expr}
@[irreducible] noncomputable def PWD (X:Cx) (e:Expr) (f:Rho->Option Bool):Prop:=PW X e (tDT X.K f)
theorem PW.imp {t t':TT} (h:PW X e t) (hi:∀ σ H Q,t' σ H Q->t σ H Q):PW X e t':=fun wh pins s σ H Q I q=>h wh pins s σ H Q I (hi σ H Q q)
noncomputable def aa9 (ta tb:Rho->Option Bool):Rho->Option Bool:=fun ρ=>(ta ρ).bind fun x=>if x=true then tb ρ else some false
noncomputable def orB (ta tb:Rho->Option Bool):Rho->Option Bool:=fun ρ=>(ta ρ).bind fun x=>if x=true then some true else tb ρ
noncomputable def zk (ta:Rho->Option Bool):Rho->Option Bool:=fun ρ=>(ta ρ).map (!·)
theorem afm (ha:PTD X a ta):PWD X (.BoolOp .And [a] pos) ta:=by
 with_unfolding_all exact (agS ha)
theorem zU (ha:PTD X a ta):PWD X (.BoolOp .Or [a] pos) ta:=by
 with_unfolding_all exact (aiC ha)
theorem ahe (ha:PTD X a ta) (hb:PWD X (.BoolOp .And (b::jO) pos) tb):PWD X (.BoolOp .And (a::b::jO) pos) (aa9 ta tb):=by
 with_unfolding_all
  refine PW.imp (aiD ha hb) fun σ H Q ⟨ρ,t,e,h,k⟩=>?_
  cases h1:ta ρ with
  | none=>simp [aa9,h1] at h
  | some x=>
   refine ⟨ρ,x,e,h1,fun H' s=>?_⟩
   cases x with
   | true=>rw [if_pos rfl]; exact ⟨ρ,t,e.mono s,by simpa [aa9,h1] using h,fun H2 s2=>k H2 (s.trans s2)⟩
   | false=>
    rw [if_neg Bool.false_ne_true]
    have:t=false:=by simpa [aa9,h1] using h.symm
    subst this
    exact k H' s
theorem zV (ha:PTD X a ta) (hb:PWD X (.BoolOp .Or (b::jO) pos) tb):PWD X (.BoolOp .Or (a::b::jO) pos) (orB ta tb):=by
 with_unfolding_all
  refine PW.imp (ajQ ha hb) fun σ H Q ⟨ρ,t,e,h,k⟩=>?_
  cases h1:ta ρ with
  | none=>simp [orB,h1] at h
  | some x=>
   refine ⟨ρ,x,e,h1,fun H' s=>?_⟩
   cases x with
   | false=>rw [if_neg Bool.false_ne_true]; exact ⟨ρ,t,e.mono s,by simpa [orB,h1] using h,fun H2 s2=>k H2 (s.trans s2)⟩
   | true=>
    rw [if_pos rfl]
    have:t=true:=by simpa [orB,h1] using h.symm
    subst this
    exact k H' s
theorem zb {op:BoolOp}{l:List Expr} (h:PWD X (.BoolOp op l pos) ta):PTD X (.BoolOp op l pos) ta:=by
 with_unfolding_all exact (h.pt)
theorem jV (ha:PTD X a ta):PTD X (.UnaryOp .Not a pos) (zk ta):=by
 with_unfolding_all
  refine PT.imp (aiE ha) fun σ H Q ⟨ρ,t,e,h,k⟩=>?_
  cases h1:ta ρ with
  | none=>simp [zk,h1] at h
  | some x=>
   have:(!x)=t:=by simpa [zk,h1] using h
   subst this
   exact ⟨ρ,x,e,h1,fun H' s=>k H' s⟩
noncomputable def ifD (tc:Rho->Option Bool) (fa fb:Rho->Option PyData):Rho->Option PyData:=fun ρ=>(tc ρ).bind fun x=>if x=true then fa ρ else fb ρ
theorem akf {tc:Rho->Option Bool} (hc:PTD X c tc) (ha:PD X a fa) (hb:PD X b fb):PD X (.IfExp c a b pos) (ifD tc fa fb):=by
 with_unfolding_all
  refine PE.imp (aeZ hc ha hb) fun σ H Q ⟨ρ,d,e,h,k⟩=>?_
  cases h1:tc ρ with
  | none=>simp [ifD,h1] at h
  | some x=>
   refine ⟨ρ,x,e,h1,fun H' s=>?_⟩
   cases x with
   | true=>rw [if_pos rfl]; exact ⟨ρ,d,e.mono s,by simpa [ifD,h1] using h,fun v H2 s2=>k v H2 (s.trans s2)⟩
   | false=>rw [if_neg Bool.false_ne_true]; exact ⟨ρ,d,e.mono s,by simpa [ifD,h1] using h,fun v H2 s2=>k v H2 (s.trans s2)⟩
noncomputable def jA (_:Rho):Option (List PyData):=some []
noncomputable def jk (fa:Rho->Option PyData) (fr:Rho->Option (List PyData)):Rho->Option (List PyData):=fun ρ=>(fa ρ).bind fun x=>(fr ρ).map fun r=>x::r
theorem je:PAD X [] jA:=by
 with_unfolding_all exact (PA.imp qQ fun σ H Q ⟨ρ,d,e,h,k⟩=>by cases h; exact k [] H (ji.refl H) rfl)
theorem ja {fr:Rho->Option (List PyData)} (ha:PD X e fa) (hr:PAD X es fr) (hs:starEach (e::es) X.env=(false,eval e X.env)::starEach es X.env:=by rfl):PAD X (e::es) (jk fa fr):=by
 with_unfolding_all
  refine PA.imp (j4 ha hr hs) fun σ H Q ⟨ρ,ds,en,h,k⟩=>?_
  cases h1:fa ρ with
  | none=>simp [jk,h1] at h
  | some x=>
   cases h2:fr ρ with
   | none=>simp [jk,h1,h2] at h
   | some r=>
    have:x::r=ds:=by simpa [jk,h1,h2] using h
    subst this
    exact ⟨ρ,x,en,h1,fun v H1 s1 r1=>⟨ρ,r,en.mono s1,h2,fun vs H2 s2 r2=>k _ H2 (s1.trans s2) ⟨v,vs,rfl,Rep.mono s2 x v r1,r2⟩⟩⟩
noncomputable def few (ds:List PyData):Bool:=decide (ds.length < 1000000)
theorem aba {n:Nat} (h:n < 1000000):n<=sizeLine:=Nat.le_of_lt (Nat.lt_of_lt_of_le h (by rw [sizeLine_eq]; decide))
theorem jt {H:Hp}{p:Addr}{o:HO} (hp:H p=none):ji H (upd H p o):=fun b u h=>by rw [jl (j0 h hp)]; exact h
noncomputable def Jd (fr:Rho->Option (List PyData)):Rho->Option PyData:=fun ρ=>(fr ρ).bind fun ds=>if few ds=true then some (.tuple ds) else none
noncomputable def JV (fr:Rho->Option (List PyData)):Rho->Option PyData:=fun ρ=>(fr ρ).bind fun ds=>if few ds=true then some (.list ds) else none
theorem zq {x1}{fr:Rho->Option (List PyData)} (h:PAD X es fr):PD X (.Tuple es x1 pos) (Jd fr):=by
 with_unfolding_all
  refine PE.imp (ae9 h) fun σ H Q ⟨ρ,d,e,h,k⟩=>?_
  cases h1:fr ρ with
  | none=>simp [Jd,h1] at h
  | some ds=>
   by_cases hf:few ds=true
   ·have:PyData.tuple ds=d:=by simpa [Jd,h1,hf] using h
    subst this
    refine ⟨ρ,ds,e,h1,fun vs H1 s1 r1=>⟨aba (by rw [r1.length]; simpa [few] using hf),fun p hp=>k _ _ (s1.trans (jt hp)) ⟨p,vs,rfl,SqT.of jp,Reps.mono (jt hp) _ _ r1⟩⟩⟩
   ·simp [Jd,h1,hf] at h
theorem qg {fr:Rho->Option (List PyData)} (h:PAD X es fr):PD X (.List es pos) (JV fr):=by
 with_unfolding_all
  refine PE.imp (acT h) fun σ H Q ⟨ρ,d,e,h,k⟩=>?_
  cases h1:fr ρ with
  | none=>simp [JV,h1] at h
  | some ds=>
   by_cases hf:few ds=true
   ·have:PyData.list ds=d:=by simpa [JV,h1,hf] using h
    subst this
    refine ⟨ρ,ds,e,h1,fun vs H1 s1 r1=>⟨aba (by rw [r1.length]; simpa [few] using hf),fun p hp=>k _ _ (s1.trans (jt hp)) ⟨p,vs,rfl,jp,Reps.mono (jt hp) _ _ r1⟩⟩⟩
   ·simp [JV,h1,hf] at h
end
end BX
end
section
namespace BX
open PySem PySem.Spec L2
open PyProof.Rows hiding St
section
variable {X:Cx}{e a b c tg src:Expr}{es:List Expr}{st:Stmt}{sts jO:List Stmt}{fa fb fc:Rho->Option PyData}{F G:Rho->Option Out}{pos:Pos}
noncomputable def zc (fa:Rho->Option PyData):Rho->Option Out:=fun ρ=>(fa ρ).map Out.rt
theorem ju (h:PD X e fa):PSD X (.Return (some e) pos) (zc fa):=by
 with_unfolding_all
  refine PS.imp (acN h) fun D σ H ⟨ρ,o,en,q,k⟩=>?_
  cases h1:fa ρ with
  | none=>simp [zc,h1] at q
  | some d=>
   have:Out.rt d=o:=by simpa [zc,h1] using q
   subst this
   exact ⟨ρ,d,en,h1,k⟩
noncomputable def ifS (tc:Rho->Option Bool) (F G:Rho->Option Out):Rho->Option Out:=fun ρ=>(tc ρ).bind fun x=>if x=true then F ρ else G ρ
theorem j5 {l r:List Stmt}{tc:Rho->Option Bool} (hc:PTD X c tc) (hl:Jh X l F) (hr:Jh X r G):PSD X (.If c l r pos) (ifS tc F G):=by
 with_unfolding_all
  refine PS.imp (ajT hc hl hr) fun D σ H ⟨ρ,o,en,q,k⟩=>?_
  cases h1:tc ρ with
  | none=>simp [ifS,h1] at q
  | some x=>
   refine ⟨ρ,x,en,h1,fun H1 s1=>?_⟩
   cases x with
   | true=>rw [if_pos rfl]; exact ⟨ρ,o,en.mono s1,by simpa [ifS,h1] using q,k.mono s1⟩
   | false=>rw [if_neg Bool.false_ne_true]; exact ⟨ρ,o,en.mono s1,by simpa [ifS,h1] using q,k.mono s1⟩
noncomputable def zu:Rho->Option Out:=fun ρ=>some (.nx ρ)
noncomputable def jR (F G:Rho->Option Out):Rho->Option Out:=fun ρ=>(F ρ).bind fun o=>match o with
 | .nx ρ'=>G ρ'
 | o=>some o
theorem jh:Jh X [] zu:=by
 with_unfolding_all
  refine PSs.imp adt fun D σ H ⟨ρ,o,en,q,k⟩=>?_
  cases q
  exact k σ H (ji.refl H) en
theorem jc (h1 : PSD X st F) (h2 : Jh X jO G) : Jh X (st :: jO) (jR F G) := by
  with_unfolding_all
   refine PSs.imp (qZ h1 h2) fun D σ H ⟨ρ, o, en, q, k⟩ => ?_
   cases hf : F ρ with
   | none => simp [jR, hf] at q
   | some p =>
     refine ⟨ρ, p, en, hf, ?_⟩
     cases p with
     | nx ρ' => exact fun σ' H' s' r' => ⟨ρ', o, r', by simpa [jR, hf] using q, k.mono s'⟩
     | rt d => have : Out.rt d = o := by simpa [jR, hf] using q
               subst this; exact k
     | bk d => have : Out.bk d = o := by simpa [jR, hf] using q
               subst this; exact k
     | ct d => have : Out.ct d = o := by simpa [jR, hf] using q
               subst this; exact k
noncomputable def abb:Rho->Option Out:=fun _=>none
theorem Z0:Jh X sts abb:=by
 with_unfolding_all exact (PSs.imp adZ fun D σ H ⟨ρ,o,en,q,k⟩=>by cases q)
noncomputable def QW (fa:Rho->Option PyData):Rho->Option Out:=fun ρ=>(fa ρ).map fun _=> .nx ρ
theorem Z1 (h:PD X e fa) (hs:swapsWith e none pos.line X.env=pure false:=by rfl):PSD X (.Expr e pos) (QW fa):=by
 with_unfolding_all
  refine PS.imp (adu h hs) fun D σ H ⟨ρ,o,en,q,k⟩=>?_
  cases h1:fa ρ with
  | none=>simp [QW,h1] at q
  | some d=>
   have:Out.nx ρ=o:=by simpa [QW,h1] using q
   subst this
   exact ⟨ρ,d,en,h1,fun v H' s r=>k σ H' s (en.mono s)⟩
noncomputable def jL (i:Nat) (d:PyData) (ρ:Rho):Option Rho:=some (ρ.set i (some d))
theorem jz (i:Nat) {x:Str} (hN:X.N.Nodup) (hi:X.N[i]?=some x:=by rfl) (hx:Loc X.env.scope x:=by first | exact Or.inl rfl | exact Or.inr rfl)
  (hf:X.fn x=true ∨ X.env.scope.names.lookup x=some .local:=by first | exact .inl rfl | exact .inr rfl | assumption):PGD X (.Name x pos) (jL i):=by
 with_unfolding_all
  refine PG.imp (Qf hN hi hx hf) fun v σ H Q ⟨ρ,d,ρ',en,r,q,k⟩=>?_
  cases q
  exact k _ H (ji.refl H) (en.set r)
@[irreducible] noncomputable def ahf (X:Cx) (ts:List Expr) (ga:List PyData->Rho->Option Rho):Prop:=PGs X ts fun vs σ H Q=>∃ ρ ds ρ',EnvR X.K H ρ σ/\Reps X.K H ds vs/\ga ds ρ=some ρ'/\∀ σ' H',ji H H'->EnvR X.K H' ρ' σ'->Q σ' H'
noncomputable def JW (ds:List PyData) (ρ:Rho):Option Rho:=match ds with
 | []=>some ρ
 | _=>none
noncomputable def j8 (ga:PyData->Rho->Option Rho) (gr:List PyData->Rho->Option Rho) (ds:List PyData) (ρ:Rho):Option Rho:=match ds with
 | d::r=>(ga d ρ).bind fun ρ1=>gr r ρ1
 | []=>none
theorem PGs.imp {ts:List Expr}{t t':TGs} (h:PGs X ts t) (hi:∀ v σ H Q,t' v σ H Q->t v σ H Q):PGs X ts t':=fun pins s σ H v u Q I r q=>h pins s σ H v u Q I r (hi v σ H Q q)
theorem Z2:ahf X [] JW:=by
 with_unfolding_all
  refine PGs.imp agU fun vs σ H Q ⟨ρ,ds,ρ',en,r,q,k⟩=>?_
  cases ds with
  | nil=>cases r; cases q; exact ⟨rfl,k σ H (ji.refl H) en⟩
  | cons d ds=>cases q
theorem qo {ga:PyData->Rho->Option Rho}{gr:List PyData->Rho->Option Rho} (h1:PGD X e ga) (h2:ahf X es gr)
  (hs:(assignEach (e::es) X.env).map (·.2)=assign e X.env::(assignEach es X.env).map (·.2):=by rfl):ahf X (e::es) (j8 ga gr):=by
 with_unfolding_all
  refine PGs.imp (ae1 h1 h2 hs) fun vs σ H Q ⟨ρ,ds,ρ',en,r,q,k⟩=>?_
  cases ds with
  | nil=>cases q
  | cons d ds=>
   obtain ⟨x,rr,e1,r1,r2⟩:=r
   subst e1
   cases h3:ga d ρ with
   | none=>simp [j8,h3] at q
   | some ρ1=>
    refine ⟨x,rr,rfl,ρ,d,ρ1,en,r1,h3,fun σ1 H1 s1 e1=>⟨ρ1,ds,ρ',e1,Reps.mono s1 ds rr r2,by simpa [j8,h3] using q,fun σ2 H2 s2 e2=>k σ2 H2 (s1.trans s2) e2⟩⟩
noncomputable def aas (n:Nat) (gr:List PyData->Rho->Option Rho) (d:PyData) (ρ:Rho):Option Rho:=match d with
 | .tuple ds=>if ds.length=n then gr ds ρ else none
 | _=>none
theorem abc {k n:Nat}{gr:List PyData->Rho->Option Rho} (hc:X.calm=true) (h:ahf X es gr) (hn:(assignEach es X.env).length=n:=by rfl) (hst:(assignEach es X.env).findIdx? (·.1)=none:=by rfl):
  PGD X (.Tuple es k pos) (aas n gr):=by
 with_unfolding_all
  refine PG.imp (aiG hc h hn hst) fun v σ H Q ⟨ρ,d,ρ',en,r,q,k⟩=>?_
  cases d with
  | tuple ds=>
   obtain ⟨a,xs,e1,e2,e3⟩:=r
   by_cases hl:ds.length=n
   ·exact ⟨a,xs,e1,e2,by rw [e3.length]; exact hl,ρ,ds,ρ',en,e3,by simpa [aas,hl] using q,k⟩
   ·simp [aas,hl] at q
  | _=>simp [aas] at q
noncomputable def zE (fa:Rho->Option PyData) (ga:PyData->Rho->Option Rho):Rho->Option Out:=fun ρ=>(fa ρ).bind fun d=>(ga d ρ).map Out.nx
theorem ahg {ga:PyData->Rho->Option Rho} (he:PD X e fa) (hg:PGD X tg ga) (hs:swapsWithSole [tg] e pos.line X.env=pure false:=by rfl) (hw:swappedStores [tg] e X.env=pure none:=by rfl)
  (h1:(assignEach [tg] X.env).map (·.2)=[assign tg X.env]:=by rfl):PSD X (.Assign [tg] e pos) (zE fa ga):=by
 with_unfolding_all
  refine PS.imp (ae2 he hg hs hw h1) fun D σ H ⟨ρ,o,en,q,k⟩=>?_
  cases h1:fa ρ with
  | none=>simp [zE,h1] at q
  | some d=>
   cases h2:ga d ρ with
   | none=>simp [zE,h1,h2] at q
   | some ρ'=>
    have:Out.nx ρ'=o:=by simpa [zE,h1,h2] using q
    subst this
    exact ⟨ρ,d,en,h1,fun v H1 s1 r1=>⟨ρ,d,ρ',en.mono s1,r1,h2,fun σ' H' s' e'=>k σ' H' (s1.trans s') e'⟩⟩
theorem jG (i:Nat) {x:Str}{pos':Pos} (hN:X.N.Nodup) (he:PD X e fa) (hi:X.N[i]?=some x:=by rfl) (hx:Loc X.env.scope x:=by first | exact Or.inl rfl | exact Or.inr rfl) (hs:swapsWith e (some (.Name x pos')) pos.line X.env=pure false:=by rfl)
  (hf:X.fn x=true ∨ X.env.scope.names.lookup x=some .local:=by first | exact .inl rfl | exact .inr rfl | assumption):PSD X (.Assign [.Name x pos'] e pos) (zE fa (jL i)):=by
 with_unfolding_all
  refine PS.imp (ZR hN hi hx he hs hf) fun D σ H ⟨ρ,o,en,q,k⟩=>?_
  cases h1:fa ρ with
  | none=>simp [zE,h1] at q
  | some d=>
   have:Out.nx (ρ.set i (some d))=o:=by simpa [zE,h1,jL] using q
   subst this
   exact ⟨ρ,d,en,h1,fun v H1 s1 r1=>k _ H1 s1 ((en.mono s1).set r1)⟩
noncomputable def afn (K:PySem.W.Frag) (J:It) (ds:List PyData) (H0:Hp):Prop:=∀ i H,jB H0 H->(i < ds.length->J.go i H)/\(ds.length<=i->J.stop i H)/\∀ x H',J.yld i H x H'->ji H H'/\∀ d,ds[i]?=some d->Rep K H' d x
noncomputable def tDI (K:PySem.W.Frag) (fi:Rho->Option (List PyData)):TI:=fun σ H R=>∃ ρ ds,EnvR K H ρ σ/\fi ρ=some ds/\∀ J H',ji H H'->afn K J ds H'->R J H'
@[irreducible] noncomputable def PID (X:Cx) (tg src:Expr) (fi:Rho->Option (List PyData)):Prop:=PI X tg src (tDI X.K fi)
theorem PI.imp {t t':TI} (h:PI X tg src t) (hi:∀ σ H R,t' σ H R->t σ H R):PI X tg src t':=fun pins s σ H R I q=>h pins s σ H R I (hi σ H R q)
noncomputable def JX:PyData->Option (List PyData)
 | .list ds=>some ds
 | _=>none
noncomputable def abd:PyData->Option (List PyData)
 | .tuple ds=>some ds
 | _=>none
noncomputable def itL (fa:Rho->Option PyData):Rho->Option (List PyData):=fun ρ=>(fa ρ).bind JX
noncomputable def itT (fa:Rho->Option PyData):Rho->Option (List PyData):=fun ρ=>(fa ρ).bind abd
theorem Qj (h:PD X e fa):PID X tg e (itL fa):=by
 with_unfolding_all
  refine PI.imp (adv h) fun σ H R ⟨ρ,ds,en,q,k⟩=>?_
  cases h1:fa ρ with
  | none=>simp [itL,h1] at q
  | some d=>
   cases d with
   | list es=>
    have:es=ds:=by simpa [itL,h1,JX] using q
    subst this
    refine ⟨ρ,_,en,h1,fun v H1 s1 r1=>?_⟩
    obtain ⟨a,xs,e1,e2,e3⟩:=r1
    refine ⟨a,e1,⟨xs,SqL.of e2⟩,k _ H1 s1 fun i H2 s2=>⟨fun hi=>?_,fun hi=>?_,fun x H' y=>?_⟩⟩
    ·exact ⟨xs,xs[i]'(by rw [e3.length]; exact hi),SqL.of (s2 _ _ e2 fun _ z=>nomatch z),by simp [e3.length,hi]⟩
    ·exact ⟨xs,SqL.of (s2 _ _ e2 fun _ z=>nomatch z),by rw [e3.length]; exact hi⟩
    ·obtain ⟨z1,z2⟩:=y
     subst z1
     refine ⟨ji.refl _,fun d hd=>?_⟩
     obtain ⟨y,e4,e5⟩:=(Reps.monoE s2 _ _ e3).get hd
     have:=z2 xs (SqL.of (s2 _ _ e2 fun _ z=>nomatch z))
     rw [e4] at this; cases this
     exact e5
   | _=>simp [itL,h1,JX] at q
theorem ahh (h:PD X e fa):PID X tg e (itT fa):=by
 with_unfolding_all
  refine PI.imp (aiJ h) fun σ H R ⟨ρ,ds,en,q,k⟩=>?_
  cases h1:fa ρ with
  | none=>simp [itT,h1] at q
  | some d=>
   cases d with
   | tuple es=>
    have:es=ds:=by simpa [itT,h1,abd] using q
    subst this
    refine ⟨ρ,_,en,h1,fun v H1 s1 r1=>?_⟩
    obtain ⟨a,xs,e1,e2,e3⟩:=r1
    refine ⟨a,e1,⟨xs,e2⟩,k _ H1 s1 fun i H2 s2=>⟨fun hi=>?_,fun hi=>?_,fun x H' y=>?_⟩⟩
    ·exact ⟨xs,xs[i]'(by rw [e3.length]; exact hi),jB.tup s2 e2,by simp [e3.length,hi]⟩
    ·exact ⟨xs,jB.tup s2 e2,by rw [e3.length]; exact hi⟩
    ·obtain ⟨z1,z2⟩:=y
     subst z1
     refine ⟨ji.refl _,fun d hd=>?_⟩
     obtain ⟨y,e4,e5⟩:=(Reps.monoE s2 _ _ e3).get hd
     have:=z2 xs (jB.tup s2 e2)
     rw [e4] at this; cases this
     exact e5
   | _=>simp [itT,h1,abd] at q
noncomputable def qk (lo:Int) (n:Nat):List PyData:=(List.range n).map fun (k:Nat)=>PyData.int (lo+(k:Int))
noncomputable def Qk (ds:List PyData):Option (List PyData):=match ds with
 | [.int j]=>if -(2 ^ 62)<=j/\j < 2 ^ 62 then some (qk 0 j.toNat) else none
 | _=>none
theorem abe {K:PySem.W.Frag}{H:Hp} (lo:Int) (n:Nat):afn K (Itr lo n) (qk lo n) H:=fun i H2 s2=>by
 have hl:(qk lo n).length=n:=by simp [qk]
 refine ⟨fun hi=>by rw [hl] at hi; exact hi,fun hi=>by rw [hl] at hi; exact hi,fun x H' y=>?_⟩
 obtain ⟨z1,z2⟩:=y
 subst z1
 refine ⟨ji.refl _,fun d hd=>?_⟩
 have hi:i < n:=by
  have:=(List.getElem?_eq_some_iff.mp hd).1
  rw [hl] at this; exact this
 have:d= .int (lo+i):=by
  simp [qk,hi] at hd
  exact hd.symm
 subst this
 exact z2
theorem qB {p pos:Pos}{fr:Rho->Option (List PyData)} (hg:Gl X "range") (hm:X.mg "range"=none) (ha:PAD X [a] fr) (hs:starEach [a] X.env=[(false,eval a X.env)]:=by rfl):PID X tg (.Call (.Name "range" p) [a] [] pos) (fun ρ=>(fr ρ).bind Qk):=by
 with_unfolding_all
  refine PI.imp (QR hg hm ha hs) fun σ H R ⟨ρ,ds,en,q,k⟩=>?_
  cases h1:fr ρ with
  | none=>simp [h1] at q
  | some as=>
   have q':Qk as=some ds:=by simpa [h1] using q
   refine ⟨ρ,as,en,h1,fun vs H1 s1 r1=>?_⟩
   unfold Qk at q'
   split at q'
   ·rename_i j
    split at q'
    ·rename_i hj
     cases q'
     obtain ⟨x,r,e1,e2,e3⟩:=r1
     cases (show x=V.int j from e2)
     cases (show r=[] from e3)
     exact ⟨j,e1,hj.1,hj.2,k _ H1 s1 (abe 0 j.toNat)⟩
    ·cases q'
   ·cases q'
noncomputable def jS (ga:PyData->Rho->Option Rho) (F:Rho->Option Out):List PyData->Rho->Option Out
 | [],ρ=>some (.nx ρ)
 | d::r,ρ=>(ga d ρ).bind fun ρ1=>(F ρ1).bind fun o=>match o with
  | .nx ρ2=>jS ga F r ρ2
  | .ct ρ2=>jS ga F r ρ2
  | .bk ρ2=>some (.nx ρ2)
  | .rt d=>some (.rt d)
noncomputable def Z3 (fi:Rho->Option (List PyData)) (ga:PyData->Rho->Option Rho) (F:Rho->Option Out):Rho->Option Out:=fun ρ=>(fi ρ).bind fun ds=>jS ga F ds ρ
theorem ZC {body:List Stmt}{fi:Rho->Option (List PyData)}{ga:PyData->Rho->Option Rho} (hp:PassesOwn (model X.prog X.w) X.A X.env X.xe) (hc:X.calm=true) (hi:PID X tg src fi) (hg:PGD X tg ga) (hb:Jh X body F)
  (hs:∀ x,foldedSetIterable src X.env x=pure x:=by intro _; rfl):PSD X (.For tg src body [] pos) (Z3 fi ga F):=by
 with_unfolding_all
  refine PS.imp (ZT hp hc hi hg hb hs) fun D σ H ⟨ρ,o,en,q,k⟩=>?_
  cases h1:fi ρ with
  | none=>simp [Z3,h1] at q
  | some ds=>
   have q':jS ga F ds ρ=some o:=by simpa [Z3,h1] using q
   refine ⟨ρ,ds,en,h1,fun J H1 s1 Y=>?_⟩
   refine ⟨fun i m σ H2=>m=ds.length - i/\i<=ds.length/\ji H1 H2/\∃ ρ2,EnvR X.K H2 ρ2 σ/\jS ga F (ds.drop i) ρ2=some o,⟨ds.length,by simp,Nat.zero_le _,ji.refl _,ρ,en.mono s1,by simpa using q'⟩,?_⟩
   rintro i m σ2 H2 ⟨rfl,hi,s2,ρ2,en2,q2⟩
   obtain ⟨g1,g2,g3⟩:=Y i H2 (ji.e s2)
   by_cases hlt:i < ds.length
   ·right
    have hd:ds.drop i=ds[i]::ds.drop (i+1):=List.drop_eq_getElem_cons hlt
    rw [hd] at q2
    refine ⟨g1 hlt,fun σ3 H3=>ji H1 H3/\∃ ρ3,EnvR X.K H3 ρ3 σ3/\jS ga F (ds.drop (i+1)) ρ3=some o,fun σ3 H3 ⟨a1,ρ3,a2,a3⟩=>⟨ds.length - (i+1),by omega,rfl,hlt,a1,ρ3,a2,a3⟩,fun x H3 y=>?_⟩
    obtain ⟨s3,r3⟩:=g3 x H3 y
    have r3':=r3 ds[i] (by simp [hlt])
    cases h4:ga ds[i] ρ2 with
    | none=>simp [jS,h4] at q2
    | some ρ4=>
     refine ⟨ρ2,ds[i],ρ4,en2.mono s3,r3',h4,fun σ5 H5 s5 en5=>?_⟩
     cases h5:F ρ4 with
     | none=>simp [jS,h4,h5] at q2
     | some p=>
      refine ⟨ρ4,p,en5,h5,?_⟩
      have s15:=s2.trans (s3.trans s5)
      cases p with
      | nx ρ6=>exact fun σ6 H6 s6 en6=>⟨s15.trans s6,ρ6,en6,by simpa [jS,h4,h5] using q2⟩
      | ct ρ6=>exact fun σ6 H6 s6 en6=>⟨s15.trans s6,ρ6,en6,by simpa [jS,h4,h5] using q2⟩
      | bk ρ6=>
       have:Out.nx ρ6=o:=by simpa [jS,h4,h5] using q2
       subst this
       exact fun σ6 H6 s6 en6=>k σ6 H6 (s1.trans (s15.trans s6)) en6
      | rt d=>
       have:Out.rt d=o:=by simpa [jS,h4,h5] using q2
       subst this
       exact fun v H6 s6 r6=>k v H6 (s1.trans (s15.trans s6)) r6
   ·left
    have he:i=ds.length:=by omega
    have hn:ds.drop i=[]:=by rw [he]; simp
    rw [hn] at q2
    have:Out.nx ρ2=o:=by simpa [jS] using q2
    subst this
    exact ⟨g2 (by omega),k σ2 H2 (s1.trans s2) en2⟩
noncomputable def Je (cap:List (Option Nat)) (ρ:Rho):Rho:=cap.map fun o=>o.bind fun i=>(ρ[i]?).join
theorem EnvR.cap {K:PySem.W.Frag}{H:Hp}{ρ:Rho}{σ:St} (e:EnvR K H ρ σ) (cap:List (Option Nat)):EnvR K H (Je cap ρ) (abZ cap σ):=by
 refine ⟨by simp [Je,abZ],fun j d q=>?_⟩
 unfold Je at q
 unfold abZ
 rw [List.getElem?_map] at q ⊢
 cases h1:cap[j]? with
 | none=>rw [h1] at q; cases q
 | some o=>
  rw [h1] at q
  cases o with
  | none=>cases q
  | some i=>
   have q':lkp i ρ=some d:=by simpa [lkp] using q
   obtain ⟨v,e1,e2⟩:=e.at' i d (zI q')
   exact ⟨v,by simp [e1],e2⟩
noncomputable def qe (ga:PyData->Rho->Option Rho) (ft:Rho->Option Bool) (fe:Rho->Option PyData):List PyData->Rho->Option (List PyData)
 | [],_=>some []
 | d::r,τ=>(ga d τ).bind fun τ2=>(ft τ2).bind fun b=>if b=true then (fe τ2).bind fun y=>(qe ga ft fe r τ2).map fun ys=>y::ys else qe ga ft fe r τ2
noncomputable def j6 (fi:Rho->Option (List PyData)) (cap:List (Option Nat)) (ga:PyData->Rho->Option Rho) (ft:Rho->Option Bool) (fe:Rho->Option PyData):Rho->Option PyData:=fun ρ=>(fi ρ).bind fun ds=>
 if few ds=true then (qe ga ft fe ds (Je cap ρ)).map PyData.list else none
@[irreducible] noncomputable def ai3 (X:Cx) (ts:List Expr) (f:Rho->Option Bool):Prop:=PTs X ts (tDT X.K f)
noncomputable def QX (_:Rho):Option Bool:=some true
theorem qJ:ai3 X [] QX:=by
 with_unfolding_all exact (fun pins s σ H Q I ⟨ρ,b,en,q,k⟩=>by cases q; exact ag9 pins s σ H Q I (k H (ji.refl H)))
theorem Ji {ft:Rho->Option Bool} (h:PTD X c ft):ai3 X [c] ft:=by
 with_unfolding_all exact (aha h)
theorem qi {el:Expr}{ts:List Expr}{sc:Scope}{ps:Pos}{fi:Rho->Option (List PyData)}{ga:PyData->Rho->Option Rho}{ft:Rho->Option Bool}{fe:Rho->Option PyData} (N':List Str) (cap:List (Option Nat)) (hc:X.calm=true) (hi:PID X tg src fi) (ok:CompOk X sc N' cap)
  (body:∀ cl C s0 H0 fp pn,PGD (blk X N' sc cl C s0 H0 fp pn) tg ga/\ai3 (blk X N' sc cl C s0 H0 fp pn) ts ft/\PD (blk X N' sc cl C s0 H0 fp pn) el fe)
  (hs:∀ x,foldedSetIterable src X.env x=pure x:=by intro _; rfl):PD X (.ListComp el [⟨tg,src,ts,0⟩] sc ps) (j6 fi cap ga ft fe):=by
 with_unfolding_all
  refine PE.imp (ahb (g:=tDG X.K ga) (tt:=tDT X.K ft) (te:=tD X.K fe) hc hi ok (fun cl C s0 H0 fp pn=>body cl C s0 H0 fp pn) hs) fun σ H Q ⟨ρ,d,en,q,k⟩=>?_
  cases h1:fi ρ with
  | none=>simp [j6,h1] at q
  | some ds=>
   by_cases hf:few ds=true
   ·cases h2:qe ga ft fe ds (Je cap ρ) with
    | none=>simp [j6,h1,hf,h2] at q
    | some ys=>
     have:PyData.list ys=d:=by simpa [j6,h1,hf,h2] using q
     subst this
     refine ⟨ρ,ds,en,h1,fun J H1 s1 Y=>?_⟩
     refine ⟨fun i m τ us H2=>m=ds.length - i/\i<=ds.length/\ji H1 H2/\us.length<=i/\∃ ρ2 zs ws,EnvR X.K H2 ρ2 τ/\Reps X.K H2 zs us/\qe ga ft fe (ds.drop i) ρ2=some ws/\ys=zs++ws,
      ⟨ds.length,by simp,Nat.zero_le _,ji.refl _,Nat.le_refl _,Je cap ρ,[],ys,(en.mono s1).cap cap,rfl,by simpa using h2,rfl⟩,?_⟩
     rintro i m τ us H2 ⟨rfl,hi',s2,hu,ρ2,zs,ws,en2,r2,q2,ey⟩
     have hsm:us.length < sizeLine:=Nat.lt_of_le_of_lt (Nat.le_trans hu hi') (Nat.lt_of_lt_of_le (by simpa [few] using hf) (by rw [sizeLine_eq]; decide:1000000<=sizeLine))
     obtain ⟨g1,g2,g3⟩:=Y i H2 (ji.e s2)
     refine ⟨hsm,?_⟩
     by_cases hlt:i < ds.length
     ·right
      have hd:ds.drop i=ds[i]::ds.drop (i+1):=List.drop_eq_getElem_cons hlt
      rw [hd] at q2
      refine ⟨g1 hlt,fun x H3 y=>?_⟩
      obtain ⟨s3,r3⟩:=g3 x H3 y
      have r3':=r3 ds[i] (by simp [hlt])
      cases h4:ga ds[i] ρ2 with
      | none=>simp [qe,h4] at q2
      | some ρ4=>
       refine ⟨ρ2,ds[i],ρ4,en2.mono s3,r3',h4,fun σ5 H5 s5 en5=>?_⟩
       cases h5:ft ρ4 with
       | none=>simp [qe,h4,h5] at q2
       | some b=>
        refine ⟨ρ4,b,en5,h5,fun H6 s6=>?_⟩
        have s26:=s3.trans (s5.trans s6)
        cases b with
        | false=>
         refine ak4 ?_
         exact ⟨ds.length - (i+1),by omega,rfl,hlt,s2.trans s26,by omega,ρ4,zs,ws,en5.mono s6,Reps.mono s26 _ _ r2,by simpa [qe,h4,h5] using q2,ey⟩
        | true=>
         refine ak5 ?_
         cases h6:fe ρ4 with
         | none=>simp [qe,h4,h5,h6] at q2
         | some y=>
          cases h7:qe ga ft fe (ds.drop (i+1)) ρ4 with
          | none=>simp [qe,h4,h5,h6,h7] at q2
          | some ws'=>
           have hw:y::ws'=ws:=by simpa [qe,h4,h5,h6,h7] using q2
           refine ⟨ρ4,y,en5.mono s6,h6,fun v H7 s7 r7=>?_⟩
           refine ⟨ds.length - (i+1),by omega,rfl,hlt,s2.trans (s26.trans s7),by rw [List.length_append]; simp; omega,ρ4,zs++[y],ws',(en5.mono s6).mono s7,(Reps.mono (s26.trans s7) _ _ r2).append ⟨v,[],rfl,r7,rfl⟩,h7,?_⟩
           rw [ey,←hw]; simp
     ·left
      have he:i=ds.length:=by omega
      have hn:ds.drop i=[]:=by rw [he]; simp
      rw [hn] at q2
      have hw:[]=ws:=by simpa [qe] using q2
      subst hw
      have ey':ys=zs:=by simpa using ey
      subst ey'
      exact ⟨g2 (by omega),fun l hl=>k _ _ (s1.trans (s2.trans (jt hl))) ⟨l,us,rfl,jp,Reps.mono (jt hl) _ _ r2⟩⟩
   ·simp [j6,h1,hf] at q
noncomputable def Pur (K:PySem.W.Frag) (n:Nat) (g:List PyData->Option PyData):Sp:=fun vs H Q _=>∃ ds d,ds.length=n/\Reps K H ds vs/\g ds=some d/\∀ v H',ji H H'->Rep K H' d v->Q v H'
noncomputable def jD (g:List PyData->Option PyData) (fr:Rho->Option (List PyData)):Rho->Option PyData:=fun ρ=>(fr ρ).bind g
theorem ahi {k n:Nat}{f:Addr}{fd:FuncData}{ps:List Str}{g:List PyData->Option PyData}{x:Str}{p:Pos}{fr:Rho->Option (List PyData)} (FO:FnOk X.prog X.w X.K X.mg X.base CX0 k f fd ps (Pur X.K n g)) (hr:Room k X.A) (hm:X.mg x=some (.ref f)) (hk:PySem.W.keepIn X.K (.ref f)=true)
  (hb:Jg X.K fd ps []) (hn:(e::es).length=n) (ha:PAD X (e::es) fr) (hl:∀ ρ ds,fr ρ=some ds->ds.length=(e::es).length) (hg:Gl X x:=by rfl) (hdb:(x == ("__debug__":Str))=false:=by decide) (he:starEach (e::es) X.env=(false,eval e X.env)::starEach es X.env:=by rfl)
  (hpl:(backTo pos (starEach es X.env)).any (·.1)=false:=by rfl):PD X (.Call (.Name x p) (e::es) [] pos) (jD g fr):=by
 with_unfolding_all
  refine PE.imp (agZ FO hr hg hm hk hb .nil afi ha hdb he hpl) fun σ H Q ⟨ρ,d,en,q,k⟩=>?_
  cases h1:fr ρ with
  | none=>simp [jD,h1] at q
  | some ds=>
   refine ⟨ρ,ds,en,h1,fun vs H1 s1 r1=>?_⟩
   refine ⟨ds,d,by rw [hl ρ ds h1,hn],by rw [List.append_nil]; exact r1,by simpa [jD,h1] using q,fun v H' s r=>k v H' (s1.trans s) r⟩
noncomputable def JR (X:Cx) (f:Value) (g:List PyData->Option PyData):Prop:=∃ r,za X f r/\∀ ds d xs H Q,g ds=some d->Reps X.K H ds xs->(∀ v H',ji H H'->Rep X.K H' d v->Q v H')->r xs H Q
theorem jM {id:String}{g:List PyData->Option PyData}{x:Str}{p:Pos}{fr:Rho->Option (List PyData)} (hc:JR X (.builtin id) g) (hm:X.mg x=none) (hv:bootBuiltins x=some (.builtin id)) (ha:PAD X (e::es) fr) (hg:Gl X x:=by rfl) (hn:x ≠ "__name__":=by decide) (hdb:(x == ("__debug__":Str))=false:=by decide)
  (he:starEach (e::es) X.env=(false,eval e X.env)::starEach es X.env:=by rfl) (hpl:(backTo pos (starEach es X.env)).any (·.1)=false:=by rfl):PD X (.Call (.Name x p) (e::es) [] pos) (jD g fr):=by
 with_unfolding_all
  obtain ⟨r,h1,h2⟩:=hc
  refine PE.imp (Qh h1 hg hm hv ha hn hdb he hpl) fun σ H Q ⟨ρ,d,en,q,k⟩=>?_
  cases h3:fr ρ with
  | none=>simp [jD,h3] at q
  | some ds=>exact ⟨ρ,ds,en,h3,fun vs H1 s1 r1=>h2 ds d vs H1 Q (by simpa [jD,h3] using q) r1 fun v H' s r=>k v H' (s1.trans s) r⟩
theorem aef {T:String}{g:List PyData->Option PyData}{x:Str}{p:Pos}{fr:Rho->Option (List PyData)} (hc:JR X (.type T) g) (hm:X.mg x=none) (hv:bootBuiltins x=some (.type T)) (ha:PAD X (e::es) fr) (hg:Gl X x:=by rfl) (hn:x ≠ "__name__":=by decide) (hdb:(x == ("__debug__":Str))=false:=by decide)
  (he:starEach (e::es) X.env=(false,eval e X.env)::starEach es X.env:=by rfl) (hpl:(backTo pos (starEach es X.env)).any (·.1)=false:=by rfl):PD X (.Call (.Name x p) (e::es) [] pos) (jD g fr):=by
 with_unfolding_all
  obtain ⟨r,h1,h2⟩:=hc
  refine PE.imp (ad7 h1 hg hm hv ha hn hdb he hpl) fun σ H Q ⟨ρ,d,en,q,k⟩=>?_
  cases h3:fr ρ with
  | none=>simp [jD,h3] at q
  | some ds=>exact ⟨ρ,ds,en,h3,fun vs H1 s1 r1=>h2 ds d vs H1 Q (by simpa [jD,h3] using q) r1 fun v H' s r=>k v H' (s1.trans s) r⟩
end
noncomputable def jE (N:List Str) (ds:List PyData):Rho:=ds.map some++List.replicate (N.length - ds.length) none
theorem JC {K:PySem.W.Frag}{H:Hp}{N:List Str}{ds:List PyData}{vs:List V} (r:Reps K H ds vs):EnvR K H (jE N ds) (L2.qN N vs):=by
 have hl:=r.length
 refine ⟨by simp [jE,L2.qN,hl],fun i d q=>?_⟩
 unfold jE at q
 by_cases hi:i < ds.length
 ·rw [List.getElem?_append_left (by simpa using hi),List.getElem?_map] at q
  cases e:ds[i]? with
  | none=>rw [e] at q; cases q
  | some c=>
   rw [e] at q; cases q
   obtain ⟨x,e1,e2⟩:=r.get e
   refine ⟨x,?_,e2⟩
   unfold L2.qN
   rw [List.getElem?_append_left (by simp; omega),List.getElem?_map,e1]; rfl
 ·rw [List.getElem?_append_right (by simpa using hi),List.getElem?_replicate] at q
  split at q <;> cases q
noncomputable def jC (N:List Str) (n:Nat) (B:Rho->Option Out) (ds:List PyData):Option PyData:=if ds.length=n then match B (jE N ds) with
 | some (.rt d)=>some d
 | some (.nx _)=>some .none
 | _=>none else none
section
variable {P:Program}{w:World}{K:PySem.W.Frag}{mg:Str->Option Value}{base:Heap}
theorem jW {x qual:Str}{st:Stmt}{f:Addr}{fd:FuncData}{N ps:List Str}{k:Nat}{B:Rho->Option Out} (F:Fun K x qual st f fd) (S:FnScope N ps (jf st))
  (body:∀ (cdv:Value) (A:Around) (outer:List Env) (s:Shared) (H:Hp) (E:XK),Room k (A.deeper (envOfC qual (jf st) s.heap.objs.size f cdv))->
   Jh (zp CX0 P w K mg base N qual (jf st) f cdv A outer s H E).nox (jK st) B):FnOk P w K mg base CX0 (k+1) f fd ps (Pur K ps.length (jC N ps.length B)):=by
 with_unfolding_all
  refine F.ok S (fun vs H Q E h=>?_) (fun cdv A outer s H vs Q E hr h=>?_)
  ·obtain ⟨ds,d,h1,h2,_⟩:=h
   rw [h2.length]; exact h1
  ·obtain ⟨ds,d,h1,h2,h3,h4⟩:=h
   refine ⟨_,body cdv A outer s H E hr,?_⟩
   unfold jC at h3
   rw [if_pos h1] at h3
   cases hB:B (jE N ds) with
   | none=>rw [hB] at h3; cases h3
   | some o=>
    refine ⟨jE N ds,o,JC h2,hB,?_⟩
    rw [hB] at h3
    cases o with
    | rt c=>cases h3; exact fun v H' s r=>h4 v H' s r
    | nx ρ=>cases h3; exact fun σ H' s r=>h4 .non H' s rfl
    | bk ρ=>cases h3
    | ct ρ=>cases h3
theorem akg {k n:Nat}{f:Addr}{fd:FuncData}{ps:List Str}{g g':List PyData->Option PyData} (F:FnOk P w K mg base CX0 k f fd ps (Pur K n g)) (h:∀ ds d,ds.length=n->g' ds=some d->g ds=some d):FnOk P w K mg base CX0 k f fd ps (Pur K n g'):=
 F.imp fun vs H Q E ⟨ds,d,h1,h2,h3,h4⟩=>⟨ds,d,h1,h2,h ds d h1 h3,h4⟩
end
section
variable {X:Cx}
noncomputable def akh (K:PySem.W.Frag):R2:=fun x y H Q=>∃ a b ys,x= .ref a/\y= .ref b/\SqT K H a []/\SqT K H b ys/\Q (.ref b) H
theorem ahj:OpR X (binaryOp .Add) (akh X.K):=by
 intro pins s σ H x y v u Q I rx ry h
 obtain ⟨a,b,ys,rfl,rfl,ha,hb,q⟩:=h
 cases rx
 cases ry
 obtain ⟨its,r1,p1,_⟩:=I.tuple ha
 obtain ⟨its2,r2,p2,_⟩:=I.tuple hb
 cases r1
 obtain ⟨⟨c1,d1,t1,l1⟩,ho,hc,n,hd⟩:=id p1
 obtain ⟨⟨c2,d2,t2,l2⟩,ho2,hc2,n2,hd2⟩:=id p2
 simp only at hc hd hc2 hd2
 subst hc hd hc2 hd2
 exact concat_meets ⟨_,ho,rfl⟩ ⟨_,ho2,rfl⟩ noFill_tuple_add seq_tuple_add PySem.F.slot_tuple_add PySem.F.entry_tuple_add (PySem.F.args_tuple_add_2 _ _)
  (tuple_addW0 a b _ _ n n2 d1 d2 l1 l2 (by simp)) ⟨ho,ho2,⟨.ref b,H,I,rfl,q⟩⟩
noncomputable def zF:PyData->PyData->Option PyData
 | .int i,.int j=>some (.int (i+j))
 | .list xs,.list ys=>if few (xs++ys)=true then some (.list (xs++ys)) else none
 | .tuple [],.tuple ys=>some (.tuple ys)
 | .tuple (x::xs),.tuple ys=>if few ((x::xs)++ys)=true then some (.tuple ((x::xs)++ys)) else none
 | _,_=>none
theorem jv:OpD X (binaryOp .Add) zF:=by
 refine ⟨_,aiM.or (aiU.or (ahj.or ag1)),fun p q d x y H Q h rx ry k=>?_⟩
 unfold zF at h
 split at h
 ·cases h
  cases (show x=_ from rx)
  cases (show y=_ from ry)
  exact .inl ⟨_,_,rfl,rfl,k _ H (ji.refl H) rfl⟩
 ·rename_i xs ys
  split at h
  ·rename_i hf
   cases h
   obtain ⟨a,us,e1,e2,e3⟩:=rx
   obtain ⟨b,ws,e4,e5,e6⟩:=ry
   have hl:us.length+ws.length < 1000000:=by
    rw [e3.length,e6.length]
    simp [few] at hf
    try simp only [List.length_cons]
    omega
   exact .inr (.inl ⟨a,b,us,ws,e1,e4,e2,e5,aba hl,fun p hp=>k _ _ (jt hp) ⟨p,_,rfl,jp,Reps.mono (jt hp) _ _ (e3.append e6)⟩⟩)
  ·cases h
 ·rename_i ys
  cases h
  obtain ⟨a,us,e1,e2,e3⟩:=rx
  cases (show us=[] from e3)
  obtain ⟨b,ws,e4,e5,e6⟩:=ry
  exact .inr (.inr (.inl ⟨a,b,ws,e1,e4,e2,e5,k _ H (ji.refl H) ⟨b,ws,rfl,e5,e6⟩⟩))
 ·rename_i z xs ys
  split at h
  ·rename_i hf
   cases h
   obtain ⟨a,us,e1,e2,e3⟩:=rx
   obtain ⟨b,ws,e4,e5,e6⟩:=ry
   have hl:us.length+ws.length < 1000000:=by
    rw [e3.length,e6.length]
    simp [few] at hf
    try simp only [List.length_cons]
    omega
   refine .inr (.inr (.inr ⟨a,b,us,ws,e1,e4,e2,e5,fun z=>?_,aba hl,fun z=>?_,fun _ p hp=>?_⟩))
   ·have:=e3.length; rw [z] at this; simp at this
   ·subst z
    have:=e6.length
    have hy:ys=[]:=List.length_eq_zero_iff.mp (by simpa using this.symm)
    subst hy
    exact k _ H (ji.refl H) ⟨a,us,rfl,e2,by simpa using e3⟩
   ·exact k _ _ (jt hp) ⟨p,_,rfl,SqT.of jp,Reps.mono (jt hp) _ _ (e3.append e6)⟩
  ·cases h
 ·cases h
noncomputable def ai4:PyData->PyData->Option PyData
 | .int i,.int j=>some (.int (i - j))
 | _,_=>none
theorem ahk:OpD X (binaryOp .Sub) ai4:=by
 refine ⟨_,aiN,fun p q d x y H Q h rx ry k=>?_⟩
 unfold ai4 at h
 split at h
 ·cases h; cases (show x=_ from rx); cases (show y=_ from ry); exact ⟨_,_,rfl,rfl,k _ H (ji.refl H) rfl⟩
 ·cases h
theorem Reps.rep {K:PySem.W.Frag}{H:Hp}{ds:List PyData}{xs:List V} (h:Reps K H ds xs):∀ (n:Nat),Reps K H (List.replicate n ds).flatten (List.replicate n xs).flatten
 | 0=>rfl
 | n+1=>by rw [List.replicate_succ,List.replicate_succ,List.flatten_cons,List.flatten_cons]; exact h.append (Reps.rep h n)
noncomputable def JP:PyData->PyData->Option PyData
 | .int i,.int j=>if (-(2 ^ 64) < i/\i < 2 ^ 64) ∨ (-(2 ^ 64) < j/\j < 2 ^ 64) then some (.int (i*j)) else none
 | .list xs,.int k=>if k < 1000/\xs.length < 1000/\-1000 < k then some (.list (List.replicate k.toNat xs).flatten) else none
 | _,_=>none
theorem qK:OpD X (binaryOp .Mult) JP:=by
 refine ⟨_,aiO.or acY,fun p q d x y H Q h rx ry k=>?_⟩
 unfold JP at h
 split at h
 ·split at h
  ·rename_i hc
   cases h; cases (show x=_ from rx); cases (show y=_ from ry); exact .inl ⟨_,_,rfl,rfl,hc,k _ H (ji.refl H) rfl⟩
  ·cases h
 ·rename_i xs n
  split at h
  ·rename_i hc
   cases h
   obtain ⟨a,us,e1,e2,e3⟩:=rx
   cases (show y=_ from ry)
   have hl:=e3.length
   have hs:us.length*n.toNat<=sizeLine:=by
    rw [sizeLine_eq]
    have h1:us.length<=1000:=by omega
    have h2:n.toNat<=1000:=by omega
    exact Nat.le_trans (Nat.mul_le_mul h1 h2) (by decide)
   exact .inr ⟨a,n,us,e1,rfl,e2,by omega,by omega,hs,fun p hp=>k _ _ (jt hp) ⟨p,_,rfl,jp,Reps.mono (jt hp) _ _ (Reps.rep e3 n.toNat)⟩⟩
  ·cases h
 ·cases h
noncomputable def adE:PyData->PyData->Option PyData
 | .int i,.int j=>if 0 < j/\j < 1073741824 then some (.int (i / j)) else none
 | _,_=>none
theorem Ql:OpD X (binaryOp .FloorDiv) adE:=by
 refine ⟨_,agW,fun p q d x y H Q h rx ry k=>?_⟩
 unfold adE at h
 split at h
 ·split at h
  ·rename_i hc
   cases h; cases (show x=_ from rx); cases (show y=_ from ry); exact ⟨_,_,rfl,rfl,hc,k _ H (ji.refl H) rfl⟩
  ·cases h
 ·cases h
noncomputable def ahl:PyData->PyData->Option PyData
 | .int i,.int j=>if 0 < j then some (.int (i % j)) else none
 | _,_=>none
theorem JD:OpD X (binaryOp .Mod) ahl:=by
 refine ⟨_,aiP,fun p q d x y H Q h rx ry k=>?_⟩
 unfold ahl at h
 split at h
 ·split at h
  ·rename_i hc
   cases h; cases (show x=_ from rx); cases (show y=_ from ry); exact ⟨_,_,rfl,rfl,hc,k _ H (ji.refl H) rfl⟩
  ·cases h
 ·cases h
noncomputable def okD (d:PyData):Bool:=d.canLay0 && decide (d.depth < 30)
noncomputable def aki (K:PySem.W.Frag) (neg:Bool):R2:=fun x y H Q=>∃ p q,Rep K H p x/\Rep K H q y/\okD p=true/\okD q=true/\Q (.bl (if neg then !PyData.eqv p q else PyData.eqv p q)) H
theorem jU {d:PyData} (h:okD d=true):d.canLay0=true:=by simp [okD] at h; exact h.1
theorem ZD {d:PyData} (h:okD d=true):d.depth < 30:=by simp [okD] at h; exact h.2
theorem ai5 (hu:X.A.units+64 < cLine):OpR X (compareOp .Eq) (aki X.K false):=by
 intro pins s σ H x y v u Q I rx ry ⟨p,q,h1,h2,h3,h4,k⟩
 obtain ⟨as,ra⟩:=j9 I p x v h1 rx (jU h3)
 obtain ⟨bs,rb⟩:=j9 I q y u h2 ry (jU h4)
 have d1:=ZD h3
 exact SeqAt.compareEq_reads ra rb (jU h3) (jU h4) (by omega) ⟨.bl _,H,I,rfl,k⟩
theorem ai6 (hu:X.A.units+64 < cLine):OpR X (compareOp .NotEq) (aki X.K true):=by
 intro pins s σ H x y v u Q I rx ry ⟨p,q,h1,h2,h3,h4,k⟩
 obtain ⟨as,ra⟩:=j9 I p x v h1 rx (jU h3)
 obtain ⟨bs,rb⟩:=j9 I q y u h2 ry (jU h4)
 have d1:=ZD h3
 exact SeqAt.compareNe_reads ra rb (jU h3) (jU h4) (by omega) ⟨.bl _,H,I,rfl,k⟩
noncomputable def akj (K:PySem.W.Frag):R2:=fun x y H Q=>∃ a b ns,x= .ref a/\y= .ref b/\SqL K H a (List.map V.int ns)/\H b=some (.lst [])/\Q (.bl ns.isEmpty) H
theorem JS (h:Heap):∀ (ns:List Int) (us:List Value),jw (List.map V.int ns) us->∃ as,ReadsAll h us (ns.map PyData.int) as
 | [],us,r=>by cases r; exact ⟨_,.nil⟩
 | n::ns,us,r=>by
  cases r with
  | cons r1 r2=>
   obtain ⟨t,rfl⟩:=r1
   obtain ⟨as,ra⟩:=JS h ns _ r2
   exact ⟨_,.cons (.int n t) ra⟩
theorem ab0:∀ ns:List Int,PyData.canLayAll0 (ns.map PyData.int)=true
 | []=>rfl
 | n::ns=>by simp [PyData.canLayAll0,PyData.canLay0,ab0 ns]
theorem ahm (hu:X.A.units+64 < cLine):OpR X (compareOp .Eq) (akj X.K):=by
 intro pins s σ H x y v u Q I rx ry ⟨a,b,ns,e1,e2,h1,h2,k⟩
 subst e1; subst e2
 cases rx; cases ry
 obtain ⟨its,rv,⟨o,n,g1,g2,g3,g4⟩,_⟩:=I.list h1
 obtain ⟨as,ra⟩:=JS s.heap ns its rv
 obtain ⟨bs,rb⟩:=j9 I (.list []) (.ref b) (.ref b) ⟨b,[],rfl,h2,rfl⟩ rfl rfl
 have ra':Reads s.heap (.ref a) (.list (ns.map PyData.int)) (a::as):= .list g1 g2 g4 (by simpa using ra)
 refine SeqAt.compareEq_reads ra' rb (by simpa [PyData.canLay0] using ab0 ns) rfl ?_ ⟨.bl _,H,I,rfl,?_⟩
 ·have:(PyData.list []).depth=1:=rfl
  rw [this]; omega
 ·have:PyData.eqv (.list (ns.map PyData.int)) (.list [])=ns.isEmpty:=by cases ns <;> simp [PyData.eqv,PyData.eqvAll]
  rw [this]; exact k
noncomputable def dEq:PyData->PyData->Option PyData
 | .dict kvs,.list []=>if zi kvs=true then some (.bool kvs.isEmpty) else none
 | p,q=>if okD p=true/\okD q=true then some (.bool (PyData.eqv p q)) else none
theorem JY (hu:X.A.units+64 < cLine):OpD X (compareOp .Eq) dEq:=by
 refine ⟨_,(ahm hu).or (ai5 hu),fun p q d x y H Q h rx ry k=>?_⟩
 unfold dEq at h
 split at h
 ·split at h
  ·rename_i hs
   cases h
   obtain ⟨a,ns,e1,e2,e3⟩:=rx.scrOut hs
   obtain ⟨b,ws,e4,e5,e6⟩:=ry
   cases (show ws=[] from e6)
   refine .inl ⟨a,b,ns,e1,e4,e2,e5,?_⟩
   have:ns.isEmpty=(ns.map fun n=>(PyData.int n,PyData.none)).isEmpty:=by simp
   subst e3
   rw [this]
   exact k _ H (ji.refl H) rfl
  ·cases h
 ·split at h
  ·rename_i hc
   cases h
   exact .inr ⟨p,q,rx,ry,hc.1,hc.2,k _ H (ji.refl H) rfl⟩
  ·cases h
noncomputable def dNe:PyData->PyData->Option PyData:=fun p q=>if okD p=true/\okD q=true then some (.bool (!PyData.eqv p q)) else none
theorem zh (hu:X.A.units+64 < cLine):OpD X (compareOp .NotEq) dNe:=by
 refine ⟨_,ai6 hu,fun p q d x y H Q h rx ry k=>?_⟩
 unfold dNe at h
 split at h
 ·rename_i hc
  cases h
  exact ⟨p,q,rx,ry,hc.1,hc.2,k _ H (ji.refl H) rfl⟩
 ·cases h
noncomputable def ai7 (K:PySem.W.Frag) (neg:Bool):R2:=fun x y H Q=>∃ p ds,Rep K H p x/\(Rep K H (.list ds) y ∨ Rep K H (.tuple ds) y)/\okD p=true/\okD (.list ds)=true/\Q (.bl (if neg then !(ds.any fun z=>PyData.eqv z p) else ds.any fun z=>PyData.eqv z p)) H
theorem ai8 (hu:X.A.units+64 < cLine):OpR X (compareOp .In) (ai7 X.K false):=by
 intro pins s σ H x y v u Q I rx ry ⟨p,ds,h1,h2,h3,h4,k⟩
 obtain ⟨as,ra⟩:=j9 I p x v h1 rx (jU h3)
 have d1:=ZD h3
 have hc:PyData.canLayAll0 ds=true:=by simpa [PyData.canLay0] using jU h4
 rcases h2 with h2 | h2
 ·obtain ⟨bs,rb⟩:=j9 I (.list ds) y u h2 ry (jU h4)
  exact SeqAt.in_list_reads rb ra hc (jU h3) (by omega) ⟨.bl _,H,I,rfl,k⟩
 ·obtain ⟨bs,rb⟩:=j9 I (.tuple ds) y u h2 ry (by simpa [PyData.canLay0] using hc)
  exact SeqAt.in_tuple_reads rb ra hc (jU h3) (by omega) ⟨.bl _,H,I,rfl,k⟩
theorem aeg (hu:X.A.units+64 < cLine):OpR X (compareOp .NotIn) (ai7 X.K true):=by
 intro pins s σ H x y v u Q I rx ry ⟨p,ds,h1,h2,h3,h4,k⟩
 obtain ⟨as,ra⟩:=j9 I p x v h1 rx (jU h3)
 have d1:=ZD h3
 have hc:PyData.canLayAll0 ds=true:=by simpa [PyData.canLay0] using jU h4
 rcases h2 with h2 | h2
 ·obtain ⟨bs,rb⟩:=j9 I (.list ds) y u h2 ry (jU h4)
  exact SeqAt.notIn_list_reads rb ra hc (jU h3) (by omega) ⟨.bl _,H,I,rfl,k⟩
 ·obtain ⟨bs,rb⟩:=j9 I (.tuple ds) y u h2 ry (by simpa [PyData.canLay0] using hc)
  exact SeqAt.notIn_tuple_reads rb ra hc (jU h3) (by omega) ⟨.bl _,H,I,rfl,k⟩
noncomputable def dIn (neg:Bool):PyData->PyData->Option PyData:=fun p q=>match q with
 | .list ds=>if okD p=true/\okD (.list ds)=true then some (.bool (if neg then !(ds.any fun z=>PyData.eqv z p) else ds.any fun z=>PyData.eqv z p)) else none
 | .tuple ds=>if okD p=true/\okD (.list ds)=true then some (.bool (if neg then !(ds.any fun z=>PyData.eqv z p) else ds.any fun z=>PyData.eqv z p)) else none
 | _=>none
theorem air {neg:Bool}{p q d:PyData}{x y:V}{H:Hp}{Q:VK}{K:PySem.W.Frag} (h:dIn neg p q=some d) (rx:Rep K H p x) (ry:Rep K H q y) (k:∀ v H',ji H H'->Rep K H' d v->Q v H'):ai7 K neg x y H Q:=by
 unfold dIn at h
 split at h
 ·split at h
  ·rename_i ds hc
   cases h
   exact ⟨p,ds,rx,.inl ry,hc.1,hc.2,k _ H (ji.refl H) rfl⟩
  ·cases h
 ·split at h
  ·rename_i ds hc
   cases h
   exact ⟨p,ds,rx,.inr ry,hc.1,hc.2,k _ H (ji.refl H) rfl⟩
  ·cases h
 ·cases h
theorem ai9 (hu:X.A.units+64 < cLine):OpD X (compareOp .In) (dIn false):=⟨_,ai8 hu,fun p q d x y H Q h rx ry k=>air h rx ry k⟩
theorem aeh (hu:X.A.units+64 < cLine):OpD X (compareOp .NotIn) (dIn true):=⟨_,aeg hu,fun p q d x y H Q h rx ry k=>air h rx ry k⟩
noncomputable def Z4 (f:Int->Int->Bool):PyData->PyData->Option PyData
 | .int i,.int j=>some (.bool (f i j))
 | _,_=>none
theorem afo {f:Int->Int->Bool}{p q d:PyData}{x y:V}{H:Hp}{Q:VK}{K:PySem.W.Frag} (h:Z4 f p q=some d) (rx:Rep K H p x) (ry:Rep K H q y) (k:∀ v H',ji H H'->Rep K H' d v->Q v H'):rI0 (fun i j=> .bl (f i j)) x y H Q:=by
 unfold Z4 at h
 split at h
 ·cases h; cases (show x=_ from rx); cases (show y=_ from ry); exact ⟨_,_,rfl,rfl,k _ H (ji.refl H) rfl⟩
 ·cases h
theorem aja:OpD X (compareOp .Lt) (Z4 fun i j=>decide (i < j)):=⟨_,aj2,fun p q d x y H Q h rx ry k=>afo h rx ry k⟩
theorem zG:OpD X (compareOp .LtE) (Z4 fun i j=>decide (i<=j)):=⟨_,aj3,fun p q d x y H Q h rx ry k=>afo h rx ry k⟩
noncomputable def chn (g g':PyData->PyData->Option PyData) (fa fb fc:Rho->Option PyData):Rho->Option PyData:=fun ρ=>(fa ρ).bind fun x=>(fb ρ).bind fun y=>(g x y).bind fun z=>(asB z).bind fun t=>if t=true then (fc ρ).bind fun w=>g' y w else some (.bool false)
variable {a b c e:Expr}{fa fb fc:Rho->Option PyData}{pos:Pos}
theorem ais {g g':PyData->PyData->Option PyData}{K:PySem.W.Frag}{r r':R2} (hr:∀ p q d x y H Q,g p q=some d->Rep K H p x->Rep K H q y->(∀ v H',ji H H'->Rep K H' d v->Q v H')->r x y H Q)
  (hr':∀ p q d x y H Q,g' p q=some d->Rep K H p x->Rep K H q y->(∀ v H',ji H H'->Rep K H' d v->Q v H')->r' x y H Q) {σ:St} {H:Hp} {Q:VK} (h:tD K (chn g g' fa fb fc) σ H Q):acR r r' (tD K fa) (tD K fb) (tD K fc) σ H Q:=by
 obtain ⟨ρ,d,en,h,k⟩:=h
 unfold chn at h
 cases ha:fa ρ with
 | none=>rw [ha] at h; cases h
 | some p=>
  cases hb:fb ρ with
  | none=>rw [ha,hb] at h; cases h
  | some q=>
   rw [ha,hb] at h
   cases hg:g p q with
   | none=>simp [hg] at h
   | some z=>
    cases ht:asB z with
    | none=>simp [hg,ht] at h
    | some t=>
     have hz:=zJ ht
     subst hz
     refine ⟨ρ,p,en,ha,fun x H1 s1 r1=>⟨ρ,q,en.mono s1,hb,fun y H2 s2 r2=>?_⟩⟩
     refine hr p q _ x y H2 _ hg (Rep.mono s2 p x r1) r2 fun v H3 s3 r3=>⟨t,r3,?_⟩
     have s13:=s1.trans (s2.trans s3)
     cases t with
     | false=>
      rw [if_neg Bool.false_ne_true]
      have hd:PyData.bool false=d:=by simpa [hg,asB] using h
      subst hd
      exact k _ H3 s13 rfl
     | true=>
      rw [if_pos rfl]
      cases hc:fc ρ with
      | none=>simp [hg,asB,hc] at h
      | some w=>
       refine ⟨ρ,w,en.mono s13,hc,fun z H4 s4 r4=>?_⟩
       exact hr' q w d y z H4 Q (by simpa [hg,asB,hc] using h) (Rep.mono (s3.trans s4) q y r2) r4 fun v H5 s5 r5=>k v H5 (s13.trans (s4.trans s5)) r5
theorem afp {op op':CmpOp}{g g':PyData->PyData->Option PyData} (ho:OpD X (compareOp op) g) (ho':OpD X (compareOp op') g') (ha:PD X a fa) (hb:PD X b fb) (hc:PD X c fc)
  (hm:lastMarks [op,op'] [b,c]=false:=by with_unfolding_all rfl):PD X (.Compare a [op,op'] [b,c] pos) (chn g g' fa fb fc):=by
 with_unfolding_all
  obtain ⟨r,h1,h2⟩:=ho
  obtain ⟨r',h3,h4⟩:=ho'
  exact PE.imp (ae7 h1 h3 ha hb hc hm) fun σ H Q h=>ais h2 h4 h
theorem JE {op op':CmpOp}{g g':PyData->PyData->Option PyData} (ho:OpD X (compareOp op) g) (ho':OpD X (compareOp op') g') (ha:PD X a fa) (hb:PD X b fb) (hc:PD X c fc)
  (hm:lastMarks [op,op'] [b,c]=false:=by with_unfolding_all rfl):PTD X (.Compare a [op,op'] [b,c] pos) (tst (chn g g' fa fb fc)):=by
 with_unfolding_all
  obtain ⟨r,h1,h2⟩:=ho
  obtain ⟨r',h3,h4⟩:=ho'
  refine PT.imp (ae8 h1 h3 ha hb hc hm) fun σ H Q ⟨ρ,t,en,h,k⟩=>?_
  cases hd:chn g g' fa fb fc ρ with
  | none=>simp [tst,hd] at h
  | some d=>
   have ht:d= .bool t:=zJ (by simpa [tst,hd] using h)
   subst ht
   exact ais h2 h4 ⟨ρ,_,en,hd,fun v H' s r=>⟨t,r,k H' s⟩⟩
noncomputable def dIx:PyData->PyData->Option PyData
 | .list ds,.int i=>if ds.length < 1000000 then atI ds i else none
 | .tuple ds,.int i=>if ds.length < 1000000 then atI ds i else none
 | .dict kvs,.int i=>if kvs.length < 1000000/\zi kvs=true then (atI kvs i).map (·.1) else none
 | _,_=>none
theorem adF {K:PySem.W.Frag}{H:Hp}{ds:List PyData}{xs:List V}{i:Int}{d:PyData} (r:Reps K H ds xs) (h:atI ds i=some d):∃ x,atI xs i=some x/\Rep K H d x:=by
 have hl:=r.length
 unfold atI at h ⊢
 rw [hl]
 cases e:ixN ds.length i with
 | none=>rw [e] at h; cases h
 | some j=>
  rw [e] at h
  obtain ⟨x,e1,e2⟩:=r.get (show ds[j]?=some d from h)
  exact ⟨x,e1,e2⟩
noncomputable def IxD (X:Cx) (g:PyData->PyData->Option PyData):Prop:=∃ r,IxR X r/\∀ p q d x y H Q,g p q=some d->Rep X.K H p x->Rep X.K H q y->(∀ v H',ji H H'->Rep X.K H' d v->Q v H')->r x y H Q
theorem ixd:IxD X dIx:=by
 refine ⟨_,ag2.or aiS,fun p q d x y H Q h rx ry k=>?_⟩
 unfold dIx at h
 split at h
 ·split at h
  ·obtain ⟨a,us,e1,e2,e3⟩:=rx
   cases (show y=_ from ry)
   obtain ⟨z,g1,g2⟩:=adF e3 h
   exact .inl ⟨a,us,_,z,e1,rfl,SqL.of e2,g1,k z H (ji.refl H) g2⟩
  ·cases h
 ·split at h
  ·obtain ⟨a,us,e1,e2,e3⟩:=rx
   cases (show y=_ from ry)
   obtain ⟨z,g1,g2⟩:=adF e3 h
   exact .inr ⟨a,us,_,z,e1,rfl,e2,g1,k z H (ji.refl H) g2⟩
  ·cases h
 ·split at h
  ·rename_i hs
   obtain ⟨a,ns,e1,e2,e3⟩:=rx.scrOut hs.2
   cases (show y=_ from ry)
   subst e3
   rename_i i
   unfold atI at h
   rw [List.length_map] at h
   cases e:ixN ns.length i with
   | none=>rw [e] at h; cases h
   | some j=>
    rw [e] at h
    have h':((ns.map fun n=>(PyData.int n,PyData.none))[j]?).map (·.1)=some d:=h
    rw [List.getElem?_map] at h'
    cases e4:ns[j]? with
    | none=>rw [e4] at h'; cases h'
    | some n=>
     rw [e4] at h'
     cases h'
     refine .inl ⟨a,List.map V.int ns,i,.int n,e1,rfl,e2,?_,k _ H (ji.refl H) rfl⟩
     unfold atI
     rw [List.length_map,e]
     show (List.map V.int ns)[j]?=_
     rw [List.getElem?_map,e4]; rfl
  ·cases h
 ·cases h
theorem qO (ha:PD X a fa) (hb:PD X b fb) (hs:adA b:=by intro _ _; rfl):PD X (.Subscript a b pos) (op2 dIx fa fb):=by
 with_unfolding_all
  obtain ⟨r,h1,h2⟩:=ixd (X:=X)
  exact PE.imp (aj8 h1 ha hb hs) fun σ H Q h=>ahd h2 h
noncomputable def Qm (ds:List PyData):Option PyData:=match ds with
 | [.list xs]=>some (.int xs.length)
 | [.tuple xs]=>some (.int xs.length)
 | [.dict xs]=>if zi xs=true then some (.int xs.length) else none
 | _=>none
theorem Jj:JR X (.builtin "len") Qm:=by
 refine ⟨_,aa6,fun ds d xs H Q h r k=>?_⟩
 unfold Qm at h
 split at h
 ·cases h
  obtain ⟨x,q,e1,e2,e3⟩:=r
  cases (show q=[] from e3)
  obtain ⟨a,us,g1,g2,g3⟩:=e2
  subst g1
  exact ⟨a,us,e1,.inl (SqL.of g2),k _ H (ji.refl H) (by show _=_; rw [g3.length])⟩
 ·cases h
  obtain ⟨x,q,e1,e2,e3⟩:=r
  cases (show q=[] from e3)
  obtain ⟨a,us,g1,g2,g3⟩:=e2
  subst g1
  exact ⟨a,us,e1,.inr g2,k _ H (ji.refl H) (by show _=_; rw [g3.length])⟩
 ·split at h
  ·rename_i hs
   cases h
   obtain ⟨x,q,e1,e2,e3⟩:=r
   cases (show q=[] from e3)
   obtain ⟨a,ns,g1,g2,g3⟩:=e2.scrOut hs
   subst g1; subst g3
   exact ⟨a,_,e1,.inl g2,k _ H (ji.refl H) (by show _=_; simp)⟩
  ·cases h
 ·cases h
noncomputable def afq (ds:List PyData):Option PyData:=match ds with
 | [.int i,.int j]=>some (.int (if j > i then j else i))
 | _=>none
noncomputable def afr (ds:List PyData):Option PyData:=match ds with
 | [.int i,.int j]=>some (.int (if j < i then j else i))
 | _=>none
theorem ahn (hc:X.calm=true):JR X (.builtin "max") afq:=by
 refine ⟨_,ad4 hc,fun ds d xs H Q h r k=>?_⟩
 unfold afq at h
 split at h
 ·cases h
  obtain ⟨x,q,e1,e2,y,q',e3,e4,e5⟩:=r
  cases (show x=_ from e2); cases (show y=_ from e4); cases (show q'=[] from e5); subst e3
  exact ⟨_,_,e1,k _ H (ji.refl H) rfl⟩
 ·cases h
theorem aho (hc:X.calm=true):JR X (.builtin "min") afr:=by
 refine ⟨_,ad5 hc,fun ds d xs H Q h r k=>?_⟩
 unfold afr at h
 split at h
 ·cases h
  obtain ⟨x,q,e1,e2,y,q',e3,e4,e5⟩:=r
  cases (show x=_ from e2); cases (show y=_ from e4); cases (show q'=[] from e5); subst e3
  exact ⟨_,_,e1,k _ H (ji.refl H) rfl⟩
 ·cases h
end
section
variable {X:Cx}{pins:List (Addr × Obj)}{σ:St}{H:Hp}{s:Shared}
theorem QY {prog:Program}{w:World}{A:Around}{E:Value->Shared->Prop}{l:Addr}{its:Array Value}{Q:Value->Shared->Prop} (hl:s.heap.IsList l its)
  (h:∀ (h2:Heap) (it:Addr),(h2.IsListIter it l 0/\h2.IsList l its)->(∀ b ∈ [it,l],b < h2.objs.size)->l ≠ it->(∀ b o,s.heap.get? b=some o->h2.get? b=some o)->s.heap.get? it=none->Q (.ref it) { s with heap:=h2 }):
  wpAny (model prog w) A (pyIter (.ref l)) Q E s:=by
 have hlt:l < s.heap.objs.size:=by
  obtain ⟨_,e,_⟩:=hl
  exact Heap.lt_size e
 refine wpAny_pyIter_list hl (h _ _ ⟨⟨_,Heap.get?_push_size _ rfl,rfl,rfl⟩,hl.push _⟩ (fun b hb=>?_) (Nat.ne_of_lt hlt) (fun b o e=>Heap.get?_push_of_some _ e) (Heap.get?_none_of_le (Nat.le_refl _)))
 rw [Heap.size_push]
 rcases List.mem_cons.mp hb with e | hb
 ·rw [e]; exact Nat.lt_succ_self _
 ·have e:b=l:=by simpa using hb
  rw [e]; exact Nat.lt_succ_of_lt hlt
theorem aaJ {prog:Program}{w:World}{A:Around}{E:Value->Shared->Prop}{l:Addr}{its:Array Value}{Q:Value->Shared->Prop} (hl:s.heap.IsTuple l its)
  (h:∀ (h2:Heap) (it:Addr),(h2.IsTupleIter it l 0/\h2.IsTuple l its)->(∀ b ∈ [it,l],b < h2.objs.size)->l ≠ it->(∀ b o,s.heap.get? b=some o->h2.get? b=some o)->s.heap.get? it=none->Q (.ref it) { s with heap:=h2 }):
  wpAny (model prog w) A (pyIter (.ref l)) Q E s:=by
 have hlt:l < s.heap.objs.size:=by
  obtain ⟨_,e,_⟩:=hl
  exact Heap.lt_size e
 have hl2:∀ o,(s.heap.push o).IsTuple l its:=fun o=>by
  obtain ⟨ob,e,r⟩:=hl
  exact ⟨ob,Heap.get?_push_of_some _ e,r⟩
 refine wpAny_pyIter_tuple hl (h _ _ ⟨⟨_,Heap.get?_push_size _ rfl,rfl,rfl⟩,hl2 _⟩ (fun b hb=>?_) (Nat.ne_of_lt hlt) (fun b o e=>Heap.get?_push_of_some _ e) (Heap.get?_none_of_le (Nat.le_refl _)))
 rw [Heap.size_push]
 rcases List.mem_cons.mp hb with e | hb
 ·rw [e]; exact Nat.lt_succ_self _
 ·have e:b=l:=by simpa using hb
  rw [e]; exact Nat.lt_succ_of_lt hlt
theorem Qn {h h2 h3 : Heap} {it : Addr} (k1 : ∀ b o, h.get? b = some o -> h2.get? b = some o) (hn : h.get? it = none) (k2 : ∀ b o, b ∉ [it] -> h2.get? b = some o -> h3.get? b = some o) : ∀ b o, h.get? b = some o -> h3.get? b = some o := fun b o e =>
  k2 b o (fun z => by have e1 : b = it := by simpa using z
                      rw [e1, hn] at e; cases e) (k1 b o e)
theorem adG:∀ {bs:List Bool}{us:List Value},jw (bs.map V.bl) us->us=bs.map Value.bool
 | [],us,r=>by cases r; rfl
 | b::bs,us,r=>by
  cases r with
  | cons r1 r2=>cases (show _=_ from r1); rw [adG r2]; rfl
theorem aei (bs:List Bool):(List.range bs.length).all (fun i=>bs.getD i false)=bs.all id:=by
 have:bs=(List.range bs.length).map (fun i=>bs.getD i false):=by
  apply List.ext_getElem?
  intro i
  rw [List.getElem?_map]
  by_cases h:i < bs.length
  ·rw [List.getElem?_range h]; simp [List.getD,h]
  ·simp [h]
 conv=>rhs; rw [this]
 rw [List.all_map]; rfl
noncomputable def ak8 (K:PySem.W.Frag):List V->Hp->VK->Prop:=fun xs H Q=>∃ a bs,xs=[.ref a]/\SqL K H a (List.map V.bl bs)/\Q (.bl (bs.all id)) H
theorem aej (hc:X.calm=true):za X (.builtin "all") (ak8 X.K):=by
 intro pins s σ H xs us Q I r ⟨a,bs,e,hq,q⟩
 subst e
 obtain ⟨u,rfl,rx⟩:=Qg r
 cases rx
 obtain ⟨its,rv,pl,hz⟩:=I.list hq
 have ei:=adG rv
 have hh:=I.ok.hd hc
 refine call_all_walk (QY pl.isList fun h2 it st hlt hne k1 hn=>?_)
 refine ⟨it,[it,a],[it],its.toArray.size,(fun i v=>its.toArray[i]?=some v),_,fun i=>bs.getD i false,rfl,Walks.list (A:=X.A.in1) hh it a hne its.toArray,st,?_,fun h3 tk k2=>?_⟩
 ·intro i v s' Q' E' hP hq'
  have:v= .bool (bs.getD i false):=by
   have hP':its[i]?=some v:=by simpa using hP
   rw [ei,List.getElem?_map] at hP'
   cases hb:bs[i]? with
   | none=>rw [hb] at hP'; cases hP'
   | some b=>rw [hb] at hP'; cases hP'; simp [List.getD,hb]
  subst this
  exact wpAny_truthy_bool hq'
 ·have I3:=I.kept (t':=tk) (Qn k1 hn k2)
  have hl:its.toArray.size=bs.length:=by rw [ei]; simp
  refine ⟨.bl (bs.all id),H,I3,?_,q⟩
  show _=_
  rw [hl,aei]
noncomputable def bls:List PyData->Option (List Bool)
 | []=>some []
 | d::r=>(asB d).bind fun b=>(bls r).map fun q=>b::q
theorem Reps.bls {K:PySem.W.Frag}{H:Hp}:∀ {ds:List PyData}{bs:List Bool}{xs:List V},BX.bls ds=some bs->Reps K H ds xs->xs=bs.map V.bl
 | [],bs,xs,h,r=>by simp [BX.bls] at h; subst h; exact r
 | d::ds,bs,xs,h,⟨x,q,e1,e2,e3⟩=>by
  subst e1
  cases h1:asB d with
  | none=>simp [BX.bls,h1] at h
  | some b=>
   cases h2:BX.bls ds with
   | none=>simp [BX.bls,h1,h2] at h
   | some r=>
    have:b::r=bs:=by simpa [BX.bls,h1,h2] using h
    subst this
    have hd:=zJ h1
    subst hd
    cases (show x=_ from e2)
    rw [Reps.bls h2 e3]; rfl
noncomputable def ajb (ds:List PyData):Option PyData:=match ds with
 | [.list xs]=>(bls xs).map fun bs=> .bool (bs.all id)
 | _=>none
theorem ajc (hc:X.calm=true):JR X (.builtin "all") ajb:=by
 refine ⟨_,aej hc,fun ds d xs H Q h r k=>?_⟩
 unfold ajb at h
 split at h
 ·rename_i ys
  cases hb:bls ys with
  | none=>simp [hb] at h
  | some bs=>
   have:PyData.bool (bs.all id)=d:=by simpa [hb] using h
   subst this
   obtain ⟨x,q,e1,e2,e3⟩:=r
   cases (show q=[] from e3)
   obtain ⟨a,us,g1,g2,g3⟩:=e2
   subst g1
   have:=Reps.bls hb g3
   subst this
   exact ⟨a,bs,e1,SqL.of g2,k _ H (ji.refl H) rfl⟩
 ·cases h
noncomputable def zd:PyData->Option Int
 | .int i=>some i
 | _=>none
noncomputable def jX:List PyData->Option (List Int)
 | []=>some []
 | d::r=>(zd d).bind fun b=>(jX r).map fun q=>b::q
theorem qR:∀ {ds:List PyData}{ns:List Int},jX ds=some ns->ds=ns.map PyData.int
 | [],ns,h=>by simp [jX] at h; subst h; rfl
 | d::ds,ns,h=>by
  cases d with
  | int i=>
   cases h2:jX ds with
   | none=>simp [jX,zd,h2] at h
   | some r=>
    have:i::r=ns:=by simpa [jX,zd,h2] using h
    subst this
    rw [qR h2]; rfl
  | _=>simp [jX,zd] at h
theorem qG {ns:List Int}{us:List Value}{i:Nat}{v:Value} (r:jw (ns.map V.int) us) (h:us.toArray[i]?=some v):∃ t,v= .int (ns.getD i 0) t:=by
 have h':us[i]?=some v:=by simpa using h
 have hi:i < us.length:=(List.getElem?_eq_some_iff.mp h').1
 have hl:=r.length
 rw [List.length_map] at hl
 obtain ⟨u,e1,e2⟩:=r.get (show (ns.map V.int)[i]?=some (V.int (ns.getD i 0)) by
  rw [List.getElem?_map]
  have:i < ns.length:=by omega
  simp [List.getD,this])
 rw [h'] at e1; cases e1
 exact e2
theorem Zo (ns:List Int):preSum (fun i=>ns.getD i 0) ns.length=ns.sum:=by
 have go:∀ k,k<=ns.length->preSum (fun i=>ns.getD i 0) k=(ns.take k).sum:=by
  intro k
  induction k with
  | zero=>intro _; simp [preSum]
  | succ k ih=>
   intro hk
   have hlt:k < ns.length:=by omega
   have h1:ns.take (k+1)=ns.take k++[ns[k]]:=by rw [List.take_succ]; simp [hlt]
   rw [h1]
   simp only [preSum,ih (by omega),List.sum_append,List.sum_cons,List.sum_nil,Int.add_zero]
   simp [List.getD,hlt]
 have:=go ns.length (Nat.le_refl _)
 simpa using this
noncomputable def ak9 (K:PySem.W.Frag):List V->Hp->VK->Prop:=fun xs H Q=>∃ a ns,xs=[.ref a]/\(SqL K H a (List.map V.int ns) ∨ SqT K H a (List.map V.int ns))/\Q (.int ns.sum) H
theorem aek (hc:X.calm=true):za X (.builtin "sum") (ak9 X.K):=by
 intro pins s σ H xs us Q I r ⟨a,ns,e,hq,q⟩
 subst e
 obtain ⟨u,rfl,rx⟩:=Qg r
 cases rx
 have hh:=I.ok.hd hc
 rcases hq with hq | hq
 ·obtain ⟨its,rv,pl,hz⟩:=I.list hq
  have hl:its.toArray.size=ns.length:=by have:=rv.length; simp at this ⊢; omega
  refine call_sum_walkG (QY pl.isList fun h2 it st hlt hne k1 hn=>?_)
  refine ⟨it,[it,a],[it],its.toArray.size,(fun i v=>its.toArray[i]?=some v),_,fun i=>ns.getD i 0,rfl,Walks.list (A:=X.A.in1) hh it a hne its.toArray,st,hlt,fun i v hP=>qG rv hP,fun h3 tk t' k2=>?_⟩
  exact ⟨.int ns.sum,H,I.kept (t':=tk) (Qn k1 hn k2),⟨t',by rw [hl,Zo]⟩,q⟩
 ·obtain ⟨its,rv,pl,hz⟩:=I.tuple hq
  have hl:its.toArray.size=ns.length:=by have:=rv.length; simp at this ⊢; omega
  refine call_sum_walkG (aaJ (show s.heap.IsTuple a its.toArray from pl) fun h2 it st hlt hne k1 hn=>?_)
  refine ⟨it,[it,a],[it],its.toArray.size,(fun i v=>its.toArray[i]?=some v),_,fun i=>ns.getD i 0,rfl,Walks.tuple (A:=X.A.in1) hh it a hne its.toArray,st,hlt,fun i v hP=>qG rv hP,fun h3 tk t' k2=>?_⟩
  exact ⟨.int ns.sum,H,I.kept (t':=tk) (Qn k1 hn k2),⟨t',by rw [hl,Zo]⟩,q⟩
noncomputable def abf (ds:List PyData):Option PyData:=match ds with
 | [.list xs]=>(jX xs).map fun ns=> .int ns.sum
 | [.tuple xs]=>(jX xs).map fun ns=> .int ns.sum
 | _=>none
theorem ac0 (hc:X.calm=true):JR X (.builtin "sum") abf:=by
 refine ⟨_,aek hc,fun ds d xs H Q h r k=>?_⟩
 unfold abf at h
 split at h
 ·rename_i ys
  cases hb:jX ys with
  | none=>simp [hb] at h
  | some ns=>
   have:PyData.int ns.sum=d:=by simpa [hb] using h
   subst this
   obtain ⟨x,q,e1,e2,e3⟩:=r
   cases (show q=[] from e3)
   obtain ⟨a,us,g1,g2,g3⟩:=e2
   subst g1
   rw [qR hb] at g3
   have:=Reps.ints g3
   subst this
   exact ⟨a,ns,e1,.inl (SqL.of g2),k _ H (ji.refl H) rfl⟩
 ·rename_i ys
  cases hb:jX ys with
  | none=>simp [hb] at h
  | some ns=>
   have:PyData.int ns.sum=d:=by simpa [hb] using h
   subst this
   obtain ⟨x,q,e1,e2,e3⟩:=r
   cases (show q=[] from e3)
   obtain ⟨a,us,g1,g2,g3⟩:=e2
   subst g1
   rw [qR hb] at g3
   have:=Reps.ints g3
   subst this
   exact ⟨a,ns,e1,.inr g2,k _ H (ji.refl H) rfl⟩
 ·cases h
end
section
variable {prog:Program}{w:World}{A:Around}{E:Value->Shared->Prop}{s:Shared}
theorem JZ {it t:Addr}{i:Nat}{ys:Array Value}{x:Value}{Q:Value->Shared->Prop} (hit:s.heap.IsTupleIter it t i) (ht:s.heap.IsTuple t ys) (hx:ys[i]?=some x)
  (hQ:∀ h',h'.IsTupleIter it t (i+1)->Heap.SameBut it s.heap h'->Q x { s with heap:=h' }):wpAny (model prog w) A (Builtin.SmallTypes.nextOf (.ref it)) Q E s:=by
 obtain ⟨o,ho,hc,hd⟩:=id hit
 obtain ⟨ot,hot,_,nt,hdt⟩:=ht
 unfold Builtin.SmallTypes.nextOf
 refine wpAny_bind (wpAny_callSpecial?_slot (name:=Str.ofString "__next__") hit.typeIs F.slot_tuple_iterator_next
  (wpAny_call_entry F.slot_tuple_iterator_next hit.typeIs F.entry_tuple_iterator_next ?_
   (F.args_tuple_iterator_next_1 _)))
 refine wpAny_bind (m:=field (.ref it) 0) (wpAny_field ho hd (x:= .ref t) rfl ?_)
 have no:¬ ((Value.ref t == Value.none)=true):=Bool.false_ne_true
 show wpAny _ _ (if (Value.ref t == Value.none)=true then _ else
  _) _ _ s
 rw [if_neg no]
 refine wpAny_bind (m:=field (.ref it) 1) (wpAny_field ho hd (x:= .int i 0) rfl ?_)
 refine wpAny_bind (m:=seqItems? (.ref t)) (wpAny_seqItems hot hdt ?_)
 simp only [Int.toNat_natCast,hx]
 refine wpAny_bind (wpAny_setField ho hd (by simp) (wpAny_pure ⟨x,rfl,wpAny_pure (hQ _ ?_ (Heap.SameBut.update ..))⟩))
 refine ⟨_,Heap.get?_update_self _ ho (Obj.isFreed_of_fields (Obj.data_mapFields hd _)),(Obj.cls_mapFields ..).trans hc,?_⟩
 rw [Obj.data_mapFields hd]
 simp [rawInt]
theorem ael {it t:Addr}{i:Nat}{ys:Array Value}{Q:Value->Shared->Prop} (hh:A.handled=none) (hit:s.heap.IsTupleIter it t i) (ht:s.heap.IsTuple t ys) (hx:ys[i]?=none)
  (hE:∀ h' e,Heap.ExtBut it s.heap h'->(∃ o,h'.get? e=some o/\o.cls= .type "StopIteration")->E (.ref e) { s with heap:=h' }):wpAny (model prog w) A (Builtin.SmallTypes.nextOf (.ref it)) Q E s:=by
 obtain ⟨o,ho,hc,hd⟩:=id hit
 obtain ⟨ot,hot,_,nt,hdt⟩:=ht
 unfold Builtin.SmallTypes.nextOf
 refine wpAny_bind (wpAny_callSpecial?_slot (name:=Str.ofString "__next__") hit.typeIs F.slot_tuple_iterator_next
  (wpAny_call_entry F.slot_tuple_iterator_next hit.typeIs F.entry_tuple_iterator_next ?_
   (F.args_tuple_iterator_next_1 _)))
 refine wpAny_bind (m:=field (.ref it) 0) (wpAny_field ho hd (x:= .ref t) rfl ?_)
 have no:¬ ((Value.ref t == Value.none)=true):=Bool.false_ne_true
 show wpAny _ _ (if (Value.ref t == Value.none)=true then _ else
  _) _ _ s
 rw [if_neg no]
 refine wpAny_bind (m:=field (.ref it) 1) (wpAny_field ho hd (x:= .int i 0) rfl ?_)
 refine wpAny_bind (m:=seqItems? (.ref t)) (wpAny_seqItems hot hdt ?_)
 simp only [Int.toNat_natCast,hx]
 refine wpAny_bind (wpAny_rule (wpAny_bind (wpAny_setField ho hd (by simp) ?_)))
 refine wpAny_bind (m:=newExc (.type "StopIteration") []) ?_
 simp only [newExc,newTuple]
 refine wpAny_bind (wpAny_newObj_type ?_ (by size_fits))
 refine wpAny_bind (m:=firstArgMember _ _) (wpAny_of_eq (a:=Value.none)
  (by first | rfl | (simp only [firstArgMember]; rfl)) ?_)
 refine wpAny_newObj_type ?_ (by size_fits)
 simp only [raiseNew]
 refine wpAny_bind (wpAny_handled ?_)
 rw [show A.in1.handled=none from hh]
 refine wpAny_bind (wpAny_pure (wpAny_throw ?_))
 exact hE _ _ (((Heap.SameBut.update ..).extBut.push _).push _) ⟨_,Heap.get?_push_size _ rfl,rfl⟩
noncomputable abbrev Qo (h:Heap) (T:Addr) (a b c:Value):Prop:=h.get? T=some { cls:= .type "tuple",data:= .seq #[a,b,c] }
theorem Z5 {T:Addr}{a b c x:Value}{k:Nat}{Q:Unit->Shared->Prop} (hT:Qo s.heap T a b c)
  (h:∀ h',h'.get? T=some { cls:= .type "tuple",data:= .seq ((#[a,b,c]:Array Value).setIfInBounds k x) }->Heap.SameBut T s.heap h'->Q () { s with heap:=h' }):
  wpAny (model prog w) A (updateSeq T (·.setIfInBounds k x)) Q E s:=by
 refine wpAny_updateSeq hT rfl (h _ ?_ (Heap.SameBut.update ..))
 rw [Heap.get?_update_self _ hT rfl]
 simp [Obj.mapSeq]
structure Apart3 (z TI TO i1 i2 i3 t1 t2 t3:Addr):Prop where
 nd:[z,TO,i1,i2,i3].Nodup
 ti:TI ∉ [z,TO,i1,i2,i3]
 s1:t1 ∉ [z,TO,i1,i2,i3]
 s2:t2 ∉ [z,TO,i1,i2,i3]
 s3:t3 ∉ [z,TO,i1,i2,i3]
structure Zip3 (h:Heap) (z TI TO i1 i2 i3 t1 t2 t3:Addr) (xs ys zs:Array Value) (f0:Value) (k:Nat):Prop where
 hz:IsZip h z TI TO f0
 hTI:Qo h TI (.ref i1) (.ref i2) (.ref i3)
 hTO:∃ a b c,Qo h TO a b c
 g1:h.IsTupleIter i1 t1 k
 g2:h.IsTupleIter i2 t2 k
 g3:h.IsTupleIter i3 t3 k
 a1:h.IsTuple t1 xs
 a2:h.IsTuple t2 ys
 a3:h.IsTuple t3 zs
theorem Zip3.keep {h h':Heap}{z TI TO i1 i2 i3 t1 t2 t3:Addr}{xs ys zs:Array Value}{f0:Value}{k:Nat} (S:Zip3 h z TI TO i1 i2 i3 t1 t2 t3 xs ys zs f0 k)
  (kp:∀ b ∈ [z,TI,TO,i1,i2,i3,t1,t2,t3],∀ o,h.get? b=some o->h'.get? b=some o):Zip3 h' z TI TO i1 i2 i3 t1 t2 t3 xs ys zs f0 k:=by
 obtain ⟨hz,hTI,⟨a,b,c,hTO⟩,⟨o1,e1,r1⟩,⟨o2,e2,r2⟩,⟨o3,e3,r3⟩,⟨p1,f1,q1⟩,⟨p2,f2,q2⟩,⟨p3,f3,q3⟩⟩:=S
 exact ⟨kp z (by simp) _ hz,kp TI (by simp) _ hTI,⟨a,b,c,kp TO (by simp) _ hTO⟩,⟨o1,kp i1 (by simp) _ e1,r1⟩,⟨o2,kp i2 (by simp) _ e2,r2⟩,⟨o3,kp i3 (by simp) _ e3,r3⟩,⟨p1,kp t1 (by simp) _ f1,q1⟩,⟨p2,kp t2 (by simp) _ f2,q2⟩,⟨p3,kp t3 (by simp) _ f3,q3⟩⟩
noncomputable def But (l:List Addr) (h h':Heap):Prop:=∀ b o,b ∉ l->h.get? b=some o->h'.get? b=some o
theorem But.of {b:Addr}{l:List Addr}{h h':Heap} (x:Heap.ExtBut b h h') (hb:b ∈ l):But l h h':=fun c o hc e=>x c o (fun z=>hc (by rw [z]; exact hb)) e
theorem But.trans {l:List Addr}{h h1 h2:Heap} (a:But l h h1) (b:But l h1 h2):But l h h2:=fun c o hc e=>b c o hc (a c o hc e)
theorem aem {z TI TO i1 i2 i3 t1 t2 t3:Addr}{xs ys zs:Array Value}{k:Nat}{x y v:Value}{Q:Value->Shared->Prop} (D:Apart3 z TI TO i1 i2 i3 t1 t2 t3) (S:Zip3 s.heap z TI TO i1 i2 i3 t1 t2 t3 xs ys zs .none k)
  (hx:xs[k]?=some x) (hy:ys[k]?=some y) (hv:zs[k]?=some v)
  (hQ:∀ h',Zip3 h' z TI TO i1 i2 i3 t1 t2 t3 xs ys zs (rawInt s.heap.objs.size) (k+1)->Qo h' s.heap.objs.size x y v->But [z,TO,i1,i2,i3] s.heap h'->Q (.ref s.heap.objs.size) { s with heap:=h' }):
  wpAny (model prog w) A (Builtin.«zip.__next__» ⟨[.ref z],[]⟩) (fun fin s'=>∃ v,fin= .done (.ret v)/\Q v s') E s:=by
 obtain ⟨hz,hTI,⟨a,b,c,hTO⟩,g1,g2,g3,a1,a2,a3⟩:=S
 obtain ⟨nd,ti,s1,s2,s3⟩:=D
 simp only [List.nodup_cons,List.mem_cons,List.not_mem_nil,or_false,not_or] at nd ti s1 s2 s3
 obtain ⟨⟨n1,n2,n3,n4⟩,⟨n5,n6,n7⟩,⟨n8,n9⟩,n10,_⟩:=nd
 obtain ⟨t1z,t1o,t11,t12,t13⟩:=s1
 obtain ⟨t2z,t2o,t21,t22,t23⟩:=s2
 obtain ⟨t3z,t3o,t31,t32,t33⟩:=s3
 obtain ⟨tiz,tio,ti1,ti2,ti3⟩:=ti
 refine wpAny_bind (m:=field (.ref z) 2) (wpAny_field hz rfl (x:= .bool false) rfl ?_)
 refine wpAny_bind (m:=field (.ref z) 3) (wpAny_field hz rfl (x:= .ref TI) rfl ?_)
 refine wpAny_bind (wpAny_seqItems hTI rfl ?_)
 refine wpAny_bind (m:=Builtin.SmallTypes.ownedTupleIsFree (.ref z)) ?_
 unfold Builtin.SmallTypes.ownedTupleIsFree
 refine wpAny_bind (wpAny_field hz rfl (x:= .none) rfl (wpAny_pure ?_))
 simp only [zzM]
 refine wpAny_bind (wpAny_rule ?_)
 refine wpAny_bind (wpAny_field hz rfl (x:= .ref TO) rfl ?_)
 refine wpAny_bind (wpAny_setField_rec hz (by simp) fun h1 hz1 b1=>?_)
 replace hz1:IsZip h1 z TI TO .ellipsis:=hz1
 refine wpAny_bind ?_
 simp only [List.zipIdx_cons,List.zipIdx_nil,List.forIn_cons,List.forIn_nil]
 refine wpAny_bind (wpAny_bind (wpAny_onRaise ?_))
 refine wpAny_bind (m:=Builtin.SmallTypes.nextOf (.ref i1)) ?_
 refine JZ (g1.extBut b1.extBut (Ne.symm n2)) (a1.extBut b1.extBut t1z) hx fun h2 g1' b2=>wpAny_pure ?_
 have o2:Qo h2 TO a b c:=b2.extBut _ _ n5 (b1.extBut _ _ (Ne.symm n1) hTO)
 refine wpAny_bind (wpAny_seqItems o2 rfl ?_)
 refine wpAny_bind (Z5 o2 fun h3 o3 b3=>?_)
 replace o3:Qo h3 TO x b c:=o3
 refine wpAny_bind (wpAny_letGo (wpAny_pure ?_))
 refine wpAny_bind (wpAny_bind (wpAny_onRaise ?_))
 refine wpAny_bind (m:=Builtin.SmallTypes.nextOf (.ref i2)) ?_
 refine JZ (((g2.extBut b1.extBut (Ne.symm n3)).extBut b2.extBut (Ne.symm n8)).extBut b3.extBut (Ne.symm n6)) (((a2.extBut b1.extBut t2z).extBut b2.extBut t21).extBut b3.extBut t2o) hy fun h4 g2' b4=>wpAny_pure ?_
 have o4:Qo h4 TO x b c:=b4.extBut _ _ n6 o3
 refine wpAny_bind (wpAny_seqItems o4 rfl ?_)
 refine wpAny_bind (Z5 o4 fun h5 o5 b5=>?_)
 replace o5:Qo h5 TO x y c:=o5
 refine wpAny_bind (wpAny_letGo (wpAny_pure ?_))
 refine wpAny_bind (wpAny_bind (wpAny_onRaise ?_))
 refine wpAny_bind (m:=Builtin.SmallTypes.nextOf (.ref i3)) ?_
 refine JZ (((((g3.extBut b1.extBut (Ne.symm n4)).extBut b2.extBut (Ne.symm n9)).extBut b3.extBut (Ne.symm n7)).extBut b4.extBut (Ne.symm n10)).extBut b5.extBut (Ne.symm n7))
  (((((a3.extBut b1.extBut t3z).extBut b2.extBut t31).extBut b3.extBut t3o).extBut b4.extBut t32).extBut b5.extBut t3o) hv fun h6 g3' b6=>wpAny_pure ?_
 have o6:Qo h6 TO x y c:=b6.extBut _ _ n7 o5
 refine wpAny_bind (wpAny_seqItems o6 rfl ?_)
 refine wpAny_bind (Z5 o6 fun h7 o7 b7=>?_)
 replace o7:Qo h7 TO x y v:=o7
 refine wpAny_bind (wpAny_letGo (wpAny_pure (wpAny_pure ?_)))
 refine wpAny_bind (wpAny_seqItems o7 rfl ?_)
 refine wpAny_bind (wpAny_newTuple ?_)
 have sz:h7.objs.size=s.heap.objs.size:=by rw [b7.1,b6.1,b5.1,b4.1,b3.1,b2.1,b1.1]
 have B:But [z,TO,i1,i2,i3] s.heap h7:=
  ((((((But.of b1.extBut (by simp)).trans (But.of b2.extBut (by simp))).trans (But.of b3.extBut (by simp))).trans (But.of b4.extBut (by simp))).trans (But.of b5.extBut (by simp))).trans (But.of b6.extBut (by simp))).trans (But.of b7.extBut (by simp))
 have z7:IsZip h7 z TI TO .ellipsis:=b7.extBut _ _ n1 (b6.extBut _ _ n4 (b5.extBut _ _ n1 (b4.extBut _ _ n3 (b3.extBut _ _ n1 (b2.extBut _ _ n2 hz1)))))
 have i17:h7.IsTupleIter i1 t1 (k+1):=((((g1'.extBut b3.extBut (Ne.symm n5)).extBut b4.extBut n8).extBut b5.extBut (Ne.symm n5)).extBut b6.extBut n9).extBut b7.extBut (Ne.symm n5)
 have i27:h7.IsTupleIter i2 t2 (k+1):=((g2'.extBut b5.extBut (Ne.symm n6)).extBut b6.extBut n10).extBut b7.extBut (Ne.symm n6)
 have i37:h7.IsTupleIter i3 t3 (k+1):=g3'.extBut b7.extBut (Ne.symm n7)
 refine wpAny_bind (m:=Builtin.SmallTypes.ownedTupleHandOut (.ref z) (.ref h7.objs.size)) ?_
 unfold Builtin.SmallTypes.ownedTupleHandOut
 have z8:IsZip (h7.push { cls:= .type "tuple",data:= .seq #[x,y,v] }) z TI TO .ellipsis:=Heap.get?_push_of_some _ z7
 refine wpAny_bind (wpAny_setField_rec z8 (by simp) fun h9 z9 b9=>?_)
 replace z9:IsZip h9 z TI TO (rawInt h7.objs.size):=z9
 refine wpAny_setField_rec z9 (by simp) fun h10 z10 b10=>?_
 replace z10:IsZip h10 z TI TO (rawInt h7.objs.size):=z10
 have up:∀ c o,c ≠ z->h7.get? c=some o->h10.get? c=some o:=fun c o c1 e=>b10.extBut _ _ c1 (b9.extBut _ _ c1 (Heap.get?_push_of_some _ e))
 have zlt:z < h7.objs.size:=Heap.lt_size z7
 have T10:Qo h10 h7.objs.size x y v:=b10.extBut _ _ (Nat.ne_of_gt zlt) (b9.extBut _ _ (Nat.ne_of_gt zlt) (Heap.get?_push_size _ rfl))
 rw [sz] at z10 T10
 refine wpAny_pure ⟨_,rfl,?_⟩
 show Q (.ref h7.objs.size) _
 rw [sz]
 have itk:∀ {i t:Addr} {m:Nat},i ≠ z->h7.IsTupleIter i t m->h10.IsTupleIter i t m:=fun ne ⟨o,e,r⟩=>⟨o,up _ o ne e,r⟩
 have tuk:∀ {t:Addr} {us:Array Value},t ∉ [z,TO,i1,i2,i3]->s.heap.IsTuple t us->h10.IsTuple t us:=fun ne ⟨o,e,r⟩=>⟨o,up _ o (fun q=>ne (by simp [q])) (B _ o ne e),r⟩
 refine hQ h10 ⟨z10,up _ _ tiz (B _ _ (by simp [tiz,tio,ti1,ti2,ti3]) hTI),⟨x,y,v,up _ _ (Ne.symm n1) o7⟩,itk (Ne.symm n2) i17,itk (Ne.symm n3) i27,itk (Ne.symm n4) i37,
  tuk (by simp [t1z,t1o,t11,t12,t13]) a1,tuk (by simp [t2z,t2o,t21,t22,t23]) a2,tuk (by simp [t3z,t3o,t31,t32,t33]) a3⟩ T10 fun c o hc e=>up c o (fun q=>hc (by simp [q])) (B c o hc e)
theorem afs {z TI TO i1 i2 i3 t1 t2 t3:Addr}{xs ys zs:Array Value}{k:Nat}{Q:Fin->Shared->Prop} (hh:A.handled=none) (D:Apart3 z TI TO i1 i2 i3 t1 t2 t3) (S:Zip3 s.heap z TI TO i1 i2 i3 t1 t2 t3 xs ys zs .none k) (hx:xs[k]?=none)
  (hE:∀ h' e,But [z,TO,i1,i2,i3] s.heap h'->(∃ o,h'.get? e=some o/\o.cls= .type "StopIteration")->E (.ref e) { s with heap:=h' }):
  wpAny (model prog w) A (Builtin.«zip.__next__» ⟨[.ref z],[]⟩) Q E s:=by
 obtain ⟨hz,hTI,⟨a,b,c,hTO⟩,g1,g2,g3,a1,a2,a3⟩:=S
 obtain ⟨nd,ti,s1,s2,s3⟩:=D
 simp only [List.nodup_cons,List.mem_cons,List.not_mem_nil,or_false,not_or] at nd ti s1 s2 s3
 obtain ⟨⟨n1,n2,n3,n4⟩,⟨n5,n6,n7⟩,⟨n8,n9⟩,n10,_⟩:=nd
 refine wpAny_bind (m:=field (.ref z) 2) (wpAny_field hz rfl (x:= .bool false) rfl ?_)
 refine wpAny_bind (m:=field (.ref z) 3) (wpAny_field hz rfl (x:= .ref TI) rfl ?_)
 refine wpAny_bind (wpAny_seqItems hTI rfl ?_)
 refine wpAny_bind (m:=Builtin.SmallTypes.ownedTupleIsFree (.ref z)) ?_
 unfold Builtin.SmallTypes.ownedTupleIsFree
 refine wpAny_bind (wpAny_field hz rfl (x:= .none) rfl (wpAny_pure ?_))
 simp only [zzM]
 refine wpAny_bind (wpAny_rule ?_)
 refine wpAny_bind (wpAny_field hz rfl (x:= .ref TO) rfl ?_)
 refine wpAny_bind (wpAny_setField_rec hz (by simp) fun h1 hz1 b1=>?_)
 replace hz1:IsZip h1 z TI TO .ellipsis:=hz1
 refine wpAny_bind ?_
 simp only [List.zipIdx_cons,List.zipIdx_nil,List.forIn_cons,List.forIn_nil]
 refine wpAny_bind (wpAny_bind (wpAny_onRaise ?_))
 refine wpAny_bind (m:=Builtin.SmallTypes.nextOf (.ref i1)) ?_
 refine ael hh (g1.extBut b1.extBut (Ne.symm n2)) (a1.extBut b1.extBut s1.1) hx fun h2 e b2 he=>?_
 obtain ⟨oe,ho,hc⟩:=he
 have z2:IsZip h2 z TI TO .ellipsis:=b2 _ _ n2 hz1
 have ez:e ≠ z:=fun q=>by subst q; rw [z2] at ho; cases ho; simp at hc
 refine wpAny_setField_rec z2 (by simp) fun h3 _ b3=>?_
 exact hE h3 e (((But.of b1.extBut (by simp)).trans (But.of b2 (by simp))).trans (But.of b3.extBut (by simp))) ⟨oe,b3.extBut _ _ ez ho,hc⟩
end
structure ZipC (h:Heap) (z TI TO i1 i2 i3 t1 t2 t3:Addr) (f0:Value) (k:Nat):Prop where
 hz:IsZip h z TI TO f0
 hTI:Qo h TI (.ref i1) (.ref i2) (.ref i3)
 hTO:∃ a b c,Qo h TO a b c
 g1:h.IsTupleIter i1 t1 k
 g2:h.IsTupleIter i2 t2 k
 g3:h.IsTupleIter i3 t3 k
theorem ZipC.all {h:Heap}{z TI TO i1 i2 i3 t1 t2 t3:Addr}{f0:Value}{k:Nat} (S:ZipC h z TI TO i1 i2 i3 t1 t2 t3 f0 k) {xs ys zs:Array Value} (a1:h.IsTuple t1 xs) (a2:h.IsTuple t2 ys) (a3:h.IsTuple t3 zs):
  Zip3 h z TI TO i1 i2 i3 t1 t2 t3 xs ys zs f0 k:=⟨S.hz,S.hTI,S.hTO,S.g1,S.g2,S.g3,a1,a2,a3⟩
theorem Zip3.c {h:Heap}{z TI TO i1 i2 i3 t1 t2 t3:Addr}{xs ys zs:Array Value}{f0:Value}{k:Nat} (S:Zip3 h z TI TO i1 i2 i3 t1 t2 t3 xs ys zs f0 k):ZipC h z TI TO i1 i2 i3 t1 t2 t3 f0 k:=⟨S.hz,S.hTI,S.hTO,S.g1,S.g2,S.g3⟩
theorem ZipC.keep {h h':Heap}{z TI TO i1 i2 i3 t1 t2 t3:Addr}{f0:Value}{k:Nat} (S:ZipC h z TI TO i1 i2 i3 t1 t2 t3 f0 k) (kp:∀ b ∈ [z,TI,TO,i1,i2,i3],∀ o,h.get? b=some o->h'.get? b=some o):
  ZipC h' z TI TO i1 i2 i3 t1 t2 t3 f0 k:=by
 obtain ⟨hz,hTI,⟨a,b,c,hTO⟩,⟨o1,e1,r1⟩,⟨o2,e2,r2⟩,⟨o3,e3,r3⟩⟩:=S
 exact ⟨kp z (by simp) _ hz,kp TI (by simp) _ hTI,⟨a,b,c,kp TO (by simp) _ hTO⟩,⟨o1,kp i1 (by simp) _ e1,r1⟩,⟨o2,kp i2 (by simp) _ e2,r2⟩,⟨o3,kp i3 (by simp) _ e3,r3⟩⟩
noncomputable def Itz (K:PySem.W.Frag) (t1 t2 t3:Addr):It:=
 ⟨fun i H=>∃ xs ys zs x y v,SqT K H t1 xs/\SqT K H t2 ys/\SqT K H t3 zs/\xs[i]?=some x/\ys[i]?=some y/\zs[i]?=some v,
  fun i H u H'=>∃ p x y v,u= .ref p/\H p=none/\H'=upd H p (.tup [x,y,v])/\∀ xs ys zs,SqT K H t1 xs->SqT K H t2 ys->SqT K H t3 zs->xs[i]?=some x/\ys[i]?=some y/\zs[i]?=some v,
  fun i H=>∃ xs ys zs,SqT K H t1 xs/\SqT K H t2 ys/\SqT K H t3 zs/\xs.length<=i⟩
theorem aft {P:Program}{w:World}{K:PySem.W.Frag}{elts:List Expr}{x1:Nat}{pos:Pos}{z TI TO i1 i2 i3 t1 t2 t3:Addr} (nd:[z,TO,i1,i2,i3].Nodup) (ti:TI ∉ [z,TO,i1,i2,i3]):
  Turn P w K (.Tuple elts x1 pos) (Itz K t1 t2 t3) [z,TI,TO,i1,i2,i3] z (fun i h=>ZipC h z TI TO i1 i2 i3 t1 t2 t3 .none i) where
 mem:=by simp
 obj:=fun i h st b hb=>by
  obtain ⟨hz,hTI,⟨a,b',c,hTO⟩,⟨o1,e1,_,d1⟩,⟨o2,e2,_,d2⟩,⟨o3,e3,_,d3⟩⟩:=st
  simp only [List.mem_cons,List.not_mem_nil,or_false] at hb
  rcases hb with rfl | rfl | rfl | rfl | rfl | rfl
  ·exact ⟨_,hz,fun v q=>by cases q⟩
  ·exact ⟨_,hTI,fun v q=>by cases q⟩
  ·exact ⟨_,hTO,fun v q=>by cases q⟩
  ·exact ⟨o1,e1,fun v q=>by rw [d1] at q; cases q⟩
  ·exact ⟨o2,e2,fun v q=>by rw [d2] at q; cases q⟩
  ·exact ⟨o3,e3,fun v q=>by rw [d3] at q; cases q⟩
 keep:=fun i h h' st k=>st.keep k
 item:=by
  intro X hP hw hK hc i pins s σ H E I hf st hg
  subst hP hw hK
  obtain ⟨xs,ys,zs,x,y,v,q1,q2,q3,ex,ey,ev⟩:=hg
  obtain ⟨us1,r1,p1,z1⟩:=I.tuple q1
  obtain ⟨us2,r2,p2,z2⟩:=I.tuple q2
  obtain ⟨us3,r3,p3,z3⟩:=I.tuple q3
  obtain ⟨u1,m1,l1⟩:=r1.get ex
  obtain ⟨u2,m2,l2⟩:=r2.get ey
  obtain ⟨u3,m3,l3⟩:=r3.get ev
  have trk:∀ {t:Addr} {ws:List V},SqT X.K H t ws->t ∉ [z,TO,i1,i2,i3]:=fun {t ws} hq hb=>by
   have hb':t ∈ [z,TI,TO,i1,i2,i3]:=by
    simp only [List.mem_cons,List.not_mem_nil,or_false] at hb ⊢
    rcases hb with e | e | e | e | e <;> simp [e]
   rcases hq with (e | ⟨o,e⟩) | ⟨o,its,n,hk,hcl,hs,_,_⟩
   ·have:=(hf t hb').1; rw [e] at this; cases this
   ·have:=(hf t hb').1; rw [e] at this; cases this
   ·-- an object of the module is no iterator of ours
    obtain ⟨f0,f1,f2,f3,f4,f5⟩:=hf t hb'
    have hbase:=I.mod.kin t o hk
    rcases f3 with q | q
    ·exact I.ok.noex t o hbase q
    ·exact absurd (Nat.lt_of_lt_of_le (Heap.lt_size hbase) (Nat.le_trans I.ok.bsz q)) (Nat.lt_irrefl _)
  have D:Apart3 z TI TO i1 i2 i3 t1 t2 t3:=⟨nd,ti,trk q1,trk q2,trk q3⟩
  have S:=st.all (xs:=us1.toArray) (ys:=us2.toArray) (zs:=us3.toArray) p1 p2 p3
  have hT:s.TypeIs (.ref z) "zip":=⟨_,st.hz,rfl⟩
  unfold pyNext
  refine wpAny_bind (wpAny_attempt (wpAny_callSpecial?_slot (name:=Str.ofString "__next__") hT F.slot_zip_next
   (wpAny_call_entry F.slot_zip_next hT F.entry_zip_next (aem D S (by simpa using m1) (by simpa using m2) (by simpa using m3) fun h1 S1 T1 B1=>wpAny_pure ?_)
    (F.args_zip_next_1 _))))
  refine ⟨_,rfl,?_⟩
  refine wpAny_letOwnedTupleGo_zip (s:={ s with heap:=h1 }) S1.hz fun h2 z2' b2=>?_
  have nT:H s.heap.objs.size=none:=I.hok.fresh (Nat.le_refl _)
  have zlt:z < s.heap.objs.size:=Heap.lt_size st.hz
  have T2:Qo h2 s.heap.objs.size u1 u2 u3:=b2.extBut _ _ (Nat.ne_of_gt zlt) T1
  have B2:But [z,TO,i1,i2,i3] s.heap h2:=B1.trans (But.of b2.extBut (by simp))
  have inF:∀ b ∈ [z,TO,i1,i2,i3],b ∈ [z,TI,TO,i1,i2,i3]:=fun b hb=>by
   simp only [List.mem_cons,List.not_mem_nil,or_false] at hb ⊢
   rcases hb with e | e | e | e | e <;> simp [e]
  have ntr:∀ b u,H b=some u->b ∉ [z,TO,i1,i2,i3]:=fun b u e hb=>by
   have:=(hf b (inF b hb)).1
   rw [e] at this; cases this
  have neT:∀ b u,H b=some u->b ≠ s.heap.objs.size:=fun b u e q=>by rw [q,nT] at e; cases e
  have hok2:HOk X.prog X.w (upd H s.heap.objs.size (.tup [x,y,v])) h2:=fun b u e=>by
   by_cases hb:b=s.heap.objs.size
   ·subst hb
    rw [jp] at e
    cases e
    exact ⟨by show 3<=sizeLine; rw [sizeLine_eq]; decide,[u1,u2,u3],.cons l1 (.cons l2 (.cons l3 .nil)),⟨_,T2,rfl,_,rfl⟩⟩
   ·rw [jl hb] at e
    refine (I.hok b u e).stay (fun c o hc' q=>B2 c o ?_ q) (fun c q=>by rw [jl (neT c _ q)]; exact q) fun c ws q=>by rw [jl (neT c _ q)]; exact q
    rcases hc' with q' | q'
    ·rw [q']; exact ntr b u e
    ·exact ntr c _ q'
  have I2:Inv X pins σ (upd H s.heap.objs.size (.tup [x,y,v])) { s with heap:=h2,toks:=s.toks }:=by
   refine I.step (g':=s.gens) (d':=s.drawn) (ch:=[z,TO,i1,i2,i3]) (fun b hb=>?_) (fun b o _ _ hb e _=>B2 b o hb e) (fun b o _ _ hb e _=>⟨o.slots,B2 b o hb e⟩) (fun b o hb e n=>?_) (fun b o hb e=>⟨o,B2 b o hb e⟩)
    (fun b ws e=>by rw [jl (neT b _ e)]; exact e) (fun b ob ws e=>by rw [jl (neT b _ e)]; exact e) (fun b ps e=>⟨#[],by rw [jl (neT b _ e),e]; simp⟩) (fun m hm=>?_) hok2 I.bare
   ·obtain ⟨f0,f1,f2,f3,f4,f5⟩:=hf b (inF b hb)
    exact ⟨f3,f1,f4,f5⟩
   ·rw [jl (Nat.ne_of_lt (Heap.lt_size e))]; exact n
   ·obtain ⟨o,es,ep,ho,r⟩:=hm
    refine ⟨o,es,ep,B2 _ o (fun hb=>?_) ho,r⟩
    exact (hf _ (inF _ hb)).2.1 rfl
  refine ⟨.ref s.heap.objs.size,_,I2,rfl,⟨_,x,y,v,rfl,nT,rfl,fun as bs cs g1 g2 g3=>?_⟩,?_,fun b hb=>?_⟩
  ·rw [I.tuple_inj g1 q1,I.tuple_inj g2 q2,I.tuple_inj g3 q3]
   exact ⟨ex,ey,ev⟩
  ·have c1:=S1.c
   obtain ⟨_,hTI,⟨a,b,c,hTO⟩,⟨o1,e1,w1⟩,⟨o2,e2,w2⟩,⟨o3,e3,w3⟩⟩:=c1
   simp only [List.nodup_cons,List.mem_cons,List.not_mem_nil,or_false,not_or] at nd ti
   obtain ⟨⟨n1,n2,n3,n4⟩,_⟩:=nd
   exact ⟨z2',b2.extBut _ _ ti.1 hTI,⟨a,b,c,b2.extBut _ _ (Ne.symm n1) hTO⟩,⟨o1,b2.extBut _ _ (Ne.symm n2) e1,w1⟩,⟨o2,b2.extBut _ _ (Ne.symm n3) e2,w2⟩,⟨o3,b2.extBut _ _ (Ne.symm n4) e3,w3⟩⟩
  ·obtain ⟨o,ho,_⟩:∃ o,s.heap.get? b=some o/\True:=by
    obtain ⟨hz,hTI,⟨a,b',c,hTO⟩,⟨o1,e1,_⟩,⟨o2,e2,_⟩,⟨o3,e3,_⟩⟩:=st
    simp only [List.mem_cons,List.not_mem_nil,or_false] at hb
    rcases hb with rfl | rfl | rfl | rfl | rfl | rfl
    ·exact ⟨_,hz,trivial⟩
    ·exact ⟨_,hTI,trivial⟩
    ·exact ⟨_,hTO,trivial⟩
    ·exact ⟨_,e1,trivial⟩
    ·exact ⟨_,e2,trivial⟩
    ·exact ⟨_,e3,trivial⟩
   rw [jl (Nat.ne_of_lt (Heap.lt_size ho))]
   exact (hf b hb).1
 done:=by
  intro X hP hw hK hc i pins s σ H E I hf st hg
  subst hP hw hK
  obtain ⟨xs,ys,zs,q1,q2,q3,hl⟩:=hg
  obtain ⟨us1,r1,p1,z1⟩:=I.tuple q1
  obtain ⟨us2,r2,p2,z2⟩:=I.tuple q2
  obtain ⟨us3,r3,p3,z3⟩:=I.tuple q3
  have trk:∀ {t:Addr} {ws:List V},SqT X.K H t ws->t ∉ [z,TO,i1,i2,i3]:=fun {t ws} hq hb=>by
   have hb':t ∈ [z,TI,TO,i1,i2,i3]:=by
    simp only [List.mem_cons,List.not_mem_nil,or_false] at hb ⊢
    rcases hb with e | e | e | e | e <;> simp [e]
   rcases hq with (e | ⟨o,e⟩) | ⟨o,its,n,hk,hcl,hs,_,_⟩
   ·have:=(hf t hb').1; rw [e] at this; cases this
   ·have:=(hf t hb').1; rw [e] at this; cases this
   ·obtain ⟨f0,f1,f2,f3,f4,f5⟩:=hf t hb'
    have hbase:=I.mod.kin t o hk
    rcases f3 with q | q
    ·exact I.ok.noex t o hbase q
    ·exact absurd (Nat.lt_of_lt_of_le (Heap.lt_size hbase) (Nat.le_trans I.ok.bsz q)) (Nat.lt_irrefl _)
  have D:Apart3 z TI TO i1 i2 i3 t1 t2 t3:=⟨nd,ti,trk q1,trk q2,trk q3⟩
  have S:=st.all (xs:=us1.toArray) (ys:=us2.toArray) (zs:=us3.toArray) p1 p2 p3
  have hT:s.TypeIs (.ref z) "zip":=⟨_,st.hz,rfl⟩
  have hlen:=r1.length
  unfold pyNext
  refine wpAny_bind (wpAny_attempt (wpAny_callSpecial?_slot (name:=Str.ofString "__next__") hT F.slot_zip_next
   (wpAny_call_entry F.slot_zip_next hT F.entry_zip_next (afs (I.ok.hd hc) D S (by simp; omega) fun h1 e B1 he=>?_)
    (F.args_zip_next_1 _))))
  obtain ⟨o,ho,hcl⟩:=he
  refine wpAny_bind (wpAny_isInstance (T:="StopIteration") (b:=true) ⟨o,ho,hcl⟩ isSubtype_stop ?_)
  refine wpAny_pure ⟨rfl,?_⟩
  have inF:∀ b ∈ [z,TO,i1,i2,i3],b ∈ [z,TI,TO,i1,i2,i3]:=fun b hb=>by
   simp only [List.mem_cons,List.not_mem_nil,or_false] at hb ⊢
   rcases hb with e | e | e | e | e <;> simp [e]
  have ntr:∀ b u,H b=some u->b ∉ [z,TO,i1,i2,i3]:=fun b u e hb=>by
   have:=(hf b (inF b hb)).1
   rw [e] at this; cases this
  refine I.step (t':=s.toks) (g':=s.gens) (d':=s.drawn) (ch:=[z,TO,i1,i2,i3]) (fun b hb=>?_) (fun b o _ _ hb e _=>B1 b o hb e) (fun b o _ _ hb e _=>⟨o.slots,B1 b o hb e⟩) (fun b o hb e n=>n) (fun b o hb e=>⟨o,B1 b o hb e⟩)
   (fun b ws e=>e) (fun b ob ws e=>e) (fun b ps e=>⟨#[],by rw [e]; simp⟩) (fun m hm=>?_) (fun b u e=>?_) I.bare
  ·obtain ⟨f0,f1,f2,f3,f4,f5⟩:=hf b (inF b hb)
   exact ⟨f3,f1,f4,f5⟩
  ·obtain ⟨o,es,ep,ho,r⟩:=hm
   refine ⟨o,es,ep,B1 _ o (fun hb=>?_) ho,r⟩
   exact (hf _ (inF _ hb)).2.1 rfl
  ·refine (I.hok b u e).stay (fun c o hc' q=>B1 c o ?_ q) (fun c q=>q) fun c ws q=>q
   rcases hc' with q' | q'
   ·rw [q']; exact ntr b u e
   ·exact ntr c _ q'
 self:=fun _ _ _ _ _ st h=>wpAny_pyIter_zip st.hz h
theorem aat (a b c:Value):checkTypeCall "zip" ⟨[a,b,c],[]⟩=pure ():=by kernel_rfl
theorem abg (a b c:Value):checkBuiltinCall "zip.__new__" ⟨[.type "zip",a,b,c],[]⟩=pure ():=by kernel_rfl
theorem ac1 (a b c d:Value):argsOk "object.__init__" ⟨[a,b,c,d],[]⟩:=by
 unfold argsOk
 rw [signature?_of (id:="object.__init__") (n:=['_','_','t','i','n','i','_','_'])
  (o:=['t','c','e','j','b','o']) (by kernel_rfl) F.owner_object]
 kernel_rfl
noncomputable abbrev ajd (t:Addr):Obj:={ cls:= .type "tuple_iterator",data:= .fields #[.ref t,.int 0 0] }
noncomputable abbrev zh1 (h:Heap) (a:Addr):Heap:=h.push (ajd a)
noncomputable abbrev zh2 (h:Heap) (a b:Addr):Heap:=(zh1 h a).push (ajd b)
noncomputable abbrev zh3 (h:Heap) (a b c:Addr):Heap:=(zh2 h a b).push (ajd c)
noncomputable abbrev zh4 (h:Heap) (a b c:Addr):Heap:=(zh3 h a b c).push { cls:= .type "tuple",data:= .seq #[.ref h.objs.size,.ref (zh1 h a).objs.size,.ref (zh2 h a b).objs.size] }
noncomputable abbrev zh5 (h:Heap) (a b c:Addr):Heap:=(zh4 h a b c).push { cls:= .type "tuple",data:= .seq #[.none,.none,.none] }
noncomputable abbrev zh6 (h:Heap) (a b c:Addr):Heap:=(zh5 h a b c).push { cls:= .type "zip",data:= .fields #[.none,.bool false,.bool false,.ref (zh3 h a b c).objs.size,.ref (zh4 h a b c).objs.size] }
theorem afu (a b c:Addr) (xs ys zs:Array Value):
  Meets (Builtin.«zip.__new__» ⟨[.type "zip",.ref a,.ref b,.ref c],[]⟩) (fun _ R s=>s.heap.IsTuple a xs/\s.heap.IsTuple b ys/\s.heap.IsTuple c zs/\
   R (.ok (.ret (.ref (zh5 s.heap a b c).objs.size))) { s with heap:=zh6 s.heap a b c }):=
 .of_wp fun prog w A R s h=>by
  obtain ⟨hp,g,d,tk,os⟩:=s
  obtain ⟨h1,h2,h3,h⟩:=h
  have hsub:=sub_zip
  have k1:Heap.IsTuple (Shared.heap ⟨hp,g,d,tk,os⟩) a xs:=h1
  have k2:Heap.IsTuple (Shared.heap ⟨zh1 hp a,g,d,tk,os⟩) b ys:=Heap.IsTuple.push h2 _
  have k3:Heap.IsTuple (Shared.heap ⟨zh2 hp a b,g,d,tk,os⟩) c zs:=Heap.IsTuple.push (Heap.IsTuple.push h3 _) _
  wp_walk using wpAny_pyIter_tuple k1,wpAny_pyIter_tuple k2,wpAny_pyIter_tuple k3
  exact ⟨_,rfl,h⟩
section
variable {X:Cx}
noncomputable def akk (K:PySem.W.Frag) (ta:TA):TI:=fun σ H R=>ta σ H fun vs H1=>∃ a b c xs ys zs,vs=[.ref a,.ref b,.ref c]/\SqT K H1 a xs/\SqT K H1 b ys/\SqT K H1 c zs/\R (Itz K a b c) H1
theorem ahp {ea eb ec:Expr}{elts:List Expr}{x1:Nat}{tp:Pos}{ta:TA}{p pos:Pos} (hg:Gl X "zip") (hm:X.mg "zip"=none) (ha:PA X [ea,eb,ec] ta)
  (hs:starEach [ea,eb,ec] X.env=[(false,eval ea X.env),(false,eval eb X.env),(false,eval ec X.env)]:=by rfl) (hs2:starEach [eb,ec] X.env=[(false,eval eb X.env),(false,eval ec X.env)]:=by rfl):
  PI X (.Tuple elts x1 tp) (.Call (.Name "zip" p) [ea,eb,ec] [] pos) (akk X.K ta):=by
 intro pins s σ H R I h
 refine Call_ (JU I hg hm boot_zip (PyProof.Rows.callWith_type1 (thn (ha pos pins s σ H _ I h) fun us s1 ⟨vs,H1,I1,r1,q1⟩=>?_) (by rw [hs,hs2]) (by rw [hs2]; rfl)))
 obtain ⟨a,b,c,xs,ys,zs,e,q1,q2,q3,q⟩:=q1
 subst e
 cases r1 with
 | cons r1 rr=>
  cases rr with
  | cons r2 rr=>
   cases rr with
   | cons r3 rr=>
    cases rr
    cases r1; cases r2; cases r3
    obtain ⟨us1,v1,p1,z1⟩:=I1.tuple q1
    obtain ⟨us2,v2,p2,z2⟩:=I1.tuple q2
    obtain ⟨us3,v3,p3,z3⟩:=I1.tuple q3
    refine callType_new F.called_zip (by decide) (aat _ _ _) (abg _ _ _) (fun obj=>ac1 obj _ _ _) F.entry_zip_new
     (afu a b c us1.toArray us2.toArray us3.toArray) ⟨p1,p2,p3,?_⟩
    have n1:(zh1 s1.heap a).objs.size=s1.heap.objs.size+1:=Heap.size_push ..
    have n2:(zh2 s1.heap a b).objs.size=s1.heap.objs.size+2:=by rw [Heap.size_push,n1]
    have n3:(zh3 s1.heap a b c).objs.size=s1.heap.objs.size+3:=by rw [Heap.size_push,n2]
    have n4:(zh4 s1.heap a b c).objs.size=s1.heap.objs.size+4:=by rw [Heap.size_push,n3]
    have n5:(zh5 s1.heap a b c).objs.size=s1.heap.objs.size+5:=by rw [Heap.size_push,n4]
    have g6:(zh6 s1.heap a b c).get? (zh5 s1.heap a b c).objs.size=some _:=Heap.get?_push_size _ rfl
    have g5:(zh6 s1.heap a b c).get? (zh4 s1.heap a b c).objs.size=some _:=Heap.get?_push_of_some _ (Heap.get?_push_size _ rfl)
    have g4:(zh6 s1.heap a b c).get? (zh3 s1.heap a b c).objs.size=some _:=Heap.get?_push_of_some _ (Heap.get?_push_of_some _ (Heap.get?_push_size _ rfl))
    have up3:∀ x o,(zh3 s1.heap a b c).get? x=some o->(zh6 s1.heap a b c).get? x=some o:=fun x o e=>Heap.get?_push_of_some _ (Heap.get?_push_of_some _ (Heap.get?_push_of_some _ e))
    have g3:(zh6 s1.heap a b c).get? (zh2 s1.heap a b).objs.size=some _:=up3 _ _ (Heap.get?_push_size _ rfl)
    have g2:(zh6 s1.heap a b c).get? (zh1 s1.heap a).objs.size=some _:=up3 _ _ (Heap.get?_push_of_some _ (Heap.get?_push_size _ rfl))
    have g1:(zh6 s1.heap a b c).get? s1.heap.objs.size=some _:=up3 _ _ (Heap.get?_push_of_some _ (Heap.get?_push_of_some _ (Heap.get?_push_size _ rfl)))
    have kp:∀ x o,s1.heap.get? x=some o->(zh6 s1.heap a b c).get? x=some o:=fun x o e=>up3 _ _ (Heap.get?_push_of_some _ (Heap.get?_push_of_some _ (Heap.get?_push_of_some _ e)))
    show _/\_
    refine ⟨⟨_,g6,rfl⟩,?_⟩
    refine wpAny_pyIter_zip g6 ?_
    have I2:Inv X pins σ H1 { s1 with heap:=zh6 s1.heap a b c }:=I1.kept (t':=s1.toks) kp
    refine ⟨_,[(zh5 s1.heap a b c).objs.size,(zh3 s1.heap a b c).objs.size,(zh4 s1.heap a b c).objs.size,s1.heap.objs.size,(zh1 s1.heap a).objs.size,(zh2 s1.heap a b).objs.size],
     _,_,H1,rfl,I2,aft (z:=(zh5 s1.heap a b c).objs.size) (TI:=(zh3 s1.heap a b c).objs.size) (TO:=(zh4 s1.heap a b c).objs.size) (i1:=s1.heap.objs.size) (i2:=(zh1 s1.heap a).objs.size) (i3:=(zh2 s1.heap a b).objs.size) (t1:=a) (t2:=b) (t3:=c) ?_ ?_,
     ⟨g6,g4,⟨_,_,_,g5⟩,⟨_,g1,rfl,rfl⟩,⟨_,g2,rfl,rfl⟩,⟨_,g3,rfl,rfl⟩⟩,fun x hx=>?_,q⟩
    ·rw [n5,n4,n1,n2]
     simp [List.nodup_cons]
    ·rw [n3,n5,n4,n1,n2]
     simp
    ·have hle:s1.heap.objs.size<=x:=by
      rw [n5,n3,n4,n1,n2] at hx
      simp only [List.mem_cons,List.not_mem_nil,or_false] at hx
      rcases hx with e | e | e | e | e | e <;> rw [e] <;> first | exact Nat.le_refl _ | exact Nat.le_add_right _ _
     exact I1.fpOk hle (I1.hok.fresh hle)
noncomputable def Jk:List PyData->List PyData->List PyData->List PyData
 | x::xs,y::ys,z::zs=> .tuple [x,y,z]::Jk xs ys zs
 | _,_,_=>[]
noncomputable def ab1 (ds:List PyData):Option (List PyData):=match ds with
 | [.tuple xs,.tuple ys,.tuple zs]=>if xs.length=ys.length/\ys.length=zs.length then some (Jk xs ys zs) else none
 | _=>none
theorem aaK:∀ (xs ys zs:List PyData),xs.length=ys.length->ys.length=zs.length->(Jk xs ys zs).length=xs.length
 | [],_,_,_,_=>by simp [Jk]
 | x::xs,[],_,h,_=>by simp at h
 | x::xs,y::ys,[],_,h=>by simp at h
 | x::xs,y::ys,z::zs,h,g=>by simp [Jk,aaK xs ys zs (by simpa using h) (by simpa using g)]
theorem aaL:∀ (xs ys zs:List PyData) (i:Nat) (d:PyData),(Jk xs ys zs)[i]?=some d->∃ x y z,xs[i]?=some x/\ys[i]?=some y/\zs[i]?=some z/\d= .tuple [x,y,z]
 | [],_,_,i,d,h=>by simp [Jk] at h
 | x::xs,[],_,i,d,h=>by simp [Jk] at h
 | x::xs,y::ys,[],i,d,h=>by simp [Jk] at h
 | x::xs,y::ys,z::zs,0,d,h=>by simp [Jk] at h; exact ⟨x,y,z,rfl,rfl,rfl,h.symm⟩
 | x::xs,y::ys,z::zs,i+1,d,h=>by
  obtain ⟨a,b,c,e1,e2,e3,e4⟩:=aaL xs ys zs i d (by simpa [Jk] using h)
  exact ⟨a,b,c,by simpa using e1,by simpa using e2,by simpa using e3,e4⟩
theorem afv {ea eb ec:Expr}{elts:List Expr}{x1:Nat}{tp:Pos}{p pos:Pos}{fr:Rho->Option (List PyData)} (hm:X.mg "zip"=none) (ha:PAD X [ea,eb,ec] fr) (hg:Gl X "zip":=by rfl)
  (hs:starEach [ea,eb,ec] X.env=[(false,eval ea X.env),(false,eval eb X.env),(false,eval ec X.env)]:=by rfl) (hs2:starEach [eb,ec] X.env=[(false,eval eb X.env),(false,eval ec X.env)]:=by rfl):
  PID X (.Tuple elts x1 tp) (.Call (.Name "zip" p) [ea,eb,ec] [] pos) (fun ρ=>(fr ρ).bind ab1):=by
 with_unfolding_all
  refine PI.imp (ahp hg hm ha hs hs2) fun σ H R ⟨ρ,ds,en,q,k⟩=>?_
  cases h1:fr ρ with
  | none=>simp [h1] at q
  | some as=>
   have q':ab1 as=some ds:=by simpa [h1] using q
   refine ⟨ρ,as,en,h1,fun vs H1 s1 r1=>?_⟩
   unfold ab1 at q'
   split at q'
   ·rename_i xs ys zs
    split at q'
    ·rename_i hl
     cases q'
     obtain ⟨v1,w1,e1,⟨a,us1,ea',qa,ra⟩,v2,w2,e2,⟨b,us2,eb',qb,rb⟩,v3,w3,e3,⟨c,us3,ec',qc,rc⟩,e4⟩:=r1
     cases (show w3=[] from e4)
     subst ea'; subst eb'; subst ec'; subst e3; subst e2
     have l1:=ra.length
     have l2:=rb.length
     have l3:=rc.length
     have lz:=aaK xs ys zs hl.1 hl.2
     refine ⟨a,b,c,us1,us2,us3,e1,qa,qb,qc,k _ H1 s1 fun i H2 s2=>⟨fun hi=>?_,fun hi=>?_,fun u H3 y=>?_⟩⟩
     ·rw [lz] at hi
      exact ⟨us1,us2,us3,us1[i]'(by omega),us2[i]'(by omega),us3[i]'(by omega),jB.tup s2 qa,jB.tup s2 qb,jB.tup s2 qc,by simp <;> omega,by simp <;> omega,by simp <;> omega⟩
     ·rw [lz] at hi
      exact ⟨us1,us2,us3,jB.tup s2 qa,jB.tup s2 qb,jB.tup s2 qc,by omega⟩
     ·obtain ⟨pp,x,y,v,e5,e6,e7,e8⟩:=y
      subst e5; subst e7
      refine ⟨jt e6,fun d hd=>?_⟩
      obtain ⟨dx,dy,dz,g1,g2,g3,g4⟩:=aaL xs ys zs i d hd
      subst g4
      obtain ⟨f1,f2,f3⟩:=e8 us1 us2 us3 (jB.tup s2 qa) (jB.tup s2 qb) (jB.tup s2 qc)
      have m:=s2.trans (ji.e (jt (o:= .tup [x,y,v]) e6))
      obtain ⟨x',a1,a2⟩:=(Reps.monoE m _ _ ra).get g1
      obtain ⟨y',b1,b2⟩:=(Reps.monoE m _ _ rb).get g2
      obtain ⟨z',c1,c2⟩:=(Reps.monoE m _ _ rc).get g3
      rw [f1] at a1; cases a1
      rw [f2] at b1; cases b1
      rw [f3] at c1; cases c1
      exact ⟨pp,[x,y,v],rfl,SqT.of jp,x,_,rfl,a2,y,_,rfl,b2,v,_,rfl,c2,rfl⟩
    ·cases q'
   ·cases q'
noncomputable def tyn:PyData->String
 | .none=>"NoneType"
 | .bool _=>"bool"
 | .int _=>"int"
 | .str _=>"str"
 | .tuple _=>"tuple"
 | .list _=>"list"
 | .dict kvs=>if zi kvs then "list" else "dict"
noncomputable def isFn:PyData->Bool
 | .dict [(.str _,_)]=>true
 | _=>false
noncomputable def ze (T:String) (d:PyData):Option PyData:=if isFn d=true then none else some (.bool (tyn d == T || (T == "int" && tyn d == "bool")))
theorem afw {pins:List (Addr × Obj)}{σ:St}{H:Hp}{s:Shared}{E:Value->Shared->Prop}{Q:Value->Shared->Prop}{d:PyData}{v:V}{u c:Value}{b:Bool} (I:Inv X pins σ H s) (r:Rep X.K H d v) (hF:isFn d=false) (rv:jy v u)
  (e:PySem.W.kitOne X.K (.type (tyn d)) c=some b) (h:∀ tk,Q (.bool b) { s with toks:=tk }):wpAny (model X.prog X.w) X.A (call (.builtin "isinstance") [u,c]) Q E s:=by
 cases d with
 | none=>cases r; cases rv; exact PySem.W.kia_one PySem.W.kitx_none I.kIn True.intro e (fun z=>nomatch z) h
 | bool y=>cases r; cases rv; exact PySem.W.kia_one PySem.W.kitx_bool I.kIn True.intro e (fun z=>nomatch z) h
 | int i=>cases r; obtain ⟨t,rfl⟩:=rv; exact PySem.W.kia_one PySem.W.kitx_int I.kIn True.intro e (fun z=>nomatch z) h
 | str y=>cases r; obtain ⟨t,rfl⟩:=rv; exact PySem.W.kia_one PySem.W.kitx_str I.kIn True.intro e (fun z=>nomatch z) h
 | tuple ds=>
  obtain ⟨a,xs,e1,e2,e3⟩:=r
  subst e1; cases rv
  obtain ⟨its,_,⟨o,h1,h2,_⟩,_⟩:=I.tuple e2
  exact PySem.W.kia_one PySem.W.kitx_tuple I.kIn ⟨o,h1,h2⟩ e (fun z=>nomatch z) h
 | list ds=>
  obtain ⟨a,xs,e1,e2,e3⟩:=r
  subst e1; cases rv
  obtain ⟨its,_,⟨o,n,h1,h2,_⟩,_⟩:=I.list (SqL.of e2)
  exact PySem.W.kia_one PySem.W.kitx_list I.kIn ⟨o,h1,h2⟩ e (fun z=>nomatch z) h
 | dict ds=>
  obtain ⟨a,e1,⟨ns,e2,e3⟩ | ⟨ks,ob,e2,e3⟩ | ⟨x,e2,_⟩ | ⟨x,_,_,e2,_⟩⟩:=r
  ·subst e1; cases rv
   subst e3
   have e:PySem.W.kitOne X.K (.type "list") c=some b:=by simpa [tyn,aaI] using e
   obtain ⟨its,_,⟨o,n,h1,h2,_⟩,_⟩:=I.list e2
   exact PySem.W.kia_one PySem.W.kitx_list I.kIn ⟨o,h1,h2⟩ e (fun z=>nomatch z) h
  ·subst e1; cases rv
   obtain ⟨cc,rr,rfl,e4⟩:=e3.out
   have e:PySem.W.kitOne X.K (.type "dict") c=some b:=by simpa [tyn,zi] using e
   obtain ⟨_,_,vs,_,dd⟩:=ZX I.hok (.inr ⟨ob,e2⟩)
   obtain ⟨o,es,ep,h1,h2,_⟩:=dd
   exact PySem.W.kia_one PySem.W.kitx_dict I.kIn ⟨o,h1,h2.1⟩ e (fun z=>nomatch z) h
  ·subst e2; simp [isFn] at hF
  ·subst e2; simp [isFn] at hF
noncomputable def ala (K:PySem.W.Frag) (T:String):List V->Hp->VK->Prop:=fun xs H Q=>∃ x d b,xs=[x,.ty T]/\Rep K H d x/\isFn d=false/\PySem.W.kitOne K (.type (tyn d)) (.type T)=some b/\Q (.bl b) H
theorem afx {T:String}:za X (.builtin "isinstance") (ala X.K T):=by
 intro pins s σ H xs us Q I r ⟨x,d,b,e,h1,hF,h2,q⟩
 subst e
 obtain ⟨u,w',rfl,r1,r2⟩:=abS r
 cases (show w'=_ from r2)
 exact afw I h1 hF r1 h2 fun tk=>⟨.bl b,H,I.tok tk,rfl,q⟩
noncomputable def QZ (T:String) (d:PyData):Bool:=tyn d == T || (T == "int" && tyn d == "bool")
@[simp] theorem ajJ (T:String):ze T .none=some (.bool (QZ T .none)):=rfl
@[simp] theorem ajK (T:String) (b:Bool):ze T (.bool b)=some (.bool (QZ T (.bool b))):=rfl
@[simp] theorem akl (T:String) (i:Int):ze T (.int i)=some (.bool (QZ T (.int i))):=rfl
@[simp] theorem akm (T:String) (x:Str):ze T (.str x)=some (.bool (QZ T (.str x))):=rfl
@[simp] theorem aje (T:String) (ds:List PyData):ze T (.tuple ds)=some (.bool (QZ T (.tuple ds))):=rfl
@[simp] theorem ajL (T:String) (ds:List PyData):ze T (.list ds)=some (.bool (QZ T (.list ds))):=rfl
theorem afy {T:String}{d e:PyData} (h:ze T d=some e):isFn d=false/\e= .bool (QZ T d):=by
 unfold ze at h
 split at h
 ·cases h
 ·rename_i hf; cases h; exact ⟨by simpa using hf,rfl⟩
theorem ahq {K:PySem.W.Frag}{T:String} (hT:T="bool" ∨ T="int" ∨ T="tuple") (d:PyData):PySem.W.kitOne K (.type (tyn d)) (.type T)=some (QZ T d):=by
 rcases hT with rfl | rfl | rfl <;> cases d <;> first | rfl | (rename_i kvs; by_cases h:zi kvs=true <;> simp only [tyn,QZ,h] <;> rfl)
theorem J1 {a:Expr}{fa:Rho->Option PyData}{T:Str}{Tn:String}{p p2 pos:Pos} (hT:Tn="bool" ∨ Tn="int" ∨ Tn="tuple") (hm1:X.mg "isinstance"=none) (hm2:X.mg T=none) (hv:bootBuiltins T=some (.type Tn)) (ha:PD X a fa)
  (hg1:Gl X "isinstance":=by rfl) (hg2:Gl X T:=by rfl) (hn:T ≠ "__name__":=by decide) (hd:(T == ("__debug__":Str))=false:=by decide)
  (he:starEach [a,.Name T p2] X.env=[(false,eval a X.env),(false,eval (.Name T p2) X.env)]:=by rfl) (he2:starEach [.Name T p2] X.env=[(false,eval (.Name T p2) X.env)]:=by rfl) (hpl:(backTo pos (starEach [.Name T p2] X.env)).any (·.1)=false:=by rfl):
  PD X (.Call (.Name "isinstance" p) [a,.Name T p2] [] pos) (fun ρ=>(fa ρ).bind fun d=>ze Tn d):=by
 with_unfolding_all
  have hT2:PE X (.Name T p2) (tC (.ty Tn)):=ads hg2 hm2 hv rfl hn hd
  refine PE.imp (Qh (afx (T:=Tn)) hg1 hm1 (by decide +kernel) (j4 ha (j4 hT2 qQ (by rw [he2]; rfl)) (by rw [he,he2])) (by decide) (by decide) (by rw [he,he2]) hpl) fun σ H Q ⟨ρ,d,en,q,k⟩=>?_
  cases h1:fa ρ with
  | none=>simp [h1] at q
  | some c=>
   obtain ⟨hF,rfl⟩:=afy (show ze Tn c=some d by simpa [h1] using q)
   exact ⟨ρ,c,en,h1,fun v H1 s1 r1=>⟨v,c,_,rfl,r1,hF,ahq hT c,k _ H1 s1 rfl⟩⟩
end
noncomputable def qP (H H':Hp):Prop:=∀ b o,H b=some o->(∀ xs,o ≠ .lst xs)->H' b=some o
theorem ji.n {H H':Hp} (e:ji H H'):qP H H':=fun b o h _=>e b o h
theorem qP.refl (H:Hp):qP H H:=fun _ _ h _=>h
theorem qP.trans {H H1 H2:Hp} (a:qP H H1) (b:qP H1 H2):qP H H2:=fun c o h n=>b c o (a c o h n) n
theorem qP.upd {H:Hp}{p:Addr}{xs ys:List V} (hp:H p=some (.lst xs)):qP H (upd H p (.lst ys)):=fun b o h n=>by
 have:b ≠ p:=fun e=>by subst e; rw [hp] at h; cases h; exact n _ rfl
 rw [jl this]; exact h
mutual
noncomputable def noL:PyData->Bool
 | .none=>true
 | .bool _=>true
 | .int _=>true
 | .str _=>true
 | .tuple ds=>noLs ds
 | .list _=>false
 | .dict _=>false
noncomputable def noLs:List PyData->Bool
 | []=>true
 | d::ds=>noL d && noLs ds
end
section
variable {K:PySem.W.Frag}{H H':Hp}
theorem qP.tup {a:Addr}{xs:List V} (e:qP H H') (h:SqT K H a xs):SqT K H' a xs:=by
 rcases h with (h | ⟨o,h⟩) | h
 ·exact .inl (.inl (e _ _ h fun _ z=>nomatch z))
 ·exact .inl (.inr ⟨o,e _ _ h fun _ z=>nomatch z⟩)
 ·exact .inr h
mutual
theorem Rep.monoN (e:qP H H'):∀ (d:PyData) (v:V),noL d=true->Rep K H d v->Rep K H' d v
 | .none,v,_,h=>h
 | .bool _,v,_,h=>h
 | .int _,v,_,h=>h
 | .str _,v,_,h=>h
 | .tuple ds,v,n,⟨a,xs,h1,h2,h3⟩=>⟨a,xs,h1,qP.tup e h2,Reps.monoN e ds xs (by simpa [noL] using n) h3⟩
 | .list ds,v,n,h=>by simp [noL] at n
 | .dict ds,v,n,h=>by simp [noL] at n
theorem Reps.monoN (e:qP H H'):∀ (ds:List PyData) (xs:List V),noLs ds=true->Reps K H ds xs->Reps K H' ds xs
 | [],xs,_,h=>h
 | d::ds,xs,n,⟨x,r,h1,h2,h3⟩=>by
  have n':noL d=true/\noLs ds=true:=by simpa [noLs] using n
  exact ⟨x,r,h1,Rep.monoN e d x n'.1 h2,Reps.monoN e ds r n'.2 h3⟩
end
theorem Jl:∀ (ds es:List PyData),noLs (ds++es)=(noLs ds && noLs es)
 | [],es=>by simp [noLs]
 | d::ds,es=>by simp [noLs,Jl ds es,Bool.and_assoc]
theorem Z6:∀ {ds:List PyData},(∀ d ∈ ds,noL d=true)->noLs ds=true
 | [],_=>rfl
 | d::ds,h=>by simp [noLs,h d List.mem_cons_self,Z6 fun x hx=>h x (List.mem_cons_of_mem _ hx)]
end
end BX
end
section
namespace BX
open PySem PySem.Spec L2
open PyProof.Rows hiding St
noncomputable def jn (P:Program) (w:World) (K:PySem.W.Frag) (mg:Str->Option Value) (base:Heap) (x:Str) (ps:List Str) (k n:Nat) (g:List PyData->Option PyData):Prop:=
 ∃ (f:Addr) (fd:FuncData),FnOk P w K mg base CX0 k f fd ps (Pur K n g)/\mg x=some (.ref f)/\PySem.W.keepIn K (.ref f)=true/\Jg K fd ps []
theorem jm:∀ (ρ:Rho) (ds:List PyData),jA ρ=some ds->ds.length=0:=fun ρ ds h=>by cases h; rfl
theorem jd {fa:Rho->Option PyData}{fr:Rho->Option (List PyData)}{n:Nat} (h:∀ (ρ:Rho) (ds:List PyData),fr ρ=some ds->ds.length=n):∀ (ρ:Rho) (ds:List PyData),jk fa fr ρ=some ds->ds.length=n+1:=fun ρ ds q=>by
 cases h1:fa ρ with
 | none=>simp [jk,h1] at q
 | some x=>
  cases h2:fr ρ with
  | none=>simp [jk,h1,h2] at q
  | some r=>
   have:x::r=ds:=by simpa [jk,h1,h2] using q
   subst this
   simp [h ρ r h2]
section
variable {X:Cx}{e:Expr}{es:List Expr}{pos:Pos}
theorem jj {k j n:Nat}{ps:List Str}{g:List PyData->Option PyData}{x:Str}{p:Pos}{fr:Rho->Option (List PyData)} (c:jn X.prog X.w X.K X.mg X.base x ps k n g) (hr:Room j X.A) (hkj:k<=j) (ha:PAD X (e::es) fr)
  (hl:∀ (ρ:Rho) (ds:List PyData),fr ρ=some ds->ds.length=n) (hn:(e::es).length=n:=by rfl) (hg:Gl X x:=by rfl) (hdb:(x == ("__debug__":Str))=false:=by decide) (he:starEach (e::es) X.env=(false,eval e X.env)::starEach es X.env:=by rfl)
  (hpl:(backTo pos (starEach es X.env)).any (·.1)=false:=by rfl):PD X (.Call (.Name x p) (e::es) [] pos) (jD g fr):=by
 with_unfolding_all
  obtain ⟨f,fd,h1,h2,h3,h4⟩:=c
  exact ahi h1 (hr.mono hkj) h2 h3 h4 hn ha (fun ρ ds q=>by rw [hl ρ ds q,hn]) hg hdb he hpl
end
theorem Jm {ft:Rho->Option Bool}{fe:Rho->Option PyData}{i:Nat} (p:PyData->Bool) (h:PyData->PyData):∀ (ds:List PyData) (τ:Rho),(∀ d ∈ ds,ft (τ.set i (some d))=some (p d))->(∀ d ∈ ds,p d=true->fe (τ.set i (some d))=some (h d))->
  qe (jL i) ft fe ds τ=some ((ds.filter p).map h)
 | [],τ,_,_=>rfl
 | d::ds,τ,h1,h2=>by
  have ih:=Jm p h ds (τ.set i (some d)) (fun c hc=>by rw [List.set_set]; exact h1 c (List.mem_cons_of_mem _ hc)) (fun c hc hp=>by rw [List.set_set]; exact h2 c (List.mem_cons_of_mem _ hc) hp)
  simp only [qe,jL,zzD,h1 d List.mem_cons_self]
  by_cases hp:p d=true
  ·simp [hp,h2 d List.mem_cons_self hp,ih,List.filter_cons]
  ·simp [hp,ih,List.filter_cons]
theorem zK {fe:Rho->Option PyData}{i:Nat} (h:PyData->PyData) (ds:List PyData) (τ:Rho) (h2:∀ d ∈ ds,fe (τ.set i (some d))=some (h d)):qe (jL i) QX fe ds τ=some (ds.map h):=by
 rw [Jm (fun _=>true) h ds τ (fun _ _=>rfl) (fun d hd _=>h2 d hd),List.filter_eq_self.mpr (fun _ _=>rfl)]
noncomputable def adH (st:Scope) (N:List Str) (sc:Scope) (N':List Str) (cap:List (Option Nat)):Bool:=
 sc.names.all (fun x=>!decide (x.2= .free) || decide (st.names.lookup x.1=some .cell) || decide (st.names.lookup x.1=some .free)) && sc.names.all (fun x=>!decide (x.2= .cell)) && decide (sc.kind= .function) &&
 sc.names.all (fun x=>!decide (x.2= .local) || decide (sc.names.lookup x.1=some .local)) && decide (cap.length=N'.length) &&
 (List.range N'.length).all (fun j=>match N'[j]?,cap[j]? with
  | some x,some (some i)=>decide (N[i]?=some x) && decide (sc.names.lookup x=some .free)
  | _,_=>true)
theorem qj {X:Cx}{sc:Scope}{N':List Str}{cap:List (Option Nat)} (st:Scope) (N:List Str) (h:adH st N sc N' cap=true) (hst:X.env.scope=st:=by rfl) (hN:X.N=N:=by rfl):CompOk X sc N' cap:=by
 simp only [adH,Bool.and_eq_true,List.all_eq_true,Bool.or_eq_true,Bool.not_eq_true',decide_eq_true_eq,decide_eq_false_iff_not] at h
 obtain ⟨⟨⟨⟨⟨h1,h2⟩,h3⟩,h4⟩,h5⟩,h6⟩:=h
 subst hst; subst hN
 refine ⟨fun x hx e=>?_,h2,h3,fun x hx e=>?_,h5,fun j i x e1 e2=>?_⟩
 ·rcases h1 x hx with (z | z) | z
  ·exact absurd e z
  ·exact .inl z
  ·exact .inr z
 ·rcases h4 x hx with z | z
  ·exact absurd e z
  ·exact z
 ·have hj:j < N'.length:=(List.getElem?_eq_some_iff.mp e1).1
  have:=h6 j (List.mem_range.mpr hj)
  rw [e1,e2] at this
  simpa using this
noncomputable def Cx.inB (X:Cx):Cx:={ X with A:=X.A.in1,xe:=NoX }
theorem Cx.Ok.inB {X:Cx} (ok:X.Ok):(Cx.inB X).Ok:=
 ⟨ok.mod,ok.kind,ok.glob,ok.blt,ok.above,ok.inj,ok.has,ok.cab,fun h=>ok.hd h,ok.frames,ok.stk,ok.exf,ok.bs,ok.bsz,ok.noex,ok.exfs,ok.funs,ok.frf⟩
theorem Cx.Ok.outB {X:Cx} (ok:(Cx.inB X).Ok):X.Ok:=
 ⟨ok.mod,ok.kind,ok.glob,ok.blt,ok.above,ok.inj,ok.has,ok.cab,fun h=>ok.hd h,ok.frames,ok.stk,ok.exf,ok.bs,ok.bsz,ok.noex,ok.exfs,ok.funs,ok.frf⟩
section
variable {X:Cx}{pins:List (Addr × Obj)}{σ:St}{H:Hp}{s:Shared}
theorem Inv.inB (I:Inv X pins σ H s):Inv (Cx.inB X) pins σ H s:=⟨Cx.Ok.inB I.ok,I.os,I.bare,I.base,I.loc,I.cell,I.free,I.freeC,I.pin,I.hok,I.len⟩
theorem Inv.outB (I:Inv (Cx.inB X) pins σ H s):Inv X pins σ H s:=⟨Cx.Ok.outB I.ok,I.os,I.bare,I.base,I.loc,I.cell,I.free,I.freeC,I.pin,I.hok,I.len⟩
end
theorem akn {prog:Program}{w:World}{A:Around}{E:Value->Shared->Prop}{s:Shared}{a b:Int}{t u:Tok}{Q:Value->Shared->Prop} (h:Q (.bool (decide (a < b))) s):wpAny (model prog w) A (richCompare .Lt (.int a t) (.int b u)) Q E s:=
 CmpOf.ints_lt (prog:=prog) (w:=w) (A:=A) (P:=fun (i:Nat) v=>∃ t,v= .int (if i=0 then a else b) t) (fun i=>if i=0 then a else b) (fun _ _ q=>q) 0 1 _ _ _ _ _ ⟨t,rfl⟩ ⟨u,rfl⟩ h
theorem ako {prog:Program}{w:World}{A:Around}{E:Value->Shared->Prop}{s:Shared}{a b:Int}{t u:Tok}{Q:Value->Shared->Prop} (h:Q (.bool (decide (a > b))) s):wpAny (model prog w) A (richCompare .Gt (.int a t) (.int b u)) Q E s:=
 CmpOf.ints_gt (prog:=prog) (w:=w) (A:=A) (P:=fun (i:Nat) v=>∃ t,v= .int (if i=0 then a else b) t) (fun i=>if i=0 then a else b) (fun _ _ q=>q) 0 1 _ _ _ _ _ ⟨t,rfl⟩ ⟨u,rfl⟩ h
noncomputable def Qp (kf:PyData->Int):PyData->List PyData->PyData
 | b,[]=>b
 | b,d::r=>if kf d < kf b then Qp kf d r else Qp kf b r
noncomputable def abh (kf:PyData->Int):Option PyData->List PyData->PyData
 | none,[]=> .none
 | none,d::r=>Qp kf d r
 | some b,r=>Qp kf b r
noncomputable def lob (us:Array Value) (c:Nat):Obj:={ cls:= .type "list",data:= .seq us c }
structure Own1 (X:Cx) (pins:List (Addr × Obj)) (b:Addr):Prop where
 h1:b ≠ X.env.locals
 h2:b ∉ X.fs
 h3:X.s₀.heap.objs.size<=b
 h4:∀ x c,X.env.cells.lookup x=some c->c ≠ b
 h5:∀ p ∈ X.pn++pins,p.1 ≠ b
noncomputable def afz (K:PySem.W.Frag) (H:Hp) (h:Heap) (S:Addr) (kf:PyData->Int):Option PyData->Prop
 | none=>∃ c,h.get? S=some (lob #[] c)
 | some b=>∃ x u t c,Rep K H b x/\jy x u/\h.get? S=some (lob #[u,.int (kf b) t] c)
theorem abi {h:Heap}{S:Addr}{us ws:Array Value}{c:Nat} (ho:h.get? S=some (lob us c)):∃ c2,(h.update S (Obj.mapSeq fun _=>ws)).get? S=some (lob ws c2):=by
 have e:=Heap.get?_update_self (Obj.mapSeq fun _=>ws) ho rfl
 exact ⟨_,e⟩
theorem Qq:(toString "min"++toString ".loop":String)="min.loop":=by decide
theorem aen {X:Cx}{k:Nat}{f:Addr}{fd:FuncData}{ps:List Str}{g:List PyData->Option PyData}{kf:PyData->Int}{ds:List PyData}{xs:List V}{l it S:Addr}{pins:List (Addr × Obj)}{σ:St}{R:Result->Shared->Prop} (hc:X.calm=true)
  (FO:FnOk X.prog X.w X.K X.mg X.base CX0 k f fd ps (Pur X.K 1 g)) (hr:Room (k+1) X.A) (hb:Jg X.K fd ps []) (hk:∀ d ∈ ds,g [d]=some (.int (kf d))) (oI:Own1 X pins it) (oS:Own1 X pins S) (nIS:it ≠ S) (nlI:l ≠ it) (nlS:l ≠ S):
  ∀ (r:List PyData) (i:Nat) (bo:Option PyData) (s:Shared) (H:Hp),ds.drop i=r->Inv (Cx.inB X) pins σ H s->H l=some (.lst xs)->Reps X.K H ds xs->H it=none->H S=none->s.heap.IsListIter it l i->afz X.K H s.heap S kf bo->
   (∀ v u s' H',Inv (Cx.inB X) pins σ H' s'->ji H H'->jy v u->Rep X.K H' (abh kf bo r) v->R (.ok (.ret u)) s')->
   codeAny (model X.prog X.w) X.A (.builtin "min.loop" ⟨[.ref it,.ref f,.ref S],[("default",.none)]⟩) R s:=by
 have fpo:∀ {b:Addr} {H:Hp} {pl:List (Addr × Obj)},Own1 X pins b->H b=none->(∀ p ∈ pl,p.1 ≠ b)->abR (Cx.inB X) (pins++pl) H b:=fun {b H pl} o hn hp=>⟨hn,o.h1,o.h2,.inr o.h3,o.h4,fun p hq z=>by
  rcases List.mem_append.mp (show p ∈ X.pn++(pins++pl) from hq) with q | q
  ·exact o.h5 p (List.mem_append_left _ q) z
  ·rcases List.mem_append.mp q with q | q
   ·exact o.h5 p (List.mem_append_right _ q) z
   ·exact hp p q z⟩
 intro r
 induction r with
 | nil=>
  intro i bo s H hd I hl hR hI hS st hB fin
  obtain ⟨its,rv,p,hz⟩:=I.list (SqL.of (K:=X.K) hl)
  have hle:ds.length<=i:=by
   have:=congrArg List.length hd
   simp at this; omega
  have hlen:=hR.length
  have hvl:=rv.length
  have f0:=fpo (pl:=[]) oI hI (fun _ z=>nomatch z)
  obtain ⟨q0,q1,q2,q3,q4,q5⟩:=f0
  refine codeAny_builtin PySem.F.entry_min_loop ?_
  rw [Around.under_plainId PySem.F.plain_min_loop _]
  cases bo with
  | none=>
   obtain ⟨c,hSo⟩:=hB
   refine wpAny_bind (m:=seqItems? (.ref S)) (wpAny_seqItems hSo rfl ?_)
   refine wpAny_bind (m:=tryCatch (pyNext (.ref it)) _) (wpAny_tryCatch (wpAny_pyNext_list_end (I.ok.hd hc) st p.isList (by simp; omega) fun h' eb=>?_))
   have I1:Inv (Cx.inB X) pins σ H { s with heap:=h' }:=I.turned (t':=s.toks) (it:=it) (fun b o hb e=>eb b o hb e) hI oI.h1 (.inr oI.h3) oI.h4 oI.h5
   refine wpAny_bind (m:=rule _) (wpAny_rule ?_)
   exact wpAny_pure (fin .non _ _ H I1 (ji.refl H) rfl rfl)
  | some b=>
   obtain ⟨x,u,t,c,rx,ru,hSo⟩:=hB
   refine wpAny_bind (m:=seqItems? (.ref S)) (wpAny_seqItems hSo rfl ?_)
   refine wpAny_bind (m:=tryCatch (pyNext (.ref it)) _) (wpAny_tryCatch (wpAny_pyNext_list_end (I.ok.hd hc) st p.isList (by simp; omega) fun h' eb=>?_))
   have I1:Inv (Cx.inB X) pins σ H { s with heap:=h' }:=I.turned (t':=s.toks) (it:=it) (fun b o hb e=>eb b o hb e) hI oI.h1 (.inr oI.h3) oI.h4 oI.h5
   have hS1:h'.get? S=some (lob #[u,.int (kf b) t] c):=eb S _ (Ne.symm nIS) hSo
   refine wpAny_bind (m:=updateSeq S fun _=>#[]) ?_
   refine wpAny_updateSeq hS1 rfl (wpAny_bind (wpAny_letGo (wpAny_pure ?_)))
   have I2:Inv (Cx.inB X) pins σ H { s with heap:=h'.update S (Obj.mapSeq fun _=>(#[]:Array Value)) }:=Inv.turned (s:={ s with heap:=h' }) I1 (t':=s.toks) (it:=S) (fun b o hb e=>((Heap.SameBut.update h' S _).2 b hb).trans e) hS oS.h1 (.inr oS.h3) oS.h4 oS.h5
   exact fin x u _ H I2 (ji.refl H) ru rx
 | cons d r ih=>
  intro i bo s H hd I hl hR hI hS st hB fin
  obtain ⟨its,rv,p,hz⟩:=I.list (SqL.of (K:=X.K) hl)
  have hi:ds[i]?=some d:=by
   have:(ds.drop i)[0]?=some d:=by rw [hd]; rfl
   simpa using this
  have hd':ds.drop (i+1)=r:=by
   have:(ds.drop i).drop 1=r:=by rw [hd]; rfl
   simpa [List.drop_drop,Nat.add_comm] using this
  have hmem:d ∈ ds:=List.mem_of_getElem? hi
  obtain ⟨x,hx,rx⟩:=hR.get hi
  obtain ⟨u,hu,ru⟩:=rv.get hx
  refine codeAny_builtin PySem.F.entry_min_loop ?_
  rw [Around.under_plainId PySem.F.plain_min_loop _]
  obtain ⟨olds,hSo⟩:∃ olds:Obj,s.heap.get? S=some olds/\(∀ v,olds.data ≠ .cell v):=by
   cases bo with
   | none=>obtain ⟨c,e⟩:=hB; exact ⟨_,e,fun v z=>by cases z⟩
   | some b=>obtain ⟨_,_,_,c,_,_,e⟩:=hB; exact ⟨_,e,fun v z=>by cases z⟩
  obtain ⟨hSo,hSc⟩:=hSo
  have nxt:∀ {Q2:Option Value->Shared->Prop} {E2:Value->Shared->Prop},(∀ h' oi,Inv (Cx.inB X) (pins++[(S,olds),(it,oi)]) σ H { s with heap:=h' }->(oi.cls= .type "list_iterator"/\oi.data= .fields #[.ref l,.int ((i+1:Nat):Int) 0])->Q2 (some u) { s with heap:=h' })->
    wpAny (model X.prog X.w) X.A.in1 (pyNext (.ref it)) Q2 E2 s:=by
   intro Q2 E2 go
   refine wpAny_pyNext_list_item st p.isList (x:=u) (by simpa using hu) fun h' st' sb=>?_
   have I1:Inv (Cx.inB X) pins σ H { s with heap:=h' }:=I.turned (t':=s.toks) (it:=it) (fun b o hb e=>(sb.2 b hb).trans e) hI oI.h1 (.inr oI.h3) oI.h4 oI.h5
   have hS1:h'.get? S=some olds:=(sb.2 S (Ne.symm nIS)).trans hSo
   obtain ⟨oi,hoi,hci,hdi⟩:=id st'
   refine go h' oi (I1.pins_of fun q hq=>?_) ⟨hci,hdi⟩
   rcases List.mem_append.mp hq with z | z
   ·exact I1.pin q (List.mem_append_right _ z)
   ·rcases List.mem_cons.mp z with e | z
    ·subst e; exact ⟨hS1,hS,oS.h1,oS.h2,hSc⟩
    ·have e:q=(it,oi):=by simpa using z
     subst e; exact ⟨hoi,hI,oI.h1,oI.h2,fun v z=>by rw [hdi] at z; cases z⟩
  have key:∀ {Q3:Value->Shared->Prop} {E3:Value->Shared->Prop} {h':Heap} {oi:Obj},Inv (Cx.inB X) (pins++[(S,olds),(it,oi)]) σ H { s with heap:=h' }->(oi.cls= .type "list_iterator"/\oi.data= .fields #[.ref l,.int ((i+1:Nat):Int) 0])->
    (∀ t s2 H2,Inv (Cx.inB X) pins σ H2 s2->ji H H2->H2 it=none->H2 S=none->s2.heap.IsListIter it l (i+1)->s2.heap.get? S=some olds->Q3 (.int (kf d) t) s2)->wpAny (model X.prog X.w) X.A.in1 (call (.ref f) [u]) Q3 E3 { s with heap:=h' }:=by
   intro Q3 E3 h' oi I1p ho go
   have kk:(Pur X.K 1 g) [x] H (fun v H2=>v= .int (kf d)/\ji H H2) E0:=⟨[d],.int (kf d),rfl,⟨x,[],rfl,rx,rfl⟩,hk d hmem,fun v H2 s2 r2=>⟨r2,s2⟩⟩
   refine wpAny_mono (afa (X:=Cx.inB X) (dvs:=[]) (ds:=[]) (E:=E0) FO (Room.in1 hr) hb .nil afi I1p (.cons ru .nil) (by simpa using kk)) (fun kv s2 h2=>?_) fun _ _ z=>z.elim
   obtain ⟨v2,H2,I2,r2,e2,s2'⟩:=h2
   subst e2
   obtain ⟨t,rfl⟩:=r2
   have pS:=I2.pin (S,olds) (List.mem_append_right _ (List.mem_append_right _ (by simp)))
   have pI:=I2.pin (it,oi) (List.mem_append_right _ (List.mem_append_right _ (by simp)))
   have I2d:Inv (Cx.inB X) pins σ H2 s2:=I2.pins_of fun q hq=>I2.pin q (List.mem_append_right _ (List.mem_append_left _ hq))
   exact go t s2 H2 I2d s2' pI.2.1 pS.2.1 ⟨oi,pI.1,ho.1,ho.2⟩ pS.1
  have back:∀ {b2:PyData} {s2:Shared} {H2:Hp},Inv (Cx.inB X) pins σ H2 s2->ji H H2->H2 it=none->H2 S=none->s2.heap.IsListIter it l (i+1)->afz X.K H2 s2.heap S kf (some b2)->abh kf bo (d::r)=abh kf (some b2) r->
    codeAny (model X.prog X.w) X.A (.builtin "min.loop" ⟨[.ref it,.ref f,.ref S],[("default",.none)]⟩) R s2:=fun {b2 s2 H2} I2 s12 hI2 hS2 st2 hB2 em=>
   ih (i+1) (some b2) s2 H2 hd' I2 (s12 _ _ hl) (Reps.mono s12 _ _ hR) hI2 hS2 st2 hB2 fun v u s' H' I' s' r' q'=>fin v u _ H' I' (s12.trans s') r' (by rw [em]; exact q')
  cases bo with
  | none=>
   obtain ⟨c,hSn⟩:=hB
   rw [hSn] at hSo; cases hSo
   refine wpAny_bind (m:=seqItems? (.ref S)) (wpAny_seqItems hSn rfl ?_)
   refine wpAny_bind (m:=tryCatch (pyNext (.ref it)) _) (wpAny_tryCatch (nxt fun h' oi I1p ho=>?_))
   refine wpAny_bind (m:=tryCatch (holding [u] (call (.ref f) [u])) _) (wpAny_tryCatch (wpAny_holding (key I1p ho fun t s2 H2 I2 s12 hI2 hS2 st2 hS2o=>?_)))
   refine wpAny_bind (m:=updateSeq S fun _=>#[u,.int (kf d) t]) ?_
   refine wpAny_updateSeq hS2o rfl ?_
   obtain ⟨c2,hc2⟩:=abi (ws:=#[u,.int (kf d) t]) hS2o
   have sb:=Heap.SameBut.update s2.heap S (Obj.mapSeq fun _=>#[u,.int (kf d) t])
   have I3:Inv (Cx.inB X) pins σ H2 { s2 with heap:=s2.heap.update S (Obj.mapSeq fun _=>#[u,.int (kf d) t]) }:=I2.turned (t':=s2.toks) (it:=S) (fun b o hb e=>(sb.2 b hb).trans e) hS2 oS.h1 (.inr oS.h3) oS.h4 oS.h5
   obtain ⟨oi,e1,e2⟩:=st2
   rw [Qq]
   exact wpAny_pure ⟨plainId_quiet PySem.F.plain_min_loop _,back (b2:=d) I3 s12 hI2 hS2 ⟨oi,(sb.2 it nIS).trans e1,e2⟩ ⟨x,u,t,c2,Rep.mono s12 _ _ rx,ru,hc2⟩ rfl⟩
  | some b=>
   obtain ⟨xb,ub,tb,c,rb,rub,hSn⟩:=hB
   rw [hSn] at hSo; cases hSo
   refine wpAny_bind (m:=seqItems? (.ref S)) (wpAny_seqItems hSn rfl ?_)
   refine wpAny_bind (m:=tryCatch (pyNext (.ref it)) _) (wpAny_tryCatch (nxt fun h' oi I1p ho=>?_))
   refine wpAny_bind (m:=tryCatch (holding [u] (call (.ref f) [u])) _) (wpAny_tryCatch (wpAny_holding (key I1p ho fun t s2 H2 I2 s12 hI2 hS2 st2 hS2o=>?_)))
   refine wpAny_bind (m:=tryCatch (holding [u,.int (kf d) t] (richCompare .Lt (.int (kf d) t) (.int (kf b) tb) >>= _)) _) (wpAny_tryCatch (wpAny_holding (wpAny_bind (akn ?_))))
   refine wpAny_bind (wpAny_holding (wpAny_truthy_bool ?_))
   refine wpAny_bind (wpAny_letGo (wpAny_pure ?_))
   by_cases hlt:kf d < kf b
   ·simp only [hlt,decide_true,zzM]
    refine wpAny_bind (m:=updateSeq S fun _=>#[u,.int (kf d) t]) ?_
    refine wpAny_updateSeq hS2o rfl (wpAny_bind (wpAny_letGo ?_))
    obtain ⟨c2,hc2⟩:=abi (ws:=#[u,.int (kf d) t]) hS2o
    have sb:=Heap.SameBut.update s2.heap S (Obj.mapSeq fun _=>#[u,.int (kf d) t])
    have I3:Inv (Cx.inB X) pins σ H2 { s2 with heap:=s2.heap.update S (Obj.mapSeq fun _=>#[u,.int (kf d) t]) }:=I2.turned (t':=s2.toks) (it:=S) (fun b o hb e=>(sb.2 b hb).trans e) hS2 oS.h1 (.inr oS.h3) oS.h4 oS.h5
    obtain ⟨oi,e1,e2⟩:=st2
    rw [Qq]
    exact wpAny_pure ⟨plainId_quiet PySem.F.plain_min_loop _,back (b2:=d) I3 s12 hI2 hS2 ⟨oi,(sb.2 it nIS).trans e1,e2⟩ ⟨x,u,t,c2,Rep.mono s12 _ _ rx,ru,hc2⟩ (by simp [abh,Qp,hlt])⟩
   ·simp only [hlt,decide_false,zzL,zzN]
    refine wpAny_bind (wpAny_letGo ?_)
    rw [Qq]
    exact wpAny_pure ⟨plainId_quiet PySem.F.plain_min_loop _,back (b2:=b) I2 s12 hI2 hS2 st2 ⟨xb,ub,tb,c,Rep.mono s12 _ _ rb,rub,hS2o⟩ (by simp [abh,Qp,hlt])⟩
theorem ac2 (a v d:Value):argsOk "min" ⟨[a],[("key",v),("default",d)]⟩:=by unfold argsOk; kernel_rfl
theorem aeo (a d:Value):argsOk "max" ⟨[a],[("default",d)]⟩:=by unfold argsOk; kernel_rfl
theorem Qr {X:Cx}{pins:List (Addr × Obj)}{σ:St}{H:Hp}{s:Shared} (I:Inv X pins σ H s) {b:Addr} (hb:s.heap.objs.size<=b):Own1 X pins b:=by
 obtain ⟨_,h1,h2,h3,h4,h5⟩:=I.fpOk (H':=fun _=>none) hb rfl
 exact ⟨h1,h2,Nat.le_trans I.sz hb,h4,h5⟩
theorem ac3 {X:Cx}{k:Nat}{f:Addr}{fd:FuncData}{ps:List Str}{g:List PyData->Option PyData}{kf:PyData->Int}{ds:List PyData}{xs:List V}{l:Addr}{pins:List (Addr × Obj)}{σ:St}{H:Hp}{s:Shared}{Q:VK} (hc:X.calm=true)
  (FO:FnOk X.prog X.w X.K X.mg X.base CX0 k f fd ps (Pur X.K 1 g)) (hr:Room (k+1) X.A) (hb:Jg X.K fd ps []) (hk:∀ d ∈ ds,g [d]=some (.int (kf d))) (I:Inv X pins σ H s) (hl:H l=some (.lst xs)) (hR:Reps X.K H ds xs)
  (q:∀ v H',ji H H'->Rep X.K H' (abh kf none ds) v->Q v H'):
  wpAny (model X.prog X.w) X.A (call (.builtin "min") [.ref l] [("key",.ref f),("default",.none)]) (EP X pins σ Q) X.xe s:=by
 obtain ⟨its,rv,p,hz⟩:=I.list (SqL.of (K:=X.K) hl)
 have hlt:l < s.heap.objs.size:=I.hok.lt hl
 refine PyProof.Rows.kmk_tree PySem.F.kind_min PySem.F.plain_min PySem.F.entry_min (ac2 _ _ _) ?_
 refine wpAny_bind (m:=Builtin.Builtins.bindParams "min" ["key","default"] 0 ⟨[],[("key",.ref f),("default",.none)]⟩)
  (wpAny_of_eq (show _=pure [some (.ref f),some .none] from rfl) ?_)
 refine wpAny_bind (wpAny_pure ?_)
 refine wpAny_bind (wpAny_pyIter_list p.isList ?_)
 refine wpAny_bind (wpAny_newList ?_ (Nat.zero_le _))
 rw [Qq]
 refine wpAny_pure ⟨plainId_quiet PySem.F.plain_min_loop _,?_⟩
 generalize hh1:s.heap.push { cls:= .type "list_iterator",data:= .fields #[.ref l,.int 0 0] }=h1
 have n1:h1.objs.size=s.heap.objs.size+1:=by rw [←hh1]; exact Heap.size_push ..
 have k2:∀ b o,s.heap.get? b=some o->(h1.push { cls:= .type "list",data:= .seq ([]:List Value).toArray }).get? b=some o:=fun b o e=>Heap.get?_push_of_some _ (by rw [←hh1]; exact Heap.get?_push_of_some _ e)
 have I2:Inv X pins σ H { s with heap:=h1.push { cls:= .type "list",data:= .seq ([]:List Value).toArray } }:=I.kept (t':=s.toks) k2
 refine aen (kf:=kf) hc FO hr hb hk (Qr I (Nat.le_refl _)) (Qr I (b:=h1.objs.size) (by rw [n1]; exact Nat.le_succ _)) (by rw [n1]; exact Nat.ne_of_lt (Nat.lt_succ_self _)) (Nat.ne_of_lt hlt) (by rw [n1]; exact Nat.ne_of_lt (Nat.lt_succ_of_lt hlt))
  ds 0 none _ H rfl (Inv.inB I2) hl hR (I.hok.fresh (Nat.le_refl _)) (I.hok.fresh (by rw [n1]; exact Nat.le_succ _)) ⟨_,Heap.get?_push_of_some _ (by rw [←hh1]; exact Heap.get?_push_size _ rfl),rfl,rfl⟩ ⟨0,Heap.get?_push_size _ rfl⟩ fun v u s' H' I' s1 r' q'=>?_
 exact ⟨v,H',Inv.outB I',r',q v H' s1 q'⟩
noncomputable def Z7 (g:List PyData->Option PyData) (ds:List PyData):Bool:=ds.all fun d=>((g [d]).bind zd).isSome
noncomputable def Qs (g:List PyData->Option PyData) (d:PyData):Int:=((g [d]).bind zd).getD 0
noncomputable def Q0 (g:List PyData->Option PyData):PyData->Option PyData
 | .list ds=>if Z7 g ds=true then some (abh (Qs g) none ds) else none
 | _=>none
theorem aep {d:PyData}{i:Int} (h:zd d=some i):d= .int i:=by
 cases d <;> simp [zd] at h
 rw [h]
theorem afA {g:List PyData->Option PyData}{ds:List PyData} (h:Z7 g ds=true):∀ d ∈ ds,g [d]=some (.int (Qs g d)):=fun d hd=>by
 have:=List.all_eq_true.mp h d hd
 cases e:g [d] with
 | none=>simp [e] at this
 | some c=>
  cases e2:zd c with
  | none=>simp [e,e2] at this
  | some i=>
   have:=aep e2
   subst this
   simp [Qs,e,zd]
theorem abj:bootBuiltins "min"=some (.builtin "min"):=by decide +kernel
theorem abk:bootBuiltins "max"=some (.builtin "max"):=by decide +kernel
section
variable {X:Cx}{a:Expr}{fa:Rho->Option PyData}{pos p p2 p3 kp kp2:Pos}{j3:Nat}
theorem afB {k j:Nat}{ps:List Str}{g:List PyData->Option PyData}{x:Str} (hc:X.calm=true) (c:jn X.prog X.w X.K X.mg X.base x ps k 1 g) (hr:Room j X.A) (hkj:k+1<=j) (hm:X.mg "min"=none) (ha:PD X a fa) (hg:Gl X "min":=by rfl) (hgx:Gl X x:=by rfl)
  (hdb:(x == ("__debug__":Str))=false:=by decide) (hs:starEach [a] X.env=[(false,eval a X.env)]:=by rfl):
  PD X (.Call (.Name "min" p) [a] [⟨some "key",.Name x p2,kp⟩,⟨some "default",.Constant .none j3 p3,kp2⟩] pos) (fun ρ=>(fa ρ).bind (Q0 g)):=by
 with_unfolding_all
  obtain ⟨f,fd,FO,hmx,hkp,hb⟩:=c
  intro pins s σ H Q I h
  obtain ⟨ρ,d,en,q,kq⟩:=h
  cases h1:fa ρ with
  | none=>simp [h1] at q
  | some y=>
   have q':Q0 g y=some d:=by simpa [h1] using q
   refine wpAny_Call_Name_kw (JU I hg hm abj ?_)
   have hA:PA X [a] (ZU (tD X.K fa) ad6):=j4 ha qQ (by rw [hs]; rfl)
   have hK:PK X [⟨some "key",.Name x p2,kp⟩,⟨some "default",.Constant .none j3 p3,kp2⟩] (ZU (tC (.ref f)) (ZU (tC .non) ad6)):=aa3 (ZB hgx hmx rfl hdb) (aa3 acM afb)
   refine callWith_kw (thn (hA pos pins s σ H (fun vs H1=>∃ v,vs=[v]/\ji H H1/\Rep X.K H1 y v) I ⟨ρ,y,en,h1,fun v H1 s1 r1=>⟨v,rfl,s1,r1⟩⟩) fun us s1 ⟨vs,H1,I1,r1,v,e1,s1',rv⟩=>?_) (by rw [hs]; rfl) (by rw [hs]; rfl)
   subst e1
   obtain ⟨u,rfl,ru⟩:=Qg r1
   refine thn (hK pos pins s1 σ H1 (fun zs H2=>zs=[.ref f,.non]/\H2=H1) I1 ⟨rfl,rfl⟩) fun ws s2 ⟨zs,H2,I2,r2,e2,e3⟩=>?_
   subst e2; subst e3
   obtain ⟨w1,w2,rfl,a1,a2⟩:=abS r2
   cases (show w1=_ from a1)
   cases (show w2=_ from a2)
   cases y with
   | list ds=>
    by_cases hko:Z7 g ds=true
    ·have:abh (Qs g) none ds=d:=by simpa [Q0,hko] using q'
     subst this
     obtain ⟨l,xs,e4,e5,e6⟩:=rv
     subst e4
     cases (show u=_ from ru)
     exact ac3 (kf:=Qs g) hc FO (hr.mono hkj) hb (afA hko) I2 e5 e6 fun v H' s' r'=>kq v H' (s1'.trans s') r'
    ·simp [Q0,hko] at q'
   | _=>simp [Q0] at q'
end
noncomputable def aaM:Int->List Int->Int
 | b,[]=>b
 | b,d::r=>if d > b then aaM d r else aaM b r
noncomputable def Zx:Option Int->List Int->PyData
 | none,[]=> .none
 | none,d::r=> .int (aaM d r)
 | some b,r=> .int (aaM b r)
theorem Qt:(toString "max"++toString ".loop":String)="max.loop":=by decide
noncomputable def afC (h:Heap) (S:Addr):Option Int->Prop
 | none=>∃ c,h.get? S=some (lob #[] c)
 | some b=>∃ t c,h.get? S=some (lob #[.int b t,.int b t] c)
theorem afD {X:Cx}{ns:List Int}{l it S:Addr}{pins:List (Addr × Obj)}{σ:St}{R:Result->Shared->Prop} (hc:X.calm=true) (oI:Own1 X pins it) (oS:Own1 X pins S) (nIS:it ≠ S):
  ∀ (r:List Int) (i:Nat) (bo:Option Int) (s:Shared) (H:Hp),ns.drop i=r->Inv (Cx.inB X) pins σ H s->H l=some (.lst (ns.map V.int))->H it=none->H S=none->s.heap.IsListIter it l i->afC s.heap S bo->
   (∀ v u s',Inv (Cx.inB X) pins σ H s'->jy v u->Rep X.K H (Zx bo r) v->R (.ok (.ret u)) s')->
   codeAny (model X.prog X.w) X.A (.builtin "max.loop" ⟨[.ref it,.none,.ref S],[("default",.none)]⟩) R s:=by
 intro r
 induction r with
 | nil=>
  intro i bo s H hd I hl hI hS st hB fin
  obtain ⟨its,rv,p,hz⟩:=I.list (SqL.of (K:=X.K) hl)
  have hle:ns.length<=i:=by
   have:=congrArg List.length hd
   simp at this; omega
  have hvl:=rv.length
  simp at hvl
  refine codeAny_builtin PySem.F.entry_max_loop ?_
  rw [Around.under_plainId PySem.F.plain_max_loop _]
  cases bo with
  | none=>
   obtain ⟨c,hSo⟩:=hB
   refine wpAny_bind (m:=seqItems? (.ref S)) (wpAny_seqItems hSo rfl ?_)
   refine wpAny_bind (m:=tryCatch (pyNext (.ref it)) _) (wpAny_tryCatch (wpAny_pyNext_list_end (I.ok.hd hc) st p.isList (by simp; omega) fun h' eb=>?_))
   have I1:Inv (Cx.inB X) pins σ H { s with heap:=h' }:=I.turned (t':=s.toks) (it:=it) (fun b o hb e=>eb b o hb e) hI oI.h1 (.inr oI.h3) oI.h4 oI.h5
   refine wpAny_bind (m:=rule _) (wpAny_rule ?_)
   exact wpAny_pure (fin .non _ _ I1 rfl rfl)
  | some b=>
   obtain ⟨t,c,hSo⟩:=hB
   refine wpAny_bind (m:=seqItems? (.ref S)) (wpAny_seqItems hSo rfl ?_)
   refine wpAny_bind (m:=tryCatch (pyNext (.ref it)) _) (wpAny_tryCatch (wpAny_pyNext_list_end (I.ok.hd hc) st p.isList (by simp; omega) fun h' eb=>?_))
   have I1:Inv (Cx.inB X) pins σ H { s with heap:=h' }:=I.turned (t':=s.toks) (it:=it) (fun b o hb e=>eb b o hb e) hI oI.h1 (.inr oI.h3) oI.h4 oI.h5
   have hS1:h'.get? S=some (lob #[.int b t,.int b t] c):=eb S _ (Ne.symm nIS) hSo
   refine wpAny_bind (m:=updateSeq S fun _=>#[]) ?_
   refine wpAny_updateSeq hS1 rfl (wpAny_bind (wpAny_letGo (wpAny_pure ?_)))
   have I2:Inv (Cx.inB X) pins σ H { s with heap:=h'.update S (Obj.mapSeq fun _=>(#[]:Array Value)) }:=Inv.turned (s:={ s with heap:=h' }) I1 (t':=s.toks) (it:=S) (fun b o hb e=>((Heap.SameBut.update h' S _).2 b hb).trans e) hS oS.h1 (.inr oS.h3) oS.h4 oS.h5
   exact fin (.int b) _ _ I2 ⟨t,rfl⟩ rfl
 | cons d r ih=>
  intro i bo s H hd I hl hI hS st hB fin
  obtain ⟨its,rv,p,hz⟩:=I.list (SqL.of (K:=X.K) hl)
  have hi:ns[i]?=some d:=by
   have:(ns.drop i)[0]?=some d:=by rw [hd]; rfl
   simpa using this
  have hd':ns.drop (i+1)=r:=by
   have:(ns.drop i).drop 1=r:=by rw [hd]; rfl
   simpa [List.drop_drop,Nat.add_comm] using this
  obtain ⟨u,hu,t,rfl⟩:=rv.get (show (ns.map V.int)[i]?=some (V.int d) by rw [List.getElem?_map,hi]; rfl)
  refine codeAny_builtin PySem.F.entry_max_loop ?_
  rw [Around.under_plainId PySem.F.plain_max_loop _]
  have nxt:∀ {Q2:Option Value->Shared->Prop} {E2:Value->Shared->Prop},(∀ h',Inv (Cx.inB X) pins σ H { s with heap:=h' }->h'.IsListIter it l (i+1)->(∀ o,s.heap.get? S=some o->h'.get? S=some o)->Q2 (some (.int d t)) { s with heap:=h' })->
    wpAny (model X.prog X.w) X.A.in1 (pyNext (.ref it)) Q2 E2 s:=by
   intro Q2 E2 go
   refine wpAny_pyNext_list_item st p.isList (x:= .int d t) (by simpa using hu) fun h' st' sb=>?_
   exact go h' (I.turned (t':=s.toks) (it:=it) (fun b o hb e=>(sb.2 b hb).trans e) hI oI.h1 (.inr oI.h3) oI.h4 oI.h5) st' fun o e=>(sb.2 S (Ne.symm nIS)).trans e
  have back:∀ {b2:Int} {h2:Heap},Inv (Cx.inB X) pins σ H { s with heap:=h2 }->h2.IsListIter it l (i+1)->afC h2 S (some b2)->Zx bo (d::r)=Zx (some b2) r->
    codeAny (model X.prog X.w) X.A (.builtin "max.loop" ⟨[.ref it,.none,.ref S],[("default",.none)]⟩) R { s with heap:=h2 }:=fun {b2 h2} I2 st2 hB2 em=>
   ih (i+1) (some b2) _ H hd' I2 hl hI hS st2 hB2 fun v u s' I' r' q'=>fin v u _ I' r' (by rw [em]; exact q')
  have store:∀ {h1:Heap} {us:Array Value} {c:Nat},Inv (Cx.inB X) pins σ H { s with heap:=h1 }->h1.IsListIter it l (i+1)->h1.get? S=some (lob us c)->Inv (Cx.inB X) pins σ H { s with heap:=h1.update S (Obj.mapSeq fun _=>#[.int d t,.int d t]) }/\
    (h1.update S (Obj.mapSeq fun _=>#[.int d t,.int d t])).IsListIter it l (i+1)/\afC (h1.update S (Obj.mapSeq fun _=>#[.int d t,.int d t])) S (some d):=fun {h1 us c} I1 st1 hS1=>by
   have sb:=Heap.SameBut.update h1 S (Obj.mapSeq fun _=>#[.int d t,.int d t])
   obtain ⟨oi,e1,e2⟩:=st1
   obtain ⟨c2,hc2⟩:=abi (ws:=#[.int d t,.int d t]) hS1
   exact ⟨Inv.turned (s:={ s with heap:=h1 }) I1 (t':=s.toks) (it:=S) (fun b o hb e=>(sb.2 b hb).trans e) hS oS.h1 (.inr oS.h3) oS.h4 oS.h5,⟨oi,(sb.2 it nIS).trans e1,e2⟩,t,c2,hc2⟩
  cases bo with
  | none=>
   obtain ⟨c,hSo⟩:=hB
   refine wpAny_bind (m:=seqItems? (.ref S)) (wpAny_seqItems hSo rfl ?_)
   refine wpAny_bind (m:=tryCatch (pyNext (.ref it)) _) (wpAny_tryCatch (nxt fun h1 I1 st1 k1=>?_))
   obtain ⟨I2,st2,b2⟩:=store I1 st1 (k1 _ hSo)
   refine wpAny_bind (m:=updateSeq S fun _=>#[.int d t,.int d t]) ?_
   refine wpAny_updateSeq (s:={ s with heap:=h1 }) (k1 _ hSo) rfl ?_
   rw [Qt]
   exact wpAny_pure ⟨plainId_quiet PySem.F.plain_max_loop _,back I2 st2 b2 rfl⟩
  | some b=>
   obtain ⟨tb,c,hSo⟩:=hB
   refine wpAny_bind (m:=seqItems? (.ref S)) (wpAny_seqItems hSo rfl ?_)
   refine wpAny_bind (m:=tryCatch (pyNext (.ref it)) _) (wpAny_tryCatch (nxt fun h1 I1 st1 k1=>?_))
   refine wpAny_bind (m:=tryCatch (holding [.int d t,.int d t] (richCompare .Gt (.int d t) (.int b tb) >>= _)) _) (wpAny_tryCatch (wpAny_holding (wpAny_bind (ako ?_))))
   refine wpAny_bind (wpAny_holding (wpAny_truthy_bool ?_))
   refine wpAny_bind (wpAny_letGo (wpAny_pure ?_))
   by_cases hgt:d > b
   ·simp only [hgt,decide_true,zzM]
    obtain ⟨I2,st2,b2⟩:=store I1 st1 (k1 _ hSo)
    refine wpAny_bind (m:=updateSeq S fun _=>#[.int d t,.int d t]) ?_
    refine wpAny_updateSeq (s:={ s with heap:=h1 }) (k1 _ hSo) rfl (wpAny_bind (wpAny_letGo ?_))
    rw [Qt]
    exact wpAny_pure ⟨plainId_quiet PySem.F.plain_max_loop _,back I2 st2 b2 (by simp [Zx,aaM,hgt])⟩
   ·simp only [hgt,decide_false,zzL,zzN]
    refine wpAny_bind (wpAny_letGo ?_)
    rw [Qt]
    exact wpAny_pure ⟨plainId_quiet PySem.F.plain_max_loop _,back I1 st1 ⟨tb,c,k1 _ hSo⟩ (by simp [Zx,aaM,hgt])⟩
theorem aeq {X:Cx}{ns:List Int}{l:Addr}{pins:List (Addr × Obj)}{σ:St}{H:Hp}{s:Shared}{Q:VK} (hc:X.calm=true) (I:Inv X pins σ H s) (hl:H l=some (.lst (ns.map V.int))) (q:∀ v,Rep X.K H (Zx none ns) v->Q v H):
  wpAny (model X.prog X.w) X.A (call (.builtin "max") [.ref l] [("default",.none)]) (EP X pins σ Q) X.xe s:=by
 obtain ⟨its,rv,p,hz⟩:=I.list (SqL.of (K:=X.K) hl)
 refine PyProof.Rows.kmk_tree PySem.F.kind_max PySem.F.plain_max PySem.F.entry_max (aeo _ _) ?_
 refine wpAny_bind (m:=Builtin.Builtins.bindParams "max" ["key","default"] 0 ⟨[],[("default",.none)]⟩)
  (wpAny_of_eq (show _=pure [none,some .none] from rfl) ?_)
 refine wpAny_bind (wpAny_pure ?_)
 refine wpAny_bind (wpAny_pyIter_list p.isList ?_)
 refine wpAny_bind (wpAny_newList ?_ (Nat.zero_le _))
 rw [Qt]
 refine wpAny_pure ⟨plainId_quiet PySem.F.plain_max_loop _,?_⟩
 generalize hh1:s.heap.push { cls:= .type "list_iterator",data:= .fields #[.ref l,.int 0 0] }=h1
 have n1:h1.objs.size=s.heap.objs.size+1:=by rw [←hh1]; exact Heap.size_push ..
 have k2:∀ b o,s.heap.get? b=some o->(h1.push { cls:= .type "list",data:= .seq ([]:List Value).toArray }).get? b=some o:=fun b o e=>Heap.get?_push_of_some _ (by rw [←hh1]; exact Heap.get?_push_of_some _ e)
 have I2:Inv X pins σ H { s with heap:=h1.push { cls:= .type "list",data:= .seq ([]:List Value).toArray } }:=I.kept (t':=s.toks) k2
 refine afD hc (Qr I (Nat.le_refl _)) (Qr I (b:=h1.objs.size) (by rw [n1]; exact Nat.le_succ _)) (by rw [n1]; exact Nat.ne_of_lt (Nat.lt_succ_self _))
  ns 0 none _ H rfl (Inv.inB I2) hl (I.hok.fresh (Nat.le_refl _)) (I.hok.fresh (by rw [n1]; exact Nat.le_succ _)) ⟨_,Heap.get?_push_of_some _ (by rw [←hh1]; exact Heap.get?_push_size _ rfl),rfl,rfl⟩ ⟨0,Heap.get?_push_size _ rfl⟩ fun v u s' I' r' q'=>?_
 exact ⟨v,H,Inv.outB I',r',q v q'⟩
noncomputable def aaN:PyData->Option PyData
 | .list ds=>(jX ds).map fun ns=>Zx none ns
 | _=>none
section
variable {X:Cx}{a:Expr}{fa:Rho->Option PyData}{pos p p3 kp2:Pos}{j3:Nat}
theorem ahr (hc:X.calm=true) (hm:X.mg "max"=none) (ha:PD X a fa) (hg:Gl X "max":=by rfl) (hs:starEach [a] X.env=[(false,eval a X.env)]:=by rfl):
  PD X (.Call (.Name "max" p) [a] [⟨some "default",.Constant .none j3 p3,kp2⟩] pos) (fun ρ=>(fa ρ).bind aaN):=by
 with_unfolding_all
  intro pins s σ H Q I h
  obtain ⟨ρ,d,en,q,kq⟩:=h
  cases h1:fa ρ with
  | none=>simp [h1] at q
  | some y=>
   have q':aaN y=some d:=by simpa [h1] using q
   refine wpAny_Call_Name_kw (JU I hg hm abk ?_)
   have hA:PA X [a] (ZU (tD X.K fa) ad6):=j4 ha qQ (by rw [hs]; rfl)
   have hK:PK X [⟨some "default",.Constant .none j3 p3,kp2⟩] (ZU (tC .non) ad6):=aa3 acM afb
   refine callWith_kw (thn (hA pos pins s σ H (fun vs H1=>∃ v,vs=[v]/\ji H H1/\Rep X.K H1 y v) I ⟨ρ,y,en,h1,fun v H1 s1 r1=>⟨v,rfl,s1,r1⟩⟩) fun us s1 ⟨vs,H1,I1,r1,v,e1,s1',rv⟩=>?_) (by rw [hs]; rfl) (by rw [hs]; rfl)
   subst e1
   obtain ⟨u,rfl,ru⟩:=Qg r1
   refine thn (hK pos pins s1 σ H1 (fun zs H2=>zs=[.non]/\H2=H1) I1 ⟨rfl,rfl⟩) fun ws s2 ⟨zs,H2,I2,r2,e2,e3⟩=>?_
   subst e2; subst e3
   obtain ⟨w1,rfl,a1⟩:=Qg r2
   cases (show w1=_ from a1)
   cases y with
   | list ds=>
    cases hi:jX ds with
    | none=>simp [aaN,hi] at q'
    | some ns=>
     have:Zx none ns=d:=by simpa [aaN,hi] using q'
     subst this
     obtain ⟨l,xs,e4,e5,e6⟩:=rv
     subst e4
     cases (show u=_ from ru)
     rw [qR hi] at e6
     have:=Reps.ints e6
     subst this
     exact aeq hc I2 e5 fun v r'=>kq v _ s1' r'
   | _=>simp [aaN] at q'
end
end BX
end
section
namespace BX.Srt
open PySem PySem.W
open PyProof.Rows (mirror bubble mirror_size mirror_perm bubble_size bubble_perm getElem?_mirror_all getElem?_bubble)
section
variable (rk:Nat->Int) (n:Nat)
noncomputable def val (p:Array Nat) (k:Nat):Int:=rk (p.getD k 0)
noncomputable def OKp (p:Array Nat):Prop:=p.Perm (List.range n).toArray
end
section
variable {rk:Nat->Int}{n:Nat}{p p':Array Nat}
theorem OKp.size (h:OKp n p):p.size=n:=by
 have:=h.size_eq
 simpa using this
theorem OKp.lt (h:OKp n p) {k:Nat} (hk:k < n):p.getD k 0 < n:=by
 have hs:=h.size
 have e:p.getD k 0=p[k]'(by omega):=by simp [Array.getD,hs,hk]
 have:p[k]'(by omega) ∈ (List.range n).toArray:=h.mem_iff.mp (Array.getElem_mem _)
 rw [e]
 simpa using this
theorem OKp.rev (h:OKp n p) (i j:Nat):OKp n (kas_rev p i j):=(mirror_perm p i j _).trans h
end
variable {rk:Nat->Int}{n:Nat}{cmp:Nat->Nat->(Bool->Shared->Prop)->Shared->Prop}
section
variable {s:Shared} (hc:∀ i j (C:Bool->Shared->Prop),i < n->j < n->C (decide (rk i < rk j)) s->cmp i j C s)
include hc
end
end BX.Srt
end
section
namespace BX
open PySem PySem.Spec L2
open PyProof.Rows hiding St
section
variable {prog:Program}{w:World}{A:Around}{E:Value->Shared->Prop}{s:Shared}
end
theorem qh.there {P:Program}{w:World}{H:Hp}{h:Heap}{a:Addr}{o:HO} (x:qh P w H h a o):∃ u,h.get? a=some u:=by
 cases o with
 | lst xs=>obtain ⟨_,_,_,_,e⟩:=x; exact ⟨_,e⟩
 | tup xs=>obtain ⟨_,_,_,u,e,_⟩:=x; exact ⟨_,e⟩
 | dK kvs=>obtain ⟨_,_,_,_,o,_,_,e,_⟩:=x; exact ⟨_,e⟩
 | dT kvs=>obtain ⟨_,_,_,_,o,_,_,e,_⟩:=x; exact ⟨_,e⟩
 | set S n=>obtain ⟨o,_,_,_,e,_⟩:=x; exact ⟨_,e⟩
 | ins C dx fs=>obtain ⟨_,_,_,e,_⟩:=x; exact ⟨_,e⟩
 | own y=>obtain ⟨_,e⟩:=x; exact ⟨_,e⟩
 | xd fs=>obtain ⟨_,⟨_,_,_,e,_⟩,_⟩:=x; exact ⟨_,e⟩
 | rng lo hi=>obtain ⟨_,_,_,e⟩:=x; exact ⟨_,e⟩
 | frz ob u=>obtain ⟨e,_⟩:=x; exact ⟨_,e⟩
 | tbl ps=>exact ⟨_,(show h.get? a=some _ from x)⟩
 | met f y=>exact ⟨_,(show h.get? a=some _ from x)⟩
 | ext φ=>obtain ⟨_,⟨_,e⟩,_⟩:=x; exact ⟨_,e⟩
noncomputable def afE (p:Int × Int):PyData:= .tuple [.int p.1,.int p.2]
noncomputable def inB (p:Int × Int):Bool:=decide (0<=p.2) && decide (p.2 < 1000000)
structure PairAt (h:Heap) (u:Value) (p:Int × Int):Prop where
 ex:∃ a o k t t',u= .ref a/\h.get? a=some o/\o.cls= .type "tuple"/\o.data= .seq #[.int p.1 t,.int p.2 t'] k
theorem getD_some {α:Type}{l:List α}{i:Nat}{d x:α} (h:l[i]?=some x):l.getD i d=x:=by simp [List.getD,h]
section
variable {X:Cx}
variable {a b:Expr}{fa fb:Rho->Option PyData}{pos p2:Pos}
noncomputable def akp:PyData->Option PyData
 | .int i=>some (.int (-i))
 | _=>none
theorem Z8 (h:PD X a fa):PD X (.UnaryOp .USub a pos) (fun ρ=>(fa ρ).bind akp):=by
 with_unfolding_all
  refine PE.imp (aim ae6 h) fun σ H Q ⟨ρ,d,en,q,k⟩=>?_
  cases h1:fa ρ with
  | none=>simp [h1] at q
  | some y=>
   refine ⟨ρ,y,en,h1,fun v H1 s1 r1=>?_⟩
   have q':akp y=some d:=by simpa [h1] using q
   cases y with
   | int i=>cases q'; cases (show v=_ from r1); exact ⟨i,rfl,k _ H1 s1 rfl⟩
   | _=>cases q'
end
noncomputable def zj (bt:Int->Int->Bool):List Int->Option Int
 | []=>none
 | n::ns=>some (ns.foldl (fun a b=>if bt b a then b else a) n)
theorem ac4 (bt:Int->Int->Bool) (ns:List Int) (x m:Int) (h:zj bt ns=some m):zj bt (ns++[x])=some (if bt x m then x else m):=by
 cases ns with
 | nil=>cases h
 | cons n ns=>
  have:ns.foldl (fun a b=>if bt b a then b else a) n=m:=by simpa [zj] using h
  subst this
  simp [zj,List.foldl_append]
theorem aaO (bt:Int->Int->Bool) (ns:List Int):∀ k,k < ns.length->zj bt (ns.take (k+1))=some (ns.getD (argBest (fun i j=>bt (ns.getD i 0) (ns.getD j 0)) k) 0)
 | 0,h=>by
  cases ns with
  | nil=>simp at h
  | cons n ns=>simp [zj,argBest]
 | k+1,h=>by
  have ih:=aaO bt ns k (by omega)
  have h1:ns.take (k+1+1)=ns.take (k+1)++[ns.getD (k+1) 0]:=by rw [List.take_succ]; simp [h,List.getD]
  rw [h1,ac4 bt _ _ _ ih]
  simp only [argBest]
  by_cases hb:bt (ns.getD (k+1) 0) (ns.getD (argBest (fun i j=>bt (ns.getD i 0) (ns.getD j 0)) k) 0)=true
  ·rw [if_pos hb,if_pos hb]
  ·rw [if_neg hb,if_neg hb]
theorem ab2 (bt:Int->Int->Bool) (ns:List Int) (h:0 < ns.length):zj bt ns=some (ns.getD (argBest (fun i j=>bt (ns.getD i 0) (ns.getD j 0)) (ns.length - 1)) 0):=by
 have:=aaO bt ns (ns.length - 1) (by omega)
 rwa [Nat.sub_add_cancel h,List.take_length] at this
variable {X:Cx}
noncomputable def ait (K:PySem.W.Frag) (bt:Int->Int->Bool):List V->Hp->VK->Prop:=fun xs H Q=>∃ a ns m,xs=[.ref a]/\(SqL K H a (List.map V.int ns) ∨ SqT K H a (List.map V.int ns))/\zj bt ns=some m/\Q (.int m) H
theorem aer (hc:X.calm=true):za X (.builtin "min") (ait X.K fun i j=>decide (i < j)):=by
 intro pins s σ H xs us Q I r ⟨a,ns,m,e,hq,hm,q⟩
 subst e
 obtain ⟨u,rfl,rx⟩:=Qg r
 cases rx
 have hh:=I.ok.hd hc
 have h0:0 < ns.length:=by cases ns with
  | nil=>cases hm
  | cons n ns=>simp
 have hb:=ab2 (fun i j=>decide (i < j)) ns h0
 rw [hm] at hb
 have hb:=Option.some.inj hb
 rcases hq with hq | hq
 ·obtain ⟨its,rv,pl,hz⟩:=I.list hq
  have hl:its.toArray.size=ns.length:=by have:=rv.length; simp at this ⊢; omega
  refine call_min_walk (QY pl.isList fun h2 it st hlt hne k1 hn=>?_)
  refine ⟨it,[it,a],[it],its.toArray.size,(fun i v=>its.toArray[i]?=some v),_,_,rfl,Walks.list (A:=X.A.in1) hh it a hne its.toArray,st,hlt,by rw [hl]; exact h0,CmpOf.ints_lt (fun i=>ns.getD i 0) fun i v hP=>qG rv hP,fun v h3 tk hP k2=>?_⟩
  obtain ⟨t,rfl⟩:=qG rv hP
  exact ⟨.int m,H,I.kept (t':=tk) (Qn k1 hn k2),⟨t,by rw [hl]; rw [hb]⟩,q⟩
 ·obtain ⟨its,rv,pl,hz⟩:=I.tuple hq
  have hl:its.toArray.size=ns.length:=by have:=rv.length; simp at this ⊢; omega
  refine call_min_walk (aaJ (show s.heap.IsTuple a its.toArray from pl) fun h2 it st hlt hne k1 hn=>?_)
  refine ⟨it,[it,a],[it],its.toArray.size,(fun i v=>its.toArray[i]?=some v),_,_,rfl,Walks.tuple (A:=X.A.in1) hh it a hne its.toArray,st,hlt,by rw [hl]; exact h0,CmpOf.ints_lt (fun i=>ns.getD i 0) fun i v hP=>qG rv hP,fun v h3 tk hP k2=>?_⟩
  obtain ⟨t,rfl⟩:=qG rv hP
  exact ⟨.int m,H,I.kept (t':=tk) (Qn k1 hn k2),⟨t,by rw [hl]; rw [hb]⟩,q⟩
noncomputable def ab3 (bt:Int->Int->Bool) (ds:List PyData):Option PyData:=match ds with
 | [.list xs]=>(jX xs).bind fun ns=>(zj bt ns).map .int
 | [.tuple xs]=>(jX xs).bind fun ns=>(zj bt ns).map .int
 | _=>none
theorem ahs {K:PySem.W.Frag}{bt:Int->Int->Bool}{ds:List PyData}{d:PyData}{xs:List V}{H:Hp}{Q:VK} (h:ab3 bt ds=some d) (r:Reps K H ds xs) (k:∀ v H',ji H H'->Rep K H' d v->Q v H'):ait K bt xs H Q:=by
 unfold ab3 at h
 split at h
 ·rename_i ys
  cases hb:jX ys with
  | none=>simp [hb] at h
  | some ns=>
   cases hf:zj bt ns with
   | none=>simp [hb,hf] at h
   | some m=>
    have:PyData.int m=d:=by simpa [hb,hf] using h
    subst this
    obtain ⟨x,q,e1,e2,e3⟩:=r
    cases (show q=[] from e3)
    obtain ⟨a,us,g1,g2,g3⟩:=e2
    subst g1
    rw [qR hb] at g3
    have:=Reps.ints g3
    subst this
    exact ⟨a,ns,m,e1,.inl (SqL.of g2),hf,k _ H (ji.refl H) rfl⟩
 ·rename_i ys
  cases hb:jX ys with
  | none=>simp [hb] at h
  | some ns=>
   cases hf:zj bt ns with
   | none=>simp [hb,hf] at h
   | some m=>
    have:PyData.int m=d:=by simpa [hb,hf] using h
    subst this
    obtain ⟨x,q,e1,e2,e3⟩:=r
    cases (show q=[] from e3)
    obtain ⟨a,us,g1,g2,g3⟩:=e2
    subst g1
    rw [qR hb] at g3
    have:=Reps.ints g3
    subst this
    exact ⟨a,ns,m,e1,.inr g2,hf,k _ H (ji.refl H) rfl⟩
 ·cases h
theorem aht (hc:X.calm=true):JR X (.builtin "min") (ab3 fun i j=>decide (i < j)):=⟨_,aer hc,fun ds d xs H Q h r k=>ahs h r k⟩
end BX
end
section
namespace BX
open PySem PySem.Spec L2
open PyProof.Rows hiding St
variable {X:Cx}
noncomputable def aau (f:Expr->Option PyData):List Expr->Option (List PyData)
 | []=>some []
 | e::es=>(f e).bind fun d=>(aau f es).map fun ds=>d::ds
noncomputable def lit:Nat->Expr->Option PyData
 | 0,_=>none
 | n+1,e=>match e with
  | .Constant (.int i) _ _=>some (.int i)
  | .Constant (.bool b) _ _=>some (.bool b)
  | .Constant .none _ _=>some .none
  | .Constant (.str x) _ _=>some (.str x)
  | .Tuple es _ _=>(aau (lit n) es).bind fun ds=>if few ds=true then some (.tuple ds) else none
  | .List es _=>(aau (lit n) es).bind fun ds=>if few ds=true then some (.list ds) else none
  | _=>none
theorem PD.as {e:Expr}{F G:Rho->Option PyData} (h:PD X e F) (hi:∀ ρ d,G ρ=some d->F ρ=some d):PD X e G:=by
 with_unfolding_all exact (PE.imp h fun σ H Q ⟨ρ,d,en,q,k⟩=>⟨ρ,d,en,hi ρ d q,k⟩)
theorem PAD.as {es:List Expr}{F G:Rho->Option (List PyData)} (h:PAD X es F) (hi:∀ ρ d,G ρ=some d->F ρ=some d):PAD X es G:=by
 with_unfolding_all exact (PA.imp h fun σ H Q ⟨ρ,d,en,q,k⟩=>⟨ρ,d,en,hi ρ d q,k⟩)
noncomputable def afF (e:Expr):Prop:=∀ (es:List Expr) (env:Env),starEach (e::es) env=(false,eval e env)::starEach es env
theorem abl {f:Expr->Option PyData} (hf:∀ e d,f e=some d->PD X e (cst d)/\afF e):∀ (es:List Expr) (ds:List PyData),aau f es=some ds->PAD X es (fun _=>some ds)
 | [],ds,h=>by cases h; exact je
 | e::es,ds,h=>by
  cases h1:f e with
  | none=>simp [aau,h1] at h
  | some d=>
   cases h2:aau f es with
   | none=>simp [aau,h1,h2] at h
   | some r=>
    have:d::r=ds:=by with_unfolding_all simpa [aau,h1,h2] using h
    subst this
    obtain ⟨p,st⟩:=hf e d h1
    exact (ja p (abl hf es r h2) (st es X.env)).as fun ρ d' q=>by cases q; simp [jk,cst]
theorem ac5:∀ (n:Nat) (e:Expr) (d:PyData),lit n e=some d->PD X e (cst d)/\afF e
 | 0,e,d,h=>by cases h
 | n+1,e,d,h=>by
  unfold lit at h
  split at h
  ·cases h; exact ⟨jg,fun _ _=>rfl⟩
  ·cases h; exact ⟨qF,fun _ _=>rfl⟩
  ·cases h; exact ⟨QV,fun _ _=>rfl⟩
  ·cases h; exact ⟨ZZ,fun _ _=>rfl⟩
  ·rename_i es x1 pos
   cases h1:aau (lit n) es with
   | none=>simp [h1] at h
   | some ds=>
    by_cases hf:few ds=true
    ·have:PyData.tuple ds=d:=by with_unfolding_all simpa [h1,hf] using h
     subst this
     exact ⟨(zq (abl (ac5 n) es ds h1)).as fun ρ d' q=>by cases q; simp [Jd,hf],fun _ _=>rfl⟩
    ·simp [h1,hf] at h
  ·rename_i es pos
   cases h1:aau (lit n) es with
   | none=>simp [h1] at h
   | some ds=>
    by_cases hf:few ds=true
    ·have:PyData.list ds=d:=by simpa [h1,hf] using h
     subst this
     exact ⟨(qg (abl (ac5 n) es ds h1)).as fun ρ d' q=>by cases q; simp [JV,hf],fun _ _=>rfl⟩
    ·simp [h1,hf] at h
  ·cases h
theorem qC (n:Nat) {e:Expr} (d:PyData) (h:lit n e=some d):PD X e (cst d):=by
 with_unfolding_all exact ((ac5 n e d h).1)
end BX
end
section
namespace BX
open PySem L2
open PyProof.Rows hiding St
noncomputable def j2 (K:PySem.W.Frag) (x:Str) (st:Stmt):Prop:=
 ∃ (f:Addr) (oc:Value) (od an:Option Addr) (kV doc pm cdv ct:Value) (osl:Array (Option Value)),PySem.W.nsIn K mainGlobals x=some (some (.ref f))/\
  K.lookup f=some ⟨oc,od,.func (PySem.W.fnOf x x (zS st) (jK st) (jf st) .none kV doc pm an cdv ct),osl⟩/\PySem.W.codeIn K cdv x=true/\PySem.W.keepIn K (.ref f)=true
theorem afG {K:PySem.W.Frag}{x:Str}{st:Stmt}{f:Addr}{oc:Value}{od an:Option Addr}{kV doc pm cdv ct:Value}{osl:Array (Option Value)} (a:PySem.W.nsIn K mainGlobals x=some (some (.ref f)))
  (l:K.lookup f=some ⟨oc,od,.func (PySem.W.fnOf x x (zS st) (jK st) (jf st) .none kV doc pm an cdv ct),osl⟩) (c:PySem.W.codeIn K cdv x=true) (k:PySem.W.keepIn K (.ref f)=true):j2 K x st:=
 ⟨f,oc,od,an,kV,doc,pm,cdv,ct,osl,a,l,c,k⟩
noncomputable abbrev jx (x:Str) (st:Stmt) (ps:List Str):Prop:=∀ (kV doc pm:Value) (an:Option Addr) (cdv ct:Value) (us:List Value),us.length=ps.length->bindArgs (PySem.W.fnOf x x (zS st) (jK st) (jf st) .none kV doc pm an cdv ct) ⟨us,[]⟩=pure (ps.zip us)
theorem j2.callee {P:Program}{w:World}{K:PySem.W.Frag}{mg:Str->Option Value}{base h:Heap}{x:Str}{st:Stmt}{ps:List Str}{k n:Nat}{g:List PyData->Option PyData} (T:j2 K x st) (X:K.In h) (G:h.Ns mainGlobals mg)
  (hb:jx x st ps) (F:∀ (f:Addr) (fd:FuncData),Fun K x x st f fd->FnOk P w K mg base CX0 k f fd ps (Pur K n g)):jn P w K mg base x ps k n g:=by
 obtain ⟨f,oc,od,an,kV,doc,pm,cdv,ct,osl,a,l,c,kp⟩:=T
 have F1:=aa8 (st:=st) l c kp
 exact ⟨f,_,F f _ F1,PySem.W.mg_of X G a,kp,F1.binds hb⟩
theorem jn.as {P:Program}{w:World}{K:PySem.W.Frag}{mg:Str->Option Value}{base:Heap}{x:Str}{ps:List Str}{k n:Nat}{g g':List PyData->Option PyData} (C:jn P w K mg base x ps k n g) (h:∀ ds d,g' ds=some d->g ds=some d):jn P w K mg base x ps k n g':=by
 obtain ⟨f,fd,F,a,b,c⟩:=C
 exact ⟨f,fd,akg F fun ds d _ q=>h ds d q,a,b,c⟩
theorem afH {K:PySem.W.Frag}{mg:Str->Option Value}{h:Heap}{x:Str}{a:Addr}{ob:Obj}{ds:List PyData} (X:K.In h) (G:h.Ns mainGlobals mg) (e:PySem.W.nsIn K mainGlobals x=some (some (.ref a))) (l:K.lookup a=some ob)
  (hc:ob.cls= .type "tuple") (hi:∃ (its:Array Value) (n:Nat) (xs:List V),ob.data= .seq its n/\its.size<=sizeLine/\jw xs its.toList/\∀ H,Reps K H ds xs):∃ v u,mg x=some u/\jy v u/\∀ H,Rep K H (.tuple ds) v:=by
 obtain ⟨its,n,xs,h1,h2,h3,h4⟩:=hi
 exact ⟨.ref a,.ref a,PySem.W.mg_of X G e,rfl,fun H=>⟨a,xs,rfl,.inr ⟨ob,its,n,l,hc,h1,h2,h3⟩,h4 H⟩⟩
end BX
end
section
namespace BX
open PySem PySem.Spec L2
open PyProof.Rows hiding St
noncomputable def aiu (a:Addr) (xs:List V):HO:= .ext fun h=>xs.length<=sizeLine/\∃ (its:List Value) (n:Nat),jw xs its/\h.get? a=some { cls:= .type "list",data:= .seq its.toArray n }
noncomputable def Zp (P:Program) (w:World) (a:Addr) (ob:Obj) (ks:List (Key × V)):HO:= .ext fun h=>h.get? a=some ob/\ks.length<=sizeLine/\(a == sysModules)=false/\∃ vs,KV ks vs/\h.DictOf (jN P w) a vs
inductive Seal (P:Program) (w:World) (a:Addr):HO->HO->Prop where
 | l (xs:List V):Seal P w a (aiu a xs) (.lst xs)
 | d (ob:Obj) (ks:List (Key × V)):Seal P w a (Zp P w a ob ks) (.frz ob (.dK ks))
theorem Seal.ext {P:Program}{w:World}{a:Addr}{c o:HO} (S:Seal P w a c o):∃ φ,c= .ext φ:=by cases S <;> exact ⟨_,rfl⟩
section
variable {X:Cx}{pins:List (Addr × Obj)}{σ:St}{H:Hp}{s:Shared}{a:Addr}{c o:HO}
theorem Inv.opened (I:Inv X pins σ H s) (S:Seal X.prog X.w a c o) (e:H a=some c):Inv X pins σ (upd H a o) s:=by
 have q:=I.hok a c e
 have mu:Mut (H a):=by rw [e]; obtain ⟨φ,rfl⟩:=S.ext; trivial
 cases S with
 | l xs=>
  obtain ⟨h1,h2,_⟩:=q
  exact I.write (x:=a) (e:=a) (h':=s.heap) (t':=s.toks) mu (.inl rfl) (fun _ _ _ z=>z) h2 h1
 | d ob ks=>
  obtain ⟨h1,h2,_⟩:=q
  exact I.write (x:=a) (e:=a) (h':=s.heap) (t':=s.toks) mu (.inl rfl) (fun _ _ _ z=>z) h2 ⟨h1.1,h1.2⟩
theorem Inv.redesc {o1 o2:HO} (I:Inv X pins σ H s) (h1:H a=some o1) (n1:∀ y,o1 ≠ .own y) (n2:∀ xs,o1 ≠ .tup xs) (n3:∀ ps,o1 ≠ .tbl ps) (nf:∀ ob u,X.H₀ a ≠ some (.frz ob u)) (new:qh X.prog X.w (upd H a o2) s.heap a o2):Inv X pins σ (upd H a o2) s:=by
 have na:∀ b,H b=none->upd H a o2 b=none:=fun b z=>by
  have:b ≠ a:=fun q=>by subst q; rw [h1] at z; cases z
  rw [jl this]; exact z
 refine ⟨I.ok,I.os,I.bare,⟨I.base.keep,I.base.slot,fun b u q n hx=>na b (I.base.free b u q n hx),I.base.there,fun b xs q=>?_,fun b ob u q=>?_,fun b ps q=>?_⟩,I.loc,I.cell,na _ I.free,fun x c' q=>na _ (I.freeC x c' q),fun p hp=>?_,fun b u q=>?_,I.len⟩
 ·have q':=I.base.tups b xs q
  have:b ≠ a:=fun z=>by subst z; rw [h1] at q'; cases q'; exact n2 _ rfl
  rw [jl this]; exact q'
 ·have:b ≠ a:=fun z=>by subst z; exact nf _ _ q
  rw [jl this]; exact I.base.frzs b ob u q
 ·obtain ⟨more,q'⟩:=I.base.tbls b ps q
  have:b ≠ a:=fun z=>by subst z; rw [h1] at q'; cases q'; exact n3 _ rfl
  exact ⟨more,by rw [jl this]; exact q'⟩
 ·obtain ⟨g1,g2,g3⟩:=I.pin p hp
  exact ⟨g1,na _ g2,g3⟩
 ·by_cases hb:b=a
  ·subst hb
   rw [jp] at q; cases q
   exact new
  ·rw [jl hb] at q
   refine (I.hok b u q).stay (fun c' v _ z=>z) (fun c' z=>?_) fun c' xs z=>?_
   ·have:c' ≠ a:=fun m=>by subst m; rw [h1] at z; cases z; exact n1 _ rfl
    rw [jl this]; exact z
   ·have:c' ≠ a:=fun m=>by subst m; rw [h1] at z; cases z; exact n2 _ rfl
    rw [jl this]; exact z
theorem Inv.nofrz {φ:Heap->Prop} (I:Inv X pins σ H s) (e:H a=some (.ext φ)):∀ ob u,X.H₀ a ≠ some (.frz ob u):=fun ob u z=>by
 have:=I.base.frzs _ _ _ z
 rw [e] at this; cases this
theorem Inv.closed (I:Inv X pins σ H s) (S:Seal X.prog X.w a c o) (e:H a=some o) (nf:∀ ob u,X.H₀ a ≠ some (.frz ob u)):Inv X pins σ (upd H a c) s:=by
 have q:=I.hok a o e
 cases S with
 | l xs=>
  obtain ⟨h1,its,n,h2,h3⟩:=q
  refine I.write (x:=a) (e:=a) (h':=s.heap) (t':=s.toks) (by rw [e]; trivial) (.inl rfl) (fun _ _ _ z=>z) ⟨_,h3⟩ ⟨⟨h1,its,n,h2,h3⟩,⟨_,h3⟩,?_⟩
  rintro g1 g2 ⟨z1,its,n,z2,z3⟩ k
  exact ⟨z1,its,n,z2,k _ z3⟩
 | d ob ks=>
  obtain ⟨h0,h1,h2,vs,h3,ob',es,ep,h4,h5⟩:=q
  refine Inv.redesc I e (fun _ z=>nomatch z) (fun _ z=>nomatch z) (fun _ z=>nomatch z) nf ⟨⟨h0,h1,h2,vs,h3,ob',es,ep,h4,h5⟩,⟨_,h4⟩,?_⟩
  rintro g1 g2 ⟨z0,z1,z2,vs,z3,ob',es,ep,z4,z5⟩ k
  exact ⟨k _ z0,z1,z2,vs,z3,ob',es,ep,k _ z4,z5⟩
theorem Inv.sealedD {ks:List (Key × V)} (I:Inv X pins σ H s) (e:H a=some (.dK ks)):∃ ob,Inv X pins σ (upd H a (Zp X.prog X.w a ob ks)) s:=by
 obtain ⟨h1,h2,vs,h3,ob,es,ep,h4,h5⟩:=I.hok a _ e
 refine ⟨ob,I.write (x:=a) (e:=a) (h':=s.heap) (t':=s.toks) (by rw [e]; trivial) (.inl rfl) (fun _ _ _ z=>z) ⟨_,h4⟩ ⟨⟨h4,h1,h2,vs,h3,ob,es,ep,h4,h5⟩,⟨_,h4⟩,?_⟩⟩
 rintro g1 g2 ⟨z0,z1,z2,vs,z3,ob',es,ep,z4,z5⟩ k
 exact ⟨k _ z0,z1,z2,vs,z3,ob',es,ep,k _ z4,z5⟩
theorem Inv.openD {ob:Obj}{ks:List (Key × V)} (I:Inv X pins σ H s) (e:H a=some (Zp X.prog X.w a ob ks)):Inv X pins σ (upd H a (.dK ks)) s:=by
 obtain ⟨h1,h2,_⟩:=I.hok a _ e
 exact I.write (x:=a) (e:=a) (h':=s.heap) (t':=s.toks) (by rw [e]; trivial) (.inl rfl) (fun _ _ _ z=>z) h2 h1.2
end
mutual
noncomputable def noD:PyData->Bool
 | .tuple ds=>noDs ds
 | .list ds=>noDs ds
 | .dict _=>false
 | _=>true
noncomputable def noDs:List PyData->Bool
 | []=>true
 | d::ds=>noD d && noDs ds
end
noncomputable def ab4 (H H':Hp):Prop:=∀ b o,H b=some o->(∀ ob ks,o ≠ .frz ob (.dK ks))->H' b=some o
section
variable {K:PySem.W.Frag}{H H':Hp}
theorem ab4.tup {a:Addr}{xs:List V} (e:ab4 H H') (h:SqT K H a xs):SqT K H' a xs:=by
 rcases h with (h | ⟨o,h⟩) | h
 ·exact .inl (.inl (e _ _ h fun _ _ z=>nomatch z))
 ·exact .inl (.inr ⟨o,e _ _ h fun _ _ z=>nomatch z⟩)
 ·exact .inr h
mutual
theorem Rep.monoM (e:ab4 H H'):∀ (d:PyData) (v:V),noD d=true->Rep K H d v->Rep K H' d v
 | .none,v,_,h=>h
 | .bool _,v,_,h=>h
 | .int _,v,_,h=>h
 | .str _,v,_,h=>h
 | .tuple ds,v,n,⟨a,xs,h1,h2,h3⟩=>⟨a,xs,h1,ab4.tup e h2,Reps.monoM e ds xs (by simpa [noD] using n) h3⟩
 | .list ds,v,n,⟨a,xs,h1,h2,h3⟩=>⟨a,xs,h1,e _ _ h2 (fun _ _ z=>nomatch z),Reps.monoM e ds xs (by simpa [noD] using n) h3⟩
 | .dict ds,v,n,h=>by simp [noD] at n
theorem Reps.monoM (e:ab4 H H'):∀ (ds:List PyData) (xs:List V),noDs ds=true->Reps K H ds xs->Reps K H' ds xs
 | [],xs,_,h=>h
 | d::ds,xs,n,⟨x,r,h1,h2,h3⟩=>by
  have n':noD d=true/\noDs ds=true:=by simpa [noDs] using n
  exact ⟨x,r,h1,Rep.monoM e d x n'.1 h2,Reps.monoM e ds r n'.2 h3⟩
end
end
noncomputable def okB (c d:PyData):Bool:=match c with
 | .list _=>noL d
 | .dict _=>noD d
 | _=>false
noncomputable def Qu (P:Program) (w:World) (K:PySem.W.Frag) (H:Hp) (a:Addr):PyData->Prop
 | .list ds=>∃ xs,H a=some (aiu a xs)/\Reps K H ds xs
 | .dict kvs=>∃ ks r ob,kvs=(.none,.none)::r/\H a=some (Zp P w a ob ks)/\RepM K H r ks
 | _=>False
theorem Qu.out {P:Program}{w:World}{K:PySem.W.Frag}{H:Hp}{a:Addr}{d:PyData} (h:Qu P w K H a d):∃ c o,Seal P w a c o/\H a=some c/\
  (∀ H',jB H H'->H' a=some o->Rep K H' d (.ref a))/\(∀ H',jB H H'->H' a=some c->Qu P w K H' a d)/\
  ∀ x H3 v,okB d x=true->H3 a=some o->Rep K H3 x v->Rep K (upd H3 a c) x v:=by
 cases d with
 | list ds=>
  obtain ⟨xs,h1,h2⟩:=h
  exact ⟨_,_,.l xs,h1,fun H' e q=>⟨a,xs,rfl,q,Reps.monoE e _ _ h2⟩,fun H' e q=>⟨xs,q,Reps.monoE e _ _ h2⟩,fun x H3 v n q r=>Rep.monoN (fun b u hb m=>by
   have:b ≠ a:=fun z=>by subst z; rw [q] at hb; cases hb; exact m _ rfl
   rw [jl this]; exact hb) x v n r⟩
 | dict kvs=>
  obtain ⟨ks,r,ob,rfl,h1,h2⟩:=h
  exact ⟨_,_,.d ob ks,h1,fun H' e q=>⟨a,rfl,.inr (.inl ⟨ks,ob,q,show RepM K H' r ks from RepM.monoE e _ _ h2⟩)⟩,fun H' e q=>⟨ks,r,ob,rfl,q,RepM.monoE e _ _ h2⟩,fun x H3 v n q r=>Rep.monoM (fun b u hb m=>by
   have:b ≠ a:=fun z=>by subst z; rw [q] at hb; cases hb; exact m _ _ rfl
   rw [jl this]; exact hb) x v n r⟩
 | none=>exact h.elim
 | bool _=>exact h.elim
 | int _=>exact h.elim
 | str _=>exact h.elim
 | tuple _=>exact h.elim
theorem jB.upd {H:Hp}{a:Addr}{φ:Heap->Prop}{o:HO} (e:H a=some (.ext φ)):jB H (upd H a o):=fun b u h n=>by
 have:b ≠ a:=fun z=>by subst z; rw [e] at h; cases h; exact n _ rfl
 rw [jl this]; exact h
structure EnvO (P:Program) (w:World) (K:PySem.W.Frag) (Hs H:Hp) (own:Option Nat) (ρ:Rho) (σ:St):Prop where
 len:ρ.length=σ.length
 sm:ji Hs H
 pl:∀ i d,ρ[i]?=some (some d)->own ≠ some i->∃ v,σ[i]?=some (some v)/\Rep K H d v
 ow:∀ i,own=some i->∃ d a,ρ[i]?=some (some d)/\σ[i]?=some (some (.ref a))/\Hs a=none/\Qu P w K H a d
noncomputable def hid (own:Option Nat) (ρ:Rho):Rho:=match own with
 | none=>ρ
 | some i=>ρ.set i none
section
variable {P:Program}{w:World}{K:PySem.W.Frag}{Hs H H':Hp}{own:Option Nat}{ρ:Rho}{σ:St}
theorem EnvO.of (e:EnvR K H ρ σ) (s:ji Hs H):EnvO P w K Hs H none ρ σ:=⟨e.len,s,fun i d h _=>e.at' i d h,fun i z=>nomatch z⟩
theorem EnvO.to (e:EnvO P w K Hs H none ρ σ):EnvR K H ρ σ:=⟨e.len,fun i d h=>e.pl i d h (fun z=>nomatch z)⟩
theorem EnvO.hid (e:EnvO P w K Hs H own ρ σ):EnvR K H (hid own ρ) σ:=by
 cases own with
 | none=>exact e.to
 | some i=>
  refine ⟨by simp [BX.hid,e.len],fun j d h=>?_⟩
  by_cases hj:i=j
  ·subst hj
   simp only [BX.hid] at h
   rw [List.getElem?_set] at h
   simp at h
  ·simp only [BX.hid] at h
   rw [List.getElem?_set_ne hj] at h
   exact e.pl j d h (fun z=>hj (Option.some.inj z))
theorem Qu.mono {a:Addr}{d:PyData} (h:Qu P w K H a d) (s:ji H H'):Qu P w K H' a d:=by
 obtain ⟨c,o,_,h1,_,h2,_⟩:=h.out
 exact h2 H' (ji.e s) (s _ _ h1)
theorem EnvO.mono (e:EnvO P w K Hs H own ρ σ) (s:ji H H'):EnvO P w K Hs H' own ρ σ:=
 ⟨e.len,e.sm.trans s,fun i d h n=>let ⟨v,h1,h2⟩:=e.pl i d h n; ⟨v,h1,Rep.mono s d v h2⟩,fun i n=>let ⟨d,a,h1,h2,h3,h4⟩:=e.ow i n; ⟨d,a,h1,h2,h3,h4.mono s⟩⟩
theorem EnvO.opn {i:Nat} (e:EnvO P w K Hs H (some i) ρ σ):∃ d a c o,ρ[i]?=some (some d)/\σ[i]?=some (some (.ref a))/\Hs a=none/\Seal P w a c o/\H a=some c/\EnvR K (upd H a o) ρ σ/\ji Hs (upd H a o)/\
  (∀ H3,ji (upd H a o) H3->jB H (upd H3 a c)/\EnvO P w K Hs (upd H3 a c) (some i) ρ σ)/\∀ x H3 v,okB d x=true->H3 a=some o->Rep K H3 x v->Rep K (upd H3 a c) x v:=by
 obtain ⟨d,a,h1,h2,h3,h4⟩:=e.ow i rfl
 obtain ⟨c,o,S,h5,h6,h7,h8⟩:=h4.out
 obtain ⟨φ,rfl⟩:=S.ext
 have s1:jB H (upd H a o):=jB.upd h5
 have sH:∀ {H2:Hp},(∀ b u,b ≠ a->H b=some u->H2 b=some u)->ji Hs H2:=fun {H2} k b u q=>k b u (fun z=>by subst z; rw [h3] at q; cases q) (e.sm b u q)
 refine ⟨d,a,_,o,h1,h2,h3,S,h5,⟨e.len,fun j x q=>?_⟩,sH fun b u n q=>by rw [jl n]; exact q,fun H3 s3=>⟨fun b u q m=>?_,e.len,sH fun b u n q=>by rw [jl n]; exact s3 b u (by rw [jl n]; exact q),fun j x q n=>?_,fun j n=>?_⟩,h8⟩
 ·by_cases hj:i=j
  ·subst hj
   rw [h1] at q; cases q
   exact ⟨.ref a,h2,h6 _ s1 jp⟩
  ·obtain ⟨v,g1,g2⟩:=e.pl j x q (fun z=>hj (Option.some.inj z))
   exact ⟨v,g1,Rep.monoE s1 _ _ g2⟩
 ·have:b ≠ a:=fun z=>by subst z; rw [h5] at q; cases q; exact m _ rfl
  rw [jl this]
  exact s3 b u (by rw [jl this]; exact q)
 ·have s4:jB H (upd H3 a (.ext φ)):=fun b u q m=>by
   have:b ≠ a:=fun z=>by subst z; rw [h5] at q; cases q; exact m _ rfl
   rw [jl this]
   exact s3 b u (by rw [jl this]; exact q)
  obtain ⟨v,g1,g2⟩:=e.pl j x q n
  exact ⟨v,g1,Rep.monoE s4 _ _ g2⟩
 ·cases n
  have s4:jB H (upd H3 a (.ext φ)):=fun b u q m=>by
   have:b ≠ a:=fun z=>by subst z; rw [h5] at q; cases q; exact m _ rfl
   rw [jl this]
   exact s3 b u (by rw [jl this]; exact q)
  exact ⟨d,a,h1,h2,h3,h7 _ s4 jp⟩
end
end BX
end
section
namespace BX
open PySem PySem.Spec L2
open PyProof.Rows hiding St
noncomputable def brw (own:Option Nat) (f:Rho->Option PyData):Rho->Option PyData:=fun ρ=>match f (hid own ρ) with
 | some d=>some d
 | none=>match own with
  | none=>none
  | some i=>match f ρ,lkp i ρ with
   | some d,some c=>if okB c d=true then some d else none
   | _,_=>none
theorem ahu {own:Option Nat}{f:Rho->Option PyData}{ρ:Rho}{d:PyData} (h:brw own f ρ=some d):f (hid own ρ)=some d ∨ ∃ i c,own=some i/\f ρ=some d/\ρ[i]?=some (some c)/\okB c d=true:=by
 unfold brw at h
 cases h1:f (hid own ρ) with
 | some x=>rw [h1] at h; exact .inl h
 | none=>
  rw [h1] at h
  cases own with
  | none=>cases h
  | some i=>
   simp only at h
   cases h2:f ρ with
   | none=>rw [h2] at h; cases h
   | some x=>
    rw [h2] at h
    cases h3:lkp i ρ with
    | none=>rw [h3] at h; cases h
    | some c=>
     rw [h3] at h
     simp only at h
     split at h
     ·rename_i ok
      cases h
      exact .inr ⟨i,c,rfl,rfl,zI h3,ok⟩
     ·cases h
section
variable {X:Cx}{e a b c tg src:Expr}{es:List Expr}{st:Stmt}{sts jO:List Stmt}{fa fb fc:Rho->Option PyData}{F G:Rho->Option Out}{pos:Pos}{own:Option Nat}
noncomputable def tE (P:Program) (w:World) (K:PySem.W.Frag) (own:Option Nat) (f:Rho->Option PyData):TE:=fun σ H Q=>∃ Hs ρ d,EnvO P w K Hs H own ρ σ/\brw own f ρ=some d/\∀ v H',jB H H'->EnvO P w K Hs H' own ρ σ->Rep K H' d v->Q v H'
theorem ac6 (h:PD X e fa):PE X e (tE X.prog X.w X.K own fa):=by
 with_unfolding_all
  intro pins s σ H Q I ⟨Hs,ρ,d,E,hb,k⟩
  rcases ahu hb with h1 | ⟨i,c,ho,h1,h2,ok⟩
  ·exact h pins s σ H Q I ⟨hid own ρ,d,E.hid,h1,fun v H' s r=>k v H' (ji.e s) (E.mono s) r⟩
  ·subst ho
   obtain ⟨d0,a,cl,o,g1,g2,g3,S,g4,env,sm,back,keep⟩:=E.opn
   rw [h2] at g1; cases g1
   refine thn (h pins s σ (upd H a o) (fun v H3=>ji (upd H a o) H3/\Rep X.K H3 d v) (Inv.opened I S g4) ⟨ρ,d,env,h1,fun v H3 s3 r3=>⟨s3,r3⟩⟩) fun u s1 ⟨v,H3,I3,r,s3,r3⟩=>?_
   have e3:H3 a=some o:=s3 _ _ jp
   exact ⟨v,upd H3 a cl,Inv.closed I3 S e3 (by obtain ⟨φ,rfl⟩:=S.ext; exact Inv.nofrz I g4),r,k v _ (back H3 s3).1 (back H3 s3).2 (keep d H3 v ok e3 r3)⟩
noncomputable def akq (P:Program) (w:World) (K:PySem.W.Frag) (Hs:Hp) (own:Option Nat) (D:Ends):Out->Prop
 | .nx ρ=>∀ σ H,EnvO P w K Hs H own ρ σ->D.nx σ H
 | .rt d=>∀ v H,ji Hs H->Rep K H d v->D.rt v H
 | .bk ρ=>∀ σ H,EnvO P w K Hs H own ρ σ->D.bk σ H
 | .ct ρ=>∀ σ H,EnvO P w K Hs H own ρ σ->D.ct σ H
noncomputable def tOS (P:Program) (w:World) (K:PySem.W.Frag) (own:Option Nat) (F:Rho->Option Out):TS:=fun D σ H=>∃ Hs ρ o,EnvO P w K Hs H own ρ σ/\F ρ=some o/\akq P w K Hs own D o
@[irreducible] noncomputable def PSO (X:Cx) (own:Option Nat) (st:Stmt) (F:Rho->Option Out):Prop:=PS X st (tOS X.prog X.w X.K own F)
@[irreducible] noncomputable def abm (X:Cx) (own:Option Nat) (sts:List Stmt) (F:Rho->Option Out):Prop:=PSs X sts (tOS X.prog X.w X.K own F)
theorem afI (h:abm X none sts F):Jh X sts F:=by
 with_unfolding_all
  refine PSs.imp h fun D σ H ⟨ρ,o,en,q,k⟩=>⟨H,ρ,o,EnvO.of en (ji.refl H),q,?_⟩
  cases o with
  | nx ρ'=>exact fun σ' H' E=>k σ' H' E.sm E.to
  | rt d=>exact fun v H' s r=>k v H' s r
  | bk ρ'=>exact fun σ' H' E=>k σ' H' E.sm E.to
  | ct ρ'=>exact fun σ' H' E=>k σ' H' E.sm E.to
theorem afJ:abm X own [] zu:=by
 with_unfolding_all
  refine PSs.imp adt fun D σ H ⟨Hs,ρ,o,E,q,k⟩=>?_
  cases q
  exact k σ H E
theorem Q1 (h1 : PSO X own st F) (h2 : abm X own jO G) : abm X own (st :: jO) (jR F G) := by
  with_unfolding_all
   refine PSs.imp (qZ h1 h2) fun D σ H ⟨Hs, ρ, o, E, q, k⟩ => ?_
   cases hf : F ρ with
   | none => simp [jR, hf] at q
   | some p =>
     refine ⟨Hs, ρ, p, E, hf, ?_⟩
     cases p with
     | nx ρ' => exact fun σ' H' E' => ⟨Hs, ρ', o, E', by simpa [jR, hf] using q, k⟩
     | rt d => have : Out.rt d = o := by simpa [jR, hf] using q
               subst this; exact k
     | bk d => have : Out.bk d = o := by simpa [jR, hf] using q
               subst this; exact k
     | ct d => have : Out.ct d = o := by simpa [jR, hf] using q
               subst this; exact k
theorem EnvO.set {P:Program}{w:World}{K:PySem.W.Frag}{Hs H:Hp}{ρ:Rho}{σ:St}{i:Nat}{d:PyData}{v:V} (E:EnvO P w K Hs H own ρ σ) (hi:own ≠ some i) (r:Rep K H d v):EnvO P w K Hs H own (ρ.set i (some d)) (σ.set i (some v)):=by
 refine ⟨by simp [E.len],E.sm,fun j x q n=>?_,fun j n=>?_⟩
 ·by_cases hj:i=j
  ·subst hj
   rw [List.getElem?_set] at q ⊢
   simp only [zzM] at q ⊢
   by_cases hl:i < ρ.length
   ·rw [if_pos hl] at q
    rw [if_pos (by rw [←E.len]; exact hl)]
    cases q
    exact ⟨v,rfl,r⟩
   ·rw [if_neg hl] at q; cases q
  ·rw [List.getElem?_set_ne hj] at q ⊢
   exact E.pl j x q n
 ·have hj:i ≠ j:=fun z=>by subst z; exact hi n
  rw [List.getElem?_set_ne hj,List.getElem?_set_ne hj]
  exact E.ow j n
theorem ahv (i:Nat) {x:Str}{pos':Pos} (hN:X.N.Nodup) (he:PD X e fa) (ho:own ≠ some i:=by decide) (hi:X.N[i]?=some x:=by rfl) (hx:Loc X.env.scope x:=by first | exact Or.inl rfl | exact Or.inr rfl) (hs:swapsWith e (some (.Name x pos')) pos.line X.env=pure false:=by rfl)
  (hf:X.fn x=true ∨ X.env.scope.names.lookup x=some .local:=by first | exact .inl rfl | exact .inr rfl | assumption):PSO X own (.Assign [.Name x pos'] e pos) (zE (brw own fa) (jL i)):=by
 with_unfolding_all
  refine PS.imp (ZR hN hi hx (ac6 (own:=own) he) hs hf) fun D σ H ⟨Hs,ρ,o,E,q,k⟩=>?_
  cases h1:brw own fa ρ with
  | none=>simp [zE,h1] at q
  | some d=>
   have:Out.nx (ρ.set i (some d))=o:=by simpa [zE,h1,jL] using q
   subst this
   exact ⟨Hs,ρ,d,E,h1,fun v H1 _ E1 r1=>k _ H1 (E1.set ho r1)⟩
end
section
variable {X:Cx}{e a b c tg src:Expr}{es:List Expr}{st:Stmt}{sts jO body:List Stmt}{fa fb fc:Rho->Option PyData}{F G:Rho->Option Out}{pos:Pos}{own:Option Nat}
@[irreducible] noncomputable def PGO (X:Cx) (own:Option Nat) (tg:Expr) (ga:PyData->Rho->Option Rho):Prop:=
 PG X tg fun v σ H Q=>∃ Hs ρ d ρ',EnvO X.prog X.w X.K Hs H own ρ σ/\Rep X.K H d v/\ga d ρ=some ρ'/\∀ σ' H',EnvO X.prog X.w X.K Hs H' own ρ' σ'->Q σ' H'
theorem afK (i:Nat) {x:Str} (hN:X.N.Nodup) (ho:own ≠ some i:=by decide) (hi:X.N[i]?=some x:=by rfl) (hx:Loc X.env.scope x:=by first | exact Or.inl rfl | exact Or.inr rfl)
  (hf:X.fn x=true ∨ X.env.scope.names.lookup x=some .local:=by first | exact .inl rfl | exact .inr rfl | assumption):PGO X own (.Name x pos) (jL i):=by
 with_unfolding_all
  refine PG.imp (Qf hN hi hx hf) fun v σ H Q ⟨Hs,ρ,d,ρ',E,r,q,k⟩=>?_
  cases q
  exact k _ H (E.set ho r)
theorem EnvO.rebase {P:Program}{w:World}{K:PySem.W.Frag}{Hs H:Hp}{ρ:Rho}{σ:St} (E:EnvO P w K Hs H own ρ σ):∃ Hb,EnvO P w K Hb H own ρ σ/\(∀ H3,ji Hb H3->jB H H3)/\
  (∀ H3 ρ3 σ3,EnvO P w K Hb H3 own ρ3 σ3->EnvO P w K Hs H3 own ρ3 σ3)/\∀ H3,ji Hb H3->ji Hs H3:=by
 cases own with
 | none=>exact ⟨H,⟨E.len,ji.refl H,E.pl,fun i z=>nomatch z⟩,fun _ s=>ji.e s,fun H3 ρ3 σ3 E3=>⟨E3.len,E.sm.trans E3.sm,E3.pl,fun i z=>nomatch z⟩,fun _ s=>E.sm.trans s⟩
 | some i=>
  obtain ⟨d,a,h1,h2,h3,h4⟩:=E.ow i rfl
  obtain ⟨c,o,S,h5,_⟩:=h4.out
  obtain ⟨φ,rfl⟩:=S.ext
  let Hb:Hp:=fun b=>if b=a then none else H b
  have ha:Hb a=none:=if_pos rfl
  have hb:∀ b,b ≠ a->Hb b=H b:=fun b n=>if_neg n
  have sH:∀ H3,ji Hb H3->ji Hs H3:=fun H3 s b u q=>by
   have n:b ≠ a:=fun z=>by subst z; rw [h3] at q; cases q
   exact s b u (by rw [hb b n]; exact E.sm b u q)
  refine ⟨Hb,⟨E.len,fun b u q=>?_,E.pl,fun j n=>?_⟩,fun H3 s b u q m=>?_,fun H3 ρ3 σ3 E3=>⟨E3.len,sH H3 E3.sm,E3.pl,fun j n=>?_⟩,sH⟩
  ·by_cases n:b=a
   ·subst n; rw [ha] at q; cases q
   ·rw [hb b n] at q; exact q
  ·cases n
   exact ⟨d,a,h1,h2,ha,h4⟩
  ·have n:b ≠ a:=fun z=>by subst z; rw [h5] at q; cases q; exact m _ rfl
   exact s b u (by rw [hb b n]; exact q)
  ·obtain ⟨d3,a3,g1,g2,g3,g4⟩:=E3.ow j n
   refine ⟨d3,a3,g1,g2,?_,g4⟩
   by_cases z:a3=a
   ·rw [z]; exact h3
   ·rw [hb a3 z] at g3
    cases q:Hs a3 with
    | none=>rfl
    | some u=>have:=E.sm _ _ q; rw [g3] at this; cases this
theorem ahw {fi:Rho->Option (List PyData)}{ga:PyData->Rho->Option Rho} (hp:PassesOwn (model X.prog X.w) X.A X.env X.xe) (hc:X.calm=true) (hi:PID X tg src fi) (hg:PGO X own tg ga) (hb:abm X own body F)
  (hs:∀ x,foldedSetIterable src X.env x=pure x:=by intro _; rfl):PSO X own (.For tg src body [] pos) (Z3 (fun ρ=>fi (hid own ρ)) ga F):=by
 with_unfolding_all
  refine PS.imp (ZT hp hc hi hg hb hs) fun D σ H ⟨Hs,ρ,o,E,q,k⟩=>?_
  cases h1:fi (hid own ρ) with
  | none=>simp [Z3,h1] at q
  | some ds=>
   have q':jS ga F ds ρ=some o:=by simpa [Z3,h1] using q
   refine ⟨hid own ρ,ds,E.hid,h1,fun J H1 s1 Y=>?_⟩
   obtain ⟨Hb,Eb,sE,back,sb⟩:=(E.mono s1).rebase
   refine ⟨fun i m σ H2=>m=ds.length - i/\i<=ds.length/\∃ ρ2,EnvO X.prog X.w X.K Hb H2 own ρ2 σ/\jS ga F (ds.drop i) ρ2=some o,⟨ds.length,by simp,Nat.zero_le _,ρ,Eb,by simpa using q'⟩,?_⟩
   rintro i m σ2 H2 ⟨rfl,hi,ρ2,en2,q2⟩
   obtain ⟨g1,g2,g3⟩:=Y i H2 (sE H2 en2.sm)
   by_cases hlt:i < ds.length
   ·right
    have hd:ds.drop i=ds[i]::ds.drop (i+1):=List.drop_eq_getElem_cons hlt
    rw [hd] at q2
    refine ⟨g1 hlt,fun σ3 H3=>∃ ρ3,EnvO X.prog X.w X.K Hb H3 own ρ3 σ3/\jS ga F (ds.drop (i+1)) ρ3=some o,fun σ3 H3 ⟨ρ3,a2,a3⟩=>⟨ds.length - (i+1),by omega,rfl,hlt,ρ3,a2,a3⟩,fun x H3 y=>?_⟩
    obtain ⟨s3,r3⟩:=g3 x H3 y
    have r3':=r3 ds[i] (by simp [hlt])
    cases h4:ga ds[i] ρ2 with
    | none=>simp [jS,h4] at q2
    | some ρ4=>
     refine ⟨Hb,ρ2,ds[i],ρ4,en2.mono s3,r3',h4,fun σ5 H5 en5=>?_⟩
     cases h5:F ρ4 with
     | none=>simp [jS,h4,h5] at q2
     | some p=>
      refine ⟨Hb,ρ4,p,en5,h5,?_⟩
      cases p with
      | nx ρ6=>exact fun σ6 H6 en6=>⟨ρ6,en6,by simpa [jS,h4,h5] using q2⟩
      | ct ρ6=>exact fun σ6 H6 en6=>⟨ρ6,en6,by simpa [jS,h4,h5] using q2⟩
      | bk ρ6=>
       have:Out.nx ρ6=o:=by simpa [jS,h4,h5] using q2
       subst this
       exact fun σ6 H6 en6=>k σ6 H6 (back _ _ _ en6)
      | rt d=>
       have:Out.rt d=o:=by simpa [jS,h4,h5] using q2
       subst this
       exact fun v H6 s6 r6=>k v H6 (sb _ s6) r6
   ·left
    have he:i=ds.length:=by omega
    have hn:ds.drop i=[]:=by rw [he]; simp
    rw [hn] at q2
    have:Out.nx ρ2=o:=by simpa [jS] using q2
    subst this
    exact ⟨g2 (by omega),k σ2 H2 (back _ _ _ en2)⟩
end
theorem ZA {H:Hp}{a:Addr}{o o':HO}:upd (upd H a o) a o'=upd H a o':=by
 funext b
 by_cases h:b=a
 ·subst h; rw [jp,jp]
 ·rw [jl h,jl h,jl h]
section
variable {P:Program}{w:World}{K:PySem.W.Frag}{Hs H:Hp}{ρ:Rho}{σ:St}{i:Nat}
theorem EnvO.put {a:Addr}{d d':PyData}{φ:Heap->Prop}{H3:Hp}{c:HO} (E:EnvO P w K Hs H (some i) ρ σ) (h0:ρ[i]?=some (some d)) (h2:σ[i]?=some (some (.ref a))) (h3:Hs a=none) (h5:H a=some (.ext φ))
  (s3:∀ b u,b ≠ a->H b=some u->H3 b=some u) (ow:Qu P w K (upd H3 a c) a d'):EnvO P w K Hs (upd H3 a c) (some i) (ρ.set i (some d')) σ:=by
 have hi:i < ρ.length:=(List.getElem?_eq_some_iff.mp h0).1
 have s4:jB H (upd H3 a c):=fun b u q m=>by
  have:b ≠ a:=fun z=>by subst z; rw [h5] at q; cases q; exact m _ rfl
  rw [jl this]; exact s3 b u this q
 refine ⟨by simp [E.len],fun b u q=>?_,fun j x q n=>?_,fun j n=>?_⟩
 ·have:b ≠ a:=fun z=>by subst z; rw [h3] at q; cases q
  rw [jl this]; exact s3 b u this (E.sm b u q)
 ·have hj:i ≠ j:=fun z=>n (by rw [z])
  rw [List.getElem?_set_ne hj] at q
  obtain ⟨v,g1,g2⟩:=E.pl j x q n
  exact ⟨v,g1,Rep.monoE s4 _ _ g2⟩
 ·cases n
  exact ⟨d',a,by rw [List.getElem?_set_self hi],h2,h3,ow⟩
end
section
variable {X:Cx}{e a b c tg src:Expr}{es:List Expr}{st:Stmt}{sts jO body:List Stmt}{fa fb fc:Rho->Option PyData}{F G:Rho->Option Out}{pos:Pos}
noncomputable def akr (i:Nat) (g:Rho->Option PyData):Rho->Option Out:=fun ρ=>(g ρ).map fun d=> .nx (ρ.set i (some d))
theorem ac7 {n:Nat} (h:n < 1000000):n < sizeLine:=Nat.lt_of_lt_of_le h (by rw [sizeLine_eq]; decide)
end
section
variable {X:Cx}{e a b c tg src:Expr}{es:List Expr}{st:Stmt}{sts jO body:List Stmt}{fa fb fc:Rho->Option PyData}{F G:Rho->Option Out}{pos:Pos}
@[irreducible] noncomputable def PN (X:Cx) (e:Expr) (f:Rho->Option PyData):Prop:=
 PE X e fun σ H Q=>∃ ρ d,EnvR X.K H ρ σ/\f ρ=some d/\∀ a H',ji H H'->H a=none->Qu X.prog X.w X.K H' a d->Q (.ref a) H'
theorem afL:PN X (.Dict [] [] pos) (cst (.dict [(.none,.none)])):=by
 with_unfolding_all
  intro pins s σ H Q I ⟨ρ,d,en,hf,k⟩
  cases hf
  refine thn (afk pins s σ H (fun v H2=>∃ a,v= .ref a/\H a=none/\H2=upd H a (.dK [])) I (fun l hl=>⟨l,rfl,hl,rfl⟩)) fun u s1 ⟨v,H2,I2,r,a,e1,e2,e3⟩=>?_
  subst e1
  have e4:H2 a=some (.dK []):=by rw [e3]; exact jp
  obtain ⟨ob,I3⟩:=Inv.sealedD I2 e4
  have s2:ji H (upd H2 a (Zp X.prog X.w a ob [])):=by rw [e3,ZA]; exact jt e2
  exact ⟨.ref a,_,I3,r,k a _ s2 e2 ⟨[],[],ob,rfl,jp,rfl⟩⟩
noncomputable def abn (i:Nat) (f:Rho->Option PyData) (G:Rho->Option Out):Rho->Option Out:=fun ρ=>(f ρ).bind fun d=>if i < ρ.length then (G (ρ.set i (some d))).bind fun o=>match o with
  | .rt c=>some (.rt c)
  | _=>none
 else none
theorem afM (i:Nat) {x:Str}{pos':Pos} (hN:X.N.Nodup) (he:PN X e fa) (h:abm X (some i) jO G) (hi:X.N[i]?=some x:=by rfl) (hx:Loc X.env.scope x:=by first | exact Or.inl rfl | exact Or.inr rfl) (hs:swapsWith e (some (.Name x pos')) pos.line X.env=pure false:=by rfl)
  (hf:X.fn x=true ∨ X.env.scope.names.lookup x=some .local:=by first | exact .inl rfl | exact .inr rfl | assumption):abm X none (.Assign [.Name x pos'] e pos::jO) (abn i fa G):=by
 with_unfolding_all
  refine PSs.imp (qZ (ZR hN hi hx he hs hf) h) fun D σ H ⟨Hs,ρ,o,E,q,k⟩=>?_
  cases h1:fa ρ with
  | none=>simp [abn,h1] at q
  | some d=>
   by_cases hl:i < ρ.length
   ·cases h2:G (ρ.set i (some d)) with
    | none=>simp [abn,h1,h2] at q
    | some p=>
     cases p with
     | rt c=>
      have:Out.rt c=o:=by simpa [abn,h1,h2,hl] using q
      subst this
      refine ⟨ρ,d,E.to,h1,fun a H' s hn ow=>⟨Hs,ρ.set i (some d),.rt c,⟨by simp [E.len],E.sm.trans s,fun j y q n=>?_,fun j n=>?_⟩,h2,k⟩⟩
      ·have hj:i ≠ j:=fun z=>n (by rw [z])
       rw [List.getElem?_set_ne hj] at q ⊢
       obtain ⟨v,g1,g2⟩:=E.pl j y q (fun z=>nomatch z)
       exact ⟨v,g1,Rep.mono s _ _ g2⟩
      ·cases n
       refine ⟨d,a,by rw [List.getElem?_set_self hl],by rw [List.getElem?_set_self (by rw [←E.len]; exact hl)],E.sm.free hn,ow⟩
     | nx _=>simp [abn,h1,h2,hl] at q
     | bk _=>simp [abn,h1,h2,hl] at q
     | ct _=>simp [abn,h1,h2,hl] at q
   ·simp [abn,h1,hl] at q
noncomputable def isI (n:Int):PyData->Bool
 | .int m=>decide (m=n)
 | _=>false
noncomputable def Jf (r:List (PyData × PyData)) (n:Int):Option PyData:=(r.find? fun p=>isI n p.1).map (·.2)
noncomputable def ac8 (r:List (PyData × PyData)) (n:Int) (d:PyData):List (PyData × PyData):=if r.any (fun p=>isI n p.1)=true then r.map (fun p=>if isI n p.1=true then (p.1,d) else p) else r++[(.int n,d)]
theorem Qv {K:PySem.W.Frag}{H:Hp} (n:Int):∀ {r:List (PyData × PyData)}{ks:List (Key × V)},RepM K H r ks->(Jf r n=none/\zT ks (Sum.inl n:Key)=none) ∨ ∃ d x,Jf r n=some d/\zT ks (Sum.inl n:Key)=some x/\Rep K H d x
 | [],ks,h=>by cases (show ks=[] from h); exact .inl ⟨rfl,rfl⟩
 | (k,d)::r,ks,⟨i,x,s,h1,h2,h3,h4⟩=>by
  subst h1; subst h2
  by_cases hn:i=n
  ·subst hn
   exact .inr ⟨d,x,by simp [Jf,isI],by simp [zT],h3⟩
  ·have e1:Jf ((.int i,d)::r) n=Jf r n:=by simp [Jf,isI,hn,List.find?_cons]
   have e2:zT ((Sum.inl i,x)::s) (Sum.inl n:Key)=zT s (Sum.inl n):=by
    have:¬ (Sum.inl i:Key)=Sum.inl n:=fun z=>hn (Sum.inl.inj z)
    simp [zT,List.find?_cons,this]
   rw [e1,e2]
   exact Qv n h4
theorem RepM.any {K:PySem.W.Frag}{H:Hp} (n:Int):∀ {r:List (PyData × PyData)}{ks:List (Key × V)},RepM K H r ks->r.any (fun p=>isI n p.1)=ks.any fun kv=>decide (kv.1=(Sum.inl n:Key))
 | [],ks,h=>by cases (show ks=[] from h); rfl
 | (k,d)::r,ks,⟨i,x,s,h1,h2,h3,h4⟩=>by
  subst h1; subst h2
  rw [List.any_cons,List.any_cons,RepM.any n h4]
  congr 1
  by_cases hn:i=n
  ·subst hn; simp [isI]
  ·have:¬ (Sum.inl i:Key)=Sum.inl n:=fun z=>hn (Sum.inl.inj z)
   simp [isI,hn]
theorem RepM.repl {K:PySem.W.Frag}{H:Hp} (n:Int) {d':PyData}{x':V} (hr:Rep K H d' x'):∀ {r:List (PyData × PyData)}{ks:List (Key × V)},RepM K H r ks->
  RepM K H (r.map fun p=>if isI n p.1=true then (p.1,d') else p) (ks.map fun kv=>if kv.1=(Sum.inl n:Key) then (kv.1,x') else kv)
 | [],ks,h=>by cases (show ks=[] from h); exact rfl
 | (k,d)::r,ks,⟨i,x,s,h1,h2,h3,h4⟩=>by
  subst h1; subst h2
  by_cases hn:i=n
  ·subst hn
   have c1:isI i ((PyData.int i,d):PyData × PyData).1=true:=by simp [isI]
   rw [List.map_cons,List.map_cons,if_pos c1,if_pos rfl]
   exact ⟨i,x',_,rfl,rfl,hr,RepM.repl i hr h4⟩
  ·have c1:¬ isI n ((PyData.int i,d):PyData × PyData).1=true:=by simp [isI,hn]
   have c2:¬ ((Sum.inl i,x):Key × V).1=Sum.inl n:=fun z=>hn (Sum.inl.inj z)
   rw [List.map_cons,List.map_cons,if_neg c1,if_neg c2]
   exact ⟨i,x,_,rfl,rfl,h3,RepM.repl n hr h4⟩
theorem RepM.snoc {K:PySem.W.Frag}{H:Hp} (n:Int) {d':PyData}{x':V} (hr:Rep K H d' x'):∀ {r:List (PyData × PyData)}{ks:List (Key × V)},RepM K H r ks->RepM K H (r++[(.int n,d')]) (ks++[(Sum.inl n,x')])
 | [],ks,h=>by cases (show ks=[] from h); exact ⟨n,x',[],rfl,rfl,hr,rfl⟩
 | (k,d)::r,ks,⟨i,x,s,h1,h2,h3,h4⟩=>by
  subst h2
  exact ⟨i,x,_,h1,rfl,h3,RepM.snoc n hr h4⟩
theorem RepM.put {K:PySem.W.Frag}{H:Hp} (n:Int) {d':PyData}{x':V} (hr:Rep K H d' x') {r:List (PyData × PyData)}{ks:List (Key × V)} (h:RepM K H r ks):RepM K H (ac8 r n d') (JN ks (Sum.inl n) x'):=by
 unfold ac8 JN
 rw [h.any n]
 by_cases c:(ks.any fun kv=>decide (kv.1=(Sum.inl n:Key)))=true
 ·rw [if_pos c,if_pos c]; exact h.repl n hr
 ·rw [if_neg c,if_neg c]; exact h.snoc n hr
theorem RepM.length {K:PySem.W.Frag}{H:Hp}:∀ {r:List (PyData × PyData)}{ks:List (Key × V)},RepM K H r ks->ks.length=r.length
 | [],ks,h=>by cases (show ks=[] from h); rfl
 | (k,d)::r,ks,⟨i,x,s,h1,h2,h3,h4⟩=>by subst h2; simp [RepM.length h4]
noncomputable def aks (P:Program) (w:World):V->V->V->Hp->(Hp->Prop)->Prop:=fun o k v H Q=>∃ a ks ob n,o= .ref a/\k= .int n/\H a=some (Zp P w a ob ks)/\ks.length < sizeLine/\∀ ob',Q (upd H a (Zp P w a ob' (JN ks (Sum.inl n) v)))
theorem afN (hu:X.A.units+1 < cLine):agT X (aks X.prog X.w):=by
 intro pins s σ H o k v ov iv u Q I ro rk rv ⟨a,ks,ob,n,e1,e2,h1,h2,q⟩
 subst e1; subst e2
 cases ro
 obtain ⟨t,rfl⟩:=rk
 refine aed hu (Inv.openD I h1) (aeb.k (k:=Sum.inl n) jp h2) ⟨t,rfl⟩ rv fun s' I'=>?_
 obtain ⟨ob',I2⟩:=Inv.sealedD I' jp
 rw [ZA,ZA] at I2
 exact ⟨_,I2,q ob'⟩
noncomputable def afO (c v k:Option PyData):Option PyData:=match c,v,k with
 | some (.dict ((.none,.none)::r)),some d,some (.int n)=>if r.length < 1000000 then some (.dict ((.none,.none)::ac8 r n d)) else none
 | _,_,_=>none
theorem afP {c v k:Option PyData}{o:PyData} (h:afO c v k=some o):∃ r d n,c=some (.dict ((.none,.none)::r))/\v=some d/\k=some (.int n)/\r.length < 1000000/\o= .dict ((.none,.none)::ac8 r n d):=by
 unfold afO at h
 split at h
 ·split at h
  ·rename_i hc
   cases h
   exact ⟨_,_,_,rfl,rfl,rfl,hc,rfl⟩
  ·cases h
 ·cases h
noncomputable def ahx (i:Nat) (fk fv:Rho->Option PyData):Rho->Option Out:=fun ρ=>(afO (lkp i ρ) (brw (some i) fv ρ) (brw (some i) fk ρ)).map fun d=> .nx (ρ.set i (some d))
theorem ahy (i:Nat) {x:Str}{p1 p2:Pos}{fk fv:Rho->Option PyData} (hu:X.A.units+1 < cLine) (hk:PD X b fk) (he:PD X e fv) (hN:X.N[i]?=some x:=by rfl) (hv:Vis X.env.scope x:=by first | exact Or.inl rfl | exact Or.inr (Or.inl rfl) | exact Or.inr (Or.inr rfl))
  (hd:(x == ("__debug__":Str))=false:=by decide) (hcd:(x == ("__classdict__":Str))=false:=by decide)
  (ha:∀ v,assign (.Subscript (.Name x p1) b p2) X.env v=(do
   let ov ←holding [v] (eval (.Name x p1) X.env)
   let iv ←holding [v,ov] (eval b X.env)
   standAt p2
   holding [v,ov,iv] (setItem ov iv v)
   release [v,ov,iv] []):=by intro _; rfl)
  (hs:swapsWithSole [.Subscript (.Name x p1) b p2] e pos.line X.env=pure false:=by rfl) (hw:swappedStores [.Subscript (.Name x p1) b p2] e X.env=pure none:=by rfl)
  (h1:(assignEach [.Subscript (.Name x p1) b p2] X.env).map (·.2)=[assign (.Subscript (.Name x p1) b p2) X.env]:=by rfl):PSO X (some i) (.Assign [.Subscript (.Name x p1) b p2] e pos) (ahx i fk fv):=by
 with_unfolding_all
  refine PS.imp (ae2 (ac6 (own:=some i) he) (aiH (acL hN hv hd hcd) (ac6 (own:=some i) hk) (afN hu) ha) hs hw h1) fun D σ H ⟨Hs,ρ,o,E,q,k⟩=>?_
  cases hp:afO (lkp i ρ) (brw (some i) fv ρ) (brw (some i) fk ρ) with
  | none=>simp [ahx,hp] at q
  | some nw=>
   have:Out.nx (ρ.set i (some nw))=o:=by simpa [ahx,hp] using q
   subst this
   obtain ⟨r,d,n,q1,q2,q3,hl,rfl⟩:=afP hp
   refine ⟨Hs,ρ,d,E,q2,fun v H1 s1 E1 r1=>?_⟩
   obtain ⟨d0,a,g1,g2,g3,g4⟩:=E1.ow i rfl
   rw [zI q1] at g1; cases g1
   refine ⟨.ref a,g2,Hs,ρ,.int n,E1,q3,fun kv H2 s2 E2 r2=>?_⟩
   cases (show kv=V.int n from r2)
   obtain ⟨d1,a1,f1,f2,f3,f4⟩:=E2.ow i rfl
   rw [zI q1] at f1; cases f1
   rw [g2] at f2; cases f2
   obtain ⟨ks,r',ob,e1,e2,e3⟩:=f4
   cases e1
   refine ⟨a,ks,ob,n,rfl,rfl,e2,by rw [e3.length]; exact ac7 hl,fun ob'=>k _ _ (E2.put (zI q1) g2 f3 e2 (fun _ _ _ z=>z) ⟨_,_,ob',rfl,jp,?_⟩)⟩
   have s5:jB H2 (upd H2 a (Zp X.prog X.w a ob' (JN ks (Sum.inl n) v))):=jB.upd e2
   exact RepM.put n (Rep.monoE (s2.trans s5) _ _ r1) (RepM.monoE s5 _ _ e3)
end
noncomputable def zW:PyData->Option (List (PyData × PyData))
 | .dict ((.none,_)::r)=>some r
 | _=>none
theorem zv {K:PySem.W.Frag}{H:Hp}{d:PyData}{r:List (PyData × PyData)}{v:V} (h:zW d=some r) (q:Rep K H d v):∃ a ks ob,v= .ref a/\H a=some (.frz ob (.dK ks))/\RepM K H r ks:=by
 unfold zW at h
 split at h
 ·cases h
  obtain ⟨a,h1,⟨ns,h2,h3⟩ | ⟨ks,ob,h2,h3⟩ | ⟨x,h2,_⟩ | ⟨x,_,_,h2,_⟩⟩:=q
  ·cases ns with
   | nil=>cases h3
   | cons n ns=>cases h3
  ·exact ⟨a,ks,ob,h1,h2,h3⟩
  ·cases h2
  ·cases h2
 ·cases h
theorem Z9 {H:Hp}{a:Addr}{ob:Obj}{ks:List (Key × V)} (h:H a=some (.frz ob (.dK ks))) (n:Int):Zw H a (.int n) (zT ks (Sum.inl n:Key)):= .inl ⟨ks,Sum.inl n,.inr ⟨ob,h⟩,rfl,rfl⟩
section
variable {X:Cx}{e a b c tg src:Expr}{es:List Expr}{fa fb fc:Rho->Option PyData}{pos:Pos}
noncomputable def Q4 (p q:PyData):Option PyData:=match zW p,q with
 | some r,.int n=>Jf r n
 | _,_=>none
theorem afQ (hu:X.A.units+1 < cLine) (ha:PD X a fa) (hb:PD X b fb) (hs:aiX b:=by intro _ _; rfl):PD X (.Subscript a b pos) (op2 Q4 fa fb):=by
 with_unfolding_all
  refine PE.imp (ag7 hu ha hb hs) fun σ H Q ⟨ρ,d,en,h,k⟩=>?_
  cases h1:fa ρ with
  | none=>simp [op2,h1] at h
  | some p=>
   cases h2:fb ρ with
   | none=>simp [op2,h1,h2] at h
   | some q=>
    have h':Q4 p q=some d:=by simpa [op2,h1,h2] using h
    unfold Q4 at h'
    split at h'
    ·rename_i r n hp
     refine ⟨ρ,p,en,h1,fun v H1 s1 r1=>⟨ρ,.int n,en.mono s1,h2,fun y H2 s2 r2=>?_⟩⟩
     cases (show y=V.int n from r2)
     obtain ⟨ad,ks,ob,e1,e2,e3⟩:=zv hp (Rep.mono s2 _ _ r1)
     rcases Qv n e3 with ⟨z,_⟩ | ⟨d',x,z1,z2,z3⟩
     ·rw [z] at h'; cases h'
     ·rw [z1] at h'; cases h'
      exact ⟨ad,x,e1,by rw [←z2]; exact Z9 e2 n,k x H2 (s1.trans s2) z3⟩
    ·cases h'
noncomputable def adI (p q z:PyData):Option PyData:=match zW p,q with
 | some r,.int n=>some ((Jf r n).getD z)
 | _,_=>none
noncomputable def Jn (fa fb fc:Rho->Option PyData):Rho->Option PyData:=fun ρ=>(fa ρ).bind fun p=>(fb ρ).bind fun q=>(fc ρ).bind fun z=>adI p q z
theorem aaa {apos cpos:Pos} (hu:X.A.units+1 < cLine) (ha:PD X a fa) (hb:PD X b fb) (hc:PD X c fc) (m:M2 X a "get" apos b c cpos:=by exact ⟨rfl,rfl,rfl,rfl⟩):PD X (.Call (.Attribute a "get" apos) [b,c] [] cpos) (Jn fa fb fc):=by
 with_unfolding_all
  refine PE.imp (afl hu ha hb hc m) fun σ H Q ⟨ρ,d,en,h,k⟩=>?_
  cases h1:fa ρ with
  | none=>simp [Jn,h1] at h
  | some p=>
   cases h2:fb ρ with
   | none=>simp [Jn,h1,h2] at h
   | some q=>
    cases h3:fc ρ with
    | none=>simp [Jn,h1,h2,h3] at h
    | some z=>
     have h':adI p q z=some d:=by simpa [Jn,h1,h2,h3] using h
     unfold adI at h'
     split at h'
     ·rename_i r n hp
      cases h'
      refine ⟨ρ,p,en,h1,fun v H1 s1 r1=>?_⟩
      obtain ⟨ad,ks,ob,e1,e2,e3⟩:=zv hp r1
      refine ⟨ad,e1,.inl ⟨ks,.inr ⟨ob,e2⟩⟩,ρ,.int n,en.mono s1,h2,fun y H2 s2 r2=>⟨ρ,z,(en.mono s1).mono s2,h3,fun y3 H3 s3 r3=>?_⟩⟩
      cases (show y=V.int n from r2)
      refine ⟨_,Z9 (s3 _ _ (s2 _ _ e2)) n,?_⟩
      rcases Qv n (RepM.mono (s2.trans s3) _ _ e3) with ⟨z1,z2⟩ | ⟨d',x,z1,z2,z3⟩
      ·rw [z2]; exact k _ H3 (s1.trans (s2.trans s3)) (by rw [z1]; exact r3)
      ·rw [z2]; exact k _ H3 (s1.trans (s2.trans s3)) (by rw [z1]; exact z3)
     ·cases h'
noncomputable def aes (neg:Bool) (q p:PyData):Option PyData:=match zW p,q with
 | some r,.int n=>some (.bool (if neg then !(Jf r n).isSome else (Jf r n).isSome))
 | _,_=>none
theorem ajf (hu:X.A.units+1 < cLine) (ha:PD X a fa) (hb:PD X b fb):PC X .In a b (tD X.K (op2 (aes false) fa fb)):=by
 with_unfolding_all
  intro pins s σ H Q I ⟨ρ,d,en,h,k⟩
  cases h1:fa ρ with
  | none=>simp [op2,h1] at h
  | some q=>
   cases h2:fb ρ with
   | none=>simp [op2,h1,h2] at h
   | some p=>
    have h':aes false q p=some d:=by simpa [op2,h1,h2] using h
    unfold aes at h'
    split at h'
    ·rename_i r n hp
     cases h'
     refine aiY hu ha hb pins s σ H Q I ⟨ρ,.int n,en,h1,fun v H1 s1 r1=>⟨ρ,p,en.mono s1,h2,fun y H2 s2 r2=>?_⟩⟩
     cases (show v=V.int n from r1)
     obtain ⟨ad,ks,ob,e1,e2,e3⟩:=zv hp r2
     refine ⟨ad,_,e1,Z9 e2 n,k _ H2 (s1.trans s2) ?_⟩
     rcases Qv n e3 with ⟨z1,z2⟩ | ⟨d',x,z1,z2,z3⟩
     ·rw [z1,z2]; rfl
     ·rw [z1,z2]; rfl
    ·cases h'
theorem aet {op:CmpOp}{f:Rho->Option PyData} (h:PC X op a b (tD X.K f)) (hm:behindInMarks op b=false:=by first | exact acQ _ | with_unfolding_all rfl):PTD X (.Compare a [op] [b] pos) (tst f):=by
 with_unfolding_all
  refine PT.imp (aiA h hm) fun σ H Q ⟨ρ,t,en,h,k⟩=>?_
  cases hd:f ρ with
  | none=>simp [tst,hd] at h
  | some d=>
   have ht:d= .bool t:=zJ (by simpa [tst,hd] using h)
   subst ht
   exact ⟨ρ,_,en,hd,fun v H' s r=>⟨t,r,k H' s⟩⟩
end
noncomputable def akt:HO->Bool
 | .lst _=>true
 | .tup _=>true
 | .frz _ _=>true
 | _=>false
noncomputable def adJ (H H':Hp):Prop:=∀ b o,H b=some o->akt o=true->H' b=some o
section
variable {K:PySem.W.Frag}{H H':Hp}
theorem adJ.tup {a:Addr}{xs:List V} (e:adJ H H') (h:SqT K H a xs):SqT K H' a xs:=by
 rcases h with (h | ⟨o,h⟩) | h
 ·exact .inl (.inl (e _ _ h rfl))
 ·exact .inl (.inr ⟨o,e _ _ h rfl⟩)
 ·exact .inr h
theorem adJ.sql {a:Addr}{xs:List V} (e:adJ H H') (h:SqL K H a xs):SqL K H' a xs:=by
 rcases h with (h | ⟨o,h⟩) | h
 ·exact .inl (.inl (e _ _ h rfl))
 ·exact .inl (.inr ⟨o,e _ _ h rfl⟩)
 ·exact .inr h
end
section
variable {X:Cx}{e a b c tg src:Expr}{es:List Expr}{fa fb fc:Rho->Option PyData}{pos:Pos}
theorem RepM.keys {K:PySem.W.Frag}{H:Hp}:∀ {r:List (PyData × PyData)}{ks:List (Key × V)}{i:Nat}{d:PyData}{kv:Key × V},RepM K H r ks->(r.map (·.1))[i]?=some d->ks[i]?=some kv->Rep K H d (kV kv.1)
 | [],ks,i,d,kv,h,e,q=>by simp at e
 | (k,c)::r,ks,0,d,kv,⟨i,x,s,h1,h2,h3,h4⟩,e,q=>by
  subst h1; subst h2
  simp at e q
  subst e; subst q
  exact rfl
 | (k,c)::r,ks,j+1,d,kv,⟨i,x,s,h1,h2,h3,h4⟩,e,q=>by
  subst h2
  exact RepM.keys (i:=j) h4 (by simpa using e) (by simpa using q)
end
end BX
end
section
namespace BX
open PySem PySem.Spec L2
section
open PyProof.Rows hiding St
variable {X:Cx}{e a b c tg src:Expr}{es:List Expr}{fa fb fc:Rho->Option PyData}{pos:Pos}{jO:List Expr}
end
end BX
end
section
namespace BX
open PySem PySem.Spec L2
open PyProof.Rows hiding St
section
variable {X:Cx}{e a b c tg src:Expr}{es:List Expr}{fa fb fc:Rho->Option PyData}{pos:Pos}{jO:List Expr}
end
section
variable {X:Cx}{e a b c tg src:Expr}{es:List Expr}{fa fb fc:Rho->Option PyData}{pos:Pos}
end
section
variable {X:Cx}{e a b c tg src:Expr}{es:List Expr}{fa fb fc:Rho->Option PyData}{pos:Pos}
theorem Reps.set {K:PySem.W.Frag}{H:Hp}{d:PyData}{v:V} (r:Rep K H d v):∀ {ds:List PyData}{xs:List V} (j:Nat),Reps K H ds xs->Reps K H (ds.set j d) (xs.set j v)
 | [],xs,j,h=>by cases (show xs=[] from h); exact rfl
 | _::ds,xs,0,⟨x,q,h1,h2,h3⟩=>by subst h1; exact ⟨v,q,rfl,r,h3⟩
 | _::ds,xs,j+1,⟨x,q,h1,h2,h3⟩=>by subst h1; exact ⟨x,_,rfl,h2,Reps.set r j h3⟩
noncomputable def abo (ds:List PyData):Option PyData:=match ds with
 | [.list xs]=>some (.list xs)
 | [.tuple xs]=>some (.list xs)
 | _=>none
end
section
variable {X:Cx}{e a b c:Expr}{fa fb fc:Rho->Option PyData}{pos p2:Pos}
noncomputable def ajg (ds:List PyData) (lo hi:Option Int):List PyData:=(ds.drop (HT.sIx ds.length 0 lo)).take (HT.sIx ds.length ds.length hi - HT.sIx ds.length 0 lo)
noncomputable def inI:PyData->Option Int
 | .int i=>some i
 | _=>none
theorem ab5 {d:PyData}{i:Int} (h:inI d=some i):d= .int i:=by cases d <;> simp [inI] at h; rw [h]
end
section
variable {prog:Program}{w:World}{A:Around}{E:Value->Shared->Prop}{s:Shared}
noncomputable def ItA (g:Bool) (h:Heap) (i t:Addr) (k:Nat):Prop:=match g with
 | true=>h.IsListIter i t k
 | false=>h.IsTupleIter i t k
noncomputable def SrA (g:Bool) (h:Heap) (t:Addr) (xs:Array Value):Prop:=match g with
 | true=>h.IsList t xs
 | false=>h.IsTuple t xs
theorem ItA.to {g:Bool}{h h':Heap}{i t:Addr}{k:Nat} (x:ItA g h i t k) (kp:∀ o,h.get? i=some o->h'.get? i=some o):ItA g h' i t k:=by
 cases g <;> exact (let ⟨o,e,r⟩:=x; ⟨o,kp o e,r⟩)
theorem SrA.to {g:Bool}{h h':Heap}{t:Addr}{xs:Array Value} (x:SrA g h t xs) (kp:∀ o,h.get? t=some o->h'.get? t=some o):SrA g h' t xs:=by
 cases g <;> exact (let ⟨o,e,r⟩:=x; ⟨o,kp o e,r⟩)
theorem ItA.extBut {g:Bool}{h h':Heap}{i t b:Addr}{k:Nat} (x:ItA g h i t k) (e:Heap.ExtBut b h h') (n:i ≠ b):ItA g h' i t k:=x.to fun o q=>e i o n q
theorem SrA.extBut {g:Bool}{h h':Heap}{t b:Addr}{xs:Array Value} (x:SrA g h t xs) (e:Heap.ExtBut b h h') (n:t ≠ b):SrA g h' t xs:=x.to fun o q=>e t o n q
theorem ItA.obj {g:Bool}{h:Heap}{i t:Addr}{k:Nat} (x:ItA g h i t k):∃ o vs,h.get? i=some o/\o.data= .fields vs:=by
 cases g <;> exact (let ⟨o,e,_,d⟩:=x; ⟨o,_,e,d⟩)
structure Apart2 (z TI TO i1 i2 t1 t2:Addr):Prop where
 nd:[z,TO,i1,i2].Nodup
 ti:TI ∉ [z,TO,i1,i2]
 s1:t1 ∉ [z,TO,i1,i2]
 s2:t2 ∉ [z,TO,i1,i2]
structure Zip2 (ga gb:Bool) (h:Heap) (z TI TO i1 i2 t1 t2:Addr) (f0:Value) (k:Nat):Prop where
 hz:IsZip h z TI TO f0
 hTI:IsPair h TI (.ref i1) (.ref i2)
 hTO:∃ a b,IsPair h TO a b
 g1:ItA ga h i1 t1 k
 g2:ItA gb h i2 t2 k
theorem Zip2.keep {ga gb:Bool}{h h':Heap}{z TI TO i1 i2 t1 t2:Addr}{f0:Value}{k:Nat} (S:Zip2 ga gb h z TI TO i1 i2 t1 t2 f0 k) (kp:∀ b ∈ [z,TI,TO,i1,i2],∀ o,h.get? b=some o->h'.get? b=some o):
  Zip2 ga gb h' z TI TO i1 i2 t1 t2 f0 k:=by
 obtain ⟨hz,hTI,⟨a,b,hTO⟩,g1,g2⟩:=S
 exact ⟨kp z (by simp) _ hz,kp TI (by simp) _ hTI,⟨a,b,kp TO (by simp) _ hTO⟩,g1.to (kp i1 (by simp)),g2.to (kp i2 (by simp))⟩
end
noncomputable def Sq (g:Bool) (K:PySem.W.Frag) (H:Hp) (t:Addr) (xs:List V):Prop:=match g with
 | true=>SqL K H t xs
 | false=>SqT K H t xs
theorem Sq.inj {g:Bool}{X:Cx}{pins:List (Addr × Obj)}{σ:St}{H:Hp}{s:Shared}{a:Addr}{xs ys:List V} (I:Inv X pins σ H s) (q:Sq g X.K H a xs) (q':Sq g X.K H a ys):xs=ys:=by
 cases g with
 | true=>exact I.list_inj q q'
 | false=>exact I.tuple_inj q q'
theorem Sq.monoE {g:Bool}{K:PySem.W.Frag}{H H':Hp}{a:Addr}{xs:List V} (e:jB H H') (h:Sq g K H a xs):Sq g K H' a xs:=by
 cases g with
 | true=>exact jB.sql e h
 | false=>exact jB.tup e h
theorem Sq.at {g:Bool}{K:PySem.W.Frag}{H:Hp}{a:Addr}{xs:List V} (h:Sq g K H a xs):(∃ u,H a=some u) ∨ ∃ o,K.lookup a=some o:=by
 cases g with
 | true=>rcases h with (e | ⟨o,e⟩) | ⟨o,its,n,hk,_⟩ <;> first | exact .inl ⟨_,e⟩ | exact .inr ⟨_,hk⟩
 | false=>rcases h with (e | ⟨o,e⟩) | ⟨o,its,n,hk,_⟩ <;> first | exact .inl ⟨_,e⟩ | exact .inr ⟨_,hk⟩
section
variable {X:Cx}
end
section
variable {X:Cx}{e a b c:Expr}{fa fb fc:Rho->Option PyData}{pos p2:Pos}
noncomputable def afR (p q:PyData):Option PyData:=match p,q with
 | .list ds,.int k=>if ds.length < 1000/\-1000 < k/\k < 1000 then some (.list (List.replicate k.toNat ds).flatten) else none
 | _,_=>none
theorem afS:OpD X (binaryOp .Mult) afR:=by
 refine ⟨_,acY,fun p q d x y H Q h rx ry k=>?_⟩
 unfold afR at h
 split at h
 ·rename_i ds n
  split at h
  ·rename_i hc
   cases h
   obtain ⟨l,us,e1,e2,e3⟩:=rx
   cases (show y=V.int n from ry)
   have hl:=e3.length
   refine ⟨l,n,us,e1,rfl,e2,by omega,by omega,?_,fun p hp=>?_⟩
   ·rw [sizeLine_eq]
    have h1:us.length*n.toNat<=1000*1000:=Nat.mul_le_mul (by omega) (by omega)
    exact Nat.le_trans h1 (by decide)
   ·have s1:=jt (o:= .lst (List.replicate n.toNat us).flatten) hp
    exact k _ _ s1 ⟨p,_,rfl,jp,Reps.mono s1 _ _ (e3.rep _)⟩
  ·cases h
 ·cases h
theorem JB:∀ {is:List Int}{us:List Value},jw (is.map V.int) us->∀ (j:Nat) (i:Int),is[j]?=some i->∃ t,us[j]?=some (.int i t)
 | [],us,r,j,i,h=>by simp at h
 | i0::is,u::us,.cons r rr,j,i,h=>by
  cases j with
  | zero=>cases h; obtain ⟨t,rfl⟩:=r; exact ⟨t,rfl⟩
  | succ j=>exact JB rr j i (by simpa using h)
end
structure OneCell (sc:Scope) (y0:Str) (pre post:List (Str × NameKind)):Prop where
 split:sc.names=pre++(y0,.cell)::post
 pre:∀ x ∈ pre,x.2 ≠ .cell
 post:∀ x ∈ post,x.2 ≠ .cell
structure CompOk1 (X:Cx) (sc:Scope) (N':List Str) (cap:List (Option Nat)) (y0:Str):Prop where
 fr:∀ x ∈ sc.names,x.2= .free->X.env.kindOf x.1=some .cell ∨ X.env.kindOf x.1=some .free
 one:∃ pre post,OneCell sc y0 pre post
 lk:sc.names.lookup y0=some .cell
 kind:sc.kind= .function
 nm:∀ x ∈ sc.names,x.2= .local->sc.names.lookup x.1=some .local
 len:cap.length=N'.length
 cp:∀ (j i:Nat) (x:Str),N'[j]?=some x->cap[j]?=some (some i)->X.N[i]?=some x/\sc.names.lookup x=some .free
section
variable {X:Cx}{e:Expr}{fa:Rho->Option PyData}
end
section
variable {X:Cx}{tg src:Expr}{pos pos':Pos}
end
structure Mine (X:Cx) (H:Hp) (b:Addr):Prop where
 un:H b=none
 new:X.s₀.heap.get? b=none
 loc:b ≠ X.env.locals
 cel:∀ x c,X.env.cells.lookup x=some c->c ≠ b
 pin:∀ p ∈ X.pn,p.1 ≠ b
structure Xc (X:Cx) (H:Hp) (h:Heap) (e C:Addr):Prop where
 mine:Mine X H e
 ob:∃ oe vs,h.get? e=some oe/\(oe.cls= .ref C/\oe.dict=none)/\oe.data= .fields vs/\1 < vs.size/\
  (vs[1]?=some .none ∨ ∃ T oT ts,vs[1]?=some (.ref T)/\T ≠ e/\Mine X H T/\h.get? T=some oT/\oT.data= .fields ts/\3 < ts.size)
theorem Inv.exIn {X:Cx}{pins:List (Addr × Obj)}{σ:St}{H:Hp}{s:Shared}{ch:List Addr} (I:Inv X pins σ H s) (hn:∀ b ∈ ch,X.s₀.heap.get? b=none/\b ≠ X.env.locals/\∀ x c,X.env.cells.lookup x=some c->c ≠ b):Inv { X with ex:=ch++X.ex } pins σ H s:=by
 have no:∀ b,b ∉ ch++X.ex->b ∉ X.ex:=fun b h z=>h (List.mem_append_right _ z)
 refine ⟨⟨I.ok.mod,I.ok.kind,I.ok.glob,I.ok.blt,I.ok.above,I.ok.inj,I.ok.has,I.ok.cab,I.ok.hd,I.ok.frames,I.ok.stk,fun b hb=>?_,I.ok.bs,I.ok.bsz,fun b o e hb=>?_,fun b hb z=>?_,I.ok.funs,I.ok.frf⟩,I.os,I.bare,
  ⟨fun b o e n hf hx=>I.base.keep b o e n hf (no b hx),fun b o e n hf hx=>I.base.slot b o e n hf (no b hx),fun b o e n hx=>I.base.free b o e n (no b hx),fun b o e hx=>I.base.there b o e (no b hx),I.base.tups,I.base.frzs,I.base.tbls⟩,I.loc,I.cell,I.free,I.freeC,I.pin,I.hok,I.len⟩
 ·rcases List.mem_append.mp hb with q | q
  ·exact (hn b q).2
  ·exact I.ok.exf b q
 ·rcases List.mem_append.mp hb with q | q
  ·have:=(I.ok.bs b o e).1
   rw [(hn b q).1] at this; cases this
  ·exact I.ok.noex b o e q
 ·rcases List.mem_append.mp hb with q | q
  ·obtain ⟨_,o,ho,_⟩:=I.ok.funs.mem z
   rw [(hn b q).1] at ho; cases ho
  ·exact I.ok.exfs b q z
theorem Inv.exOut {X:Cx}{pins:List (Addr × Obj)}{σ:St}{H:Hp}{s:Shared}{ch:List Addr} (I:Inv { X with ex:=ch++X.ex } pins σ H s) (ok:X.Ok) (hn:∀ b ∈ ch,X.s₀.heap.get? b=none):Inv X pins σ H s:=by
 have no:∀ b o,X.s₀.heap.get? b=some o->b ∉ X.ex->b ∉ ch++X.ex:=fun b o e h z=>by
  rcases List.mem_append.mp z with q | q
  ·rw [hn b q] at e; cases e
  ·exact h q
 exact ⟨ok,I.os,I.bare,⟨fun b o e n hf hx=>I.base.keep b o e n hf (no b o e hx),fun b o e n hf hx=>I.base.slot b o e n hf (no b o e hx),fun b o e n hx=>I.base.free b o e n (no b o e hx),fun b o e hx=>I.base.there b o e (no b o e hx),I.base.tups,I.base.frzs,I.base.tbls⟩,I.loc,I.cell,I.free,I.freeC,I.pin,I.hok,I.len⟩
section
variable {X:Cx}{σ:St}{H:Hp}{s:Shared}{h':Heap}{e C:Addr}{E:Value->Shared->Prop}{A:Around}
theorem Inv.shake {ch:List Addr} (I:Inv X [] σ H s) (hm:∀ b ∈ ch,Mine X H b) (keep:∀ b o,b ∉ frs X.stack->b ∉ ch->s.heap.get? b=some o->h'.get? b=some o)
  (slot:∀ b o,b ∈ frs X.stack->b ∉ ch->s.heap.get? b=some o->∃ sl,h'.get? b=some { o with slots:=sl }):Inv X [] σ H { s with heap:=h' }:=by
 have u:Un (frs X.stack) ch H H s.heap h':=⟨fun b o q _ nf nc=>keep b o nf nc q,fun b o q _ hf nc=>slot b o hf nc q,fun _ _ _ n _=>n,fun b o q nc=>by
  by_cases hf:b ∈ frs X.stack
  ·obtain ⟨sl,z⟩:=slot b o hf nc q; exact ⟨_,z⟩
  ·exact ⟨o,keep b o hf nc q⟩,fun _ _ q=>q,fun _ _ _ q=>q,fun _ ps q=>⟨#[],by rw [q]; simp⟩⟩
 have hok:HOk X.prog X.w H h':=fun b o q=>(I.hok b o q).stay (fun c v hc r=>by
  have hb:H c ≠ none:=by
   rcases hc with rfl | hc
   ·rw [q]; exact fun z=>nomatch z
   ·rw [hc]; exact fun z=>nomatch z
  exact keep c v (fun z=>hb (I.stkFree c z)) (fun z=>hb (hm c z).un) r) (fun _ r=>r) fun _ _ r=>r
 exact Inv.exOut (Inv.call (X:={ X with ex:=ch++X.ex }) (g':=s.gens) (d':=s.drawn) (t':=s.toks) (Inv.exIn I fun b hb=>⟨(hm b hb).new,(hm b hb).loc,(hm b hb).cel⟩) u hok I.bare fun b hb=>⟨.inl (List.mem_append_left _ hb),(hm b hb).loc,(hm b hb).cel,fun p hp=>(hm b hb).pin p (by simpa using hp)⟩) I.ok fun b hb=>(hm b hb).new
structure XcT (X:Cx) (H:Hp) (h:Heap) (e C:Addr):Prop where
 mine:Mine X H e
 ob:∃ oe vs T oT ts,h.get? e=some oe/\(oe.cls= .ref C/\oe.dict=none)/\oe.data= .fields vs/\vs[1]?=some (.ref T)/\T ≠ e/\Mine X H T/\h.get? T=some oT/\oT.data= .fields ts/\3 < ts.size
theorem XcT.c {h:Heap} (x:XcT X H h e C):Xc X H h e C:=by
 obtain ⟨oe,vs,T,oT,ts,h1,h2,h3,h4,h5,h6,h7,h8,h9⟩:=x.ob
 exact ⟨x.mine,oe,vs,h1,h2,h3,(Array.getElem?_eq_some_iff.mp h4).1,.inr ⟨T,oT,ts,h4,h5,h6,h7,h8,h9⟩⟩
structure Top0 (X:Cx):Prop where
 st:X.stack=X.env::X.outer
 fr:X.env.frame=some X.env.locals
 ex:X.ex=[]
theorem Mine.nofr {b:Addr} (m:Mine X H b) (I:Inv X [] σ H s):b ∉ frs X.stack:=fun z=>by
 rcases List.mem_cons.mp (I.stkSub b z) with q | q
 ·exact m.loc q
 ·obtain ⟨_,o,ho,_⟩:=I.ok.funs.mem q
  rw [m.new] at ho; cases ho
theorem ahz {P:Program}{w:World}{h:Heap}{b:Addr}{u:HO} (hok:HOk P w H h) (hH:H b=some u) (hb:h.get? b=none):False:=by
 have x:=hok b u hH
 have no:∀ {o:Obj},h.get? b=some o->False:=fun {o} q=>by rw [hb] at q; cases q
 cases u with
 | lst xs=>obtain ⟨_,_,_,_,e⟩:=x; exact no e
 | tup xs=>obtain ⟨_,_,_,⟨_,e,_⟩⟩:=x; exact no e
 | dK kvs=>obtain ⟨_,_,_,_,o,_,_,e,_⟩:=x; exact no e
 | dT kvs=>obtain ⟨_,_,_,_,o,_,_,e,_⟩:=x; exact no e
 | set S n=>obtain ⟨o,_,_,_,e,_⟩:=x; exact no e
 | ins C dx fs=>obtain ⟨_,_,_,e,_⟩:=x; exact no e
 | own y=>obtain ⟨_,e⟩:=x; exact no e
 | xd fs=>obtain ⟨_,⟨_,_,_,e,_⟩,_⟩:=x; exact no e
 | rng lo hi=>obtain ⟨_,_,_,e⟩:=x; exact no e
 | frz ob u=>obtain ⟨e,_⟩:=x; exact no e
 | tbl ps=>exact no (show h.get? b=some _ from x)
 | met f y=>exact no (show h.get? b=some _ from x)
 | ext φ=>obtain ⟨_,⟨_,e⟩,_⟩:=x; exact no e
theorem Qw (hx:X.ex=[]) (I:Inv X [] σ H s) {b:Addr} (hb:s.heap.get? b=none):Mine X H b:=by
 have no:∀ {o:Obj},s.heap.get? b=some o->False:=fun {o} q=>by rw [hb] at q; cases q
 refine ⟨?_,?_,fun z=>?_,fun x c q z=>?_,fun p hp z=>?_⟩
 ·cases hH:H b with
  | none=>rfl
  | some u=>exact (ahz I.hok hH hb).elim
 ·cases h0:X.s₀.heap.get? b with
  | none=>rfl
  | some o=>
   obtain ⟨o',q⟩:=I.base.there b o h0 (by rw [hx]; simp)
   exact (no q).elim
 ·subst z
  obtain ⟨m,⟨o,_,_,ho,_⟩,_⟩:=I.loc
  exact no ho
 ·obtain ⟨v,o,ho,_⟩:=I.cell x c q
  subst z
  exact no ho
 ·have:=(I.pin p (List.mem_append_left _ hp)).1
  rw [z] at this
  exact no this
theorem ab6 {oe:Obj}{vs:Array Value}{head:Value}{hadNext:Bool} (T0:Top0 X) (hA:A.frames=some X.stack) (I:Inv X [] σ H s) (me:Mine X H e) (he:s.heap.get? e=some oe) (hc:oe.cls= .ref C/\oe.dict=none) (hd:oe.data= .fields vs) (hsz:1 < vs.size):
  wpAny (model X.prog X.w) A (do let a ←frameOf X.env; let pl ←entryPlaceOf X.env.locals hadNext; let b ←EntryCells.newEntry head a .none (rawInt X.env.locals) .none pl; setField (.ref e) 1 b) (fun _ s'=>Inv X [] σ H s'/\XcT X H s'.heap e C) E s:=by
 have hst:=T0.st
 have hfn:=I.stack
 rw [hst] at hfn hA
 have hene:e ∉ (X.env::X.outer).filterMap (·.frame):=by
  have:=me.nofr I
  rw [hst] at this; exact this
 refine wpAny_bind (wpAny_frameOf_fun hA hfn T0.fr fun h₁ hs₁=>?_)
 refine wpAny_bind (wpAny_entryPlaceOf fun pl hpl=>?_)
 unfold EntryCells.newEntry newFields
 refine wpAny_bind (wpAny_newObj_type ?_ (hpl.sizeOk5 _ _ _ _ _))
 have he₁:h₁.get? e=some oe:=(hs₁.2.1 e hene).trans he
 generalize hob:({ cls:= .type "traceback",dict:=none,data:= .fields ([head,Value.ref X.env.locals,.none,rawInt X.env.locals,.none]++(if pl.isEmpty then List.replicate 6 Value.none else pl)).toArray }:Obj)=ob
 have obd:ob.data= .fields ([head,Value.ref X.env.locals,.none,rawInt X.env.locals,.none]++(if pl.isEmpty then List.replicate 6 Value.none else pl)).toArray:=by rw [←hob]
 have obf:ob.isFreed=false:=by rw [←hob]; rfl
 have he₂:(h₁.push ob).get? e=some oe:=Heap.get?_push_of_some ob he₁
 refine wpAny_setField he₂ hd hsz ?_
 have hTe:h₁.objs.size ≠ e:=Nat.ne_of_gt (Heap.lt_size he₁)
 have hd₃:=Obj.data_mapFields hd (·.setIfInBounds 1 (Value.ref h₁.objs.size))
 have he₃:=Heap.get?_update_self (Obj.mapFields (·.setIfInBounds 1 (Value.ref h₁.objs.size))) he₂ (Obj.isFreed_of_fields hd₃)
 have hT₃:((h₁.push ob).update e (Obj.mapFields (·.setIfInBounds 1 (Value.ref h₁.objs.size)))).get? h₁.objs.size=some ob:=(Heap.get?_update_other _ _ (Ne.symm hTe)).trans (Heap.get?_push_size h₁ obf)
 have keep:∀ b o,b ≠ e->h₁.get? b=some o->((h₁.push ob).update e (Obj.mapFields (·.setIfInBounds 1 (Value.ref h₁.objs.size)))).get? b=some o:=fun b o hb q=>by
  rw [Heap.get?_update_other _ _ (Ne.symm hb)]
  exact Heap.get?_push_of_some _ q
 have hfr:frs X.stack=(X.env::X.outer).filterMap (·.frame):=by rw [hst]; rfl
 have sz:h₁.objs.size=s.heap.objs.size:=hs₁.1
 have J:Inv X [] σ H { s with heap:=(h₁.push ob).update e (Obj.mapFields (·.setIfInBounds 1 (Value.ref h₁.objs.size))) }:=by
  refine Inv.shake (s:=s) (ch:=[e]) I (fun b hb=>by rw [List.mem_singleton.mp hb]; exact me) (fun b o nf nc q=>keep b o (fun z=>nc (by simp [z])) ((hs₁.2.1 b (by rw [←hfr]; exact nf)).trans q)) (fun b o _ nc q=>?_)
  obtain ⟨sl,z⟩:=hs₁.2.2 b o q
  exact ⟨sl,keep b _ (fun w=>nc (by simp [w])) z⟩
 refine ⟨J,me,_,_,h₁.objs.size,ob,_,he₃,?_,hd₃,by simp [hsz],hTe,?_,hT₃,obd,?_⟩
 ·rw [Obj.cls_mapFields]; exact ⟨hc.1,by unfold Obj.mapFields; split <;> exact hc.2⟩
 ·exact Qw T0.ex I (Heap.get?_none_of_le (by rw [sz]; exact Nat.le_refl _))
 ·simp only [List.size_toArray,List.length_append,List.length_cons,List.length_nil]; omega
theorem abp (T0:Top0 X) (hA:A.frames=some X.stack) (I:Inv X [] σ H s) (x:Xc X H s.heap e C):wpAny (model X.prog X.w) A (noteFrame (.ref e) X.env) (fun _ s'=>Inv X [] σ H s'/\XcT X H s'.heap e C) E s:=by
 obtain ⟨oe,vs,he,hc,hd,hsz,hT⟩:=x.ob
 unfold noteFrame
 simp only [T0.fr]
 rcases hT with h1 | ⟨T,oT,ts,h1,hTe,mT,hT,hdT,h3⟩
 ·refine wpAny_bind (wpAny_field he hd h1 ?_)
  rw [if_neg (by decide)]
  exact ab6 T0 hA I x.mine he hc hd hsz
 ·refine wpAny_bind (wpAny_field he hd h1 ?_)
  rw [if_pos (show (Value.ref T != Value.none)=true from by simp)]
  refine wpAny_bind (wpAny_field hT hdT (x:=ts[3]) (by simp [h3]) ?_)
  by_cases hq:(ts[3] == rawInt X.env.locals)=true
  ·rw [if_pos hq]
   exact wpAny_pure ⟨I,x.mine,oe,vs,T,oT,ts,he,hc,hd,h1,hTe,mT,hT,hdT,h3⟩
  ·rw [if_neg hq]
   refine wpAny_bind (wpAny_setField hT hdT h3 ?_)
   have other:∀ b,b ≠ T->(s.heap.update T (Obj.mapFields (·.setIfInBounds 3 Value.none))).get? b=s.heap.get? b:=fun b hb=>Heap.get?_update_other _ _ (Ne.symm hb)
   have J:Inv X [] σ H { s with heap:=s.heap.update T (Obj.mapFields (·.setIfInBounds 3 Value.none)) }:=
    Inv.shake (s:=s) (ch:=[T]) I (fun b hb=>by rw [List.mem_singleton.mp hb]; exact mT) (fun b o _ nc q=>(other b fun z=>nc (by simp [z])).trans q) fun b o _ nc q=>⟨o.slots,(other b fun z=>nc (by simp [z])).trans q⟩
   exact ab6 (s:={ s with heap:=s.heap.update T (Obj.mapFields (·.setIfInBounds 3 Value.none)) }) T0 hA J x.mine ((other e (Ne.symm hTe)).trans he) hc hd hsz
theorem zL (fl:Option Addr) (I:Inv X [] σ H s) (x:XcT X H s.heap e C):wpAny (model X.prog X.w) A (setFlight (.ref e) fl) (fun _ s'=>Inv X [] σ H s'/\XcT X H s'.heap e C) E s:=by
 obtain ⟨oe,vs,T,oT,ts,he,hc,hd,h1,hTe,mT,hT,hdT,h3⟩:=x.ob
 unfold setFlight
 refine wpAny_bind (wpAny_field he hd h1 ?_)
 rw [if_pos (show (Value.ref T != Value.none)=true from by simp)]
 refine wpAny_setField hT hdT h3 ?_
 have other:∀ b,b ≠ T->(s.heap.update T (Obj.mapFields (·.setIfInBounds 3 (fl.elim Value.none fun f=>rawInt f)))).get? b=s.heap.get? b:=fun b hb=>Heap.get?_update_other _ _ (Ne.symm hb)
 have J:Inv X [] σ H { s with heap:=s.heap.update T (Obj.mapFields (·.setIfInBounds 3 (fl.elim Value.none fun f=>rawInt f))) }:=
  Inv.shake (s:=s) (ch:=[T]) I (fun b hb=>by rw [List.mem_singleton.mp hb]; exact mT) (fun b o _ nc q=>(other b fun z=>nc (by simp [z])).trans q) fun b o _ nc q=>⟨o.slots,(other b fun z=>nc (by simp [z])).trans q⟩
 exact ⟨J,x.mine,oe,vs,T,_,_,(other e (Ne.symm hTe)).trans he,hc,hd,h1,hTe,mT,Heap.get?_update_self _ hT (Obj.isFreed_of_fields (Obj.data_mapFields hdT _)),Obj.data_mapFields hdT _,by simpa using h3⟩
theorem alb {P:Value->Shared->Prop} (T0:Top0 X) (hA:A.frames=some X.stack) (hP:∀ e s,P e s->∃ a C σ H,e= .ref a/\Inv X [] σ H s/\Xc X H s.heap a C/\∀ s',Inv X [] σ H s'->XcT X H s'.heap a C->P e s'):PassesOwn (model X.prog X.w) A X.env P:=fun ev s' h=>by
 obtain ⟨a,C,σ,H,rfl,I,x,back⟩:=hP ev s' h
 refine wpAny_mono (abp (E:=fun _ _=>False) T0 hA I x) (fun _ s2 ⟨I2,x2⟩=>?_) fun _ _ z=>z.elim
 obtain ⟨oe,vs,T,oT,ts,he,hc,hd,h1,r⟩:=id x2.ob
 unfold cameBackBy
 refine wpAny_bind (wpAny_field he hd h1 ?_)
 rw [if_neg (by simp)]
 first
  | exact wpAny_mono (zL (E:=fun _ _=>False) _ I2 x2) (fun _ s3 ⟨I3,x3⟩=>back s3 I3 x3) fun _ _ z=>z.elim
  | exact wpAny_bind (wpAny_pure (wpAny_mono (zL (E:=fun _ _=>False) _ I2 x2) (fun _ s3 ⟨I3,x3⟩=>back s3 I3 x3) fun _ _ z=>z.elim))
end
structure XcO (h0:Heap) (H:Hp) (h:Heap) (e C:Addr):Prop where
 un:H e=none
 new:h0.get? e=none
 ob:∃ oe vs T oT ts,h.get? e=some oe/\(oe.cls= .ref C/\oe.dict=none)/\oe.data= .fields vs/\vs[1]?=some (.ref T)/\T ≠ e/\H T=none/\h0.get? T=none/\h.get? T=some oT/\oT.data= .fields ts/\3 < ts.size
noncomputable def CXt (P:Program) (w:World):CXT:=fun outer H s E ev s'=>∃ e C H',ev= .ref e/\s'.os=s.os/\AllBare s'.gens/\Un (frs outer) [] H H' s.heap s'.heap/\HOk P w H' s'.heap/\XcO s.heap H' s'.heap e C/\E (.ref C) none H'
section
variable {X:Cx}
theorem Xc.of (hx:X.ex=[]) {pins:List (Addr × Obj)}{σ:St}{H H':Hp}{s s':Shared}{e0 C:Addr} (I:Inv X pins σ H s) (x:XcO s.heap H' s'.heap e0 C):Xc X H' s'.heap e0 C:=by
 have J:Inv X [] σ H s:=I.pins_of fun p hp=>nomatch hp
 obtain ⟨oe,ws,T,oT,ts,h1,h2,h3,h4,h5,h6,h7,h8,h9,h10⟩:=x.ob
 have m1:=Qw hx J x.new
 have m2:=Qw hx J h7
 exact ⟨⟨x.un,m1.new,m1.loc,m1.cel,m1.pin⟩,oe,ws,h1,h2,h3,(Array.getElem?_eq_some_iff.mp h4).1,.inr ⟨T,oT,ts,h4,h5,⟨h6,m2.new,m2.loc,m2.cel,m2.pin⟩,h8,h9,h10⟩⟩
end
noncomputable def Thr (X:Cx) (H:Hp) (c:Str) (ev:Value) (s':Shared):Prop:=∃ e C σ' H',ev= .ref e/\X.mg c=some (.ref C)/\Inv X [] σ' H' s'/\ji H H'/\Xc X H' s'.heap e C
theorem Thr.mono {X:Cx}{H H1:Hp}{c:Str}{ev:Value}{s':Shared} (s:ji H H1) (h:Thr X H1 c ev s'):Thr X H c ev s':=by
 obtain ⟨e,C,σ',H',h1,h2,h3,h4,h5⟩:=h
 exact ⟨e,C,σ',H',h1,h2,h3,s.trans h4,h5⟩
@[irreducible] noncomputable def PDX (X:Cx) (e:Expr) (fx:Rho->Option Str):Prop:=∀ (s:Shared) (σ:St) (H:Hp) (ρ:Rho) (c:Str),Inv X [] σ H s->EnvR X.K H ρ σ->fx ρ=some c->(∀ ev s',Thr X H c ev s'->X.xe ev s')->wpAny (model X.prog X.w) X.A (eval e X.env) (fun _ _=>False) X.xe s
@[irreducible] noncomputable def PSX (X:Cx) (st:Stmt) (fx:Rho->Option Str):Prop:=∀ (s:Shared) (σ:St) (H:Hp) (ρ:Rho) (c:Str),Inv X [] σ H s->EnvR X.K H ρ σ->fx ρ=some c->(∀ ev s',Thr X H c ev s'->X.xe ev s')->wpAny (model X.prog X.w) X.A (exec st X.env) (fun _ _=>False) X.xe s
@[irreducible] noncomputable def Zy (X:Cx) (sts:List Stmt) (fx:Rho->Option Str):Prop:=∀ (s:Shared) (σ:St) (H:Hp) (ρ:Rho) (c:Str),Inv X [] σ H s->EnvR X.K H ρ σ->fx ρ=some c->(∀ ev s',Thr X H c ev s'->X.xe ev s')->wpAny (model X.prog X.w) X.A (execs sts X.env) (fun _ _=>False) X.xe s
noncomputable def vB:List Value:=[.type "ValueError",.type "Exception",.type "BaseException",.type "object"]
noncomputable def ahA (K:PySem.W.Frag) (mg:Str->Option Value) (x:Str):Prop:=∃ C,mg x=some (.ref C)/\PySem.W.excIn K C vB "ValueError.__new__"=true
theorem ahB {K:PySem.W.Frag}{h:Heap}{C:Addr} (X:K.In h) (q:PySem.W.excIn K C vB "ValueError.__new__"=true):
  ∃ bm N nm qn bs hdct sn sub ab col dd k0 k1 k2 k3 k5 mN,h.get? C=some (excClassObj nm qn C N bs bm hdct sn sub ab col dd k0 k1 k2 k3 k5 "ValueError.__new__")/\h.Ns N mN/\mN "__init__"=none/\OwnTail h vB bm:=by
 unfold PySem.W.excIn at q
 split at q
 ·rename_i dd cd sl ho
  split at q
  ·rename_i C' bm k0 k1 k2 k3 n k5 hm hs
   simp only [Bool.and_eq_true,beq_iff_eq,Bool.not_eq_true'] at q
   obtain ⟨⟨⟨⟨⟨rfl,rfl⟩,hdel⟩,ht⟩,hok⟩,hni⟩:=q
   obtain ⟨nm,bs,mro,ns,qn,hd,sn,sub,ab,col,del⟩:=cd
   dsimp only at hm hdel hok hni
   subst hm hdel
   have hsl:sl=#[k0,k1,k2,k3,some (.builtin "ValueError.__new__"),k5]:=by
    obtain ⟨l⟩:=sl
    simp only at hs
    rw [hs]
   subst hsl
   exact ⟨bm,ns,nm,qn,bs,hd,sn,sub,ab,col,dd,k0,k1,k2,k3,k5,_,X _ _ ho,.of_isNs (PySem.W.isNs_of_in X hok),PySem.W.nsMap_none_of_in X hok hni,PySem.W.tail_of_in X ht⟩
  ·cases q
 ·cases q
section
variable {X:Cx}{e a b c:Expr}{es:List Expr}{st:Stmt}{sts jO:List Stmt}{fx gx:Rho->Option Str}{F:Rho->Option Out}{pos:Pos}
theorem qS (h:PSX X st fx):Zy X (st::jO) fx:=by
 with_unfolding_all
  intro s σ H ρ c I en q k
  exact wpAny_execs_cons (wpAny_mono (h s σ H ρ c I en q k) (fun _ _ z=>z.elim) fun _ _ z=>z)
noncomputable def nxX (F:Rho->Option Out) (gx:Rho->Option Str):Rho->Option Str:=fun ρ=>(F ρ).bind fun o=>match o with
 | .nx ρ'=>gx ρ'
 | _=>none
theorem aeu (h1:PSD X st F) (h2:Zy X jO gx):Zy X (st::jO) (nxX F gx):=by
 with_unfolding_all
  intro s σ H ρ c I en q k
  cases hF:F ρ with
  | none=>simp [nxX,hF] at q
  | some o=>
   cases o with
   | nx ρ'=>
    have q':gx ρ'=some c:=by simpa [nxX,hF] using q
    refine wpAny_execs_cons (wpAny_mono (h1 [] s σ H { nx:=fun σ' H'=>ji H H'/\EnvR X.K H' ρ' σ',rt:=fun _ _=>False,bk:=fun _ _=>False,ct:=fun _ _=>False } I ⟨ρ,.nx ρ',en,hF,fun σ' H' s1 e1=>⟨s1,e1⟩⟩) (fun f s1 z=>?_) fun _ _ z=>z)
    cases f with
    | next=>
     obtain ⟨σ',H',I',sm,e1⟩:=z
     exact wpAny_mono (h2 s1 σ' H' ρ' c I' e1 q' fun ev s' t=>k ev s' (t.mono sm)) (fun _ _ z=>z.elim) fun _ _ z=>z
    | brk=>obtain ⟨_,_,_,z⟩:=z; exact z.elim
    | cont=>obtain ⟨_,_,_,z⟩:=z; exact z.elim
    | ret u=>obtain ⟨_,_,_,_,_,z⟩:=z; exact z.elim
   | _=>simp [nxX,hF] at q
noncomputable def ifX (tc:Rho->Option Bool) (fx gx:Rho->Option Str):Rho->Option Str:=fun ρ=>(tc ρ).bind fun x=>if x=true then fx ρ else gx ρ
noncomputable def ac9:Rho->Option Str:=fun _=>none
theorem aab:Zy X sts ac9:=by
 with_unfolding_all
  intro s σ H ρ c I en q k
  cases q
theorem afT {l r:List Stmt}{tc:Rho->Option Bool} (hc:PTD X a tc) (hl:Zy X l fx) (hr:Zy X r gx):PSX X (.If a l r pos) (ifX tc fx gx):=by
 with_unfolding_all
  intro s σ H ρ c I en q k
  cases ht:tc ρ with
  | none=>simp [ifX,ht] at q
  | some x=>
   refine wpAny_If (wpAny_mono (hc [] s σ H (fun b H'=>b=x/\ji H H') I ⟨ρ,x,en,ht,fun H' s1=>⟨rfl,s1⟩⟩) (fun d s1 z=>?_) fun _ _ z=>z)
   obtain ⟨H1,I1,rfl,s1'⟩:=z
   cases d with
   | true=>exact hl s1 σ H1 ρ c I1 (en.mono s1') (by simpa [ifX,ht] using q) fun ev s' t=>k ev s' (t.mono s1')
   | false=>exact hr s1 σ H1 ρ c I1 (en.mono s1') (by simpa [ifX,ht] using q) fun ev s' t=>k ev s' (t.mono s1')
theorem ahC (h:PDX X e fx):PSX X (.Return (some e) pos) fx:=by
 with_unfolding_all
  intro s σ H ρ c I en q k
  exact wpAny_Return_some (wpAny_mono (h s σ H ρ c I en q k) (fun _ _ z=>z.elim) fun _ _ z=>z)
theorem ab7 (h:PDX X e fx) (hs:swapsWith e none pos.line X.env=pure false:=by rfl):PSX X (.Expr e pos) fx:=by
 with_unfolding_all
  intro s σ H ρ c I en q k
  exact wpAny_Expr_any (wpAny_mono (h s σ H ρ c I en q k) (fun _ _ z=>z.elim) fun _ _ z=>z) I.quiet hs
end
noncomputable def afU (K:PySem.W.Frag) (mg:Str->Option Value) (n:Nat) (gx:List PyData->Option Str):Sp:=fun vs H _ E=>∃ ds c,ds.length=n/\Reps K H ds vs/\gx ds=some c/\∀ C H',mg c=some (.ref C)->ji H H'->E (.ref C) none H'
noncomputable def abq (P:Program) (w:World) (K:PySem.W.Frag) (mg:Str->Option Value) (base:Heap) (x:Str) (ps:List Str) (k n:Nat) (gx:List PyData->Option Str):Prop:=
 ∃ (f:Addr) (fd:FuncData),FnOk P w K mg base (CXt P w) k f fd ps (afU K mg n gx)/\mg x=some (.ref f)/\PySem.W.keepIn K (.ref f)=true/\Jg K fd ps []
section
variable {X:Cx}{e a b c:Expr}{es:List Expr}{st:Stmt}{sts jO:List Stmt}{fx gx:Rho->Option Str}{F:Rho->Option Out}{pos:Pos}
theorem Qx {k j n:Nat}{ps:List Str}{g:List PyData->Option Str}{x:Str}{p:Pos}{fr:Rho->Option (List PyData)} (hxe:X.ex=[]) (C:abq X.prog X.w X.K X.mg X.base x ps k n g) (hr:Room j X.A) (hkj:k<=j) (ha:PAD X (e::es) fr) (hl:∀ ρ ds,fr ρ=some ds->ds.length=n)
  (hg:Gl X x:=by rfl) (hdb:(x == ("__debug__":Str))=false:=by decide) (he:starEach (e::es) X.env=(false,eval e X.env)::starEach es X.env:=by rfl)
  (hpl:(backTo pos (starEach es X.env)).any (·.1)=false:=by rfl):PDX X (.Call (.Name x p) (e::es) [] pos) (fun ρ=>(fr ρ).bind g):=by
 with_unfolding_all
  intro s σ H ρ c I en q k'
  obtain ⟨f,fd,F,hm,hk,hb⟩:=C
  cases hd:fr ρ with
  | none=>simp [hd] at q
  | some ds=>
   have q':g ds=some c:=by simpa [hd] using q
   refine wpAny_Call_Name_kw (Qd I hg hm ?_ hdb)
   refine PySem.W.callWith_K (h₀:=X.base) I.ok.mod.kin hk (thn (ha pos [] s σ H (fun vs H1=>ji H H1/\Reps X.K H1 ds vs) I ⟨ρ,ds,en,hd,fun vs H1 s1 r1=>⟨s1,r1⟩⟩) fun us s1 ⟨vs,H1,I1,r,sm,rd⟩=>⟨I1.kIn,?_⟩) he hpl
   have hsp:afU X.K X.mg n g vs H1 (fun _ _=>False) (fun cls _ H'=>X.mg c=some cls/\ji H1 H')->vs.length=ps.length:=fun z=>F.len _ _ _ _ z
   by_cases hn:ds.length=n
   ·have sp:afU X.K X.mg n g vs H1 (fun _ _=>False) (fun cls _ H'=>X.mg c=some cls/\ji H1 H'):=⟨ds,c,hn,rd,q',fun C H' hC s2=>⟨hC,s2⟩⟩
    have hlu:(us++[]).length=ps.length:=by rw [List.append_nil,←r.length]; exact hsp sp
    have hbd:=hb s1 us I1.kIn hlu
    rw [List.append_nil] at hbd
    refine wpAny_call (codeAny_mono (F.run X.A X.stack s1 H1 ⟨us,[]⟩ us vs _ _ (hr.mono hkj) I1.env0 hbd r sp) fun rs s' hq=>?_)
    cases rs with
    | error ev=>
     obtain ⟨e0,C,H',rfl,os,bare,un,hok,xc,hC,sm2⟩:=hq
     have J':Inv X [] σ H' s':=I1.call' (ch:=[]) os un hok bare fun b z=>nomatch z
     exact k' _ _ ⟨e0,C,σ,H',rfl,hC,J',sm.trans sm2,Xc.of hxe I1 xc⟩
    | ok fl=>
     cases fl with
     | ret u=>obtain ⟨v,H',_,_,_,_,_,z⟩:=hq; exact z.elim
     | next=>exact False.elim hq
     | brk=>exact False.elim hq
     | cont=>exact False.elim hq
   ·exact absurd (hl ρ ds hd) hn
theorem aaP {x m:Str}{k0:_}{np p3 cpos:Pos} (hxe:X.ex=[]) (hE:ahA X.K X.mg x) (hc:X.calm=true) (hg:Gl X x:=by rfl) (hdb:(x == ("__debug__":Str))=false:=by decide)
  (he:starEach [.Constant (.str m) k0 p3] X.env=[(false,eval (.Constant (.str m) k0 p3) X.env)]:=by rfl):PSX X (.Raise (some (.Call (.Name x np) [.Constant (.str m) k0 p3] [] cpos)) none pos) (fun _=>some x):=by
 with_unfolding_all
  intro s σ H ρ c I en q k
  cases q
  obtain ⟨C,hm,hex⟩:=hE
  obtain ⟨bm,N,nm,qn,bs,hdct,sn,sub,ab,col,dd,k0',k1,k2,k3,k5,mN,hC,hN,hni,TL⟩:=ahB (h:=X.base) I.ok.mod.kin hex
  have hpl:(backTo cpos (starEach [.Constant (.str m) k0 p3] X.env)).any (·.1)=false:=by rw [he]; rfl
  refine wpAny_Raise_call_subT (C:=C) (nm:=nm) (q:=qn) (N:=N) (bs:=bs) (bm:=bm) (hdct:=hdct) (sn:=sn) (sub:=sub) (ab:=ab) (col:=col) (dd:=dd) (k0:=k0') (k1:=k1) (k2:=k2) (k3:=k3) (k5:=k5) PySem.F.excBase_ValueError (mN:=mN) (TL.hasType rfl) (I.ok.hd hc) hpl hni ?_
  refine wpAny_mono (ZB (pos:=np) hg hm (show jy (.ref C) (.ref C) from rfl) hdb [] s σ H (fun v H'=>v= .ref C/\H'=H) I ⟨rfl,rfl⟩) (fun v s1 ⟨y,H1,I1,r1,e1,e2⟩=>?_) fun _ _ z=>z
  subst e1; subst e2
  obtain rfl:v=Value.ref C:=r1
  refine ⟨rfl,?_⟩
  have pa:PA X [.Constant (.str m) k0 p3] _:=j4 (X:=X) aeX qQ he
  have hsp:=pa cpos [] s1 σ H1 (fun vs H'=>vs.length=1/\H'=H1) I1 ⟨rfl,rfl⟩
  rw [he] at hsp ⊢
  refine Calls.evalArgs_plain (wpAny_mono hsp (fun us s2 ⟨vs,H2,I2,r2,l2,e2⟩=>?_) fun _ _ z=>z)
  subst e2
  have kp:∀ b o,X.base.get? b=some o->s2.heap.get? b=some o:=fun b o e=>(I2.bs b o e).1
  refine ⟨rfl,?_,kp _ _ hC,hN.keeps kp,TL.keeps kp,fun h' e0 md=>?_⟩
  ·show us.length<=sizeLine
   rw [←r2.length,l2,sizeLine_eq]; decide
  ·obtain ⟨t,h1,h2,h3⟩:=md.there
   have I3:Inv X [] σ H2 { s2 with heap:=h' }:=I2.kept (t':=s2.toks) md.keeps
   have m0:=Qw hxe I2 md.new
   exact k _ _ ⟨e0,C,σ,H2,rfl,hm,I3,ji.refl _,m0,_,_,h1,⟨rfl,rfl⟩,rfl,by simp,.inl rfl⟩
end
theorem afV {CX:CXT}{P:Program}{w:World}{K:PySem.W.Frag}{mg:Str->Option Value}{base:Heap}{k:Nat}{f:Addr}{name qual:Str}{params:Arguments}{body:List Stmt}{scope:Scope}{dV kV doc pm cdv ct oc:Value}{an od:Option Addr}
  {osl:Array (Option Value)} {N ps:List Str} {sp:Sp} (lk:K.lookup f=some ⟨oc,od,.func (PySem.W.fnOf name qual params body scope dV kV doc pm an cdv ct),osl⟩) (hcd:PySem.W.codeIn K cdv qual=true) (S:FnScope N ps scope)
  (len:∀ vs H Q E,sp vs H Q E->vs.length=ps.length)
  (hbody:∀ (A:Around) (outer:List Env) (s:Shared) (H:Hp) (vs:List V) (Q:VK) (E:XK) (s1:Shared),Room k (A.deeper (envOfC qual scope s.heap.objs.size f cdv))->sp vs H Q E->
   Inv (zp CX P w K mg base N qual scope f cdv A outer s H E) [] (L2.qN N vs) H s1->
   wpAny (model P w) (A.deeper (envOfC qual scope s.heap.objs.size f cdv)) (execs body (envOfC qual scope s.heap.objs.size f cdv)) (SP (zp CX P w K mg base N qual scope f cdv A outer s H E) [] { nx:=fun _ H'=>Q .non H',rt:=Q }) (zp CX P w K mg base N qual scope f cdv A outer s H E).xe s1):
  FnOk P w K mg base CX (k+1) f (PySem.W.fnOf name qual params body scope dV kV doc pm an cdv ct) ps sp:=by
 refine ⟨len,fun A outer s H args us vs Q E hr e0 hb r hsp=>?_⟩
 have hl:=len _ _ _ _ hsp
 have KX:K.In s.heap:=e0.mod.kin.keeps fun b o e=>(e0.bs b o e).1
 have lim:s.heap.NoLimit:=e0.mod.nolimit.keeps fun b o e=>(e0.bs b o e).1
 have hkind:∀ y ∈ ps.zip us,scope.names.lookup y.1=some .local ∨ (scope.names.lookup y.1=some .cell/\((cellsFrom (s.heap.objs.size+1) scope.names []).lookup y.1).isSome=true):=fun ⟨n,v⟩ hy=>by
  rcases S.par n (List.of_mem_zip hy).1 with q | q
  ·exact .inl q
  ·exact .inr ⟨q,PySem.W.cellsFrom_some _ _ _ (.inl q)⟩
 refine codeAny_call_function hr.depth (KX _ _ lk) rfl S.co S.gen rfl (PySem.W.codeRec_of KX hcd) (hb _ _ _ _ ?_)
 refine wpAny_newFunctionEnv_cells S.kind hkind fun env he s1 x=>?_
 subst he
 refine ⟨lim.keeps x.toInCall.keep,codeAny_func ?_⟩
 have I:Inv (zp CX P w K mg base N qual scope f cdv A outer s H E) [] (L2.qN N vs) H s1:=QT S hr.hd e0 hl r x
 refine wpAny_mono (hbody A outer s H vs Q E s1 (hr.deeper _) hsp I) (fun fl s' hs=>?_) fun e s' hs=>hs
 have fin:∀ {σ':St} {H':Hp} {v:V} {u:Value},Inv (zp CX P w K mg base N qual scope f cdv A outer s H E) [] σ' H' s'->jy v u->Q v H'->CE outer P w H s Q u s':=
  fun {σ' H' v u} J rv q=>⟨v,H',J.os,J.bare,J.base,J.hok,rv,q⟩
 cases fl with
 | ret u=>
  obtain ⟨v,σ',H',J,rv,q⟩:=hs
  exact fin J rv q
 | next=>
  obtain ⟨σ',H',J,q⟩:=hs
  exact fin (v:=V.non) (u:=Value.none) J rfl q
 | brk=>
  obtain ⟨_,_,_,q⟩:=hs
  exact False.elim q
 | cont=>
  obtain ⟨_,_,_,q⟩:=hs
  exact False.elim q
theorem afW {CX:CXT}{P:Program}{w:World}{K:PySem.W.Frag}{mg:Str->Option Value}{base:Heap}{N:List Str}{qual:Str}{scope:Scope}{f:Addr}{cd:Value}{A:Around}{outer:List Env}{s:Shared}{H:Hp}{E:XK}:Top0 (zp CX P w K mg base N qual scope f cd A outer s H E):=⟨rfl,rfl,rfl⟩
section
variable {P:Program}{w:World}{K:PySem.W.Frag}{mg:Str->Option Value}{base:Heap}
noncomputable def Zq (N:List Str) (n:Nat) (Fx:Rho->Option Str) (ds:List PyData):Option Str:=if ds.length=n then Fx (jE N ds) else none
theorem ada {x qual:Str}{st:Stmt}{f:Addr}{fd:FuncData}{N ps:List Str}{k:Nat}{Fx:Rho->Option Str} (F:Fun K x qual st f fd) (S:FnScope N ps (jf st))
  (body:∀ (cdv:Value) (A:Around) (outer:List Env) (s:Shared) (H:Hp) (E:XK),Room k (A.deeper (envOfC qual (jf st) s.heap.objs.size f cdv))->Zy (zp (CXt P w) P w K mg base N qual (jf st) f cdv A outer s H E) (jK st) Fx):
  FnOk P w K mg base (CXt P w) (k+1) f fd ps (afU K mg ps.length (Zq N ps.length Fx)):=by
 with_unfolding_all
  obtain ⟨oc,od,kV,doc,pm,an,cdv,ct,osl,rfl,lk,hcd⟩:=F.ex
  refine afV lk hcd S (fun vs H Q E h=>?_) fun A outer s H vs Q E s1 hr h I=>?_
  ·obtain ⟨ds,c,h1,h2,_⟩:=h
   rw [h2.length]; exact h1
  ·obtain ⟨ds,c,h1,h2,h3,h4⟩:=h
   unfold Zq at h3
   rw [if_pos h1] at h3
   refine wpAny_mono (body cdv A outer s H E hr s1 (L2.qN N vs) H (jE N ds) c I (JC h2) h3 fun ev s' t=>?_) (fun _ _ z=>z.elim) fun _ _ z=>z
   obtain ⟨e,C,σ',H',rfl,hC,J,sm,xc⟩:=t
   have T0:Top0 (zp (CXt P w) P w K mg base N qual (jf st) f cdv A outer s H E):=afW
   show wpAny (model P w) (A.deeper (envOfC qual (jf st) s.heap.objs.size f cdv)) (leaving (envOfC qual (jf st) s.heap.objs.size f cdv) (.ref e)) (fun _ s''=>CXt P w outer H s E (.ref e) s'') (fun e' s''=>CXt P w outer H s E e' s'') s'
   have n1:=abp (E:=fun _ _=>False) (A:=A.deeper (envOfC qual (jf st) s.heap.objs.size f cdv)) T0 J.ok.frames J xc
   unfold leaving
   refine wpAny_bind (wpAny_mono n1 (fun _ s2 ⟨J2,t2⟩=>?_) fun _ _ z=>z.elim)
   have n2:=zL (E:=fun _ _=>False) (A:=A.deeper (envOfC qual (jf st) s.heap.objs.size f cdv)) none J2 t2
   refine wpAny_mono n2 (fun _ s3 ⟨J3,t3⟩=>?_) fun _ _ z=>z.elim
   obtain ⟨oe,ws,T,oT,ts,g1,g2,g3,g4,g5,g6,g7,g8,g9⟩:=t3.ob
   exact ⟨e,C,H',rfl,J3.os,J3.bare,J3.base,J3.hok,⟨t3.mine.un,t3.mine.new,oe,ws,T,oT,ts,g1,g2,g3,g4,g5,g6.un,g6.new,g7,g8,g9⟩,h4 C H' hC sm⟩
end
theorem Inv.asA {X:Cx}{pins:List (Addr × Obj)}{σ:St}{H:Hp}{s:Shared}{A:Around}{cm:Bool}{xe:Value->Shared->Prop} (I:Inv X pins σ H s) (hf:A.frames=some X.stack) (hd:cm=true->A.handled=none):Inv { X with A:=A,calm:=cm,xe:=xe } pins σ H s:=
 ⟨⟨I.ok.mod,I.ok.kind,I.ok.glob,I.ok.blt,I.ok.above,I.ok.inj,I.ok.has,I.ok.cab,hd,hf,I.ok.stk,I.ok.exf,I.ok.bs,I.ok.bsz,I.ok.noex,I.ok.exfs,I.ok.funs,I.ok.frf⟩,I.os,I.bare,I.base,I.loc,I.cell,I.free,I.freeC,I.pin,I.hok,I.len⟩
theorem Inv.ofA {X:Cx}{pins:List (Addr × Obj)}{σ:St}{H:Hp}{s:Shared}{A:Around}{cm:Bool}{xe:Value->Shared->Prop} (ok:X.Ok) (I:Inv { X with A:=A,calm:=cm,xe:=xe } pins σ H s):Inv X pins σ H s:=
 ⟨ok,I.os,I.bare,I.base,I.loc,I.cell,I.free,I.freeC,I.pin,I.hok,I.len⟩
theorem Mine.unwish {X:Cx}{E:Value->Shared->Prop}{H:Hp}{b:Addr} (m:Mine (X.wish E) H b):Mine X H b:=⟨m.un,m.new,m.loc,m.cel,m.pin⟩
theorem Xc.unwish {X:Cx}{E:Value->Shared->Prop}{H:Hp}{h:Heap}{e C:Addr} (x:Xc (X.wish E) H h e C):Xc X H h e C:=by
 obtain ⟨oe,vs,h1,h2,h3,h4,h5⟩:=x.ob
 refine ⟨x.mine.unwish,oe,vs,h1,h2,h3,h4,?_⟩
 rcases h5 with q | ⟨T,oT,ts,q1,q2,q3,q4⟩
 ·exact .inl q
 ·exact .inr ⟨T,oT,ts,q1,q2,q3.unwish,q4⟩
@[irreducible] noncomputable def PS0 (X:Cx) (st:Stmt) (F:Rho->Option Out):Prop:=∀ (s:Shared) (σ:St) (H:Hp) (D:Ends),Inv X [] σ H s->tDS X.K F D σ H->wpAny (model X.prog X.w) X.A (exec st X.env) (SP X [] D) X.xe s
@[irreducible] noncomputable def afX (X:Cx) (sts:List Stmt) (F:Rho->Option Out):Prop:=∀ (s:Shared) (σ:St) (H:Hp) (D:Ends),Inv X [] σ H s->tDS X.K F D σ H->wpAny (model X.prog X.w) X.A (execs sts X.env) (SP X [] D) X.xe s
section
variable {X:Cx}{st:Stmt}{sts jO tb hb:List Stmt}{F G:Rho->Option Out}{pos:Pos}
theorem ahD (h:Jh X sts F):afX X sts F:=by
 with_unfolding_all
  exact fun s σ H D I t=>h [] s σ H D I t
theorem aev (h1:PS0 X st F) (h2:afX X jO G):afX X (st::jO) (jR F G):=by
 with_unfolding_all
  intro s σ H D I ⟨ρ,o,en,q,k⟩
  cases hF:F ρ with
  | none=>simp [jR,hF] at q
  | some o1=>
   cases o1 with
   | nx ρ1=>
    have q':G ρ1=some o:=by simpa [jR,hF] using q
    refine wpAny_execs_cons (thn (h1 s σ H { D with nx:=fun σ' H'=>ji H H'/\EnvR X.K H' ρ1 σ' } I ⟨ρ,.nx ρ1,en,hF,fun σ' H' s1 e1=>⟨s1,e1⟩⟩) fun f s1 z=>?_)
    cases f with
    | next=>
     obtain ⟨σ',H',I',sm,e1⟩:=z
     exact h2 s1 σ' H' D I' ⟨ρ1,o,e1,q',k.mono sm⟩
    | brk=>exact z
    | cont=>exact z
    | ret u=>exact z
   | rt d=>
    have q':Out.rt d=o:=by simpa [jR,hF] using q
    subst q'
    refine wpAny_execs_cons (thn (h1 s σ H { D with nx:=fun _ _=>False } I ⟨ρ,.rt d,en,hF,k⟩) fun f s1 z=>?_)
    cases f with
    | next=>obtain ⟨_,_,_,z⟩:=z; exact z.elim
    | brk=>exact z
    | cont=>exact z
    | ret u=>exact z
   | bk ρ1=>
    have q':Out.bk ρ1=o:=by simpa [jR,hF] using q
    subst q'
    refine wpAny_execs_cons (thn (h1 s σ H { D with nx:=fun _ _=>False } I ⟨ρ,.bk ρ1,en,hF,k⟩) fun f s1 z=>?_)
    cases f with
    | next=>obtain ⟨_,_,_,z⟩:=z; exact z.elim
    | brk=>exact z
    | cont=>exact z
    | ret u=>exact z
   | ct ρ1=>
    have q':Out.ct ρ1=o:=by simpa [jR,hF] using q
    subst q'
    refine wpAny_execs_cons (thn (h1 s σ H { D with nx:=fun _ _=>False } I ⟨ρ,.ct ρ1,en,hF,k⟩) fun f s1 z=>?_)
    cases f with
    | next=>obtain ⟨_,_,_,z⟩:=z; exact z.elim
    | brk=>exact z
    | cont=>exact z
    | ret u=>exact z
end
section
variable {X:Cx}{st b0:Stmt}{sts jO tb hb:List Stmt}{F G:Rho->Option Out}{fx:Rho->Option Str}{pos:Pos}
noncomputable def Zr (n:Nat):Rho:=List.replicate n none
noncomputable abbrev hX (X:Cx) (e:Addr):Cx:={ X with A:=X.A.mark (some (.ref e)),calm:=false,xe:=fun _ _=>False }
theorem SP.ofA {A:Around}{cm:Bool}{xe:Value->Shared->Prop}{D:Ends}{f:Flow}{s':Shared} (ok:X.Ok) (h:SP { X with A:=A,calm:=cm,xe:=xe } [] D f s'):SP X [] D f s':=by
 cases f with
 | next=>obtain ⟨σ',H',I,q⟩:=h; exact ⟨σ',H',Inv.ofA ok I,q⟩
 | brk=>obtain ⟨σ',H',I,q⟩:=h; exact ⟨σ',H',Inv.ofA ok I,q⟩
 | cont=>obtain ⟨σ',H',I,q⟩:=h; exact ⟨σ',H',Inv.ofA ok I,q⟩
 | ret u=>obtain ⟨v,σ',H',I,r,q⟩:=h; exact ⟨v,σ',H',Inv.ofA ok I,r,q⟩
end
section
variable {P:Program}{w:World}{K:PySem.W.Frag}{mg:Str->Option Value}{base:Heap}
theorem afY {x qual:Str}{st:Stmt}{f:Addr}{fd:FuncData}{N ps:List Str}{k:Nat}{B:Rho->Option Out} (F:Fun K x qual st f fd) (S:FnScope N ps (jf st))
  (body:∀ (cdv:Value) (A:Around) (outer:List Env) (s:Shared) (H:Hp) (E:XK),Room k (A.deeper (envOfC qual (jf st) s.heap.objs.size f cdv))->afX (zp CX0 P w K mg base N qual (jf st) f cdv A outer s H E) (jK st) B):
  FnOk P w K mg base CX0 (k+1) f fd ps (Pur K ps.length (jC N ps.length B)):=by
 with_unfolding_all
  obtain ⟨oc,od,kV,doc,pm,an,cdv,ct,osl,rfl,lk,hcd⟩:=F.ex
  refine afV lk hcd S (fun vs H Q E h=>?_) fun A outer s H vs Q E s1 hr h I=>?_
  ·obtain ⟨ds,d,h1,h2,_⟩:=h
   rw [h2.length]; exact h1
  ·obtain ⟨ds,d,h1,h2,h3,h4⟩:=h
   unfold jC at h3
   rw [if_pos h1] at h3
   cases hB:B (jE N ds) with
   | none=>rw [hB] at h3; cases h3
   | some o=>
    rw [hB] at h3
    refine body cdv A outer s H E hr s1 (L2.qN N vs) H _ I ⟨jE N ds,o,JC h2,hB,?_⟩
    cases o with
    | rt c=>cases h3; exact fun v H' sm r=>h4 v H' sm r
    | nx ρ=>cases h3; exact fun σ H' sm e=>h4 .non H' sm rfl
    | bk ρ=>cases h3
    | ct ρ=>cases h3
end
theorem Qy {t sl:Addr}{items:Array Value}{vl vu:Value}{lo hi:Option Int}{Q:Value->Shared->Prop} (ht:IsTup s.heap t items) (hs:s.heap.IsSliceOf sl vl vu .none) (pl:IsPart vl lo) (pu:IsPart vu hi)
  (hw:HT.sIx items.size 0 lo=0/\HT.sIx items.size items.size hi=items.size) (h:Q (.ref t) s):wpAny (model prog w) A (getItem (.ref t) (.ref sl)) Q E s:=by
 obtain ⟨os,hos,hcs,hds⟩:=id hs
 have hTs:s.TypeIs (.ref sl) "slice":=⟨os,hos,hcs⟩
 unfold getItem
 first | (with_reducible refine wpAny_holding ?_) | skip
 first | refine wpAny_bind (wpAny_pure ?_) | skip
 refine wpAny_bind (wpAny_sequenceKey ht.typeIs (by decide) ?_)
 refine wpAny_bind (wpAny_callSpecial?_slot (name:=Str.ofString "__getitem__") ht.typeIs PyProof.Rows.slot_tuple_getitem (wpAny_call_entry PyProof.Rows.slot_tuple_getitem ht.typeIs entry_tuple_getitem ?_ (args_tuple_getitem _ _)))
 show wpAny _ _ (Builtin.Tuple.tupleItemsOf (.ref t) >>= _) _ _ s
 refine wpAny_bind (tupleItemsOf_ ht (wpAny_bind (wpAny_typeOf hTs ?_)))
 rw [if_pos (show (Value.type "slice" == Value.type "slice")=true by decide)]
 refine wpAny_bind (HT.sliceApplied_gen hs pl pu ?_)
 rw [hw.1,hw.2]
 have hyes:((((0:Nat):Int) == 0 && (1:Int) == 1 && (items.size - 0) == items.size)=true):=by simp
 show wpAny _ _ (if ((((0:Nat):Int) == 0 && (1:Int) == 1 && (items.size - 0) == items.size)=true) then _ else _) _ _ s
 rw [if_pos hyes]
 obtain ⟨o,ho,hc,hd⟩:=id ht
 have hT:s.TypeIs (.ref t) "tuple":=⟨o,ho,hc⟩
 have ex:∀ {R:Bool->Shared->Prop} {A':Around} {E':Value->Shared->Prop},R true s->wpAny (model prog w) A' (Builtin.Tuple.tupleIsExact (.ref t)) R E' s:=fun {R A' E'} hR=>by
  unfold Builtin.Tuple.tupleIsExact
  first
   | exact wpAny_bind (wpAny_typeOf hT (wpAny_pure hR))
   | (wp_walk; exact hR)
 first
  | exact wpAny_bind (ex (wpAny_bind (wpAny_rule (wpAny_pure ⟨_,rfl,wpAny_pure h⟩))))
  | exact wpAny_bind (ex (by rw [if_pos rfl]; exact wpAny_bind (wpAny_rule (wpAny_pure ⟨_,rfl,wpAny_pure h⟩))))
  | (refine wpAny_bind (ex ?_); wp_walk; exact ⟨_,rfl,wpAny_pure h⟩)
  | (refine wpAny_bind (wpAny_bind (ex ?_)); wp_walk; exact ⟨_,rfl,wpAny_pure h⟩)
section
variable {X:Cx}{e a b c:Expr}{fa fb fc:Rho->Option PyData}{pos p2:Pos}
noncomputable def aku (K:PySem.W.Frag):V->Option Int->Option Int->Hp->VK->Prop:=fun x lo hi H Q=>∃ a xs,x= .ref a/\SqT K H a xs/\(HT.sIx xs.length 0 lo=0/\HT.sIx xs.length xs.length hi=xs.length)/\Q (.ref a) H
theorem ab8:SlR X (aku X.K):=by
 intro pins s σ H x v vl vu lo hi sl Q I rx hs pl pu h
 obtain ⟨a,xs,rfl,hx,hw,q⟩:=h
 cases rx
 obtain ⟨its,r,ht,hz⟩:=I.tuple hx
 have hlen:its.toArray.size=xs.length:=by rw [List.size_toArray]; exact r.length.symm
 exact ⟨"tuple",_,PyProof.Rows.slot_tuple_getitem.lookup,ht.typeIs,Qy ht hs pl pu (by rw [hlen]; exact hw) ⟨.ref a,H,I,rfl,q⟩⟩
noncomputable def aav (p:PyData) (lo hi:Option Int):Option PyData:=match p with
 | .tuple ds=>some (.tuple (ajg ds lo hi))
 | _=>none
theorem afZ {K:PySem.W.Frag}{p d:PyData}{lo hi:Option Int}{x:V}{H:Hp}{Q:VK} (h:aav p lo hi=some d) (r:Rep K H p x) (k:∀ v H',ji H H'->Rep K H' d v->Q v H'):aj6 K x lo hi H Q ∨ aku K x lo hi H Q:=by
 unfold aav at h
 split at h
 ·rename_i ds
  cases h
  obtain ⟨a,xs,e1,e2,e3⟩:=r
  have hl:=e3.length
  have rr:Reps K H (ajg ds lo hi) (aa5 xs lo hi):=by
   unfold aa5 ajg
   rw [hl]
   exact (e3.drop _).take _
  by_cases hw:HT.sIx xs.length 0 lo=0/\HT.sIx xs.length xs.length hi=xs.length
  ·refine .inr ⟨a,xs,e1,e2,hw,k _ H (ji.refl H) ⟨a,xs,rfl,e2,?_⟩⟩
   have ex:aa5 xs lo hi=xs:=by unfold aa5; rw [hw.1,hw.2]; simp
   rw [ex] at rr
   exact rr
  ·refine .inl ⟨a,xs,e1,e2,hw,fun q hq=>?_⟩
   have s1:=jt (o:= .tup (aa5 xs lo hi)) hq
   exact k _ _ s1 ⟨q,_,rfl,SqT.of jp,Reps.mono s1 _ _ rr⟩
 ·cases h
noncomputable def aaQ (fa fb:Rho->Option PyData):Rho->Option PyData:=fun ρ=>(fa ρ).bind fun p=>(fb ρ).bind fun q=>(inI q).bind fun i=>aav p none (some i)
theorem ab9 (ha:PD X a fa) (hb:PD X b fb):PD X (.Subscript a (.Slice none (some b) none p2) pos) (aaQ fa fb):=by
 with_unfolding_all
  refine PE.imp (abU (afd.or ab8) ha adx (aa4 hb)) fun σ H Q ⟨ρ,d,en,q,k⟩=>?_
  cases h1:fa ρ with
  | none=>simp [aaQ,h1] at q
  | some y=>
   cases h2:fb ρ with
   | none=>simp [aaQ,h1,h2] at q
   | some z=>
    cases h3:inI z with
    | none=>simp [aaQ,h1,h2,h3] at q
    | some i=>
     have q':aav y none (some i)=some d:=by simpa [aaQ,h1,h2,h3] using q
     have hz:=ab5 h3
     subst hz
     refine ⟨ρ,y,en,h1,fun v H1 s1 r1=>⟨ρ,_,en.mono s1,h2,fun u H2 s2 r2=>?_⟩⟩
     cases (show u=_ from r2)
     exact ⟨i,rfl,afZ q' (Rep.mono s2 _ _ r1) fun v H' s r=>k v H' (s1.trans (s2.trans s)) r⟩
noncomputable def zX (fa fb:Rho->Option PyData):Rho->Option PyData:=fun ρ=>(fa ρ).bind fun p=>(fb ρ).bind fun q=>(inI q).bind fun i=>aav p (some i) none
theorem J9 (ha:PD X a fa) (hb:PD X b fb):PD X (.Subscript a (.Slice (some b) none none p2) pos) (zX fa fb):=by
 with_unfolding_all
  refine PE.imp (abU (afd.or ab8) ha (aa4 hb) adx) fun σ H Q ⟨ρ,d,en,q,k⟩=>?_
  cases h1:fa ρ with
  | none=>simp [zX,h1] at q
  | some y=>
   cases h2:fb ρ with
   | none=>simp [zX,h1,h2] at q
   | some z=>
    cases h3:inI z with
    | none=>simp [zX,h1,h2,h3] at q
    | some i=>
     have q':aav y (some i) none=some d:=by simpa [zX,h1,h2,h3] using q
     have hz:=ab5 h3
     subst hz
     refine ⟨ρ,y,en,h1,fun v H1 s1 r1=>⟨ρ,_,en.mono s1,h2,fun u H2 s2 r2=>?_⟩⟩
     cases (show u=_ from r2)
     exact ⟨i,rfl,afZ q' (Rep.mono s2 _ _ r1) fun v H' s r=>k v H' (s1.trans (s2.trans s)) r⟩
end
section
variable {X:Cx}
end
section
variable {X:Cx}
end
section
variable {X:Cx}{e a b c:Expr}{fa fb fc:Rho->Option PyData}{pos p2:Pos}
end
section
variable {X:Cx}
end
section
variable {X:Cx}{e:Expr}{es:List Expr}{pos p:Pos}
noncomputable def aiv (x:Str):PyData->Bool
 | .dict [(.str y,.none)]=>decide (y=x)
 | _=>false
@[simp] theorem ajh (x:Str):aiv x (fnD x)=true:=by simp [aiv,fnD]
end
section
variable {X:Cx}{e a b c:Expr}{es:List Expr}{fa:Rho->Option PyData}{fx gx:Rho->Option Str}{pos:Pos}
end
section
variable {X:Cx}{own:Option Nat}{e a b c tg src:Expr}{es:List Expr}{st:Stmt}{sts jO body:List Stmt}{fx gx:Rho->Option Str}{F:Rho->Option Out}{fa:Rho->Option PyData}{pos:Pos}
theorem Thr.unwish {W:Value->Shared->Prop}{Hb Hs:Hp}{c:Str}{ev:Value}{s':Shared} (sb:∀ H3,ji Hb H3->ji Hs H3) (h:Thr (X.wish W) Hb c ev s'):Thr X Hs c ev s':=by
 obtain ⟨e,C,σ',H',h1,h2,h3,h4,h5⟩:=h
 exact ⟨e,C,σ',H',h1,h2,h3.unwish,sb _ h4,h5.unwish⟩
end
section
variable {X:Cx}{e a b c:Expr}{es:List Expr}{st:Stmt}{sts jO:List Stmt}{fx gx:Rho->Option Str}{F:Rho->Option Out}{pos p:Pos}
noncomputable def orX (fx gx:Rho->Option Str):Rho->Option Str:=fun ρ=>match fx ρ with
 | some c=>some c
 | none=>gx ρ
theorem ahE (h1:Zy X sts fx) (h2:Zy X sts gx):Zy X sts (orX fx gx):=by
 with_unfolding_all
  intro s σ H ρ c I en q k
  cases hf:fx ρ with
  | some c'=>
   have:c'=c:=by simpa [orX,hf] using q
   subst this
   exact h1 s σ H ρ c' I en hf k
  | none=>exact h2 s σ H ρ c I en (by simpa [orX,hf] using q) k
end
section
variable {X:Cx}{a b c:Expr}{tc ta tb:Rho->Option Bool}{pos:Pos}
end
section
variable {X:Cx}{a b:Expr}{fa fb:Rho->Option PyData}
theorem aac:∀ {is:List Bool}{us:List Value},jw (is.map V.bl) us->us=is.map Value.bool
 | [],us,r=>by cases r; rfl
 | i0::is,u::us,.cons r rr=>by
  rw [List.map_cons,←aac rr,show u=Value.bool i0 from r]
noncomputable def aew (k:Bool):Value->Bool
 | .bool i=>i == k
 | _=>false
noncomputable def ahF:V->List V->Hp->VK->Prop:=fun x vs H Q=>∃ (l:Addr) (is:List Bool) (k:Bool) (j:Nat),x= .ref l/\vs=[.bl k]/\H l=some (.lst (is.map V.bl))/\is.findIdx? (· == k)=some j/\Q (.int j) H
noncomputable def ahG:V->List V->Hp->VK->Prop:=fun x vs H Q=>∃ (l:Addr) (is:List Bool) (k:Bool),x= .ref l/\vs=[.bl k]/\H l=some (.lst (is.map V.bl))/\Q (.int (is.countP (· == k))) H
theorem aex:MtR X "list.index" ahF:=by
 intro pins s σ H x vs v us Q I rx rv h
 obtain ⟨l,is,k,j,rfl,rfl,hH,hj,q⟩:=h
 cases rx
 obtain ⟨u,rfl,ru⟩:=jw.one rv
 cases (show u=Value.bool k from ru)
 obtain ⟨z,its,n,r,hl,e⟩:=I.lstM hH
 have hlen:=r.length
 simp only [List.length_map] at hlen
 have hits:=aac r
 subst hits
 obtain ⟨hj1,hj2,hj3⟩:=List.findIdx?_eq_some_iff_getElem.mp hj
 have hln:=QS
 have z':=z
 rw [List.length_map] at z'
 refine call_meets F.slot_list_index ⟨_,e,rfl⟩ F.entry_list_index (F.args_list_index_2 _ _) (SeqAt.list_indexAt l (is.map Value.bool).toArray n none #[] (.bool k) (aew k) j (by simp; omega) ?_ ?_ ?_) ⟨e,?_,?_⟩
 ·omega
 ·simp [aew]; exact beq_iff_eq.mp hj2
 ·intro m hm hmj
  simp [aew]
  have:=hj3 m hmj
  exact fun z=>this (by rw [z]; exact beq_self_eq_true k)
 ·intro y hy
  have hy':y ∈ is.map Value.bool:=by simpa using hy
  obtain ⟨i,_,rfl⟩:=List.mem_map.mp hy'
  exact SeqAt.EqAt.bool_bool _ _
 ·exact ⟨.int j,H,I.tok _,⟨_,rfl⟩,q⟩
theorem aey:MtR X "list.count" ahG:=by
 intro pins s σ H x vs v us Q I rx rv h
 obtain ⟨l,is,k,rfl,rfl,hH,q⟩:=h
 cases rx
 obtain ⟨u,rfl,ru⟩:=jw.one rv
 cases (show u=Value.bool k from ru)
 obtain ⟨z,its,n,r,hl,e⟩:=I.lstM hH
 have hits:=aac r
 subst hits
 have hc:((is.map Value.bool).toArray.toList.countP (aew k))=is.countP (· == k):=by
  show (is.map Value.bool).countP (aew k)=_
  rw [List.countP_map]; rfl
 refine call_meets F.slot_list_count ⟨_,e,rfl⟩ F.entry_list_count (F.args_list_count_2 _ _) (SeqAt.list_countAt l (is.map Value.bool).toArray n none #[] (.bool k) (aew k)) ⟨e,?_,?_⟩
 ·intro y hy
  have hy':y ∈ is.map Value.bool:=by simpa using hy
  obtain ⟨i,_,rfl⟩:=List.mem_map.mp hy'
  exact SeqAt.EqAt.bool_bool _ _
 ·exact ⟨.int (is.countP (· == k)),H,I.tok _,⟨_,by rw [←hc]⟩,q⟩
noncomputable def aca:List PyData->Option (List Bool)
 | []=>some []
 | .bool i::r=>(aca r).map (i::·)
 | _=>none
theorem adb {K:PySem.W.Frag}{H:Hp}:∀ {ds:List PyData}{is:List Bool}{xs:List V},aca ds=some is->Reps K H ds xs->xs=is.map V.bl
 | [],is,xs,h,r=>by cases h; exact r
 | d::ds,is,xs,h,r=>by
  obtain ⟨x,ys,e1,e2,e3⟩:=r
  cases d with
  | bool i=>
   simp only [aca,Option.map_eq_some_iff] at h
   obtain ⟨js,h1,h2⟩:=h
   subst h2
   cases (show x=_ from e2)
   rw [e1,adb h1 e3]; rfl
  | _=>simp [aca] at h
noncomputable def abr (p q:PyData):Option PyData:=match p,q with
 | .list ds,.bool k=>(aca ds).bind fun is=>(is.findIdx? (· == k)).map fun (j:Nat)=>PyData.int j
 | _,_=>none
noncomputable def abt (p q:PyData):Option PyData:=match p,q with
 | .list ds,.bool k=>(aca ds).map fun is=>PyData.int (is.countP (· == k))
 | _,_=>none
theorem aez {apos cpos:Pos} (ha:PD X a fa) (hb:PD X b fb) (hbase:attributeBase a "index" X.env (eval a X.env)=eval a X.env:=by rfl)
  (hfew:((backTo cpos (starEach [b] X.env)).all (fun x=>!x.1) && (backToKw cpos (keywordEach [] X.env)).all (fun x=>x.1.isSome) && decide ([b].length+([]:List Keyword).length+(if ([]:List Keyword).isEmpty then 0 else 1) < 30))=true:=by rfl)
  (hline:(apos.endLine == cpos.line)=true:=by rfl) (hs:starEach [b] X.env=(false,eval b X.env)::starEach [] X.env:=by rfl) (hplain:(backTo cpos (starEach [] X.env)).any (fun x=>x.1)=false:=by rfl):
  PD X (.Call (.Attribute a "index" apos) [b] [] cpos) (op2 abr fa fb):=by
 with_unfolding_all
  refine PE.imp (aff PySem.F.plainAttrs_list PySem.F.slot_list_index PySem.F.type_list_index aex ha (j4 hb qQ hs) hbase hfew hline hs hplain) fun σ H Q ⟨ρ,d,en,h,k⟩=>?_
  cases h1:fa ρ with
  | none=>simp [op2,h1] at h
  | some p=>
   cases h2:fb ρ with
   | none=>simp [op2,h1,h2] at h
   | some q=>
    have h':abr p q=some d:=by simpa [op2,h1,h2] using h
    unfold abr at h'
    split at h'
    ·rename_i ds n
     cases h3:aca ds with
     | none=>simp [h3] at h'
     | some is=>
      cases h4:is.findIdx? (· == n) with
      | none=>simp [h3,h4] at h'
      | some j=>
       simp only [h3,h4,zzD,zzE,Option.some.injEq] at h'
       subst h'
       refine ⟨ρ,_,en,h1,fun v H1 s1 r1=>?_⟩
       obtain ⟨l,xs,e1,e2,e3⟩:=r1
       subst e1
       refine ⟨.inl ⟨rfl,xs,SqL.of e2⟩,ρ,_,en.mono s1,h2,fun y H2 s2 r2=>?_⟩
       cases (show y=V.bl n from r2)
       refine ⟨l,is,n,j,rfl,rfl,?_,h4,k _ H2 (s1.trans s2) rfl⟩
       rw [←adb h3 e3]
       exact s2 _ _ e2
    ·cases h'
theorem aeA {apos cpos:Pos} (ha:PD X a fa) (hb:PD X b fb) (hbase:attributeBase a "count" X.env (eval a X.env)=eval a X.env:=by rfl)
  (hfew:((backTo cpos (starEach [b] X.env)).all (fun x=>!x.1) && (backToKw cpos (keywordEach [] X.env)).all (fun x=>x.1.isSome) && decide ([b].length+([]:List Keyword).length+(if ([]:List Keyword).isEmpty then 0 else 1) < 30))=true:=by rfl)
  (hline:(apos.endLine == cpos.line)=true:=by rfl) (hs:starEach [b] X.env=(false,eval b X.env)::starEach [] X.env:=by rfl) (hplain:(backTo cpos (starEach [] X.env)).any (fun x=>x.1)=false:=by rfl):
  PD X (.Call (.Attribute a "count" apos) [b] [] cpos) (op2 abt fa fb):=by
 with_unfolding_all
  refine PE.imp (aff PySem.F.plainAttrs_list PySem.F.slot_list_count PySem.F.type_list_count aey ha (j4 hb qQ hs) hbase hfew hline hs hplain) fun σ H Q ⟨ρ,d,en,h,k⟩=>?_
  cases h1:fa ρ with
  | none=>simp [op2,h1] at h
  | some p=>
   cases h2:fb ρ with
   | none=>simp [op2,h1,h2] at h
   | some q=>
    have h':abt p q=some d:=by simpa [op2,h1,h2] using h
    unfold abt at h'
    split at h'
    ·rename_i ds n
     cases h3:aca ds with
     | none=>simp [h3] at h'
     | some is=>
      simp only [h3,zzE,Option.some.injEq] at h'
      subst h'
      refine ⟨ρ,_,en,h1,fun v H1 s1 r1=>?_⟩
      obtain ⟨l,xs,e1,e2,e3⟩:=r1
      subst e1
      refine ⟨.inl ⟨rfl,xs,SqL.of e2⟩,ρ,_,en.mono s1,h2,fun y H2 s2 r2=>?_⟩
      cases (show y=V.bl n from r2)
      refine ⟨l,is,n,rfl,rfl,?_,k _ H2 (s1.trans s2) rfl⟩
      rw [←adb h3 e3]
      exact s2 _ _ e2
    ·cases h'
end
structure RoomH (k:Nat) (A:Around):Prop where
 dp:A.depth+3*k+5 < recursionLimit
 un:A.units+16*k+200 < cLine
theorem RoomH.deeper {k:Nat}{A:Around} (r:RoomH (k+1) A) (env:Env):RoomH k (A.deeper env):=
 ⟨by have:=r.dp; show A.depth+1+3*k+5 < _; omega,by have:=r.un; show A.units+3+16*k+200 < _; omega⟩
theorem Room.h {k:Nat}{A:Around} (r:Room k A):RoomH k A:=⟨r.dp,r.un⟩
theorem RoomH.mark {k:Nat}{A:Around}{v:Option Value} (r:RoomH k A):RoomH k (A.mark v):=⟨r.dp,r.un⟩
structure FnH (P:Program) (w:World) (K:PySem.W.Frag) (mg:Str->Option Value) (base:Heap) (k:Nat) (f:Addr) (fd:FuncData) (ps:List Str) (sp:Sp):Prop where
 len:∀ vs H Q E,sp vs H Q E->vs.length=ps.length
 run:∀ (A:Around) (outer:List Env) (s:Shared) (H:Hp) (args:Args) (us:List Value) (vs:List V) (Q:VK) (E:XK),RoomH k A->Env0 P w K mg base A outer s H->BindsTo s fd args (ps.zip us)->jw vs us->sp vs H Q E->
  codeAny (model P w) A (.call (.ref f) args) (CR CX0 outer P w H s Q E) s
noncomputable abbrev cxH (P:Program) (w:World) (K:PySem.W.Frag) (mg:Str->Option Value) (base:Heap) (N:List Str) (qual:Str) (scope:Scope) (f:Addr) (cd:Value) (A:Around) (outer:List Env) (s:Shared) (H:Hp) (E:XK):Cx:=
 { zp CX0 P w K mg base N qual scope f cd { A with handled:=none } outer s H E with A:=A.deeper (envOfC qual scope s.heap.objs.size f cd),calm:=false,xe:=fun _ _=>False }
noncomputable def ZE (P:Program) (w:World) (K:PySem.W.Frag) (mg:Str->Option Value) (base:Heap) (x:Str) (ps:List Str) (k n:Nat) (g:List PyData->Option PyData):Prop:=
 ∃ (f:Addr) (fd:FuncData),FnH P w K mg base k f fd ps (Pur K n g)/\mg x=some (.ref f)/\PySem.W.keepIn K (.ref f)=true/\Jg K fd ps []
section
variable {P:Program}{w:World}{K:PySem.W.Frag}{mg:Str->Option Value}{base:Heap}
theorem alc {x qual:Str}{st:Stmt}{f:Addr}{fd:FuncData}{N ps:List Str}{k:Nat}{B:Rho->Option Out} (F:Fun K x qual st f fd) (S:FnScope N ps (jf st))
  (body:∀ (cdv:Value) (A:Around) (outer:List Env) (s:Shared) (H:Hp) (E:XK),RoomH k (A.deeper (envOfC qual (jf st) s.heap.objs.size f cdv))->Jh (cxH P w K mg base N qual (jf st) f cdv A outer s H E) (jK st) B):
  FnH P w K mg base (k+1) f fd ps (Pur K ps.length (jC N ps.length B)):=by
 with_unfolding_all
  obtain ⟨oc,od,kV,doc,pm,an,cdv,ct,osl,rfl,lk,hcd⟩:=F.ex
  have len:∀ vs H Q E,Pur K ps.length (jC N ps.length B) vs H Q E->vs.length=ps.length:=fun vs H Q E h=>by
   obtain ⟨ds,d,h1,h2,_⟩:=h
   rw [h2.length]; exact h1
  refine ⟨len,fun A outer s H args us vs Q E hr e0 hb r hsp=>?_⟩
  have hl:=len _ _ _ _ hsp
  have KX:K.In s.heap:=e0.mod.kin.keeps fun b o e=>(e0.bs b o e).1
  have lim:s.heap.NoLimit:=e0.mod.nolimit.keeps fun b o e=>(e0.bs b o e).1
  have hkind:∀ y ∈ ps.zip us,(jf st).names.lookup y.1=some .local ∨ ((jf st).names.lookup y.1=some .cell/\((cellsFrom (s.heap.objs.size+1) (jf st).names []).lookup y.1).isSome=true):=fun ⟨n,v⟩ hy=>by
   rcases S.par n (List.of_mem_zip hy).1 with q | q
   ·exact .inl q
   ·exact .inr ⟨q,PySem.W.cellsFrom_some _ _ _ (.inl q)⟩
  have hdp:A.depth < recursionLimit:=by have:=hr.dp; omega
  refine codeAny_call_function hdp (KX _ _ lk) rfl S.co S.gen rfl (PySem.W.codeRec_of KX hcd) (hb _ _ _ _ ?_)
  refine wpAny_newFunctionEnv_cells S.kind hkind fun env he s1 x=>?_
  subst he
  refine ⟨lim.keeps x.toInCall.keep,codeAny_func ?_⟩
  have e1:Env0 P w K mg base { A with handled:=none } outer s H:=⟨e0.frames,e0.mod,e0.bs,e0.bsz,e0.funs,e0.frf,e0.hok,e0.bare⟩
  have I0:Inv (zp CX0 P w K mg base N qual (jf st) f cdv { A with handled:=none } outer s H E) [] (L2.qN N vs) H s1:=QT S rfl e1 hl r x
  have I:Inv (cxH P w K mg base N qual (jf st) f cdv A outer s H E) [] (L2.qN N vs) H s1:=Inv.asA I0 I0.ok.frames (fun z=>nomatch z)
  obtain ⟨ds,d,h1,h2,h3,h4⟩:=hsp
  unfold jC at h3
  rw [if_pos h1] at h3
  cases hB:B (jE N ds) with
  | none=>rw [hB] at h3; cases h3
  | some o=>
   rw [hB] at h3
   have bd:=body cdv A outer s H E (hr.deeper _) [] s1 (L2.qN N vs) H { nx:=fun _ H'=>Q .non H',rt:=Q } I ⟨jE N ds,o,JC h2,hB,by
    cases o with
    | rt c=>cases h3; exact fun v H' sm r=>h4 v H' sm r
    | nx ρ=>cases h3; exact fun σ H' sm e=>h4 .non H' sm rfl
    | bk ρ=>cases h3
    | ct ρ=>cases h3⟩
   refine wpAny_mono bd (fun fl s' hs=>?_) fun e s' hs=>hs.elim
   have fin:∀ {σ':St} {H':Hp} {v:V} {u:Value},Inv (cxH P w K mg base N qual (jf st) f cdv A outer s H E) [] σ' H' s'->jy v u->Q v H'->CE outer P w H s Q u s':=
    fun {σ' H' v u} J rv q=>⟨v,H',J.os,J.bare,J.base,J.hok,rv,q⟩
   cases fl with
   | ret u=>
    obtain ⟨v,σ',H',J,rv,q⟩:=hs
    exact fin J rv q
   | next=>
    obtain ⟨σ',H',J,q⟩:=hs
    exact fin (v:=V.non) (u:=Value.none) J rfl q
   | brk=>
    obtain ⟨_,_,_,q⟩:=hs
    exact False.elim q
   | cont=>
    obtain ⟨_,_,_,q⟩:=hs
    exact False.elim q
end
section
variable {X:Cx}{e:Expr}{es:List Expr}{pos:Pos}
theorem af0 {k n:Nat}{ps:List Str}{g:List PyData->Option PyData}{x:Str}{p:Pos}{fr:Rho->Option (List PyData)} (c:ZE X.prog X.w X.K X.mg X.base x ps k n g) (hr:RoomH k X.A) (ha:PAD X (e::es) fr)
  (hl:∀ (ρ:Rho) (ds:List PyData),fr ρ=some ds->ds.length=n) (hn:(e::es).length=n:=by rfl) (hg:Gl X x:=by rfl) (hdb:(x == ("__debug__":Str))=false:=by decide) (he:starEach (e::es) X.env=(false,eval e X.env)::starEach es X.env:=by rfl)
  (hpl:(backTo pos (starEach es X.env)).any (·.1)=false:=by rfl):PD X (.Call (.Name x p) (e::es) [] pos) (jD g fr):=by
 with_unfolding_all
  obtain ⟨f,fd,F,hm,hk,hb⟩:=c
  have run:∀ {pins:List (Addr × Obj)} {σ:St} {H:Hp} {s:Shared} {Q:VK} {us:List Value} {vs:List V},Inv X pins σ H s->jw vs us->Pur X.K n g vs H Q (fun _ _ _=>False)->wpAny (model X.prog X.w) X.A (call (.ref f) us) (EP X pins σ Q) X.xe s:=by
   intro pins σ H s Q us vs I r h
   have hl:us.length=ps.length:=by rw [←r.length]; exact F.len _ _ _ _ h
   have hb':=hb s us I.kIn (by rw [List.append_nil]; exact hl)
   rw [List.append_nil] at hb'
   refine wpAny_call (codeAny_mono (F.run X.A X.stack s H ⟨us,[]⟩ us vs Q (fun _ _ _=>False) hr I.env0 hb' r h) fun r s' hq=>?_)
   cases r with
   | error e=>exact (afi [] σ H s e s' (I.pins_of fun p hp=>nomatch hp) hq:X.xe e s')
   | ok fl=>
    cases fl with
    | ret u=>exact I.after hq
    | next=>exact False.elim hq
    | brk=>exact False.elim hq
    | cont=>exact False.elim hq
  have pc:PE X (.Call (.Name x p) (e::es) [] pos) (aio (Pur X.K n g) [] (fun _ _ _=>False) (tDA X.K fr)):=by
   intro pins s σ H Q I h
   refine wpAny_Call_Name_kw (Qd I hg hm ?_ hdb)
   refine PySem.W.callWith_K (h₀:=X.base) I.ok.mod.kin hk (thn (ha pos pins s σ H _ I h) fun us s1 ⟨vs,H1,I1,r,q⟩=>⟨I1.kIn,?_⟩) he hpl
   have q':Pur X.K n g (vs++[]) H1 Q (fun _ _ _=>False):=q
   rw [List.append_nil] at q'
   exact run I1 r q'
  refine PE.imp pc fun σ H Q ⟨ρ,d,en,q,k⟩=>?_
  cases h1:fr ρ with
  | none=>simp [jD,h1] at q
  | some ds=>
   refine ⟨ρ,ds,en,h1,fun vs H1 s1 r1=>?_⟩
   exact ⟨ds,d,by rw [hl ρ ds h1],by rw [List.append_nil]; exact r1,by simpa [jD,h1] using q,fun v H' s r=>k v H' (s1.trans s) r⟩
end
structure ExcK (K:PySem.W.Frag) (C:Addr):Prop where
 exc:PySem.W.excIn K C vB "ValueError.__new__"=true
 ga:PySem.W.findIn K (.ref C) "__getattribute__"=some (some (.builtin "BaseException.__getattribute__"))
 gt:PySem.W.findIn K (.ref C) "__getattr__"=some none
 cl:PySem.W.findIn K (.ref C) "__class__"=some (some (.builtin "object.__class__"))
 mo:PySem.W.mroIn K C (.type "object")=some true
 mb:PySem.W.mroIn K C (.type "BaseException")=some true
theorem acb {K:PySem.W.Frag}{C:Addr}{t:Value}{b:Bool} (h:PySem.W.mroIn K C t=some b):(PySem.W.clsIn K C).isSome=true:=by
 unfold PySem.W.mroIn at h
 cases hc:PySem.W.clsIn K C with
 | none=>rw [hc] at h; cases h
 | some cd=>rfl
theorem ExcK.ci {K:PySem.W.Frag}{C:Addr} (h:ExcK K C):(PySem.W.clsIn K C).isSome=true:=acb h.mo
structure ClsG (K:PySem.W.Frag):Prop where
 gt:PySem.W.specialIn K (.builtin "object.__class__") "__get__"=some (some (.builtin "getset_descriptor.__get__"))
 tk:PySem.W.takesIn K (.builtin "object.__class__")=some true
section
variable {prog:Program}{w:World}{A:Around}{E:Value->Shared->Prop}{s:Shared}{K:PySem.W.Frag}{a C:Addr}{oe:Obj}
theorem af1 (hg:ClsG K) (hc:ExcK K C):PySem.W.findObj K C none "__class__"=some (.bind (.builtin "getset_descriptor.__get__") (.builtin "object.__class__")):=by
 obtain ⟨cd,h1⟩:=Option.isSome_iff_exists.mp hc.ci
 unfold PySem.W.findObj
 rw [h1,zzD,hc.cl,zzD]
 simp [hg.gt,hg.tk]
theorem aeB {nameV:Value}{Q:Unit->Shared->Prop} (X:K.In s.heap) (hc:ExcK K C) (I:PySem.W.InstAt s.heap a oe C none) (hq:Q () s):wpAny (model prog w) A (checkBuiltinCall "BaseException.__getattribute__" ⟨[.ref a,nameV],[]⟩) Q E s:=by
 have hk:builtinKind "BaseException.__getattribute__"=some .slot:=by decide +kernel
 have hsplit:splitId "BaseException.__getattribute__"=some ("BaseException","__getattribute__"):=by decide +kernel
 have ha:=F.args_bexc_ga (.ref a) nameV
 have L0:=I.type (M:=model prog w)
 have L1:=PySem.W.looks_mroIn (M:=model prog w) X hc.mb
 obtain ⟨hh,g,d,t,os⟩:=s
 simp only [checkBuiltinCall,hk,hsplit]
 refine wpAny_bind ?_
 unfold isInstance
 repeat (first | with_reducible refine L0.at ?_ | with_reducible refine L1.at ?_ | wp_step)
 exact hq
theorem aeC {tk:Tok}{Q:Fin->Shared->Prop} (X:K.In s.heap) (hg:ClsG K) (hc:ExcK K C) (I:PySem.W.InstAt s.heap a oe C none) (hq:Q (.done (.ret (.ref C))) s):
  wpAny (model prog w) A (Builtin.«object.__getattribute__» ⟨[.ref a,.str "__class__" tk],[]⟩) Q E s:=by
 have L0:=I.type (M:=model prog w)
 have L1:=PySem.W.looks_find (M:=model prog w) X I (af1 hg hc)
 obtain ⟨hh,g,d,t,os⟩:=s
 refine wpAny_bind (wpAny_pure (wpAny_bind (wpAny_pure (wpAny_bind (L0.at (wpAny_bind (L1.at ?_)))))))
 show wpAny _ _ (holding [Value.builtin "object.__class__"] (call (.builtin "getset_descriptor.__get__") [.builtin "object.__class__",.ref a,.ref C]) >>= ret) _ _ _
 refine wpAny_bind (wpAny_holding (wpAny_call (PySem.W.class_get (ox:=oe) (od:=none) X I hc.mo ?_)))
 exact wpAny_pure hq
theorem ahH {Q:Option Value->Shared->Prop} (X:K.In s.heap) (hg:ClsG K) (hc:ExcK K C) (I:PySem.W.InstAt s.heap a oe C none) (hq:Q (some (.ref C)) { s with toks:=s.toks+1 }):wpAny (model prog w) A (getAttr? (.ref a) "__class__") Q E s:=by
 have L0:=I.type (M:=model prog w)
 have L1:=PySem.W.looks_findIn (M:=model prog w) X hc.ga
 have L2:=PySem.W.looks_findIn (M:=model prog w) X hc.gt
 obtain ⟨hh,g,d,t,os⟩:=s
 unfold getAttr? getAttrBy? getAttrBy
 refine wpAny_bind (wpAny_mkText (wpAny_bind (wpAny_attempt (wpAny_holding (wpAny_bind (L0.at (wpAny_bind (L1.at ?_))))))))
 have hx2:(Value.builtin "BaseException.__getattribute__" == Value.builtin "object.__getattribute__")=false:=by decide +kernel
 have hx1:(onTheHeap (Value.ref C) && Value.builtin "BaseException.__getattribute__" == Value.builtin "object.__getattribute__")=false:=by rw [hx2]; rfl
 dsimp only
 rw [hx1]
 show wpAny _ _ (getAttrByItsOwn _ _ _ _ _ _) _ _ _
 unfold getAttrByItsOwn hookBefore
 rw [if_pos (show onTheHeap (Value.ref C)=true from rfl)]
 refine wpAny_bind (L2.at (wpAny_bind (wpAny_attempt (wpAny_holding ?_))))
 unfold callGetattribute
 rw [if_neg (by simp)]
 have f3:=PySem.F.attr_ValueError.ga.bind (.ref a)
 have fin:codeAny (model prog w) A (.call (.builtin "BaseException.__getattribute__") ⟨[.ref a,.str "__class__" t],[]⟩) (fun r s'=>match r with | .ok (.ret v)=>v= .ref C/\s'=⟨hh,g,d,t+1,os⟩ | _=>False) ⟨hh,g,d,t+1,os⟩:=
  codeAny_call_builtin PySem.F.attr_ValueError.ga.plain F.entry_bexc_ga (aeB (s:=⟨hh,g,d,t+1,os⟩) X hc I (aeC (s:=⟨hh,g,d,t+1,os⟩) X hg hc I ⟨rfl,rfl⟩))
 unfold boundAndCalled
 rw [f3]
 refine wpAny_bind (wpAny_pure (wpAny_call (codeAny_mono fin fun r s' hr=>?_)))
 cases r with
 | error e=>exact hr.elim
 | ok fl=>
  cases fl with
  | ret v=>
   obtain ⟨rfl,rfl⟩:=hr
   exact PySem.W.handed_on rfl (wpAny_pure hq)
  | next=>exact hr.elim
  | brk=>exact hr.elim
  | cont=>exact hr.elim
theorem af2 (hg:ClsG K) (hc:ExcK K C):PySem.W.KitX K (.ref a) (.ref C) (fun h=>∃ oe,PySem.W.InstAt h a oe C none) where
 ty:=fun _ _ _ ⟨_,I⟩=>I.type
 it:=fun _ _ X _=>by
  obtain ⟨cdD,hcD⟩:=Option.isSome_iff_exists.mp hc.ci
  unfold PySem.W.clsIn at hcD
  split at hcD
  ·rename_i ho
   intro A' Q' E' s' k q
   unfold isType loadHead
   exact wpAny_bind (wpAny_loadPart (k _ _ (X _ _ ho)) (wpAny_pure q))
  ·cases hcD
 ne:=fun h tp dd its n sl X htp=>by
  obtain ⟨cdD,hcD⟩:=Option.isSome_iff_exists.mp hc.ci
  refine Bool.eq_false_iff.mpr fun q=>?_
  have e:C=tp:=Value.ref.inj (beq_iff_eq.mp q)
  subst e
  unfold PySem.W.clsIn at hcD
  split at hcD
  ·rename_i ho
   have z:=(X _ _ ho).symm.trans htp
   cases z
  ·cases hcD
 ca:=fun X ⟨_,I⟩ k=>ahH X hg hc I k
end
noncomputable def adr (K:PySem.W.Frag) (c:Str):Option Addr:=match PySem.W.nsIn K mainGlobals c with
 | some (some (.ref C))=>some C
 | _=>none
theorem aji {K:PySem.W.Frag}{c:Str}{C:Addr} (h:PySem.W.nsIn K mainGlobals c=some (some (.ref C))):adr K c=some C:=by
 unfold adr; rw [h]
theorem adK {K:PySem.W.Frag}{c:Str}{C:Addr} (h:adr K c=some C):PySem.W.nsIn K mainGlobals c=some (some (.ref C)):=by
 unfold adr at h
 split at h
 ·rename_i q; cases h; exact q
 ·cases h
noncomputable def ajj (K:PySem.W.Frag) (C:Addr):Bool:=PySem.W.excIn K C vB "ValueError.__new__" && ((PySem.W.findIn K (.ref C) "__getattribute__" == some (some (.builtin "BaseException.__getattribute__"))) && ((PySem.W.findIn K (.ref C) "__getattr__" == some none) && ((PySem.W.findIn K (.ref C) "__class__" == some (some (.builtin "object.__class__"))) && ((PySem.W.mroIn K C (.type "object") == some true) && (PySem.W.mroIn K C (.type "BaseException") == some true)))))
theorem af3 {K:PySem.W.Frag}{C:Addr} (h:ajj K C=true):ExcK K C:=by
 unfold ajj at h
 simp only [Bool.and_eq_true,beq_iff_eq] at h
 obtain ⟨h1,h2,h3,h4,h5,h6⟩:=h
 exact ⟨h1,h2,h3,h4,h5,h6⟩
noncomputable def abu (K:PySem.W.Frag) (y:Str) (cs:List Str):Bool:=(PySem.W.specialIn K (.builtin "object.__class__") "__get__" == some (some (.builtin "getset_descriptor.__get__"))) && ((PySem.W.takesIn K (.builtin "object.__class__") == some true) && (match adr K y with
 | none=>false
 | some B=>(PySem.W.typeIn K (.ref B) == some (.type "type")) && ((PySem.W.mroIn K B (.type "BaseException") == some true) && cs.all fun c=>match adr K c with
  | none=>false
  | some C=>ajj K C && ((PySem.W.mroIn K C (.ref B) == some true) && ((PySem.W.kitOne K (.ref C) (.type "ValueError") == some true) && cs.all fun d=>match adr K d with
   | none=>false
   | some D=>PySem.W.kitOne K (.ref C) (.ref D) == some (c == d))))))
structure ErrT (K:PySem.W.Frag) (mg:Str->Option Value) (y:Str) (cs:List Str):Prop where
 tab:abu K y cs=true
 mgs:∀ c C,adr K c=some C->mg c=some (.ref C)
section
variable {K:PySem.W.Frag}{mg:Str->Option Value}{y:Str}{cs:List Str}
theorem ErrT.g (h:ErrT K mg y cs):ClsG K:=by
 have:=h.tab
 unfold abu at this
 simp only [Bool.and_eq_true,beq_iff_eq] at this
 exact ⟨this.1,this.2.1⟩
theorem ErrT.par (h:ErrT K mg y cs):∃ B,adr K y=some B/\mg y=some (.ref B)/\PySem.W.typeIn K (.ref B)=some (.type "type")/\PySem.W.mroIn K B (.type "BaseException")=some true/\
  ∀ c ∈ cs,∃ C,adr K c=some C/\mg c=some (.ref C)/\ExcK K C/\PySem.W.mroIn K C (.ref B)=some true/\PySem.W.kitOne K (.ref C) (.type "ValueError")=some true/\∀ d ∈ cs,∃ D,adr K d=some D/\mg d=some (.ref D)/\PySem.W.kitOne K (.ref C) (.ref D)=some (c == d):=by
 have q:=h.tab
 unfold abu at q
 simp only [Bool.and_eq_true,beq_iff_eq] at q
 obtain ⟨_,_,q⟩:=q
 cases hB:adr K y with
 | none=>rw [hB] at q; cases q
 | some B=>
  rw [hB] at q
  simp only [Bool.and_eq_true,beq_iff_eq,List.all_eq_true] at q
  obtain ⟨q1,q2,q3⟩:=q
  refine ⟨B,rfl,h.mgs y B hB,q1,q2,fun c hc=>?_⟩
  have z:=q3 c hc
  cases hC:adr K c with
  | none=>rw [hC] at z; cases z
  | some C=>
   rw [hC] at z
   simp only [Bool.and_eq_true,beq_iff_eq,List.all_eq_true] at z
   obtain ⟨z1,z2,z3,z4⟩:=z
   refine ⟨C,rfl,h.mgs c C hC,af3 z1,z2,z3,fun d hd=>?_⟩
   have v:=z4 d hd
   cases hD:adr K d with
   | none=>rw [hD] at v; cases v
   | some D=>
    rw [hD] at v
    exact ⟨D,rfl,h.mgs d D hD,beq_iff_eq.mp v⟩
theorem ErrT.err (h:ErrT K mg y cs) {c:Str} (hc:c ∈ cs):ahA K mg c:=by
 obtain ⟨B,_,_,_,_,q⟩:=h.par
 obtain ⟨C,_,q2,q3,_⟩:=q c hc
 exact ⟨C,q2,q3.exc⟩
end
noncomputable def aaR:PyData->Option Str
 | .dict [(.str c,.bool true)]=>some c
 | _=>none
theorem acd {d:PyData}{c:Str} (h:aaR d=some c):d=JO c:=by
 unfold aaR at h
 split at h
 ·cases h; rfl
 ·cases h
@[simp] theorem ajk (c:Str):aaR (JO c)=some c:=rfl
theorem af4 {K:PySem.W.Frag}{H:Hp}{x:Str}{v:V} (h:Rep K H (JO x) v):∃ a C oe,v= .ref a/\H a=some (.frz oe (.own a))/\PySem.W.nsIn K mainGlobals x=some (some (.ref C))/\oe.cls= .ref C/\oe.dict=none/\∃ vs,oe.data= .fields vs:=by
 obtain ⟨a,h1,⟨ns,h2,h3⟩ | ⟨ks,ob,h2,h3⟩ | ⟨y,h2,_⟩ | ⟨y,C,oe,h2,h3,h4,h5⟩⟩:=h
 ·cases ns with
  | nil=>cases h3
  | cons n ns=>cases h3
 ·exact h3.elim
 ·cases h2
 ·cases h2
  exact ⟨a,C,oe,h1,h3,h4,h5⟩
noncomputable def aeD (cs:List Str) (f:Str->Bool) (d:PyData):Option PyData:=(aaR d).bind fun c=>if c ∈ cs then some (.bool (f c)) else none
section
variable {X:Cx}{a:Expr}{fa:Rho->Option PyData}{pos p p2:Pos}{y:Str}{cs:List Str}
noncomputable def akv (K:PySem.W.Frag) (w:V):List V->Hp->VK->Prop:=fun xs H Q=>∃ x c C b,xs=[x,w]/\Rep K H (JO c) x/\adr K c=some C/\ExcK K C/\(∀ u,jy w u->PySem.W.kitOne K (.ref C) u=some b)/\Q (.bl b) H
theorem aaS {w:V} (G:ClsG X.K):za X (.builtin "isinstance") (akv X.K w):=by
 intro pins s σ H xs us Q I r ⟨x,c,C,b,e,h1,hC,hK,h2,q⟩
 subst e
 obtain ⟨u,w',rfl,r1,r2⟩:=abS r
 obtain ⟨a,C',oe,rfl,e2,e3,e4,e5,vs,e6⟩:=af4 h1
 have:=aji e3
 rw [hC] at this; cases this
 cases (show u=Value.ref a from r1)
 have at':s.heap.get? a=some oe:=(I.hok _ _ e2).1
 exact PySem.W.kia_one (af2 G hK) I.kIn ⟨oe,at',e4,by unfold PySem.W.notCls; rw [e6],by rw [e5]; trivial⟩ (h2 w' r2) (fun z=>nomatch z) fun tk=>⟨.bl b,H,I.tok tk,rfl,q⟩
theorem JF {T:Str} (hE:ErrT X.K X.mg y cs) (hm1:X.mg "isinstance"=none) (ha:PD X a fa) (hT:T ∈ cs:=by decide) (hg1:Gl X "isinstance":=by rfl) (hg2:Gl X T:=by rfl) (hd:(T == ("__debug__":Str))=false:=by decide)
  (he:starEach [a,.Name T p2] X.env=[(false,eval a X.env),(false,eval (.Name T p2) X.env)]:=by rfl) (he2:starEach [.Name T p2] X.env=[(false,eval (.Name T p2) X.env)]:=by rfl) (hpl:(backTo pos (starEach [.Name T p2] X.env)).any (·.1)=false:=by rfl):
  PD X (.Call (.Name "isinstance" p) [a,.Name T p2] [] pos) (fun ρ=>(fa ρ).bind (aeD cs fun c=>c == T)):=by
 with_unfolding_all
  obtain ⟨B,_,_,_,_,par⟩:=hE.par
  obtain ⟨D,d1,d2,_⟩:=par T hT
  have hT2:PE X (.Name T p2) (tC (.ref D)):=ZB hg2 d2 rfl hd
  refine PE.imp (Qh (aaS (w:= .ref D) hE.g) hg1 hm1 (by decide +kernel) (j4 ha (j4 hT2 qQ (by rw [he2]; rfl)) (by rw [he,he2])) (by decide) (by decide) (by rw [he,he2]) hpl) fun σ H Q ⟨ρ,d,en,q,k⟩=>?_
  cases h1:fa ρ with
  | none=>simp [h1] at q
  | some c0=>
   have q':aeD cs (fun c=>c == T) c0=some d:=by simpa [h1] using q
   unfold aeD at q'
   cases h2:aaR c0 with
   | none=>rw [h2] at q'; cases q'
   | some c=>
    rw [h2,zzD] at q'
    by_cases hc:c ∈ cs
    ·rw [if_pos hc] at q'
     cases q'
     have:=acd h2
     subst this
     obtain ⟨C,c1,c2,c3,c4,c5,c6⟩:=par c hc
     obtain ⟨D',d1',d2',d3'⟩:=c6 T hT
     rw [d1] at d1'; cases d1'
     exact ⟨ρ,_,en,h1,fun v H1 s1 r1=>⟨v,c,C,_,rfl,r1,c1,c3,fun u ru=>by cases (show u=Value.ref D from ru); exact d3',k _ H1 s1 rfl⟩⟩
    ·rw [if_neg hc] at q'; cases q'
theorem ahI (hE:ErrT X.K X.mg y cs) (hm1:X.mg "isinstance"=none) (hm2:X.mg "ValueError"=none) (ha:PD X a fa) (hg1:Gl X "isinstance":=by rfl) (hg2:Gl X "ValueError":=by rfl)
  (he:starEach [a,.Name "ValueError" p2] X.env=[(false,eval a X.env),(false,eval (.Name "ValueError" p2) X.env)]:=by rfl) (he2:starEach [.Name "ValueError" p2] X.env=[(false,eval (.Name "ValueError" p2) X.env)]:=by rfl) (hpl:(backTo pos (starEach [.Name "ValueError" p2] X.env)).any (·.1)=false:=by rfl):
  PD X (.Call (.Name "isinstance" p) [a,.Name "ValueError" p2] [] pos) (fun ρ=>(fa ρ).bind (aeD cs fun _=>true)):=by
 with_unfolding_all
  obtain ⟨B,_,_,_,_,par⟩:=hE.par
  have hT2:PE X (.Name "ValueError" p2) (tC (.ty "ValueError")):=ads hg2 hm2 (u:= .type "ValueError") (by decide +kernel) rfl (by decide) (by decide)
  refine PE.imp (Qh (aaS (w:= .ty "ValueError") hE.g) hg1 hm1 (by decide +kernel) (j4 ha (j4 hT2 qQ (by rw [he2]; rfl)) (by rw [he,he2])) (by decide) (by decide) (by rw [he,he2]) hpl) fun σ H Q ⟨ρ,d,en,q,k⟩=>?_
  cases h1:fa ρ with
  | none=>simp [h1] at q
  | some c0=>
   have q':aeD cs (fun _=>true) c0=some d:=by simpa [h1] using q
   unfold aeD at q'
   cases h2:aaR c0 with
   | none=>rw [h2] at q'; cases q'
   | some c=>
    rw [h2,zzD] at q'
    by_cases hc:c ∈ cs
    ·rw [if_pos hc] at q'
     cases q'
     have:=acd h2
     subst this
     obtain ⟨C,c1,c2,c3,c4,c5,c6⟩:=par c hc
     exact ⟨ρ,_,en,h1,fun v H1 s1 r1=>⟨v,c,C,_,rfl,r1,c1,c3,fun u ru=>by cases (show u=Value.type "ValueError" from ru); exact c5,k _ H1 s1 rfl⟩⟩
    ·rw [if_neg hc] at q'; cases q'
end
section
variable {X:Cx}{σ:St}{H:Hp}{s:Shared}{e C:Addr}
theorem Inv.take {oe:Obj} (I:Inv X [] σ H s) (m:Mine X H e) (he:s.heap.get? e=some oe):Inv X [] σ (upd H e (.frz oe (.own e))) s/\ji H (upd H e (.frz oe (.own e))):=by
 have ne:∀ b o,H b=some o->b ≠ e:=fun b o q z=>by subst z; rw [m.un] at q; cases q
 have sm:ji H (upd H e (.frz oe (.own e))):=fun b o q=>by rw [jl (ne b o q)]; exact q
 have u:Un (frs X.stack) [e] H (upd H e (.frz oe (.own e))) s.heap s.heap:=⟨fun b o q _ _ _=>q,fun b o q _ _ _=>⟨o.slots,q⟩,fun b o q n nc=>by rw [jl (fun z=>nc (by simp [z]))]; exact n,fun b o q _=>⟨o,q⟩,fun b xs q=>sm b _ q,fun b o v q=>sm b _ q,fun b ps q=>⟨#[],by rw [sm b _ q]; simp⟩⟩
 have hok:HOk X.prog X.w (upd H e (.frz oe (.own e))) s.heap:=fun b o q=>by
  by_cases hb:b=e
  ·subst hb
   rw [jp] at q; cases q
   exact ⟨he,_,he⟩
  ·rw [jl hb] at q
   exact (I.hok b o q).stay (fun c v hc r=>r) (fun c r=>sm _ _ r) fun c v r=>sm _ _ r
 refine ⟨?_,sm⟩
 have J:=Inv.call (X:={ X with ex:=[e]++X.ex }) (g':=s.gens) (d':=s.drawn) (t':=s.toks) (Inv.exIn I fun b hb=>by rw [List.mem_singleton.mp hb]; exact ⟨m.new,m.loc,m.cel⟩) u hok I.bare fun b hb=>by
  rw [List.mem_singleton.mp hb]
  exact ⟨.inl (List.mem_append_left _ (by simp)),m.loc,m.cel,fun p hp=>m.pin p (by simpa using hp)⟩
 exact Inv.exOut J I.ok fun b hb=>by rw [List.mem_singleton.mp hb]; exact m.new
theorem ahJ {M:Model}{A:Around}{E:Value->Shared->Prop}{x:Str}{pos:Pos}{Q:Unit->Shared->Prop} (I:Inv X [] σ H s) (hl:X.env.kindOf x=some .local) (h:∀ s',Inv X [] (List.replicate σ.length none) H s'->Q () s'):
  wpAny M A (do bindName X.env x .none; unbindBehindTheSuite X.env x pos) Q E s:=by
 obtain ⟨m,hn,_⟩:=id I.loc
 have hcls:(X.env.scope.kind == .class || (X.env.scope.kind == .module && X.env.locals != X.env.globals))=false:=by rw [I.ok.kind]; rfl
 have cne:=I.cne
 refine wpAny_nameGoes hl hn hcls fun h' m' hn' hs=>?_
 obtain ⟨oL,_,_,hoL,_⟩:=id hn
 have tracked:HOk X.prog X.w H h':=fun b ob e=>by
  refine (I.hok b ob e).stay (fun c w' hc q=>(hs.2 c ?_).trans q) (fun _ q=>q) fun _ _ q=>q
  rintro rfl
  rcases hc with rfl | hc
  ·rw [I.free] at e; cases e
  ·rw [I.free] at hc; cases hc
 refine h _ ⟨I.ok,I.os,I.bare,⟨fun b o e n hb hx=>?_,fun b o e n hb hx=>?_,I.base.free,fun b o e hx=>?_,I.base.tups,I.base.frzs,I.base.tbls⟩,⟨_,hn',fun j y v' e1 e2 e3=>?_⟩,fun y c e=>?_,I.free,I.freeC,fun p hp=>?_,tracked,by simpa using I.len⟩
 ·exact (hs.2 b (Nat.ne_of_lt (Nat.lt_of_lt_of_le (Heap.lt_size e) I.ok.above))).trans (I.base.keep b o e n hb hx)
 ·obtain ⟨sl,e1⟩:=I.base.slot b o e n hb hx
  exact ⟨sl,(hs.2 b (Nat.ne_of_lt (Nat.lt_of_lt_of_le (Heap.lt_size e) I.ok.above))).trans e1⟩
 ·obtain ⟨o',e1⟩:=I.base.there b o e hx
  exact ⟨o',(hs.2 b (Nat.ne_of_lt (Nat.lt_of_lt_of_le (Heap.lt_size e) I.ok.above))).trans e1⟩
 ·rw [List.getElem?_replicate] at e2
  split at e2 <;> cases e2
 ·obtain ⟨w',z⟩:=I.cell y c e
  exact ⟨w',z.sameBut hs (cne y c e)⟩
 ·obtain ⟨e,n,ne,nf,d⟩:=I.pin p hp
  exact ⟨(hs.2 p.1 ne).trans e,n,ne,nf,d⟩
theorem ace {M:Model}{A:Around}{E:Value->Shared->Prop}{K:PySem.W.Frag}{B:Addr}{oe:Obj}{Q:Bool->Shared->Prop} (X:K.In s.heap) (he:s.heap.get? e=some oe) (hc:oe.cls= .ref C)
  (ht:PySem.W.typeIn K (.ref B)=some (.type "type")) (hB:PySem.W.mroIn K B (.type "BaseException")=some true) (hm:PySem.W.mroIn K C (.ref B)=some true) (hq:Q true s):wpAny M A (excMatches (.ref e) (.ref B)) Q E s:=by
 have L0:=PySem.W.looks_typeIn (M:=M) X ht
 have L1:=PySem.W.looks_mroIn (M:=M) X hB
 have L2':=PySem.W.looks_mroIn (M:=M) X hm
 have Lt:PySem.W.Looks M s.heap (isType (.ref B)) true:=by
  obtain ⟨cdD,hcD⟩:=Option.isSome_iff_exists.mp (acb hB)
  unfold PySem.W.clsIn at hcD
  split at hcD
  ·rename_i ho
   intro A' Q' E' s' k q
   unfold isType loadHead
   exact wpAny_bind (wpAny_loadPart (k _ _ (X _ _ ho)) (wpAny_pure q))
  ·cases hcD
 have f:=tc_notTuple
 obtain ⟨hp,g,d,tk,os⟩:=s
 unfold excMatches isInstance isExcClass
 repeat (first | (with_reducible refine wpAny_loadPart_at he ?_; rw [hc]) | with_reducible refine L0.at ?_ | with_reducible refine L1.at ?_ | with_reducible refine L2'.at ?_ | with_reducible refine Lt.at ?_ | wp_step)
 exact hq
end
noncomputable def Q5 (n i:Nat) (cs:List Str) (F:Rho->Option Out) (fx:Rho->Option Str) (G:Rho->Option Out):Rho->Option Out:=fun ρ=>match F ρ with
 | some o=>some o
 | none=>match fx ρ with
  | some c=>if c ∈ cs then (match G ((Zr n).set i (some (JO c))) with
   | some (.rt d)=>some (.rt d)
   | _=>none) else none
  | none=>none
section
variable {X:Cx}{st b0:Stmt}{sts jO tb hb:List Stmt}{F G:Rho->Option Out}{fx:Rho->Option Str}{pos:Pos}
theorem af5 {y x:Str}{np hpos:Pos}{n:Nat}{cs:List Str} (i:Nat) (T0:Top0 X) (hN:X.N.length=n) (hnd:X.N.Nodup) (hE:ErrT X.K X.mg y cs) (hn:∀ E,Jh (X.wish E) tb F) (hx:∀ E,Zy (X.wish E) tb fx) (hh:∀ e,Jh (hX X e) (b0::hb) G)
  (hi:X.N[i]?=some x:=by rfl) (hl:X.env.kindOf x=some .local:=by rfl) (hlk:X.env.scope.names.lookup x=some .local:=by rfl) (hg:Gl X y:=by rfl) (hdb:(y == ("__debug__":Str))=false:=by decide):PS0 X (.Try tb [.ExceptHandler (some (.Name y np)) (some x) (b0::hb) hpos] [] [] pos) (Q5 n i cs F fx G):=by
 with_unfolding_all
  intro s σ H D I ⟨ρ,o,en,q,k⟩
  refine wpAny_Try_except ?_
  let E':Value->Shared->Prop:=fun ev s1=>wpAny (model X.prog X.w) X.A (noteFrame ev X.env) (fun _ s₂=>wpAny (model X.prog X.w) X.A (setFlight ev none) (fun _ s₃=>wpAny (model X.prog X.w) X.A (handleBy ev X.env [.ExceptHandler (some (.Name y np)) (some x) (b0::hb) hpos]) (SP X [] D) X.xe s₃) X.xe s₂) X.xe s1
  cases hF:F ρ with
  | some o1=>
   have e1:o1=o:=by simpa [Q5,hF] using q
   subst e1
   refine wpAny_mono (hn E' [] s σ H D (I.wish E') ⟨ρ,o1,en,hF,k⟩) (fun f s1 z=>?_) fun _ _ z=>z
   have z':=SP.unwish z
   cases f with
   | next=>exact wpAny_execs_nil z'
   | brk=>exact z'
   | cont=>exact z'
   | ret u=>exact z'
  | none=>
   cases hc:fx ρ with
   | none=>simp [Q5,hF,hc] at q
   | some c=>
    by_cases hy:c ∈ cs
    ·cases hG:G ((Zr n).set i (some (JO c))) with
     | none=>simp [Q5,hF,hc,hy,hG] at q
     | some o1=>
     cases o1 with
     | nx ρ1=>simp [Q5,hF,hc,hy,hG] at q
     | bk ρ1=>simp [Q5,hF,hc,hy,hG] at q
     | ct ρ1=>simp [Q5,hF,hc,hy,hG] at q
     | rt d=>
     have q':Out.rt d=o:=by simpa [Q5,hF,hc,hy,hG] using q
     subst q'
     obtain ⟨B,aB,mB,tB,bB,par⟩:=hE.par
     obtain ⟨C',aC,mC,xC,pC,_⟩:=par c hy
     refine wpAny_mono (hx E' s σ H ρ c (I.wish E') en hc fun ev s1 t=>?_) (fun _ _ z=>z.elim) fun _ _ z=>z
     obtain ⟨e,C,σ1,H1,rfl,hm,J,sm,xc⟩:=t
     have J0:=J.unwish
     have x0:=xc.unwish
     show wpAny _ X.A (noteFrame (.ref e) X.env) _ _ s1
     refine wpAny_mono (abp (E:=fun _ _=>False) T0 J0.ok.frames J0 x0) (fun _ s2 ⟨J2,t2⟩=>?_) fun _ _ z=>z.elim
     refine wpAny_mono (zL (E:=fun _ _=>False) none J2 t2) (fun _ s3 ⟨J3,t3⟩=>?_) fun _ _ z=>z.elim
     have ok:=J3.ok
     have hm0:X.mg c=some (.ref C):=hm
     rw [hm0] at mC; cases mC
     have fr:(X.A.mark (some (.ref e))).frames=some X.stack:=ok.frames
     have J4:Inv (hX X e) [] σ1 H1 s3:=Inv.asA J3 fr (fun z=>nomatch z)
     refine wpAny_handleBy_cons (codeAny_handlers_test ?_) (fun z=>nomatch z)
     refine Qd (X:=hX X e) J4 hg mB ?_ hdb
     obtain ⟨oe,ws,T,oT,ts,g1,g2,g3,g4,g5,g6,g7,g8,g9⟩:=id t3.ob
     refine ace J4.kIn g1 g2.1 tB bB pC ?_
     refine codeAny_handlers_suite_as ?_
     refine wpAny_mono (zL (A:=X.A.mark (some (.ref e))) (E:=fun _ _=>False) none J3 t3) (fun _ s5 ⟨J5,t5⟩=>?_) fun _ _ z=>z.elim
     obtain ⟨oe5,ws5,T5,oT5,ts5,g51,g52,g53,_⟩:=id t5.ob
     obtain ⟨J6,sm6⟩:=Inv.take J5 t5.mine g51
     have J7:Inv (hX X e) [] σ1 (upd H1 e (.frz oe5 (.own e))) s5:=Inv.asA J6 fr (fun z=>nomatch z)
     have hlen:σ1.length=n:=by rw [←hN,←J5.len]
     refine ZQ (X:=hX X e) J7 hnd hi (.inl hlk) (v:= .ref e) rfl (fun s6 J8=>?_) (.inr hlk)
     have re:Rep X.K (upd H1 e (.frz oe5 (.own e))) (JO c) (.ref e):=⟨e,rfl,.inr (.inr (.inr ⟨c,_,oe5,rfl,jp,adK aC,g52.1,g52.2,ws5,g53⟩))⟩
     have eb:EnvR X.K (upd H1 e (.frz oe5 (.own e))) ((Zr n).set i (some (JO c))) (σ1.set i (some (.ref e))):=by
      refine ⟨by simp [Zr,hlen],fun j d qd=>?_⟩
      by_cases hj:j=i
      ·subst hj
       rw [List.getElem?_set_self (by simp only [Zr,List.length_replicate]; rw [←hN]; exact (List.getElem?_eq_some_iff.mp hi).1)] at qd
       cases qd
       exact ⟨.ref e,List.getElem?_set_self (by rw [hlen,←hN]; exact (List.getElem?_eq_some_iff.mp hi).1),re⟩
      ·rw [List.getElem?_set_ne (Ne.symm hj)] at qd
       simp [Zr,List.getElem?_replicate] at qd
     refine wpAny_mono (hh e [] s6 _ _ { D with nx:=fun _ _=>False,bk:=fun _ _=>False,ct:=fun _ _=>False } J8 ⟨_,.rt d,eb,hG,fun v H' sm' r=>k v H' ((sm.trans sm6).trans sm') r⟩) (fun f s7 z=>?_) fun _ _ z=>z.elim
     have z':=SP.ofA J5.ok z
     cases f with
     | next=>obtain ⟨_,_,_,z⟩:=z'; exact z.elim
     | brk=>obtain ⟨_,_,_,z⟩:=z'; exact z.elim
     | cont=>obtain ⟨_,_,_,z⟩:=z'; exact z.elim
     | ret u=>
      obtain ⟨v,σ',H',I',r,z⟩:=z'
      exact ahJ I' hl fun s8 I8=>⟨v,_,H',I8,r,z⟩
    ·simp [Q5,hF,hc,hy] at q
end
noncomputable abbrev ald:=Int × (Int × Int)
structure TripAt (h:Heap) (u:Value) (t:ald):Prop where
 ex:∃ a o k tk a2,u= .ref a/\h.get? a=some o/\o.cls= .type "tuple"/\o.data= .seq #[.int t.1 tk,.ref a2] k/\PairAt h (.ref a2) t.2
section
variable {X:Cx}
theorem af6 {pins:List (Addr × Obj)}{σ:St}{H:Hp}{s:Shared}{a:Addr}{o:Obj}{xs:Array Value}{k:Nat} (I:Inv X pins σ H s) (eo:s.heap.get? a=some o) (dk:o.data= .seq xs k):a ≠ X.env.locals:=fun z=>by
 obtain ⟨_,⟨o',es,ep,h1,h2,_⟩,_⟩:=I.loc
 rw [z] at eo; rw [eo] at h1; cases h1
 rw [dk] at h2; cases h2
theorem ahK {pins:List (Addr × Obj)}{σ:St}{H:Hp}{s:Shared}{v:V}{p:Int × Int}{u:Value}{h':Heap} (I:Inv X pins σ H s) (r:Rep X.K H (afE p) v) (rv:jy v u) (kp:∀ b o,b ≠ X.env.locals->s.heap.get? b=some o->h'.get? b=some o):∃ a,u= .ref a/\PairAt h' u p:=by
 obtain ⟨a2,ws,e2,e3,x1,r1,e4,e5,x2,r2,e6,e7,e8⟩:=r
 cases (show x1=_ from e5)
 cases (show x2=_ from e7)
 cases (show r2=[] from e8)
 subst e6; subst e4; subst e2
 cases rv
 obtain ⟨its,r3,⟨o,eo,co,k,dk⟩,_⟩:=I.tuple e3
 cases r3 with
 | cons y1 r3=>
  cases r3 with
  | cons y2 r3=>
   cases r3
   obtain ⟨t,rfl⟩:=y1
   obtain ⟨t',rfl⟩:=y2
   exact ⟨a2,rfl,a2,o,k,t,t',rfl,kp a2 o (af6 I eo dk) eo,co,by simpa using dk⟩
end
section
variable {α:Type}
end
section
variable {X:Cx}{e a b c:Expr}{es jO:List Expr}{st:Stmt}{sts srest:List Stmt}{fx gx:Rho->Option Str}{fa fb:Rho->Option PyData}{F:Rho->Option Out}{pos:Pos}
theorem ajl {tc:Rho->Option Bool} (hc:PTD X c tc) (ha:PDX X a fx) (hb:PDX X b gx):PDX X (.IfExp c a b pos) (ifX tc fx gx):=by
 with_unfolding_all
  intro s σ H ρ c I en q k
  cases ht:tc ρ with
  | none=>simp [ifX,ht] at q
  | some x=>
   refine wpAny_IfExp (wpAny_mono (hc [] s σ H (fun b H'=>b=x/\ji H H') I ⟨ρ,x,en,ht,fun H' s1=>⟨rfl,s1⟩⟩) (fun d s1 z=>?_) fun _ _ z=>z)
   obtain ⟨H1,I1,rfl,s1'⟩:=z
   cases d with
   | true=>exact ha s1 σ H1 ρ c I1 (en.mono s1') (by simpa [ifX,ht] using q) fun ev s' t=>k ev s' (t.mono s1')
   | false=>exact hb s1 σ H1 ρ c I1 (en.mono s1') (by simpa [ifX,ht] using q) fun ev s' t=>k ev s' (t.mono s1')
noncomputable def items:PyData->Option (List PyData)
 | .list ds=>some ds
 | .tuple ds=>some ds
 | _=>none
noncomputable def itS (fa:Rho->Option PyData):Rho->Option (List PyData):=fun ρ=>(fa ρ).bind items
theorem zw {tg:Expr} (h:PD X e fa):PID X tg e (itS fa):=by
 with_unfolding_all
  intro pins s σ H R I ⟨ρ,ds,en,q,k⟩
  cases hf:fa ρ with
  | none=>simp [itS,hf] at q
  | some d=>
   have q':items d=some ds:=by simpa [itS,hf] using q
   cases d with
   | list es=>
    cases q'
    exact Qj (tg:=tg) h pins s σ H R I ⟨ρ,ds,en,by simp [itL,hf,JX],k⟩
   | tuple es=>
    cases q'
    exact ahh (tg:=tg) h pins s σ H R I ⟨ρ,ds,en,by simp [itT,hf,abd],k⟩
   | _=>cases q'
end
theorem _root_.L2.Room.sort {k:Nat}{A:Around} (r:Room k A):A.in1.in1.units+8 < cLine:=by
 have:=r.un
 show A.units+1+1+8 < cLine
 omega
theorem _root_.L2.Room.units1 {k:Nat}{A:Around} (r:Room k A):A.units+1 < cLine:=by have:=r.un; omega
theorem RoomH.units {k:Nat}{A:Around} (r:RoomH k A):A.units+64 < cLine:=by have:=r.un; omega
theorem RoomH.mono {j k:Nat}{A:Around} (r:RoomH k A) (h:j<=k):RoomH j A:=⟨by have:=r.dp; omega,by have:=r.un; omega⟩
section
variable {X:Cx}{a b:Expr}{pos:Pos}
end
section
variable {X:Cx}{e a b c:Expr}{l r:List Stmt}{fx gx:Rho->Option Str}{pos:Pos}
end
section
variable {X:Cx}{own:Option Nat}{tg:Expr}{st:Stmt}{sts:List Stmt}{fx:Rho->Option Str}{F:Rho->Option Out}
end
theorem aeE {X:Cx}:JR X (.type "list") abo:=by
 refine ⟨_,aa7,fun ds d xs H Q h r k=>?_⟩
 unfold abo at h
 split at h
 ·cases h
  obtain ⟨x,q,e1,e2,e3⟩:=r
  cases (show q=[] from e3)
  obtain ⟨a,us,g1,g2,g3⟩:=e2
  subst g1
  exact ⟨a,us,e1,.inl (SqL.of g2),fun l hl=>k _ _ (jt hl) ⟨l,us,rfl,jp,Reps.mono (jt hl) _ _ g3⟩⟩
 ·cases h
  obtain ⟨x,q,e1,e2,e3⟩:=r
  cases (show q=[] from e3)
  obtain ⟨a,us,g1,g2,g3⟩:=e2
  subst g1
  exact ⟨a,us,e1,.inr g2,fun l hl=>k _ _ (jt hl) ⟨l,us,rfl,jp,Reps.mono (jt hl) _ _ g3⟩⟩
 ·cases h
section
variable {X:Cx}{a i e:Expr}{es:List Expr}{pos fp:Pos}
end
theorem ji.sE {H H':Hp} (s:ji H H'):jB H H':=ji.e s
section
variable {X:Cx}{own:Option Nat}{e a b c:Expr}{es:List Expr}{st:Stmt}{sts jO:List Stmt}{fa fb fc:Rho->Option PyData}{F G:Rho->Option Out}{pos:Pos}
noncomputable def acf (F:Rho->Option Out):Rho->Option Out:=fun ρ=>match F ρ with
 | some (.rt d)=>some (.rt d)
 | _=>none
theorem af7 {i:Nat} (h:Jh X sts F):abm X (some i) sts (acf F):=by
 with_unfolding_all
  intro pins s σ H D I ⟨Hs,ρ,o,E,q,k⟩
  cases hF:F ρ with
  | none=>simp [acf,hF] at q
  | some o1=>
   cases o1 with
   | rt d=>
    have:Out.rt d=o:=by simpa [acf,hF] using q
    subst this
    obtain ⟨d0,a,cl,o',g1,g2,g3,S,g4,env,sm,back,keep⟩:=E.opn
    exact h pins s σ (upd H a o') D (Inv.opened I S g4) ⟨ρ,.rt d,env,hF,fun v H' s' r=>k v H' (sm.trans s') r⟩
   | nx _=>simp [acf,hF] at q
   | bk _=>simp [acf,hF] at q
   | ct _=>simp [acf,hF] at q
end
section
variable {X:Cx}{tg src:Expr}{pos pos':Pos}{own:Option Nat}
end
noncomputable def akw (ps:List (Int × Int)):PyData:= .tuple (ps.map afE)
noncomputable def Qz (h:Heap):List Value->List (Int × Int)->Prop
 | [],ps=>ps=[]
 | v::vs,ps=>∃ p r a,ps=p::r/\v= .ref a/\PairAt h (.ref a) p/\Qz h vs r
theorem Qz.len {h:Heap}:∀ {vs:List Value}{ps:List (Int × Int)},Qz h vs ps->vs.length=ps.length
 | [],ps,e=>by cases (show ps=[] from e); rfl
 | v::vs,ps,⟨p,r,a,e,_,_,k⟩=>by rw [e,List.length_cons,List.length_cons,k.len]
structure SetAt (h:Heap) (u:Value) (ps:List (Int × Int)):Prop where
 ex:∃ a o k vs,u= .ref a/\h.get? a=some o/\o.cls= .type "tuple"/\o.data= .seq (List.toArray vs) k/\Qz h vs ps
section
variable {X:Cx}
theorem acg {pins:List (Addr × Obj)}{σ:St}{H:Hp}{s:Shared}{h':Heap} (I:Inv X pins σ H s) (kp:∀ b o,b ≠ X.env.locals->s.heap.get? b=some o->h'.get? b=some o):∀ (ps:List (Int × Int)) (xs:List V) (us:List Value),Reps X.K H (ps.map afE) xs->jw xs us->Qz h' us ps
 | [],xs,us,r,v=>by
  cases (show xs=[] from r)
  cases v
  rfl
 | p::ps,xs,us,r,v=>by
  obtain ⟨x,q,rfl,e2,e3⟩:=r
  cases v with
  | cons y v=>
   obtain ⟨a,rfl,pp⟩:=ahK I e2 y kp
   exact ⟨p,ps,a,rfl,rfl,pp,acg I kp ps _ _ e3 v⟩
theorem aad {pins:List (Addr × Obj)}{σ:St}{H:Hp}{s:Shared}{v:V}{p:List (Int × Int)}{u:Value}{h':Heap} (I:Inv X pins σ H s) (r:Rep X.K H (akw p) v) (rv:jy v u) (kp:∀ b o,b ≠ X.env.locals->s.heap.get? b=some o->h'.get? b=some o):SetAt h' u p:=by
 obtain ⟨a2,ws,e2,e3,e4⟩:=r
 subst e2
 cases rv
 obtain ⟨its,r3,⟨o,eo,co,k,dk⟩,_⟩:=I.tuple e3
 exact ⟨a2,o,k,its,rfl,kp a2 o (af6 I eo dk) eo,co,dk,acg I kp p ws its e4 r3⟩
end
set_option maxHeartbeats 4000000 in
section
variable {X:Cx}
end
section
variable {prog:Program}{w:World}{A:Around}{E:Value->Shared->Prop}{s:Shared}
theorem ach {sl:Addr}{vk:Value}{n:Nat}{Q:Int × Int × Nat->Shared->Prop} (hs:s.heap.IsSliceOf sl .none .none vk) (pk:IsPart vk (some (-1)))
  (h:Q ((n:Int) - 1,-1,n) s):wpAny (model prog w) A (Builtin.Slice.sliceApplied (.ref sl) (pure (n:Int))) Q E s:=by
 obtain ⟨os,hos,hcs,hds⟩:=id hs
 unfold Builtin.Slice.sliceApplied Builtin.Slice.sliceFields
 refine wpAny_bind (wpAny_bind (wpAny_field hos hds (x:= .none) rfl (wpAny_bind (wpAny_field hos hds (x:= .none) rfl (wpAny_bind (wpAny_field hos hds (x:=vk) rfl (wpAny_pure ?_)))))))
 refine wpAny_bind (HT.slicePart_ pk ?_)
 show wpAny _ _ (if (((-1:Int)) == 0)=true then _ else _) _ _ s
 rw [if_neg (by decide)]
 refine wpAny_bind (PyProof.Rows.slicePart_none (wpAny_bind (PyProof.Rows.slicePart_none (wpAny_bind (wpAny_pure ?_)))))
 show wpAny _ _ (pure (((n:Int) - 1),(-1:Int),Builtin.Slice.slicePlaces ((n:Int) - 1) (-1) (-1))) _ _ s
 have e:Builtin.Slice.slicePlaces ((n:Int) - 1) (-1) (-1)=n:=by
  unfold Builtin.Slice.slicePlaces
  rw [if_neg (by decide)]
  by_cases hn:(n:Int) - 1 > -1
  ·rw [if_pos hn,show (- -1:Int)=1 by decide,Int.ediv_one]; omega
  ·rw [if_neg hn]; omega
 rw [e]
 exact wpAny_pure h
theorem aeF (xs:Array Value):((List.range xs.size).filterMap fun (k:Nat)=>xs[(((xs.size:Int) - 1)+(k:Int)*(-1)).toNat]?).toArray=xs.toList.reverse.toArray:=by
 have e:((List.range xs.size).filterMap fun (k:Nat)=>xs[(((xs.size:Int) - 1)+(k:Int)*(-1)).toNat]?)=((List.range xs.size).map fun k=>xs.size - 1 - k).filterMap (xs[·]?):=by
  rw [List.filterMap_map]
  have key:∀ l:List Nat,(∀ k ∈ l,k < xs.size)->l.filterMap (fun (k:Nat)=>xs[(((xs.size:Int) - 1)+(k:Int)*(-1)).toNat]?)=l.filterMap ((fun x=>xs[x]?) ∘ fun k=>xs.size - 1 - k):=by
   intro l
   induction l with
   | nil=>intro _; rfl
   | cons k l ih=>
    intro hl
    have hk:=hl k List.mem_cons_self
    have e1:(((xs.size:Int) - 1)+(k:Int)*(-1)).toNat=xs.size - 1 - k:=by omega
    simp only [List.filterMap_cons,Function.comp_apply,e1,ih fun j hj=>hl j (List.mem_cons_of_mem _ hj)]
  exact key _ fun k hk=>List.mem_range.mp hk
 rw [e,PySem.W.krv_range,List.filterMap_reverse,PySem.W.krv_all]
theorem Zz {t sl:Addr}{items:Array Value}{vk:Value}{Q:Value->Shared->Prop} (ht:IsTup s.heap t items) (hs:s.heap.IsSliceOf sl .none .none vk) (pk:IsPart vk (some (-1)))
  (h:Q (.ref s.heap.objs.size) { s with heap:=s.heap.push { cls:= .type "tuple",data:= .seq items.toList.reverse.toArray } }) (hsz:items.size<=sizeLine):wpAny (model prog w) A (getItem (.ref t) (.ref sl)) Q E s:=by
 obtain ⟨os,hos,hcs,hds⟩:=id hs
 have hTs:s.TypeIs (.ref sl) "slice":=⟨os,hos,hcs⟩
 have hz:sizeOk (.seq items.toList.reverse.toArray):=by
  show items.toList.reverse.toArray.size<=sizeLine
  rw [List.size_toArray,List.length_reverse,Array.length_toList]; exact hsz
 unfold getItem
 first | (with_reducible refine wpAny_holding ?_) | skip
 first | refine wpAny_bind (wpAny_pure ?_) | skip
 refine wpAny_bind (wpAny_sequenceKey ht.typeIs (by decide) ?_)
 refine wpAny_bind (wpAny_callSpecial?_slot (name:=Str.ofString "__getitem__") ht.typeIs PyProof.Rows.slot_tuple_getitem (wpAny_call_entry PyProof.Rows.slot_tuple_getitem ht.typeIs entry_tuple_getitem ?_ (args_tuple_getitem _ _)))
 show wpAny _ _ (Builtin.Tuple.tupleItemsOf (.ref t) >>= _) _ _ s
 refine wpAny_bind (tupleItemsOf_ ht (wpAny_bind (wpAny_typeOf hTs ?_)))
 rw [if_pos (show (Value.type "slice" == Value.type "slice")=true by decide)]
 refine wpAny_bind (ach hs pk ?_)
 show wpAny _ _ (if (((items.size:Int) - 1) == 0 && ((-1:Int)) == 1 && items.size == items.size)=true then _ else _) _ _ s
 rw [if_neg (by simp),aeF]
 first
  | exact wpAny_bind (m:=Builtin.Tuple.tupleExact _) (wpAny_newObj_type (wpAny_pure ⟨_,rfl,wpAny_pure h⟩) hz)
  | exact wpAny_bind (m:=Builtin.Tuple.tupleExact _) (wpAny_newObj_type (wpAny_bind (wpAny_pure (wpAny_pure ⟨_,rfl,wpAny_pure h⟩))) hz)
  | exact wpAny_bind (wpAny_bind (m:=Builtin.Tuple.tupleExact _) (wpAny_newObj_type (wpAny_pure (wpAny_pure ⟨_,rfl,wpAny_pure h⟩)) hz))
  | exact wpAny_bind (wpAny_bind (m:=Builtin.Tuple.tupleExact _) (wpAny_newObj_type (wpAny_pure ⟨_,rfl,wpAny_pure h⟩) hz))
end
section
variable {X:Cx}{a:Expr}{fa:Rho->Option PyData}{pos p1 p2 p3:Pos}{j:Nat}
noncomputable def ahL (p:PyData):Option PyData:=match p with
 | .tuple ds=>some (.tuple ds.reverse)
 | .list ds=>some (.list ds.reverse)
 | _=>none
theorem Reps.rev {K:PySem.W.Frag}{H:Hp}{ds:List PyData}{xs:List V} (h:Reps K H ds xs):Reps K H ds.reverse xs.reverse:=by
 have app:∀ {as bs:List PyData} {us vs:List V},Reps K H as us->Reps K H bs vs->Reps K H (as++bs) (us++vs):=by
  intro as
  induction as with
  | nil=>intro bs us vs h1 h2; cases (show us=[] from h1); exact h2
  | cons d as ih=>
   intro bs us vs ⟨x,r,e,h1,h2⟩ h3
   subst e
   exact ⟨x,r++vs,rfl,h1,ih h2 h3⟩
 induction ds generalizing xs with
 | nil=>cases (show xs=[] from h); rfl
 | cons d ds ih=>
  obtain ⟨x,r,rfl,h1,h2⟩:=h
  rw [List.reverse_cons,List.reverse_cons]
  exact app (ih h2) ⟨x,[],rfl,h1,rfl⟩
theorem ajm (ha:PD X a fa):PD X (.Subscript a (.Slice none none (some (.UnaryOp .USub (.Constant (.int 1) j p1) p2)) p3) pos) (fun ρ=>(fa ρ).bind ahL):=by
 with_unfolding_all
  intro pins s σ H Q I ⟨ρ,d,en,q,k⟩
  cases h1:fa ρ with
  | none=>simp [h1] at q
  | some p=>
   have q':ahL p=some d:=by simpa [h1] using q
   refine Subscript_ (thn (ha pins s σ H (fun v H1=>ji H H1/\Rep X.K H1 p v) I ⟨ρ,p,en,h1,fun v H1 s1 r1=>⟨s1,r1⟩⟩) fun v s1 ⟨x,H1,I1,r1,sm,rp⟩=>?_)
   refine wpAny_Slice ?_
   rw [evalPart_none]
   refine wpAny_pure (wpAny_pure ?_)
   refine thn (aa4 (X:=X) (aim ae6 aa2) pins s1 σ H1 (fun o H2=>o=some (-1)/\H2=H1) I1 ⟨1,rfl,-1,rfl,rfl,rfl⟩) fun vk s2 ⟨o,H2,I2,pk,e1,e2⟩=>?_
   subst e1
   subst e2
   have I4:Inv X pins σ H2 { s2 with heap:=s2.heap.push { cls:= .type "slice",data:= .fields #[.none,.none,vk] } }:=I2.kept (t':=s2.toks) fun b ob q=>Heap.get?_push_of_some _ q
   unfold ahL at q'
   split at q'
   ·rename_i ds
    cases q'
    obtain ⟨t,xs,rfl,hx,rr⟩:=rp
    cases r1
    obtain ⟨its,r,ht,hz⟩:=I4.tuple hx
    have hlen:its.toArray.size=xs.length:=by rw [List.size_toArray]; exact r.length.symm
    refine tail_any (ops:=[.ref t,.ref s2.heap.objs.size]) ht.typeIs PyProof.Rows.slot_tuple_getitem.lookup (Zz ht (Heap.IsSliceOf.new ..) pk ?_ (by rw [hlen]; exact hz)) (by with_unfolding_all rfl)
    have hn:=I4.hok.fresh (Nat.le_refl _)
    refine ⟨.ref _,_,I4.laid (t':=s2.toks) (o:= .tup xs.reverse) (fun b ob q=>Heap.get?_push_of_some _ q) (Nat.le_refl _) ?_,rfl,k _ _ (sm.trans (jt hn)) ⟨_,_,rfl,SqT.of jp,Reps.mono (jt hn) _ _ rr.rev⟩⟩
    exact ⟨by rw [List.length_reverse]; exact hz,_,r.reverse,IsTup.new _ _⟩
   ·rename_i ds
    cases q'
    obtain ⟨t,xs,rfl,hx,rr⟩:=rp
    cases r1
    obtain ⟨its,r,ht,hz⟩:=I4.list (SqL.of hx)
    have hlen:=r.length
    refine tail_any (ops:=[.ref t,.ref s2.heap.objs.size]) ht.isList.typeIs slot_list_getitem.lookup (wpAny_getItem_list_slice ht.isList (Heap.IsSliceOf.new ..) .none .none pk (by decide) ?_ (by rw [List.size_toArray] <;> omega)) (by with_unfolding_all rfl)
    rw [PySem.W.krv_pick]
    have hn:=I4.hok.fresh (Nat.le_refl _)
    refine ⟨.ref _,_,I4.laid (t':=s2.toks) (o:= .lst xs.reverse) (fun b ob q=>Heap.get?_push_of_some _ q) (Nat.le_refl _) ?_,rfl,k _ _ (sm.trans (jt hn)) ⟨_,_,rfl,jp,Reps.mono (jt hn) _ _ rr.rev⟩⟩
    exact ⟨by rw [List.length_reverse]; exact hz,_,0,r.reverse,Heap.get?_push_size _ rfl⟩
   ·cases q'
end
section
variable {X:Cx}{e b ev:Expr}{jO:List Stmt}{fe fk fv:Rho->Option PyData}{G:Rho->Option Out}{pos pos2:Pos}
end
section
variable {X:Cx}
noncomputable def ajn (bt:Int->Int->Bool):List V->Hp->VK->Prop:=fun xs H Q=>∃ d ob ks ns m,xs=[.ref d]/\H d=some (.frz ob (.dK ks))/\ks.map (·.1)=ns.map (fun n=>(Sum.inl n:Key))/\zj bt ns=some m/\Q (.int m) H
theorem aeG (hc:X.calm=true):za X (.builtin "max") (ajn fun i j=>decide (i > j)):=by
 intro pins s σ H xs us Q I r ⟨d,ob,ks,ns,m,e,hq,hk,hm,q⟩
 subst e
 obtain ⟨u,rfl,rx⟩:=Qg r
 cases rx
 have hh:=I.ok.hd hc
 have h0:0 < ns.length:=by cases ns with
  | nil=>cases hm
  | cons n ns=>simp
 have hb:=ab2 (fun i j=>decide (i > j)) ns h0
 rw [hm] at hb
 have hb:=Option.some.inj hb
 obtain ⟨o0,z,nm,vs,rel,ob',es,ep,h4,h5,h6,h7⟩:=I.hok d _ hq
 rw [o0] at h4; cases h4
 have hl:=rel.length
 have hkl:ks.length=ns.length:=by have:=congrArg List.length hk; simpa using this
 have key:∀ (ks:List (Key × V)) (vs:List (Key × Value)) (ns:List Int),KV ks vs->ks.map (·.1)=ns.map (fun n=>(Sum.inl n:Key))->∀ i k x,vs[i]?=some (k,x)->k=Sum.inl (ns.getD i 0):=by
  intro ks
  induction ks with
  | nil=>intro vs ns r _ i k x e; cases r; simp at e
  | cons p ks ih=>
   intro vs ns r hk i k x e
   cases r with
   | cons r1 r2=>
    cases ns with
    | nil=>simp at hk
    | cons n ns=>
     rw [List.map_cons,List.map_cons] at hk
     obtain ⟨e1,e2⟩:=List.cons.inj hk
     cases i with
     | zero=>
      simp at e
      subst e
      have r0:=r1.1
      simp only at r0
      rw [←r0,e1]; rfl
     | succ i=>exact ih _ ns r2 e2 i k x (by simpa using e)
 have da:s.heap.DictAt (jN X.prog X.w) d vs ep:=⟨ob,es,o0,h5,h6,h7⟩
 have hlt:=Heap.lt_size o0
 refine call_max_walk (wpAny_pyIter_dict nm da ?_)
 have hn:s.heap.objs.size ≠ d:=Nat.ne_of_gt hlt
 have hsz:(s.heap.push { cls:= .type "dict_keyiterator",data:= .fields #[.ref d,.int 0 0,.int vs.length 0,.int ep 0] }).objs.size=s.heap.objs.size+1:=Heap.size_push ..
 have pk:∀ i v,(∃ k x,vs[i]?=some (k,x)/\(jN X.prog X.w).is k v=true)->∃ t,v= .int (ns.getD i 0) t:=fun i v ⟨k,x,e1,e2⟩=>by
  rw [key ks vs ns rel hk i k x e1,acK] at e2
  rcases jQ e2 with ⟨n,t,e3,e4⟩ | ⟨y,t,e3,_⟩
  ·cases e3; exact ⟨t,e4⟩
  ·cases e3
 refine ⟨s.heap.objs.size,[s.heap.objs.size,d],[s.heap.objs.size],vs.length,_,_,_,rfl,Walks.dictKeys (A:=X.A.in1) hh s.heap.objs.size d hn.symm vs ep,⟨⟨_,Heap.get?_push_size _ rfl,rfl,rfl⟩,⟨ob,es,Heap.get?_push_of_some _ o0,h5,h6,h7⟩⟩,fun b hb'=>?_,by omega,CmpOf.ints_gt (fun i=>ns.getD i 0) pk,fun v h3 tk hP k2=>?_⟩
 ·have e3:b=s.heap.objs.size ∨ b=d:=by simpa using hb'
  rw [hsz]
  rcases e3 with e3 | e3
  ·rw [e3]; exact Nat.lt_succ_self _
  ·rw [e3]; exact Nat.lt_succ_of_lt hlt
 ·obtain ⟨t,rfl⟩:=pk _ v hP
  refine ⟨.int m,H,I.kept (t':=tk) fun b o e=>k2 b o (by have:=Heap.lt_size e; simp; exact Nat.ne_of_lt this) (Heap.get?_push_of_some _ e),⟨t,?_⟩,q⟩
  rw [←hl,hkl,hb]
noncomputable def af8 (ds:List PyData):Option PyData:=match ds with
 | [p]=>(zW p).bind fun r=>(jX (r.map (·.1))).bind fun ns=>(zj (fun i j=>decide (i > j)) ns).map .int
 | _=>none
theorem Zs:∀ ns:List Int,jX (ns.map PyData.int)=some ns
 | []=>rfl
 | n::ns=>by simp [jX,zd,Zs ns]
theorem RepM.ints {K:PySem.W.Frag}{H:Hp}:∀ {r:List (PyData × PyData)}{ks:List (Key × V)}{ns:List Int},RepM K H r ks->jX (r.map (·.1))=some ns->ks.map (·.1)=ns.map (fun n=>(Sum.inl n:Key))
 | [],ks,ns,h,e=>by cases (show ks=[] from h); cases e; rfl
 | (k,c)::r,ks,ns,⟨i,x,s,h1,h2,h3,h4⟩,e=>by
  subst h1; subst h2
  have e':=qR e
  cases ns with
  | nil=>simp at e'
  | cons n ns=>
   rw [List.map_cons,List.map_cons] at e'
   obtain ⟨e1,e2⟩:=List.cons.inj e'
   have e1:i=n:=by injection e1
   have e3:jX (r.map (·.1))=some ns:=by rw [e2]; exact Zs ns
   rw [List.map_cons,List.map_cons,RepM.ints h4 e3,e1]
theorem ahM (hc:X.calm=true):JR X (.builtin "max") af8:=by
 refine ⟨_,aeG hc,fun ds d xs H Q h r k=>?_⟩
 unfold af8 at h
 split at h
 ·rename_i p
  cases h1:zW p with
  | none=>simp [h1] at h
  | some pr=>
   cases h2:jX (pr.map (·.1)) with
   | none=>simp [h1,h2] at h
   | some ns=>
    cases h3:zj (fun i j=>decide (i > j)) ns with
    | none=>simp [h1,h2,h3] at h
    | some m=>
     have:PyData.int m=d:=by simpa [h1,h2,h3] using h
     subst this
     obtain ⟨x,q,e1,e2,e3⟩:=r
     cases (show q=[] from e3)
     obtain ⟨a,ks,ob,g1,g2,g3⟩:=zv h1 e2
     subst g1
     exact ⟨a,ob,ks,ns,m,e1,g2,g3.ints h2,h3,k _ H (ji.refl H) rfl⟩
 ·cases h
end
end BX
end
local macro_rules
  | `(tactic| dsimp? [$xs,*])=>`(tactic| simp only [BX.jR,BX.ifS,BX.ifD,BX.ifX,BX.aa9,BX.orB,BX.zk,BX.tst,BX.op2,BX.chn,BX.jD,BX.Jd,BX.JV,BX.jk,BX.jA,BX.lkp,BX.cst,BX.zc,BX.QW,BX.zE,BX.jL,BX.zu,BX.nxX,BX.orX,BX.ac9,BX.abb,BX.asB,zzA,zzB,zzC,zzD,zzH,zzE,zzI,zzF,zzG,zzJ,zzK,zzL,zzM,zzN,$(⟨xs.elemsAndSeps⟩),*])
section
namespace Rods
open PySem L2 BX
open PyProof.Rows hiding St
noncomputable def top (i:Nat):Stmt:=PySem.Challenge.pw_beadrods_k01_manners.main.body.getD i (.Pass ⟨0,0,0,0⟩)
structure Bare (mg:Str->Option Value):Prop where
 isi:mg "isinstance"=none
 bool:mg "bool"=none
 int:mg "int"=none
 tuple:mg "tuple"=none
 zip:mg "zip"=none
 range:mg "range"=none
 all:mg "all"=none
 len:mg "len"=none
 max:mg "max"=none
 min:mg "min"=none
 sum:mg "sum"=none
 sorted:mg "sorted"=none
 abs:mg "abs"=none
 list:mg "list"=none
 enum:mg "enumerate"=none
 vale:mg "ValueError"=none
 str:mg "str"=none
 set:mg "set"=none
 dict:mg "dict"=none
theorem abv:bootBuiltins "bool"=some (.type "bool"):=by decide +kernel
theorem af9:bootBuiltins "int"=some (.type "int"):=by decide +kernel
theorem aci:bootBuiltins "tuple"=some (.type "tuple"):=by decide +kernel
theorem ahN:bootBuiltins "list"=some (.type "list"):=by decide +kernel
theorem ajo:bootBuiltins "all"=some (.builtin "all"):=by decide +kernel
theorem Jo:bootBuiltins "len"=some (.builtin "len"):=by decide +kernel
theorem abk:bootBuiltins "max"=some (.builtin "max"):=by decide +kernel
theorem abj:bootBuiltins "min"=some (.builtin "min"):=by decide +kernel
theorem adc:bootBuiltins "sum"=some (.builtin "sum"):=by decide +kernel
end Rods
namespace Rods
open PySem L2 BX
open PyProof.Rows hiding St
noncomputable abbrev QA:Stmt:=top 9
noncomputable abbrev JG:Stmt:=top 18
noncomputable abbrev QB:Stmt:=top 17
noncomputable abbrev abw:Stmt:=top 23
noncomputable abbrev Jp (C:Program->World->PySem.W.Frag->(Str->Option Value)->Heap->Prop) (qual:Str) (st:Stmt) (N:List Str) (k:Nat) (B:Rho->Option Out):Prop:=
 ∀ (P:Program) (w:World) (K:PySem.W.Frag) (mg:Str->Option Value) (base:Heap) (f:Addr) (cdv:Value) (A:Around) (outer:List Env) (s:Shared) (H:Hp) (E:XK),C P w K mg base->Room k (A.deeper (envOfC qual (jf st) s.heap.objs.size f cdv))->
  Jh (zp CX0 P w K mg base N qual (jf st) f cdv A outer s H E).nox (jK st) B
theorem add:FnScope ["thing","least","most"] ["thing","least","most"] (jf QA):=⟨rfl,rfl,rfl,by decide +kernel,rfl,by decide +kernel,by decide +kernel⟩
noncomputable def QC:{ B:Rho->Option Out // Jp (fun _ _ _ mg _=>Bare mg) "is_whole" QA ["thing","least","most"] 0 B }:=
 ⟨_,fun P w K mg base f cdv A outer s H E T hr=>
  jc (j5 (zb (zV (j7 (J1 (.inl rfl) T.isi T.bool abv (jb 0))) (zU (jV (j7 (J1 (.inr (.inl rfl)) T.isi T.int af9 (jb 0))))))) (jc (ju qF) jh) jh)
  (jc (ju (afp zG zG (jb 1) (jb 0) (jb 2))) jh)⟩
noncomputable def jY:List PyData->Option PyData:=jC ["thing","least","most"] 3 QC.1
theorem acj:FnScope ["manner","rod"] ["manner","rod"] (jf JG):=⟨rfl,rfl,rfl,by decide +kernel,rfl,by decide +kernel,by decide +kernel⟩
noncomputable def Q6:{ B:Rho->Option Out // Jp (fun _ _ _ _ _=>True) "rod_worth" JG ["manner","rod"] 0 B }:=
 ⟨_,fun P w K mg base f cdv A outer s H E T hr=>
  jc (ju (jo jv (jo qK (qO (jb 1) jg) (qO (jb 0) jg)) (qO (jb 1) jg))) jh⟩
noncomputable def qf:List PyData->Option PyData:=jC ["manner","rod"] 2 Q6.1
theorem aga:FnScope ["rod"] ["rod"] (jf abw):=⟨rfl,rfl,rfl,by decide +kernel,rfl,by decide +kernel,by decide +kernel⟩
noncomputable def ade:{ B:Rho->Option Out // Jp (fun _ _ _ _ _=>True) "beads" abw ["rod"] 0 B }:=
 ⟨_,fun P w K mg base f cdv A outer s H E T hr=>jc (ju (jo jv (qO (jb 0) jg) (qO (jb 0) jg))) jh⟩
noncomputable def qL:List PyData->Option PyData:=jC ["rod"] 1 ade.1
noncomputable def ql (i:Nat) (m:Nat):List PyData:=(List.range m).map fun (j:Nat)=>PyData.tuple [.int (i:Int),.int (j:Int)]
noncomputable def qu (n m:Nat):List PyData:=(List.range n).flatMap fun (i:Nat)=>ql i m
theorem ack (i m:Nat):ql i (m+1)=ql i m++[PyData.tuple [.int (i:Int),.int (m:Int)]]:=by simp [ql,List.range_succ]
theorem zY (n m:Nat):qu (n+1) m=qu n m++ql n m:=by simp [qu,List.range_succ]
theorem acl (i m:Nat):noLs (ql i m)=true:=Z6 fun d hd=>by
 obtain ⟨j,_,rfl⟩:=List.mem_map.mp hd
 simp [noL,noLs]
theorem aaT (n m:Nat):noLs (qu n m)=true:=by
 induction n with
 | zero=>simp [qu,noLs]
 | succ n ih=>rw [zY,Jl,ih,acl]; rfl
theorem abx (i m:Nat):(ql i m).length=m:=by simp [ql]
theorem zM (n m:Nat):(qu n m).length=n*m:=by
 induction n with
 | zero=>simp [qu]
 | succ n ih=>rw [zY,List.length_append,ih,abx,Nat.succ_mul]
noncomputable def qv (ds:List PyData):Option PyData:=match ds with
 | [.tuple [.int u,.int _,.int l,.int _]]=>if 0<=u/\u < 1000/\0<=l/\l < 1000 then some (.list (qu (u+1).toNat (l+1).toNat)) else none
 | _=>none
theorem zZ:FnScope ["manner","rods","upper","lower"] ["manner"] (jf QB):=⟨rfl,rfl,rfl,by decide +kernel,rfl,by decide +kernel,by decide +kernel⟩
end Rods
namespace Rods
open PySem L2 BX
open PyProof.Rows hiding St
section
variable {P:Program}{w:World}{K:PySem.W.Frag}{mg:Str->Option Value}{base:Heap}
theorem adf {f:Addr}{fd:FuncData} (F:Fun K "all_rods" "all_rods" QB f fd) (T:Bare mg):FnOk P w K mg base CX0 1 f fd ["manner"] (Pur K 1 qv):=by
 with_unfolding_all
  refine F.ok zZ (fun vs H Q E h=>?_) (fun cdv A outer s H vs Q E hr h=>?_)
  ·obtain ⟨ds,d,h1,h2,_⟩:=h
   rw [h2.length]; exact h1
  ·obtain ⟨ds,d,h1,h2,h3,k⟩:=h
   unfold qv at h3
   split at h3
   ·rename_i u e l b
    split at h3
    ·rename_i hb
     obtain ⟨hu0,hu1,hl0,hl1⟩:=hb
     cases h3
     refine ⟨_,qZ (ZR (i:=1) zZ.nd rfl (Or.inl rfl) (acT qQ))
      (qZ (ZT PassesOwn.never rfl (QR rfl T.range (ja (jo jv (qO (jb 0) jg) jg) je)) (Qf (i:=2) zZ.nd rfl (Or.inl rfl))
       (Qe (ZT PassesOwn.never rfl (QR rfl T.range (ja (jo jv (qO (jb 0) jg) jg) je)) (Qf (i:=3) zZ.nd rfl (Or.inl rfl))
        (Qe (adu (aff PySem.F.plainAttrs_list PySem.F.slot_list_append PySem.F.type_list_append ad8 (pv 1) (j4 (ae9 (j4 (pv 2) (j4 (pv 3) qQ))) qQ)))))))
      (Qe (acN (pv 1)))),?_⟩
     obtain ⟨mv,rr,e1,em,e2⟩:=h2
     cases (show rr=[] from e2)
     subst e1
     have nm:noL (PyData.tuple [.int u,.int e,.int l,.int b])=true:=by simp [noL,noLs]
     refine ⟨Nat.zero_le _,fun p hp=>?_⟩
     have envr:∀ {H2:Hp} {x2 x3:Option V} {y:Option V},ji H H2->EnvR K H2 [some (PyData.tuple [.int u,.int e,.int l,.int b]),none,none,none] [some mv,y,x2,x3]:=fun {H2 x2 x3 y} s2=>
      ⟨rfl,fun i d q=>by
       cases i with
       | zero=>cases q; exact ⟨mv,rfl,Rep.mono s2 _ _ em⟩
       | succ i=>
        match i,q with
        | 0,q=>cases q
        | 1,q=>cases q
        | 2,q=>cases q
        | j+3,q=>simp at q⟩
     refine ⟨_,[.int (u+1)],envr (jt hp),by simp [jk,jA,op2,lkp,dIx,atI,ixN,cst,zF],fun vs1 H1 s1 r1=>?_⟩
     obtain ⟨y1,q1,f1,f2,f3⟩:=r1
     cases (show y1=V.int (u+1) from f2)
     cases (show q1=[] from f3)
     subst f1
     refine ⟨u+1,rfl,by omega,by omega,aaz (n:=(u+1).toNat) (fun i σ H2=>∃ x2 x3 xs,σ=[some mv,some (.ref p),x2,x3]/\ji H H2/\H2 p=some (.lst xs)/\Reps K H2 (qu i (l+1).toNat) xs)
      ⟨none,none,[],rfl,(jt hp).trans s1,s1 _ _ jp,rfl⟩ ?_ ?_⟩
     ·rintro i σ H2 hi ⟨x2,x3,xs,rfl,s2,hp2,r2⟩
      refine ⟨_,[.int (l+1)],envr s2,by simp [jk,jA,op2,lkp,dIx,atI,ixN,cst,zF],fun vs2 H3 s3 r3=>?_⟩
      obtain ⟨y2,q2,g1,g2,g3⟩:=r3
      cases (show y2=V.int (l+1) from g2)
      cases (show q2=[] from g3)
      subst g1
      refine ⟨l+1,rfl,by omega,by omega,aaz (n:=(l+1).toNat) (fun j σ H4=>∃ x3 ys,σ=[some mv,some (.ref p),some (.int (0+i)),x3]/\ji H H4/\H4 p=some (.lst ys)/\Reps K H4 (qu i (l+1).toNat++ql i j) ys)
       ⟨x3,xs,rfl,s2.trans s3,s3 _ _ hp2,by simpa [ql] using Reps.mono s3 _ _ r2⟩ ?_ ?_⟩
      ·rintro j σ H4 hj ⟨x3',ys,rfl,s4,hp4,r4⟩
       have hlen:ys.length < sizeLine:=by
        rw [r4.length,List.length_append,zM,abx,sizeLine_eq]
        have h1:i*(l+1).toNat<=1000*1001:=Nat.mul_le_mul (by omega) (by omega)
        omega
       refine ⟨_,rfl,.inl ⟨rfl,ys,SqL.of hp4⟩,_,rfl,_,rfl,by show 2<=sizeLine; rw [sizeLine_eq]; decide,fun q hq=>?_⟩
       have npq:p ≠ q:=j0 hp4 hq
       refine ⟨p,ys,.ref q,rfl,rfl,by rw [jl npq]; exact hp4,hlen,?_⟩
       have t1:qP H4 (upd (upd H4 q (.tup [.int (0+(i:Int)),.int (0+(j:Int))])) p (.lst (ys++[.ref q]))):=
        (ji.n (jt hq)).trans (qP.upd (xs:=ys) (by rw [jl npq]; exact hp4))
       refine ⟨_,ys++[.ref q],rfl,fun c o hc=>?_,jp,?_⟩
       ·have hc4:=s4 c o hc
        rw [jl (j0 hc hp),jl (j0 hc4 hq)]
        exact hc4
       ·rw [ack,←List.append_assoc]
        refine (Reps.monoN t1 _ _ (by rw [Jl,aaT,acl]; rfl) r4).append ⟨.ref q,[],rfl,⟨q,_,rfl,SqT.of (by rw [jl (Ne.symm npq)]; exact jp),?_⟩,rfl⟩
        exact ⟨_,_,rfl,by show _=V.int _; rw [Int.zero_add],_,_,rfl,by show _=V.int _; rw [Int.zero_add],rfl⟩
      ·rintro σ H4 ⟨x3',ys,rfl,s4,hp4,r4⟩
       exact ⟨_,x3',ys,rfl,s4,hp4,by rw [zY]; exact r4⟩
     ·rintro σ H2 ⟨x2,x3,xs,rfl,s2,hp2,r2⟩
      exact ⟨_,rfl,k _ _ s2 ⟨p,xs,rfl,hp2,r2⟩⟩
    ·cases h3
   ·cases h3
end
end Rods
namespace Rods
open PySem L2 BX
open PyProof.Rows hiding St
noncomputable abbrev JH:Stmt:=top 15
noncomputable abbrev JI:Stmt:=top 14
noncomputable abbrev CC:=Program->World->PySem.W.Frag->(Str->Option Value)->Heap->Prop
structure CHasAll (P:Program) (w:World) (K:PySem.W.Frag) (mg:Str->Option Value) (base:Heap):Prop where
 t:Bare mg
 allRods:jn P w K mg base "all_rods" ["manner"] 1 1 qv
 rodWorth:jn P w K mg base "rod_worth" ["manner","rod"] 1 2 qf
theorem aaU:FnScope ["manner","worths"] ["manner"] (jf JH):=⟨rfl,rfl,rfl,by decide +kernel,rfl,by decide +kernel,by decide +kernel⟩
theorem nd2:(["rod","manner"]:List Str).Nodup:=by decide +kernel
theorem nd3:(["digit","worths"]:List Str).Nodup:=by decide +kernel
noncomputable def aby:{ B:Rho->Option Out // Jp CHasAll "has_all_digits" JH ["manner","worths"] 1 B }:=
 ⟨_,fun P w K mg base f cdv A outer s H E C hr=>
  jc (jG 1 aaU.nd (qi ["rod","manner"] [none,some 0] rfl (Qj (jj C.allRods hr (Nat.le_refl _) (ja (jb 0) je) (jd jm))) (qj (jf JH) ["manner","worths"] (by decide +kernel))
   fun cl C' s0 H0 fp pn=>⟨jz 0 nd2,qJ,jj C.rodWorth hr (Nat.le_refl _) (ja (jb 1) (ja (jb 0) je)) (jd (jd jm))⟩))
  (jc (ju (jM (ajc rfl) C.t.all ajo (ja (qi ["digit","worths"] [none,some 1] rfl (qB rfl C.t.range (ja (qO (jb 0) jg) je)) (qj (jf JH) ["manner","worths"] (by decide +kernel))
   fun cl C' s0 H0 fp pn=>⟨jz 0 nd3,qJ,acZ (ai9 hr.units) (jb 0) (jb 1)⟩) je))) jh)⟩
noncomputable abbrev aae:Stmt:=top 16
noncomputable abbrev zN:Stmt:=top 19
noncomputable abbrev acm:Stmt:=top 21
noncomputable abbrev QD:Stmt:=top 22
noncomputable abbrev ZF:Stmt:=top 24
noncomputable def GC (K:PySem.W.Frag) (mg:Str->Option Value) (x:Str) (d:PyData):Prop:=∃ v u,mg x=some u/\jy v u/\∀ H,Rep K H d v
theorem acn {X:Cx}{pos:Pos}{x:Str}{d:PyData} (c:GC X.K X.mg x d) (hg:Gl X x:=by rfl) (hd:(x == ("__debug__":Str))=false:=by decide):PD X (.Name x pos) (cst d):=by
 with_unfolding_all
  obtain ⟨v,u,h1,h2,h3⟩:=c
  exact ahc hg h1 h2 h3 hd
noncomputable def QE:List PyData->Option PyData:=jC ["manner","worths"] 1 aby.1
structure CIsManner (P:Program) (w:World) (K:PySem.W.Frag) (mg:Str->Option Value) (base:Heap):Prop where
 t:Bare mg
 least:GC K mg "LEAST_PARTS" (.tuple [.int 0,.int 1,.int 0,.int 2])
 most:GC K mg "MOST_PARTS" (.tuple [.int 3,.int 16,.int 12,.int 16])
 isWhole:jn P w K mg base "is_whole" ["thing","least","most"] 1 3 jY
 hasAll:jn P w K mg base "has_all_digits" ["manner"] 2 1 QE
theorem zx:FnScope ["thing","part","least","most"] ["thing"] (jf JI):=⟨rfl,rfl,rfl,by decide +kernel,rfl,by decide +kernel,by decide +kernel⟩
noncomputable def qH:{ B:Rho->Option Out // Jp CIsManner "is_manner" JI ["thing","part","least","most"] 2 B }:=
 ⟨_,fun P w K mg base f cdv A outer s H E C hr=>
  jc (j5 (zb (zV (jV (j7 (J1 (.inr (.inr rfl)) C.t.isi C.t.tuple aci (jb 0)))) (zU (jP (zh hr.units) (jM Jj C.t.len Jo (ja (jb 0) je)) (jM Jj C.t.len Jo (ja (acn C.most) je)))))) (jc (ju qF) jh) jh)
  (jc (ZC PassesOwn.never rfl (afv C.t.zip (ja (jb 0) (ja (acn C.least) (ja (acn C.most) je)))) (abc (n:=3) rfl (qo (jz 1 zx.nd) (qo (jz 2 zx.nd) (qo (jz 3 zx.nd) Z2))))
   (jc (j5 (jV (j7 (jj C.isWhole hr (by decide) (ja (jb 1) (ja (jb 2) (ja (jb 3) je))) (jd (jd (jd jm)))))) (jc (ju qF) jh) jh) jh))
  (jc (ju (jj C.hasAll hr (Nat.le_refl _) (ja (jb 0) je) (jd jm))) jh))⟩
noncomputable def jF:List PyData->Option PyData:=jC ["thing","part","least","most"] 1 qH.1
structure CCheck (P:Program) (w:World) (K:PySem.W.Frag) (mg:Str->Option Value) (base:Heap):Prop where
 isManner:jn P w K mg base "is_manner" ["thing"] 3 1 jF
theorem aco:FnScope ["thing"] ["thing"] (jf aae):=⟨rfl,rfl,rfl,by decide +kernel,rfl,by decide +kernel,by decide +kernel⟩
noncomputable def abz:{ B:Rho->Option Out // Jp CCheck "check_manner" aae ["thing"] 3 B }:=
 ⟨_,fun P w K mg base f cdv A outer s H E C hr=>
  jc (j5 (jV (j7 (jj C.isManner hr (Nat.le_refl _) (ja (jb 0) je) (jd jm)))) Z0 jh) jh⟩
noncomputable def qT:List PyData->Option PyData:=jC ["thing"] 1 abz.1
structure CRodsWith (P:Program) (w:World) (K:PySem.W.Frag) (mg:Str->Option Value) (base:Heap):Prop where
 allRods:jn P w K mg base "all_rods" ["manner"] 1 1 qv
 rodWorth:jn P w K mg base "rod_worth" ["manner","rod"] 1 2 qf
theorem acp:FnScope ["manner","worth"] ["manner","worth"] (jf zN):=⟨rfl,rfl,rfl,by decide +kernel,rfl,by decide +kernel,by decide +kernel⟩
theorem nd4:(["rod","manner","worth"]:List Str).Nodup:=by decide +kernel
noncomputable def Q7:{ B:Rho->Option Out // Jp CRodsWith "rods_with" zN ["manner","worth"] 1 B }:=
 ⟨_,fun P w K mg base f cdv A outer s H E C hr=>
  jc (ju (qi ["rod","manner","worth"] [none,some 0,some 1] rfl (Qj (jj C.allRods hr (Nat.le_refl _) (ja (jb 0) je) (jd jm))) (qj (jf zN) ["manner","worth"] (by decide +kernel))
   fun cl C' s0 H0 fp pn=>⟨jz 0 nd4,Ji (jP (JY hr.units) (jj C.rodWorth hr (Nat.le_refl _) (ja (jb 1) (ja (jb 0) je)) (jd (jd jm))) (jb 2)),jb 0⟩)) jh⟩
noncomputable def zm:List PyData->Option PyData:=jC ["manner","worth"] 2 Q7.1
structure CMost (P:Program) (w:World) (K:PySem.W.Frag) (mg:Str->Option Value) (base:Heap):Prop where
 t:Bare mg
 allRods:jn P w K mg base "all_rods" ["manner"] 1 1 qv
 rodWorth:jn P w K mg base "rod_worth" ["manner","rod"] 1 2 qf
theorem ahO:FnScope ["manner"] ["manner"] (jf acm):=⟨rfl,rfl,rfl,by decide +kernel,rfl,by decide +kernel,by decide +kernel⟩
noncomputable def agb:{ B:Rho->Option Out // Jp CMost "most_on_rod" acm ["manner"] 1 B }:=
 ⟨_,fun P w K mg base f cdv A outer s H E C hr=>
  jc (ju (ahr rfl C.t.max (qi ["rod","manner"] [none,some 0] rfl (Qj (jj C.allRods hr (Nat.le_refl _) (ja (jb 0) je) (jd jm))) (qj (jf acm) ["manner"] (by decide +kernel))
   fun cl C' s0 H0 fp pn=>⟨jz 0 nd2,qJ,jj C.rodWorth hr (Nat.le_refl _) (ja (jb 1) (ja (jb 0) je)) (jd (jd jm))⟩))) jh⟩
noncomputable def aaf:List PyData->Option PyData:=jC ["manner"] 1 agb.1
structure CFewest (P:Program) (w:World) (K:PySem.W.Frag) (mg:Str->Option Value) (base:Heap):Prop where
 t:Bare mg
 rodsWith:jn P w K mg base "rods_with" ["manner","worth"] 2 2 zm
 beads:jn P w K mg base "beads" ["rod"] 1 1 qL
theorem aeH:FnScope ["manner","worth"] ["manner","worth"] (jf ZF):=⟨rfl,rfl,rfl,by decide +kernel,rfl,by decide +kernel,by decide +kernel⟩
noncomputable def abA:{ B:Rho->Option Out // Jp CFewest "fewest_beads" ZF ["manner","worth"] 2 B }:=
 ⟨_,fun P w K mg base f cdv A outer s H E C hr=>
  jc (ju (afB rfl C.beads hr (Nat.le_refl _) C.t.min (jj C.rodsWith hr (by decide) (ja (jb 0) (ja (jb 1) je)) (jd (jd jm))))) jh⟩
noncomputable def ZG:List PyData->Option PyData:=jC ["manner","worth"] 2 abA.1
end Rods
namespace BX
open PySem PySem.Spec L2
open PyProof.Rows hiding St
noncomputable def akx:V->V->Hp->VK->Prop:=fun o i H Q=>∃ p xs k x,o= .ref p/\i= .int k/\H p=some (.lst xs)/\0<=k/\xs[k.toNat]?=some x/\Q x H
theorem aeI {X:Cx}:ajX X akx:=by
 intro pins s σ H o i ov iv Q I ro ri h
 obtain ⟨p,xs,k,x,rfl,rfl,hp,h0,hx,q⟩:=h
 cases ro
 obtain ⟨t,rfl⟩:=ri
 obtain ⟨its,r,pl,hz⟩:=I.list (SqL.of hp)
 obtain ⟨w,ew,rw'⟩:=r.get hx
 have hl:=r.length
 have hn:=QS
 have hk:k.toNat < xs.length:=(List.getElem?_eq_some_iff.mp hx).1
 exact wpAny_getItem_list pl.isList h0 (by omega) (by simpa using ew) ⟨x,H,I,rw',q⟩
end BX
namespace Rods
open PySem L2 BX
open PyProof.Rows hiding St
noncomputable def aaw (m:PyData):List Int->List PyData->Option (List Int)
 | c,[]=>some c
 | c,r::rs=>match qf [m,r] with
  | some (.int w)=>if 0<=w then match c[w.toNat]? with
   | some k=>aaw m (c.set w.toNat (k+1)) rs
   | none=>none else none
  | _=>none
noncomputable def qY (ds:List PyData):Option PyData:=match ds with
 | [m]=>if noL m=true then match qT [m],aaf [m],qv [m] with
  | some .none,some (.int t),some (.list (.tuple us::rs))=>if 0<=t/\t < 900/\noLs (.tuple us::rs)=true then (aaw m (List.replicate (t+1).toNat 0) (.tuple us::rs)).map fun c=> .list (c.map .int) else none
  | _,_,_=>none else none
 | _=>none
structure CCounts (P:Program) (w:World) (K:PySem.W.Frag) (mg:Str->Option Value) (base:Heap):Prop where
 check:jn P w K mg base "check_manner" ["thing"] 4 1 qT
 most:jn P w K mg base "most_on_rod" ["manner"] 2 1 aaf
 allRods:jn P w K mg base "all_rods" ["manner"] 1 1 qv
 rodWorth:jn P w K mg base "rod_worth" ["manner","rod"] 1 2 qf
theorem JJ:FnScope ["manner","told","rod"] ["manner"] (jf QD):=⟨rfl,rfl,rfl,by decide +kernel,rfl,by decide +kernel,by decide +kernel⟩
theorem aaV {K:PySem.W.Frag}{H:Hp}:∀ (c:List Int),Reps K H (c.map PyData.int) (c.map V.int)
 | []=>rfl
 | i::c=>⟨_,_,rfl,rfl,aaV c⟩
theorem mk3 {K:PySem.W.Frag}{H2:Hp}{m:PyData}{mv:V}{y x:Option V} (e:Rep K H2 m mv):EnvR K H2 [some m,none,none] [some mv,y,x]:=
 ⟨rfl,fun i d q=>by
  cases i with
  | zero=>cases q; exact ⟨mv,rfl,e⟩
  | succ i=>
   match i,q with
   | 0,q=>cases q
   | 1,q=>cases q
   | j+2,q=>simp at q⟩
theorem ale {K:PySem.W.Frag}{H2:Hp}{m r:PyData}{mv rv:V}{y:Option V} (e:Rep K H2 m mv) (e':Rep K H2 r rv):EnvR K H2 [some m,none,some r] [some mv,y,some rv]:=
 ⟨rfl,fun i d q=>by
  cases i with
  | zero=>cases q; exact ⟨mv,rfl,e⟩
  | succ i=>
   match i,q with
   | 0,q=>cases q
   | 1,q=>cases q; exact ⟨rv,rfl,e'⟩
   | j+2,q=>simp at q⟩
theorem alf {K:PySem.W.Frag}{H:Hp}{m:PyData}{σ:St} (en:EnvR K H [some m,none,none] σ):∃ mv b c,σ=[some mv,b,c]/\Rep K H m mv:=by
 obtain ⟨mv,q,e⟩:=en.at' 0 m rfl
 match σ,en.len,q with
 | [a,b,c],_,q=>
  have:a=some mv:=by simpa using q
  subst this
  exact ⟨mv,b,c,rfl,e⟩
theorem alg (n:Nat):(List.replicate n [V.int 0]).flatten=(List.replicate n (0:Int)).map V.int:=by
 induction n with
 | zero=>rfl
 | succ n ih=>rw [List.replicate_succ,List.replicate_succ,List.flatten_cons,ih]; rfl
theorem ajp {K:PySem.W.Frag}{H:Hp}{us rs:List PyData}{xs:List V}{n:Nat} (r:Reps K H (.tuple us::rs) xs) (e:xs=(List.replicate n (0:Int)).map V.int):False:=by
 obtain ⟨x,r',h1,h2,h3⟩:=r
 subst h1
 obtain ⟨a,_,h4,_⟩:=h2
 subst h4
 cases n with
 | zero=>cases e
 | succ n=>rw [List.replicate_succ] at e; cases e
theorem abB {n:Nat}{i:Int} (h0:0<=i) (h:i.toNat < n):ixN n i=some i.toNat:=by
 unfold ixN
 rw [if_pos h0,if_pos (by omega)]
theorem aeJ {m r:PyData}{rs:List PyData}{c cf:List Int} (h:aaw m c (r::rs)=some cf):∃ w1,qf [m,r]=some (.int w1)/\0<=w1/\∃ k1,c[w1.toNat]?=some k1/\aaw m (c.set w1.toNat (k1+1)) rs=some cf:=by
 unfold aaw at h
 split at h
 ·rename_i w hw
  split at h
  ·rename_i h0
   split at h
   ·rename_i k hk
    exact ⟨w,hw,h0,k,hk,h⟩
   ·cases h
  ·cases h
 ·cases h
end Rods
namespace Rods
open PySem L2 BX
open PyProof.Rows hiding St
section
variable {P:Program}{w:World}{K:PySem.W.Frag}{mg:Str->Option Value}{base:Heap}
theorem aeK {f:Addr}{fd:FuncData} (F:Fun K "counts" "counts" QD f fd) (C:CCounts P w K mg base):FnOk P w K mg base CX0 5 f fd ["manner"] (Pur K 1 qY):=by
 with_unfolding_all
  refine F.ok JJ (fun vs H Q E h=>?_) (fun cdv A outer s H vs Q E hr h=>?_)
  ·obtain ⟨ds,d,h1,h2,_⟩:=h
   rw [h2.length]; exact h1
  ·obtain ⟨ds,d,h1,h2,h3,k⟩:=h
   unfold qY at h3
   split at h3
   ·rename_i m
    split at h3
    ·rename_i nm
     split at h3
     ·rename_i t us rs hck hmost hall
      split at h3
      ·rename_i hb
       obtain ⟨ht0,ht1,nr⟩:=hb
       refine ⟨_,qZ (Z1 (jj C.check hr (Nat.le_refl _) (ja (jb 0) je) (jd jm)))
        (qZ (ZR (i:=1) JJ.nd rfl (Or.inl rfl) (ail acY (acT (j4 aa2 qQ)) (jo jv (jj C.most hr (by decide) (ja (jb 0) je) (jd jm)) jg)))
        (qZ (ZT PassesOwn.never rfl (adv (jj C.allRods hr (by decide) (ja (jb 0) je) (jd jm))) (Qf (i:=2) JJ.nd rfl (Or.inl rfl))
         (Qe (agV (pv 1) (jj C.rodWorth hr (by decide) (ja (jb 0) (ja (jb 2) je)) (jd (jd jm))) aeI aa2 aiI afe)))
        (Qe (acN (pv 1))))),?_⟩
       obtain ⟨mv,rr,e1,em,e2⟩:=h2
       cases (show rr=[] from e2)
       subst e1
       have envr:∀ {H2:Hp} {y x:Option V},Rep K H2 m mv->EnvR K H2 [some m,none,none] [some mv,y,x]:=fun {H2 y x} e=>
        ⟨rfl,fun i d q=>by
         cases i with
         | zero=>cases q; exact ⟨mv,rfl,e⟩
         | succ i=>
          match i,q with
          | 0,q=>cases q
          | 1,q=>cases q
          | j+2,q=>simp at q⟩
       refine ⟨[some m,none,none],.nx [some m,none,none],envr em,by simp [QW,jD,jk,jA,lkp,hck],fun σ1 H1 s1 en1=>?_⟩
       obtain ⟨mv1,b1,c1,rfl,em1⟩:=alf en1
       clear envr
       have envr:∀ {H2:Hp} {y x:Option V},Rep K H2 m mv1->EnvR K H2 [some m,none,none] [some mv1,y,x]:=fun {H2 y x} e=>mk3 e
       refine ⟨by show 1<=sizeLine; rw [sizeLine_eq]; decide,fun z hz=>?_⟩
       have s2:=jt (o:= .lst [.int 0]) hz
       refine ⟨[some m,none,none],.int (t+1),envr (Rep.mono s2 _ _ em1),by simp [op2,jD,jk,jA,lkp,hmost,cst,zF],fun v3 H3 s3 r3=>?_⟩
       cases (show v3=_ from r3)
       have hz3:H3 z=some (.lst [.int 0]):=s3 _ _ jp
       refine ⟨z,t+1,[.int 0],rfl,rfl,hz3,by omega,by omega,by rw [sizeLine_eq]; simp; omega,fun p hp=>?_⟩
       rw [alg]
       have em3:Rep K H3 m mv1:=Rep.mono (s2.trans s3) _ _ em1
       have s4:=jt (o:= .lst ((List.replicate (t+1).toNat (0:Int)).map V.int)) hp
       refine ⟨[some m,none,none],.list (.tuple us::rs),envr (Rep.mono s4 _ _ em3),by simp [jD,jk,jA,lkp,hall],fun v5 H5 s5 r5=>?_⟩
       obtain ⟨a,xs,e5,ha5,r5⟩:=r5
       subst e5
       have hp5:H5 p=some (.lst ((List.replicate (t+1).toNat (0:Int)).map V.int)):=s5 _ _ jp
       have nap:a ≠ p:=by
        rintro rfl
        rw [ha5] at hp5
        exact ajp r5 (by injection (Option.some.inj hp5))
       cases hbm:aaw m (List.replicate (t+1).toNat 0) (.tuple us::rs) with
       | none=>rw [hbm] at h3; cases h3
       | some cf=>
        rw [hbm] at h3
        cases h3
        refine ⟨a,rfl,⟨xs,SqL.of ha5⟩,ae5 (fun i σ H'=>∃ x c,σ=[some mv1,some (.ref p),x]/\ji H3 H'/\H' p=some (.lst (c.map V.int))/\H' a=some (.lst xs)/\Reps K H' (.tuple us::rs) xs/\aaw m c ((PyData.tuple us::rs).drop i)=some cf)
         ⟨c1,_,rfl,s4.trans s5,hp5,ha5,r5,hbm⟩ (fun i σ H' _ ⟨x,c,_,_,_,g,_,_⟩=>SqL.of g) ?_ ?_⟩
        ·rintro i x σ H' hx ⟨x',c,rfl,g1,g2,g3,g4,g5⟩
         have hi:i < (PyData.tuple us::rs).length:=by rw [←g4.length]; exact (List.getElem?_eq_some_iff.mp hx).1
         have hd:(PyData.tuple us::rs).drop i=(PyData.tuple us::rs)[i]::(PyData.tuple us::rs).drop (i+1):=List.drop_eq_getElem_cons hi
         rw [hd] at g5
         obtain ⟨w1,hw1,hw0,k1,hk1,hb1⟩:=aeJ g5
         obtain ⟨y,ey,ry⟩:=g4.get (i:=i) (d:=(PyData.tuple us::rs)[i]) (by simp [hi])
         rw [hx] at ey; cases ey
         refine ⟨_,rfl,[some m,none,some ((PyData.tuple us::rs)[i])],.int w1,ale (Rep.mono g1 _ _ em3) ry,by simp [jD,jk,jA,lkp,hw1],fun v6 H6 s6 r6=>?_⟩
         cases (show v6=_ from r6)
         have hp6:=s6 _ _ g2
         refine ⟨p,c.map V.int,w1,.int k1,rfl,rfl,hp6,hw0,by simp [hk1],k1,1,rfl,rfl,p,c.map V.int,w1,w1.toNat,rfl,rfl,hp6,abB hw0 (by simpa using (List.getElem?_eq_some_iff.mp hk1).1),?_⟩
         have t1:qP H' (upd H6 p (.lst ((c.map V.int).set w1.toNat (.int (k1+1))))):=(ji.n s6).trans (qP.upd hp6)
         refine ⟨_,c.set w1.toNat (k1+1),rfl,fun b o hb=>?_,by rw [jp,List.map_set],?_,Reps.monoN t1 _ _ nr g4,hb1⟩
         ·rw [jl (j0 hb hp)]
          exact s6 _ _ (g1 _ _ hb)
         ·rw [jl nap]; exact s6 _ _ g3
        ·rintro σ H' ⟨x',c,rfl,g1,g2,g3,g4,g5⟩
         have:c=cf:=by simpa [g4.length,aaw] using g5
         subst this
         exact ⟨_,rfl,k _ _ (s1.trans (s2.trans (s3.trans g1))) ⟨p,_,rfl,g2,aaV c⟩⟩
      ·cases h3
     ·cases h3
    ·cases h3
   ·cases h3
end
end Rods
namespace Rods
open PySem L2 BX
open PyProof.Rows hiding St
noncomputable abbrev agc (C:CC) (qual:Str) (st:Stmt) (N:List Str) (k:Nat) (sts:List Stmt) (B:Rho->Option Out):Prop:=
 ∀ (P:Program) (w:World) (K:PySem.W.Frag) (mg:Str->Option Value) (base:Heap) (f:Addr) (cdv:Value) (A:Around) (outer:List Env) (s:Shared) (H:Hp) (E:XK),C P w K mg base->Room k (A.deeper (envOfC qual (jf st) s.heap.objs.size f cdv))->
  Jh (zp CX0 P w K mg base N qual (jf st) f cdv A outer s H E).nox sts B
noncomputable abbrev aky (own:Nat) (C:CC) (qual:Str) (st:Stmt) (N:List Str) (k:Nat) (sts:List Stmt) (B:Rho->Option Out):Prop:=
 ∀ (P:Program) (w:World) (K:PySem.W.Frag) (mg:Str->Option Value) (base:Heap) (f:Addr) (cdv:Value) (A:Around) (outer:List Env) (s:Shared) (H:Hp) (E:XK),C P w K mg base->Room k (A.deeper (envOfC qual (jf st) s.heap.objs.size f cdv))->
  abm (zp CX0 P w K mg base N qual (jf st) f cdv A outer s H E).nox (some own) sts B
noncomputable def ZH:Stmt->List Stmt
 | .For _ _ b _ _=>b
 | _=>[]
noncomputable def ahP (l:List Stmt) (i:Nat):Stmt:=l.getD i (.Pass ⟨0,0,0,0⟩)
noncomputable def ajM:Stmt->List Stmt
 | .While _ b _ _=>b
 | _=>[]
noncomputable abbrev Jq:Stmt:=top 20
noncomputable abbrev adL:Stmt:=top 26
noncomputable abbrev abC:Stmt:=top 27
noncomputable abbrev ZI:Stmt:=top 28
structure CRodsFor (P:Program) (w:World) (K:PySem.W.Frag) (mg:Str->Option Value) (base:Heap):Prop where
 check:jn P w K mg base "check_manner" ["thing"] 4 1 qT
 isWhole:jn P w K mg base "is_whole" ["thing","least","most"] 1 3 jY
 rodsWith:jn P w K mg base "rods_with" ["manner","worth"] 2 2 zm
 most:GC K mg "MOST_WORTH" (.int 9999)
theorem aag:FnScope ["manner","worth"] ["manner","worth"] (jf Jq):=⟨rfl,rfl,rfl,by decide +kernel,rfl,by decide +kernel,by decide +kernel⟩
noncomputable def Jr:{ B:Rho->Option Out // Jp CRodsFor "rods_for" Jq ["manner","worth"] 4 B }:=
 ⟨_,fun P w K mg base f cdv A outer s H E C hr=>
  (jc (Z1 (jj C.check hr (by decide) (ja (jb 0) je) (jd jm)))
  (jc (j5 (jV (j7 (jj C.isWhole hr (by decide) (ja (jb 1) (ja jg (ja (acn C.most) je))) (jd (jd (jd jm)))))) Z0 jh)
  (jc (ju (jj C.rodsWith hr (by decide) (ja (jb 0) (ja (jb 1) je)) (jd (jd jm))))
  jh)))⟩
noncomputable def qw:List PyData->Option PyData:=jC ["manner","worth"] 2 Jr.1
theorem ahQ:FnScope ["_law_script","_law_k"] ["_law_script","_law_k"] (jf adL):=⟨rfl,rfl,rfl,by decide +kernel,rfl,by decide +kernel,by decide +kernel⟩
noncomputable def adM:{ B:Rho->Option Out // Jp (fun _ _ _ mg _=>Bare mg) "_law_cell" adL ["_law_script","_law_k"] 0 B }:=
 ⟨_,fun P w K mg base f cdv A outer s H E C hr=>
  jc (j5 (jP (JY hr.units) (jb 0) (qg je)) (jc (ju (jo qK jg (jb 1))) jh) jh)
  (jc (ju (jo jv (qO (jb 0) (jo JD (jb 1) (jM Jj C.len Jo (ja (jb 0) je)))) (jo qK jg (jo Ql (jb 1) (jM Jj C.len Jo (ja (jb 0) je)))))) jh)⟩
noncomputable def acq:List PyData->Option PyData:=jC ["_law_script","_law_k"] 2 adM.1
structure CDrawn (P:Program) (w:World) (K:PySem.W.Frag) (mg:Str->Option Value) (base:Heap):Prop where
 cell:jn P w K mg base "_law_cell" ["_law_script","_law_k"] 1 2 acq
theorem aah:FnScope ["_law_script","_law_k","_law_many","_law_cell_here"] ["_law_script","_law_k","_law_many"] (jf abC):=⟨rfl,rfl,rfl,by decide +kernel,rfl,by decide +kernel,by decide +kernel⟩
noncomputable def adg:{ B:Rho->Option Out // Jp CDrawn "_law_drawn" abC ["_law_script","_law_k","_law_many","_law_cell_here"] 1 B }:=
 ⟨_,fun P w K mg base f cdv A outer s H E C hr=>
  jc (jG 3 aah.nd (jo JD (jo jv (jo qK (jo JD (jj C.cell hr (Nat.le_refl _) (ja (jb 0) (ja (jb 1) je)) (jd (jd jm))) jg) jg) (jo qK jg (jo jv (jb 1) jg))) jg))
  (jc (jG 3 aah.nd (jo JD (jo jv (jo qK (jb 3) (jb 3)) (jo Ql (jb 3) jg)) jg))
  (jc (ju (jo JD (jo Ql (jo JD (jo jv (jo qK (jb 3) (jb 3)) (jo Ql (jb 3) jg)) jg) jg) (jb 2))) jh))⟩
noncomputable def aai:List PyData->Option PyData:=jC ["_law_script","_law_k","_law_many","_law_cell_here"] 3 adg.1
noncomputable abbrev abD:List Str:=["_law_script","_law_at","_law_known","_law_way","_law_each","_law_upper","_law_lower"]
structure CManner (P:Program) (w:World) (K:PySem.W.Frag) (mg:Str->Option Value) (base:Heap):Prop where
 t:Bare mg
 drawn:jn P w K mg base "_law_drawn" ["_law_script","_law_k","_law_many"] 2 3 aai
theorem qU:FnScope abD ["_law_script","_law_at"] (jf ZI):=⟨rfl,rfl,rfl,by decide +kernel,rfl,by decide +kernel,by decide +kernel⟩
noncomputable def jq (a b c d:Int):PyData:= .tuple [.int a,.int b,.int c,.int d]
noncomputable def Q8:List PyData:=[jq 1 5 4 10,jq 2 5 5 10,jq 0 1 9 10,jq 1 5 5 10,jq 0 1 10 10,jq 1 2 1 4,jq 0 1 1 2]
noncomputable def Q9:List PyData:=[jq 1 4 3 8,jq 1 3 2 5,jq 3 4 3 16,jq 2 3 2 7,jq 1 1 1 3]
noncomputable def ZJ:{ B:Rho->Option Out // Jp CManner "_law_manner" ZI abD 2 B }:=
 ⟨_,fun P w K mg base f cdv A outer s H E C hr=>
  jc (jG 2 qU.nd (qC 3 (.list Q8) (by kernel_rfl)))
  (jc (jG 2 qU.nd (jo jv (jb 2) (qC 3 (.list Q9) (by kernel_rfl))))
  (jc (jG 3 qU.nd (jj C.drawn hr (Nat.le_refl _) (ja (jb 0) (ja (jb 1) (ja (jo qK jg (jM Jj C.t.len Jo (ja (jb 2) je))) je))) (jd (jd (jd jm)))))
  (jc (j5 (jP aja (jb 3) (jM Jj C.t.len Jo (ja (jb 2) je))) (jc (ju (qO (jb 2) (jb 3))) jh) jh)
  (jc (jG 4 qU.nd (jo jv jg (jj C.drawn hr (Nat.le_refl _) (ja (jb 0) (ja (jo jv (jb 1) jg) (ja jg je))) (jd (jd (jd jm))))))
  (jc (jG 5 qU.nd (jj C.drawn hr (Nat.le_refl _) (ja (jb 0) (ja (jo jv (jb 1) jg) (ja jg je))) (jd (jd (jd jm)))))
  (jc (jG 6 qU.nd (jo jv (jM (ahn rfl) C.t.max abk (ja (jo ahk (jb 4) jg) (ja jg je))) (jj C.drawn hr (Nat.le_refl _) (ja (jb 0) (ja (jo jv (jb 1) jg) (ja jg je))) (jd (jd (jd jm))))))
  (jc (ju (zq (ja (jb 5) (ja (jb 4) (ja (jb 6) (ja (jo jv jg (jj C.drawn hr (Nat.le_refl _) (ja (jb 0) (ja (jo jv (jb 1) jg) (ja (jM (aho rfl) C.t.min abj (ja jg (ja (jo jv (jo qK (jb 5) (jb 4)) (jb 6)) je))) je))) (jd (jd (jd jm))))) je)))))) jh)))))))⟩
noncomputable def QF:List PyData->Option PyData:=jC abD 2 ZJ.1
noncomputable abbrev agd (C:CC) (qual:Str) (st:Stmt) (N:List Str) (k:Nat) (Fx:Rho->Option Str):Prop:=
 ∀ (P:Program) (w:World) (K:PySem.W.Frag) (mg:Str->Option Value) (base:Heap) (f:Addr) (cdv:Value) (A:Around) (outer:List Env) (s:Shared) (H:Hp) (E:XK),C P w K mg base->Room k (A.deeper (envOfC qual (jf st) s.heap.objs.size f cdv))->
  Zy (zp (CXt P w) P w K mg base N qual (jf st) f cdv A outer s H E) (jK st) Fx
noncomputable def alh (k:Bool):PyData:= .str (if k=true then "lower" else "upper")
noncomputable def mv (r:Int) (k:Bool) (c:Int):PyData:= .tuple [.int r,alh k,.int c]
theorem Z6 {ds:List PyData} (h:∀ d ∈ ds,noL d=true):noLs ds=true:=by
 induction ds with
 | nil=>rfl
 | cons d ds ih=>simp only [noLs,h d List.mem_cons_self,ih fun c hc=>h c (List.mem_cons_of_mem _ hc),Bool.and_self]
noncomputable def ab (i:Int):Int:=if i < 0 then -i else i
noncomputable def fd (p q:Int × Int):Int:=ab (q.1 - p.1)+ab (q.2 - p.2)
end Rods
namespace Rods
open PySem L2 BX
open PyProof.Rows hiding St
noncomputable abbrev zr:List Str:=["NoManner","NoSetting","NoNumber","NoMove","TooGreat","Nothing"]
structure XCheck (P:Program) (w:World) (K:PySem.W.Frag) (mg:Str->Option Value) (base:Heap):Prop where
 c_isManner:jn P w K mg base "is_manner" ["thing"] 3 1 jF
 e_NoManner:ahA K mg "NoManner"
noncomputable def Za:{ F:Rho->Option Str // agd XCheck "check_manner" aae ["thing"] 3 F }:=
 ⟨_,fun P w K mg base f cdv A outer s H E C hr=>
  (qS (afT (jV (j7 (jj C.c_isManner hr (by decide) (ja (jb 0) je) (jd jm)))) (qS (aaP rfl C.e_NoManner rfl)) aab))⟩
noncomputable def Js:List PyData->Option Str:=Zq ["thing"] 1 Za.1
structure XRodsFor (P:Program) (w:World) (K:PySem.W.Frag) (mg:Str->Option Value) (base:Heap):Prop where
 c_isWhole:jn P w K mg base "is_whole" ["thing","least","most"] 1 3 jY
 c_check:jn P w K mg base "check_manner" ["thing"] 4 1 qT
 k_MOST_WORTH:GC K mg "MOST_WORTH" (.int 9999)
 x_check:abq P w K mg base "check_manner" ["thing"] 4 1 Js
 e_NoNumber:ahA K mg "NoNumber"
noncomputable def zO:{ F:Rho->Option Str // agd XRodsFor "rods_for" Jq ["manner","worth"] 4 F }:=
 ⟨_,fun P w K mg base f cdv A outer s H E C hr=>
  (ahE (qS (ab7 (Qx rfl C.x_check hr (by decide) (ja (jb 0) je) (jd jm)))) (aeu (Z1 (jj C.c_check hr (by decide) (ja (jb 0) je) (jd jm)))
  (qS (afT (jV (j7 (jj C.c_isWhole hr (by decide) (ja (jb 1) (ja jg (ja (acn C.k_MOST_WORTH) je))) (jd (jd (jd jm)))))) (qS (aaP rfl C.e_NoNumber rfl)) aab))))⟩
noncomputable def Jt:List PyData->Option Str:=Zq ["manner","worth"] 2 zO.1
structure XCounts (P:Program) (w:World) (K:PySem.W.Frag) (mg:Str->Option Value) (base:Heap):Prop where
 x_check:abq P w K mg base "check_manner" ["thing"] 4 1 Js
noncomputable def ZK:{ F:Rho->Option Str // agd XCounts "counts" QD ["manner","told","rod"] 4 F }:=
 ⟨_,fun P w K mg base f cdv A outer s H E C hr=>
  (qS (ab7 (Qx rfl C.x_check hr (by decide) (ja (jb 0) je) (jd jm))))⟩
noncomputable def ZL:List PyData->Option Str:=Zq ["manner","told","rod"] 1 ZK.1
noncomputable abbrev Qa:Stmt:=top 31
structure CLRods (P:Program) (w:World) (K:PySem.W.Frag) (mg:Str->Option Value) (base:Heap):Prop where
 t:Bare mg
noncomputable abbrev aaj:List Str:=["_law_manner_here","_law_found","_law_upper"]
theorem QG:FnScope aaj ["_law_manner_here"] (jf Qa):=⟨rfl,rfl,rfl,by decide +kernel,rfl,by decide +kernel,by decide +kernel⟩
theorem age:(["_law_lower","_law_upper"]:List Str).Nodup:=by decide +kernel
noncomputable def abE:{ B:Rho->Option Out // agc CLRods "_law_rods" Qa aaj 0 (ZH (ahP (jK Qa) 1)) B }:=
 ⟨_,fun P w K mg base f cdv A outer s H E C hr=>
  (jc (jG 1 QG.nd (jo jv (jb 1) (qi ["_law_lower","_law_upper"] [none,some 2] rfl (qB rfl C.t.range (ja (jo jv (qO (jb 0) jg) jg) je)) (qj (jf Qa) aaj (by decide +kernel))
   fun cl C' s0 H0 fp pn=>⟨(jz 0 age),qJ,(zq (ja (jb 1) (ja (jb 0) je)))⟩)))
  jh)⟩
noncomputable def abF:{ B:Rho->Option Out // Jp CLRods "_law_rods" Qa aaj 0 B }:=
 ⟨_,fun P w K mg base f cdv A outer s H E C hr=>
  (jc (jG 1 QG.nd (qg je))
  (jc (ZC PassesOwn.never rfl (qB rfl C.t.range (ja (jo jv (qO (jb 0) jg) jg) je)) (jz 2 QG.nd) (abE.2 P w K mg base f cdv A outer s H E C hr))
  (jc (ju (jb 1))
  jh)))⟩
noncomputable def Ju:List PyData->Option PyData:=jC aaj 1 abF.1
noncomputable abbrev zn:Stmt:=top 34
structure CLRefused (P:Program) (w:World) (K:PySem.W.Frag) (mg:Str->Option Value) (base:Heap):Prop where
 t:Bare mg
 errT:ErrT K mg "BeadError" zr
noncomputable abbrev Zb:List Str:=["_law_e","_law_flags"]
theorem Jv:FnScope Zb ["_law_e"] (jf zn):=⟨rfl,rfl,rfl,by decide +kernel,rfl,by decide +kernel,by decide +kernel⟩
noncomputable def aaW:{ B:Rho->Option Out // ∀ (P:Program) (w:World) (K:PySem.W.Frag) (mg:Str->Option Value) (base:Heap) (f:Addr) (cdv:Value) (A:Around) (outer:List Env) (s:Shared) (H:Hp) (E:XK),CLRefused P w K mg base->RoomH 0 (A.deeper (envOfC "_law_refused" (jf zn) s.heap.objs.size f cdv))->
  Jh (cxH P w K mg base Zb "_law_refused" (jf zn) f cdv A outer s H E) (jK zn) B }:=
 ⟨_,fun P w K mg base f cdv A outer s H E C hr=>
  (jc (jG 1 Jv.nd (qg (ja (JF C.errT C.t.isi (jb 0)) (ja (JF C.errT C.t.isi (jb 0)) (ja (JF C.errT C.t.isi (jb 0)) je)))))
  (jc (jG 1 Jv.nd (jo jv (jb 1) (qg (ja (JF C.errT C.t.isi (jb 0)) (ja (JF C.errT C.t.isi (jb 0)) (ja (JF C.errT C.t.isi (jb 0)) je))))))
  (jc (j5 (zb (zV (jP (zh hr.units) (aeA (jb 1) qF) jg) (zU (jV (j7 (ahI C.errT C.t.isi C.t.vale (jb 0))))))) (jc (ju (zq (ja ZZ (ja (Z8 jg) je))))
  jh) jh)
  (jc (ju (zq (ja ZZ (ja (aez (jb 1) qF) je))))
  jh))))⟩
noncomputable def zo:List PyData->Option PyData:=jC Zb 1 aaW.1
noncomputable abbrev Zc:Stmt:=top 35
structure CLTold (P:Program) (w:World) (K:PySem.W.Frag) (mg:Str->Option Value) (base:Heap):Prop where
 c_rodsFor:jn P w K mg base "rods_for" ["manner","worth"] 5 2 qw
 c_counts:jn P w K mg base "counts" ["manner"] 5 1 qY
 x_rodsFor:abq P w K mg base "rods_for" ["manner","worth"] 5 2 Jt
 x_counts:abq P w K mg base "counts" ["manner"] 5 1 ZL
 h_LRefused:ZE P w K mg base "_law_refused" ["_law_e"] 1 1 zo
 errT:ErrT K mg "BeadError" zr
noncomputable abbrev adh:List Str:=["_law_way","_law_manner_here","_law_worth","_law_e"]
theorem acr:FnScope adh ["_law_way","_law_manner_here","_law_worth"] (jf Zc):=⟨rfl,rfl,rfl,by decide +kernel,rfl,by decide +kernel,by decide +kernel⟩
noncomputable def zH:{ B:Rho->Option Out // ∀ (P:Program) (w:World) (K:PySem.W.Frag) (mg:Str->Option Value) (base:Heap) (f:Addr) (cdv:Value) (A:Around) (outer:List Env) (s:Shared) (H:Hp) (E:XK),CLTold P w K mg base->Room 5 (A.deeper (envOfC "_law_told" (jf Zc) s.heap.objs.size f cdv))->
  afX (zp CX0 P w K mg base adh "_law_told" (jf Zc) f cdv A outer s H E) (jK Zc) B }:=
 ⟨_,fun P w K mg base f cdv A outer s H E C hr=>
  (aev (af5 (n:=4) 3 afW rfl acr.nd C.errT
   (fun E'=>(jc (ju (akf (jP (JY hr.units) (jb 0) jg) (jj C.c_rodsFor hr (by decide) (ja (jb 1) (ja (jb 2) je)) (jd (jd jm))) (jj C.c_counts hr (by decide) (ja (jb 1) je) (jd jm))))
  jh))
   (fun E'=>(qS (ahC (ajl (jP (JY hr.units) (jb 0) jg) (Qx rfl C.x_rodsFor hr (by decide) (ja (jb 1) (ja (jb 2) je)) (jd (jd jm))) (Qx rfl C.x_counts hr (by decide) (ja (jb 1) je) (jd jm))))))
   (fun e=>(jc (ju (af0 C.h_LRefused (RoomH.mark (BX.Room.h (hr.mono (j:=1) (by decide)))) (ja (jb 3) je) (jd jm))) jh))) (ahD jh))⟩
noncomputable def qM:List PyData->Option PyData:=jC adh 3 zH.1
noncomputable abbrev qD:Stmt:=top 36
structure CLIsManner (P:Program) (w:World) (K:PySem.W.Frag) (mg:Str->Option Value) (base:Heap):Prop where
 t:Bare mg
 c_LRods:jn P w K mg base "_law_rods" ["_law_manner_here"] 1 1 Ju
noncomputable abbrev qV:List Str:=["_law_thing","_law_upper","_law_each","_law_lower","_law_base","_law_worths"]
theorem qp:FnScope qV ["_law_thing"] (jf qD):=⟨rfl,rfl,rfl,by decide +kernel,rfl,by decide +kernel,by decide +kernel⟩
theorem agf:(["_law_one"]:List Str).Nodup:=by decide +kernel
theorem acs:(["_law_one","_law_other","_law_each"]:List Str).Nodup:=by decide +kernel
theorem agg:(["_law_digit","_law_worths"]:List Str).Nodup:=by decide +kernel
noncomputable def jT:{ B:Rho->Option Out // Jp CLIsManner "_law_is_manner" qD qV 1 B }:=
 ⟨_,fun P w K mg base f cdv A outer s H E C hr=>
  (jc (j5 (zb (zV (jV (j7 (J1 (.inr (.inr rfl)) C.t.isi C.t.tuple aci (jb 0)))) (zU (jP (zh hr.units) (jM Jj C.t.len Jo (ja (jb 0) je)) jg)))) (jc (ju qF)
  jh) jh)
  (jc (j5 (jP (zh hr.units) (qi ["_law_one"] [none] rfl (zw (jb 0)) (qj (jf qD) qV (by decide +kernel))
   fun cl C' s0 H0 fp pn=>⟨(jz 0 agf),(Ji (zb (zV (jV (j7 (J1 (.inr (.inl rfl)) C.t.isi C.t.int af9 (jb 0)))) (zU (j7 (J1 (.inl rfl) C.t.isi C.t.bool abv (jb 0))))))),(jb 0)⟩) (qg je)) (jc (ju qF)
  jh) jh)
  (jc (ahg (jb 0) (abc (n:=4) rfl (qo (jz 1 qp.nd) (qo (jz 2 qp.nd) (qo (jz 3 qp.nd) (qo (jz 4 qp.nd) Z2))))))
  (jc (j5 (zb (zV (jV (JE zG zG jg (jb 1) jg)) (zV (jV (JE zG zG jg (jb 2) jg)) (zV (jV (JE zG zG jg (jb 3) jg)) (zU (jV (JE zG zG jg (jb 4) jg))))))) (jc (ju qF)
  jh) jh)
  (jc (jG 5 qp.nd (qi ["_law_one","_law_other","_law_each"] [none,none,some 2] rfl (zw (jj C.c_LRods hr (by decide) (ja (jb 0) je) (jd jm))) (qj (jf qD) qV (by decide +kernel))
   fun cl C' s0 H0 fp pn=>⟨(abc (n:=2) rfl (qo (jz 0 acs) (qo (jz 1 acs) Z2))),qJ,(jo jv (jo qK (jb 0) (jb 2)) (jb 1))⟩))
  (jc (ju (acZ (JY hr.units) (qi ["_law_digit","_law_worths"] [none,some 5] rfl (qB rfl C.t.range (ja (jb 4) je)) (qj (jf qD) qV (by decide +kernel))
   fun cl C' s0 H0 fp pn=>⟨(jz 0 agg),(Ji (jP (aeh hr.units) (jb 0) (jb 1))),(jb 0)⟩) (qg je)))
  jh))))))⟩
noncomputable def qE:List PyData->Option PyData:=jC qV 1 jT.1
noncomputable abbrev qm:Stmt:=top 37
structure CLToldApart (P:Program) (w:World) (K:PySem.W.Frag) (mg:Str->Option Value) (base:Heap):Prop where
 t:Bare mg
 c_isManner:jn P w K mg base "is_manner" ["thing"] 3 1 jF
 c_LIsManner:jn P w K mg base "_law_is_manner" ["_law_thing"] 2 1 qE
 c_LTold:jn P w K mg base "_law_told" ["_law_way","_law_manner_here","_law_worth"] 6 3 qM
noncomputable abbrev zf:List Str:=["_law_things","_law_known","_law_thing","_law_told_here"]
theorem qx:FnScope zf ["_law_things"] (jf qm):=⟨rfl,rfl,rfl,by decide +kernel,rfl,by decide +kernel,by decide +kernel⟩
theorem agh:(["_law_way","_law_thing"]:List Str).Nodup:=by decide +kernel
noncomputable def zl:{ B:Rho->Option Out // agc CLToldApart "_law_told_apart" qm zf 6 (ZH (ahP (jK qm) 2)) B }:=
 ⟨_,fun P w K mg base f cdv A outer s H E C hr=>
  (jc (jG 3 qx.nd (jj C.c_isManner hr (by decide) (ja (jb 2) je) (jd jm)))
  (jc (j5 (zb (zV (jV (j7 (J1 (.inl rfl) C.t.isi C.t.bool abv (jb 3)))) (zU (jP (zh hr.units) (jb 3) (jj C.c_LIsManner hr (by decide) (ja (jb 2) je) (jd jm)))))) (jc (ju qF)
  jh) jh)
  (jc (j5 (zb (ahe (jV (j7 (jb 3))) (afm (jP (zh hr.units) (qi ["_law_way","_law_thing"] [none,some 2] rfl (qB rfl C.t.range (ja jg je)) (qj (jf qm) zf (by decide +kernel))
   fun cl C' s0 H0 fp pn=>⟨(jz 0 agh),qJ,(jj C.c_LTold hr (by decide) (ja (jb 0) (ja (jb 1) (ja QV je))) (jd (jd (jd jm))))⟩) (jo afS (qC 3 (.list [.tuple [.str "refused",.int 0]]) (by kernel_rfl)) jg))))) (jc (ju qF)
  jh) jh)
  jh)))⟩
noncomputable def zy:{ B:Rho->Option Out // Jp CLToldApart "_law_told_apart" qm zf 6 B }:=
 ⟨_,fun P w K mg base f cdv A outer s H E C hr=>
  (jc (jG 1 qx.nd (qg (ja (qC 2 (.tuple [.int 0,.int 1,.int 12,.int 13]) (by kernel_rfl)) (ja (qC 2 (.tuple [.int 0,.int 1,.int 12,.int 14]) (by kernel_rfl)) (ja (qC 2 (.tuple [.int 3,.int 16,.int 12,.int 12]) (by kernel_rfl)) (ja (qC 2 (.tuple [.int 3,.int 13,.int 12,.int 16]) (by kernel_rfl)) (ja (qC 2 (.tuple [.int 0,.int 1,.int 13,.int 13]) (by kernel_rfl)) (ja (zq (ja jg (ja jg (ja (Z8 jg) (ja jg je))))) je))))))))
  (jc (jG 1 qx.nd (jo jv (jb 1) (qg (ja (qC 2 (.tuple [.int 3,.int 5,.int 4,.int 17]) (by kernel_rfl)) (ja (zq (ja (Z8 jg) (ja jg (ja jg (ja jg je))))) (ja (qC 2 (.tuple [.int 4,.int 1,.int 9,.int 10]) (by kernel_rfl)) (ja (qC 2 (.tuple [.int 1,.int 17,.int 12,.int 13]) (by kernel_rfl)) (ja (qC 2 (.tuple [.int 1,.int 0,.int 9,.int 10]) (by kernel_rfl)) (ja (qC 2 (.tuple [.int 1,.int 5,.int 4,.int 1]) (by kernel_rfl)) je)))))))))
  (jc (ZC PassesOwn.never rfl (zw (jo jv (jb 0) (jb 1))) (jz 2 qx.nd) (zl.2 P w K mg base f cdv A outer s H E C hr))
  (jc (ju qF)
  jh))))⟩
noncomputable def zA:List PyData->Option PyData:=jC zf 1 zy.1
noncomputable abbrev Zd:Stmt:=top 38
structure CLaw (P:Program) (w:World) (K:PySem.W.Frag) (mg:Str->Option Value) (base:Heap):Prop where
 t:Bare mg
 c_manner:jn P w K mg base "_law_manner" ["_law_script","_law_at"] 3 2 QF
 c_drawn:jn P w K mg base "_law_drawn" ["_law_script","_law_k","_law_many"] 2 3 aai
 c_LToldApart:jn P w K mg base "_law_told_apart" ["_law_things"] 7 1 zA
 c_LRods:jn P w K mg base "_law_rods" ["_law_manner_here"] 1 1 Ju
 c_most:jn P w K mg base "most_on_rod" ["manner"] 2 1 aaf
 c_LTold:jn P w K mg base "_law_told" ["_law_way","_law_manner_here","_law_worth"] 6 3 qM
 c_fewest:jn P w K mg base "fewest_beads" ["manner","worth"] 3 2 ZG
 c_beads:jn P w K mg base "beads" ["rod"] 1 1 qL
noncomputable abbrev aax:List Str:=["_law_script","_law_manner_here","_law_at","_law_odd","_law_things","_law_rows","_law_rod","_law_worth","_law_most","_law_least"]
theorem qW:FnScope aax ["_law_script"] (jf Zd):=⟨rfl,rfl,rfl,by decide +kernel,rfl,by decide +kernel,by decide +kernel⟩
theorem agi:(["_law_worth","_law_rows"]:List Str).Nodup:=by decide +kernel
theorem act:(["_law_rod"]:List Str).Nodup:=by decide +kernel
theorem agj:(["_law_rod","_law_least"]:List Str).Nodup:=by decide +kernel
theorem agk:(["_law_one","_law_manner_here"]:List Str).Nodup:=by decide +kernel
noncomputable def adN:{ B:Rho->Option Out // aky 5 CLaw "law" Zd aax 7 (ZH (ahP (jK Zd) 7)) B }:=
 ⟨_,fun P w K mg base f cdv A outer s H E C hr=>
  (Q1 (ahv 7 qW.nd (jo jv (jo qK (qO (jb 6) jg) (qO (jb 1) jg)) (qO (jb 6) jg)))
  (Q1 (ahy 5 hr.units1 (jb 7) (jo jv (aaa hr.units1 (jb 5) (jb 7) (qg je)) (qg (ja (jb 6) je))))
  afJ))⟩
noncomputable def acu:{ B:Rho->Option Out // agc CLaw "law" Zd aax 7 (ZH (ahP (jK Zd) 11)) B }:=
 ⟨_,fun P w K mg base f cdv A outer s H E C hr=>
  (jc (j5 (jP (zh hr.units) (jj C.c_LTold hr (by decide) (ja jg (ja (jb 1) (ja (jb 7) je))) (jd (jd (jd jm)))) (aaa hr.units1 (jb 5) (jb 7) (qg je))) (jc (ju qF)
  jh) jh)
  (jc (j5 (aet (ajf hr.units1 (jb 7) (jb 5))) (jc (jG 9 qW.nd (jM (aht rfl) C.t.min abj (ja (qi ["_law_rod"] [none] rfl (zw (afQ hr.units1 (jb 5) (jb 7))) (qj (jf Zd) aax (by decide +kernel))
   fun cl C' s0 H0 fp pn=>⟨(jz 0 act),qJ,(jM (ac0 rfl) C.t.sum adc (ja (jb 0) je))⟩) je)))
  (jc (j5 (jP (zh hr.units) (jj C.c_fewest hr (by decide) (ja (jb 1) (ja (jb 7) je)) (jd (jd jm))) (qO (qi ["_law_rod","_law_least"] [none,some 9] rfl (zw (afQ hr.units1 (jb 5) (jb 7))) (qj (jf Zd) aax (by decide +kernel))
   fun cl C' s0 H0 fp pn=>⟨(jz 0 agj),(Ji (jP (JY hr.units) (jM (ac0 rfl) C.t.sum adc (ja (jb 0) je)) (jb 1))),(jb 0)⟩) jg)) (jc (ju qF)
  jh) jh)
  jh)) jh)
  jh))⟩
noncomputable def ahR:{ B:Rho->Option Out // Jp CLaw "law" Zd aax 7 B }:=
 ⟨_,fun P w K mg base f cdv A outer s H E C hr=>
  (jc (jG 1 qW.nd (jj C.c_manner hr (by decide) (ja (jb 0) (ja jg je)) (jd (jd jm))))
  (jc (jG 2 qW.nd (jj C.c_drawn hr (by decide) (ja (jb 0) (ja jg (ja jg je))) (jd (jd (jd jm)))))
  (jc (jG 3 qW.nd (qO (qg (ja QV (ja qF (ja (Z8 jg) (ja jg (ja jg (ja jg (ja jg (ja jg (ja jg (ja jg (ja jg (ja jg (ja jg (ja jg (ja ZZ (ja (qC 2 (.tuple [.int 1]) (by kernel_rfl)) je))))))))))))))))) (jj C.c_drawn hr (by decide) (ja (jb 0) (ja jg (ja jg je))) (jd (jd (jd jm))))))
  (jc (jG 4 qW.nd (qg (ja (jb 1) (ja (jo jv (jo jv (ab9 (jb 1) (jb 2)) (zq (ja (jb 3) je))) (J9 (jb 1) (jo jv (jb 2) jg))) (ja (jo jv (jo jv (ab9 (jb 1) (jb 2)) (zq (ja (jb 3) je))) (J9 (jb 1) (jb 2))) je)))))
  (jc (jG 4 qW.nd (jo jv (jb 4) (qg (ja (J9 (jb 1) jg) (ja (aef aeE C.t.list ahN (ja (jb 1) je)) (ja (ajm (jb 1)) (ja QV (ja (zq je) (ja (jb 3) je)))))))))
  (jc (j5 (jV (j7 (jj C.c_LToldApart hr (by decide) (ja (jb 4) je) (jd jm)))) (jc (ju qF)
  jh) jh)
  (afI (afM 5 qW.nd afL
  (Q1 (ahw PassesOwn.never rfl (zw (jj C.c_LRods hr (by decide) (ja (jb 1) je) (jd jm))) (afK 6 qW.nd) (adN.2 P w K mg base f cdv A outer s H E C hr))
  (af7 (jc (jG 8 qW.nd (jM (ahM rfl) C.t.max abk (ja (jb 5) je)))
  (jc (j5 (jP (zh hr.units) (jj C.c_most hr (by decide) (ja (jb 1) je) (jd jm)) (jb 8)) (jc (ju qF)
  jh) jh)
  (jc (j5 (jP (zh hr.units) (jj C.c_LTold hr (by decide) (ja jg (ja (jb 1) (ja QV je))) (jd (jd (jd jm)))) (qi ["_law_worth","_law_rows"] [none,some 5] rfl (qB rfl C.t.range (ja (jo jv (jb 8) jg) je)) (qj (jf Zd) aax (by decide +kernel))
   fun cl C' s0 H0 fp pn=>⟨(jz 0 agi),qJ,(jM Jj C.t.len Jo (ja (aaa hr.units1 (jb 1) (jb 0) (qg je)) je))⟩)) (jc (ju qF)
  jh) jh)
  (jc (ZC PassesOwn.never rfl (qB rfl C.t.range (ja (jo jv (jb 8) jg) je)) (jz 7 qW.nd) (acu.2 P w K mg base f cdv A outer s H E C hr))
  (jc (j5 (jP (zh hr.units) (qi ["_law_rod"] [none] rfl (zw (jj C.c_LRods hr (by decide) (ja (jb 1) je) (jd jm))) (qj (jf Zd) aax (by decide +kernel))
   fun cl C' s0 H0 fp pn=>⟨(jz 0 act),(Ji (jP (zh hr.units) (jj C.c_beads hr (by decide) (ja (jb 0) je) (jd jm)) (jM (ac0 rfl) C.t.sum adc (ja (jb 0) je)))),(jb 0)⟩) (qg je)) (jc (ju qF)
  jh) jh)
  (jc (jG 3 qW.nd (qO (qg (ja (Z8 jg) (ja jg (ja QV (ja qF (ja ZZ je)))))) (jj C.c_drawn hr (by decide) (ja (jb 0) (ja jg (ja jg je))) (jd (jd (jd jm))))))
  (jc (ju (acZ (JY hr.units) (qi ["_law_one","_law_manner_here"] [none,some 1] rfl (zw (zq (ja (jb 3) (ja jg (ja jg je))))) (qj (jf Zd) aax (by decide +kernel))
   fun cl C' s0 H0 fp pn=>⟨(jz 0 agk),qJ,(jj C.c_LTold hr (by decide) (ja jg (ja (jb 1) (ja (jb 0) je))) (jd (jd (jd jm))))⟩) (qC 3 (.list [.tuple [.str "refused",.int 2],.list [],.tuple [.str "refused",.int 2]]) (by kernel_rfl))))
  jh)))))))))))))))))⟩
noncomputable def ahS:List PyData->Option PyData:=jC aax 1 ahR.1
theorem qq (i a b:Int):jY [.int i,.int a,.int b]=some (.bool (decide (a<=i) && decide (i<=b))):=by
 by_cases h:a<=i <;> simp [jY,jC,QC,jE,jR,ifS,orB,tst,lkp,QZ,tyn,asB,zk,chn,Z4,zc,zu,h]
theorem abG (u e l b x y:Int) (h:-18446744073709551616 < x/\x < 18446744073709551616):qf [.tuple [.int u,.int e,.int l,.int b],.tuple [.int x,.int y]]=some (.int (x*e+y)):=by
 simp [qf,jC,Q6,jE,jR,op2,lkp,dIx,atI,ixN,zc,zu,cst,JP,zF,h]
theorem Ze (x y:Int):qL [.tuple [.int x,.int y]]=some (.int (x+y)):=by
 simp [qL,jC,ade,jE,jR,op2,lkp,dIx,atI,ixN,zc,zu,cst,zF]
noncomputable def okN (u e l b:Int):Bool:=decide (0<=u) && decide (u<=3) && decide (1<=e) && decide (e<=5) && decide (e - 1<=l) && decide (1<=l) && decide (l<=11) && decide (2<=b) && decide (b<=16) && decide (b<=u*e+l+1)
noncomputable def jH (u l:Int):List PyData:=qu (u+1).toNat (l+1).toNat
noncomputable def jr (e:Int):PyData->Int
 | .tuple [.int x,.int y]=>x*e+y
 | _=>-1
noncomputable def pr (p:Int × Int):PyData:= .tuple [.int p.1,.int p.2]
noncomputable def akz (ps:List (Int × Int)):PyData:= .tuple (ps.map pr)
noncomputable def wt (e:Int) (p:Int × Int):Int:=p.1*e+p.2
noncomputable def ahT (e:Int):List Int->List PyData->List Int
 | c,[]=>c
 | c,r::rs=>ahT e (c.set (jr e r).toNat (c.getD (jr e r).toNat 0+1)) rs
noncomputable def acv (u e l:Int):List Int:=ahT e (List.replicate (u*e+l+1).toNat 0) (jH u l)
noncomputable def cnt (u e l n:Int):Int:=((jH u l).filter fun r=>jr e r == n).length
noncomputable def okM (u e l b:Int):Bool:=decide (0<=u) && decide (u<=3) && decide (1<=e) && decide (e<=5) && decide (e - 1<=l) && decide (1<=l) && decide (l<=10) && decide (2<=b) && decide (b<=16) && decide (b<=u*e+l+1)
theorem aaX {n m:Nat}{d:PyData} (h:d ∈ qu n m):∃ i j:Nat,i < n/\j < m/\d= .tuple [.int i,.int j]:=by
 obtain ⟨i,hi,hd⟩:=List.mem_flatMap.mp h
 obtain ⟨j,hj,rfl⟩:=List.mem_map.mp hd
 exact ⟨i,j,List.mem_range.mp hi,List.mem_range.mp hj,rfl⟩
theorem Ja (i:Int):okD (.int i)=true:=by simp [okD,PyData.canLay0,PyData.depth]
theorem zB {u e l b:Int} (hu:0<=u) (hu':u < 100) (hl:0<=l) (hl':l < 100):qv [jq u e l b]=some (.list (jH u l)):=by
 simp [qv,jq,jH,hu,hl,show u < 1000 by omega,show l < 1000 by omega]
theorem Jw {u l:Int} (hu':u < 100) (hl':l < 100):few (jH u l)=true:=by
 simp only [few,jH,zM,decide_eq_true_eq]
 have:(u+1).toNat*(l+1).toNat<=100*100:=Nat.mul_le_mul (by omega) (by omega)
 omega
theorem JK {u e l b:Int} (hu':u < 100) {d:PyData} (h:d ∈ jH u l):qf [jq u e l b,d]=some (.int (jr e d)):=by
 obtain ⟨i,j,hi,hj,rfl⟩:=aaX h
 exact abG u e l b i j (by omega)
theorem Qb {α:Type} (f:α->Int):∀ xs:List α,jX (xs.map fun d=>PyData.int (f d))=some (xs.map f)
 | []=>rfl
 | x::xs=>by simp [jX,zd,Qb f xs]
theorem QH (ns:List Int):okD (.list (ns.map PyData.int))=true:=by
 have h1:∀ ns:List Int,PyData.canLayAll0 (ns.map PyData.int)=true:=fun ns=>by
  induction ns with
  | nil=>rfl
  | cons n ns ih=>simp [PyData.canLayAll0,PyData.canLay0,ih]
 have h2:∀ ns:List Int,PyData.depthAll (ns.map PyData.int)=0:=fun ns=>by
  induction ns with
  | nil=>rfl
  | cons n ns ih=>simp [PyData.depthAll,PyData.depth,ih]
 simp [okD,PyData.canLay0,h1,PyData.depth,h2]
theorem acw (ns:List Int) (d:Int):(ns.map PyData.int).any (fun z=>PyData.eqv z (.int d))=ns.any (fun z=>z == d):=by
 induction ns with
 | nil=>rfl
 | cons n ns ih=>simp only [List.map_cons,List.any_cons,ih]; rfl
theorem adO {α:Type} (f:α->Bool):∀ xs:List α,bls (xs.map fun d=>PyData.bool (f d))=some (xs.map f)
 | []=>rfl
 | x::xs=>by simp [bls,asB,adO f xs]
theorem ix0 (u e l b:Int):dIx (jq u e l b) (.int 0)=some (.int u):=rfl
theorem ix1 (u e l b:Int):dIx (jq u e l b) (.int 1)=some (.int e):=rfl
theorem ix2 (u e l b:Int):dIx (jq u e l b) (.int 2)=some (.int l):=rfl
theorem ix3 (u e l b:Int):dIx (jq u e l b) (.int 3)=some (.int b):=rfl
theorem JL {j:Int} (h:0<=j) (h':j < 1000000):Qk [.int j]=some (qk 0 j.toNat):=by
 unfold Qk
 exact if_pos (by omega)
theorem QI (a b:Int):PyData.eqv (.int a) (.int b)=(a == b):=by unfold PyData.eqv; rfl
theorem Qc {u e l b:Int} (hu:0<=u) (hu':u < 100) (hl:0<=l) (hl':l < 100) (hb:0<=b) (hb':b < 100):QE [jq u e l b]=some (.bool ((List.range b.toNat).all fun d=>((jH u l).map (jr e)).any fun z=>z == (d:Int))):=by
 have h1:=zB (e:=e) (b:=b) hu hu' hl hl'
 have h2:=Jw hu' hl'
 have h4:few (qk 0 b.toNat)=true:=by simp [few,qk]; omega
 simp only [QE,jC,aby,jE,jR,zc,j6,itL,jD,jk,jA,lkp,JX,List.length_cons,List.length_nil,zzM,List.map_cons,List.map_nil,List.cons_append,List.nil_append,zzA,zzC,zzD,zzE,h1,h2,Je,zE]
 rw [zK (fun d=> .int (jr e d))]
 ·simp only [jL,zu,op2,cst,lkp,zzD,zzE,zzF,zzG,List.replicate,List.length_cons,List.length_nil,zzA,zzB,zzC,ix3,JL hb (show b < 1000000 by omega),h4,zzM]
  rw [zK (fun d=> .bool (((jH u l).map (jr e)).any fun z=>z == (zd d).getD 0))]
  ·have:(qk 0 b.toNat).map (fun d=>PyData.bool (((jH u l).map (jr e)).any fun z=>z == (zd d).getD 0))=(List.range b.toNat).map fun (d:Nat)=>PyData.bool (((jH u l).map (jr e)).any fun z=>z == (d:Int)):=by
    simp [qk,zd,Function.comp_def]
   simp only [zzE,zzD,this,ajb,adO (fun (d:Nat)=>((jH u l).map (jr e)).any fun z=>z == (d:Int)),List.all_map,Function.comp_def,id]
  ·intro d hd
   obtain ⟨k,_,rfl⟩:=List.mem_map.mp hd
   have h5:(jH u l).map (fun d=>PyData.int (jr e d))=((jH u l).map (jr e)).map PyData.int:=by simp
   have h6:=QH ((jH u l).map (jr e))
   simp only [op2,lkp,zzG,zzA,zzB,zzC,zzD,dIn,Ja,h5,h6,acw]
   simp [zd]
 ·intro d hd
  simp [jD,jk,jA,lkp,JK (b:=b) (e:=e) hu' hd]
theorem QJ {u e l b:Int} (hu:0<=u) (hu':u<=3) (he:1<=e) (he':e<=16) (hl:0<=l) (hl':l<=12) (hb:2<=b) (hb':b<=16):jF [jq u e l b]=QE [jq u e l b]:=by
 have g:=Qc (e:=e) hu (by omega) hl (by omega) (show 0<=b by omega) (by omega)
 have w1:jY [.int u,.int 0,.int 3]=some (.bool true):=by rw [qq]; simp [hu,hu']
 have w2:jY [.int e,.int 1,.int 16]=some (.bool true):=by rw [qq]; simp [he,he']
 have w3:jY [.int l,.int 0,.int 12]=some (.bool true):=by rw [qq]; simp [hl,hl']
 have w4:jY [.int b,.int 2,.int 16]=some (.bool true):=by rw [qq]; simp [hb,hb']
 have z:ab1 [jq u e l b,.tuple [.int 0,.int 1,.int 0,.int 2],.tuple [.int 3,.int 16,.int 12,.int 16]]=some [.tuple [.int u,.int 0,.int 3],.tuple [.int e,.int 1,.int 16],.tuple [.int l,.int 0,.int 12],.tuple [.int b,.int 2,.int 16]]:=rfl
 rw [g]
 rw [show jq u e l b= .tuple [.int u,.int e,.int l,.int b] from rfl] at g z ⊢
 simp [jF,jC,qH,jE,jR,ifS,orB,zk,tst,QZ,tyn,asB,lkp,op2,jD,jk,jA,Qm,cst,dNe,Ja,QI,zu,Z3,z,jS,aas,j8,JW,jL,w1,w2,w3,w4,zc,g]
theorem Zf {m:PyData} (h:jF [m]=some (.bool true)):qT [m]=some .none:=by
 simp [qT,jC,abz,jE,jR,ifS,zk,tst,asB,jD,jk,jA,lkp,h,zu]
theorem zC:few []=true:=by simp [few]
theorem add_int (i j:Int):zF (.int i) (.int j)=some (.int (i+j)):=rfl
theorem qX {i j:Int} (h:-1000000000000 < i/\i < 1000000000000):JP (.int i) (.int j)=some (.int (i*j)):=by
 unfold JP; exact if_pos (.inl ⟨by omega,by omega⟩)
theorem adP {i j:Int} (h:0 < j):ahl (.int i) (.int j)=some (.int (i % j)):=by unfold ahl; exact if_pos h
theorem acx {i j:Int} (h:0 < j) (h':j < 1000000000):adE (.int i) (.int j)=some (.int (i / j)):=by unfold adE; exact if_pos ⟨h,by omega⟩
theorem agl (ns:List Int) (hn:ns.length < 1000000) (k:Int) (hk:0<=k):∃ c,acq [scr ns,.int k]=some (.int c):=by
 cases ns with
 | nil=>
  refine ⟨7*k,?_⟩
  simp [acq,jC,adM,jE,jR,ifS,tst,op2,lkp,JV,jA,few,dEq,scr,zi,asB,zc,cst,qX,zu]
 | cons n ns=>
  have hl:0 < (((n::ns).map fun n=>(PyData.int n,PyData.none)).length:Int):=by simp
  have hl':(((n::ns).map fun n=>(PyData.int n,PyData.none)).length:Int) < 1000000:=by simp at hn ⊢; omega
  have hsc:=aaI (n::ns)
  have e1:dEq (scr (n::ns)) (.list [])=some (.bool false):=by
   show (if zi ((n::ns).map fun n=>(PyData.int n,PyData.none))=true then some (PyData.bool ((n::ns).map fun n=>(PyData.int n,PyData.none)).isEmpty) else none)=_
   rw [if_pos hsc]; rfl
  have e2:Qm [scr (n::ns)]=some (.int (((n::ns).map fun n=>(PyData.int n,PyData.none)).length)):=by
   show (if zi ((n::ns).map fun n=>(PyData.int n,PyData.none))=true then some (PyData.int ((n::ns).map fun n=>(PyData.int n,PyData.none)).length) else none)=_
   rw [if_pos hsc]
  generalize hL:(((n::ns).map fun n=>(PyData.int n,PyData.none)).length:Int)=L at*
  have h0:0<=k % L:=Int.emod_nonneg _ (by omega)
  have h1:k % L < L:=Int.emod_lt_of_pos _ hl
  have e3:∃ c,dIx (scr (n::ns)) (.int (k % L))=some (.int c):=by
   have hlen:((n::ns).map fun n=>(PyData.int n,PyData.none)).length < 1000000:=by omega
   have hlt:(k % L).toNat < ((n::ns).map fun n=>(PyData.int n,PyData.none)).length:=by omega
   have hx:ixN ((n::ns).map fun n=>(PyData.int n,PyData.none)).length (k % L)=some (k % L).toNat:=abB h0 hlt
   refine ⟨((n::ns)[(k % L).toNat]'(by simpa using hlt)),?_⟩
   show (if ((n::ns).map fun n=>(PyData.int n,PyData.none)).length < 1000000/\zi ((n::ns).map fun n=>(PyData.int n,PyData.none))=true then (atI ((n::ns).map fun n=>(PyData.int n,PyData.none)) (k % L)).map (·.1) else none)=_
   rw [if_pos ⟨hlen,hsc⟩]
   unfold atI
   rw [hx,zzD,List.getElem?_eq_getElem hlt,zzE,List.getElem_map]
  obtain ⟨c,e3⟩:=e3
  refine ⟨c+6553*(k / L),?_⟩
  simp [acq,jC,adM,jE,jR,ifS,tst,op2,lkp,JV,jA,few,asB,zc,cst,zu,jD,jk,e1,e2,e3,adP hl,acx hl (show L < 1000000000 by omega),qX,add_int]
theorem qI (ns:List Int) (hn:ns.length < 1000000) (k m:Int) (hk:0<=k) (hm:0 < m):∃ r,aai [scr ns,.int k,.int m]=some (.int r)/\0<=r/\r < m:=by
 obtain ⟨c,hc⟩:=agl ns hn k hk
 generalize h1:(c % 2147483563*69069+104723*(k+1)) % 2147483563=a
 generalize h2:(a*a+a / 3) % 2147483399=d
 have ha:0<=a/\a < 2147483563:=by rw [←h1]; exact ⟨Int.emod_nonneg _ (by omega),Int.emod_lt_of_pos _ (by omega)⟩
 have hd:0<=d/\d < 2147483399:=by rw [←h2]; exact ⟨Int.emod_nonneg _ (by omega),Int.emod_lt_of_pos _ (by omega)⟩
 have hc':0<=c % 2147483563/\c % 2147483563 < 2147483563:=⟨Int.emod_nonneg _ (by omega),Int.emod_lt_of_pos _ (by omega)⟩
 refine ⟨(d*d+d / 7) % 2147483647 / 11 % m,?_,Int.emod_nonneg _ (by omega),Int.emod_lt_of_pos _ hm⟩
 have m1:JP (.int (c % 2147483563)) (.int 69069)=some (.int (c % 2147483563*69069)):=qX (by omega)
 have m2:JP (.int 104723) (.int (k+1))=some (.int (104723*(k+1))):=qX (by omega)
 have m3:JP (.int a) (.int a)=some (.int (a*a)):=qX (by omega)
 have m4:JP (.int d) (.int d)=some (.int (d*d)):=qX (by omega)
 simp [aai,jC,adg,jE,jR,zE,jL,op2,lkp,jA,zc,cst,zu,jD,jk,hc,m1,m2,m3,m4,adP,acx,add_int,h1,h2,hm]
theorem agm (w:Int) (h0:0<=w) (h:w < 12):∃ u e l b,dIx (.list (Q8++Q9)) (.int w)=some (jq u e l b)/\okM u e l b=true:=by
 obtain ⟨n,rfl⟩:=Int.eq_ofNat_of_zero_le h0
 have hn:n < 12:=by omega
 have:∀ n < 12,∃ u e l b,dIx (.list (Q8++Q9)) (.int (n:Nat))=some (jq u e l b)/\okM u e l b=true:=by
  intro n hn
  match n,hn with
  | 0,_=>exact ⟨_,_,_,_,rfl,by decide⟩
  | 1,_=>exact ⟨_,_,_,_,rfl,by decide⟩
  | 2,_=>exact ⟨_,_,_,_,rfl,by decide⟩
  | 3,_=>exact ⟨_,_,_,_,rfl,by decide⟩
  | 4,_=>exact ⟨_,_,_,_,rfl,by decide⟩
  | 5,_=>exact ⟨_,_,_,_,rfl,by decide⟩
  | 6,_=>exact ⟨_,_,_,_,rfl,by decide⟩
  | 7,_=>exact ⟨_,_,_,_,rfl,by decide⟩
  | 8,_=>exact ⟨_,_,_,_,rfl,by decide⟩
  | 9,_=>exact ⟨_,_,_,_,rfl,by decide⟩
  | 10,_=>exact ⟨_,_,_,_,rfl,by decide⟩
  | 11,_=>exact ⟨_,_,_,_,rfl,by decide⟩
  | k+12,h=>omega
 exact this n hn
theorem adi (ns:List Int) (hn:ns.length < 1000000) (k:Int) (hk:0<=k):∃ u e l b,QF [scr ns,.int k]=some (jq u e l b)/\okM u e l b=true:=by
 obtain ⟨w,hw,hw0,hw1⟩:=qI ns hn k 24 hk (by omega)
 have a1:zF (.list Q8) (.list Q9)=some (.list (Q8++Q9)):=rfl
 have a2:Qm [.list (Q8++Q9)]=some (.int 12):=rfl
 have a3:JP (.int 2) (.int 12)=some (.int 24):=rfl
 by_cases hlt:w < 12
 ·obtain ⟨u,e,l,b,h1,h2⟩:=agm w hw0 hlt
  refine ⟨u,e,l,b,?_,h2⟩
  simp [QF,jC,ZJ,jE,jR,zE,jL,op2,lkp,jA,zc,cst,zu,jD,jk,ifS,tst,asB,a1,a2,a3,hw,Z4,hlt,h1]
 ·obtain ⟨r1,e1,p1,q1⟩:=qI ns hn (k+1) 5 (by omega) (by omega)
  obtain ⟨r2,e2,p2,q2⟩:=qI ns hn (k+2) 4 (by omega) (by omega)
  obtain ⟨r3,e3,p3,q3⟩:=qI ns hn (k+3) 4 (by omega) (by omega)
  generalize hlo:(if (1:Int) > 1+r1 - 1 then 1 else 1+r1 - 1)+r3=lo
  have hlo1:1<=lo/\r1<=lo/\lo<=10:=by
   rw [←hlo]; split <;> omega
  have hue:0<=r2*(1+r1)/\r2*(1+r1)<=3*5:=⟨Int.mul_nonneg p2 (by omega),Int.mul_le_mul (by omega) (by omega) (by omega) (by omega)⟩
  generalize hmn:(if r2*(1+r1)+lo < 15 then r2*(1+r1)+lo else 15)=mn
  have hmn1:0 < mn/\mn<=15/\mn<=r2*(1+r1)+lo:=by
   rw [←hmn]; split <;> omega
  obtain ⟨r4,e4,p4,q4⟩:=qI ns hn (k+4) mn (by omega) (by omega)
  refine ⟨r2,1+r1,lo,2+r4,?_,?_⟩
  ·have m1:JP (.int r2) (.int (1+r1))=some (.int (r2*(1+r1))):=qX (by omega)
   have x1:afq [.int (1+r1 - 1),.int 1]=some (.int (if (1:Int) > 1+r1 - 1 then 1 else 1+r1 - 1)):=rfl
   have x2:afr [.int 15,.int (r2*(1+r1)+lo)]=some (.int (if r2*(1+r1)+lo < 15 then r2*(1+r1)+lo else 15)):=rfl
   have x3:ai4 (.int (1+r1)) (.int 1)=some (.int (1+r1 - 1)):=rfl
   simp only [QF,jC,ZJ,jE,jR,zE,jL,op2,lkp,jA,zc,cst,zu,jD,jk,ifS,tst,asB,a1,a2,a3,hw,Z4,hlt,zzD,zzE,zzF,zzG,List.replicate,List.length_cons,List.length_nil,zzM,List.map_cons,List.map_nil,List.cons_append,List.nil_append,zzA,zzB,zzC,add_int,e1,e2,e3,m1,x1,x2,x3,decide_false,hlo,hmn,e4]
   simp [e1,e2,e3,m1,x1,x2,x3,hlo,hmn,e4,add_int,lkp,Jd,jk,jA,few,jq]
   simp only [Jd,jk,jA,lkp,op2,jD,cst,zzD,zzE,zzA,zzB,zzC,add_int,m1,x2,hmn,e4]
   simp
  ·have:=hue.1
   simp [okM]
   omega
theorem agn {u e l b:Int} (hu:0<=u) (hu':u < 100) (hl:0<=l) (hl':l < 100):aaf [jq u e l b]=some (Zx none ((jH u l).map (jr e))):=by
 have h1:=zB (e:=e) (b:=b) hu hu' hl hl'
 have h2:=Jw hu' hl'
 simp only [aaf,jC,agb,jE,jR,zc,j6,itL,jD,jk,jA,lkp,JX,List.length_cons,List.length_nil,zzM,List.map_cons,List.map_nil,List.cons_append,List.nil_append,zzA,zzC,zzD,zzE,h1,h2,Je]
 rw [zK (fun d=> .int (jr e d))]
 ·simp [aaN,Qb]
 ·intro d hd
  simp [jD,jk,jA,lkp,JK (b:=b) (e:=e) hu' hd]
theorem adQ {u e l b:Int} (hu':u < 100):∀ (rs:List PyData) (c:List Int),(∀ r ∈ rs,r ∈ jH u l/\0<=jr e r/\(jr e r).toNat < c.length)->aaw (jq u e l b) c rs=some (ahT e c rs)
 | [],c,_=>rfl
 | r::rs,c,h=>by
  obtain ⟨h1,h2,h3⟩:=h r List.mem_cons_self
  have ih:=adQ hu' (b:=b) rs (c.set (jr e r).toNat (c.getD (jr e r).toNat 0+1)) fun q hq=>by
   obtain ⟨a1,a2,a3⟩:=h q (List.mem_cons_of_mem _ hq)
   exact ⟨a1,a2,by rw [List.length_set]; exact a3⟩
  have hg:c[(jr e r).toNat]?=some (c.getD (jr e r).toNat 0):=by simp [List.getD,h3]
  unfold aaw
  rw [JK (b:=b) (e:=e) hu' h1]
  simp only [h2,zzM,hg,ih,ahT]
noncomputable def isInt (t:Int):PyData->Bool
 | .int x=>x == t
 | _=>false
noncomputable def ajq (u e l:Int):Bool:=
 isInt (u*e+l) (Zx none ((jH u l).map (jr e))) &&
 ((List.range (u*e+l+1).toNat).all fun n=>(jH u l).any fun r=>jr e r == (n:Int)) &&
 ((jH u l).all fun r=>decide (0<=jr e r) && decide (jr e r<=u*e+l)) &&
 decide (acv u e l=(List.range (u*e+l+1).toNat).map fun (n:Nat)=>cnt u e l n)
noncomputable def Jb:Bool:=(List.range 4).all fun (i:Nat)=>(List.range 5).all fun (j:Nat)=>(List.range 11).all fun (k:Nat)=>decide (k+1 < j) || ajq i (j+1) (k+1)
structure Chk (u e l:Int):Prop where
 most:Zx none ((jH u l).map (jr e))= .int (u*e+l)
 dig:∀ n:Nat,n < (u*e+l+1).toNat->((jH u l).any fun r=>jr e r == (n:Int))=true
 rng:∀ r ∈ jH u l,0<=jr e r/\jr e r<=u*e+l
 lst:acv u e l=(List.range (u*e+l+1).toNat).map fun (n:Nat)=>cnt u e l n
theorem ajr {u e l:Int} (h:ajq u e l=true):Chk u e l:=by
 simp only [ajq,Bool.and_eq_true,List.all_eq_true,decide_eq_true_eq] at h
 obtain ⟨⟨⟨h1,h2⟩,h3⟩,h4⟩:=h
 refine ⟨?_,fun n hn=>h2 n (List.mem_range.mpr hn),fun r hr=>h3 r hr,h4⟩
 generalize Zx none ((jH u l).map (jr e))=x at h1
 cases x <;> simp [isInt] at h1
 rw [h1]
theorem qy {u e l b:Int} (h:okN u e l b=true):0<=u/\u<=3/\1<=e/\e<=5/\e - 1<=l/\1<=l/\l<=11/\2<=b/\b<=16/\b<=u*e+l+1:=by
 simp only [okN,Bool.and_eq_true,decide_eq_true_eq] at h
 omega
theorem Zg {u e l b:Int} (H:Jb=true) (h:okN u e l b=true):Chk u e l:=by
 obtain ⟨a1,a2,a3,a4,a5,a6,a7,_⟩:=qy h
 simp only [Jb,List.all_eq_true,Bool.or_eq_true,decide_eq_true_eq] at H
 have:=H u.toNat (List.mem_range.mpr (by omega)) (e - 1).toNat (List.mem_range.mpr (by omega)) (l - 1).toNat (List.mem_range.mpr (by omega))
 rcases this with z | z
 ·exfalso; omega
 ·rw [show ((u.toNat:Nat):Int)=u by omega,show (((e - 1).toNat:Nat):Int)+1=e by omega,show (((l - 1).toNat:Nat):Int)+1=l by omega] at z
  exact ajr z
theorem ahU {u e l b:Int} (h:okM u e l b=true):okN u e l b=true:=by
 simp only [okM,okN,Bool.and_eq_true,decide_eq_true_eq] at h ⊢
 omega
theorem ajs {u e l b:Int} (H:Jb=true) (h:okN u e l b=true) {n:Int} (h0:0<=n) (hn:n < b):((jH u l).any fun r=>jr e r == n)=true:=by
 obtain ⟨a1,a2,a3,a4,a5,a6,a7,a8,a9,a10⟩:=qy h
 have:=(Zg H h).dig n.toNat (by omega)
 rw [show ((n.toNat:Nat):Int)=n by omega] at this
 exact this
noncomputable def JT (u e l w:Int):List PyData:=(jH u l).filter fun r=>jr e r == w
theorem QK {u e l b w:Int} (hu:0<=u) (hu':u < 100) (hl:0<=l) (hl':l < 100):zm [jq u e l b,.int w]=some (.list (JT u e l w)):=by
 have h1:=zB (e:=e) (b:=b) hu hu' hl hl'
 have h2:=Jw hu' hl'
 simp only [zm,jC,Q7,jE,jR,zc,j6,itL,jD,jk,jA,lkp,JX,List.length_cons,List.length_nil,zzM,List.map_cons,List.map_nil,List.cons_append,List.nil_append,zzA,zzC,zzD,zzE,h1,h2,Je]
 rw [Jm (fun d=>jr e d == w) id]
 ·simp [JT]
 ·intro d hd
  simp [tst,op2,jD,jk,jA,lkp,JK (b:=b) (e:=e) hu' hd,dEq,Ja,PyData.eqv,asB]
 ·intro d hd _
  simp [lkp]
end Rods
theorem Rods.allN_true:Rods.Jb=true:=by decide +kernel
namespace Rods
open PySem L2 BX
open PyProof.Rows hiding St
theorem jI {F G:Rho->Option Out}{ρ ρ1:Rho} (h:F ρ=some (.nx ρ1)):jR F G ρ=G ρ1:=by
 unfold jR
 rw [h]
 rfl
theorem qr {N:List Str}{n:Nat}{B:Rho->Option Out}{ds:List PyData}{d:PyData} (hl:ds.length=n) (h:B (jE N ds)=some (.rt d)):jC N n B ds=some d:=by
 unfold jC
 rw [if_pos hl,h]
theorem qz {ds:List PyData} (h:ds.length < 10000):few ds=true:=by
 rw [few]
 refine decide_eq_true ?_
 omega
theorem ahV {u e l b:Int} (H:Jb=true) (h:okN u e l b=true):jF [jq u e l b]=some (.bool true):=by
 obtain ⟨a1,a2,a3,a4,a5,a6,a7,a8,a9,a10⟩:=qy h
 rw [QJ a1 a2 a3 (by omega) (by omega) (by omega) a8 a9,Qc a1 (by omega) (by omega) (by omega) (by omega) (by omega)]
 congr 2
 refine List.all_eq_true.mpr fun d hd=>?_
 have:=ajs H h (n:=(d:Int)) (by omega) (by have:=List.mem_range.mp hd; omega)
 simpa [List.any_map,Function.comp_def] using this
end Rods
namespace Rods
open PySem L2 BX
open PyProof.Rows hiding St
section
variable {u e l b:Int}{ps qs:List (Int × Int)}
theorem ahW (i j:Int):dEq (.int i) (.int j)=some (.bool (decide (i=j))):=by
 have:(i == j)=decide (i=j):=rfl
 simp only [dEq,Ja,QI,and_self,zzM,this]
end
end Rods
namespace BX
open PySem PySem.Spec L2
open PyProof.Rows hiding St
theorem QL {ga:PyData->Rho->Option Rho}{F:Rho->Option Out} (Iv:Nat->Rho->Prop):∀ (ds:List PyData) (i:Nat) (ρ:Rho),Iv i ρ->
  (∀ j d ρ,ds[j]?=some d->Iv (i+j) ρ->∃ ρ1 ρ2,ga d ρ=some ρ1/\F ρ1=some (.nx ρ2)/\Iv (i+j+1) ρ2)->∃ ρ',jS ga F ds ρ=some (.nx ρ')/\Iv (i+ds.length) ρ'
 | [],i,ρ,h,_=>⟨ρ,rfl,h⟩
 | d::ds,i,ρ,h,hs=>by
  obtain ⟨ρ1,ρ2,h1,h2,h3⟩:=hs 0 d ρ rfl h
  obtain ⟨ρ',h4,h5⟩:=QL Iv ds (i+1) ρ2 h3 fun j d ρ hd hi=>by
   have:=hs (j+1) d ρ (by simpa using hd) (by rw [show i+(j+1)=i+1+j by omega]; exact hi)
   rw [show i+1+j+1=i+(j+1)+1 by omega]; exact this
  refine ⟨ρ',?_,by rw [List.length_cons,show i+(ds.length+1)=i+1+ds.length by omega]; exact h5⟩
  simp [jS,h1,h2,h4]
theorem acy {n j:Nat}{d:PyData} (h:(qk 0 n)[j]?=some d):j < n/\d= .int j:=by
 simp only [qk,List.getElem?_map] at h
 cases hj:(List.range n)[j]? with
 | none=>rw [hj] at h; cases h
 | some k=>
  rw [hj] at h
  obtain ⟨h1,h2⟩:=List.getElem?_eq_some_iff.mp hj
  simp at h1 h2
  subst h2
  simp at h
  exact ⟨h1,h.symm⟩
theorem acz (n:Nat):(qk 0 n).length=n:=by simp [qk]
end BX
namespace Rods
open PySem L2 BX
open PyProof.Rows hiding St
section
variable {u e l b:Int}
end
end Rods
namespace Rods
open PySem L2 BX
open PyProof.Rows hiding St
theorem adR (H:Jb=true) {u e l b:Int} (h:okN u e l b=true):aaf [jq u e l b]=some (.int (u*e+l)):=by
 obtain ⟨a1,a2,a3,a4,a5,a6,a7,a8,a9,a10⟩:=qy h
 rw [agn a1 (by omega) (by omega) (by omega),(Zg H h).most]
theorem aeL (H:Jb=true) {u e l b:Int} (ho:okN u e l b=true):qY [jq u e l b]=some (.list ((acv u e l).map .int)):=by
 obtain ⟨a1,a2,a3,a4,a5,a6,a7,a8,a9,a10⟩:=qy ho
 have C:=Zg H ho
 have g1:=Zf (ahV H ho)
 have g2:=adR H ho
 have g3:=zB (u:=u) (e:=e) (l:=l) (b:=b) a1 (by omega) (by omega) (by omega)
 have hue:0<=u*e/\u*e<=3*5:=⟨Int.mul_nonneg a1 (by omega),Int.mul_le_mul (by omega) (by omega) (by omega) (by omega)⟩
 have g4:=adQ (u:=u) (e:=e) (l:=l) (b:=b) (by omega) (jH u l) (List.replicate (u*e+l+1).toNat 0) fun r hr=>⟨hr,(C.rng r hr).1,by rw [List.length_replicate]; have:=C.rng r hr; omega⟩
 have nr:noLs (jH u l)=true:=aaT _ _
 have nm:noL (jq u e l b)=true:=by simp [jq,noL,noLs]
 cases hR:jH u l with
 | nil=>
  exfalso
  have:=zM (u+1).toNat (l+1).toNat
  rw [show qu (u+1).toNat (l+1).toNat=[] from hR] at this
  have h0:0 < (u+1).toNat*(l+1).toNat:=Nat.mul_pos (by omega) (by omega)
  simp at this
  omega
 | cons r rs=>
  have hmem:r ∈ jH u l:=by rw [hR]; exact List.mem_cons_self
  obtain ⟨i,j,_,_,rfl⟩:=aaX hmem
  rw [hR] at g3 g4 nr
  simp only [qY,nm,zzM,g1,g2,g3,nr,g4,zzE]
  rw [if_pos ⟨by omega,by omega,trivial⟩]
  simp only [acv,hR]
theorem aak (ns:List Int):jX (ns.map PyData.int)=some ns:=by
 have:=Qb (fun x:Int=>x) ns
 simpa using this
end Rods
namespace Rods
open PySem L2 BX
open PyProof.Rows hiding St
section
variable {u e l b:Int}{ps qs:List (Int × Int)}
theorem Zh (i j:Int):dNe (.int i) (.int j)=some (.bool (!decide (i=j))):=by
 have:(i == j)=decide (i=j):=rfl
 simp only [dNe,Ja,QI,and_self,zzM,this]
theorem aal {N:List Str}{n:Nat}{F:Rho->Option Str}{ds:List PyData} (hl:ds.length=n):Zq N n F ds=F (jE N ds):=by
 unfold Zq
 rw [if_pos hl]
end
end Rods
namespace Rods
open PySem L2 BX
open PyProof.Rows hiding St
noncomputable def whB (a b:Int):PyData->Bool
 | .int i=>decide (a<=i) && decide (i<=b)
 | _=>false
theorem zg (d:PyData) (hd:noD d=true) (a b:Int):jY [d,.int a,.int b]=some (.bool (whB a b d)):=by
 cases d with
 | int i=>exact qq i a b
 | dict k=>simp [noD] at hd
 | _=>simp [jY,jC,QC,jE,jR,ifS,orB,tst,lkp,QZ,tyn,asB,zk,chn,Z4,zc,zu,whB,cst]
theorem aeM {d:PyData} (h:jF [d]=some (.bool false)):qT [d]=none:=by
 simp [qT,jC,abz,jE,jR,ifS,zk,tst,asB,jD,jk,jA,lkp,h,abb]
theorem aeN {d:PyData} (h:jF [d]=some (.bool false)):Js [d]=some ("NoManner":Str):=by
 refine (aal rfl).trans ?_
 show Za.1 [some d]=_
 simp [Za,ifX,zk,tst,asB,jD,jk,jA,lkp,h]
theorem aeO {d:PyData} (h:jF [d]=some (.bool true)):Js [d]=none:=by
 refine (aal rfl).trans ?_
 show Za.1 [some d]=_
 simp [Za,ifX,zk,tst,asB,jD,jk,jA,lkp,h,ac9]
theorem adS:∀ ps:List (Int × Int),noDs (ps.map pr)=true
 | []=>rfl
 | p::ps=>by simp [noDs,noD,pr,adS ps]
theorem ago (ps:List (Int × Int)):noD (akz ps)=true:=by
 simp [noD,akz,adS]
theorem akA {i j:Int} (h:-1000<=j/\j<=1000):JP (.int i) (.int j)=some (.int (i*j)):=by
 show (if (-(2 ^ 64) < i/\i < 2 ^ 64) ∨ (-(2 ^ 64) < j/\j < 2 ^ 64) then some (PyData.int (i*j)) else none)=_
 rw [if_pos (.inr ⟨by omega,by omega⟩)]
end Rods
namespace Rods
open PySem L2 BX
open PyProof.Rows hiding St
section
variable {u e l b:Int}
theorem ahX (i n:Nat):(qk 0 n).map (fun d=>PyData.tuple [.int (i:Int),d])=ql i n:=by
 simp [qk,ql]
theorem Zi (hu:0<=u) (hu':u < 50) (hl:0<=l) (hl':l < 50):Ju [jq u e l b]=some (.list (jH u l)):=by
 have r1:Qk [.int (u+1)]=some (qk 0 (u+1).toNat):=JL (by omega) (by omega)
 have r2:Qk [.int (l+1)]=some (qk 0 (l+1).toNat):=JL (by omega) (by omega)
 have f2:few (qk 0 (l+1).toNat)=true:=qz (by simp [qk]; omega)
 obtain ⟨ρ',hl1,hI⟩:=QL (ga:=jL 2) (F:=abE.1) (fun i ρ=>i<=(u+1).toNat->∃ x,ρ=[some (jq u e l b),some (.list (qu i (l+1).toNat)),x]) (qk 0 (u+1).toNat) 0 [some (jq u e l b),some (.list []),none] (fun _=>⟨none,rfl⟩) (fun j d ρ hd hi=>by
  obtain ⟨hj,rfl⟩:=acy hd
  rw [Nat.zero_add] at hi ⊢
  obtain ⟨x,rfl⟩:=hi (by omega)
  have cm:qe (jL 0) QX (Jd (jk (lkp 1) (jk (lkp 0) jA))) (qk 0 (l+1).toNat) [none,some (.int (j:Int))]=some (ql j (l+1).toNat):=by
   rw [zK (fun d=>PyData.tuple [.int (j:Int),d]),ahX]
   intro d hd
   have f1:few [PyData.int (j:Int),d]=true:=qz (by simp)
   simp only [Jd,jk,jA,lkp,zzG,zzA,zzB,zzC,zzD,zzE,f1,zzM]
  have ad:zF (.list (qu j (l+1).toNat)) (.list (ql j (l+1).toNat))=some (.list (qu (j+1) (l+1).toNat)):=by
   rw [zY]
   show (if few (qu j (l+1).toNat++ql j (l+1).toNat)=true then some (PyData.list (qu j (l+1).toNat++ql j (l+1).toNat)) else none)=_
   rw [if_pos]
   refine qz ?_
   rw [List.length_append,zM,abx]
   have:j*(l+1).toNat<=50*50:=Nat.mul_le_mul (by omega) (by omega)
   omega
  refine ⟨_,_,rfl,?_,fun _=>⟨some (.int (j:Int)),rfl⟩⟩
  simp only [abE,jR,zE,op2,j6,lkp,cst,jk,jA,jL,Je,List.map_cons,List.map_nil,zzA,zzB,zzC,zzD,zzH,zzE,ix2,add_int,r2,f2,zzM,cm,ad,zzF,zzG,zu])
 rw [acz,Nat.zero_add] at hI
 obtain ⟨x,rfl⟩:=hI (Nat.le_refl _)
 refine qr rfl ?_
 show abF.1 [some (jq u e l b),none,none]=_
 simp only [abF]
 refine (jI (ρ1:=[some (jq u e l b),some (.list []),none]) rfl).trans ?_
 refine (jI (ρ1:=[some (jq u e l b),some (.list (qu (u+1).toNat (l+1).toNat)),x]) ?_).trans rfl
 simp only [Z3,jk,jA,op2,lkp,cst,zzA,zzB,zzC,zzD,zzE,ix0,add_int,r1]
 exact hl1
end
end Rods
namespace Rods
open PySem L2 BX
open PyProof.Rows hiding St
theorem ahY (x:PyData) (xs:List PyData) (h:xs.length < 9999):dIx (.list (x::xs)) (.int 0)=some x:=by
 have e1:ixN (xs.length+1) 0=some 0:=abB (by omega) (by omega)
 simp only [dIx,atI,List.length_cons,e1]
 rw [if_pos (by omega)]
 rfl
noncomputable def bdP (p:Int × Int):Int:=p.1+p.2
noncomputable def qt:Int × Int->List (Int × Int)->Int × Int
 | p,[]=>p
 | p,x::r=>if bdP x < bdP p then qt x r else qt p r
theorem aam {kf:PyData->Int} (hk:∀ p,kf (pr p)=bdP p):∀ (r:List (Int × Int)) (p:Int × Int),Qp kf (pr p) (r.map pr)=pr (qt p r)
 | [],p=>rfl
 | x::r,p=>by
  rw [List.map_cons]
  unfold Qp qt
  rw [hk,hk]
  split
  ·exact aam hk r x
  ·exact aam hk r p
noncomputable def als (p q:Int × Int):Prop:=p.1 < q.1 ∨ (p.1=q.1/\p.2 < q.2)
noncomputable def akB (i m:Nat):List (Int × Int):=(List.range m).map fun (j:Nat)=>((i:Int),(j:Int))
noncomputable def zP (n m:Nat):List (Int × Int):=(List.range n).flatMap fun (i:Nat)=>akB i m
theorem QM (n m:Nat):qu n m=(zP n m).map pr:=by
 unfold qu zP
 rw [List.map_flatMap]
 congr 1
 funext i
 simp [ql,akB,pr]
end Rods
namespace Rods
open PySem L2 BX
open PyProof.Rows hiding St
section
variable {u e l b:Int}
noncomputable def j1 (u e l w:Int):List (Int × Int):=(zP (u+1).toNat (l+1).toNat).filter fun p=>wt e p == w
theorem Jx (w:Int):JT u e l w=(j1 u e l w).map pr:=by
 unfold JT j1 jH
 rw [QM,List.filter_map]
 rfl
theorem agp (p:Int × Int):Qs qL (pr p)=bdP p:=by
 unfold Qs pr
 rw [Ze]; rfl
theorem abH (hu:0<=u) (hu':u < 100) (hl:0<=l) (hl':l < 100) {d:Int}{p:Int × Int}{r:List (Int × Int)} (hw:j1 u e l d=p::r):ZG [jq u e l b,.int d]=some (pr (qt p r)):=by
 have h1:=QK (e:=e) (b:=b) (w:=d) hu hu' hl hl'
 have hk:Z7 qL (JT u e l d)=true:=by
  rw [Jx]
  refine List.all_eq_true.mpr fun x hx=>?_
  obtain ⟨y,_,rfl⟩:=List.mem_map.mp hx
  unfold pr
  rw [Ze]; rfl
 have hm:Q0 qL (.list (JT u e l d))=some (pr (qt p r)):=by
  show (if Z7 qL (JT u e l d)=true then some (abh (Qs qL) none (JT u e l d)) else none)=_
  rw [if_pos hk,Jx,hw,List.map_cons]
  show some (Qp (Qs qL) (pr p) (r.map pr))=_
  rw [aam agp]
 simp [ZG,jC,abA,jE,jR,jD,jk,jA,lkp,zc,h1,hm]
theorem adj (p:Int × Int):abf [pr p]=some (.int (bdP p)):=by
 show some (PyData.int ([p.1,p.2].sum))=_
 simp [bdP]
theorem ali (p:Int × Int):dIx (pr p) (.int 0)=some (.int p.1):=rfl
theorem alj (p:Int × Int):dIx (pr p) (.int 1)=some (.int p.2):=rfl
theorem QN {ft:Rho->Option Bool}{fe:Rho->Option PyData} (t:Int × Int->Bool) (g:Int × Int->PyData) {τ:Rho} (h1:∀ p,ft (some (pr p)::τ)=some (t p)) (h2:∀ p,fe (some (pr p)::τ)=some (g p)):∀ (ps:List (Int × Int)) (x:Option PyData),qe (jL 0) ft fe (ps.map pr) (x::τ)=some ((ps.filter t).map g)
 | [],x=>rfl
 | p::ps,x=>by
  have ih:=QN t g h1 h2 ps (some (pr p))
  simp only [List.map_cons,qe,jL,zzD,zzG,h1,h2,ih]
  by_cases hp:t p=true
  ·simp [hp,List.filter_cons]
  ·simp [hp,List.filter_cons]
theorem Jy:jH u l=(zP (u+1).toNat (l+1).toNat).map pr:=QM _ _
theorem ajt (hu:u<=3) (hl:l<=11) (d:Int):(j1 u e l d).length<=48:=by
 have h1:(j1 u e l d).length<=(zP (u+1).toNat (l+1).toNat).length:=List.length_filter_le _ _
 have h2:(zP (u+1).toNat (l+1).toNat).length=(u+1).toNat*(l+1).toNat:=by
  rw [←List.length_map (f:=pr),←QM,zM]
 have h3:(u+1).toNat*(l+1).toNat<=4*12:=Nat.mul_le_mul (by omega) (by omega)
 omega
end
end Rods
namespace Rods
open PySem L2 BX
open PyProof.Rows hiding St
theorem Zj {N:List Str}{n:Nat}{F:Rho->Option Str}{ds:List PyData}{c:Option Str} (hl:ds.length=n) (h:F (jE N ds)=c):Zq N n F ds=c:=(aal hl).trans h
theorem acA:∀ xs:List Int,PyData.eqvAll (xs.map .int) (xs.map .int)=true
 | []=>by simp [PyData.eqvAll]
 | x::xs=>by simp [PyData.eqvAll,QI,acA xs]
theorem ahZ (xs:List Int):dNe (.list (xs.map .int)) (.list (xs.map .int))=some (.bool false):=by
 have h:PyData.eqv (.list (xs.map .int)) (.list (xs.map .int))=true:=by unfold PyData.eqv; exact acA xs
 unfold dNe
 rw [if_pos ⟨QH xs,QH xs⟩,h]
 rfl
theorem ah0 {ds:List PyData} (h:ds.length < 50):few ds=true:=qz (by omega)
theorem fw1 {a:PyData}:few [a]=true:=ah0 (by simp)
theorem fw3 {a b c:PyData}:few [a,b,c]=true:=ah0 (by simp)
noncomputable def shl (n:Nat) (d:PyData):Prop:=d.canLay0=true/\d.depth<=n
theorem ZM {ds:List PyData}:PyData.canLayAll0 ds=true ↔ ∀ d ∈ ds,d.canLay0=true:=by
 induction ds with
 | nil=>simp [PyData.canLayAll0]
 | cons x xs ih=>simp [PyData.canLayAll0,ih]
theorem ZN {ds:List PyData}{n:Nat}:PyData.depthAll ds<=n ↔ ∀ d ∈ ds,d.depth<=n:=by
 induction ds with
 | nil=>simp [PyData.depthAll]
 | cons x xs ih=>simp only [PyData.depthAll,List.mem_cons,forall_eq_or_imp,←ih]; omega
theorem abI {n:Nat}{ds:List PyData}:shl (n+1) (.tuple ds) ↔ ∀ d ∈ ds,shl n d:=by
 constructor
 ·rintro ⟨h1,h2⟩ d hd
  refine ⟨ZM.mp (by simpa [PyData.canLay0] using h1) d hd,ZN.mp ?_ d hd⟩
  simp only [PyData.depth] at h2; omega
 ·intro h
  refine ⟨by simp only [PyData.canLay0]; exact ZM.mpr fun d hd=>(h d hd).1,?_⟩
  have:=ZN.mpr fun d hd=>(h d hd).2
  simp only [PyData.depth]; omega
theorem adT {n:Nat}{ds:List PyData}:shl (n+1) (.list ds) ↔ ∀ d ∈ ds,shl n d:=by
 constructor
 ·rintro ⟨h1,h2⟩ d hd
  refine ⟨ZM.mp (by simpa [PyData.canLay0] using h1) d hd,ZN.mp ?_ d hd⟩
  simp only [PyData.depth] at h2; omega
 ·intro h
  refine ⟨by simp only [PyData.canLay0]; exact ZM.mpr fun d hd=>(h d hd).1,?_⟩
  have:=ZN.mpr fun d hd=>(h d hd).2
  simp only [PyData.depth]; omega
theorem adk {n:Nat}{d:PyData} (h:shl n d) (hn:n < 30):okD d=true:=by
 unfold okD
 rw [h.1,decide_eq_true (show d.depth < 30 by have:=h.2; omega)]; rfl
theorem QO (i:Int):shl 1 (.int i):=⟨rfl,by simp [PyData.depth]⟩
theorem agq {ds:List PyData}{k:Int} (h0:0<=k) (hk:k < ds.length) (hl:ds.length < 9999):∃ v,dIx (.list ds) (.int k)=some v/\v ∈ ds:=by
 have hlt:k.toNat < ds.length:=by omega
 refine ⟨ds[k.toNat],?_,List.getElem_mem _⟩
 have e1:ixN ds.length k=some k.toNat:=abB h0 hlt
 show (if ds.length < 1000000 then atI ds k else none)=_
 rw [if_pos (by omega)]
 unfold atI
 rw [e1]
 show ds[k.toNat]?=_
 rw [List.getElem?_eq_getElem hlt]
theorem add_list {xs ys:List PyData} (h:xs.length+ys.length < 9999):zF (.list xs) (.list ys)=some (.list (xs++ys)):=by
 show (if few (xs++ys)=true then some (PyData.list (xs++ys)) else none)=_
 rw [if_pos (qz (by rw [List.length_append]; omega))]
end Rods
namespace Rods
open PySem L2 BX
open PyProof.Rows hiding St
section
variable {u e l b:Int}
theorem agr {ga:PyData->Rho->Option Rho}{F:Rho->Option Out}{d:PyData}{ds:List PyData}{ρ ρ1 ρ2:Rho} (h1:ga d ρ=some ρ1) (h2:F ρ1=some (.nx ρ2)):jS ga F (d::ds) ρ=jS ga F ds ρ2:=by
 show (ga d ρ).bind _=_
 rw [h1,zzD,h2]
 rfl
end
end Rods
namespace Rods
open PySem L2 BX
open PyProof.Rows hiding St
theorem aaY:∀ (ns:List Int) (a:Int),let m:=ns.foldl (fun a b=>if decide (b < a)=true then b else a) a; (m=a ∨ m ∈ ns)/\m<=a/\∀ x ∈ ns,m<=x
 | [],a=>⟨.inl rfl,Int.le_refl _,fun _ h=>nomatch h⟩
 | n::ns,a=>by
  obtain ⟨h1,h2,h3⟩:=aaY ns (if decide (n < a)=true then n else a)
  simp only [List.foldl_cons]
  by_cases c:n < a
  ·rw [if_pos (decide_eq_true c)] at h1 h2 h3 ⊢
   refine ⟨.inr ?_,by omega,fun x hx=>?_⟩
   ·rcases h1 with z | z
    ·rw [z]; exact List.mem_cons_self
    ·exact List.mem_cons_of_mem _ z
   ·rcases List.mem_cons.mp hx with rfl | z
    ·exact h2
    ·exact h3 x z
  ·rw [if_neg (by simpa using c)] at h1 h2 h3 ⊢
   refine ⟨?_,h2,fun x hx=>?_⟩
   ·rcases h1 with z | z
    ·exact .inl z
    ·exact .inr (List.mem_cons_of_mem _ z)
   ·rcases List.mem_cons.mp hx with rfl | z
    ·omega
    ·exact h3 x z
theorem ags {ns:List Int}{v:Int} (h1:v ∈ ns) (h2:∀ x ∈ ns,v<=x):ab3 (fun i j=>decide (i < j)) [.list (ns.map .int)]=some (.int v):=by
 show (jX (ns.map PyData.int)).bind _=_
 rw [aak,zzD]
 cases ns with
 | nil=>exact nomatch h1
 | cons n ns=>
  obtain ⟨k1,k2,k3⟩:=aaY ns n
  show (some (PyData.int (ns.foldl (fun a b=>if decide (b < a)=true then b else a) n)))=_
  generalize ns.foldl (fun a b=>if decide (b < a)=true then b else a) n=m at*
  have a1:m<=v:=by
   rcases List.mem_cons.mp h1 with rfl | z
   ·exact k2
   ·exact k3 v z
  have a2:v<=m:=by
   rcases k1 with z | z
   ·rw [z]; exact h2 n List.mem_cons_self
   ·exact h2 m (List.mem_cons_of_mem _ z)
  rw [show m=v by omega]
end Rods
namespace Rods
open PySem L2 BX
open PyProof.Rows hiding St
section
variable {α:Type}
noncomputable abbrev KV (α:Type):=List (Int × α)
noncomputable def zt (f:α->PyData) (kv:KV α):List (PyData × PyData):=kv.map fun p=>(.int p.1,f p.2)
noncomputable def dV (f:α->PyData) (kv:KV α):PyData:= .dict ((.none,.none)::zt f kv)
noncomputable def jZ (kv:KV α) (k:Int):Option α:=(kv.find? fun p=>decide (p.1=k)).map (·.2)
noncomputable def aan (kv:KV α) (k:Int) (v:α):KV α:=if kv.any (fun p=>decide (p.1=k))=true then kv.map (fun p=>if p.1=k then (p.1,v) else p) else kv++[(k,v)]
theorem Zk (f:α->PyData) (kv:KV α) (k:Int):Jf (zt f kv) k=(jZ kv k).map f:=by
 induction kv with
 | nil=>rfl
 | cons p kv ih=>
  by_cases h:p.1=k
  ·simp [Jf,zt,jZ,isI,h]
  ·have e1:Jf (zt f (p::kv)) k=Jf (zt f kv) k:=by simp [Jf,zt,isI,h,List.find?_cons]
   have e2:jZ (p::kv) k=jZ kv k:=by simp [jZ,h,List.find?_cons]
   rw [e1,e2,ih]
theorem aeP (f:α->PyData) (kv:KV α) (k:Int) (v:α):ac8 (zt f kv) k (f v)=zt f (aan kv k v):=by
 have h1:(zt f kv).any (fun p=>isI k p.1)=kv.any fun p=>decide (p.1=k):=by simp [zt,List.any_map,Function.comp_def,isI]
 unfold ac8 aan
 rw [h1]
 by_cases c:kv.any (fun p=>decide (p.1=k))=true
 ·rw [if_pos c,if_pos c]
  simp only [zt,List.map_map]
  apply List.map_congr_left
  intro p _
  by_cases h:p.1=k <;> simp [isI,h]
 ·rw [if_neg c,if_neg c]
  simp [zt]
theorem zQ (p:Int × α) (kv:KV α) (x:Int):jZ (p::kv) x=if p.1=x then some p.2 else jZ kv x:=by
 by_cases h:p.1=x <;> simp [jZ,List.find?_cons,h]
theorem acB (k:Int) (v:α) (x:Int):∀ kv:KV α,jZ (kv.map fun p=>if p.1=k then (p.1,v) else p) x=if x=k then (if kv.any (fun p=>decide (p.1=k))=true then some v else none) else jZ kv x
 | []=>by simp [jZ]
 | p::kv=>by
  rw [List.map_cons,zQ,zQ,acB k v x kv]
  by_cases hp:p.1=k
  ·by_cases hx:x=k
   ·subst hx; simp [hp]
   ·have hkx:¬ k=x:=fun z=>hx z.symm
    simp [hp,hx,hkx]
  ·by_cases hx:x=k
   ·subst hx; rw [List.any_cons,decide_eq_false hp,Bool.false_or]; simp [hp]
   ·by_cases hq:p.1=x <;> simp [hp,hx,hq]
theorem acC (k:Int) (v:α) (x:Int):∀ kv:KV α,jZ (kv++[(k,v)]) x=if kv.any (fun p=>decide (p.1=x))=true then jZ kv x else if k=x then some v else none
 | []=>by rw [List.nil_append,zQ]; simp [jZ]
 | p::kv=>by
  rw [List.cons_append,zQ,zQ,acC k v x kv]
  by_cases hp:p.1=x
  ·simp [hp]
  ·rw [List.any_cons,decide_eq_false hp,Bool.false_or,if_neg hp,if_neg hp]
theorem agt (kv:KV α) (k:Int) (v:α) (x:Int):jZ (aan kv k v) x=if x=k then some v else jZ kv x:=by
 unfold aan
 by_cases c:kv.any (fun p=>decide (p.1=k))=true
 ·rw [if_pos c,acB,if_pos c]
 ·rw [if_neg c,acC]
  by_cases hx:x=k
  ·subst hx
   rw [if_neg c,if_pos rfl,if_pos rfl]
  ·have hkx:¬ k=x:=fun z=>hx z.symm
   rw [if_neg hx,if_neg hkx]
   by_cases c':kv.any (fun p=>decide (p.1=x))=true
   ·rw [if_pos c']
   ·rw [if_neg c']
    unfold jZ
    rw [List.find?_eq_none.mpr fun p hp=>by
     have:=fun z=>c' (List.any_eq_true.mpr ⟨p,hp,z⟩)
     exact this]
    rfl
theorem agu (kv:KV α) (k:Int) (v:α):(aan kv k v).length<=kv.length+1:=by
 unfold aan; split <;> simp
theorem agv {kv:KV α}{p:Int × α} (h:p ∈ kv):∃ v,jZ kv p.1=some v:=by
 unfold jZ
 cases hf:kv.find? fun q=>decide (q.1=p.1) with
 | none=>exact absurd (List.find?_eq_none.mp hf p h) (by simp)
 | some q=>exact ⟨_,rfl⟩
theorem ah1 {kv:KV α}{k:Int}{v:α} (h:jZ kv k=some v):∃ p ∈ kv,p.1=k:=by
 unfold jZ at h
 cases hf:kv.find? fun q=>decide (q.1=k) with
 | none=>rw [hf] at h; cases h
 | some q=>exact ⟨q,List.mem_of_find?_eq_some hf,by simpa using List.find?_some hf⟩
theorem aju {f:α->PyData}{kv:KV α}{k:Int}{v:α} (hl:kv.length < 1000000):afO (some (dV f kv)) (some (f v)) (some (.int k))=some (dV f (aan kv k v)):=by
 have hle:(zt f kv).length < 1000000:=by simp only [zt,List.length_map]; omega
 show (if (zt f kv).length < 1000000 then some (PyData.dict ((.none,.none)::ac8 (zt f kv) k (f v))) else none)=_
 rw [if_pos hle,aeP]
 rfl
theorem ajv {f:α->PyData}{kv:KV α}{k:Int}{v:α} (h:jZ kv k=some v):Q4 (dV f kv) (.int k)=some (f v):=by
 show Jf (zt f kv) k=_
 rw [Zk,h]; rfl
end
end Rods
namespace Rods
open PySem L2 BX
open PyProof.Rows hiding St
section
variable {u e l b:Int}
theorem agw {ms:List PyData} (h:∀ d ∈ ms,shl 2 d):dEq (.list ms) (.list [])=some (.bool (decide (ms=[])))/\dNe (.list ms) (.list [])=some (.bool (!decide (ms=[]))):=by
 have o1:okD (.list ms)=true:=adk (n:=3) (adT.mpr h) (by omega)
 have o2:okD (.list [])=true:=rfl
 have e:PyData.eqv (.list ms) (.list [])=decide (ms=[]):=by cases ms <;> simp [PyData.eqv,PyData.eqvAll]
 constructor
 ·show (if okD (.list ms)=true/\okD (.list [])=true then some (PyData.bool (PyData.eqv (.list ms) (.list []))) else none)=_
  rw [if_pos ⟨o1,o2⟩,e]
 ·show (if okD (.list ms)=true/\okD (.list [])=true then some (PyData.bool (!PyData.eqv (.list ms) (.list []))) else none)=_
  rw [if_pos ⟨o1,o2⟩,e]
end
noncomputable abbrev rfd (i:Int):PyData:= .tuple [.str "refused",.int i]
theorem QP:zo [JO "NoManner"]=some (rfd 0):=by kernel_rfl
theorem QQ:("NoManner":Str) ∈ zr:=by decide
theorem abJ:zo [JO "NoNumber"]=some (rfd 2):=by kernel_rfl
theorem abK:("NoNumber":Str) ∈ zr:=by decide
section
variable {m w d:PyData}{c:Str}
theorem wy0:dEq (.int 0) (.int 0)=some (.bool true):=rfl
theorem wy1:dEq (.int 1) (.int 0)=some (.bool false):=rfl
theorem akC (g:qw [m,w]=some d):qM [.int 0,m,w]=some d:=by
 refine qr rfl ?_
 show zH.1 [some (.int 0),some m,some w,none]=_
 dsimp? [zH,Q5,wy0,g]
theorem akD (g:qY [m]=some d):qM [.int 1,m,w]=some d:=by
 refine qr rfl ?_
 show zH.1 [some (.int 1),some m,some w,none]=_
 dsimp? [zH,Q5,wy1,g]
theorem agx (g:qw [m,w]=none) (x:Jt [m,w]=some c) (hc:c ∈ zr) (hr:zo [JO c]=some d):qM [.int 0,m,w]=some d:=by
 refine qr rfl ?_
 show zH.1 [some (.int 0),some m,some w,none]=_
 have hb:lkp 3 ((Zr 4).set 3 (some (JO c)))=some (JO c):=rfl
 unfold lkp at hb
 dsimp? [zH,Q5,wy0,g,x,hc,hb,hr]
theorem ajw (g:qY [m]=none) (x:ZL [m]=some c) (hc:c ∈ zr) (hr:zo [JO c]=some d):qM [.int 1,m,w]=some d:=by
 refine qr rfl ?_
 show zH.1 [some (.int 1),some m,some w,none]=_
 have hb:lkp 3 ((Zr 4).set 3 (some (JO c)))=some (JO c):=rfl
 unfold lkp at hb
 dsimp? [zH,Q5,wy1,g,x,hc,hb,hr]
theorem alk (g:qT [m]=none) (x:Js [m]=some c):qw [m,w]=none/\Jt [m,w]=some c:=by
 constructor
 ·simp [qw,jC,Jr,jE,jR,QW,jD,jk,jA,lkp,g]
 ·refine Zj rfl ?_
  show zO.1 [some m,some w]=_
  simp [zO,orX,jD,jk,jA,lkp,x]
theorem alm (g:qT [m]=some .none) (x:Js [m]=none) (h:jY [w,.int 0,.int 9999]=some (.bool false)):qw [m,w]=none/\Jt [m,w]=some ("NoNumber":Str):=by
 constructor
 ·simp [qw,jC,Jr,jE,jR,QW,ifS,zk,tst,asB,abb,cst,jD,jk,jA,lkp,g,h]
 ·refine Zj rfl ?_
  show zO.1 [some m,some w]=_
  simp [zO,orX,nxX,QW,ifX,zk,tst,asB,cst,jD,jk,jA,lkp,g,x,h]
theorem akE (g:qT [m]=some .none) (h:jY [w,.int 0,.int 9999]=some (.bool true)) (r:zm [m,w]=some d):qw [m,w]=some d:=by
 simp [qw,jC,Jr,jE,jR,QW,ifS,zk,tst,asB,abb,zu,zc,cst,jD,jk,jA,lkp,g,h,r]
theorem aln (g:qT [m]=none) (x:Js [m]=some c):qY [m]=none/\ZL [m]=some c:=by
 constructor
 ·unfold qY
  simp only [g]
  split <;> rfl
 ·refine Zj rfl ?_
  show ZK.1 [some m,none,none]=_
  simp [ZK,jD,jk,jA,lkp,x]
theorem noM (h:jF [m]=some (.bool false)):qM [.int 0,m,w]=some (rfd 0)/\qM [.int 1,m,w]=some (rfd 0):=by
 have g:=aeM h
 have x:=aeN h
 obtain ⟨a1,a2⟩:=alk (w:=w) g x
 obtain ⟨b1,b2⟩:=aln g x
 exact ⟨agx a1 a2 QQ QP,ajw b1 b2 QQ QP⟩
theorem noW (hm:jF [m]=some (.bool true)) (hn:noD w=true) (h:whB 0 9999 w=false):qM [.int 0,m,w]=some (rfd 2):=by
 obtain ⟨a1,a2⟩:=alm (Zf hm) (aeO hm) (by rw [zg w hn,h])
 exact agx a1 a2 abK abJ
end
noncomputable def ah2 (u e l b:Int):Bool:=(List.range b.toNat).all fun d=>((jH u l).map (jr e)).any fun z=>z == (d:Int)
noncomputable def dgD:PyData->PyData->PyData->PyData->Bool
 | .int u,.int e,.int l,.int b=>ah2 u e l b
 | _,_,_,_=>false
noncomputable def mB:PyData->Bool
 | .tuple [a,b,c,d]=>whB 0 3 a && (whB 1 16 b && (whB 0 12 c && (whB 2 16 d && dgD a b c d)))
 | _=>false
theorem qA {a b:Int}{d:PyData} (h:whB a b d=true):∃ i,d= .int i/\a<=i/\i<=b:=by
 unfold whB at h
 split at h
 ·rename_i i
  rw [Bool.and_eq_true,decide_eq_true_eq,decide_eq_true_eq] at h
  exact ⟨i,rfl,h.1,h.2⟩
 ·cases h
theorem ah3 {ds:List PyData} (h:ds.length ≠ 4):jF [.tuple ds]=some (.bool false):=by
 have e:dNe (.int (ds.length:Int)) (.int 4)=some (.bool true):=by rw [Zh,decide_eq_false (by omega)]; rfl
 refine qr rfl ?_
 show qH.1 [some (.tuple ds),none,none,none]=_
 have l1:Qm [.tuple ds]=some (.int (ds.length:Int)):=rfl
 have l2:Qm [.tuple [.int 3,.int 16,.int 12,.int 16]]=some (.int 4):=rfl
 have i1:ze "tuple" (.tuple ds)=some (.bool true):=rfl
 dsimp? [qH,i1,l1,l2,e]
theorem ah4 {d:PyData} (hd:noD d=true) (h:∀ ds,d ≠ .tuple ds):jF [d]=some (.bool false):=by
 refine qr rfl ?_
 show qH.1 [some d,none,none,none]=_
 have i1:ze "tuple" d=some (.bool false):=by
  cases d with
  | tuple ds=>exact absurd rfl (h ds)
  | dict k=>simp [noD] at hd
  | _=>rfl
 dsimp? [qH,i1]
theorem agy {x y z v:PyData} (hx:noD x=true) (hy:noD y=true) (hz:noD z=true) (hv:noD v=true):jF [.tuple [x,y,z,v]]=some (.bool (whB 0 3 x && (whB 1 16 y && (whB 0 12 z && (whB 2 16 v && dgD x y z v))))):=by
 have w1:=zg x hx 0 3
 have w2:=zg y hy 1 16
 have w3:=zg z hz 0 12
 have w4:=zg v hv 2 16
 have zz:ab1 [.tuple [x,y,z,v],.tuple [.int 0,.int 1,.int 0,.int 2],.tuple [.int 3,.int 16,.int 12,.int 16]]=some [.tuple [x,.int 0,.int 3],.tuple [y,.int 1,.int 16],.tuple [z,.int 0,.int 12],.tuple [v,.int 2,.int 16]]:=rfl
 by_cases hall:(whB 0 3 x && (whB 1 16 y && (whB 0 12 z && whB 2 16 v)))=true
 ·simp only [Bool.and_eq_true] at hall
  obtain ⟨c1,c2,c3,c4⟩:=hall
  obtain ⟨u,rfl,hu,hu'⟩:=qA c1
  obtain ⟨e,rfl,he,he'⟩:=qA c2
  obtain ⟨l,rfl,hl,hl'⟩:=qA c3
  obtain ⟨b,rfl,hb,hb'⟩:=qA c4
  rw [c1,c2,c3,c4]
  have:=QJ hu hu' he he' hl hl' hb hb'
  rw [Qc hu (by omega) hl (by omega) (by omega) (by omega)] at this
  exact this
 ·cases c1:whB 0 3 x <;> cases c2:whB 1 16 y <;> cases c3:whB 0 12 z <;> cases c4:whB 2 16 v <;> rw [c1] at w1 <;> rw [c2] at w2 <;> rw [c3] at w3 <;> rw [c4] at w4 <;> first
  | (exfalso; apply hall; rw [c1,c2,c3,c4]; rfl)
  | simp [jF,jC,qH,jE,jR,ifS,orB,zk,tst,QZ,tyn,asB,lkp,op2,jD,jk,jA,Qm,cst,dNe,Ja,QI,zu,Z3,zz,jS,aas,j8,JW,jL,w1,w2,w3,w4,zc]
theorem agz {d:PyData} (hd:noD d=true):jF [d]=some (.bool (mB d)):=by
 unfold mB
 split
 ·rename_i x y z v
  simp only [noD,noDs,Bool.and_eq_true] at hd
  exact agy hd.1 hd.2.1 hd.2.2.1 hd.2.2.2.1
 ·rename_i hne
  cases d with
  | tuple ds=>
   refine ah3 fun hl=>?_
   match ds,hl with
   | [x,y,z,v],_=>exact hne x y z v rfl
  | _=>exact ah4 hd fun _ z=>nomatch z
theorem ah5 {ds:List PyData} (h:ds.length ≠ 4):qE [.tuple ds]=some (.bool false):=by
 have e:dNe (.int (ds.length:Int)) (.int 4)=some (.bool true):=by rw [Zh,decide_eq_false (by omega)]; rfl
 refine qr rfl ?_
 show jT.1 [some (.tuple ds),none,none,none,none,none]=_
 have l1:Qm [.tuple ds]=some (.int (ds.length:Int)):=rfl
 have i1:ze "tuple" (.tuple ds)=some (.bool true):=rfl
 dsimp? [jT,i1,l1,e]
theorem ah6 {d:PyData} (hd:noD d=true) (h:∀ ds,d ≠ .tuple ds):qE [d]=some (.bool false):=by
 refine qr rfl ?_
 show jT.1 [some d,none,none,none,none,none]=_
 have i1:ze "tuple" d=some (.bool false):=by
  cases d with
  | tuple ds=>exact absurd rfl (h ds)
  | dict k=>simp [noD] at hd
  | _=>rfl
 dsimp? [jT,i1]
noncomputable def nI:PyData->Bool
 | .int _=>false
 | _=>true
theorem alo {x:PyData} (h:noD x=true):orB (zk (tst fun ρ=>ρ[0]?.join.bind fun d=>ze "int" d)) (tst fun ρ=>ρ[0]?.join.bind fun d=>ze "bool" d) [some x]=some (nI x):=by
 cases x with
 | dict k=>simp [noD] at h
 | _=>rfl
theorem acD {fe:Rho->Option PyData} (g:Int × Int->PyData) {τ:Rho} (h2:∀ p:Int × Int,fe (some (.int p.1)::some (.int p.2)::τ)=some (g p)):∀ (ps:List (Int × Int)) (x y:Option PyData),qe (aas 2 (j8 (jL 0) (j8 (jL 1) JW))) QX fe (ps.map pr) (x::y::τ)=some (ps.map g)
 | [],x,y=>rfl
 | p::ps,x,y=>by
  have ga:aas 2 (j8 (jL 0) (j8 (jL 1) JW)) (pr p) (x::y::τ)=some (some (.int p.1)::some (.int p.2)::τ):=rfl
  have ih:=acD g h2 ps (some (.int p.1)) (some (.int p.2))
  simp only [List.map_cons,qe,ga,zzD,QX,h2,ih,zzM,zzE]
section
variable {u e l b:Int}
theorem adl (hu:0<=u) (hu':u<=3) (he:1<=e) (he':e<=16) (hl:0<=l) (hl':l<=12) {a b1 c d:Option PyData}:j6 (itS (jD Ju (jk (lkp 0) jA))) [none,none,some 2] (aas 2 (j8 (jL 0) (j8 (jL 1) JW))) QX (op2 zF (op2 JP (lkp 0) (lkp 2)) (lkp 1)) [some (jq u e l b),a,some (.int e),b1,c,d]=some (.list (((jH u l).map (jr e)).map .int)):=by
 have lr:=Zi (e:=e) (b:=b) hu (show u < 50 by omega) hl (show l < 50 by omega)
 have fw:=Jw (u:=u) (l:=l) (by omega) (by omega)
 have cp:=acD (τ:=[some (.int e)]) (fe:=op2 zF (op2 JP (lkp 0) (lkp 2)) (lkp 1)) (fun p=> .int (wt e p)) (fun p=>by
  have m1:JP (.int p.1) (.int e)=some (.int (p.1*e)):=akA (by omega)
  simp only [op2,lkp,zzA,zzB,zzC,zzD,m1,add_int]
  rfl) (zP (u+1).toNat (l+1).toNat) none none
 rw [←Jy] at cp
 have ee:((jH u l).map (jr e)).map PyData.int=(zP (u+1).toNat (l+1).toNat).map (fun p=> .int (wt e p)):=by
  rw [Jy,List.map_map,List.map_map]; rfl
 rw [ee]
 simp only [j6,itS,items,jD,jk,jA,lkp,zzA,zzB,zzC,zzD,zzE,lr,fw,zzM,Je,List.map_cons,List.map_nil,zzH,cp]
theorem adm (hb:2<=b) (hb':b<=16) (ws:List Int) {t a b1 c:Option PyData}:∃ ms,j6 (fun ρ=>(ρ[4]?.join.bind fun x=>some [x]).bind Qk) [none,some 5] (jL 0) (tst (op2 (dIn true) (lkp 0) (lkp 1))) (lkp 0) [t,a,b1,c,some (.int b),some (.list (ws.map .int))]=some (.list ms)/\(∀ d ∈ ms,shl 2 d)/\decide (ms=[])=(List.range b.toNat).all fun d=>ws.any fun z=>z == (d:Int):=by
 have r1:Qk [.int b]=some (qk 0 b.toNat):=JL (by omega) (by omega)
 have f1:few (qk 0 b.toNat)=true:=qz (by simp [qk]; omega)
 have cp:=Jm (i:=0) (ft:=tst (op2 (dIn true) (lkp 0) (lkp 1))) (fe:=lkp 0) (fun d=>!(ws.any fun z=>z == (zd d).getD 0)) id (qk 0 b.toNat) [none,some (.list (ws.map .int))] (fun d hd=>by
  obtain ⟨k,_,rfl⟩:=List.mem_map.mp hd
  have h6:=QH ws
  simp only [tst,op2,lkp,zzG,zzA,zzB,zzC,zzD,dIn,Ja,h6,acw,and_self,zzM,asB]
  simp [zd]) (fun d _ _=>rfl)
 refine ⟨(List.filter (fun d=>!(ws.any fun z=>z == (zd d).getD 0)) (qk 0 b.toNat)).map id,?_,?_,?_⟩
 rotate_left
 ·show ∀ d ∈ (List.filter (fun d=>!(ws.any fun z=>z == (zd d).getD 0)) (qk 0 b.toNat)).map id,shl 2 d
  intro d hd
  rw [List.map_id] at hd
  obtain ⟨k,_,rfl⟩:=List.mem_map.mp (List.mem_filter.mp hd).1
  exact ⟨rfl,by simp [PyData.depth]⟩
 ·rw [List.map_id,Bool.eq_iff_iff,decide_eq_true_iff,List.filter_eq_nil_iff,List.all_eq_true]
  constructor
  ·intro h k hk
   have:=h (.int k) (List.mem_map.mpr ⟨k,hk,by simp⟩)
   simpa [zd] using this
  ·intro h d hd
   obtain ⟨k,hk,rfl⟩:=List.mem_map.mp hd
   have:=h k hk
   simpa [zd] using this
 ·simp only [j6,jk,jA,lkp,zzA,zzB,zzC,zzD,zzE,r1,f1,zzM,Je,List.map_cons,List.map_nil,zzH,cp]
theorem chW {i:Nat}{ρ:Rho}{n:Int} (lo hi:Int) (h:lkp i ρ=some (.int n)):chn (Z4 fun i j=>decide (i<=j)) (Z4 fun i j=>decide (i<=j)) (cst (.int lo)) (lkp i) (cst (.int hi)) ρ=some (.bool (whB lo hi (.int n))):=by
 simp only [chn,cst,h,zzD,Z4,asB,whB]
 by_cases hh:lo<=n <;> simp [hh]
theorem agA:qE [jq u e l b]=some (.bool (mB (jq u e l b))):=by
 have l1:Qm [jq u e l b]=some (.int 4):=rfl
 have e0:dNe (.int 4) (.int 4)=some (.bool false):=by rw [Zh]; rfl
 have i1:ze "tuple" (jq u e l b)=some (.bool true):=rfl
 have e1:dNe (.list []) (.list [])=some (.bool false):=rfl
 have cm:j6 (itS (lkp 0)) [none] (jL 0) (orB (zk (tst fun ρ=>ρ[0]?.join.bind fun d=>ze "int" d)) (tst fun ρ=>ρ[0]?.join.bind fun d=>ze "bool" d)) (lkp 0) [some (jq u e l b),none,none,none,none,none]=some (.list []):=by
  simp [j6,itS,items,lkp,jq,few,Je,qe,jL,orB,zk,tst,ze,isFn,tyn,asB]
 have ga:aas 4 (j8 (jL 1) (j8 (jL 2) (j8 (jL 3) (j8 (jL 4) JW)))) (jq u e l b) [some (jq u e l b),none,none,none,none,none]=some [some (jq u e l b),some (.int u),some (.int e),some (.int l),some (.int b),none]:=rfl
 have c1:=chW (ρ:=[some (jq u e l b),some (.int u),some (.int e),some (.int l),some (.int b),none]) (i:=1) 0 3 rfl
 have c2:=chW (ρ:=[some (jq u e l b),some (.int u),some (.int e),some (.int l),some (.int b),none]) (i:=2) 1 16 rfl
 have c3:=chW (ρ:=[some (jq u e l b),some (.int u),some (.int e),some (.int l),some (.int b),none]) (i:=3) 0 12 rfl
 have c4:=chW (ρ:=[some (jq u e l b),some (.int u),some (.int e),some (.int l),some (.int b),none]) (i:=4) 2 16 rfl
 refine qr rfl ?_
 show jT.1 [some (jq u e l b),none,none,none,none,none]=_
 have hm:mB (jq u e l b)=(whB 0 3 (.int u) && (whB 1 16 (.int e) && (whB 0 12 (.int l) && (whB 2 16 (.int b) && ah2 u e l b)))):=rfl
 rw [hm]
 by_cases hall:(whB 0 3 (.int u) && (whB 1 16 (.int e) && (whB 0 12 (.int l) && whB 2 16 (.int b))))=true
 ·simp only [Bool.and_eq_true] at hall
  obtain ⟨d1,d2,d3,d4⟩:=hall
  obtain ⟨_,z1,hu,hu'⟩:=qA d1
  obtain ⟨_,z2,he,he'⟩:=qA d2
  obtain ⟨_,z3,hl,hl'⟩:=qA d3
  obtain ⟨_,z4,hb,hb'⟩:=qA d4
  cases z1; cases z2; cases z3; cases z4
  have cw:=adl (b:=b) hu hu' he he' hl hl' (a:=some (.int u)) (b1:=some (.int l)) (c:=some (.int b)) (d:=none)
  obtain ⟨ms,cd,hs,hd⟩:=adm hb hb' ((jH u l).map (jr e)) (t:=some (jq u e l b)) (a:=some (.int u)) (b1:=some (.int e)) (c:=some (.int l))
  have en:=(agw hs).1
  generalize PyData.list (((jH u l).map (jr e)).map .int)=W at*
  generalize jq u e l b=M at*
  rw [d1] at c1; rw [d2] at c2; rw [d3] at c3; rw [d4] at c4
  rw [d1,d2,d3,d4]
  have:(true && (true && (true && (true && ah2 u e l b))))=decide (ms=[]):=by rw [hd]; rfl
  rw [this]
  simp only [jT,jR,ifS,ifD,ifX,aa9,orB,zk,tst,op2,jD,Jd,JV,jk,jA,lkp,cst,zc,QW,zE,jL,zu,nxX,orX,ac9,abb,asB,zzA,zzB,zzC,zzD,zzH,zzE,zzI,zzF,zzG,zzJ,zzK,zzL,zzM,zzN,i1,l1,e0,cm,zC,e1,ga,c1,c2,c3,c4,cw,cd,en]
 ·generalize ah2 u e l b=D
  generalize jq u e l b=M at*
  cases d1:whB 0 3 (.int u) <;> cases d2:whB 1 16 (.int e) <;> cases d3:whB 0 12 (.int l) <;> cases d4:whB 2 16 (.int b) <;> rw [d1] at c1 <;> rw [d2] at c2 <;> rw [d3] at c3 <;> rw [d4] at c4 <;> first
  | (exfalso; apply hall; rw [d1,d2,d3,d4]; rfl)
  | simp only [jT,jR,ifS,ifD,ifX,aa9,orB,zk,tst,op2,jD,Jd,JV,jk,jA,lkp,cst,zc,QW,zE,jL,zu,nxX,orX,ac9,abb,asB,zzA,zzB,zzC,zzD,zzH,zzE,zzI,zzF,zzG,zzJ,zzK,zzL,zzM,zzN,i1,l1,e0,cm,zC,e1,ga,c1,c2,c3,c4,Bool.and_false,Bool.false_and]
end
theorem ah7 {x y z v:PyData} (hn:∀ d ∈ [x,y,z,v],noD d=true) (hs:∀ d ∈ [x,y,z,v],shl 2 d) (ho:[x,y,z,v].filter nI ≠ []):qE [.tuple [x,y,z,v]]=some (.bool false):=by
 have l1:Qm [.tuple [x,y,z,v]]=some (.int 4):=rfl
 have e0:dNe (.int 4) (.int 4)=some (.bool false):=by rw [Zh]; rfl
 have i1:ze "tuple" (.tuple [x,y,z,v])=some (.bool true):=rfl
 have e1:dNe (.list ([x,y,z,v].filter nI)) (.list [])=some (.bool true):=by
  rw [(agw fun d hd=>hs d (List.mem_filter.mp hd).1).2,decide_eq_false ho]; rfl
 have cp:=Jm (i:=0) (ft:=orB (zk (tst fun ρ=>ρ[0]?.join.bind fun d=>ze "int" d)) (tst fun ρ=>ρ[0]?.join.bind fun d=>ze "bool" d)) (fe:=lkp 0) nI id [x,y,z,v] [none] (fun d hd=>alo (hn d hd)) (fun d _ _=>rfl)
 rw [List.map_id] at cp
 have cm:j6 (itS (lkp 0)) [none] (jL 0) (orB (zk (tst fun ρ=>ρ[0]?.join.bind fun d=>ze "int" d)) (tst fun ρ=>ρ[0]?.join.bind fun d=>ze "bool" d)) (lkp 0) [some (.tuple [x,y,z,v]),none,none,none,none,none]=some (.list ([x,y,z,v].filter nI)):=by
  have f4:few [x,y,z,v]=true:=qz (by simp)
  simp only [j6,itS,items,lkp,zzA,zzC,zzD,f4,zzM,Je,List.map_cons,List.map_nil,zzH,cp,zzE]
 refine qr rfl ?_
 show jT.1 [some (.tuple [x,y,z,v]),none,none,none,none,none]=_
 generalize PyData.list ([x,y,z,v].filter nI)=W at*
 generalize PyData.tuple [x,y,z,v]=M at*
 simp only [jT,jR,ifS,ifD,ifX,aa9,orB,zk,tst,op2,jD,Jd,JV,jk,jA,lkp,cst,zc,QW,zE,jL,zu,nxX,orX,ac9,abb,asB,zzA,zzB,zzC,zzD,zzH,zzE,zzI,zzF,zzG,zzJ,zzK,zzL,zzM,zzN,i1,l1,e0,cm,zC,e1]
theorem ajx {d:PyData} (hd:noD d=true) (hs:∀ ds,d= .tuple ds->∀ x ∈ ds,shl 2 x):qE [d]=some (.bool (mB d)):=by
 by_cases h4:∃ x y z v,d= .tuple [x,y,z,v]
 ·obtain ⟨x,y,z,v,rfl⟩:=h4
  by_cases ho:[x,y,z,v].filter nI=[]
  ·rw [List.filter_eq_nil_iff] at ho
   have key:∀ q:PyData,¬ nI q=true->∃ i,q= .int i:=fun q hq=>by
    cases q with
    | int i=>exact ⟨i,rfl⟩
    | _=>exact absurd rfl hq
   obtain ⟨a,rfl⟩:=key x (ho x (by simp))
   obtain ⟨b,rfl⟩:=key y (ho y (by simp))
   obtain ⟨c,rfl⟩:=key z (ho z (by simp))
   obtain ⟨f,rfl⟩:=key v (ho v (by simp))
   exact agA
  ·have hn:∀ q ∈ [x,y,z,v],noD q=true:=by
    simp only [noD,noDs,Bool.and_eq_true] at hd
    obtain ⟨h1,h2,h3,h4,_⟩:=hd
    simp [h1,h2,h3,h4]
   rw [ah7 hn (hs _ rfl) ho]
   have:mB (.tuple [x,y,z,v])=false:=by
    cases hb:mB (.tuple [x,y,z,v]) with
    | false=>rfl
    | true=>
     exfalso
     have hb:(whB 0 3 x && (whB 1 16 y && (whB 0 12 z && (whB 2 16 v && dgD x y z v))))=true:=hb
     simp only [Bool.and_eq_true] at hb
     obtain ⟨c1,c2,c3,c4,_⟩:=hb
     obtain ⟨_,rfl,_⟩:=qA c1
     obtain ⟨_,rfl,_⟩:=qA c2
     obtain ⟨_,rfl,_⟩:=qA c3
     obtain ⟨_,rfl,_⟩:=qA c4
     exact ho rfl
   rw [this]
 ·have hm:mB d=false:=by
   unfold mB
   split
   ·exact absurd ⟨_,_,_,_,rfl⟩ h4
   ·rfl
  rw [hm]
  cases d with
  | tuple ds=>
   refine ah5 fun hl=>?_
   match ds,hl with
   | [x,y,z,v],_=>exact h4 ⟨_,_,_,_,rfl⟩
  | _=>exact ah6 hd fun _ z=>nomatch z
noncomputable def gd (d:PyData):Prop:=noD d=true/\∀ ds,d= .tuple ds->∀ x ∈ ds,shl 2 x
noncomputable def agB:PyData:= .list [rfd 0,rfd 0]
section
variable {T K d:PyData}
theorem ajy (h:mB d=false) (hg:gd d):j6 (fun ρ=>(some [PyData.int 2]).bind Qk) [none,some 2] (jL 0) QX (jD qM (jk (lkp 0) (jk (lkp 1) (jk (cst .none) jA)))) [some T,some K,some d,some (.bool false)]=some agB:=by
 have hm:jF [d]=some (.bool false):=by rw [agz hg.1,h]
 obtain ⟨a0,a1⟩:=noM (w:= .none) hm
 have r1:Qk [.int 2]=some [.int 0,.int 1]:=rfl
 have f1:few [PyData.int 0,.int 1]=true:=qz (by simp)
 simp only [j6,zzD,r1,f1,zzM,Je,List.map_cons,List.map_nil,zzH,zzA,zzB,zzC,qe,jL,QX,jD,jk,jA,lkp,cst,zzG,a0,a1,zzE]
 rfl
theorem ah8 (hg:gd d) {x:Option PyData}:zl.1 [some T,some K,some d,x]=some (.nx [some T,some K,some d,some (.bool (mB d))]):=by
 have hm:=agz hg.1
 have hl:=ajx hg.1 hg.2
 have i1:∀ c:Bool,ze "bool" (.bool c)=some (.bool true):=fun _=>rfl
 have n1:∀ c:Bool,dNe (.bool c) (.bool c)=some (.bool false):=fun c=>by cases c <;> rfl
 have n2:dNe agB agB=some (.bool false):=by simp [dNe,agB,rfd,okD,PyData.canLay0,PyData.canLayAll0,PyData.depth,PyData.depthAll,PyData.eqv,PyData.eqvAll]; decide +kernel
 have rp:afR (.list [.tuple [.str "refused",.int 0]]) (.int 2)=some agB:=rfl
 simp only [zl]
 refine (jI (ρ1:=[some T,some K,some d,some (.bool (mB d))]) ?_).trans ?_
 ·dsimp? [hm]
 refine (jI (ρ1:=[some T,some K,some d,some (.bool (mB d))]) ?_).trans ?_
 ·dsimp? [i1,hl,n1]
 refine (jI (ρ1:=[some T,some K,some d,some (.bool (mB d))]) ?_).trans rfl
 cases h:mB d with
 | true=>dsimp? [zzA]
 | false=>
  have ct:=ajy (T:=T) (K:=K) h hg
  simp only [jR,ifS,ifD,ifX,aa9,orB,zk,tst,op2,chn,jD,Jd,JV,jk,jA,lkp,cst,zc,QW,zE,jL,zu,nxX,orX,ac9,abb,asB,zzA,zzB,zzC,zzD,zzH,zzE,zzI,zzF,zzG,zzJ,zzK,zzL,zzM,zzN] at ct ⊢
  dsimp? [ct,rp,n2]
end
theorem akF {ds:List PyData} (h:∀ x ∈ ds,noD x=true/\shl 2 x):gd (.tuple ds):=by
 refine ⟨?_,fun _ z x hx=>by cases z; exact (h x hx).2⟩
 show noDs ds=true
 induction ds with
 | nil=>rfl
 | cons y ds ih=>
  show (noD y && noDs ds)=true
  rw [(h y List.mem_cons_self).1,ih fun x hx=>h x (List.mem_cons_of_mem _ hx)]; rfl
theorem adn (i:Int):noD (.int i)=true/\shl 2 (.int i):=⟨rfl,rfl,by simp [PyData.depth]⟩
theorem JM (is:List Int):gd (.tuple (is.map .int)):=akF fun x hx=>by
 obtain ⟨i,_,rfl⟩:=List.mem_map.mp hx
 exact adn i
noncomputable def kn1:List (List Int):=[[0,1,12,13],[0,1,12,14],[3,16,12,12],[3,13,12,16],[0,1,13,13],[1,1,-1,2]]
noncomputable def kn2:List (List Int):=[[3,5,4,17],[-1,1,9,10],[4,1,9,10],[1,17,12,13],[1,0,9,10],[1,5,4,1]]
noncomputable def kns (k:List (List Int)):List PyData:=k.map fun q=> .tuple (q.map .int)
theorem aao {ts:List PyData} (hl:ts.length < 100) (h:∀ d ∈ ts,gd d):zA [.list ts]=some (.bool true):=by
 have ad1:zF (.list (kns kn1)) (.list (kns kn2))=some (.list (kns kn1++kns kn2)):=rfl
 have ad2:zF (.list ts) (.list (kns kn1++kns kn2))=some (.list (ts++(kns kn1++kns kn2))):=add_list (by simp [kns,kn1,kn2]; omega)
 have hall:∀ d ∈ ts++(kns kn1++kns kn2),gd d:=fun d hd=>by
  rcases List.mem_append.mp hd with hd | hd
  ·exact h d hd
  ·rw [kns,kns,←List.map_append] at hd
   obtain ⟨q,_,rfl⟩:=List.mem_map.mp hd
   exact JM q
 refine qr rfl ?_
 show zy.1 [some (.list ts),none,none,none]=_
 simp only [zy]
 refine (jI (ρ1:=[some (.list ts),some (.list (kns kn1)),none,none]) rfl).trans ?_
 refine (jI (ρ1:=[some (.list ts),some (.list (kns kn1++kns kn2)),none,none]) rfl).trans ?_
 generalize kns kn1++kns kn2=K at*
 generalize hz:ts++K=Z at*
 obtain ⟨ρ',hl1,a,c,rfl⟩:=QL (ga:=jL 2) (F:=zl.1) (fun _ ρ=>∃ a c,ρ=[some (.list ts),some (.list K),a,c]) Z 0 [some (.list ts),some (.list K),none,none] ⟨_,_,rfl⟩ (fun j d ρ hd hi=>by
  obtain ⟨a,c,rfl⟩:=hi
  exact ⟨_,_,rfl,ah8 (hall d (List.mem_of_getElem? hd)),_,_,rfl⟩)
 refine (jI (ρ1:=[some (.list ts),some (.list K),a,c]) ?_).trans rfl
 simp only [Z3,itS,items,op2,lkp,zzA,zzB,zzC,zzD,zzE,ad2]
 exact hl1
noncomputable abbrev PL:=List (Int × Int)
noncomputable def fL (ps:PL):PyData:= .list (ps.map pr)
theorem agC (p:Int × Int):PyData.eqv (pr p) (pr p)=true:=by simp [pr,PyData.eqv,PyData.eqvAll]
theorem acE:∀ ps:PL,PyData.eqvAll (ps.map pr) (ps.map pr)=true
 | []=>by simp [PyData.eqvAll]
 | p::ps=>by rw [List.map_cons,PyData.eqvAll,agC,acE ps]; rfl
theorem ajz (ps:PL):shl 3 (fL ps):=adT.mpr fun d hd=>by
 obtain ⟨p,_,rfl⟩:=List.mem_map.mp hd
 exact abI.mpr fun x hx=>by
  rcases List.mem_cons.mp hx with rfl | hx
  ·exact QO _
  ·rw [List.mem_singleton.mp hx]; exact QO _
theorem akG (ps:PL):dNe (fL ps) (fL ps)=some (.bool false):=by
 have ok:=adk (ajz ps) (by omega)
 unfold dNe
 rw [if_pos ⟨ok,ok⟩]
 have:PyData.eqv (fL ps) (fL ps)=true:=by
  unfold fL; rw [PyData.eqv]; exact acE ps
 rw [this]; rfl
theorem akH (p:Int × Int):dNe (pr p) (pr p)=some (.bool false):=by
 have ok:okD (pr p)=true:=adk (n:=2) (abI.mpr fun x hx=>by
  rcases List.mem_cons.mp hx with rfl | hx
  ·exact QO _
  ·rw [List.mem_singleton.mp hx]; exact QO _) (by omega)
 unfold dNe
 rw [if_pos ⟨ok,ok⟩,agC]; rfl
theorem Jc:∀ (r:PL) (p:Int × Int),qt p r ∈ p::r/\(∀ y ∈ p::r,bdP (qt p r)<=bdP y)/\∃ jO,(p::r).filter (fun q=>decide (bdP q=bdP (qt p r)))=qt p r::jO
 | [],p=>⟨List.mem_cons_self,fun y hy=>by rw [List.mem_singleton.mp hy]; exact Int.le_refl _,[],by simp [qt]⟩
 | x::r,p=>by
  by_cases hlt:bdP x < bdP p
  ·obtain ⟨m1,m2,jO,m3⟩:=Jc r x
   have e:qt p (x::r)=qt x r:=by rw [qt,if_pos hlt]
   rw [e]
   have hx:=m2 x List.mem_cons_self
   refine ⟨List.mem_cons_of_mem _ m1,fun y hy=>?_,jO,?_⟩
   ·rcases List.mem_cons.mp hy with rfl | hy
    ·omega
    ·exact m2 y hy
   ·rw [List.filter_cons,if_neg (by rw [decide_eq_true_eq]; omega),m3]
  ·obtain ⟨m1,m2,jO,m3⟩:=Jc r p
   have e:qt p (x::r)=qt p r:=by rw [qt,if_neg hlt]
   rw [e]
   have hp:=m2 p List.mem_cons_self
   refine ⟨?_,fun y hy=>?_,?_⟩
   ·rcases List.mem_cons.mp m1 with q | q
    ·rw [q]; exact List.mem_cons_self
    ·exact List.mem_cons_of_mem _ (List.mem_cons_of_mem _ q)
   ·rcases List.mem_cons.mp hy with rfl | hy
    ·exact hp
    ·rcases List.mem_cons.mp hy with rfl | hy
     ·omega
     ·exact m2 y (List.mem_cons_of_mem _ hy)
   ·rw [List.filter_cons] at m3 ⊢
    by_cases hb:bdP p=bdP (qt p r)
    ·rw [if_pos (by rw [decide_eq_true_eq]; exact hb)] at m3 ⊢
     exact ⟨_,congrArg (fun z=>z::(List.filter (fun q=>decide (bdP q=bdP (qt p r))) (x::r))) (List.cons.inj m3).1⟩
    ·rw [if_neg (by rw [decide_eq_true_eq]; exact hb)] at m3 ⊢
     rw [List.filter_cons,if_neg (by rw [decide_eq_true_eq]; omega)]
     exact ⟨_,m3⟩
theorem aeQ {ns:List Int}{v:Int} (h1:v ∈ ns) (h2:∀ x ∈ ns,x<=v):zj (fun i j=>decide (i > j)) ns=some v:=by
 have key:∀ (ns:List Int) (n:Int),(ns.foldl (fun a b=>if decide (b > a)=true then b else a) n ∈ n::ns)/\(∀ x ∈ n::ns,x<=ns.foldl (fun a b=>if decide (b > a)=true then b else a) n):=by
  intro ns
  induction ns with
  | nil=>intro n; exact ⟨List.mem_cons_self,fun x hx=>by rw [List.mem_singleton.mp hx]; exact Int.le_refl _⟩
  | cons y ns ih=>
   intro n
   rw [List.foldl_cons]
   by_cases hy:y > n
   ·rw [if_pos (by rw [decide_eq_true_eq]; exact hy)]
    obtain ⟨k1,k2⟩:=ih y
    refine ⟨List.mem_cons_of_mem _ k1,fun x hx=>?_⟩
    rcases List.mem_cons.mp hx with rfl | hx
    ·have:=k2 y List.mem_cons_self; omega
    ·exact k2 x hx
   ·rw [if_neg (by rw [decide_eq_true_eq]; exact hy)]
    obtain ⟨k1,k2⟩:=ih n
    refine ⟨?_,fun x hx=>?_⟩
    ·rcases List.mem_cons.mp k1 with q | q
     ·rw [q]; exact List.mem_cons_self
     ·exact List.mem_cons_of_mem _ (List.mem_cons_of_mem _ q)
    ·rcases List.mem_cons.mp hx with rfl | hx
     ·exact k2 x List.mem_cons_self
     ·rcases List.mem_cons.mp hx with rfl | hx
      ·have:=k2 n List.mem_cons_self; omega
      ·exact k2 x (List.mem_cons_of_mem _ hx)
 cases ns with
 | nil=>exact nomatch h1
 | cons n ns=>
  obtain ⟨k1,k2⟩:=key ns n
  show some (ns.foldl (fun a b=>if decide (b > a)=true then b else a) n)=_
  have a1:=h2 _ k1
  have a2:=k2 _ h1
  rw [show ns.foldl (fun a b=>if decide (b > a)=true then b else a) n=v by omega]
section
variable {u e l b:Int}
noncomputable def wtF (e:Int) (ps:PL) (w:Int):PL:=ps.filter fun p=>wt e p == w
noncomputable def aap (e:Int) (D:KV PL) (ps:PL):Prop:=∀ w,jZ D w=if wtF e ps w=[] then none else some (wtF e ps w)
theorem aap.get (h:aap e D ps) (w:Int):(jZ D w).getD []=wtF e ps w:=by
 rw [h w]
 by_cases c:wtF e ps w=[]
 ·rw [if_pos c,c]; rfl
 ·rw [if_neg c]; rfl
theorem aap.nil:aap e [] []:=fun w=>rfl
theorem aap.put {D:KV PL}{ps:PL} (h:aap e D ps) (p:Int × Int):aap e (aan D (wt e p) ((jZ D (wt e p)).getD []++[p])) (ps++[p]):=fun w=>by
 have e1:wtF e (ps++[p]) w=wtF e ps w++(if wt e p=w then [p] else []):=by
  unfold wtF
  rw [List.filter_append]
  congr 1
  by_cases c:wt e p=w <;> simp [c]
 rw [agt,h.get,e1]
 by_cases c:w=wt e p
 ·subst c
  rw [if_pos rfl,if_pos rfl,if_neg (by simp)]
 ·have c':¬ wt e p=w:=fun z=>c z.symm
  rw [if_neg c,if_neg c',List.append_nil]
  exact h w
theorem ajA (ps:PL):noD (fL ps)=true:=by
 have:=ago ps
 exact this
theorem abL {D:KV PL} (w:Int):adI (dV fL D) (.int w) (.list [])=some (fL ((jZ D w).getD [])):=by
 show some ((Jf (zt fL D) w).getD (.list []))=_
 rw [Zk]
 cases jZ D w <;> rfl
theorem agD {s at' odd T x8 x9 x7:Option PyData}{D:KV PL}{ps:PL} (he:1<=e/\e<=5) (h:aap e D ps) (hD:D.length < 1000) (hp:ps.length < 1000) (p:Int × Int):
  adN.1 [s,some (jq u e l b),at',odd,T,some (dV fL D),some (pr p),x7,x8,x9]=some (.nx [s,some (jq u e l b),at',odd,T,some (dV fL (aan D (wt e p) ((jZ D (wt e p)).getD []++[p]))),some (pr p),some (.int (wt e p)),x8,x9]):=by
 have m1:JP (.int p.1) (.int e)=some (.int (p.1*e)):=akA (by omega)
 have g2:=abL (D:=D) (wt e p)
 have hl:((jZ D (wt e p)).getD []).length<=ps.length:=by rw [h.get]; exact List.length_filter_le _ _
 have ad:zF (fL ((jZ D (wt e p)).getD [])) (.list [pr p])=some (fL ((jZ D (wt e p)).getD []++[p])):=by
  have:=add_list (xs:=((jZ D (wt e p)).getD []).map pr) (ys:=[pr p]) (by rw [List.length_map]; simp; omega)
  unfold fL
  rw [List.map_append]
  exact this
 have f1:few [pr p]=true:=qz (by simp)
 have pd:=aju (f:=fL) (kv:=D) (k:=wt e p) (v:=(jZ D (wt e p)).getD []++[p]) (by omega)
 have nd:=ajA ((jZ D (wt e p)).getD []++[p])
 have ob:okB (dV fL D) (fL ((jZ D (wt e p)).getD []++[p]))=true:=nd
 simp only [adN]
 refine (jI (ρ1:=[s,some (jq u e l b),at',odd,T,some (dV fL D),some (pr p),some (.int (wt e p)),x8,x9]) ?_).trans ?_
 ·show _=some (Out.nx [s,some (jq u e l b),at',odd,T,some (dV fL D),some (pr p),some (.int (p.1*e+p.2)),x8,x9])
  generalize dV fL D=D1 at*
  dsimp? [brw,hid,akr,ali,alj,ix1,m1,add_int]
 refine (jI (ρ1:=[s,some (jq u e l b),at',odd,T,some (dV fL (aan D (wt e p) ((jZ D (wt e p)).getD []++[p]))),some (pr p),some (.int (wt e p)),x8,x9]) ?_).trans rfl
 generalize fL ((jZ D (wt e p)).getD [])=G at*
 generalize fL ((jZ D (wt e p)).getD []++[p])=G2 at*
 generalize dV fL (aan D (wt e p) ((jZ D (wt e p)).getD []++[p]))=D2 at*
 generalize dV fL D=D1 at*
 dsimp? [ahx,Jn,brw,hid,akr,g2,zC,f1,ad,ob,pd]
end
section
variable {u e l b:Int}
theorem aaZ {s at' odd T x8 x9:Option PyData} (he:1<=e/\e<=5):∀ (qs ps:PL) (D:KV PL) (x6 x7:Option PyData),aap e D ps->List.length D<=List.length ps->List.length ps+List.length qs < 1000->
  ∃ (D':KV PL) (y6 y7:Option PyData),jS (jL 6) adN.1 (qs.map pr) [s,some (jq u e l b),at',odd,T,some (dV fL D),x6,x7,x8,x9]=some (.nx [s,some (jq u e l b),at',odd,T,some (dV fL D'),y6,y7,x8,x9])/\aap e D' (ps++qs)
 | [],ps,D,x6,x7,h,_,_=>⟨D,x6,x7,rfl,by rw [List.append_nil]; exact h⟩
 | q::qs,ps,D,x6,x7,h,hD,hl=>by
  rw [List.length_cons] at hl
  have st:=agD (u:=u) (l:=l) (b:=b) (s:=s) (at':=at') (odd:=odd) (T:=T) (x8:=x8) (x9:=x9) (x7:=x7) he h (by omega) (by omega) q
  have hl2:=agu D (wt e q) ((jZ D (wt e q)).getD []++[q])
  obtain ⟨D',y6,y7,h1,h2⟩:=aaZ he (s:=s) (at':=at') (odd:=odd) (T:=T) (x8:=x8) (x9:=x9) qs (ps++[q]) _ (some (pr q)) (some (.int (wt e q))) (h.put q) (by rw [List.length_append,List.length_singleton]; omega) (by rw [List.length_append,List.length_singleton]; omega)
  refine ⟨D',y6,y7,?_,by rw [List.append_assoc] at h2; exact h2⟩
  rw [List.map_cons,agr (ρ1:=[s,some (jq u e l b),at',odd,T,some (dV fL D),some (pr q),x7,x8,x9]) rfl st]
  exact h1
theorem agE (hu':u<=3) (hl':l<=11):(zP (u+1).toNat (l+1).toNat).length<=48:=by
 have h2:(zP (u+1).toNat (l+1).toNat).length=(u+1).toNat*(l+1).toNat:=by
  rw [←List.length_map (f:=pr),←QM,zM]
 have h3:(u+1).toNat*(l+1).toNat<=4*12:=Nat.mul_le_mul (by omega) (by omega)
 omega
noncomputable def RD (u e l:Int) (D:KV PL):Prop:=∀ w,jZ D w=if j1 u e l w=[] then none else some (j1 u e l w)
theorem RD.get (h:RD u e l D) (w:Int):(jZ D w).getD []=j1 u e l w:=by
 rw [h w]
 by_cases c:j1 u e l w=[]
 ·rw [if_pos c,c]; rfl
 ·rw [if_neg c]; rfl
theorem ajB (H:Jb=true) (h:okN u e l b=true) {w:Int} (h0:0<=w) (hw:w<=u*e+l):j1 u e l w ≠ []:=fun z=>by
 have:=(Zg H h).dig w.toNat (by omega)
 obtain ⟨r,h1,h2⟩:=List.any_eq_true.mp this
 have:r ∈ JT u e l w:=List.mem_filter.mpr ⟨h1,by rw [Int.toNat_of_nonneg h0] at h2; exact h2⟩
 rw [Jx,z] at this
 cases this
theorem agF (H:Jb=true) (h:okN u e l b=true) {w:Int} (hw:j1 u e l w ≠ []):0<=w/\w<=u*e+l:=by
 cases hc:j1 u e l w with
 | nil=>exact absurd hc hw
 | cons p r=>
  have hp:p ∈ j1 u e l w:=by rw [hc]; exact List.mem_cons_self
  obtain ⟨h1,h2⟩:=List.mem_filter.mp hp
  have:=(Zg H h).rng (pr p) (by rw [Jy]; exact List.mem_map.mpr ⟨p,h1,rfl⟩)
  have h2:wt e p=w:=by simpa using h2
  rw [←h2]
  exact this
theorem agG (H:Jb=true) (h:okN u e l b=true) {D:KV PL} (hD:RD u e l D):af8 [dV fL D]=some (.int (u*e+l)):=by
 obtain ⟨a1,a2,a3,a4,a5,a6,a7,a8,a9,a10⟩:=qy h
 have hn:0<=u*e:=Int.mul_nonneg a1 (by omega)
 have k1:jX ((zt fL D).map (·.1))=some (D.map (·.1)):=by
  have:(zt fL D).map (·.1)=(D.map (·.1)).map PyData.int:=by simp [zt,List.map_map,Function.comp_def]
  rw [this]; exact aak _
 show (jX ((zt fL D).map (·.1))).bind _=_
 rw [k1,zzD,aeQ (v:=u*e+l)]
 ·rfl
 ·have:=hD (u*e+l)
  rw [if_neg (ajB H h (by omega) (Int.le_refl _))] at this
  obtain ⟨p,hp,e1⟩:=ah1 this
  exact List.mem_map.mpr ⟨p,hp,e1⟩
 ·intro x hx
  obtain ⟨p,hp,rfl⟩:=List.mem_map.mp hx
  obtain ⟨v,hv⟩:=agv hp
  have:=hD p.1
  rw [hv] at this
  refine (agF H h (w:=p.1) fun z=>?_).2
  rw [if_pos z] at this; cases this
theorem ajC (ps:PL):Qm [fL ps]=some (.int ps.length):=by
 show some (PyData.int ((ps.map pr).length:Int))=_
 rw [List.length_map]
theorem ah9 (w:Int):cnt u e l w=(j1 u e l w).length:=by
 show (((jH u l).filter fun r=>jr e r == w).length:Int)=_
 have:(jH u l).filter (fun r=>jr e r == w)=JT u e l w:=rfl
 rw [this,Jx,List.length_map]
theorem agH (H:Jb=true) (h:okN u e l b=true) {D:KV PL} (hD:RD u e l D) {s m at' odd T x6 x7 x9:Option PyData}:j6 (fun ρ=>((op2 zF (lkp 8) (cst (.int 1)) ρ).bind fun x=>some [x]).bind Qk) [none,some 5] (jL 0) QX (jD Qm (jk (Jn (lkp 1) (lkp 0) (JV jA)) jA)) [s,m,at',odd,T,some (dV fL D),x6,x7,some (.int (u*e+l)),x9]=some (.list ((acv u e l).map .int)):=by
 obtain ⟨a1,a2,a3,a4,a5,a6,a7,a8,a9,a10⟩:=qy h
 have hn:0<=u*e:=Int.mul_nonneg a1 (by omega)
 have hm:u*e<=3*5:=Int.mul_le_mul a2 a4 (by omega) (by omega)
 have r1:Qk [.int (u*e+l+1)]=some (qk 0 (u*e+l+1).toNat):=JL (by omega) (by omega)
 have f1:few (qk 0 (u*e+l+1).toNat)=true:=qz (by rw [acz]; omega)
 have cp:=zK (i:=0) (fe:=jD Qm (jk (Jn (lkp 1) (lkp 0) (JV jA)) jA)) (fun d=> .int (cnt u e l ((zd d).getD 0))) (qk 0 (u*e+l+1).toNat) [none,some (dV fL D)] (fun d hd=>by
  obtain ⟨k,_,rfl⟩:=List.mem_map.mp hd
  simp only [jD,jk,jA,Jn,lkp,JV,zC,zzM,zzG,zzA,zzB,zzC,zzD,zzE,abL,ajC,hD.get,ah9,zd,Option.getD_some])
 have e2:(qk 0 (u*e+l+1).toNat).map (fun d=>PyData.int (cnt u e l ((zd d).getD 0)))=(acv u e l).map .int:=by
  rw [(Zg H h).lst,List.map_map]
  simp [qk,zd,Function.comp_def]
 simp only [j6,op2,cst,lkp,zzA,zzB,zzC,zzD,zzE,add_int,r1,f1,zzM,Je,List.map_cons,List.map_nil,zzH,cp,e2]
end
theorem aia {α:Type}{f:α->PyData}{kv:KV α}{k:Int}:aes false (.int k) (dV f kv)=some (.bool (jZ kv k).isSome):=by
 show some (PyData.bool (if false=true then _ else (Jf (zt f kv) k).isSome))=_
 rw [if_neg (by decide),Zk]
 cases jZ kv k <;> rfl
theorem alp {tt:Rho->Option Bool}{A B:Rho->Option Out}{ρ:Rho} (h:tt ρ=some true):ifS tt A B ρ=A ρ:=by
 show (tt ρ).bind _=_
 rw [h]; rfl
theorem aib {tt:Rho->Option Bool}{A:Rho->Option Out}{ρ:Rho} (h:tt ρ=some false):ifS tt A (fun ρ=>some (.nx ρ)) ρ=some (.nx ρ):=by
 show (tt ρ).bind _=_
 rw [h]; rfl
theorem aad {i:Nat}{f:Rho->Option PyData}{ρ:Rho}{d:PyData} (h:f ρ=some d):zE f (jL i) ρ=some (.nx (ρ.set i (some d))):=by
 show (f ρ).bind _=_
 rw [h]; rfl
theorem Jz {g:PyData->PyData->Option PyData}{f1 f2:Rho->Option PyData}{ρ:Rho}{x y z:PyData} (h1:f1 ρ=some x) (h2:f2 ρ=some y) (h3:g x y=some z):op2 g f1 f2 ρ=some z:=by
 show (f1 ρ).bind _=_
 rw [h1,zzD,h2,zzD,h3]
theorem ZO {fi:Rho->Option (List PyData)}{cap:List (Option Nat)}{ga:PyData->Rho->Option Rho}{ft:Rho->Option Bool}{fe:Rho->Option PyData}{ρ:Rho}{ds ys:List PyData} (h1:fi ρ=some ds) (hf:few ds=true) (h2:qe ga ft fe ds (Je cap ρ)=some ys):j6 fi cap ga ft fe ρ=some (.list ys):=by
 show (fi ρ).bind _=_
 rw [h1,zzD,if_pos hf,h2]; rfl
theorem JA {g:List PyData->Option PyData}{fs:Rho->Option (List PyData)}{ρ:Rho}{ds:List PyData}{d:PyData} (h1:fs ρ=some ds) (h2:g ds=some d):jD g fs ρ=some d:=by
 show (fs ρ).bind _=_
 rw [h1,zzD,h2]
theorem jJ {f:Rho->Option PyData}{fs:Rho->Option (List PyData)}{ρ:Rho}{d:PyData}{ds:List PyData} (h1:f ρ=some d) (h2:fs ρ=some ds):jk f fs ρ=some (d::ds):=by
 unfold jk
 rw [h1,zzD,h2]; rfl
theorem abM {f:Rho->Option PyData}{ρ:Rho}{c:Bool} (h:f ρ=some (.bool c)):tst f ρ=some c:=by
 show (f ρ).bind _=_
 rw [h]; rfl
section
variable {u e l b:Int}{s at' odd T x6 x9:Option PyData}{DD:PyData}{w mo:Int}{p:Int × Int}{r:PL}
theorem agI (hg:Q4 DD (.int w)=some (fL (p::r))) (hr:r.length < 100) {M:PyData}:jD (ab3 fun i j=>decide (i < j)) (jk (j6 (itS (op2 Q4 (lkp 5) (lkp 7))) [none] (jL 0) QX (jD abf (jk (lkp 0) jA))) jA) [s,some M,at',odd,T,some DD,x6,some (.int w),some (.int mo),x9]=some (.int (bdP (qt p r))):=by
 obtain ⟨m1,m2,_⟩:=Jc r p
 have cp:=QN (τ:=[]) (ft:=QX) (fe:=jD abf (jk (lkp 0) jA)) (fun _=>true) (fun q=> .int (bdP q)) (fun q=>rfl) (fun q=>by
  simp only [jD,jk,jA,lkp,zzA,zzC,zzD,zzE,adj]) (p::r) none
 rw [List.filter_eq_self.mpr fun _ _=>rfl] at cp
 have f1:few ((p::r).map pr)=true:=qz (by rw [List.length_map,List.length_cons]; omega)
 have bm:=ags (ns:=(p::r).map bdP) (v:=bdP (qt p r)) (List.mem_map.mpr ⟨_,m1,rfl⟩) (fun x hx=>by
  obtain ⟨y,hy,rfl⟩:=List.mem_map.mp hx
  exact m2 y hy)
 rw [List.map_map] at bm
 have it:itS (op2 Q4 (lkp 5) (lkp 7)) [s,some M,at',odd,T,some DD,x6,some (.int w),some (.int mo),x9]=some ((p::r).map pr):=by
  show (Q4 DD (.int w)).bind items=_
  rw [hg]; rfl
 have cm:=ZO (cap:=[none]) it f1 cp
 exact JA (jJ cm rfl) bm
theorem agJ (hg:Q4 DD (.int w)=some (fL (p::r))) (hr:r.length < 100) {M:PyData}:op2 dIx (j6 (itS (op2 Q4 (lkp 5) (lkp 7))) [none,some 9] (jL 0) (tst (op2 dEq (jD abf (jk (lkp 0) jA)) (lkp 1))) (lkp 0)) (cst (.int 0)) [s,some M,at',odd,T,some DD,x6,some (.int w),some (.int mo),some (.int (bdP (qt p r)))]=some (pr (qt p r)):=by
 obtain ⟨_,_,jO,m3⟩:=Jc r p
 have cp:=QN (τ:=[some (.int (bdP (qt p r)))]) (ft:=tst (op2 dEq (jD abf (jk (lkp 0) jA)) (lkp 1))) (fe:=lkp 0) (fun q=>decide (bdP q=bdP (qt p r))) pr (fun q=>by
  simp only [tst,op2,jD,jk,jA,lkp,zzA,zzB,zzC,zzD,zzE,adj,ahW,asB]) (fun q=>rfl) (p::r) none
 rw [m3] at cp
 have f1:few ((p::r).map pr)=true:=qz (by rw [List.length_map,List.length_cons]; omega)
 have it:itS (op2 Q4 (lkp 5) (lkp 7)) [s,some M,at',odd,T,some DD,x6,some (.int w),some (.int mo),some (.int (bdP (qt p r)))]=some ((p::r).map pr):=by
  show (Q4 DD (.int w)).bind items=_
  rw [hg]; rfl
 have cm:=ZO (cap:=[none,some 9]) it f1 cp
 have hl:jO.length<=r.length:=by
  have h1:=List.length_filter_le (fun q=>decide (bdP q=bdP (qt p r))) (p::r)
  rw [m3,List.length_cons,List.length_cons] at h1
  omega
 have hx:=ahY (pr (qt p r)) (jO.map pr) (by rw [List.length_map]; omega)
 exact Jz cm rfl hx
theorem agK (H:Jb=true) (h:okN u e l b=true) (h0:0<=w) (hw:w<=9999):qM [.int 0,jq u e l b,.int w]=some (fL (j1 u e l w)):=by
 obtain ⟨a1,a2,a3,a4,a5,a6,a7,a8,a9,a10⟩:=qy h
 have g:=QK (e:=e) (b:=b) (w:=w) a1 (show u < 100 by omega) (show 0<=l by omega) (show l < 100 by omega)
 rw [Jx] at g
 exact akC (akE (Zf (ahV H h)) (by rw [qq,decide_eq_true h0,decide_eq_true hw]; rfl) g)
theorem ado (H:Jb=true) (h:okN u e l b=true) {D:KV PL} (hD:RD u e l D) (h0:0<=w) (hw:w<=9999):∃ y9,acu.1 [s,some (jq u e l b),at',odd,T,some (dV fL D),x6,some (.int w),some (.int mo),x9]=some (.nx [s,some (jq u e l b),at',odd,T,some (dV fL D),x6,some (.int w),some (.int mo),y9]):=by
 obtain ⟨a1,a2,a3,a4,a5,a6,a7,a8,a9,a10⟩:=qy h
 have tw:=agK H h h0 hw
 have g2:=abL (D:=D) w
 rw [hD.get] at g2
 have nf:=akG (j1 u e l w)
 have hs:=aia (f:=fL) (kv:=D) (k:=w)
 rw [hD w] at hs
 have wl:=ajt (e:=e) a2 a7 w
 cases hc:j1 u e l w with
 | nil=>
  rw [if_pos hc] at hs
  have hs:aes false (.int w) (dV fL D)=some (.bool false):=hs
  refine ⟨x9,?_⟩
  generalize fL (j1 u e l w)=R at*
  generalize dV fL D=DD at*
  generalize jq u e l b=M at*
  dsimp? [acu,Jn,tw,g2,zC,nf,hs]
 | cons p r=>
  rw [if_neg (by rw [hc]; exact fun z=>nomatch z)] at hs
  have hs:aes false (.int w) (dV fL D)=some (.bool true):=hs
  have hg:Q4 (dV fL D) (.int w)=some (fL (p::r)):=ajv (by rw [hD w,if_neg (by rw [hc]; exact fun z=>nomatch z),hc])
  have hr:r.length < 100:=by rw [hc,List.length_cons] at wl; omega
  have gf:=abH (e:=e) (b:=b) a1 (show u < 100 by omega) (show 0<=l by omega) (show l < 100 by omega) hc
  have mc:=agI (s:=s) (at':=at') (odd:=odd) (T:=T) (x6:=x6) (x9:=x9) (mo:=mo) hg hr (M:=jq u e l b)
  have fc:=agJ (s:=s) (at':=at') (odd:=odd) (T:=T) (x6:=x6) (mo:=mo) hg hr (M:=jq u e l b)
  have np:=akH (qt p r)
  refine ⟨some (.int (bdP (qt p r))),?_⟩
  generalize fL (j1 u e l w)=R at*
  generalize fL (p::r)=R2 at*
  generalize dV fL D=DD at*
  generalize jq u e l b=M at*
  generalize pr (qt p r)=Z at*
  simp only [acu]
  refine (jI (ρ1:=[s,some M,at',odd,T,some DD,x6,some (.int w),some (.int mo),x9]) ?_).trans ?_
  ·dsimp? [Jn,tw,g2,zC,nf]
  refine (jI (ρ1:=[s,some M,at',odd,T,some DD,x6,some (.int w),some (.int mo),some (.int (bdP (qt p r)))]) ?_).trans rfl
  refine (alp (ρ:=[s,some M,at',odd,T,some DD,x6,some (.int w),some (.int mo),x9]) ?_).trans ?_
  ·dsimp? [hs]
  refine (jI (ρ1:=[s,some M,at',odd,T,some DD,x6,some (.int w),some (.int mo),some (.int (bdP (qt p r)))]) ?_).trans ?_
  ·exact aad (i:=9) mc
  refine (jI (ρ1:=[s,some M,at',odd,T,some DD,x6,some (.int w),some (.int mo),some (.int (bdP (qt p r)))]) ?_).trans rfl
  refine aib ?_
  exact abM (Jz (by dsimp? [gf]) fc np)
end
theorem ajD {i:Nat}{f:Rho->Option PyData}{G:Rho->Option Out}{ρ:Rho}{d c:PyData} (h1:f ρ=some d) (h2:i < ρ.length) (h3:G (ρ.set i (some d))=some (.rt c)):abn i f G ρ=some (.rt c):=by
 show (f ρ).bind _=_
 rw [h1,zzD,if_pos h2,h3]; rfl
theorem ajE {F:Rho->Option Out}{ρ:Rho}{d:PyData} (h:F ρ=some (.rt d)):acf F ρ=some (.rt d):=by
 unfold acf; rw [h]
theorem agL {fi:Rho->Option (List PyData)}{ga:PyData->Rho->Option Rho}{F:Rho->Option Out}{ρ:Rho}{ds:List PyData}{o:Option Out} (h1:fi ρ=some ds) (h2:jS ga F ds ρ=o):Z3 fi ga F ρ=o:=by
 show (fi ρ).bind _=_
 rw [h1,zzD]; exact h2
theorem ajF {f:Rho->Option PyData}{G:Rho->Option Out}{ρ:Rho}{d:PyData} (h:f ρ=some d):jR (zc f) G ρ=some (.rt d):=by
 unfold jR zc
 rw [h]; rfl
noncomputable def aic:List PyData:=[.none,.bool true,.int (-1),.int 0,.int 1,.int 2,.int 3,.int 4,.int 5,.int 9,.int 12,.int 13,.int 16,.int 17,.str "5",.tuple [.int 1]]
noncomputable def adU:List PyData:=[.int (-1),.int 10000,.none,.bool true,.str "1"]
noncomputable def el (x:PyData):Prop:=noD x=true/\shl 2 x
theorem ajG:∀ x ∈ aic,el x/\gd x:=by
 have hi:∀ i,el (.int i)/\gd (.int i):=fun i=>⟨adn i,rfl,fun _ z=>nomatch z⟩
 have hn:el .none/\gd .none:=⟨⟨rfl,rfl,by simp [PyData.depth]⟩,rfl,fun _ z=>nomatch z⟩
 have hb:el (.bool true)/\gd (.bool true):=⟨⟨rfl,rfl,by simp [PyData.depth]⟩,rfl,fun _ z=>nomatch z⟩
 have hs:el (.str "5")/\gd (.str "5"):=⟨⟨rfl,by simp only [PyData.canLay0]; decide +kernel,by simp [PyData.depth]⟩,rfl,fun _ z=>nomatch z⟩
 have ht:el (.tuple [.int 1])/\gd (.tuple [.int 1]):=⟨⟨rfl,abI.mpr fun d hd=>by rw [List.mem_singleton.mp hd]; exact QO 1⟩,JM [1]⟩
 intro x hx
 simp only [aic,List.mem_cons,List.not_mem_nil,or_false] at hx
 rcases hx with rfl | rfl | rfl | rfl | rfl | rfl | rfl | rfl | rfl | rfl | rfl | rfl | rfl | rfl | rfl | rfl
 ·exact hn
 ·exact hb
 all_goals first
  | exact hi _
  | exact hs
  | exact ht
theorem aid:∀ x ∈ adU,noD x=true/\whB 0 9999 x=false:=by
 intro x hx
 simp only [adU,List.mem_cons,List.not_mem_nil,or_false] at hx
 rcases hx with rfl | rfl | rfl | rfl | rfl <;> exact ⟨rfl,rfl⟩
section
variable {u e l b:Int}{odd:PyData}
theorem ajH (ho:el odd) {a:Int} (h0:0<=a) (h4:a < 4):∃ X Y Z X1 T1 T2,aav (jq u e l b) none (some a)=some X/\aav (jq u e l b) (some (a+1)) none=some Y/\aav (jq u e l b) (some a) none=some Z/\zF X (.tuple [odd])=some X1/\zF X1 Y=some T1/\zF X1 Z=some T2/\gd T1/\gd T2:=by
 have hi:=adn
 have g3:∀ ds:List PyData,(∀ x ∈ ds,el x)->gd (.tuple ds):=fun ds h=>akF h
 have ca:a=0 ∨ a=1 ∨ a=2 ∨ a=3:=by omega
 rcases ca with rfl | rfl | rfl | rfl
 ·exact ⟨(PyData.tuple []),(PyData.tuple [.int e,.int l,.int b]),(PyData.tuple [.int u,.int e,.int l,.int b]),(PyData.tuple [odd]),(PyData.tuple [odd,.int e,.int l,.int b]),(PyData.tuple [odd,.int u,.int e,.int l,.int b]),rfl,rfl,rfl,rfl,rfl,rfl,g3 _ (by intro x hx; simp only [List.mem_cons,List.not_mem_nil,or_false] at hx; rcases hx with rfl | rfl | rfl | rfl <;> first | exact ho | exact hi _),g3 _ (by intro x hx; simp only [List.mem_cons,List.not_mem_nil,or_false] at hx; rcases hx with rfl | rfl | rfl | rfl | rfl <;> first | exact ho | exact hi _)⟩
 ·exact ⟨(PyData.tuple [.int u]),(PyData.tuple [.int l,.int b]),(PyData.tuple [.int e,.int l,.int b]),(PyData.tuple [.int u,odd]),(PyData.tuple [.int u,odd,.int l,.int b]),(PyData.tuple [.int u,odd,.int e,.int l,.int b]),rfl,rfl,rfl,rfl,rfl,rfl,g3 _ (by intro x hx; simp only [List.mem_cons,List.not_mem_nil,or_false] at hx; rcases hx with rfl | rfl | rfl | rfl <;> first | exact ho | exact hi _),g3 _ (by intro x hx; simp only [List.mem_cons,List.not_mem_nil,or_false] at hx; rcases hx with rfl | rfl | rfl | rfl | rfl <;> first | exact ho | exact hi _)⟩
 ·exact ⟨(PyData.tuple [.int u,.int e]),(PyData.tuple [.int b]),(PyData.tuple [.int l,.int b]),(PyData.tuple [.int u,.int e,odd]),(PyData.tuple [.int u,.int e,odd,.int b]),(PyData.tuple [.int u,.int e,odd,.int l,.int b]),rfl,rfl,rfl,rfl,rfl,rfl,g3 _ (by intro x hx; simp only [List.mem_cons,List.not_mem_nil,or_false] at hx; rcases hx with rfl | rfl | rfl | rfl <;> first | exact ho | exact hi _),g3 _ (by intro x hx; simp only [List.mem_cons,List.not_mem_nil,or_false] at hx; rcases hx with rfl | rfl | rfl | rfl | rfl <;> first | exact ho | exact hi _)⟩
 ·exact ⟨(PyData.tuple [.int u,.int e,.int l]),(PyData.tuple []),(PyData.tuple [.int b]),(PyData.tuple [.int u,.int e,.int l,odd]),(PyData.tuple [.int u,.int e,.int l,odd]),(PyData.tuple [.int u,.int e,.int l,odd,.int b]),rfl,rfl,rfl,rfl,rfl,rfl,g3 _ (by intro x hx; simp only [List.mem_cons,List.not_mem_nil,or_false] at hx; rcases hx with rfl | rfl | rfl | rfl <;> first | exact ho | exact hi _),g3 _ (by intro x hx; simp only [List.mem_cons,List.not_mem_nil,or_false] at hx; rcases hx with rfl | rfl | rfl | rfl | rfl <;> first | exact ho | exact hi _)⟩
end
section
variable {u e l b:Int}
theorem aie (h:okN u e l b=true) {ρ:Rho} (hρ:lkp 1 ρ=some (jq u e l b)):j6 (itS (jD Ju (jk (lkp 1) jA))) [none] (jL 0) (tst (op2 dNe (jD qL (jk (lkp 0) jA)) (jD abf (jk (lkp 0) jA)))) (lkp 0) ρ=some (.list []):=by
 obtain ⟨a1,a2,a3,a4,a5,a6,a7,a8,a9,a10⟩:=qy h
 have lr:=Zi (e:=e) (b:=b) a1 (show u < 50 by omega) (show 0<=l by omega) (show l < 50 by omega)
 have fw:=Jw (u:=u) (l:=l) (by omega) (by omega)
 have cp:=QN (τ:=[]) (ft:=tst (op2 dNe (jD qL (jk (lkp 0) jA)) (jD abf (jk (lkp 0) jA)))) (fe:=lkp 0) (fun _=>false) pr (fun q=>by
  have gb:qL [pr q]=some (.int (bdP q)):=Ze q.1 q.2
  have ne:dNe (.int (bdP q)) (.int (bdP q))=some (.bool false):=by rw [Zh,decide_eq_true rfl]; rfl
  simp only [tst,op2,jD,jk,jA,lkp,zzA,zzB,zzC,zzD,zzE,adj,gb,ne,asB]) (fun q=>rfl) (zP (u+1).toNat (l+1).toNat) none
 rw [←Jy] at cp
 have e0:(List.filter (fun _=>false) (zP (u+1).toNat (l+1).toNat)).map pr=[]:=by simp
 rw [e0] at cp
 refine ZO (ds:=jH u l) ?_ fw cp
 show (jD Ju (jk (lkp 1) jA) ρ).bind items=_
 rw [JA (jJ hρ rfl) lr]; rfl
noncomputable def aaq:List PyData:=[rfd 2,.list [],rfd 2]
theorem aif:dEq (.list aaq) (.list aaq)=some (.bool true):=by
 have ok:okD (.list aaq)=true:=by
  simp [aaq,rfd,okD,PyData.canLay0,PyData.canLayAll0,PyData.depth,PyData.depthAll]; decide +kernel
 show (if okD _=true/\okD _=true then some (PyData.bool _) else none)=_
 rw [if_pos ⟨ok,ok⟩]
 simp [aaq,rfd,PyData.eqv,PyData.eqvAll]
theorem aeR (H:Jb=true) (h:okN u e l b=true) {o:PyData} (ho:noD o=true/\whB 0 9999 o=false) {ρ:Rho} (h1:lkp 1 ρ=some (jq u e l b)) (h3:lkp 3 ρ=some o) (hc:Je [none,some 1] ρ=[none,some (jq u e l b)]):j6 (itS (Jd (jk (lkp 3) (jk (cst (.int 9999)) (jk (cst (.int 10000)) jA))))) [none,some 1] (jL 0) QX (jD qM (jk (cst (.int 0)) (jk (lkp 1) (jk (lkp 0) jA)))) ρ=some (.list aaq):=by
 obtain ⟨a1,a2,a3,a4,a5,a6,a7,a8,a9,a10⟩:=qy h
 have hm:u*e<=3*5:=Int.mul_le_mul a2 a4 (by omega) (by omega)
 have t1:=noW (m:=jq u e l b) (ahV H h) ho.1 ho.2
 have t2:=agK H h (w:=9999) (by omega) (by omega)
 have z:j1 u e l 9999=[]:=by
  cases hc:j1 u e l 9999 with
  | nil=>rfl
  | cons p r=>
   have:=agF H h (w:=9999) (by rw [hc]; exact fun z=>nomatch z)
   omega
 rw [z] at t2
 have t2:qM [.int 0,jq u e l b,.int 9999]=some (.list []):=t2
 have t3:=noW (m:=jq u e l b) (w:= .int 10000) (ahV H h) rfl rfl
 refine ZO (ds:=[o,.int 9999,.int 10000]) ?_ fw3 ?_
 ·show (Jd (jk (lkp 3) (jk (cst (.int 9999)) (jk (cst (.int 10000)) jA))) ρ).bind items=_
  have:Jd (jk (lkp 3) (jk (cst (.int 9999)) (jk (cst (.int 10000)) jA))) ρ=some (.tuple [o,.int 9999,.int 10000]):=by
   unfold Jd
   rw [jJ h3 (jJ rfl (jJ rfl rfl)),zzD,if_pos fw3]
  rw [this]; rfl
 ·rw [hc]
  generalize jq u e l b=M at*
  simp only [qe,jL,QX,jD,jk,jA,lkp,cst,zzG,zzA,zzB,zzC,zzD,zzE,zzM,t1,t2,t3]
  rfl
end
theorem aeS (H:Jb=true) (ns:List Int) (hn:ns.length < 1000000):ahS [scr ns]=some (.bool true):=by
 obtain ⟨u,e,l,b,mn,hm⟩:=adi ns hn 0 (by omega)
 have h:=ahU hm
 obtain ⟨a1,a2,a3,a4,a5,a6,a7,a8,a9,a10⟩:=qy h
 have hmul:u*e<=3*5:=Int.mul_le_mul a2 a4 (by omega) (by omega)
 have hmn:0<=u*e:=Int.mul_nonneg a1 (by omega)
 obtain ⟨a,d10,ha0,ha4⟩:=qI ns hn 10 4 (by omega) (by omega)
 obtain ⟨c,d11,hc0,hc16⟩:=qI ns hn 11 16 (by omega) (by omega)
 obtain ⟨c2,d12,hc20,hc25⟩:=qI ns hn 12 5 (by omega) (by omega)
 obtain ⟨odd,ix,hodd⟩:=agq (ds:=aic) hc0 (show c < 16 from hc16) (by decide)
 obtain ⟨odd2,ix2,hodd2⟩:=agq (ds:=adU) hc20 (show c2 < 5 from hc25) (by decide)
 obtain ⟨hel,hgd⟩:=ajG odd hodd
 have ho2:=aid odd2 hodd2
 obtain ⟨X,Y,Z,X1,T1,T2,s1,s2,s3,p1,p2,p3,g1,g2⟩:=ajH (u:=u) (e:=e) (l:=l) (b:=b) hel ha0 ha4
 have s4:aav (jq u e l b) (some 1) none=some (.tuple ([e,l,b].map .int)):=rfl
 have s5:abo [jq u e l b]=some (.list [.int u,.int e,.int l,.int b]):=rfl
 have s6:ahL (jq u e l b)=some (.tuple ([b,l,e,u].map .int)):=rfl
 have gM:gd (jq u e l b):=JM [u,e,l,b]
 have gY:=JM [e,l,b]
 have gR:=JM [b,l,e,u]
 have gL:gd (.list [.int u,.int e,.int l,.int b]):=⟨rfl,fun _ z=>nomatch z⟩
 have gN:gd .none:=⟨rfl,fun _ z=>nomatch z⟩
 have gE:gd (.tuple []):=JM []
 have lr:=Zi (e:=e) (b:=b) a1 (show u < 50 by omega) (show 0<=l by omega) (show l < 50 by omega)
 have gm:=adR H h
 have t1:=akD (w:= .none) (aeL H h)
 have nc:=ahZ (acv u e l)
 generalize PyData.tuple ([e,l,b].map .int)=Y1 at*
 generalize PyData.tuple ([b,l,e,u].map .int)=R4 at*
 generalize PyData.list [.int u,.int e,.int l,.int b]=L4 at*
 have ta:zA [.list ([jq u e l b,T1,T2]++[Y1,L4,R4,.none,.tuple [],odd])]=some (.bool true):=aao (by simp) (fun d hd=>by
  simp only [List.cons_append,List.nil_append,List.mem_cons,List.not_mem_nil,or_false] at hd
  rcases hd with rfl | rfl | rfl | rfl | rfl | rfl | rfl | rfl | rfl <;> assumption)
 have w5:few [jq u e l b,T1,T2]=true:=ah0 (by simp)
 have w6:few [Y1,L4,R4,.none,.tuple [],odd]=true:=ah0 (by simp)
 have ad:zF (.list [jq u e l b,T1,T2]) (.list [Y1,L4,R4,.none,.tuple [],odd])=some (.list ([jq u e l b,T1,T2]++[Y1,L4,R4,.none,.tuple [],odd])):=add_list (by simp)
 generalize hTT:PyData.list ([jq u e l b,T1,T2]++[Y1,L4,R4,.none,.tuple [],odd])=TT at*
 generalize hS:scr ns=S at*
 obtain ⟨D,y6,y7,lp,hR⟩:=aaZ (u:=u) (l:=l) (b:=b) (s:=some S) (at':=some (.int a)) (odd:=some odd) (T:=some TT) (x8:=none) (x9:=none) ⟨a3,a4⟩ (zP (u+1).toNat (l+1).toNat) [] [] none none aap.nil (Nat.le_refl _) (by have:=agE a2 a7; simp; omega)
 rw [←Jy] at lp
 have hD:RD u e l D:=hR
 have mk:=agG H h hD
 have cc:=agH H h hD (s:=some S) (m:=some (jq u e l b)) (at':=some (.int a)) (odd:=some odd) (T:=some TT) (x6:=y6) (x7:=y7) (x9:=none)
 have rg:Qk [.int (u*e+l+3)]=some (qk 0 (u*e+l+3).toNat):=JL (by omega) (by omega)
 obtain ⟨ρ',lp2,y7',y9',rfl⟩:=QL (ga:=jL 7) (F:=acu.1) (fun _ ρ=>∃ y7 y9,ρ=[some S,some (jq u e l b),some (.int a),some odd,some TT,some (dV fL D),y6,y7,some (.int (u*e+l)),y9]) (qk 0 (u*e+l+3).toNat) 0 [some S,some (jq u e l b),some (.int a),some odd,some TT,some (dV fL D),y6,y7,some (.int (u*e+l)),none] ⟨_,_,rfl⟩ (fun j d ρ hd hi=>by
  obtain ⟨y7,y9,rfl⟩:=hi
  obtain ⟨hj,rfl⟩:=acy hd
  obtain ⟨z9,st⟩:=ado (s:=some S) (at':=some (.int a)) (odd:=some odd) (T:=some TT) (x6:=y6) (x9:=y9) (mo:=u*e+l) (w:=(j:Int)) H h hD (by omega) (by omega)
  exact ⟨_,_,rfl,st,_,_,rfl⟩)
 have bd:=aie h (ρ:=[some S,some (jq u e l b),some (.int a),some odd,some TT,some (dV fL D),y6,y7',some (.int (u*e+l)),y9']) rfl
 have lc:=aeR H h ho2 (ρ:=[some S,some (jq u e l b),some (.int a),some odd2,some TT,some (dV fL D),y6,y7',some (.int (u*e+l)),y9']) rfl rfl rfl
 have n0:dNe (.list []) (.list [])=some (.bool false):=rfl
 have nm:dNe (.int (u*e+l)) (.int (u*e+l))=some (.bool false):=by rw [Zh,decide_eq_true rfl]; rfl
 generalize PyData.list ((acv u e l).map .int)=CC at*
 generalize hMo:u*e+l=mo at*
 generalize hM:jq u e l b=M at*
 generalize hDD:dV fL D=DD at*
 refine qr rfl ?_
 show ahR.1 [some S,none,none,none,none,none,none,none,none,none]=_
 simp only [ahR]
 refine (jI (ρ1:=[some S,some M,none,none,none,none,none,none,none,none]) ?_).trans ?_
 ·dsimp? [mn]
 refine (jI (ρ1:=[some S,some M,some (.int a),none,none,none,none,none,none,none]) ?_).trans ?_
 ·dsimp? [d10]
 refine (jI (ρ1:=[some S,some M,some (.int a),some odd,none,none,none,none,none,none]) ?_).trans ?_
 ·exact aad (i:=3) (Jz (x:= .list aic) rfl (JA (jJ rfl (jJ rfl (jJ rfl rfl))) d11) ix)
 refine (jI (ρ1:=[some S,some M,some (.int a),some odd,some (.list [M,T1,T2]),none,none,none,none,none]) ?_).trans ?_
 ·dsimp? [aaQ,zX,inI,s1,s2,s3,fw1,p1,p2,p3,add_int,w5]
 refine (jI (ρ1:=[some S,some M,some (.int a),some odd,some TT,none,none,none,none,none]) ?_).trans ?_
 ·dsimp? [zX,inI,s4,s5,s6,zC,w6,ad]
 refine (jI (ρ1:=[some S,some M,some (.int a),some odd,some TT,none,none,none,none,none]) ?_).trans ?_
 ·dsimp? [ta]
 refine ajD (d:=dV fL []) rfl (by simp) ?_
 refine (jI (ρ1:=[some S,some M,some (.int a),some odd,some TT,some DD,y6,y7,none,none]) ?_).trans ?_
 ·exact agL (ds:=jH u l) (by
   show (jD Ju (jk (lkp 1) jA) _).bind items=_
   rw [JA (jJ rfl rfl) lr]; rfl) lp
 refine ajE ?_
 refine (jI (ρ1:=[some S,some M,some (.int a),some odd,some TT,some DD,y6,y7,some (.int mo),none]) ?_).trans ?_
 ·exact aad (i:=8) (JA (jJ rfl rfl) mk)
 refine (jI (ρ1:=[some S,some M,some (.int a),some odd,some TT,some DD,y6,y7,some (.int mo),none]) ?_).trans ?_
 ·exact aib (abM (Jz (JA (jJ rfl rfl) gm) rfl nm))
 refine (jI (ρ1:=[some S,some M,some (.int a),some odd,some TT,some DD,y6,y7,some (.int mo),none]) ?_).trans ?_
 ·exact aib (abM (Jz (JA (jJ rfl (jJ rfl (jJ rfl rfl))) t1) cc nc))
 refine (jI (ρ1:=[some S,some M,some (.int a),some odd,some TT,some DD,y6,y7',some (.int mo),y9']) ?_).trans ?_
 ·exact agL (ds:=qk 0 (mo+3).toNat) rg lp2
 refine (jI (ρ1:=[some S,some M,some (.int a),some odd,some TT,some DD,y6,y7',some (.int mo),y9']) ?_).trans ?_
 ·exact aib (abM (Jz bd (y:= .list []) rfl n0))
 refine (jI (ρ1:=[some S,some M,some (.int a),some odd2,some TT,some DD,y6,y7',some (.int mo),y9']) ?_).trans ?_
 ·exact aad (i:=3) (Jz (x:= .list adU) rfl (JA (jJ rfl (jJ rfl (jJ rfl rfl))) d12) ix2)
 exact ajF (Jz lc (y:= .list aaq) rfl aif)
end Rods
end
section
namespace BX
open PySem L2
open PyProof.Rows hiding St
theorem j2.thr {P:Program}{w:World}{K:PySem.W.Frag}{mg:Str->Option Value}{base h:Heap}{x:Str}{st:Stmt}{ps:List Str}{k n:Nat}{g:List PyData->Option Str} (T:j2 K x st) (X:K.In h) (G:h.Ns mainGlobals mg)
  (pa:jx x st ps) (ok:∀ f fd,Fun K x x st f fd->FnOk P w K mg base (CXt P w) k f fd ps (afU K mg n g)):abq P w K mg base x ps k n g:=by
 obtain ⟨f,oc,od,an,kV,doc,pm,cdv,ct,osl,a,l,c,kp⟩:=T
 have F1:=aa8 (st:=st) l c kp
 exact ⟨f,_,ok f _ F1,PySem.W.mg_of X G a,kp,F1.binds pa⟩
theorem j2.hdl {P:Program}{w:World}{K:PySem.W.Frag}{mg:Str->Option Value}{base h:Heap}{x:Str}{st:Stmt}{ps:List Str}{k n:Nat}{g:List PyData->Option PyData} (T:j2 K x st) (X:K.In h) (G:h.Ns mainGlobals mg)
  (pa:jx x st ps) (ok:∀ f fd,Fun K x x st f fd->FnH P w K mg base k f fd ps (Pur K n g)):ZE P w K mg base x ps k n g:=by
 obtain ⟨f,oc,od,an,kV,doc,pm,cdv,ct,osl,a,l,c,kp⟩:=T
 have F1:=aa8 (st:=st) l c kp
 exact ⟨f,_,ok f _ F1,PySem.W.mg_of X G a,kp,F1.binds pa⟩
end BX
namespace Rods
open PySem L2 BX
open PyProof.Rows hiding St
structure Tops (K:PySem.W.Frag):Prop where
 isWhole:j2 K "is_whole" QA
 rodWorth:j2 K "rod_worth" JG
 beads:j2 K "beads" abw
 allRods:j2 K "all_rods" QB
 hasAll:j2 K "has_all_digits" JH
 isManner:j2 K "is_manner" JI
 check:j2 K "check_manner" aae
 rodsWith:j2 K "rods_with" zN
 fewest:j2 K "fewest_beads" ZF
 most:j2 K "most_on_rod" acm
 counts:j2 K "counts" QD
 cell:j2 K "_law_cell" adL
 drawn:j2 K "_law_drawn" abC
 manner:j2 K "_law_manner" ZI
 rodsFor:j2 K "rods_for" Jq
 LRods:j2 K "_law_rods" Qa
 LRefused:j2 K "_law_refused" zn
 LTold:j2 K "_law_told" Zc
 LIsManner:j2 K "_law_is_manner" qD
 LToldApart:j2 K "_law_told_apart" qm
 law:j2 K "law" Zd
structure Consts (K:PySem.W.Frag) (mg:Str->Option Value):Prop where
 b:Bare mg
 least:GC K mg "LEAST_PARTS" (.tuple [.int 0,.int 1,.int 0,.int 2])
 most:GC K mg "MOST_PARTS" (.tuple [.int 3,.int 16,.int 12,.int 16])
 mostWorth:GC K mg "MOST_WORTH" (.int 9999)
 errT:ErrT K mg "BeadError" zr
theorem adp:jx "is_whole" QA ["thing","least","most"]:=fun _ _ _ _ _ _ us hl=>by obtain ⟨v0,v1,v2,rfl⟩:=aiQ us hl; rfl
theorem acF:jx "rod_worth" JG ["manner","rod"]:=fun _ _ _ _ _ _ us hl=>by obtain ⟨v0,v1,rfl⟩:=acS us hl; rfl
theorem agM:jx "beads" abw ["rod"]:=fun _ _ _ _ _ _ us hl=>by obtain ⟨v0,rfl⟩:=Zu us hl; rfl
theorem adq:jx "all_rods" QB ["manner"]:=fun _ _ _ _ _ _ us hl=>by obtain ⟨v0,rfl⟩:=Zu us hl; rfl
theorem aeT:jx "has_all_digits" JH ["manner"]:=fun _ _ _ _ _ _ us hl=>by obtain ⟨v0,rfl⟩:=Zu us hl; rfl
theorem acG:jx "is_manner" JI ["thing"]:=fun _ _ _ _ _ _ us hl=>by obtain ⟨v0,rfl⟩:=Zu us hl; rfl
theorem acH:jx "check_manner" aae ["thing"]:=fun _ _ _ _ _ _ us hl=>by obtain ⟨v0,rfl⟩:=Zu us hl; rfl
theorem acI:jx "rods_with" zN ["manner","worth"]:=fun _ _ _ _ _ _ us hl=>by obtain ⟨v0,v1,rfl⟩:=acS us hl; rfl
theorem aeU:jx "fewest_beads" ZF ["manner","worth"]:=fun _ _ _ _ _ _ us hl=>by obtain ⟨v0,v1,rfl⟩:=acS us hl; rfl
theorem aig:jx "most_on_rod" acm ["manner"]:=fun _ _ _ _ _ _ us hl=>by obtain ⟨v0,rfl⟩:=Zu us hl; rfl
theorem aa0:jx "counts" QD ["manner"]:=fun _ _ _ _ _ _ us hl=>by obtain ⟨v0,rfl⟩:=Zu us hl; rfl
theorem aih:jx "_law_cell" adL ["_law_script","_law_k"]:=fun _ _ _ _ _ _ us hl=>by obtain ⟨v0,v1,rfl⟩:=acS us hl; rfl
theorem agN:jx "_law_drawn" abC ["_law_script","_law_k","_law_many"]:=fun _ _ _ _ _ _ us hl=>by obtain ⟨v0,v1,v2,rfl⟩:=aiQ us hl; rfl
theorem aeV:jx "_law_manner" ZI ["_law_script","_law_at"]:=fun _ _ _ _ _ _ us hl=>by obtain ⟨v0,v1,rfl⟩:=acS us hl; rfl
theorem aar:jx "rods_for" Jq ["manner","worth"]:=fun _ _ _ _ _ _ us hl=>by obtain ⟨v0,v1,rfl⟩:=acS us hl; rfl
theorem agO:jx "_law_rods" Qa ["_law_manner_here"]:=fun _ _ _ _ _ _ us hl=>by obtain ⟨v0,rfl⟩:=Zu us hl; rfl
theorem acJ:jx "_law_refused" zn ["_law_e"]:=fun _ _ _ _ _ _ us hl=>by obtain ⟨v0,rfl⟩:=Zu us hl; rfl
theorem agP:jx "_law_told" Zc ["_law_way","_law_manner_here","_law_worth"]:=fun _ _ _ _ _ _ us hl=>by obtain ⟨v0,v1,v2,rfl⟩:=aiQ us hl; rfl
theorem abN:jx "_law_is_manner" qD ["_law_thing"]:=fun _ _ _ _ _ _ us hl=>by obtain ⟨v0,rfl⟩:=Zu us hl; rfl
theorem aay:jx "_law_told_apart" qm ["_law_things"]:=fun _ _ _ _ _ _ us hl=>by obtain ⟨v0,rfl⟩:=Zu us hl; rfl
theorem alq (HT:Jb=true) {P:Program}{w:World}{K:PySem.W.Frag}{h:Heap}{mg:Str->Option Value}{base:Heap} (X:K.In h) (G:h.Ns mainGlobals mg) (T:Tops K) (C:Consts K mg):CLaw P w K mg base:=by
 have c_isWhole:jn P w K mg base "is_whole" ["thing","least","most"] 1 3 jY:=T.isWhole.callee X G adp fun f fd F=>jW F add fun cdv A outer s H E hr=>QC.2 P w K mg base f cdv A outer s H E C.b hr
 have c_rodWorth:jn P w K mg base "rod_worth" ["manner","rod"] 1 2 qf:=T.rodWorth.callee X G acF fun f fd F=>jW F acj fun cdv A outer s H E hr=>Q6.2 P w K mg base f cdv A outer s H E trivial hr
 have c_beads:jn P w K mg base "beads" ["rod"] 1 1 qL:=T.beads.callee X G agM fun f fd F=>jW F aga fun cdv A outer s H E hr=>ade.2 P w K mg base f cdv A outer s H E trivial hr
 have c_allRods:jn P w K mg base "all_rods" ["manner"] 1 1 qv:=T.allRods.callee X G adq fun f fd F=>adf F C.b
 have c_hasAll:jn P w K mg base "has_all_digits" ["manner"] 2 1 QE:=T.hasAll.callee X G aeT fun f fd F=>jW F aaU fun cdv A outer s H E hr=>aby.2 P w K mg base f cdv A outer s H E ⟨C.b,c_allRods,c_rodWorth⟩ hr
 have c_isManner:jn P w K mg base "is_manner" ["thing"] 3 1 jF:=T.isManner.callee X G acG fun f fd F=>jW F zx fun cdv A outer s H E hr=>qH.2 P w K mg base f cdv A outer s H E ⟨C.b,C.least,C.most,c_isWhole,c_hasAll⟩ hr
 have c_check:jn P w K mg base "check_manner" ["thing"] 4 1 qT:=T.check.callee X G acH fun f fd F=>jW F aco fun cdv A outer s H E hr=>abz.2 P w K mg base f cdv A outer s H E ⟨c_isManner⟩ hr
 have c_rodsWith:jn P w K mg base "rods_with" ["manner","worth"] 2 2 zm:=T.rodsWith.callee X G acI fun f fd F=>jW F acp fun cdv A outer s H E hr=>Q7.2 P w K mg base f cdv A outer s H E ⟨c_allRods,c_rodWorth⟩ hr
 have c_fewest:jn P w K mg base "fewest_beads" ["manner","worth"] 3 2 ZG:=T.fewest.callee X G aeU fun f fd F=>jW F aeH fun cdv A outer s H E hr=>abA.2 P w K mg base f cdv A outer s H E ⟨C.b,c_rodsWith,c_beads⟩ hr
 have c_most:jn P w K mg base "most_on_rod" ["manner"] 2 1 aaf:=T.most.callee X G aig fun f fd F=>jW F ahO fun cdv A outer s H E hr=>agb.2 P w K mg base f cdv A outer s H E ⟨C.b,c_allRods,c_rodWorth⟩ hr
 have c_counts:jn P w K mg base "counts" ["manner"] 5 1 qY:=T.counts.callee X G aa0 fun f fd F=>aeK F ⟨c_check,c_most,c_allRods,c_rodWorth⟩
 have c_cell:jn P w K mg base "_law_cell" ["_law_script","_law_k"] 1 2 acq:=T.cell.callee X G aih fun f fd F=>jW F ahQ fun cdv A outer s H E hr=>adM.2 P w K mg base f cdv A outer s H E C.b hr
 have c_drawn:jn P w K mg base "_law_drawn" ["_law_script","_law_k","_law_many"] 2 3 aai:=T.drawn.callee X G agN fun f fd F=>jW F aah fun cdv A outer s H E hr=>adg.2 P w K mg base f cdv A outer s H E ⟨c_cell⟩ hr
 have c_manner:jn P w K mg base "_law_manner" ["_law_script","_law_at"] 3 2 QF:=T.manner.callee X G aeV fun f fd F=>jW F qU fun cdv A outer s H E hr=>ZJ.2 P w K mg base f cdv A outer s H E ⟨C.b,c_drawn⟩ hr
 have c_rodsFor:jn P w K mg base "rods_for" ["manner","worth"] 5 2 qw:=T.rodsFor.callee X G aar fun f fd F=>jW F aag fun cdv A outer s H E hr=>Jr.2 P w K mg base f cdv A outer s H E ⟨c_check,c_isWhole,c_rodsWith,C.mostWorth⟩ hr
 have x_check:abq P w K mg base "check_manner" ["thing"] 4 1 Js:=T.check.thr X G acH fun f fd F=>ada F aco fun cdv A outer s H E hr=>Za.2 P w K mg base f cdv A outer s H E ⟨c_isManner,(C.errT.err (by decide))⟩ hr
 have x_rodsFor:abq P w K mg base "rods_for" ["manner","worth"] 5 2 Jt:=T.rodsFor.thr X G aar fun f fd F=>ada F aag fun cdv A outer s H E hr=>zO.2 P w K mg base f cdv A outer s H E ⟨c_isWhole,c_check,C.mostWorth,x_check,(C.errT.err (by decide))⟩ hr
 have x_counts:abq P w K mg base "counts" ["manner"] 5 1 ZL:=T.counts.thr X G aa0 fun f fd F=>ada F JJ fun cdv A outer s H E hr=>ZK.2 P w K mg base f cdv A outer s H E ⟨x_check⟩ hr
 have c_LRods:jn P w K mg base "_law_rods" ["_law_manner_here"] 1 1 Ju:=T.LRods.callee X G agO fun f fd F=>jW F QG fun cdv A outer s H E hr=>abF.2 P w K mg base f cdv A outer s H E ⟨C.b⟩ hr
 have h_LRefused:ZE P w K mg base "_law_refused" ["_law_e"] 1 1 zo:=T.LRefused.hdl X G acJ fun f fd F=>alc F Jv fun cdv A outer s H E hr=>aaW.2 P w K mg base f cdv A outer s H E ⟨C.b,C.errT⟩ hr
 have c_LTold:jn P w K mg base "_law_told" ["_law_way","_law_manner_here","_law_worth"] 6 3 qM:=T.LTold.callee X G agP fun f fd F=>afY F acr fun cdv A outer s H E hr=>zH.2 P w K mg base f cdv A outer s H E ⟨c_rodsFor,c_counts,x_rodsFor,x_counts,h_LRefused,C.errT⟩ hr
 have c_LIsManner:jn P w K mg base "_law_is_manner" ["_law_thing"] 2 1 qE:=T.LIsManner.callee X G abN fun f fd F=>jW F qp fun cdv A outer s H E hr=>jT.2 P w K mg base f cdv A outer s H E ⟨C.b,c_LRods⟩ hr
 have c_LToldApart:jn P w K mg base "_law_told_apart" ["_law_things"] 7 1 zA:=T.LToldApart.callee X G aay fun f fd F=>jW F qx fun cdv A outer s H E hr=>zy.2 P w K mg base f cdv A outer s H E ⟨C.b,c_isManner,c_LIsManner,c_LTold⟩ hr
 exact ⟨C.b,c_manner,c_drawn,c_LToldApart,c_LRods,c_most,c_LTold,c_fewest,c_beads⟩
theorem ajI (HT:Jb=true) {P:Program}{w:World}{K:PySem.W.Frag}{h:Heap}{mg:Str->Option Value}{fa:Addr} (X:K.In h) (G:h.Ns mainGlobals mg) (hfa:mg "law"=some (.ref fa)) (T:Tops K) (C:Consts K mg):
  ∃ fd:FuncData,(∀ (s:Shared) (v:Value),BindsTo s fd ⟨[v],[]⟩ [("_law_script",v)])/\∀ base:Heap,K.In base->base.Ns mainGlobals mg->FnOk P w K mg base CX0 8 fa fd ["_law_script"] (Pur K 1 ahS):=by
 have Q:∀ base:Heap,CLaw P w K mg base:=fun base=>alq HT X G T C
 obtain ⟨f,oc,od,an,kV,doc,pm,cdv,ct,osl,a,l,c,kp⟩:=T.law
 have e:=hfa.symm.trans (PySem.W.mg_of X G a)
 cases e
 have F1:=aa8 (st:=Zd) l c kp
 exact ⟨_,fun s v=> .of_eq rfl,fun base _ _=>jW F1 qW fun cdv A outer s H E hr=>ahR.2 P w K mg base fa cdv A outer s H E (Q base) hr⟩
theorem akI (HT:Jb=true) (K:PySem.W.Frag) (H:Hp) (a:Addr) (ns:List Int) (hl:ns.length<=63) (hS:SqL K H a (ns.map V.int)):Pur K 1 ahS [.ref a] H (fun v _=>v= .bl true) fun _ _ _=>False:=
 ⟨[scr ns],.bool true,rfl,⟨_,_,rfl,⟨a,rfl,.inl ⟨ns,hS,rfl⟩⟩,rfl⟩,aeS HT ns (by omega),fun v H' _ r=>r⟩
theorem alr (HT:Jb=true) {l:PySem.W.OpenLaw}{q:Program}{loose:List Str}{XP:(Str->Option Value)->Heap->Prop}{YP:World->Heap->Prop}{d:DefRec}{K:Params->PySem.W.Frag} (hn:l.most=some 63) (hdf:d.params.defaults=[])
  (hY:∀ (w:World) (h:Heap),YP w h->(K w.params).In h) (hnm:d.name="law")
  (F:∀ (w:World) (mg:Str->Option Value) (h:Heap),(K w.params).In h->h.Ns mainGlobals mg->Tops (K w.params)/\Consts (K w.params) mg):
  PySem.W.WalkO q loose XP YP l.row.toRowW d [] (fun f vs=>PySem.call f vs):=
 L2.ag5 (n:=63) (k:=8) (x:="_law_script") (CX:=fun _=>CX0) (sp:=fun w=>Pur (K w.params) 1 ahS) hn (by decide) hdf ⟨rfl,by decide,by decide⟩ hY (fun w mg fa h KX G hm=>by
  obtain ⟨T,C⟩:=F w mg h KX G
  rw [hnm] at hm
  exact ajI HT KX G hm T C) (fun w H a ns hl _ hS=>akI HT (K w.params) H a ns hl hS) fun _ _ _ _ _ z=>z
theorem aii {K:PySem.W.Frag}{mg:Str->Option Value}{h:Heap} (X:K.In h) (G:h.Ns mainGlobals mg) (z1:PySem.W.nsIn K mainGlobals "isinstance"=some none) (z2:PySem.W.nsIn K mainGlobals "bool"=some none) (z3:PySem.W.nsIn K mainGlobals "int"=some none) (z4:PySem.W.nsIn K mainGlobals "tuple"=some none) (z5:PySem.W.nsIn K mainGlobals "zip"=some none) (z6:PySem.W.nsIn K mainGlobals "range"=some none) (z7:PySem.W.nsIn K mainGlobals "all"=some none) (z8:PySem.W.nsIn K mainGlobals "len"=some none) (z9:PySem.W.nsIn K mainGlobals "max"=some none) (z10:PySem.W.nsIn K mainGlobals "min"=some none) (z11:PySem.W.nsIn K mainGlobals "sum"=some none) (z12:PySem.W.nsIn K mainGlobals "sorted"=some none) (z13:PySem.W.nsIn K mainGlobals "abs"=some none) (z14:PySem.W.nsIn K mainGlobals "list"=some none) (z15:PySem.W.nsIn K mainGlobals "enumerate"=some none) (z16:PySem.W.nsIn K mainGlobals "ValueError"=some none) (z17:PySem.W.nsIn K mainGlobals "str"=some none) (z18:PySem.W.nsIn K mainGlobals "set"=some none) (z19:PySem.W.nsIn K mainGlobals "dict"=some none):Bare mg:=
 have f:∀ {x:Str},PySem.W.nsIn K mainGlobals x=some none->mg x=none:=fun z=>PySem.W.mg_none_of X G z
 ⟨f z1,f z2,f z3,f z4,f z5,f z6,f z7,f z8,f z9,f z10,f z11,f z12,f z13,f z14,f z15,f z16,f z17,f z18,f z19⟩
theorem gc4 {K:PySem.W.Frag}{mg:Str->Option Value}{h:Heap}{x:Str}{a:Addr}{od:Option Addr}{n:Nat}{osl:Array (Option Value)}{i1 i2 i3 i4:Int}{t1 t2 t3 t4:Tok} (X:K.In h) (G:h.Ns mainGlobals mg) (e:PySem.W.nsIn K mainGlobals x=some (some (.ref a)))
  (l:K.lookup a=some ⟨.type "tuple",od,.seq #[.int i1 t1,.int i2 t2,.int i3 t3,.int i4 t4] n,osl⟩):GC K mg x (.tuple [.int i1,.int i2,.int i3,.int i4]):=
 afH X G e l rfl ⟨_,_,[.int i1,.int i2,.int i3,.int i4],rfl,(by show 4<=sizeLine; rw [sizeLine_eq]; decide),.cons ⟨_,rfl⟩ (.cons ⟨_,rfl⟩ (.cons ⟨_,rfl⟩ (.cons ⟨_,rfl⟩ .nil))),fun H=>⟨_,_,rfl,rfl,_,_,rfl,rfl,_,_,rfl,rfl,_,_,rfl,rfl,rfl⟩⟩
theorem gcI {K:PySem.W.Frag}{mg:Str->Option Value}{h:Heap}{x:Str}{i:Int}{t:Tok} (X:K.In h) (G:h.Ns mainGlobals mg) (e:PySem.W.nsIn K mainGlobals x=some (some (.int i t))):GC K mg x (.int i):=
 ⟨.int i,_,PySem.W.mg_of X G e,⟨t,rfl⟩,fun H=>rfl⟩
theorem aij {K:PySem.W.Frag}{mg:Str->Option Value}{h:Heap}{y:Str}{cs:List Str} (X:K.In h) (G:h.Ns mainGlobals mg) (q:abu K y cs=true):ErrT K mg y cs:=
 ⟨q,fun c C e=>PySem.W.mg_of X G (adK e)⟩
end Rods
def PySem.W.Fast.tw12256494089479200270:Unit:=()
def PySem.W.Fast.tw13888438058600870622:Unit:=()
def PySem.W.Fast.tw8964075003810773027:Unit:=()
def PySem.W.Fast.tw12878823042380511991:Unit:=()
def PySem.W.Fast.tw14366355421405211618:Unit:=()
def PySem.W.Fast.tw609271310096032212:Unit:=()
def PySem.W.Fast.tw12029158525872497164:Unit:=()
open PySem PySem.W PyProof.Rows
set_option maxRecDepth 100000 in
set_option maxHeartbeats 0 in
theorem PySem.Challenge.cw_beadrods_k01_manners_holds : PySem.Challenge.rw_beadrods_k01_manners.Holds := by
  w_on; o_law; k_head; (case hw => w_witness2)
  k_fill
  refine Rods.alr Rods.allN_true (l := PySem.Challenge.rw_beadrods_k01_manners) rfl rfl (fun w h Y => PySem.W.kIn_of Y) rfl ?F
  case F =>
    intro w mg h KX G
    refine ⟨⟨?f1, ?f2, ?f3, ?f4, ?f5, ?f6, ?f7, ?f8, ?f9, ?f10, ?f11, ?f12, ?f13, ?f14, ?f15, ?f16, ?f17, ?f18, ?f19, ?f20, ?f21⟩, ⟨?b, ?c1, ?c2, ?c3, ?et⟩⟩
    case b => refine' Rods.aii KX G ?_ ?_ ?_ ?_ ?_ ?_ ?_ ?_ ?_ ?_ ?_ ?_ ?_ ?_ ?_ ?_ ?_ ?_ ?_ <;> k_is
    case c1 =>
      refine' Rods.gc4 KX G ?a ?l
      (case a => k_is); (case l => k_is)
    case c2 =>
      refine' Rods.gc4 KX G ?a ?l
      (case a => k_is); (case l => k_is)
    case c3 =>
      refine' Rods.gcI KX G ?a
      (case a => k_is)
    case et => exact Rods.aij KX G (by kernel_rfl)
    all_goals
      refine' BX.afG ?a ?l ?c ?k
      (case a => k_is); (case l => k_is); (case c => k_is); (case k => k_is)
#print axioms PySem.Challenge.cw_beadrods_k01_manners_holds
end
