import PyProof.Rows.All
import Wide.All
import OpenK.AllK
import Wide.FinOn
import Lean
import PyProof.EqAt
import PyProof.EqKinds
import PyProof.TupleCall
import PyProof.DictWalks
import PyProof.ListMulRoad
import PyProof.Rows.Range3
import PyProof.StationsW
import OpenK.KOwn
import PyProof.ExcBaseAll.ValueError
import PyProof.MaxThree
import KE.KIsAll
import KE.KIsNot
import PyProof.RulesAs
import PyProof.ExcArgsOwn
import PyProof.ExcAttrAll.ValueError
import PySem.Challenge.RW_beadrods_k11_all_settings
set_option Elab.async false
set_option linter.all false
set_option maxRecDepth 100000
set_option maxHeartbeats 4000000
theorem zzA {α : Type _} {a : α} {l : List α} : (a :: l)[0]? = some a := rfl
theorem zzB {α : Type _} {a : α} {i : Nat} {l : List α} : (a :: l)[i + 1]? = l[i]? := rfl
theorem zzC {α : Type _} {o : Option α} : (some o).join = o := rfl
theorem zzD {α β : Type _} (a : α) (f : α → Option β) : (some a).bind f = f a := rfl
theorem zzE {α β : Type _} (a : α) (f : α → β) : Option.map f (some a) = some (f a) := rfl
theorem zzF {α : Type _} {x : α} {xs : List α} {i : Nat} {a : α} : (x :: xs).set (i + 1) a = x :: xs.set i a := rfl
theorem zzG {α : Type _} {x : α} {xs : List α} {a : α} : (x :: xs).set 0 a = a :: xs := rfl
theorem zzH {α β : Type _} (f : α → Option β) : (none : Option α).bind f = none := rfl
theorem zzI {α β : Type _} (f : α → β) : Option.map f (none : Option α) = none := rfl
theorem zzJ : (!true) = false := rfl
theorem zzK : (!false) = true := rfl
theorem zzL : (false = true) = False := Bool.false_eq_true
theorem zzM {α : Sort _} {x : Decidable True} (a b : α) : ite True a b = a := if_true a b
theorem zzN {α : Sort _} {x : Decidable False} (a b : α) : ite False a b = b := if_false a b
section
namespace L2
open PySem PySem.Spec PyProof.Rows
noncomputable abbrev Key:=Sum Int Str
noncomputable def acq:Key->Value->Bool
 | .inl k,v=>Value.isInt k v
 | .inr x,v=>Value.isStrOf x v
noncomputable def arP (w:World):Key->Int
 | .inl k=>hashInt k
 | .inr x=>hashStr w x
theorem qg:∀ {k:Key}{v:Value},acq k v=true->(∃ i t,k=Sum.inl i/\v=Value.int i t) ∨ (∃ x t,k=Sum.inr x/\v=Value.str x t)
 | .inl i,v,h=>by
  obtain ⟨t,e⟩:=Value.isInt_shape (k:=i) (v:=v) h
  exact .inl ⟨i,t,rfl,e⟩
 | .inr x,v,h=>by
  obtain ⟨t,e⟩:=Value.isStrOf_shape (x:=x) (v:=v) h
  exact .inr ⟨x,t,rfl,e⟩
theorem ajo (i:Int) (t:Tok):acq (.inl i) (.int i t)=true:=by simp [acq,Value.isInt]
theorem ajp (x:Str) (t:Tok):acq (.inr x) (.str x t)=true:=by simp [acq,Value.isStrOf]
theorem apl (a b:Int):decide ((Sum.inl a:Key)=Sum.inl b)=(a == b):=by
 by_cases e:a=b
 ·subst e; simp
 ·have h:¬ (Sum.inl a:Key)=Sum.inl b:=fun q=>e (Sum.inl.inj q)
  rw [decide_eq_false h]
  exact (beq_eq_false_iff_ne.mpr e).symm
theorem apm (a b:Str):decide ((Sum.inr a:Key)=Sum.inr b)=decide (a=b):=by
 by_cases e:a=b
 ·subst e; simp
 ·have h:¬ (Sum.inr a:Key)=Sum.inr b:=fun q=>e (Sum.inr.inj q)
  rw [decide_eq_false h,decide_eq_false e]
theorem apn (a:Int) (b:Str):decide ((Sum.inl a:Key)=Sum.inr b)=false:=decide_eq_false (fun q=>nomatch q)
theorem apo (a:Str) (b:Int):decide ((Sum.inr a:Key)=Sum.inl b)=false:=decide_eq_false (fun q=>nomatch q)
noncomputable def j1 (prog:Program) (w:World):PySem.KeyKind prog w Key where
 is:=acq
 hash:=arP w
 inj:=fun v a b ha hb=>by
  rcases qg ha with ⟨i,t,rfl,rfl⟩ | ⟨x,t,rfl,rfl⟩
  ·rcases qg hb with ⟨j,u,rfl,e⟩ | ⟨y,u,rfl,e⟩
   ·injection e with e1 _; rw [e1]
   ·exact nomatch e
  ·rcases qg hb with ⟨j,u,rfl,e⟩ | ⟨y,u,rfl,e⟩
   ·exact nomatch e
   ·injection e with e1 _; rw [e1]
 byValue:=fun k v h=>by
  rcases qg h with ⟨i,t,rfl,rfl⟩ | ⟨x,t,rfl,rfl⟩ <;> rfl
 pyHash:=fun hv h=>by
  rcases qg hv with ⟨i,t,rfl,rfl⟩ | ⟨x,t,rfl,rfl⟩
  ·exact wpAny_pyHash_int h
  ·exact wpAny_pyHash_str h
 eqBool:=fun hu hv h=>by
  rcases qg hu with ⟨i,t,rfl,rfl⟩ | ⟨x,t,rfl,rfl⟩
  ·rcases qg hv with ⟨j,u,rfl,rfl⟩ | ⟨y,u,rfl,rfl⟩
   ·rw [apl] at h; exact wpAny_eqBool_int h
   ·rw [apn] at h; exact SeqAt.EqAt.int_str i t y u _ _ _ _ h
  ·rcases qg hv with ⟨j,u,rfl,rfl⟩ | ⟨y,u,rfl,rfl⟩
   ·rw [apo] at h; exact SeqAt.EqAt.str_int x t j u _ _ _ _ h
   ·rw [apm] at h; exact wpAny_eqBool_str h
 «strs»:=fun k x t v h=>by
  rcases qg h with ⟨i,u,rfl,e⟩ | ⟨y,u,rfl,e⟩
  ·exact nomatch e
  ·injection e with e1 _
   subst e1
   cases v <;> rfl
theorem afP (prog:Program) (w:World) (i:Int) (t:Tok):(j1 prog w).is (.inl i) (.int i t)=true:=ajo i t
theorem afQ (prog:Program) (w:World) (x:Str) (t:Tok):(j1 prog w).is (.inr x) (.str x t)=true:=ajp x t
end L2
namespace L2
open PySem PySem.Spec PyProof.Rows
inductive V where
 | non | bl (b:Bool) | int (i:Int) | str (x:Str) | byt (b:Array UInt8) | flt (b:UInt64) | ref (a:Addr) | ty (n:String)
 deriving DecidableEq
noncomputable def jP:V->Value->Prop
 | .non,u=>u=Value.none
 | .bl b,u=>u=Value.bool b
 | .int i,u=>∃ t,u=Value.int i t
 | .str x,u=>∃ t,u=Value.str x t
 | .byt b,u=>∃ t,u=Value.bytes b t
 | .flt b,u=>∃ t,u=Value.float b t
 | .ref a,u=>u=Value.ref a
 | .ty n,u=>u=Value.type n
noncomputable abbrev jG:List V->List Value->Prop:=Paired jP
theorem jG.length {xs:List V}{us:List Value} (r:jG xs us):xs.length=us.length:=Paired.length r
theorem jG.get:∀ {xs:List V}{us:List Value}{i:Nat}{x:V},jG xs us->xs[i]?=some x->∃ u,us[i]?=some u/\jP x u
 | _,_,_,_,.nil,e=>by simp at e
 | _,_,0,_,.cons r _,e=>by simp at e; subst e; exact ⟨_,rfl,r⟩
 | _,_,i+1,x,.cons _ t,e=>by
  obtain ⟨u,h1,h2⟩:=jG.get (i:=i) (x:=x) t (by simpa using e)
  exact ⟨u,by simpa using h1,h2⟩
theorem jG.set {x:V}{u:Value} (r:jP x u):∀ {xs:List V}{us:List Value} (i:Nat),jG xs us->jG (xs.set i x) (us.set i u)
 | _,_,_,.nil=> .nil
 | _,_,0,.cons _ t=> .cons r t
 | _,_,i+1,.cons q t=> .cons q (jG.set r i t)
theorem jG.append:∀ {xs ys:List V}{us ws:List Value},jG xs us->jG ys ws->jG (xs++ys) (us++ws)
 | _,_,_,_,.nil,s=>s
 | _,_,_,_,.cons r t,s=> .cons r (jG.append t s)
theorem jG.take:∀ {xs:List V}{us:List Value} (n:Nat),jG xs us->jG (xs.take n) (us.take n)
 | _,_,0,_=> .nil
 | _,_,_+1,.nil=> .nil
 | _,_,n+1,.cons r t=> .cons r (jG.take n t)
theorem jG.drop:∀ {xs:List V}{us:List Value} (n:Nat),jG xs us->jG (xs.drop n) (us.drop n)
 | _,_,0,r=>r
 | _,_,_+1,.nil=> .nil
 | _,_,n+1,.cons _ t=>jG.drop n t
noncomputable def abU:Option V->Option Value->Prop
 | some v,some u=>jP v u
 | none,none=>True
 | _,_=>False
noncomputable def KV {κ:Type}:List (κ × V)->List (κ × Value)->Prop:=Paired fun (p:κ × V) (q:κ × Value)=>p.1=q.1/\jP p.2 q.2
noncomputable def kV:Key->V
 | .inl i=> .int i
 | .inr x=> .str x
inductive HO where
 | lst (xs:List V)
 | tup (xs:List V)
 | dK (kvs:List (Key × V)) | dT (kvs:List (List Key × V))
 | set (S:Int->Bool) (n:Nat)
 | ins (C dx:Addr) (fs:List (Str × V))
 | own (x:Addr)
 | xd (fs:List (Str × V))
 | met (f x:Addr)
 | rng (lo hi:Int)
 | frz (o:Obj) (u:HO)
 | tbl (ps:Array Value)
 | ext (φ:Heap->Prop)
noncomputable abbrev Hp:=Addr->Option HO
noncomputable def upd (H:Hp) (a:Addr) (o:HO):Hp:=fun b=>if b=a then some o else H b
theorem jr {H:Hp}{a:Addr}{o:HO}:upd H a o a=some o:=by unfold upd; rw [if_pos rfl]
theorem jn {H:Hp}{a b:Addr}{o:HO} (h:b ≠ a):upd H a o b=H b:=by unfold upd; rw [if_neg h]
theorem Zv {H:Hp}{a:Addr}{o u:HO}:upd (upd H a o) a u=upd H a u:=by
 funext b; unfold upd; split <;> rfl
theorem aqP {H:Hp}{a b:Addr}{o u:HO} (h:H a=some o) (h':H b=some u) (d:o ≠ u):a ≠ b:=by
 intro e; subst e; rw [h] at h'; exact d (Option.some.inj h')
theorem qC {H:Hp}{a b:Addr}{o:HO} (h:H a=some o) (h':H b=none):a ≠ b:=by
 intro e; subst e; rw [h] at h'; cases h'
section
variable (P:Program) (w:World)
noncomputable def qt (H:Hp) (h:Heap) (a:Addr):HO->Prop
 | .lst xs=>xs.length<=sizeLine/\∃ (its:List Value) (n:Nat),jG xs its/\h.get? a=some { cls:= .type "list",data:= .seq its.toArray n }
 | .tup xs=>xs.length<=sizeLine/\∃ its:List Value,jG xs its/\IsTup h a its.toArray
 | .dK kvs=>kvs.length<=sizeLine/\(a == sysModules)=false/\∃ vs,KV kvs vs/\h.DictOf (j1 P w) a vs
 | .dT kvs=>kvs.length<=sizeLine/\(a == sysModules)=false/\∃ xs:List (List Key × Addr × Value),
   Paired (fun (p:List Key × V) (q:List Key × Addr × Value)=>p.1=q.1/\H q.2.1=some (.tup (p.1.map kV))/\jP p.2 q.2.2) kvs xs/\
   ∃ o es ep,h.get? a=some o/\o.ExactDict/\o.data= .dict es ep/\es.toList=xs.map (entryOfKey (tupleKind (j1 P w)))/\(xs.map (·.1)).Nodup
 | .set S n=>h.SetOf (intKind P w) a S n
 | .ins C dx fs=>H dx=some (.own a)/\fs.length<=1000/\dx ≠ a/\h.get? a=some (PySem.W.instObj C dx)/\
   ∃ mA,h.Ns1 dx mA/\(∀ f,abU (fs.lookup f) (mA f))/\PySem.Within mA (fs.map (·.1))
 | .own _=>∃ o,h.get? a=some o
 | .xd fs=>∃ mA,h.Ns1 a mA/\∀ f,abU (fs.lookup f) (mA f)
 | .rng lo hi=>∃ t u v,h.get? a=some { cls:= .type "range",data:= .fields #[.int lo t,.int hi u,.int 1 v] }
 | .frz o u=>h.get? a=some o/\qt H h a u
 | .tbl ps=>h.get? a=some { cls:= .none,data:= .fields ps }
 | .met f x=>h.get? a=some (PySem.W.methodObj (.ref f) (.ref x))
 | .ext φ=>φ h/\(∃ o,h.get? a=some o)/\∀ h1 h2:Heap,φ h1->(∀ o,h1.get? a=some o->h2.get? a=some o)->φ h2
noncomputable def HOk (H:Hp) (h:Heap):Prop:=∀ a o,H a=some o->qt P w H h a o
end
section
variable {P:Program}{w:World}{H H':Hp}{h h':Heap}{a:Addr}{o:HO}
theorem qt.lt (x:qt P w H h a o):a < h.objs.size:=by
 cases o with
 | lst xs=>obtain ⟨_,_,_,_,e⟩:=x; exact Heap.lt_size e
 | tup xs=>obtain ⟨_,_,_,p⟩:=x; exact p.lt
 | dK kvs=>obtain ⟨_,_,_,_,o,_,_,e,_⟩:=x; exact Heap.lt_size e
 | dT kvs=>obtain ⟨_,_,_,_,o,_,_,e,_⟩:=x; exact Heap.lt_size e
 | set S n=>obtain ⟨o,_,_,_,e,_⟩:=x; exact Heap.lt_size e
 | ins C dx fs=>obtain ⟨_,_,_,e,_⟩:=x; exact Heap.lt_size e
 | own y=>obtain ⟨_,e⟩:=x; exact Heap.lt_size e
 | xd fs=>obtain ⟨_,⟨_,_,_,e,_⟩,_⟩:=x; exact Heap.lt_size e
 | rng lo hi=>obtain ⟨_,_,_,e⟩:=x; exact Heap.lt_size e
 | frz ob u=>obtain ⟨e,_⟩:=x; exact Heap.lt_size e
 | tbl ps=>exact Heap.lt_size (show h.get? a=some _ from x)
 | met f y=>exact Heap.lt_size (show h.get? a=some _ from x)
 | ext φ=>obtain ⟨_,⟨_,e⟩,_⟩:=x; exact Heap.lt_size e
theorem Paired.mapP {α β:Type}{F G:α->β->Prop}:∀ {l₁:List α}{l₂:List β},Paired F l₁ l₂->(∀ a b,F a b->G a b)->Paired G l₁ l₂
 | _,_,.nil,_=> .nil
 | _,_,.cons r t,f=> .cons (f _ _ r) (Paired.mapP t f)
theorem qt.stay (x:qt P w H h a o) (k:∀ b u,(b=a ∨ H b=some (.own a))->h.get? b=some u->h'.get? b=some u)
  (ho:∀ b,H b=some (.own a)->H' b=some (.own a)) (ht:∀ b xs,H b=some (.tup xs)->H' b=some (.tup xs)):qt P w H' h' a o:=by
 induction o with
 | lst xs=>obtain ⟨z,its,n,r,e⟩:=x; exact ⟨z,its,n,r,k _ _ (.inl rfl) e⟩
 | tup xs=>obtain ⟨z,its,r,ob,e,c⟩:=x; exact ⟨z,its,r,ob,k _ _ (.inl rfl) e,c⟩
 | dK kvs=>obtain ⟨z,y,vs,r,ob,es,ep,e,c⟩:=x; exact ⟨z,y,vs,r,ob,es,ep,k _ _ (.inl rfl) e,c⟩
 | dT kvs=>
  obtain ⟨z,y,xs,r,ob,es,ep,e,c⟩:=x
  exact ⟨z,y,xs,Paired.mapP r fun p q z=>⟨z.1,ht _ _ z.2.1,z.2.2⟩,ob,es,ep,k _ _ (.inl rfl) e,c⟩
 | set S n=>obtain ⟨ob,es,ep,t,e,c⟩:=x; exact ⟨ob,es,ep,t,k _ _ (.inl rfl) e,c⟩
 | ins C dx fs=>
  obtain ⟨d,z,ne,e,mA,⟨od,es,ep,e2,c⟩,r⟩:=x
  exact ⟨ho _ d,z,ne,k _ _ (.inl rfl) e,mA,⟨od,es,ep,k _ _ (.inr d) e2,c⟩,r⟩
 | own y=>obtain ⟨ob,e⟩:=x; exact ⟨ob,k _ _ (.inl rfl) e⟩
 | xd fs=>obtain ⟨mA,⟨od,es,ep,e,c⟩,r⟩:=x; exact ⟨mA,⟨od,es,ep,k _ _ (.inl rfl) e,c⟩,r⟩
 | rng lo hi=>obtain ⟨t,u,v,e⟩:=x; exact ⟨t,u,v,k _ _ (.inl rfl) e⟩
 | frz ob u ih=>obtain ⟨e,q⟩:=x; exact ⟨k _ _ (.inl rfl) e,ih q⟩
 | tbl ps=>
  have e:h.get? a=some { cls:= .none,data:= .fields ps }:=x
  show h'.get? a=some { cls:= .none,data:= .fields ps }
  exact k a _ (.inl rfl) e
 | met f y=>
  have e:h.get? a=some (PySem.W.methodObj (.ref f) (.ref y)):=x
  show h'.get? a=some (PySem.W.methodObj (.ref f) (.ref y))
  exact k a _ (.inl rfl) e
 | ext φ=>obtain ⟨p,⟨o,e⟩,st⟩:=x; exact ⟨st _ _ p fun o q=>k _ _ (.inl rfl) q,⟨o,k _ _ (.inl rfl) e⟩,st⟩
theorem HOk.lt (x:HOk P w H h) (e:H a=some o):a < h.objs.size:=(x a o e).lt
theorem HOk.fresh (x:HOk P w H h) (e:h.objs.size<=a):H a=none:=by
 cases q:H a with
 | none=>rfl
 | some u=>exact absurd (Nat.lt_of_lt_of_le (x.lt q) e) (Nat.lt_irrefl _)
theorem HOk.kept (x:HOk P w H h) (k:∀ b u,h.get? b=some u->h'.get? b=some u):HOk P w H h':=fun a o e=>
 (x a o e).stay (fun b u _ q=>k b u q) (fun _ q=>q) fun _ _ q=>q
theorem HOk.laid (x:HOk P w H h) (k:∀ b u,h.get? b=some u->h'.get? b=some u) (hp:h.objs.size<=a) (new:qt P w (upd H a o) h' a o):HOk P w (upd H a o) h':=fun b u e=>by
 have hn:=x.fresh hp
 by_cases hb:b=a
 ·subst hb; rw [jr] at e; cases e; exact new
 ·rw [jn hb] at e
  exact (x b u e).stay (fun c v _ q=>k c v q) (fun c q=>by rw [jn (qC q hn)]; exact q) fun c xs q=>by rw [jn (qC q hn)]; exact q
end
noncomputable def Rd (H:Hp) (a:Addr) (u:HO):Prop:=H a=some u ∨ ∃ o,H a=some (.frz o u)
theorem Rd.of {H:Hp}{a:Addr}{u:HO} (h:H a=some u):Rd H a u:= .inl h
theorem Rd.ok {P:Program}{w:World}{H:Hp}{h:Heap}{a:Addr}{u:HO} (r:Rd H a u) (x:HOk P w H h):qt P w H h a u:=by
 rcases r with r | ⟨o,r⟩
 ·exact x a u r
 ·obtain ⟨_,q⟩:=x a _ r
  exact q
noncomputable def Mut:Option HO->Prop
 | some (.lst _)=>True
 | some (.dK _)=>True
 | some (.dT _)=>True
 | some (.set _ _)=>True
 | some (.ins _ _ _)=>True
 | some (.ext _)=>True
 | _=>False
section
variable {P:Program}{w:World}{H:Hp}{h h':Heap}{x e:Addr}{o':HO}
theorem HOk.write (ok:HOk P w H h) (mu:Mut (H x)) (he:e=x ∨ H e=some (.own x)) (k:∀ b u,b ≠ e->h.get? b=some u->h'.get? b=some u) (heo:∃ u,h'.get? e=some u)
  (new:qt P w (upd H x o') h' x o'):HOk P w (upd H x o') h':=fun b u q=>by
 have nown:∀ c y,H c=some (.own y)->c ≠ x:=fun c y r z=>by subst z; rw [r] at mu; exact mu
 have ntup:∀ c xs,H c=some (.tup xs)->c ≠ x:=fun c xs r z=>by subst z; rw [r] at mu; exact mu
 by_cases hb:b=x
 ·subst hb; rw [jr] at q; cases q; exact new
 ·rw [jn hb] at q
  by_cases hbe:b=e
  ·have q':H b=some (.own x):=by
    rcases he with z | z
    ·exact absurd (hbe.trans z) hb
    ·rw [hbe]; exact z
   rw [q] at q'; cases q'
   obtain ⟨v,hv⟩:=heo
   exact ⟨v,by rw [hbe]; exact hv⟩
  ·refine (ok b u q).stay (fun c v hc r=>k c v ?_ r) (fun c r=>by rw [jn (nown c b r)]; exact r) fun c xs r=>by rw [jn (ntup c xs r)]; exact r
   rcases hc with rfl | hc
   ·exact hbe
   ·rintro rfl
    rcases he with z | z
    ·exact nown c b hc z
    ·rw [hc] at z; cases z; exact hb rfl
end
structure Un (fs ex:List Addr) (H H':Hp) (h h':Heap):Prop where
 keep:∀ b o,h.get? b=some o->H b=none->b ∉ fs->b ∉ ex->h'.get? b=some o
 slot:∀ b o,h.get? b=some o->H b=none->b ∈ fs->b ∉ ex->∃ sl,h'.get? b=some { o with slots:=sl }
 free:∀ b o,h.get? b=some o->H b=none->b ∉ ex->H' b=none
 there:∀ b o,h.get? b=some o->b ∉ ex->∃ o',h'.get? b=some o'
 tups:∀ b xs,H b=some (.tup xs)->H' b=some (.tup xs)
 frzs:∀ b o u,H b=some (.frz o u)->H' b=some (.frz o u)
 tbls:∀ b ps,H b=some (.tbl ps)->∃ more,H' b=some (.tbl (ps++more))
section
variable {fs fs' ex ex':List Addr}{H H1 H2:Hp}{h h1 h2 h':Heap}{a x e:Addr}{o:HO}
theorem Un.any (u:Un fs ex H H1 h h1) {b:Addr}{ob:Obj} (q:h.get? b=some ob) (n:H b=none) (hx:b ∉ ex):∃ sl,h1.get? b=some { ob with slots:=sl }:=by
 by_cases hb:b ∈ fs
 ·exact u.slot b ob q n hb hx
 ·exact ⟨ob.slots,u.keep b ob q n hb hx⟩
theorem Un.trans (a:Un fs ex H H1 h h1) (b:Un fs ex H1 H2 h1 h2):Un fs ex H H2 h h2 where
 keep:=fun c ob q n hc hx=>b.keep c ob (a.keep c ob q n hc hx) (a.free c ob q n hx) hc hx
 slot:=fun c ob q n hc hx=>by
  obtain ⟨sl,e1⟩:=a.slot c ob q n hc hx
  obtain ⟨sl',e2⟩:=b.slot c _ e1 (a.free c ob q n hx) hc hx
  exact ⟨sl',e2⟩
 free:=fun c ob q n hx=>by
  obtain ⟨o',e1⟩:=a.there c ob q hx
  exact b.free c o' e1 (a.free c ob q n hx) hx
 there:=fun c ob q hx=>by
  obtain ⟨o',e1⟩:=a.there c ob q hx
  exact b.there c o' e1 hx
 tups:=fun c xs q=>b.tups c xs (a.tups c xs q)
 frzs:=fun c ob xs q=>b.frzs c ob xs (a.frzs c ob xs q)
 tbls:=fun c ps q=>by
  obtain ⟨m1,e1⟩:=a.tbls c ps q
  obtain ⟨m2,e2⟩:=b.tbls c _ e1
  exact ⟨m1++m2,by rw [e2,Array.append_assoc]⟩
theorem Un.kept (k:∀ b u,h.get? b=some u->h'.get? b=some u):Un fs ex H H h h':=
 ⟨fun b ob q _ _ _=>k b ob q,fun b ob q _ _ _=>⟨ob.slots,k b ob q⟩,fun _ _ _ n _=>n,fun b ob q _=>⟨ob,k b ob q⟩,fun _ _ q=>q,fun _ _ _ q=>q,fun _ ps q=>⟨#[],by rw [q]; simp⟩⟩
theorem Un.refl:Un fs ex H H h h:=Un.kept fun _ _ q=>q
theorem Un.laid (k:∀ b u,h.get? b=some u->h'.get? b=some u) (hp:h.objs.size<=a) (hn:H a=none):Un fs ex H (upd H a o) h h' where
 keep:=fun b u q _ _ _=>k b u q
 slot:=fun b u q _ _ _=>⟨u.slots,k b u q⟩
 free:=fun b u q n _=>by rw [jn (Nat.ne_of_lt (Nat.lt_of_lt_of_le (Heap.lt_size q) hp))]; exact n
 there:=fun b u q _=>⟨u,k b u q⟩
 tups:=fun b xs q=>by rw [jn (qC q hn)]; exact q
 frzs:=fun b u xs q=>by rw [jn (qC q hn)]; exact q
 tbls:=fun b ps q=>⟨#[],by rw [jn (qC q hn),q]; simp⟩
theorem Un.write (mu:Mut (H x)) (he:e=x ∨ H e=some (.own x)) (k:∀ b u,b ≠ e->h.get? b=some u->h'.get? b=some u) (heo:∃ u,h'.get? e=some u):Un fs ex H (upd H x o) h h':=by
 have hx:∀ b,H b=none->b ≠ x:=fun b n z=>by subst z; rw [n] at mu; exact mu
 have hb:∀ b,H b=none->b ≠ e:=fun b n z=>by
  subst z
  rcases he with r | r
  ·exact hx b n r
  ·rw [n] at r; cases r
 have hm:∀ b u,H b=some u->¬ Mut (some u)->b ≠ x:=fun b u q nm z=>by subst z; rw [q] at mu; exact nm mu
 refine ⟨fun b u q n _ _=>k b u (hb b n) q,fun b u q n _ _=>⟨u.slots,k b u (hb b n) q⟩,fun b u q n _=>by rw [jn (hx b n)]; exact n,fun b u q _=>?_,
  fun b xs q=>by rw [jn (hm b _ q fun z=>z)]; exact q,fun b u xs q=>by rw [jn (hm b _ q fun z=>z)]; exact q,fun b ps q=>⟨#[],by rw [jn (hm b _ q fun z=>z),q]; simp⟩⟩
 by_cases hbe:b=e
 ·subst hbe; exact heo
 ·exact ⟨u,k b u hbe q⟩
theorem Un.mono (u:Un fs ex H H1 h h1) (hs:∀ b ∈ fs,b ∈ fs') (hx:∀ b ∈ ex,b ∈ ex'):Un fs' ex' H H1 h h1:=
 ⟨fun b ob q n hb he=>u.keep b ob q n (fun z=>hb (hs b z)) fun z=>he (hx b z),fun _ _ q n _ he=>u.any q n fun z=>he (hx _ z),fun b ob q n he=>u.free b ob q n fun z=>he (hx b z),fun b ob q he=>u.there b ob q fun z=>he (hx b z),u.tups,u.frzs,u.tbls⟩
end
noncomputable def trk (h:Heap) (H:Hp):List Addr:=(List.range h.objs.size).filter fun a=>(H a).isSome
noncomputable def aeB (h:Heap) (H:Hp):Heap:=PySem.W.hideAll h (trk h H)
theorem ajq (h:Heap) (H:Hp):(aeB h H).objs.size=h.objs.size:=PySem.W.hideAll_size _ _
theorem akM {h:Heap}{H:Hp}{b:Addr}{o:Obj} (e:h.get? b=some o) (n:H b=none):(aeB h H).get? b=some o:=
 PySem.W.hideAll_get _ e fun hm=>by
  have q:(H b).isSome=true:=(List.mem_filter.mp hm).2
  rw [n] at q; simp at q
theorem ana {h:Heap}{H:Hp}{b:Addr}{o:Obj} (e:(aeB h H).get? b=some o):h.get? b=some o/\H b=none:=by
 have e':h.get? b=some o:=PySem.W.of_hideAll (trk h H) e
 refine ⟨e',?_⟩
 cases q:H b with
 | none=>rfl
 | some x=>
  have hm:b ∈ trk h H:=List.mem_filter.mpr ⟨List.mem_range.mpr (Heap.lt_size e'),by simp [q]⟩
  have z:(aeB h H).get? b=none:=PySem.W.hideAll_none (trk h H) hm
  rw [z] at e; cases e
noncomputable def JI (g h:Heap) (L:Addr):List (Addr × Obj):=(List.range h.objs.size).filterMap fun a=>if a=L ∨ (g.get? a).isSome=true then none else (h.get? a).map fun o=>(a,o)
theorem abF {g h:Heap}{L a:Addr}{o:Obj} (h1:a ≠ L) (h2:g.get? a=none) (h3:h.get? a=some o):(a,o) ∈ JI g h L:=
 List.mem_filterMap.mpr ⟨a,List.mem_range.mpr (Heap.lt_size h3),by simp [h1,h2,h3]⟩
theorem acr {g h:Heap}{L:Addr}{p:Addr × Obj} (hp:p ∈ JI g h L):p.1 ≠ L/\g.get? p.1=none/\h.get? p.1=some p.2:=by
 obtain ⟨b,_,e⟩:=List.mem_filterMap.mp hp
 split at e
 ·cases e
 ·rename_i hn
  cases q:h.get? b with
  | none=>rw [q] at e; simp at e
  | some u=>
   rw [q] at e
   simp only [zzE,Option.some.injEq] at e
   subst e
   refine ⟨fun z=>hn (.inl z),?_,q⟩
   show g.get? b=none
   cases r:g.get? b with
   | none=>rfl
   | some v=>exact (hn (.inr (by simp [r]))).elim
noncomputable def j5 (g h:Heap) (L d:Addr):List (Addr × Obj):=(JI g h L).filter fun p=>decide (p.1 ≠ d)
theorem akN {g h:Heap}{L:Addr}:News g L h (JI g h L):=fun p hp=>let ⟨a,b,c⟩:=acr hp; ⟨c,a,b⟩
end L2
namespace L2
open PySem PySem.Spec PyProof.Rows
structure Mod (K:PySem.W.Frag) (mg:Str->Option Value) (base:Heap):Prop where
 kin:K.In base
 glob:base.Ns mainGlobals mg
 blt:∃ mb,base.Ns builtinsNs mb/\∀ x:Str,x ≠ "__name__"->mb x=bootBuiltins x
 nolimit:base.NoLimit
structure Cx where
 prog:Program
 w:World
 K:PySem.W.Frag
 mg:Str->Option Value
 base:Heap
 A:Around
 N:List Str
 s₀:Shared
 H₀:Hp
 env:Env
 outer:List Env
 stack:List Env
 ex:List Addr
 fn:Str->Bool
 calm:Bool
 pn:List (Addr × Obj)
 xe:Value->Shared->Prop
noncomputable def frs (l:List Env):List Addr:=l.filterMap (·.frame)
noncomputable abbrev Cx.fs (X:Cx):List Addr:=frs X.outer
noncomputable def Vis (sc:Scope) (x:Str):Prop:=sc.names.lookup x=some .local ∨ sc.names.lookup x=some .cell ∨ sc.names.lookup x=some .free
noncomputable def Loc (sc:Scope) (x:Str):Prop:=sc.names.lookup x=some .local ∨ sc.names.lookup x=some .cell
noncomputable def arQ (env:Env) (h:Heap) (m:Str->Option Value) (x:Str) (u:Value):Prop:=
 (env.kindOf x=some .local/\m x=some u) ∨ ((env.kindOf x=some .cell ∨ env.kindOf x=some .free)/\∃ c,env.cells.lookup x=some c/\h.IsCell c (some u))
structure Cx.Ok (X:Cx):Prop where
 mod:Mod X.K X.mg X.base
 kind:X.env.scope.kind= .function
 glob:X.env.globals=mainGlobals
 blt:X.env.builtins=builtinsNs
 above:X.s₀.heap.objs.size<=X.env.locals
 inj:∀ x y c,X.env.cells.lookup x=some c->X.env.cells.lookup y=some c->x=y
 has:∀ x,(X.env.kindOf x=some .cell ∨ X.env.kindOf x=some .free)->∃ c,X.env.cells.lookup x=some c
 cab:∀ x c,X.fn x=true->X.env.cells.lookup x=some c->X.s₀.heap.objs.size<=c
 hd:X.calm=true->X.A.handled=none
 frames:X.A.frames=some X.stack
 stk:X.stack=X.outer ∨ (X.stack=X.env::X.outer/\X.env.frame=some X.env.locals)
 exf:∀ b ∈ X.ex,b ≠ X.env.locals/\∀ x c,X.env.cells.lookup x=some c->c ≠ b
 bs:∀ b o,X.base.get? b=some o->X.s₀.heap.get? b=some o/\X.H₀ b=none
 bsz:X.base.objs.size<=X.s₀.heap.objs.size
 noex:∀ b o,X.base.get? b=some o->b ∉ X.ex
 exfs:∀ b ∈ X.ex,b ∉ X.fs
 funs:X.s₀.heap.FunFrames X.base X.outer
 frf:∀ b ∈ X.fs,X.H₀ b=none
structure Inv (X:Cx) (pins:List (Addr × Obj)) (σ:List (Option V)) (H:Hp) (s:Shared):Prop where
 ok:X.Ok
 os:s.os=X.s₀.os
 bare:AllBare s.gens
 base:Un X.fs X.ex X.H₀ H X.s₀.heap s.heap
 loc:∃ m,s.heap.Ns X.env.locals m/\∀ (i:Nat) (x:Str) (v:V),X.N[i]?=some x->σ[i]?=some (some v)->Vis X.env.scope x->∃ u,jP v u/\arQ X.env s.heap m x u
 cell:∀ x c,X.env.cells.lookup x=some c->∃ v,s.heap.IsCell c v
 free:H X.env.locals=none
 freeC:∀ x c,X.env.cells.lookup x=some c->H c=none
 pin:∀ p ∈ X.pn++pins,s.heap.get? p.1=some p.2/\H p.1=none/\p.1 ≠ X.env.locals/\p.1 ∉ X.fs/\∀ v,p.2.data ≠ .cell v
 hok:HOk X.prog X.w H s.heap
 len:σ.length=X.N.length
section
variable {X:Cx}{pins:List (Addr × Obj)}{σ:List (Option V)}{H H':Hp}{s:Shared}{h':Heap}
theorem Cx.Ok.nofr (ok:X.Ok) {b:Addr}{o:Obj} (e:X.base.get? b=some o):b ∉ X.fs:=fun hb=>by
 have:=(ok.funs.mem hb).1
 rw [e] at this; cases this
theorem Inv.bs (I:Inv X pins σ H s):∀ b o,X.base.get? b=some o->s.heap.get? b=some o/\H b=none:=fun b o e=>
 ⟨I.base.keep b o (I.ok.bs b o e).1 (I.ok.bs b o e).2 (I.ok.nofr e) (I.ok.noex b o e),I.base.free b o (I.ok.bs b o e).1 (I.ok.bs b o e).2 (I.ok.noex b o e)⟩
theorem Inv.bk (I:Inv X pins σ H s):∀ b o,X.base.get? b=some o->s.heap.get? b=some o:=fun b o e=>(I.bs b o e).1
theorem Inv.mod (I:Inv X pins σ H s):Mod X.K X.mg X.base:=I.ok.mod
theorem Inv.kIn (I:Inv X pins σ H s):X.K.In s.heap:=I.ok.mod.kin.keeps I.bk
theorem Inv.nolimit (I:Inv X pins σ H s):s.heap.NoLimit:=I.ok.mod.nolimit.keeps I.bk
theorem Inv.fr (I:Inv X pins σ H s):∃ m,Fr X.base X.env.locals s.heap m:=
 let ⟨m,hn,_⟩:=I.loc
 ⟨m,hn,I.bk,Nat.le_trans I.ok.bsz I.ok.above⟩
theorem Inv.lt (I:Inv X pins σ H s):X.env.locals < s.heap.objs.size:=let ⟨_,hn,_⟩:=I.loc; hn.lt
theorem Inv.sz (I:Inv X pins σ H s):X.s₀.heap.objs.size<=s.heap.objs.size:=Nat.le_trans I.ok.above (Nat.le_of_lt I.lt)
theorem Inv.nofs (I:Inv X pins σ H s) {a:Addr} (h:s.heap.objs.size<=a):a ∉ X.fs:=fun hb=>by
 obtain ⟨_,o,ho,_⟩:=I.ok.funs.mem hb
 exact absurd (Nat.lt_of_lt_of_le (Heap.lt_size ho) (Nat.le_trans I.sz h)) (Nat.lt_irrefl _)
theorem Inv.cne (I:Inv X pins σ H s):∀ x c,X.env.cells.lookup x=some c->c ≠ X.env.locals:=fun x c e z=>by
 obtain ⟨v,o,ho,hd⟩:=I.cell x c e
 obtain ⟨m,⟨o',es,ep,ho',hd',_⟩,_⟩:=I.loc
 rw [z,ho'] at ho; cases ho; rw [hd'] at hd; cases hd
theorem Inv.funs (I:Inv X pins σ H s):s.heap.FunFrames X.base X.outer:=by
 have all:∀ (l:List Env),(∀ b ∈ frs l,b ∈ X.fs)->X.s₀.heap.FunFrames X.base l->s.heap.FunFrames X.base l:=by
  intro l
  induction l with
  | nil=>intro _ _; trivial
  | cons env r ih=>
   intro hs hl
   obtain ⟨hk,⟨L,o,hf,hn,ho,hd⟩,hr⟩:=hl
   have hL:L ∈ X.fs:=hs L (by unfold frs; rw [List.filterMap_cons,hf]; exact List.mem_cons_self)
   obtain ⟨sl,e⟩:=I.base.slot L o ho (I.ok.frf L hL) hL fun z=>I.ok.exfs L z hL
   exact ⟨hk,⟨L,_,hf,hn,e,hd⟩,ih (fun b hb=>hs b (by unfold frs; rw [List.filterMap_cons,hf]; exact List.mem_cons_of_mem _ hb)) hr⟩
 exact all X.outer (fun _ hb=>hb) I.ok.funs
theorem Inv.stack (I:Inv X pins σ H s):s.heap.FunFrames X.base X.stack:=by
 rcases I.ok.stk with e | ⟨e,hf⟩
 ·rw [e]; exact I.funs
 ·rw [e]
  obtain ⟨m,hn,_⟩:=I.loc
  refine .cons (by rw [I.ok.kind]; decide) hf hn ?_ I.funs
  exact Heap.get?_none_of_le (Nat.le_trans I.ok.bsz I.ok.above)
theorem Inv.stkSub (I:Inv X pins σ H s):∀ b ∈ frs X.stack,b ∈ X.env.locals::X.fs:=fun b hb=>by
 rcases I.ok.stk with e | ⟨e,hf⟩
 ·rw [e] at hb; exact List.mem_cons_of_mem _ hb
 ·rw [e] at hb
  unfold frs at hb
  rw [List.filterMap_cons,hf] at hb
  exact hb
theorem Inv.stkFree (I:Inv X pins σ H s):∀ b ∈ frs X.stack,H b=none:=fun b hb=>by
 rcases List.mem_cons.mp (I.stkSub b hb) with e | hb
 ·rw [e]; exact I.free
 ·obtain ⟨_,o,ho,_⟩:=I.ok.funs.mem hb
  exact I.base.free b o ho (I.ok.frf b hb) fun z=>I.ok.exfs b z hb
theorem Inv.step {g':Array GenState}{t':Nat}{d':Drawn}{ch:List Addr} (I:Inv X pins σ H s)
  (hch:∀ b ∈ ch,(b ∈ X.ex ∨ X.s₀.heap.objs.size<=b)/\b ≠ X.env.locals/\(∀ x c,X.env.cells.lookup x=some c->c ≠ b)/\∀ p ∈ X.pn++pins,p.1 ≠ b)
  (keep:∀ b o,b ≠ X.env.locals->b ∉ X.fs->b ∉ ch->s.heap.get? b=some o->H b=none->h'.get? b=some o)
  (slot:∀ b o,b ≠ X.env.locals->b ∈ X.fs->b ∉ ch->s.heap.get? b=some o->H b=none->∃ sl,h'.get? b=some { o with slots:=sl }) (free:∀ b o,b ∉ ch->s.heap.get? b=some o->H b=none->H' b=none)
  (there:∀ b o,b ∉ ch->s.heap.get? b=some o->∃ o',h'.get? b=some o')
  (tups:∀ b xs,H b=some (.tup xs)->H' b=some (.tup xs)) (frzs:∀ b o u,H b=some (.frz o u)->H' b=some (.frz o u)) (tbls:∀ b ps,H b=some (.tbl ps)->∃ more,H' b=some (.tbl (ps++more)))
  (ns:∀ m,s.heap.Ns X.env.locals m->h'.Ns X.env.locals m) (hok:HOk X.prog X.w H' h') (hg:AllBare g'):
  Inv X pins σ H' { s with heap:=h',gens:=g',drawn:=d',toks:=t' }:=by
 have neL:∀ b o,X.s₀.heap.get? b=some o->b ≠ X.env.locals:=fun b o e=>Nat.ne_of_lt (Nat.lt_of_lt_of_le (Heap.lt_size e) I.ok.above)
 have neC:∀ b o,X.s₀.heap.get? b=some o->b ∉ X.ex->b ∉ ch:=fun b o e hx hb=>by
  rcases (hch b hb).1 with z | z
  ·exact hx z
  ·exact absurd (Nat.lt_of_lt_of_le (Heap.lt_size e) z) (Nat.lt_irrefl _)
 have cellK:∀ x c,X.env.cells.lookup x=some c->∀ v,s.heap.IsCell c v->h'.IsCell c v:=fun x c e v ⟨o,ho,hd⟩=>by
  have nch:c ∉ ch:=fun z=>(hch c z).2.2.1 x c e rfl
  by_cases hc:c ∈ X.fs
  ·obtain ⟨sl,q⟩:=slot c o (I.cne x c e) hc nch ho (I.freeC x c e)
   exact ⟨_,q,hd⟩
  ·exact ⟨o,keep c o (I.cne x c e) hc nch ho (I.freeC x c e),hd⟩
 refine ⟨I.ok,I.os,hg,⟨fun b o e n hb hx=>?_,fun b o e n hb hx=>?_,fun b o e n hx=>?_,fun b o e hx=>?_,fun b xs e=>tups b xs (I.base.tups b xs e),fun b o xs e=>frzs b o xs (I.base.frzs b o xs e),fun b ps e=>?_⟩,?_,fun x c e=>?_,?_,fun x c e=>?_,fun p hp=>?_,hok,I.len⟩
 ·exact keep b o (neL b o e) hb (neC b o e hx) (I.base.keep b o e n hb hx) (I.base.free b o e n hx)
 ·obtain ⟨sl,e1⟩:=I.base.slot b o e n hb hx
  obtain ⟨sl',e2⟩:=slot b _ (neL b o e) hb (neC b o e hx) e1 (I.base.free b o e n hx)
  exact ⟨sl',e2⟩
 ·obtain ⟨o',e1⟩:=I.base.there b o e hx
  exact free b o' (neC b o e hx) e1 (I.base.free b o e n hx)
 ·obtain ⟨o',e1⟩:=I.base.there b o e hx
  exact there b o' (neC b o e hx) e1
 ·obtain ⟨m1,e1⟩:=I.base.tbls b ps e
  obtain ⟨m2,e2⟩:=tbls b _ e1
  exact ⟨m1++m2,by rw [e2,Array.append_assoc]⟩
 ·obtain ⟨m,hn,hl⟩:=I.loc
  refine ⟨m,ns m hn,fun i x v e1 e2 e3=>?_⟩
  obtain ⟨u,r,l⟩:=hl i x v e1 e2 e3
  refine ⟨u,r,?_⟩
  rcases l with l | ⟨k,c,e,z⟩
  ·exact .inl l
  ·exact .inr ⟨k,c,e,cellK x c e _ z⟩
 ·obtain ⟨v,z⟩:=I.cell x c e
  exact ⟨v,cellK x c e v z⟩
 ·obtain ⟨m,⟨o,_,_,ho,_⟩,_⟩:=I.loc
  exact free _ o (fun z=>(hch _ z).2.1 rfl) ho I.free
 ·obtain ⟨v,o,ho,hd⟩:=I.cell x c e
  exact free c o (fun z=>(hch c z).2.2.1 x c e rfl) ho (I.freeC x c e)
 ·obtain ⟨e,n,ne,nf,d⟩:=I.pin p hp
  have nch:p.1 ∉ ch:=fun z=>(hch p.1 z).2.2.2 p hp rfl
  exact ⟨keep p.1 p.2 ne nf nch e n,free p.1 p.2 nch e n,ne,nf,d⟩
theorem Inv.un {t':Nat} (I:Inv X pins σ H s) (u:Un X.fs [] H H' s.heap h') (hok:HOk X.prog X.w H' h'):Inv X pins σ H' { s with heap:=h',toks:=t' }:=by
 obtain ⟨m,⟨o,es,ep,ho,r⟩,_⟩:=id I.loc
 obtain ⟨sl,hL⟩:=u.any ho I.free (by simp)
 exact I.step (g':=s.gens) (d':=s.drawn) (ch:=[]) (fun _ z=>nomatch z) (fun b o _ hb _ e n=>u.keep b o e n hb (by simp)) (fun b o _ hb _ e n=>u.slot b o e n hb (by simp)) (fun b o _ e n=>u.free b o e n (by simp)) (fun b o _ e=>u.there b o e (by simp)) u.tups u.frzs u.tbls (fun m' hm=>by
  obtain ⟨o',es',ep',ho',r'⟩:=hm
  rw [ho] at ho'; cases ho'
  exact ⟨_,es',ep',hL,r'⟩) hok I.bare
theorem Inv.call {g':Array GenState}{t':Nat}{d':Drawn}{ch:List Addr} (I:Inv X pins σ H s) (u:Un (frs X.stack) ch H H' s.heap h') (hok:HOk X.prog X.w H' h') (hg:AllBare g')
  (hch:∀ b ∈ ch,(b ∈ X.ex ∨ X.s₀.heap.objs.size<=b)/\b ≠ X.env.locals/\(∀ x c,X.env.cells.lookup x=some c->c ≠ b)/\∀ p ∈ X.pn++pins,p.1 ≠ b):
  Inv X pins σ H' { s with heap:=h',gens:=g',drawn:=d',toks:=t' }:=by
 obtain ⟨m,⟨o,es,ep,ho,r⟩,_⟩:=id I.loc
 obtain ⟨sl,hL⟩:=u.any ho I.free fun z=>(hch _ z).2.1 rfl
 exact I.step (ch:=ch) hch (fun b o hL hb hc e n=>u.keep b o e n (fun z=>(List.mem_cons.mp (I.stkSub b z)).elim hL hb) hc) (fun b o _ _ hc e n=>u.any e n hc) (fun b o hc e n=>u.free b o e n hc) (fun b o hc e=>u.there b o e hc) u.tups u.frzs u.tbls (fun m' hm=>by
  obtain ⟨o',es',ep',ho',r'⟩:=hm
  rw [ho] at ho'; cases ho'
  exact ⟨_,es',ep',hL,r'⟩) hok hg
theorem Inv.turned {t':Nat}{it:Addr} (I:Inv X pins σ H s) (k:∀ b o,b ≠ it->s.heap.get? b=some o->h'.get? b=some o) (hn:H it=none) (hL:it ≠ X.env.locals)
  (h1:it ∈ X.ex ∨ X.s₀.heap.objs.size<=it) (h2:∀ x c,X.env.cells.lookup x=some c->c ≠ it) (h3:∀ p ∈ X.pn++pins,p.1 ≠ it):Inv X pins σ H { s with heap:=h',toks:=t' }:=by
 have nit:∀ b u,H b=some u->b ≠ it:=fun b u e z=>by rw [z,hn] at e; cases e
 refine I.step (g':=s.gens) (d':=s.drawn) (ch:=[it]) (fun b hb=>?_) (fun b o _ _ hc e _=>k b o (fun z=>hc (by simp [z])) e) (fun b o _ _ hc e _=>⟨o.slots,k b o (fun z=>hc (by simp [z])) e⟩) (fun _ _ _ _ n=>n)
  (fun b o hc e=>⟨o,k b o (fun z=>hc (by simp [z])) e⟩) (fun _ _ e=>e) (fun _ _ _ e=>e) (fun b ps e=>⟨#[],by rw [e]; simp⟩) (fun m hm=>?_) (fun b u e=>?_) I.bare
 ·have e:b=it:=by simpa using hb
  subst e
  exact ⟨h1,hL,h2,h3⟩
 ·obtain ⟨o,es,ep,ho,r⟩:=hm
  exact ⟨o,es,ep,k _ o (Ne.symm hL) ho,r⟩
 ·refine (I.hok b u e).stay (fun c v hc q=>k c v ?_ q) (fun _ q=>q) fun _ _ q=>q
  rcases hc with z | z
  ·rw [z]; exact nit b u e
  ·exact nit c _ z
theorem Inv.tok (I:Inv X pins σ H s) (t:Nat):Inv X pins σ H { s with toks:=t }:=I.un (h':=s.heap) (t':=t) Un.refl I.hok
theorem Inv.kept {t':Nat} (I:Inv X pins σ H s) (k:∀ b u,s.heap.get? b=some u->h'.get? b=some u):Inv X pins σ H { s with heap:=h',toks:=t' }:=I.un (Un.kept k) (I.hok.kept k)
theorem Inv.laid {a:Addr}{o:HO}{t':Nat} (I:Inv X pins σ H s) (k:∀ b u,s.heap.get? b=some u->h'.get? b=some u) (hp:s.heap.objs.size<=a) (new:qt X.prog X.w (upd H a o) h' a o):
  Inv X pins σ (upd H a o) { s with heap:=h',toks:=t' }:=I.un (Un.laid k hp (I.hok.fresh hp)) (I.hok.laid k hp new)
theorem Inv.write {x e:Addr}{o:HO}{t':Nat} (I:Inv X pins σ H s) (mu:Mut (H x)) (he:e=x ∨ H e=some (.own x)) (k:∀ b u,b ≠ e->s.heap.get? b=some u->h'.get? b=some u) (heo:∃ u,h'.get? e=some u)
  (new:qt X.prog X.w (upd H x o) h' x o):Inv X pins σ (upd H x o) { s with heap:=h',toks:=t' }:=I.un (Un.write mu he k heo) (I.hok.write mu he k heo new)
theorem Inv.pins_of {pins':List (Addr × Obj)} (I:Inv X pins σ H s) (h:∀ p ∈ pins',s.heap.get? p.1=some p.2/\H p.1=none/\p.1 ≠ X.env.locals/\p.1 ∉ X.fs/\∀ v,p.2.data ≠ .cell v):Inv X pins' σ H s:=
 ⟨I.ok,I.os,I.bare,I.base,I.loc,I.cell,I.free,I.freeC,fun p hp=>(List.mem_append.mp hp).elim (fun z=>I.pin p (List.mem_append_left _ z)) (h p),I.hok,I.len⟩
theorem afR {N:List Str} (hN:N.Nodup) {i j:Nat}{x:Str} (a:N[i]?=some x) (b:N[j]?=some x):i=j:=by
 obtain ⟨h1,e1⟩:=List.getElem?_eq_some_iff.mp a
 obtain ⟨h2,e2⟩:=List.getElem?_eq_some_iff.mp b
 exact (List.getElem_inj hN).mp (e1.trans e2.symm)
theorem adN {M:Model}{A:Around}{E:Value->Shared->Prop}{i:Nat}{x:Str}{v:V}{u:Value}{Q:Unit->Shared->Prop} (I:Inv X pins σ H s) (hN:X.N.Nodup) (hi:X.N[i]?=some x) (hx:Loc X.env.scope x) (r:jP v u)
  (h:∀ s',Inv X pins (σ.set i (some v)) H s'->(∃ a,Heap.SameBut a s.heap s'.heap/\(a=X.env.locals ∨ X.env.cells.lookup x=some a))->Q () s') (hf:X.fn x=true ∨ X.env.scope.names.lookup x=some .local:=by first | exact .inl rfl | exact .inr rfl | assumption):wpAny M A (storeName X.env x u) Q E s:=by
 obtain ⟨m,hn,hl⟩:=id I.loc
 have hcls:(X.env.scope.kind == .class || (X.env.scope.kind == .module && X.env.locals != X.env.globals))=false:=by rw [I.ok.kind]; rfl
 have hiσ:i < σ.length:=by rw [I.len]; exact (List.getElem?_eq_some_iff.mp hi).1
 have cne:=I.cne
 have tracked:∀ {a:Addr} {h':Heap},(∃ o,s.heap.get? a=some o/\H a=none)->Heap.SameBut a s.heap h'->HOk X.prog X.w H h':=fun {a h'} ha hs b ob e=>by
  obtain ⟨_,_,hfree⟩:=ha
  refine (I.hok b ob e).stay (fun c w' hc q=>(hs.2 c ?_).trans q) (fun _ q=>q) fun _ _ q=>q
  rintro rfl
  rcases hc with rfl | hc
  ·rw [hfree] at e; cases e
  ·rw [hfree] at hc; cases hc
 rcases hx with hk | hk
 ·refine wpAny_storeName_local hk hn (fun h' hn' hs=>?_) hcls
  obtain ⟨oL,_,_,hoL,_⟩:=id hn
  refine h _ ⟨I.ok,I.os,I.bare,⟨fun b o e n hb hx=>?_,fun b o e n hb hx=>?_,I.base.free,fun b o e hx=>?_,I.base.tups,I.base.frzs,I.base.tbls⟩,⟨_,hn',fun j y v' e1 e2 e3=>?_⟩,fun y c e=>?_,I.free,I.freeC,fun p hp=>?_,tracked ⟨oL,hoL,I.free⟩ hs,by simpa using I.len⟩ ⟨_,hs,.inl rfl⟩
  ·exact (hs.2 b (Nat.ne_of_lt (Nat.lt_of_lt_of_le (Heap.lt_size e) I.ok.above))).trans (I.base.keep b o e n hb hx)
  ·obtain ⟨sl,e1⟩:=I.base.slot b o e n hb hx
   exact ⟨sl,(hs.2 b (Nat.ne_of_lt (Nat.lt_of_lt_of_le (Heap.lt_size e) I.ok.above))).trans e1⟩
  ·obtain ⟨o',e1⟩:=I.base.there b o e hx
   exact ⟨o',(hs.2 b (Nat.ne_of_lt (Nat.lt_of_lt_of_le (Heap.lt_size e) I.ok.above))).trans e1⟩
  ·by_cases hj:j=i
   ·subst hj
    rw [hi] at e1; cases e1
    rw [List.getElem?_set_self hiσ] at e2
    cases e2
    exact ⟨u,r,.inl ⟨hk,by simp⟩⟩
   ·rw [List.getElem?_set_ne (Ne.symm hj)] at e2
    obtain ⟨u',r',q⟩:=hl j y v' e1 e2 e3
    refine ⟨u',r',?_⟩
    rcases q with ⟨k,e⟩ | ⟨k,c,e,z⟩
    ·refine .inl ⟨k,?_⟩
     have:y ≠ x:=fun e=>hj (afR hN e1 (e ▸ hi))
     simp [this,e]
    ·exact .inr ⟨k,c,e,z.sameBut hs (cne y c e)⟩
  ·obtain ⟨w',z⟩:=I.cell y c e
   exact ⟨w',z.sameBut hs (cne y c e)⟩
  ·obtain ⟨e,n,ne,nf,d⟩:=I.pin p hp
   exact ⟨(hs.2 p.1 ne).trans e,n,ne,nf,d⟩
 ·have hfn:X.fn x=true:=by
   rcases hf with z | z
   ·exact z
   ·rw [z] at hk; cases hk
  obtain ⟨c,hc⟩:=I.ok.has x (.inl hk)
  obtain ⟨w',z⟩:=I.cell x c hc
  refine wpAny_storeName_cell I.ok.kind hk hc z (fun h' hc' hs=>?_)
  obtain ⟨oc,hoc,hocd⟩:=id z
  refine h { s with heap:=h' } ⟨I.ok,I.os,I.bare,⟨fun b o e n hb hx=>?_,fun b o e n hb hx=>?_,I.base.free,fun b o e hx=>?_,I.base.tups,I.base.frzs,I.base.tbls⟩,⟨m,hn.sameBut hs (Ne.symm (cne x c hc)),fun j y v' e1 e2 e3=>?_⟩,fun y c' e=>?_,I.free,I.freeC,fun p hp=>?_,tracked ⟨oc,hoc,I.freeC x c hc⟩ hs,by simpa using I.len⟩ ⟨c,hs,.inr hc⟩
  ·exact (hs.2 b (Nat.ne_of_lt (Nat.lt_of_lt_of_le (Heap.lt_size e) (I.ok.cab x c hfn hc)))).trans (I.base.keep b o e n hb hx)
  ·obtain ⟨sl,e1⟩:=I.base.slot b o e n hb hx
   exact ⟨sl,(hs.2 b (Nat.ne_of_lt (Nat.lt_of_lt_of_le (Heap.lt_size e) (I.ok.cab x c hfn hc)))).trans e1⟩
  ·obtain ⟨o',e1⟩:=I.base.there b o e hx
   exact ⟨o',(hs.2 b (Nat.ne_of_lt (Nat.lt_of_lt_of_le (Heap.lt_size e) (I.ok.cab x c hfn hc)))).trans e1⟩
  ·by_cases hj:j=i
   ·subst hj
    rw [hi] at e1; cases e1
    rw [List.getElem?_set_self hiσ] at e2
    cases e2
    exact ⟨u,r,.inr ⟨.inl hk,c,hc,hc'⟩⟩
   ·rw [List.getElem?_set_ne (Ne.symm hj)] at e2
    obtain ⟨u',r',q⟩:=hl j y v' e1 e2 e3
    refine ⟨u',r',?_⟩
    rcases q with q | ⟨k,c',e,z'⟩
    ·exact .inl q
    ·refine .inr ⟨k,c',e,z'.sameBut hs ?_⟩
     rintro rfl
     exact hj (afR hN e1 (I.ok.inj _ _ _ e hc ▸ hi))
  ·by_cases hcc:c'=c
   ·subst hcc; exact ⟨_,hc'⟩
   ·obtain ⟨w2,z2⟩:=I.cell y c' e
    exact ⟨w2,z2.sameBut hs hcc⟩
  ·obtain ⟨e,n,ne,nf,d⟩:=I.pin p hp
   refine ⟨(hs.2 p.1 ?_).trans e,n,ne,nf,d⟩
   intro q
   rw [q,hoc] at e
   have q':oc=p.2:=Option.some.inj e
   exact d w' (by rw [←q']; exact hocd)
theorem acs {M:Model}{A:Around}{E:Value->Shared->Prop}{i:Nat}{x:Str}{v:V}{u:Value}{Q:Unit->Shared->Prop} (I:Inv X pins σ H s) (hN:X.N.Nodup) (hi:X.N[i]?=some x) (hx:Loc X.env.scope x) (r:jP v u)
  (h:∀ s',Inv X pins (σ.set i (some v)) H s'->Q () s') (hf:X.fn x=true ∨ X.env.scope.names.lookup x=some .local:=by first | exact .inl rfl | exact .inr rfl | assumption):wpAny M A (storeName X.env x u) Q E s:=
 adN I hN hi hx r (fun s' I' _=>h s' I') hf
theorem Inv.call' {s':Shared}{ch:List Addr} (I:Inv X pins σ H s) (ho:s'.os=s.os) (u:Un (frs X.stack) ch H H' s.heap s'.heap) (hok:HOk X.prog X.w H' s'.heap) (hg:AllBare s'.gens)
  (hch:∀ b ∈ ch,(b ∈ X.ex ∨ X.s₀.heap.objs.size<=b)/\b ≠ X.env.locals/\(∀ x c,X.env.cells.lookup x=some c->c ≠ b)/\∀ p ∈ X.pn++pins,p.1 ≠ b):Inv X pins σ H' s':=by
 obtain ⟨h',g',d',t',o'⟩:=s'
 have e:o'=s.os:=ho
 subst e
 exact I.call (g':=g') (t':=t') (d':=d') u hok hg hch
end
noncomputable abbrev XK:=Value->Option Addr->Hp->Prop
noncomputable abbrev St:=List (Option V)
noncomputable abbrev VK:=V->Hp->Prop
noncomputable abbrev TE:=St->Hp->VK->Prop
noncomputable abbrev TT:=St->Hp->(Bool->Hp->Prop)->Prop
noncomputable abbrev TA:=St->Hp->(List V->Hp->Prop)->Prop
structure Ends where
 nx:St->Hp->Prop
 rt:VK
 bk:St->Hp->Prop:=fun _ _=>False
 ct:St->Hp->Prop:=fun _ _=>False
noncomputable abbrev TS:=Ends->St->Hp->Prop
noncomputable def EP (X:Cx) (pins:List (Addr × Obj)) (σ:St) (Q:VK) (u:Value) (s':Shared):Prop:=∃ v H',Inv X pins σ H' s'/\jP v u/\Q v H'
noncomputable def TP (X:Cx) (pins:List (Addr × Obj)) (σ:St) (Q:Bool->Hp->Prop) (b:Bool) (s':Shared):Prop:=∃ H',Inv X pins σ H' s'/\Q b H'
noncomputable def AP (X:Cx) (pins:List (Addr × Obj)) (σ:St) (Q:List V->Hp->Prop) (us:List Value) (s':Shared):Prop:=∃ vs H',Inv X pins σ H' s'/\jG vs us/\Q vs H'
noncomputable def SP (X:Cx) (pins:List (Addr × Obj)) (D:Ends) (f:Flow) (s':Shared):Prop:=
 match f with
 | .next=>∃ σ' H',Inv X pins σ' H' s'/\D.nx σ' H'
 | .brk=>∃ σ' H',Inv X pins σ' H' s'/\D.bk σ' H'
 | .cont=>∃ σ' H',Inv X pins σ' H' s'/\D.ct σ' H'
 | .ret u=>∃ v σ' H',Inv X pins σ' H' s'/\jP v u/\D.rt v H'
noncomputable def PE (X:Cx) (e:Expr) (t:TE):Prop:=
 ∀ (pins:List (Addr × Obj)) (s:Shared) (σ:St) (H:Hp) (Q:VK),Inv X pins σ H s->t σ H Q->wpAny (model X.prog X.w) X.A (eval e X.env) (EP X pins σ Q) X.xe s
noncomputable def PT (X:Cx) (e:Expr) (t:TT):Prop:=
 ∀ (pins:List (Addr × Obj)) (s:Shared) (σ:St) (H:Hp) (Q:Bool->Hp->Prop),Inv X pins σ H s->t σ H Q->wpAny (model X.prog X.w) X.A (isTrue e X.env (eval e X.env)) (TP X pins σ Q) X.xe s
noncomputable def PW (X:Cx) (e:Expr) (t:TT):Prop:=
 ∀ (whole:Sem Value) (pins:List (Addr × Obj)) (s:Shared) (σ:St) (H:Hp) (Q:Bool->Hp->Prop),Inv X pins σ H s->t σ H Q->wpAny (model X.prog X.w) X.A (isTrue e X.env whole) (TP X pins σ Q) X.xe s
theorem PW.pt {X:Cx}{e:Expr}{t:TT} (h:PW X e t):PT X e t:=h _
noncomputable def PA (X:Cx) (es:List Expr) (t:TA):Prop:=
 ∀ (pos:Pos) (pins:List (Addr × Obj)) (s:Shared) (σ:St) (H:Hp) (Q:List V->Hp->Prop),Inv X pins σ H s->t σ H Q->wpAny (model X.prog X.w) X.A (spliced (backTo pos (starEach es X.env))) (AP X pins σ Q) X.xe s
noncomputable def PS (X:Cx) (st:Stmt) (t:TS):Prop:=
 ∀ (pins:List (Addr × Obj)) (s:Shared) (σ:St) (H:Hp) (D:Ends),Inv X pins σ H s->t D σ H->wpAny (model X.prog X.w) X.A (exec st X.env) (SP X pins D) X.xe s
noncomputable def PSs (X:Cx) (st:List Stmt) (t:TS):Prop:=
 ∀ (pins:List (Addr × Obj)) (s:Shared) (σ:St) (H:Hp) (D:Ends),Inv X pins σ H s->t D σ H->wpAny (model X.prog X.w) X.A (execs st X.env) (SP X pins D) X.xe s
theorem thn {α:Type}{t:Sem α}{Q Q':α->Shared->Prop}{M:Model}{A:Around}{E:Value->Shared->Prop}{s:Shared} (h:wpAny M A t Q E s) (hQ:∀ a s,Q a s->Q' a s):wpAny M A t Q' E s:=wpAny_mono h hQ fun _ _ x=>x
end L2
namespace L2
open PySem PySem.Spec PyProof.Rows
section
variable {X:Cx}
noncomputable def aqQ (i:Nat):TE:=fun σ H Q=>∃ v,σ[i]?=some (some v)/\Q v H
noncomputable def tC (v:V):TE:=fun _ H Q=>Q v H
theorem act {i:Nat}{x:Str}{pos:Pos} (hN:X.N[i]?=some x) (hv:Vis X.env.scope x) (hd:(x == ("__debug__":Str))=false:=by decide) (hcd:(x == ("__classdict__":Str))=false:=by decide):PE X (.Name x pos) (aqQ i):=by
 intro pins s σ H Q I h
 obtain ⟨v,e,h⟩:=h
 obtain ⟨m,hn,hl⟩:=I.loc
 obtain ⟨u,r,l⟩:=hl i x v hN e hv
 have fin:EP X pins σ Q u s:=⟨v,H,I,r,h⟩
 rcases l with ⟨hk,hm⟩ | ⟨hk,c,hc,hcell⟩
 ·exact wpAny_Name (wpAny_loadName_local I.ok.kind hk hn hm fin) hd
 ·rcases hk with hk | hk
  ·exact wpAny_Name (wpAny_loadName_cell I.ok.kind hk hc hcell fin) hd
  ·exact wpAny_Name (wpAny_loadName_free I.ok.kind hk hc hcell fin hcd) hd
theorem app {i j pos}:PE X (.Constant (.int i) j pos) (tC (.int i)):=fun _ _ _ H _ I h=>wpAny_Constant_int ⟨.int i,H,I.tok _,⟨_,rfl⟩,h⟩
theorem aqR {b j pos}:PE X (.Constant (.bool b) j pos) (tC (.bl b)):=fun _ _ _ H _ I h=>Constant_bool ⟨.bl b,H,I,rfl,h⟩
theorem akO {j pos}:PE X (.Constant .none j pos) (tC .non):=fun _ _ _ H _ I h=>Constant_none ⟨.non,H,I,rfl,h⟩
theorem akP {x j pos}:PE X (.Constant (.str x) j pos) (tC (.str x)):=fun _ _ _ H _ I h=>Calls.Constant_str ⟨.str x,H,I.tok _,⟨_,rfl⟩,h⟩
noncomputable def Gl (X:Cx) (x:Str):Prop:=X.env.kindOf x=some .globalImplicit
theorem aaq {E:Value->Shared->Prop}{pins:List (Addr × Obj)}{s:Shared}{σ:St}{H:Hp}{x:Str}{u:Value}{pos:Pos}{Q:Value->Shared->Prop} (I:Inv X pins σ H s) (hg:Gl X x) (hm:X.mg x=some u) (h:Q u s)
  (hd:(x == ("__debug__":Str))=false:=by decide):wpAny (model X.prog X.w) X.A (eval (.Name x pos) X.env) Q E s:=
 Calls.Name_function_global I.ok.kind hg (Calls.loadGlobal_global (by rw [I.ok.glob]; exact I.mod.glob.keeps I.bk) hm h) hd
theorem Z9 {E:Value->Shared->Prop}{pins:List (Addr × Obj)}{s:Shared}{σ:St}{H:Hp}{x:Str}{u:Value}{pos:Pos}{Q:Value->Shared->Prop} (I:Inv X pins σ H s) (hg:Gl X x) (hm:X.mg x=none) (hv:bootBuiltins x=some u) (h:Q u s)
  (hn:x ≠ "__name__":=by decide) (hd:(x == ("__debug__":Str))=false:=by decide):wpAny (model X.prog X.w) X.A (eval (.Name x pos) X.env) Q E s:=by
 obtain ⟨mb,h1,h2⟩:=I.mod.blt
 exact Calls.Name_function_global I.ok.kind hg (Calls.loadGlobal_builtin (by rw [I.ok.glob]; exact I.mod.glob.keeps I.bk) hm (by rw [I.ok.blt]; exact h1.keeps I.bk) ((h2 x hn).trans hv) h) hd
theorem ab2 {x:Str}{v:V}{u:Value}{pos:Pos} (hg:Gl X x) (hm:X.mg x=some u) (r:jP v u) (hd:(x == ("__debug__":Str))=false:=by decide):PE X (.Name x pos) (tC v):=
 fun _ _ _ H _ I h=>aaq I hg hm ⟨v,H,I,r,h⟩ hd
theorem ait {x:Str}{v:V}{u:Value}{pos:Pos} (hg:Gl X x) (hm:X.mg x=none) (hv:bootBuiltins x=some u) (r:jP v u) (hn:x ≠ "__name__":=by decide) (hd:(x == ("__debug__":Str))=false:=by decide):PE X (.Name x pos) (tC v):=
 fun _ _ _ H _ I h=>Z9 I hg hm hv ⟨v,H,I,r,h⟩ hn hd
variable {a b:Expr}{ta tb:TE}{pos:Pos}
noncomputable def tB (t:TE):TT:=fun σ H Q=>t σ H fun x H1=>∃ c,x= .bl c/\Q c H1
theorem apq {e:Expr}{t:TE} (h:PE X e t) (he:∀ whole,isTrue e X.env whole=(do let v ←whole; standAt e.pos; holding [v] (truthy v)):=by intro _; rfl):PT X e (tB t):=by
 intro pins s σ H Q I hw
 refine isTrue_plain (thn (h pins s σ H _ I hw) fun v s1 ⟨x,H1,I1,r1,q1⟩=>?_) (he _)
 obtain ⟨d,rfl,q⟩:=q1
 cases r1
 exact wpAny_truthy_bool ⟨H1,I1,q⟩
variable {tA tB':TT}{j5:List Expr}
noncomputable def arR (t u:TT):TT:=fun σ H Q=>t σ H fun c H1=>if c=true then u σ H1 Q else Q false H1
noncomputable def tOr (t u:TT):TT:=fun σ H Q=>t σ H fun c H1=>if c=true then Q true H1 else u σ H1 Q
noncomputable def arS (t:TT):TT:=fun σ H Q=>t σ H fun c H1=>Q (!c) H1
theorem anb (ha:PT X a tA):PW X (.BoolOp .And [a] pos) tA:=by
 intro wh pins s σ H Q I h
 refine isTrue_and (thn (ha pins s σ H Q I h) fun c s1 e=>?_)
 cases c with
 | true=>exact isTrue_and_nil e
 | false=>exact e
theorem apr (ha:PT X a tA):PW X (.BoolOp .Or [a] pos) tA:=by
 intro wh pins s σ H Q I h
 refine isTrue_or (thn (ha pins s σ H Q I h) fun c s1 e=>?_)
 cases c with
 | false=>exact isTrue_or_nil e
 | true=>exact e
theorem aps (ha:PT X a tA) (hb:PW X (.BoolOp .And (b::j5) pos) tB'):PW X (.BoolOp .And (a::b::j5) pos) (arR tA tB'):=by
 intro wh pins s σ H Q I h
 refine isTrue_and (thn (ha pins s σ H _ I h) fun c s1 ⟨H1,I1,q1⟩=>?_)
 cases c with
 | true=>exact hb wh pins s1 σ H1 Q I1 q1
 | false=>exact ⟨H1,I1,q1⟩
theorem aqS (ha:PT X a tA) (hb:PW X (.BoolOp .Or (b::j5) pos) tB'):PW X (.BoolOp .Or (a::b::j5) pos) (tOr tA tB'):=by
 intro wh pins s σ H Q I h
 refine isTrue_or (thn (ha pins s σ H _ I h) fun c s1 ⟨H1,I1,q1⟩=>?_)
 cases c with
 | true=>exact ⟨H1,I1,q1⟩
 | false=>exact hb wh pins s1 σ H1 Q I1 q1
theorem apt (ha:PT X a tA):PT X (.UnaryOp .Not a pos) (arS tA):=by
 intro pins s σ H Q I h
 exact isTrue_not (ha pins s σ H (fun c H1=>Q (!c) H1) I h)
noncomputable def tIf (t:TT) (ta tb:TE):TE:=fun σ H Q=>t σ H fun c H1=>if c=true then ta σ H1 Q else tb σ H1 Q
theorem akQ {c:Expr} (hc:PT X c tA) (ha:PE X a ta) (hb:PE X b tb):PE X (.IfExp c a b pos) (tIf tA ta tb):=by
 intro pins s σ H Q I h
 refine wpAny_IfExp (thn (hc pins s σ H _ I h) fun d s1 ⟨H1,I1,q1⟩=>?_)
 cases d with
 | true=>exact ha pins s1 σ H1 Q I1 q1
 | false=>exact hb pins s1 σ H1 Q I1 q1
end
end L2
namespace L2
open PySem PySem.Spec PyProof.Rows
noncomputable def SqL (K:PySem.W.Frag) (H:Hp) (a:Addr) (xs:List V):Prop:=
 Rd H a (.lst xs) ∨
  ∃ (o:Obj) (its:Array Value) (n:Nat),K.lookup a=some o/\o.cls= .type "list"/\o.dict=none/\o.data= .seq its n/\its.size<=sizeLine/\jG xs its.toList
noncomputable def SqT (K:PySem.W.Frag) (H:Hp) (a:Addr) (xs:List V):Prop:=
 Rd H a (.tup xs) ∨
  ∃ (o:Obj) (its:Array Value) (n:Nat),K.lookup a=some o/\o.cls= .type "tuple"/\o.data= .seq its n/\its.size<=sizeLine/\jG xs its.toList
noncomputable def arT:Value->Option V
 | .none=>some .non
 | .bool b=>some (.bl b)
 | .int i _=>some (.int i)
 | .str x _=>some (.str x)
 | .bytes b _=>some (.byt b)
 | .float b _=>some (.flt b)
 | .ref a=>some (.ref a)
 | .type n=>some (.ty n)
 | _=>none
theorem jP.abs {x:V}{u:Value} (r:jP x u):arT u=some x:=by
 cases x with
 | non=>cases r; rfl
 | bl _=>cases r; rfl
 | int _=>obtain ⟨t,rfl⟩:=r; rfl
 | str _=>obtain ⟨t,rfl⟩:=r; rfl
 | byt _=>obtain ⟨t,rfl⟩:=r; rfl
 | flt _=>obtain ⟨t,rfl⟩:=r; rfl
 | ref _=>cases r; rfl
 | ty _=>cases r; rfl
theorem jP.inj {x y:V}{u:Value} (r:jP x u) (q:jP y u):x=y:=Option.some.inj (r.abs.symm.trans q.abs)
theorem jG.inj:∀ {xs ys:List V}{us:List Value},jG xs us->jG ys us->xs=ys
 | _,_,_,.nil,.nil=>rfl
 | _,_,_,.cons r t,.cons r' t'=>by rw [r.inj r',jG.inj t t']
section
variable {X:Cx}{pins:List (Addr × Obj)}{σ:St}{H:Hp}{s:Shared}{a:Addr}{xs ys:List V}
theorem SqL.of {K:PySem.W.Frag} (h:H a=some (.lst xs)):SqL K H a xs:= .inl (.inl h)
theorem SqT.of {K:PySem.W.Frag} (h:H a=some (.tup xs)):SqT K H a xs:= .inl (.inl h)
theorem Inv.list (I:Inv X pins σ H s) (h:SqL X.K H a xs):∃ its:List Value,jG xs its/\PlainL s.heap a its.toArray/\xs.length<=sizeLine:=by
 rcases h with h | ⟨o,its,n,hk,hc,hd,hs,hz,r⟩
 ·obtain ⟨z,its,n,r,e⟩:=h.ok I.hok
  exact ⟨its,r,⟨_,n,e,rfl,rfl,rfl⟩,z⟩
 ·refine ⟨its.toList,r,⟨o,n,I.kIn a o hk,hc,hd,by simpa using hs⟩,?_⟩
  have e:=r.length
  simp only [Array.length_toList] at e
  omega
theorem Inv.tuple (I:Inv X pins σ H s) (h:SqT X.K H a xs):∃ its:List Value,jG xs its/\IsTup s.heap a its.toArray/\xs.length<=sizeLine:=by
 rcases h with h | ⟨o,its,n,hk,hc,hs,hz,r⟩
 ·obtain ⟨z,its,r,p⟩:=h.ok I.hok
  exact ⟨its,r,p,z⟩
 ·refine ⟨its.toList,r,⟨o,I.kIn a o hk,hc,n,by simpa using hs⟩,?_⟩
  have e:=r.length
  simp only [Array.length_toList] at e
  omega
theorem Inv.list_inj (I:Inv X pins σ H s) (h:SqL X.K H a xs) (h':SqL X.K H a ys):xs=ys:=by
 obtain ⟨its,r,⟨o,n,e,_,_,d⟩,_⟩:=I.list h
 obtain ⟨its',r',⟨o',n',e',_,_,d'⟩,_⟩:=I.list h'
 rw [e] at e'; cases e'
 rw [d] at d'
 injection d' with d1 _
 have:its=its':=by simpa using congrArg Array.toList d1
 subst this
 exact r.inj r'
theorem Inv.tuple_inj (I:Inv X pins σ H s) (h:SqT X.K H a xs) (h':SqT X.K H a ys):xs=ys:=by
 obtain ⟨its,r,⟨o,e,_,n,d⟩,_⟩:=I.tuple h
 obtain ⟨its',r',⟨o',e',_,n',d'⟩,_⟩:=I.tuple h'
 rw [e] at e'; cases e'
 rw [d] at d'
 injection d' with d1 _
 have:its=its':=by simpa using congrArg Array.toList d1
 subst this
 exact r.inj r'
end
noncomputable abbrev Cx.wish (X:Cx) (E:Value->Shared->Prop):Cx:={ X with xe:=E }
noncomputable abbrev Cx.nox (X:Cx):Cx:=X.wish fun _ _=>False
theorem Cx.Ok.wish {X:Cx} (ok:X.Ok) (E:Value->Shared->Prop):(X.wish E).Ok:=
 ⟨ok.mod,ok.kind,ok.glob,ok.blt,ok.above,ok.inj,ok.has,ok.cab,ok.hd,ok.frames,ok.stk,ok.exf,ok.bs,ok.bsz,ok.noex,ok.exfs,ok.funs,ok.frf⟩
theorem Cx.Ok.unwish {X:Cx}{E:Value->Shared->Prop} (ok:(X.wish E).Ok):X.Ok:=
 ⟨ok.mod,ok.kind,ok.glob,ok.blt,ok.above,ok.inj,ok.has,ok.cab,ok.hd,ok.frames,ok.stk,ok.exf,ok.bs,ok.bsz,ok.noex,ok.exfs,ok.funs,ok.frf⟩
section
variable {X:Cx}{pins:List (Addr × Obj)}{σ:St}{H:Hp}{s:Shared}{E:Value->Shared->Prop}
theorem Inv.wish (I:Inv X pins σ H s) (E:Value->Shared->Prop):Inv (X.wish E) pins σ H s:=⟨I.ok.wish E,I.os,I.bare,I.base,I.loc,I.cell,I.free,I.freeC,I.pin,I.hok,I.len⟩
theorem Inv.unwish (I:Inv (X.wish E) pins σ H s):Inv X pins σ H s:=⟨I.ok.unwish,I.os,I.bare,I.base,I.loc,I.cell,I.free,I.freeC,I.pin,I.hok,I.len⟩
theorem SP.unwish {D:Ends}{f:Flow}{s':Shared} (h:SP (X.wish E) pins D f s'):SP X pins D f s':=by
 cases f with
 | next=>obtain ⟨σ',H',I,q⟩:=h; exact ⟨σ',H',I.unwish,q⟩
 | brk=>obtain ⟨σ',H',I,q⟩:=h; exact ⟨σ',H',I.unwish,q⟩
 | cont=>obtain ⟨σ',H',I,q⟩:=h; exact ⟨σ',H',I.unwish,q⟩
 | ret u=>obtain ⟨v,σ',H',I,r,q⟩:=h; exact ⟨v,σ',H',I.unwish,r,q⟩
theorem PE.nox {e:Expr}{t:TE} (h:PE X.nox e t):PE X e t:=fun pins s σ H Q I hw=>
 wpAny_mono (h pins s σ H Q (I.wish _) hw) (fun _ _ ⟨v,H',I',r,q⟩=>⟨v,H',I'.unwish,r,q⟩) fun _ _ z=>False.elim z
theorem PT.nox {e:Expr}{t:TT} (h:PT X.nox e t):PT X e t:=fun pins s σ H Q I hw=>
 wpAny_mono (h pins s σ H Q (I.wish _) hw) (fun _ _ ⟨H',I',q⟩=>⟨H',I'.unwish,q⟩) fun _ _ z=>False.elim z
theorem PSs.nox {st:List Stmt}{t:TS} (h:PSs X.nox st t):PSs X st t:=fun pins s σ H D I hw=>
 wpAny_mono (h pins s σ H D (I.wish _) hw) (fun _ _ q=>q.unwish) fun _ _ z=>False.elim z
end
section
variable {X:Cx}{st:Stmt}{j5:List Stmt}{t u:TS}{e:Expr}{te:TE}{pos:Pos}
noncomputable def aqT:TS:=fun D σ H=>D.nx σ H
noncomputable def arU (t u:TS):TS:=fun D σ H=>t { D with nx:=u D } σ H
theorem aiu:PSs X [] aqT:=fun _ _ σ H _ I h=>wpAny_execs_nil ⟨σ,H,I,h⟩
theorem QY (h1:PS X st t) (h2:PSs X j5 u):PSs X (st::j5) (arU t u):=by
 intro pins s σ H D I h
 refine wpAny_execs_cons (thn (h1 pins s σ H { D with nx:=u D } I h) fun f s1 q=>?_)
 cases f with
 | next=>
  obtain ⟨σ',H',I',q⟩:=q
  exact h2 pins s1 σ' H' D I' q
 | ret v=>exact q
 | brk=>exact q
 | cont=>exact q
theorem aeC (h1:PS X st t):PSs X [st] t:=by
 intro pins s σ H D I h
 refine wpAny_execs_cons (thn (h1 pins s σ H D I h) fun f s1 q=>?_)
 cases f with
 | next=>exact wpAny_execs_nil q
 | ret v=>exact q
 | brk=>exact q
 | cont=>exact q
theorem Inv.quiet {pins:List (Addr × Obj)}{σ:St}{H:Hp}{s:Shared} (I:Inv X pins σ H s):interactive X.env=false:=by simp [interactive,I.ok.kind]
noncomputable def aqU (te:TE):TS:=fun D σ H=>te σ H fun _ H1=>D.nx σ H1
theorem aeD (he:PE X e te) (hs:swapsWith e none pos.line X.env=pure false:=by rfl):PS X (.Expr e pos) (aqU te):=by
 intro pins s σ H D I h
 exact wpAny_Expr_any (thn (he pins s σ H _ I h) fun v s1 ⟨x,H1,I1,r1,q1⟩=>⟨σ,H1,I1,q1⟩) I.quiet hs
noncomputable def arV (te:TE):TS:=fun D σ H=>te σ H D.rt
theorem aho (he:PE X e te):PS X (.Return (some e) pos) (arV te):=by
 intro pins s σ H D I h
 exact wpAny_Return_some (thn (he pins s σ H _ I h) fun v s1 ⟨x,H1,I1,r1,q1⟩=>⟨x,σ,H1,I1,r1,q1⟩)
noncomputable def arW (c:TT) (t u:TS):TS:=fun D σ H=>c σ H fun b H1=>if b=true then t D σ H1 else u D σ H1
theorem ao6 {c:Expr}{a b:List Stmt}{tc:TT} (hc:PT X c tc) (ha:PSs X a t) (hb:PSs X b u):PS X (.If c a b pos) (arW tc t u):=by
 intro pins s σ H D I h
 refine wpAny_If (thn (hc pins s σ H _ I h) fun d s1 ⟨H1,I1,q1⟩=>?_)
 cases d with
 | true=>exact ha pins s1 σ H1 D I1 q1
 | false=>exact hb pins s1 σ H1 D I1 q1
noncomputable def apu:TS:=fun _ _ _=>False
theorem ajr {sts:List Stmt}:PSs X sts apu:=fun _ _ _ _ _ _ h=>h.elim
end
noncomputable abbrev TG:=V->St->Hp->(St->Hp->Prop)->Prop
noncomputable abbrev TGs:=List V->St->Hp->(St->Hp->Prop)->Prop
noncomputable def PG (X:Cx) (target:Expr) (t:TG):Prop:=
 ∀ (pins:List (Addr × Obj)) (s:Shared) (σ:St) (H:Hp) (v:V) (u:Value) (Q:St->Hp->Prop),Inv X pins σ H s->jP v u->t v σ H Q->
  wpAny (model X.prog X.w) X.A (assign target X.env u) (fun _ s'=>∃ σ' H',Inv X pins σ' H' s'/\Q σ' H') X.xe s
noncomputable def PGs (X:Cx) (ts:List Expr) (t:TGs):Prop:=
 ∀ (pins:List (Addr × Obj)) (s:Shared) (σ:St) (H:Hp) (vs:List V) (us:List Value) (Q:St->Hp->Prop),Inv X pins σ H s->jG vs us->t vs σ H Q->
  wpAny (model X.prog X.w) X.A (assignInOrder ((assignEach ts X.env).map (·.2)) us) (fun _ s'=>∃ σ' H',Inv X pins σ' H' s'/\Q σ' H') X.xe s
noncomputable abbrev apv:=V->V->V->Hp->(Hp->Prop)->Prop
noncomputable def aqV (X:Cx) (t:apv):Prop:=
 ∀ (pins:List (Addr × Obj)) (s:Shared) (σ:St) (H:Hp) (o i v:V) (ov iv u:Value) (Q:Hp->Prop),Inv X pins σ H s->jP o ov->jP i iv->jP v u->t o i v H Q->
  wpAny (model X.prog X.w) X.A (setItem ov iv u) (fun _ s'=>∃ H',Inv X pins σ H' s'/\Q H') X.xe s
section
variable {X:Cx}{pos:Pos}
noncomputable def akR (i:Nat):TG:=fun v σ H Q=>Q (σ.set i (some v)) H
theorem aar {i:Nat}{x:Str} (hN:X.N.Nodup) (hi:X.N[i]?=some x) (hx:Loc X.env.scope x) (hf:X.fn x=true ∨ X.env.scope.names.lookup x=some .local:=by first | exact .inl rfl | exact .inr rfl | assumption):PG X (.Name x pos) (akR i):=by
 intro pins s σ H v u Q I r h
 exact wpAny_assign_Name (acs I hN hi hx r (fun s' I'=>⟨_,H,I',h⟩) hf)
noncomputable def arX:TGs:=fun vs σ H Q=>vs=[]/\Q σ H
noncomputable def aqW (t:TG) (u:TGs):TGs:=fun vs σ H Q=>∃ v r,vs=v::r/\t v σ H fun σ' H'=>u r σ' H' Q
theorem aiv:PGs X [] arX:=by
 intro pins s σ H vs us Q I r h
 obtain ⟨e,h⟩:=h
 subst e
 cases r
 exact assignInOrder_nil ⟨σ,H,I,h⟩
theorem afS {e:Expr}{es:List Expr}{t:TG}{u:TGs} (h1:PG X e t) (h2:PGs X es u)
  (hs:(assignEach (e::es) X.env).map (·.2)=assign e X.env::(assignEach es X.env).map (·.2):=by rfl):PGs X (e::es) (aqW t u):=by
 intro pins s σ H vs us Q I r h
 obtain ⟨v,vr,e1,h⟩:=h
 subst e1
 cases r with
 | cons r rr=>
  rw [hs]
  refine assignInOrder_cons (thn (h1 pins s σ H _ _ _ I r h) fun _ s1 ⟨σ1,H1,I1,q1⟩=>?_)
  exact h2 pins s1 σ1 H1 _ _ Q I1 rr q1
noncomputable def arY (K:PySem.W.Frag) (n:Nat) (t:TGs):TG:=fun v σ H Q=>∃ a xs,v= .ref a/\SqT K H a xs/\xs.length=n/\t xs σ H Q
theorem akS {es:List Expr}{k:Nat}{t:TGs}{n:Nat} (hc:X.calm=true) (h:PGs X es t)
  (hn:(assignEach es X.env).length=n:=by rfl) (hst:(assignEach es X.env).findIdx? (·.1)=none:=by rfl):PG X (.Tuple es k pos) (arY X.K n t):=by
 intro pins s σ H v u Q I r hw
 obtain ⟨a,xs,e1,hq,hl,hw⟩:=hw
 subst e1
 cases r
 obtain ⟨its,rv,ht,hz⟩:=I.tuple hq
 refine assign_Tuple_tuple (I.ok.hd hc) ht (by simp [hn,←hl,rv.length]) hst fun h' hx=>?_
 have I1:Inv X pins σ H { s with heap:=h' }:=I.kept (t':=s.toks) fun b o e=>hx b o (Nat.ne_of_lt (Heap.lt_size e)) e
 exact h pins _ σ H xs _ Q I1 (by simpa using rv) hw
noncomputable def arZ (to ti:TE) (t:apv):TG:=fun v σ H Q=>to σ H fun o H1=>ti σ H1 fun i H2=>t o i v H2 fun H3=>Q σ H3
theorem apw {o i:Expr}{to ti:TE}{t:apv} (ho:PE X o to) (hi:PE X i ti) (hs:aqV X t)
  (ha:∀ v,assign (.Subscript o i pos) X.env v=(do
   let ov ←holding [v] (eval o X.env)
   let iv ←holding [v,ov] (eval i X.env)
   standAt pos
   holding [v,ov,iv] (setItem ov iv v)
   release [v,ov,iv] []):=by intro _; rfl):PG X (.Subscript o i pos) (arZ to ti t):=by
 intro pins s σ H v u Q I r h
 rw [ha]
 refine wpAny_bind (wpAny_holding (thn (ho pins s σ H _ I h) fun ov s1 ⟨x,H1,I1,r1,q1⟩=>?_))
 refine wpAny_bind (wpAny_holding (thn (hi pins s1 σ H1 _ I1 q1) fun iv s2 ⟨y,H2,I2,r2,q2⟩=>?_))
 refine wpAny_bind (wpAny_standAt (wpAny_bind (wpAny_holding (thn (hs pins s2 σ H2 x y v ov iv u _ I2 r1 r2 r q2) fun _ s3 ⟨H3,I3,q3⟩=>?_))))
 exact wpAny_release ⟨σ,H3,I3,q3⟩
noncomputable def apx (te:TE) (g:TG):TS:=fun D σ H=>te σ H fun x H1=>g x σ H1 D.nx
theorem apy {tg e:Expr}{te:TE}{g:TG} (he:PE X e te) (hg:PG X tg g) (hs:swapsWithSole [tg] e pos.line X.env=pure false:=by rfl) (hw:swappedStores [tg] e X.env=pure none:=by rfl)
  (h1:(assignEach [tg] X.env).map (·.2)=[assign tg X.env]:=by rfl):PS X (.Assign [tg] e pos) (apx te g):=by
 intro pins s σ H D I h
 refine wpAny_Assign_stores (thn (he pins s σ H _ I h) fun v s1 ⟨x,H1,I1,r1,q1⟩=>?_) hs hw
 rw [h1]
 exact thn (hg pins s1 σ H1 x v _ I1 r1 q1) fun _ s2 q=>q
theorem aeE {i:Nat}{x:Str}{e:Expr}{te:TE}{pos':Pos} (hN:X.N.Nodup) (hi:X.N[i]?=some x) (hx:Loc X.env.scope x) (he:PE X e te) (hs:swapsWith e (some (.Name x pos')) pos.line X.env=pure false:=by rfl) (hf:X.fn x=true ∨ X.env.scope.names.lookup x=some .local:=by first | exact .inl rfl | exact .inr rfl | assumption):
  PS X (.Assign [.Name x pos'] e pos) (apx te (akR i)):=by
 intro pins s σ H D I h
 refine wpAny_Assign_Name (thn (he pins s σ H _ I h) fun v s1 ⟨y,H1,I1,r1,q1⟩=>?_) hs
 exact acs I1 hN hi hx r1 (fun s2 I2=>⟨_,H1,I2,q1⟩) hf
end
section
variable {X:Cx}{pos:Pos}
noncomputable def apz (c:TT) (tb:TS):TS:=fun D σ H=>∃ W:Nat->St->Hp->Prop,(∃ m,W m σ H)/\∀ m σ H,W m σ H->
 c σ H fun b H1=>if b=true then ∃ N:St->Hp->Prop,(∀ σ' H',N σ' H'->∃ m',m' < m/\W m' σ' H')/\tb { D with nx:=N,ct:=N,bk:=D.nx } σ H1 else D.nx σ H1
theorem akT {c:Expr}{body:List Stmt}{tc:TT}{tb:TS} (hp:PassesOwn (model X.prog X.w) X.A X.env X.xe) (hc:PT X c tc) (hb:PSs X body tb):PS X (.While c body [] pos) (apz tc tb):=by
 intro pins s σ H D I h
 obtain ⟨W,⟨m0,w0⟩,turn⟩:=h
 refine wpAny_While (codeAny_whileLoop (fun n s'=>∃ σ' H',Inv X pins σ' H' s'/\W n σ' H') ?_ m0 ⟨σ,H,I,w0⟩)
 rintro n s1 ⟨σ1,H1,I1,w1⟩
 refine wpAny_passesOwn hp (thn (hc pins s1 σ1 H1 _ I1 (turn n σ1 H1 w1)) fun b s2 ⟨H2,I2,q2⟩=>?_)
 cases b with
 | true=>
  obtain ⟨N,hN,q2⟩:=q2
  rw [if_pos rfl]
  refine wpAny_passesOwn hp (thn (hb pins s2 σ1 H2 _ I2 q2) fun f s3 q3=>?_)
  cases f with
  | next=>
   obtain ⟨σ3,H3,I3,n3⟩:=q3
   obtain ⟨m',hm,w3⟩:=hN σ3 H3 n3
   exact ⟨m',hm,σ3,H3,I3,w3⟩
  | cont=>
   obtain ⟨σ3,H3,I3,n3⟩:=q3
   obtain ⟨m',hm,w3⟩:=hN σ3 H3 n3
   exact ⟨m',hm,σ3,H3,I3,w3⟩
  | brk=>exact q3
  | ret v=>exact q3
 | false=>
  rw [if_neg Bool.false_ne_true]
  exact wpAny_execs_nil ⟨σ1,H2,I2,q2⟩
end
structure It where
 go:Nat->Hp->Prop
 yld:Nat->Hp->V->Hp->Prop
 stop:Nat->Hp->Prop
noncomputable def aeF (X:Cx) (pins:List (Addr × Obj)) (H:Hp) (b:Addr):Prop:=
 H b=none/\b ≠ X.env.locals/\b ∉ X.fs/\(b ∈ X.ex ∨ X.s₀.heap.objs.size<=b)/\(∀ x c,X.env.cells.lookup x=some c->c ≠ b)/\∀ p ∈ X.pn++pins,p.1 ≠ b
theorem Inv.fpOk {X:Cx}{pins:List (Addr × Obj)}{σ:St}{H H':Hp}{s:Shared}{b:Addr} (I:Inv X pins σ H s) (hb:s.heap.objs.size<=b) (hn:H' b=none):aeF X pins H' b:=by
 refine ⟨hn,Nat.ne_of_gt (Nat.lt_of_lt_of_le I.lt hb),I.nofs hb,.inr (Nat.le_trans I.sz hb),fun x c e z=>?_,fun p hp z=>?_⟩
 ·obtain ⟨v,q⟩:=I.cell x c e
  exact absurd (Nat.lt_of_lt_of_le q.lt (by rw [z]; exact hb)) (Nat.lt_irrefl _)
 ·exact absurd (Nat.lt_of_lt_of_le (Heap.lt_size (I.pin p hp).1) (by rw [z]; exact hb)) (Nat.lt_irrefl _)
structure Turn (P:Program) (w:World) (K:PySem.W.Frag) (tg:Expr) (J:It) (fp:List Addr) (it:Addr) (tn:Nat->Heap->Prop):Prop where
 mem:it ∈ fp
 obj:∀ i h,tn i h->∀ b ∈ fp,∃ o,h.get? b=some o/\∀ v,o.data ≠ .cell v
 keep:∀ i h h',tn i h->(∀ b ∈ fp,∀ o,h.get? b=some o->h'.get? b=some o)->tn i h'
 item:∀ (X:Cx),X.prog=P->X.w=w->X.K=K->X.calm=true->∀ (i:Nat) (pins:List (Addr × Obj)) (s:Shared) (σ:St) (H:Hp) (E:Value->Shared->Prop),Inv X pins σ H s->(∀ b ∈ fp,aeF X pins H b)->tn i s.heap->J.go i H->
  wpAny (model P w) X.A (pyNext (.ref it)) (fun r s1=>∃ u,r=some u/\
   wpAny (model P w) X.A (letOwnedTupleGo tg (.ref it) u) (fun _ s2=>∃ x H',Inv X pins σ H' s2/\jP x u/\J.yld i H x H'/\tn (i+1) s2.heap/\∀ b ∈ fp,H' b=none) E s1) E s
 done:∀ (X:Cx),X.prog=P->X.w=w->X.K=K->X.calm=true->∀ (i:Nat) (pins:List (Addr × Obj)) (s:Shared) (σ:St) (H:Hp) (E:Value->Shared->Prop),Inv X pins σ H s->(∀ b ∈ fp,aeF X pins H b)->tn i s.heap->J.stop i H->
  wpAny (model P w) X.A (pyNext (.ref it)) (fun r s1=>r=none/\Inv X pins σ H s1) E s
 self:∀ (A:Around) (i:Nat) (s:Shared) (Q:Value->Shared->Prop) (E:Value->Shared->Prop),tn i s.heap->Q (.ref it) s->wpAny (model P w) A (pyIter (.ref it)) Q E s
noncomputable abbrev TI:=St->Hp->(It->Hp->Prop)->Prop
noncomputable def PIE (X:Cx) (pins:List (Addr × Obj)) (σ:St) (tg:Expr) (R:It->Hp->Prop) (itv:Value) (s2:Shared):Prop:=
 ∃ (it:Addr) (fp:List Addr) (tn:Nat->Heap->Prop) (J:It) (H':Hp),itv= .ref it/\Inv X pins σ H' s2/\Turn X.prog X.w X.K tg J fp it tn/\tn 0 s2.heap/\(∀ b ∈ fp,aeF X pins H' b)/\R J H'
noncomputable def PI (X:Cx) (tg iter:Expr) (wi:TI):Prop:=
 ∀ (pins:List (Addr × Obj)) (s:Shared) (σ:St) (H:Hp) (R:It->Hp->Prop),Inv X pins σ H s->wi σ H R->
  wpAny (model X.prog X.w) X.A (eval iter X.env) (fun v s1=>wpAny (model X.prog X.w) X.A (pyIter v) (PIE X pins σ tg R) X.xe s1) X.xe s
theorem afT {M : Model} {A : Around} {E : Value -> Shared -> Prop} {s : Shared} {tg : Expr} {it : Addr} {u : Value} {o : Obj} {n : String} {vs : Array Value} {Q : Unit -> Shared -> Prop} (ho : s.heap.get? it = some o) (hc : o.cls = .type n) (hd : o.data = .fields vs)
    (hn : ["enumerate", "zip", "dict_itemiterator", "dict_reverseitemiterator", "odict_iterator", "itertools.zip_longest", "itertools.pairwise"].contains n = false) (hQ : Q () s) : wpAny M A (letOwnedTupleGo tg (.ref it) u) Q E s := by
  unfold letOwnedTupleGo
  cases tg <;> first
    | exact wpAny_pure hQ
    | (cases u <;> first
        | exact wpAny_pure hQ
        | (refine wpAny_bind (wpAny_load ho ?_)
           rw [hc, hd]
           show wpAny M A (if (["enumerate", "zip", "dict_itemiterator", "dict_reverseitemiterator", "odict_iterator", "itertools.zip_longest", "itertools.pairwise"].contains n && vs[0]? == some (rawInt _)) = true then _ else _) Q E s
           rw [if_neg (by intro h; rw [hn, Bool.false_and] at h; cases h)]
           exact wpAny_pure hQ))
noncomputable def Itl (K:PySem.W.Frag) (a:Addr):It:=
 ⟨fun i H=>∃ xs x,SqL K H a xs/\xs[i]?=some x,fun i H x H'=>H'=H/\∀ xs,SqL K H a xs->xs[i]?=some x,fun i H=>∃ xs,SqL K H a xs/\xs.length<=i⟩
noncomputable def Itt (K:PySem.W.Frag) (a:Addr):It:=
 ⟨fun i H=>∃ xs x,SqT K H a xs/\xs[i]?=some x,fun i H x H'=>H'=H/\∀ xs,SqT K H a xs->xs[i]?=some x,fun i H=>∃ xs,SqT K H a xs/\xs.length<=i⟩
noncomputable def Itr (lo:Int) (n:Nat):It:=⟨fun i _=>i < n,fun i H x H'=>H'=H/\x= .int (lo+i),fun i _=>n<=i⟩
theorem ajs {P:Program}{w:World}{K:PySem.W.Frag}{tg:Expr} (a it:Addr):Turn P w K tg (Itl K a) [it] it (fun i h=>h.IsListIter it a i) where
 mem:=by simp
 obj:=fun i h st b hb=>by
  have e:b=it:=by simpa using hb
  subst e
  obtain ⟨o,e,c,d⟩:=st
  exact ⟨o,e,fun v z=>by rw [d] at z; cases z⟩
 keep:=fun i h h' st k=>st.at fun o e=>k it (by simp) o e
 item:=by
  intro X hP hw hK hc i pins s σ H E I hf st hg
  subst hP hw hK
  obtain ⟨xs,x,hq,hx⟩:=hg
  obtain ⟨its,rv,p,hz⟩:=I.list hq
  obtain ⟨u,hu,ru⟩:=rv.get hx
  obtain ⟨f0,f1,f2,f3,f4,f5⟩:=hf it (by simp)
  refine wpAny_pyNext_list_item st p.isList (x:=u) (by simpa using hu) fun h' st' sb=>?_
  have I1:Inv X pins σ H { s with heap:=h' }:=I.turned (t':=s.toks) (fun b o hb e=>(sb.2 b hb).trans e) f0 f1 f3 f4 f5
  obtain ⟨o,e,c,d⟩:=id st'
  exact ⟨u,rfl,afT (s:={ s with heap:=h' }) e c d (by decide) ⟨x,H,I1,ru,⟨rfl,fun ys hy=>by rw [I.list_inj hy hq]; exact hx⟩,st',fun b hb=>(hf b hb).1⟩⟩
 done:=by
  intro X hP hw hK hc i pins s σ H E I hf st hg
  subst hP hw hK
  obtain ⟨xs,hq,hx⟩:=hg
  obtain ⟨its,rv,p,hz⟩:=I.list hq
  obtain ⟨f0,f1,f2,f3,f4,f5⟩:=hf it (by simp)
  have hl:=rv.length
  exact wpAny_pyNext_list_end (I.ok.hd hc) st p.isList (by simp; omega) fun h' eb=>⟨rfl,I.turned (t':=s.toks) (fun b o hb e=>eb b o hb e) f0 f1 f3 f4 f5⟩
 self:=fun _ _ _ _ _ st h=>wpAny_pyIter_listiter st h
theorem ahp {P:Program}{w:World}{K:PySem.W.Frag}{tg:Expr} (a it:Addr):Turn P w K tg (Itt K a) [it] it (fun i h=>h.IsTupleIter it a i) where
 mem:=by simp
 obj:=fun i h st b hb=>by
  have e:b=it:=by simpa using hb
  subst e
  obtain ⟨o,e,c,d⟩:=st
  exact ⟨o,e,fun v z=>by rw [d] at z; cases z⟩
 keep:=fun i h h' st k=>st.at fun o e=>k it (by simp) o e
 item:=by
  intro X hP hw hK hc i pins s σ H E I hf st hg
  subst hP hw hK
  obtain ⟨xs,x,hq,hx⟩:=hg
  obtain ⟨its,rv,p,hz⟩:=I.tuple hq
  obtain ⟨u,hu,ru⟩:=rv.get hx
  obtain ⟨f0,f1,f2,f3,f4,f5⟩:=hf it (by simp)
  refine wpAny_pyNext_tuple_item st (show s.heap.IsTuple a its.toArray from p) (x:=u) (by simpa using hu) fun h' st' sb=>?_
  have I1:Inv X pins σ H { s with heap:=h' }:=I.turned (t':=s.toks) (fun b o hb e=>(sb.2 b hb).trans e) f0 f1 f3 f4 f5
  obtain ⟨o,e,c,d⟩:=id st'
  exact ⟨u,rfl,afT (s:={ s with heap:=h' }) e c d (by decide) ⟨x,H,I1,ru,⟨rfl,fun ys hy=>by rw [I.tuple_inj hy hq]; exact hx⟩,st',fun b hb=>(hf b hb).1⟩⟩
 done:=by
  intro X hP hw hK hc i pins s σ H E I hf st hg
  subst hP hw hK
  obtain ⟨xs,hq,hx⟩:=hg
  obtain ⟨its,rv,p,hz⟩:=I.tuple hq
  obtain ⟨f0,f1,f2,f3,f4,f5⟩:=hf it (by simp)
  have hl:=rv.length
  exact wpAny_pyNext_tuple_end (I.ok.hd hc) st (show s.heap.IsTuple a its.toArray from p) (by simp; omega) fun h' eb=>⟨rfl,I.turned (t':=s.toks) (fun b o hb e=>eb b o hb e) f0 f1 f3 f4 f5⟩
 self:=fun _ _ _ _ _ st h=>wpAny_pyIter_tupleiter st h
theorem ahq {P:Program}{w:World}{K:PySem.W.Frag}{tg:Expr} (it:Addr) (lo:Int) (n:Nat):Turn P w K tg (Itr lo n) [it] it (fun i h=>IsRangeIter h it (lo+(i:Nat)*1) ((n:Int) - (i:Nat)) 1) where
 mem:=by simp
 obj:=fun i h st b hb=>by
  have e:b=it:=by simpa using hb
  subst e
  exact ⟨_,st,fun v z=>by
   have z':Data.fields _=Data.cell v:=z
   cases z'⟩
 keep:=fun i h h' st k=>k it (by simp) _ st
 item:=by
  intro X hP hw hK hc i pins s σ H E I hf st hg
  subst hP hw hK
  obtain ⟨f0,f1,f2,f3,f4,f5⟩:=hf it (by simp)
  have W:=Walks.range (prog:=X.prog) (w:=X.w) (I.ok.hd hc) it lo 1 n
  refine W.item i s _ _ hg st fun v h' tk hv st' kk=>?_
  obtain ⟨t,rfl⟩:=hv
  have I1:Inv X pins σ H { s with heap:=h',toks:=tk }:=I.turned (fun b o hb e=>kk b o (by simpa using hb) e) f0 f1 f3 f4 f5
  refine ⟨_,rfl,afT (s:={ s with heap:=h',toks:=tk }) (n:="range_iterator") st' rfl rfl (by decide) ⟨.int (lo+i),H,I1,⟨t,?_⟩,⟨rfl,rfl⟩,st',fun b hb=>(hf b hb).1⟩⟩
  rw [Int.mul_one]
 done:=by
  intro X hP hw hK hc i pins s σ H E I hf st hg
  subst hP hw hK
  obtain ⟨f0,f1,f2,f3,f4,f5⟩:=hf it (by simp)
  exact wpAny_pyNext_range_end (I.ok.hd hc) st (by have:n<=i:=hg; omega) fun h' eb=>⟨rfl,I.turned (t':=s.toks) (fun b o hb e=>eb b o hb e) f0 f1 f3 f4 f5⟩
 self:=fun _ _ _ _ _ st h=>wpAny_pyIter_rangeiter st h
end L2
namespace L2
open PySem PySem.Spec PyProof.Rows
section
variable {X:Cx}{tg:Expr}
noncomputable def aqX (K:PySem.W.Frag) (tl:TE):TI:=fun σ H R=>tl σ H fun x H1=>∃ a,x= .ref a/\(∃ xs,SqL K H1 a xs)/\R (Itl K a) H1
noncomputable def ar0 (K:PySem.W.Frag) (tl:TE):TI:=fun σ H R=>tl σ H fun x H1=>∃ a,x= .ref a/\(∃ xs,SqT K H1 a xs)/\R (Itt K a) H1
theorem anc {l:Expr}{tl:TE} (hl:PE X l tl):PI X tg l (aqX X.K tl):=by
 intro pins s σ H R I h
 refine thn (hl pins s σ H _ I h) fun v s1 ⟨x,H1,I1,r1,q1⟩=>?_
 obtain ⟨a,e,⟨xs,hq⟩,q⟩:=q1
 subst e
 cases r1
 obtain ⟨its,rv,p,hz⟩:=I1.list hq
 refine wpAny_pyIter_list p.isList ?_
 refine ⟨s1.heap.objs.size,[s1.heap.objs.size],_,_,H1,rfl,I1.kept (t':=s1.toks) fun b o e=>Heap.get?_push_of_some _ e,ajs a _,⟨_,Heap.get?_push_size _ rfl,rfl,rfl⟩,fun b hb=>?_,q⟩
 have e:b=s1.heap.objs.size:=by simpa using hb
 subst e
 exact I1.fpOk (Nat.le_refl _) (I1.hok.fresh (Nat.le_refl _))
theorem apA {l:Expr}{tl:TE} (hl:PE X l tl):PI X tg l (ar0 X.K tl):=by
 intro pins s σ H R I h
 refine thn (hl pins s σ H _ I h) fun v s1 ⟨x,H1,I1,r1,q1⟩=>?_
 obtain ⟨a,e,⟨xs,hq⟩,q⟩:=q1
 subst e
 cases r1
 obtain ⟨its,rv,p,hz⟩:=I1.tuple hq
 refine wpAny_pyIter_tuple (show s1.heap.IsTuple a its.toArray from p) ?_
 refine ⟨s1.heap.objs.size,[s1.heap.objs.size],_,_,H1,rfl,I1.kept (t':=s1.toks) fun b o e=>Heap.get?_push_of_some _ e,ahp a _,⟨_,Heap.get?_push_size _ rfl,rfl,rfl⟩,fun b hb=>?_,q⟩
 have e:b=s1.heap.objs.size:=by simpa using hb
 subst e
 exact I1.fpOk (Nat.le_refl _) (I1.hok.fresh (Nat.le_refl _))
theorem akU {pins:List (Addr × Obj)}{σ:St}{H:Hp}{s:Shared}{R:It->Hp->Prop}{E:Value->Shared->Prop}{lo hi:Int}{t u v:Tok}{tk:Nat} (I:Inv X pins σ H s) (h1:-(2 ^ 62)<=lo) (h2:lo < 2 ^ 62) (h3:-(2 ^ 62)<=hi) (h4:hi < 2 ^ 62)
  (q:R (Itr lo (hi - lo).toNat) H):wpAny (model X.prog X.w) X.A (pyIter (.ref s.heap.objs.size)) (PIE X pins σ tg R) E { s with heap:=s.heap.push { cls:= .type "range",data:= .fields #[.int lo t,.int hi u,.int 1 v] },toks:=tk }:=by
 refine wpAny_pyIter_range (IsRange.new ..) (small_one h1 h2 h3 h4) ?_
 have I1:Inv X pins σ H { s with heap:=s.heap.push { cls:= .type "range",data:= .fields #[.int lo t,.int hi u,.int 1 v] },toks:=tk }:=I.kept fun b o e=>Heap.get?_push_of_some _ e
 refine ⟨(s.heap.push { cls:= .type "range",data:= .fields #[.int lo t,.int hi u,.int 1 v] }).objs.size,[(s.heap.push { cls:= .type "range",data:= .fields #[.int lo t,.int hi u,.int 1 v] }).objs.size],_,_,H,rfl,
  I1.kept (t':=tk) fun b o e=>Heap.get?_push_of_some _ e,ahq _ lo (hi - lo).toNat,?_,fun b hb=>?_,q⟩
 ·have e1:lo+((0:Nat):Int)*1=lo:=by simp
  have e2:(((hi - lo).toNat:Nat):Int) - ((0:Nat):Int)=Builtin.Range.rangeSize lo hi 1:=by rw [rangeSize_one]; split <;> omega
  show IsRangeIter _ _ (lo+((0:Nat):Int)*1) ((((hi - lo).toNat:Nat):Int) - ((0:Nat):Int)) 1
  rw [e1,e2]
  exact Heap.get?_push_size _ rfl
 ·have e:b=(s.heap.push { cls:= .type "range",data:= .fields #[.int lo t,.int hi u,.int 1 v] }).objs.size:=by simpa using hb
  subst e
  exact I1.fpOk (Nat.le_refl _) (I1.hok.fresh (Nat.le_refl _))
noncomputable def aqY (ta:TA):TI:=fun σ H R=>ta σ H fun vs H1=>∃ j:Int,vs=[.int j]/\-(2 ^ 62)<=j/\j < 2 ^ 62/\R (Itr 0 j.toNat) H1
theorem aa8 {a:Expr}{ta:TA}{p pos:Pos} (hg:Gl X "range") (hm:X.mg "range"=none) (ha:PA X [a] ta) (hs:starEach [a] X.env=[(false,eval a X.env)]:=by rfl):PI X tg (.Call (.Name "range" p) [a] [] pos) (aqY ta):=by
 intro pins s σ H R I h
 refine Call_ (Z9 I hg hm boot_range (PyProof.Rows.callWith_type1 (thn (ha pos pins s σ H _ I h) fun us s1 ⟨vs,H1,I1,r1,q1⟩=>?_) hs rfl))
 obtain ⟨j,e,q1,q2,q⟩:=q1
 subst e
 cases r1 with
 | cons r rr=>
  cases rr
  obtain ⟨t,rfl⟩:=r
  exact call_range_1 (akU I1 (by omega) (by omega) q1 q2 (by simpa using q))
noncomputable def ar1 (wi:TI) (g:TG) (tb:TS):TS:=fun D σ H=>wi σ H fun J H1=>∃ W:Nat->Nat->St->Hp->Prop,(∃ m,W 0 m σ H1)/\∀ i m σ H,W i m σ H->
 (J.stop i H/\D.nx σ H) ∨ (J.go i H/\∃ N:St->Hp->Prop,(∀ σ' H',N σ' H'->∃ m',m' < m/\W (i+1) m' σ' H')/\∀ x H',J.yld i H x H'->g x σ H' fun σ2 H2=>tb { D with nx:=N,ct:=N,bk:=D.nx } σ2 H2)
noncomputable def aa9 (fp:List Addr) (h:Heap):List (Addr × Obj):=fp.filterMap fun b=>(h.get? b).map fun o=>(b,o)
theorem zK {fp:List Addr}{h:Heap}{b:Addr}{o:Obj} (hb:b ∈ fp) (e:h.get? b=some o):(b,o) ∈ aa9 fp h:=List.mem_filterMap.mpr ⟨b,hb,by rw [e]; rfl⟩
theorem ajt {fp:List Addr}{h:Heap}{p:Addr × Obj} (hp:p ∈ aa9 fp h):p.1 ∈ fp/\h.get? p.1=some p.2:=by
 obtain ⟨b,hb,e⟩:=List.mem_filterMap.mp hp
 cases q:h.get? b with
 | none=>rw [q] at e; cases e
 | some o=>
  rw [q] at e
  have e':(b,o)=p:=Option.some.inj e
  subst e'
  exact ⟨hb,q⟩
theorem Inv.pinned {pins:List (Addr × Obj)}{σ:St}{H:Hp}{s:Shared}{fp:List Addr} (I:Inv X pins σ H s) (hf:∀ b ∈ fp,aeF X pins H b) (ho:∀ b ∈ fp,∃ o,s.heap.get? b=some o/\∀ v,o.data ≠ .cell v):Inv X (pins++aa9 fp s.heap) σ H s:=
 I.pins_of fun p hp=>(List.mem_append.mp hp).elim (fun z=>I.pin p (List.mem_append_right _ z)) fun z=>by
  obtain ⟨hb,e⟩:=ajt z
  obtain ⟨f0,f1,f2,_⟩:=hf p.1 hb
  obtain ⟨o,e',d⟩:=ho p.1 hb
  rw [e] at e'; cases e'
  exact ⟨e,f0,f1,f2,d⟩
theorem Inv.unpinned {pins pl:List (Addr × Obj)}{σ:St}{H:Hp}{s:Shared} (I:Inv X (pins++pl) σ H s):Inv X pins σ H s:=I.pins_of fun p hp=>I.pin p (List.mem_append_right _ (List.mem_append_left _ hp))
theorem aeG {iter:Expr}{body:List Stmt}{wi:TI}{g:TG}{tb:TS}{pos:Pos} (hp:PassesOwn (model X.prog X.w) X.A X.env X.xe) (hc:X.calm=true) (hi:PI X tg iter wi) (hg:PG X tg g) (hb:PSs X body tb)
  (hs:∀ x,foldedSetIterable iter X.env x=pure x:=by intro _; rfl):PS X (.For tg iter body [] pos) (ar1 wi g tb):=by
 intro pins s σ H D I h
 refine wpAny_For (thn (hi pins s σ H _ I h) fun v s1 h1=>thn h1 fun itv s2 h2=>?_) hs
 obtain ⟨it,fp,tn,J,H2,e,I2,T,st2,f2,W,⟨m0,w0⟩,turn⟩:=h2
 subst e
 have stat:∀ {H':Hp},(∀ b ∈ fp,H' b=none)->∀ b ∈ fp,aeF X pins H' b:=fun hn b hb=>⟨hn b hb,(f2 b hb).2⟩
 refine codeAny_forLoop_any (fun n s'=>∃ i σ' H',Inv X pins σ' H' s'/\tn i s'.heap/\(∀ b ∈ fp,H' b=none)/\W i n σ' H') ?_ m0 ⟨0,σ,H2,I2,st2,fun b hb=>(f2 b hb).1,w0⟩
 rintro n s3 ⟨i,σ3,H3,I3,st3,fr3,w3⟩
 rcases turn i n σ3 H3 w3 with ⟨stop,qn⟩ | ⟨go,N,hN,step⟩
 ·refine wpAny_passesOwn hp (thn (T.done X rfl rfl rfl hc i pins s3 σ3 H3 X.xe I3 (stat fr3) st3 stop) fun r s4 ⟨hr,I4⟩=>?_)
  subst hr
  exact wpAny_execs_nil ⟨σ3,H3,I4,qn⟩
 ·refine wpAny_passesOwn hp (thn (T.item X rfl rfl rfl hc i pins s3 σ3 H3 X.xe I3 (stat fr3) st3 go) fun r s4 ⟨u,hr,h4⟩=>?_)
  subst hr
  refine wpAny_passesOwn hp (thn h4 fun _ s5 ⟨x,H5,I5,r5,y5,st5,fr5⟩=>?_)
  have I5':=I5.pinned (stat fr5) (T.obj _ _ st5)
  refine wpAny_passesOwn hp (thn (hg _ s5 σ3 H5 x u _ I5' r5 (step x H5 y5)) fun _ s6 ⟨σ6,H6,I6,q6⟩=>?_)
  refine wpAny_passesOwn hp (thn (hb _ s6 σ6 H6 _ I6 q6) fun f s7 q7=>?_)
  have again:∀ {σ7:St} {H7:Hp},Inv X (pins++aa9 fp s5.heap) σ7 H7 s7->N σ7 H7->∃ m,m < n/\∃ i σ' H',Inv X pins σ' H' s7/\tn i s7.heap/\(∀ b ∈ fp,H' b=none)/\W i m σ' H':=fun {σ7 H7} I7 n7=>by
   obtain ⟨m',hm,w7⟩:=hN σ7 H7 n7
   refine ⟨m',hm,i+1,σ7,H7,I7.unpinned,T.keep _ _ _ st5 fun b hb o e=>(I7.pin (b,o) (List.mem_append_right _ (List.mem_append_right _ (zK hb e)))).1,fun b hb=>?_,w7⟩
   obtain ⟨o,e,d⟩:=T.obj _ _ st5 b hb
   exact (I7.pin (b,o) (List.mem_append_right _ (List.mem_append_right _ (zK hb e)))).2.1
  cases f with
  | next=>obtain ⟨σ7,H7,I7,n7⟩:=q7; exact again I7 n7
  | cont=>obtain ⟨σ7,H7,I7,n7⟩:=q7; exact again I7 n7
  | brk=>obtain ⟨σ7,H7,I7,q7⟩:=q7; exact ⟨σ7,H7,I7.unpinned,q7⟩
  | ret v=>obtain ⟨x7,σ7,H7,I7,r7,q7⟩:=q7; exact ⟨x7,σ7,H7,I7.unpinned,r7,q7⟩
end
theorem adO {lo:Int}{n:Nat}{g:TG}{tb:TS}{D:Ends}{σ:St}{H:Hp} (Pv:Nat->St->Hp->Prop) (h0:Pv 0 σ H)
  (hs:∀ i σ H,i < n->Pv i σ H->g (.int (lo+i)) σ H fun σ2 H2=>tb { D with nx:=Pv (i+1),ct:=Pv (i+1),bk:=D.nx } σ2 H2) (hd:∀ σ H,Pv n σ H->D.nx σ H):
  ∃ W:Nat->Nat->St->Hp->Prop,(∃ m,W 0 m σ H)/\∀ i m σ H,W i m σ H->
   ((Itr lo n).stop i H/\D.nx σ H) ∨ ((Itr lo n).go i H/\∃ N:St->Hp->Prop,(∀ σ' H',N σ' H'->∃ m',m' < m/\W (i+1) m' σ' H')/\∀ x H',(Itr lo n).yld i H x H'->g x σ H' fun σ2 H2=>tb { D with nx:=N,ct:=N,bk:=D.nx } σ2 H2):=by
 refine ⟨fun i m σ H=>m=n - i/\i<=n/\Pv i σ H,⟨n,by simp,Nat.zero_le _,h0⟩,?_⟩
 rintro i m σ H ⟨rfl,hi,p⟩
 by_cases hlt:i < n
 ·refine .inr ⟨hlt,Pv (i+1),fun σ' H' p'=>⟨n - (i+1),by omega,rfl,hlt,p'⟩,fun x H' y=>?_⟩
  obtain ⟨e,y⟩:=y
  subst e y
  exact hs i σ _ hlt p
 ·have e:i=n:=by omega
  subst e
  exact .inl ⟨Nat.le_refl _,hd σ H p⟩
end L2
namespace L2
open PySem PySem.Spec PyProof.Rows
noncomputable abbrev R2:=V->V->Hp->VK->Prop
noncomputable def OpR (X:Cx) (f:Value->Value->Sem Value) (r:R2):Prop:=
 ∀ (pins:List (Addr × Obj)) (s:Shared) (σ:St) (H:Hp) (x y:V) (v u:Value) (Q:VK),Inv X pins σ H s->jP x v->jP y u->r x y H Q->
  wpAny (model X.prog X.w) X.A (f v u) (EP X pins σ Q) X.xe s
noncomputable def UnR (X:Cx) (f:Value->Sem Value) (r:V->Hp->VK->Prop):Prop:=
 ∀ (pins:List (Addr × Obj)) (s:Shared) (σ:St) (H:Hp) (x:V) (v:Value) (Q:VK),Inv X pins σ H s->jP x v->r x H Q->
  wpAny (model X.prog X.w) X.A (f v) (EP X pins σ Q) X.xe s
noncomputable def ze (X:Cx) (f:Value) (r:List V->Hp->VK->Prop):Prop:=
 ∀ (pins:List (Addr × Obj)) (s:Shared) (σ:St) (H:Hp) (xs:List V) (us:List Value) (Q:VK),Inv X pins σ H s->jG xs us->r xs H Q->
  wpAny (model X.prog X.w) X.A (call f us) (EP X pins σ Q) X.xe s
noncomputable def tOp (r:R2) (ta tb:TE):TE:=fun σ H Q=>ta σ H fun x H1=>tb σ H1 fun y H2=>r x y H2 Q
noncomputable def tUn (r:V->Hp->VK->Prop) (ta:TE):TE:=fun σ H Q=>ta σ H fun x H1=>r x H1 Q
noncomputable def rI (C:Int->Int->Prop) (g:Int->Int->V):R2:=fun x y H Q=>∃ i j,x= .int i/\y= .int j/\C i j/\Q (g i j) H
noncomputable def rI0 (g:Int->Int->V):R2:=fun x y H Q=>∃ i j,x= .int i/\y= .int j/\Q (g i j) H
noncomputable def rU (g:Int->V):V->Hp->VK->Prop:=fun x H Q=>∃ i,x= .int i/\Q (g i) H
section
variable {X:Cx}{a b c:Expr}{ta tb tc:TE}{pos:Pos}
theorem apB (ha:PE X a ta) (hb:PE X b tb) {pins:List (Addr × Obj)}{s:Shared}{σ:St}{H:Hp}{R:V->V->Hp->Prop} (I:Inv X pins σ H s)
  (h:ta σ H fun x H1=>tb σ H1 fun y H2=>R x y H2) {Q:Value->Shared->Prop} {f:Value->Value->Sem Value}
  (hf:∀ v u s2 x y H2,Inv X pins σ H2 s2->jP x v->jP y u->R x y H2->wpAny (model X.prog X.w) X.A (f v u) Q X.xe s2):
  wpAny (model X.prog X.w) X.A (eval a X.env) (fun v s₁=>wpAny (model X.prog X.w) X.A (eval b X.env) (fun u s₂=>wpAny (model X.prog X.w) X.A (f v u) Q X.xe s₂) X.xe s₁) X.xe s:=by
 refine thn (ha pins s σ H _ I h) fun v s1 ⟨x,H1,I1,r1,q1⟩=>?_
 refine thn (hb pins s1 σ H1 _ I1 q1) fun u s2 ⟨y,H2,I2,r2,q2⟩=>?_
 exact hf v u s2 x y H2 I2 r1 r2 q2
theorem aqZ {op:Operator}{r:R2} (ho:OpR X (binaryOp op) r) (ha:PE X a ta) (hb:PE X b tb):PE X (.BinOp a op b pos) (tOp r ta tb):=by
 intro pins s σ H Q I h
 exact wpAny_BinOp (apB ha hb I h fun v u s2 x y H2 I2 rx ry q=>ho pins s2 σ H2 x y v u Q I2 rx ry q)
theorem aq0 {op:UnaryOp}{r:V->Hp->VK->Prop} (ho:UnR X (unaryOp op) r) (ha:PE X a ta):PE X (.UnaryOp op a pos) (tUn r ta):=by
 intro pins s σ H Q I h
 exact UnaryOp_ (thn (ha pins s σ H _ I h) fun v s1 ⟨x,H1,I1,r1,q1⟩=>ho pins s1 σ H1 x v Q I1 r1 q1)
theorem opI {f:Value->Value->Sem Value}{C:Int->Int->Prop}{g:Int->Int->Int}
  (rule:∀ (i j:Int) (t u:Tok) (s:Shared) (Q:Value->Shared->Prop) (E:Value->Shared->Prop),C i j->Q (.int (g i j) s.toks) { s with toks:=s.toks+1 }->wpAny (model X.prog X.w) X.A (f (.int i t) (.int j u)) Q E s):
  OpR X f (rI C fun i j=> .int (g i j)):=by
 intro pins s σ H x y v u Q I rx ry h
 obtain ⟨i,j,rfl,rfl,hc,q⟩:=h
 obtain ⟨t,rfl⟩:=rx
 obtain ⟨t',rfl⟩:=ry
 exact rule i j t t' s _ _ hc ⟨.int (g i j),H,I.tok _,⟨_,rfl⟩,q⟩
theorem aq1 {f:Value->Value->Sem Value}{g:Int->Int->Int}
  (rule:∀ (i j:Int) (t u:Tok) (s:Shared) (Q:Value->Shared->Prop) (E:Value->Shared->Prop),Q (.int (g i j) s.toks) { s with toks:=s.toks+1 }->wpAny (model X.prog X.w) X.A (f (.int i t) (.int j u)) Q E s):
  OpR X f (rI0 fun i j=> .int (g i j)):=by
 intro pins s σ H x y v u Q I rx ry h
 obtain ⟨i,j,rfl,rfl,q⟩:=h
 obtain ⟨t,rfl⟩:=rx
 obtain ⟨t',rfl⟩:=ry
 exact rule i j t t' s _ _ ⟨.int (g i j),H,I.tok _,⟨_,rfl⟩,q⟩
theorem apC {f:Value->Value->Sem Value}{g:Int->Int->Bool}
  (rule:∀ (i j:Int) (t u:Tok) (s:Shared) (Q:Value->Shared->Prop) (E:Value->Shared->Prop),Q (.bool (g i j)) s->wpAny (model X.prog X.w) X.A (f (.int i t) (.int j u)) Q E s):
  OpR X f (rI0 fun i j=> .bl (g i j)):=by
 intro pins s σ H x y v u Q I rx ry h
 obtain ⟨i,j,rfl,rfl,q⟩:=h
 obtain ⟨t,rfl⟩:=rx
 obtain ⟨t',rfl⟩:=ry
 exact rule i j t t' s _ _ ⟨.bl (g i j),H,I,rfl,q⟩
noncomputable def ar2 (i j:Int):Prop:=0 < j/\j < 1073741824
noncomputable def apD (i j:Int):Prop:=(-(2 ^ 64) < i/\i < 2 ^ 64) ∨ (-(2 ^ 64) < j/\j < 2 ^ 64)
theorem apD.ok {i j:Int} (h:apD i j):IntMulOk i j:=by
 rcases h with ⟨h1,h2⟩ | ⟨h1,h2⟩
 ·exact .of_left (intBits_le_64 h1 h2)
 ·exact .of_right (intBits_le_64 h1 h2)
theorem apE:OpR X (binaryOp .Add) (rI0 fun i j=> .int (i+j)):=aq1 fun _ _ _ _ _ _ _ q=>add_int q
theorem apF:OpR X (binaryOp .Sub) (rI0 fun i j=> .int (i - j)):=aq1 fun _ _ _ _ _ _ _ q=>sub_int q
theorem apG:OpR X (binaryOp .Mult) (rI apD fun i j=> .int (i*j)):=opI fun _ _ _ _ _ _ _ hc q=>mul_int q hc.ok
theorem ane:OpR X (binaryOp .FloorDiv) (rI ar2 fun i j=> .int (i / j)):=opI fun i j _ _ _ _ _ hc q=>by
 have h1:(0:Int) < j:=hc.1
 have h2:j < 1073741824:=hc.2
 exact floordiv_int (by omega) (by rw [Int.fdiv_eq_ediv_of_nonneg i (by omega)]; exact q) (.inl (PyProof.noPylong_small (by omega)))
theorem apH:OpR X (binaryOp .Mod) (rI (fun _ j=>0 < j) fun i j=> .int (i % j)):=opI fun i j _ _ _ _ _ hc q=>by
 have h1:(0:Int) < j:=hc
 exact mod_int' (by omega) (by rw [Int.fmod_eq_emod_of_nonneg i (by omega)]; exact q)
theorem unI {f:Value->Sem Value}{g:Int->Int}
  (rule:∀ (i:Int) (t:Tok) (s:Shared) (Q:Value->Shared->Prop) (E:Value->Shared->Prop),Q (.int (g i) s.toks) { s with toks:=s.toks+1 }->wpAny (model X.prog X.w) X.A (f (.int i t)) Q E s):
  UnR X f (rU fun i=> .int (g i)):=by
 intro pins s σ H x v Q I rx h
 obtain ⟨i,rfl,q⟩:=h
 obtain ⟨t,rfl⟩:=rx
 exact rule i t s _ _ ⟨.int (g i),H,I.tok _,⟨_,rfl⟩,q⟩
theorem apI:UnR X (unaryOp .USub) (rU fun i=> .int (-i)):=unI fun _ _ _ _ _ q=>neg_int q
end
section
variable {X:Cx}{a b c:Expr}{ta tb tc:TE}{pos:Pos}
theorem apJ {pins:List (Addr × Obj)}{σ:St}{H:Hp}{s:Shared}{Q:VK}{k k':Bool} (I:Inv X pins σ H s) (q:Q (.bl k) H) (e:k=k'):EP X pins σ Q (.bool k') s:=by
 subst e
 exact ⟨.bl k,H,I,rfl,q⟩
theorem aq2:OpR X (compareOp .Lt) (rI0 fun i j=> .bl (decide (i < j))):=apC fun _ _ _ _ _ _ _ q=>lt_int q
theorem aq3:OpR X (compareOp .LtE) (rI0 fun i j=> .bl (decide (i<=j))):=apC fun _ _ _ _ _ _ _ q=>le_int q
theorem aq4:OpR X (compareOp .GtE) (rI0 fun i j=> .bl (decide (j<=i))):=apC fun _ _ _ _ _ _ _ q=>ge_int q
theorem anf:OpR X (compareOp .IsNot) (fun x y H Q=>y= .non/\Q (.bl (!decide (x= .non))) H):=by
 intro pins s σ H x y v u Q I rx ry h
 obtain ⟨rfl,q⟩:=h
 cases ry
 refine isnot_none_gen (apJ I q ?_)
 cases x <;> first
  | (cases rx; rfl)
  | (obtain ⟨t,rfl⟩:=rx; rfl)
theorem OpR.or {f:Value->Value->Sem Value}{r r':R2} (h:OpR X f r) (h':OpR X f r'):OpR X f (fun x y H Q=>r x y H Q ∨ r' x y H Q):=by
 intro pins s σ H x y v u Q I rx ry q
 rcases q with q | q
 ·exact h pins s σ H x y v u Q I rx ry q
 ·exact h' pins s σ H x y v u Q I rx ry q
theorem akV (b:Expr) {op:CmpOp} (h:op ≠ .In:=by decide) (h2:op ≠ .NotIn:=by decide):behindInMarks op b=false:=by
 have e1:(op == CmpOp.In)=false:=by cases op <;> first | rfl | exact absurd rfl h
 have e2:(op == CmpOp.NotIn)=false:=by cases op <;> first | rfl | exact absurd rfl h2
 cases b <;> simp [behindInMarks,e1,e2]
theorem ang {op:CmpOp}{r:R2} (ho:OpR X (compareOp op) r) (ha:PE X a ta) (hb:PE X b tb) (hm:behindInMarks op b=false):PE X (.Compare a [op] [b] pos) (tOp r ta tb):=by
 intro pins s σ H Q I h
 exact wpAny_Compare1 (apB ha hb I h fun v u s2 x y H2 I2 rx ry q=>ho pins s2 σ H2 x y v u Q I2 rx ry q) hm
noncomputable def ao7 (t:TE):TT:=fun σ H Q=>t σ H fun x H'=>∃ k,x= .bl k/\Q k H'
theorem anh {op:CmpOp}{r:R2} (ho:OpR X (compareOp op) r) (ha:PE X a ta) (hb:PE X b tb) (hm:behindInMarks op b=false):PT X (.Compare a [op] [b] pos) (ao7 (tOp r ta tb)):=by
 intro pins s σ H Q I h
 refine wpAny_isTrue_Compare1 (thn (ha pins s σ H _ I h) fun v s1 ⟨x,H1,I1,r1,q1⟩=>thn (hb pins s1 σ H1 _ I1 q1) fun u s2 ⟨y,H2,I2,r2,q2⟩=>
  thn (ho pins s2 σ H2 x y v u _ I2 r1 r2 q2) fun c s3 ⟨z,H3,I3,r3,k,e,q3⟩=>?_) hm
 subst e
 cases r3
 exact wpAny_truthy_bool ⟨H3,I3,q3⟩
noncomputable def ahr (r r':R2) (ta tb tc:TE):TE:=fun σ H Q=>ta σ H fun x H1=>tb σ H1 fun y H2=>r x y H2 fun z H3=>∃ k,z= .bl k/\
 (if k=true then tc σ H3 fun w' H4=>r' y w' H4 Q else Q (.bl false) H3)
theorem akW {op op':CmpOp}{r r':R2} (ho:OpR X (compareOp op) r) (ho':OpR X (compareOp op') r') (ha:PE X a ta) (hb:PE X b tb) (hc:PE X c tc)
  (hm:lastMarks [op,op'] [b,c]=false:=by with_unfolding_all rfl):PE X (.Compare a [op,op'] [b,c] pos) (ahr r r' ta tb tc):=by
 intro pins s σ H Q I h
 refine Compare_chain (thn (ha pins s σ H _ I h) fun v s1 ⟨x,H1,I1,r1,q1⟩=>chain_link (thn (hb pins s1 σ H1 _ I1 q1) fun u s2 ⟨y,H2,I2,r2,q2⟩=>
  thn (ho pins s2 σ H2 x y v u _ I2 r1 r2 q2) fun d s3 ⟨z,H3,I3,r3,k,e,q3⟩=>?_)) hm
 subst e
 cases r3
 refine wpAny_truthy_bool ?_
 cases k with
 | false=>exact ite_ff ⟨.bl false,H3,I3,rfl,q3⟩
 | true=>exact ite_tt (chain_last (thn (hc pins s3 σ H3 _ I3 q3) fun w' s4 ⟨z',H4,I4,r4,q4⟩=>ho' pins s4 σ H4 y z' u w' Q I4 r2 r4 q4))
theorem akX {op op':CmpOp}{r r':R2} (ho:OpR X (compareOp op) r) (ho':OpR X (compareOp op') r') (ha:PE X a ta) (hb:PE X b tb) (hc:PE X c tc)
  (hm:lastMarks [op,op'] [b,c]=false:=by with_unfolding_all rfl):PT X (.Compare a [op,op'] [b,c] pos) (ao7 (ahr r r' ta tb tc)):=by
 intro pins s σ H Q I h
 refine isTrue_chain (thn (ha pins s σ H _ I h) fun v s1 ⟨x,H1,I1,r1,q1⟩=>test_link (thn (hb pins s1 σ H1 _ I1 q1) fun u s2 ⟨y,H2,I2,r2,q2⟩=>
  thn (ho pins s2 σ H2 x y v u _ I2 r1 r2 q2) fun d s3 ⟨z,H3,I3,r3,k,e,q3⟩=>?_)) hm
 subst e
 cases r3
 refine wpAny_truthy_bool ?_
 cases k with
 | false=>
  obtain ⟨k',e',q'⟩:=q3
  cases e'
  exact ite_ff ⟨H3,I3,q'⟩
 | true=>
  refine ite_tt (test_last (thn (hc pins s3 σ H3 _ I3 q3) fun w' s4 ⟨z',H4,I4,r4,q4⟩=>thn (ho' pins s4 σ H4 y z' u w' _ I4 r2 r4 q4) fun d' s5 ⟨z2,H5,I5,r5,k2,e2,q5⟩=>?_))
  subst e2
  cases r5
  exact wpAny_truthy_bool ⟨H5,I5,q5⟩
theorem aeH:(sizeLine:Nat) < 2 ^ 63:=by rw [sizeLine_eq]; decide
theorem Z3 {x:V}{us:List Value} (r:jG [x] us):∃ u,us=[u]/\jP x u:=by
 cases r with
 | cons r1 r2=>cases r2; exact ⟨_,rfl,r1⟩
theorem afU {x y:V}{us:List Value} (r:jG [x,y] us):∃ u w',us=[u,w']/\jP x u/\jP y w':=by
 cases r with
 | cons r1 r2=>
  cases r2 with
  | cons r3 r4=>cases r4; exact ⟨_,_,rfl,r1,r3⟩
theorem aju (hc:X.calm=true):ze X (.builtin "max") (fun xs H Q=>∃ i j,xs=[.int i,.int j]/\Q (.int (if j > i then j else i)) H):=by
 intro pins s σ H xs us Q I r h
 obtain ⟨i,j,rfl,q⟩:=h
 obtain ⟨u,w',rfl,⟨t,rfl⟩,⟨t',rfl⟩⟩:=afU r
 refine max_two_ints (I.ok.hd hc) fun h' tk k=>⟨_,H,I.kept k,?_,q⟩
 by_cases hj:j > i
 ·rw [if_pos hj,if_pos hj]; exact ⟨_,rfl⟩
 ·rw [if_neg hj,if_neg hj]; exact ⟨_,rfl⟩
theorem ajv (hc:X.calm=true):ze X (.builtin "min") (fun xs H Q=>∃ i j,xs=[.int i,.int j]/\Q (.int (if j < i then j else i)) H):=by
 intro pins s σ H xs us Q I r h
 obtain ⟨i,j,rfl,q⟩:=h
 obtain ⟨u,w',rfl,⟨t,rfl⟩,⟨t',rfl⟩⟩:=afU r
 refine min_two_ints (I.ok.hd hc) fun h' tk k=>⟨_,H,I.kept k,?_,q⟩
 by_cases hj:j < i
 ·rw [if_pos hj,if_pos hj]; exact ⟨_,rfl⟩
 ·rw [if_neg hj,if_neg hj]; exact ⟨_,rfl⟩
theorem ajw:ze X (.type "int") (fun xs H Q=>(∃ i,xs=[.int i]/\Q (.int i) H) ∨ ∃ k,xs=[.bl k]/\Q (.int (if k then 1 else 0)) H):=by
 intro pins s σ H xs us Q I r h
 rcases h with ⟨i,rfl,q⟩ | ⟨k,rfl,q⟩
 ·obtain ⟨u,rfl,t,rfl⟩:=Z3 r
  exact call_int_int ⟨.int i,H,I,⟨_,rfl⟩,q⟩
 ·obtain ⟨u,rfl,r1⟩:=Z3 r
  cases r1
  exact call_int_bool ⟨.int (if k then 1 else 0),H,I.tok _,⟨_,rfl⟩,q⟩
end
end L2
namespace L2
open PySem PySem.Spec PyProof.Rows
structure ObjM (h:Heap) (x dx C:Addr) (mA:Str->Option Value):Prop where
 obj:h.get? x=some (PySem.W.instObj C dx)
 ns:h.Ns1 dx mA
 ne:dx ≠ x
section
variable {prog:Program}{w:World}{A:Around}{E:Value->Shared->Prop}{s:Shared}{K:PySem.W.Frag}{x dx C f:Addr}{mA:Str->Option Value}{name:Str}{v:Value}
end
theorem abU.some_of {v:V}{o:Option Value} (r:abU (some v) o):∃ u,o=some u/\jP v u:=by
 cases o with
 | none=>exact (show False from r).elim
 | some u=>exact ⟨u,rfl,r⟩
section
variable {P:Program}{w:World}{H H':Hp}{h h':Heap}{a C dx:Addr}{fs fs':List (Str × V)}
end
structure Cls (K:PySem.W.Frag) (C:Addr):Prop where
 pg:PySem.W.plainGet K C Str.empty=true
 hd:PySem.W.hasDictIn K C=true
 po:PySem.W.plainOver K C=true
 sa:PySem.W.findIn K (.ref C) "__setattr__"=some (some (.builtin "object.__setattr__"))
theorem Cls.get {K:PySem.W.Frag}{C:Addr} (c:Cls K C) (f:Str):PySem.W.plainGet K C f=true:=c.pg
structure Con (K:PySem.W.Frag) (C:Addr) (f:Str) (v:V) (u:Value):Prop where
 at_:PySem.W.findIn K (.ref C) f=some (some u)
 rel:jP v u
 get:PySem.W.specialIn K u "__get__"=some none
 cp:PySem.W.copiedNames.contains f=false
structure Meth (K:PySem.W.Frag) (C:Addr) (m:Str) (f:Addr):Prop where
 at_:PySem.W.findIn K (.ref C) m=some (some (.ref f))
 fn:PySem.W.isFn K (.ref f)=true
 kp:PySem.W.keepIn K (.ref f)=true
section
variable {X:Cx}{pins:List (Addr × Obj)}{σ:St}{H:Hp}{s:Shared}{a C dx:Addr}{fs:List (Str × V)}{f:Str}{v:V}{A:Around}{E:Value->Shared->Prop}
theorem Inv.made (I:Inv X pins σ H s):Inv X pins σ (upd (upd H s.heap.objs.size (.own (s.heap.objs.size+1))) (s.heap.objs.size+1) (.ins C s.heap.objs.size []))
  { s with heap:=(s.heap.push PySem.W.emptyDict).push (PySem.W.instObj C s.heap.objs.size) }:=by
 have e1:(s.heap.push PySem.W.emptyDict).get? s.heap.objs.size=some PySem.W.emptyDict:=Heap.get?_push_size s.heap rfl
 have e2:((s.heap.push PySem.W.emptyDict).push (PySem.W.instObj C s.heap.objs.size)).get? (s.heap.objs.size+1)=some (PySem.W.instObj C s.heap.objs.size):=by
  have:=Heap.get?_push_size (s.heap.push PySem.W.emptyDict) (o:=PySem.W.instObj C s.heap.objs.size) rfl
  rwa [Heap.size_push] at this
 have e3:(s.heap.push PySem.W.emptyDict).Ns s.heap.objs.size (fun _=>none):=⟨PySem.W.emptyDict,#[],_,e1,rfl,(fun e he=>absurd he (by simp)),fun _=>rfl⟩
 have I1:=I.laid (a:=s.heap.objs.size) (o:= .own (s.heap.objs.size+1)) (h':=s.heap.push PySem.W.emptyDict) (t':=s.toks) (fun b u q=>Heap.get?_push_of_some _ q) (Nat.le_refl _) ⟨_,e1⟩
 refine I1.laid (a:=s.heap.objs.size+1) (o:= .ins C s.heap.objs.size []) (t':=s.toks) (fun b u q=>Heap.get?_push_of_some _ q) (Nat.le_of_eq (Heap.size_push _ _)) ?_
 have ne:s.heap.objs.size ≠ s.heap.objs.size+1:=Nat.ne_of_lt (Nat.lt_succ_self _)
 refine ⟨by rw [jn ne,jr],Nat.zero_le _,ne,e2,fun _=>none,(Heap.Ns1.of_empty e3).at fun o q=>Heap.get?_push_of_some _ q,fun _=>True.intro,fun y hy=>absurd rfl hy⟩
end
section
variable {X:Cx}{o e value:Expr}{f:Str}{pos pos' tpos:Pos}{ta tv:TE}
end
section
variable {X:Cx}{pins:List (Addr × Obj)}{σ:St}{H:Hp}{s:Shared}{A:Around}{E:Value->Shared->Prop}{Q:Value->Shared->Prop}{c:Value}{b:Bool}
inductive TyOf (K:PySem.W.Frag) (H:Hp):V->Value->Prop where
 | non:TyOf K H .non (.type "NoneType")
 | bl (x:Bool):TyOf K H (.bl x) (.type "bool")
 | int (i:Int):TyOf K H (.int i) (.type "int")
 | str (x:Str):TyOf K H (.str x) (.type "str")
 | flt (x:UInt64):TyOf K H (.flt x) (.type "float")
 | lst {a:Addr} {xs:List V} (e:H a=some (.lst xs)):TyOf K H (.ref a) (.type "list")
 | frz {a:Addr} {o:Obj} {xs:List V} (e:H a=some (.frz o (.lst xs))):TyOf K H (.ref a) (.type "list")
 | tup {a:Addr} {xs:List V} (e:H a=some (.tup xs)):TyOf K H (.ref a) (.type "tuple")
 | dK {a:Addr} {kvs:List (Key × V)} (e:H a=some (.dK kvs)):TyOf K H (.ref a) (.type "dict")
 | dT {a:Addr} {kvs:List (List Key × V)} (e:H a=some (.dT kvs)):TyOf K H (.ref a) (.type "dict")
 | ins {a C dx:Addr} {fs:List (Str × V)} (e:H a=some (.ins C dx fs)) (cl:Cls K C) (ha:PySem.W.findIn K (.ref C) "__class__"=some (some (.builtin "object.__class__")))
   (hn:PySem.W.specialIn K (.builtin "object.__class__") "__get__"=some (some (.builtin "getset_descriptor.__get__"))) (htk:PySem.W.takesIn K (.builtin "object.__class__")=some true)
   (hm:PySem.W.mroIn K C (.type "object")=some true):TyOf K H (.ref a) (.ref C)
end
end L2
namespace L2
open PySem PySem.Spec PyProof.Rows
structure Room (k:Nat) (A:Around):Prop where
 hd:A.handled=none
 dp:A.depth+3*k+5 < recursionLimit
 un:A.units+16*k+200 < cLine
theorem Room.mono {j k:Nat}{A:Around} (r:Room k A) (h:j<=k):Room j A:=⟨r.hd,by have:=r.dp; omega,by have:=r.un; omega⟩
theorem Room.deeper {k:Nat}{A:Around} (r:Room (k+1) A) (env:Env):Room k (A.deeper env):=
 ⟨r.hd,by have:=r.dp; show A.depth+1+3*k+5 < _; omega,by have:=r.un; show A.units+3+16*k+200 < _; omega⟩
theorem Room.in1 {k:Nat}{A:Around} (r:Room (k+1) A):Room k A.in1:=
 ⟨r.hd,by have:=r.dp; show A.depth+3*k+5 < _; omega,by have:=r.un; show A.units+1+16*k+200 < _; omega⟩
theorem Room.depth {k:Nat}{A:Around} (r:Room k A):A.depth < recursionLimit:=by have:=r.dp; omega
theorem Room.units {k:Nat}{A:Around} (r:Room k A):A.units+64 < cLine:=by have:=r.un; omega
noncomputable def ani:TA:=fun _ H Q=>Q [] H
noncomputable def afV (ta:TE) (tr:TA):TA:=fun σ H Q=>ta σ H fun x H1=>tr σ H1 fun xs H2=>Q (x::xs) H2
section
variable {X:Cx}{e:Expr}{es:List Expr}{te:TE}{t:TA}{pos:Pos}
theorem adD {α:Type}:∀ (us:List α),us.length=1->∃ a,us=[a]
 | [a],_=>⟨a,rfl⟩
theorem adE {α:Type} (us:List α) (h:us.length=2):∃ a b,us=[a,b]:=by
 cases us with
 | nil=>cases h
 | cons a r=>obtain ⟨b,rfl⟩:=adD r (Nat.succ.inj h); exact ⟨a,b,rfl⟩
theorem aaa {α:Type} (us:List α) (h:us.length=3):∃ a b c,us=[a,b,c]:=by
 cases us with
 | nil=>cases h
 | cons a r=>obtain ⟨b,c,rfl⟩:=adE r (Nat.succ.inj h); exact ⟨a,b,c,rfl⟩
theorem ar3 {α:Type} (us:List α) (h:us.length=4):∃ a b c d,us=[a,b,c,d]:=by
 cases us with
 | nil=>cases h
 | cons a r=>obtain ⟨b,c,d,rfl⟩:=aaa r (Nat.succ.inj h); exact ⟨a,b,c,d,rfl⟩
theorem zL:PA X [] ani:=fun _ _ _ _ H Q I h=>Calls.spliced_nil ⟨[],H,I,.nil,h⟩
theorem qm (ha:PE X e te) (hr:PA X es t) (hs:starEach (e::es) X.env=(false,eval e X.env)::starEach es X.env:=by rfl):PA X (e::es) (afV te t):=by
 intro pos pins s σ H Q I h
 rw [hs]
 show wpAny _ _ (spliced ((false,eval e X.env)::backTo pos (starEach es X.env))) _ _ s
 refine Calls.spliced_cons (thn (ha pins s σ H _ I h) fun u s1 ⟨x,H1,I1,r1,q1⟩=>?_)
 exact thn (hr pos pins s1 σ H1 _ I1 q1) fun us s2 ⟨xs,H2,I2,r2,q2⟩=>⟨x::xs,H2,I2,.cons r1 r2,q2⟩
noncomputable def ar4 (t:TA):TE:=fun σ H Q=>t σ H fun xs H1=>xs.length<=sizeLine/\∀ p,H1 p=none->Q (.ref p) (upd H1 p (.tup xs))
noncomputable def ar5 (t:TA):TE:=fun σ H Q=>t σ H fun xs H1=>xs.length<=sizeLine/\∀ p,H1 p=none->Q (.ref p) (upd H1 p (.lst xs))
theorem akY {x1} (h:PA X es t):PE X (.Tuple es x1 pos) (ar4 t):=by
 intro pins s σ H Q I hq
 refine wpAny_Tuple_spliced (thn (h pos pins s σ H _ I hq) fun us s1 ⟨xs,H1,I1,r,z,q⟩=>⟨by rw [←r.length]; exact z,?_⟩)
 have hf:H1 s1.heap.objs.size=none:=I1.hok.fresh (Nat.le_refl _)
 refine ⟨.ref s1.heap.objs.size,upd H1 s1.heap.objs.size (.tup xs),I1.laid (t':=s1.toks) (fun b u e=>Heap.get?_push_of_some _ e) (Nat.le_refl _) ?_,rfl,q _ hf⟩
 exact ⟨z,us,r,⟨_,Heap.get?_push_size _ rfl,rfl,_,rfl⟩⟩
theorem ahs (h:PA X es t):PE X (.List es pos) (ar5 t):=by
 intro pins s σ H Q I hq
 refine wpAny_List_spliced (thn (h pos pins s σ H _ I hq) fun us s1 ⟨xs,H1,I1,r,z,q⟩=>⟨by rw [←r.length]; exact z,?_⟩)
 have hf:H1 s1.heap.objs.size=none:=I1.hok.fresh (Nat.le_refl _)
 refine ⟨.ref s1.heap.objs.size,upd H1 s1.heap.objs.size (.lst xs),I1.laid (t':=s1.toks) (fun b u e=>Heap.get?_push_of_some _ e) (Nat.le_refl _) ?_,rfl,q _ hf⟩
 exact ⟨z,us,0,r,Heap.get?_push_size _ rfl⟩
end
noncomputable abbrev Sp:=List V->Hp->VK->XK->Prop
noncomputable abbrev CXT:=List Env->Hp->Shared->XK->Value->Shared->Prop
structure Env0 (P:Program) (w:World) (K:PySem.W.Frag) (mg:Str->Option Value) (base:Heap) (A:Around) (outer:List Env) (s:Shared) (H:Hp):Prop where
 frames:A.frames=some outer
 mod:Mod K mg base
 bs:∀ b o,base.get? b=some o->s.heap.get? b=some o/\H b=none
 bsz:base.objs.size<=s.heap.objs.size
 funs:s.heap.FunFrames base outer
 frf:∀ b ∈ frs outer,H b=none
 hok:HOk P w H s.heap
 bare:AllBare s.gens
noncomputable def CE (outer:List Env) (P:Program) (w:World) (H:Hp) (s:Shared) (Q:VK) (u:Value) (s':Shared):Prop:=
 ∃ v H',s'.os=s.os/\AllBare s'.gens/\Un (frs outer) [] H H' s.heap s'.heap/\HOk P w H' s'.heap/\jP v u/\Q v H'
noncomputable def CR (CX:CXT) (outer:List Env) (P:Program) (w:World) (H:Hp) (s:Shared) (Q:VK) (E:XK) (r:Result) (s':Shared):Prop:=
 match r with
 | .ok (.ret u)=>CE outer P w H s Q u s'
 | .ok _=>False
 | .error e=>CX outer H s E e s'
structure FnOk (P:Program) (w:World) (K:PySem.W.Frag) (mg:Str->Option Value) (base:Heap) (CX:CXT) (k:Nat) (f:Addr) (fd:FuncData) (ps:List Str) (sp:Sp):Prop where
 len:∀ vs H Q E,sp vs H Q E->vs.length=ps.length
 run:∀ (A:Around) (outer:List Env) (s:Shared) (H:Hp) (args:Args) (us:List Value) (vs:List V) (Q:VK) (E:XK),Room k A->Env0 P w K mg base A outer s H->BindsTo s fd args (ps.zip us)->jG vs us->sp vs H Q E->
  codeAny (model P w) A (.call (.ref f) args) (CR CX outer P w H s Q E) s
theorem FnOk.mono {P:Program}{w:World}{K:PySem.W.Frag}{mg:Str->Option Value}{base:Heap}{CX:CXT}{j k:Nat}{f:Addr}{fd:FuncData}{ps:List Str}{sp:Sp} (F:FnOk P w K mg base CX j f fd ps sp) (h:j<=k):
  FnOk P w K mg base CX k f fd ps sp:=⟨F.len,fun A outer s H args us vs Q E hr=>F.run A outer s H args us vs Q E (hr.mono h)⟩
theorem FnOk.imp {P:Program}{w:World}{K:PySem.W.Frag}{mg:Str->Option Value}{base:Heap}{CX:CXT}{k:Nat}{f:Addr}{fd:FuncData}{ps:List Str}{sp sp':Sp} (F:FnOk P w K mg base CX k f fd ps sp)
  (h:∀ vs H Q E,sp' vs H Q E->sp vs H Q E):FnOk P w K mg base CX k f fd ps sp':=
 ⟨fun vs H Q E q=>F.len vs H Q E (h _ _ _ _ q),fun A outer s H args us vs Q E hr he hb hv hs=>F.run A outer s H args us vs Q E hr he hb hv (h _ _ _ _ hs)⟩
theorem Env0.in1 {P:Program}{w:World}{K:PySem.W.Frag}{mg:Str->Option Value}{base:Heap}{A:Around}{outer:List Env}{s:Shared}{H:Hp} (e:Env0 P w K mg base A outer s H):
  Env0 P w K mg base A.in1 outer s H:=⟨e.frames,e.mod,e.bs,e.bsz,e.funs,e.frf,e.hok,e.bare⟩
section
variable {X:Cx}{pins:List (Addr × Obj)}{σ:St}{H:Hp}{s s':Shared}
theorem Inv.env0 (I:Inv X pins σ H s):Env0 X.prog X.w X.K X.mg X.base X.A X.stack s H:=
 ⟨I.ok.frames,I.ok.mod,I.bs,Nat.le_trans I.ok.bsz I.sz,I.stack,I.stkFree,I.hok,I.bare⟩
theorem Inv.after {Q:VK}{u:Value} (I:Inv X pins σ H s) (h:CE X.stack X.prog X.w H s Q u s'):EP X pins σ Q u s':=by
 obtain ⟨v,H',os,bare,un,hok,r,q⟩:=h
 obtain ⟨hh,g,d,t,os'⟩:=s'
 obtain rfl:os'=s.os:=os
 exact ⟨v,H',I.call (h':=hh) (g':=g) (d':=d) (t':=t) (ch:=[]) un hok bare (fun b z=>absurd z (by simp)),r,q⟩
end
noncomputable def ao8 (sp:Sp) (dvs:List V) (E:XK) (t:TA):TE:=fun σ H Q=>t σ H fun vs H1=>sp (vs++dvs) H1 Q E
noncomputable def QZ (K:PySem.W.Frag) (fd:FuncData) (ps:List Str) (ds:List Value):Prop:=
 ∀ (s:Shared) (us:List Value),K.In s.heap->(us++ds).length=ps.length->BindsTo s fd ⟨us,[]⟩ (ps.zip (us++ds))
theorem QZ.all {K:PySem.W.Frag}{fd:FuncData}{ps:List Str} (h:∀ us:List Value,us.length=ps.length->bindArgs fd ⟨us,[]⟩=pure (ps.zip us)):QZ K fd ps []:=fun s us _ hl=>by
 rw [List.append_nil] at hl ⊢
 exact .of_eq (h us hl)
noncomputable def aht (CX:CXT) (X:Cx) (E:XK):Prop:=∀ (pins:List (Addr × Obj)) (σ:St) (H:Hp) (s:Shared) (e:Value) (s':Shared),Inv X pins σ H s->CX X.stack H s E e s'->X.xe e s'
section
variable {X:Cx}{CX:CXT}{k:Nat}{f C:Addr}{fd:FuncData}{ps:List Str}{sp:Sp}{dvs:List V}{ds:List Value}{E:XK}{x m:Str}{p pos apos:Pos}{e o:Expr}{es:List Expr}{ta:TE}{t:TA}
theorem ahu {pins:List (Addr × Obj)}{σ:St}{H:Hp}{s:Shared}{Q:VK}{us:List Value}{vs:List V} (F:FnOk X.prog X.w X.K X.mg X.base CX k f fd ps sp) (hr:Room k X.A) (hb:QZ X.K fd ps ds) (hd:jG dvs ds) (hx:aht CX X E)
  (I:Inv X pins σ H s) (r:jG vs us) (h:sp (vs++dvs) H Q E):wpAny (model X.prog X.w) X.A (call (.ref f) us) (EP X pins σ Q) X.xe s:=by
 have r2:jG (vs++dvs) (us++ds):=r.append hd
 have hl:(us++ds).length=ps.length:=by rw [←r2.length]; exact F.len _ _ _ _ h
 refine wpAny_call (codeAny_mono (F.run X.A X.stack s H ⟨us,[]⟩ (us++ds) (vs++dvs) Q E hr I.env0 (hb s us I.kIn hl) r2 h) fun r s' hq=>?_)
 cases r with
 | error e=>exact hx pins σ H s e s' I hq
 | ok fl=>
  cases fl with
  | ret u=>exact I.after hq
  | next=>exact False.elim hq
  | brk=>exact False.elim hq
  | cont=>exact False.elim hq
theorem anj (F:FnOk X.prog X.w X.K X.mg X.base CX k f fd ps sp) (hr:Room k X.A) (hg:Gl X x) (hm:X.mg x=some (.ref f)) (hk:PySem.W.keepIn X.K (.ref f)=true) (hb:QZ X.K fd ps ds) (hd:jG dvs ds) (hx:aht CX X E)
  (ha:PA X (e::es) t) (hdb:(x == ("__debug__":Str))=false:=by decide) (he:starEach (e::es) X.env=(false,eval e X.env)::starEach es X.env:=by rfl) (hpl:(backTo pos (starEach es X.env)).any (·.1)=false:=by rfl):
  PE X (.Call (.Name x p) (e::es) [] pos) (ao8 sp dvs E t):=by
 intro pins s σ H Q I h
 refine wpAny_Call_Name_kw (aaq I hg hm ?_ hdb)
 refine PySem.W.callWith_K (h₀:=X.base) I.ok.mod.kin hk (thn (ha pos pins s σ H _ I h) fun us s1 ⟨vs,H1,I1,r,q⟩=>⟨I1.kIn,?_⟩) he hpl
 exact ahu F hr hb hd hx I1 r q
structure Mk (K:PySem.W.Frag) (C f:Addr):Prop where
 makes:PySem.W.makesIn K C=true
 init:PySem.W.findIn K (.ref C) "__init__"=some (some (.ref f))
 fn:PySem.W.isFn K (.ref f)=true
 kp:PySem.W.keepIn K (.ref C)=true
end
noncomputable def PK (X:Cx) (kws:List Keyword) (t:TA):Prop:=
 ∀ (pos:Pos) (pins:List (Addr × Obj)) (s:Shared) (σ:St) (H:Hp) (Q:List V->Hp->Prop),Inv X pins σ H s->t σ H Q->wpAny (model X.prog X.w) X.A (evalAll ((backToKw pos (keywordEach kws X.env)).map (·.2))) (AP X pins σ Q) X.xe s
section
variable {X:Cx}{CX:CXT}{k:Nat}{f C:Addr}{fd:FuncData}{ps ks:List Str}{sp:Sp}{E:XK}{x m:Str}{p pos apos kpos:Pos}{e o:Expr}{es:List Expr}{kws:List Keyword}{te ta:TE}{t tk:TA}{nm:Option Str}
theorem apK:PK X [] ani:=fun _ _ _ _ H Q I h=>wpAny_evalAll_nil ⟨[],H,I,.nil,h⟩
theorem aiw (ha:PE X e te) (hr:PK X kws t):PK X (⟨nm,e,kpos⟩::kws) (afV te t):=by
 intro pos pins s σ H Q I h
 show wpAny _ _ (evalAll ((do let v ←eval e X.env; standAt pos; pure v)::(backToKw pos (keywordEach kws X.env)).map (·.2))) _ _ s
 refine wpAny_evalAll_cons (wpAny_bind (thn (ha pins s σ H _ I h) fun u s1 ⟨x,H1,I1,r1,q1⟩=>wpAny_bind (wpAny_standAt (wpAny_pure ?_))))
 exact thn (hr pos pins s1 σ H1 _ I1 q1) fun us s2 ⟨xs,H2,I2,r2,q2⟩=>⟨x::xs,H2,I2,.cons r1 r2,q2⟩
structure KBinds (K:PySem.W.Frag) (fd:FuncData) (ps ks:List Str) (g:List Value->List Value->List Value) (gV:List V->List V->List V):Prop where
 to:∀ (s:Shared) (us ws:List Value),K.In s.heap->(g us ws).length=ps.length->BindsTo s fd ⟨us,ks.zip ws⟩ (ps.zip (g us ws))
 rel:∀ {vs:List V} {us:List Value} {zs:List V} {ws:List Value},jG vs us->jG zs ws->jG (gV vs zs) (g us ws)
variable {g:List Value->List Value->List Value}{gV:List V->List V->List V}
end
structure FnScope (N P:List Str) (sc:Scope):Prop where
 kind:sc.kind= .function
 co:sc.isCoroutine=false
 gen:sc.isGenerator=false
 nd:N.Nodup
 pre:N.take P.length=P
 par:∀ x ∈ P,sc.names.lookup x=some .local ∨ sc.names.lookup x=some .cell
 nofree:∀ y ∈ sc.names,y.2 ≠ .free
theorem adP {kindOf:Str->Option NameKind}{x:Str}:∀ {binds:List (Str × Value)}{m:Str->Option Value},(∀ v,(x,v) ∉ binds)->bindL kindOf binds m x=m x
 | [],_,_=>rfl
 | (n,v)::r,m,h=>by
  unfold bindL
  rw [adP fun w hw=>h w (List.mem_cons_of_mem _ hw)]
  split
  ·have:x ≠ n:=by rintro rfl; exact h v List.mem_cons_self
   simp [this]
  ·rfl
theorem adQ {kindOf:Str->Option NameKind}{x:Str}:∀ {binds:List (Str × Value)}{m:Str->Option Value},(∀ v,(x,v) ∉ binds)->bindC kindOf binds m x=m x
 | [],_,_=>rfl
 | (n,v)::r,m,h=>by
  unfold bindC
  rw [adQ fun w hw=>h w (List.mem_cons_of_mem _ hw)]
  split
  ·rfl
  ·have:x ≠ n:=by rintro rfl; exact h v List.mem_cons_self
   simp [this]
theorem adR {kindOf:Str->Option NameKind}{x:Str}{v:Value}:∀ {P:List Str}{vs:List Value}{i:Nat}{m:Str->Option Value},P.Nodup->P[i]?=some x->vs[i]?=some v->kindOf x=some .local->
  bindL kindOf (P.zip vs) m x=some v
 | [],_,_,_,_,h,_,_=>by simp at h
 | _::_,[],_,_,_,_,h,_=>by simp at h
 | p::P,w::vs,0,m,nd,h1,h2,hk=>by
  simp at h1 h2; subst h1; subst h2
  show bindL kindOf ((p,w)::P.zip vs) m p=_
  unfold bindL
  rw [adP fun v hv=>(List.nodup_cons.mp nd).1 (List.of_mem_zip hv).1,if_pos hk]
  simp
 | p::P,w::vs,i+1,m,nd,h1,h2,hk=>by
  show bindL kindOf ((p,w)::P.zip vs) m x=_
  unfold bindL
  exact adR (i:=i) (List.nodup_cons.mp nd).2 (by simpa using h1) (by simpa using h2) hk
theorem adS {kindOf:Str->Option NameKind}{x:Str}{v:Value}:∀ {P:List Str}{vs:List Value}{i:Nat}{m:Str->Option Value},P.Nodup->P[i]?=some x->vs[i]?=some v->kindOf x ≠ some .local->
  bindC kindOf (P.zip vs) m x=some v
 | [],_,_,_,_,h,_,_=>by simp at h
 | _::_,[],_,_,_,_,h,_=>by simp at h
 | p::P,w::vs,0,m,nd,h1,h2,hk=>by
  simp at h1 h2; subst h1; subst h2
  show bindC kindOf ((p,w)::P.zip vs) m p=_
  unfold bindC
  rw [adQ fun v hv=>(List.nodup_cons.mp nd).1 (List.of_mem_zip hv).1,if_neg hk]
  simp
 | p::P,w::vs,i+1,m,nd,h1,h2,hk=>by
  show bindC kindOf ((p,w)::P.zip vs) m x=_
  unfold bindC
  exact adS (i:=i) (List.nodup_cons.mp nd).2 (by simpa using h1) (by simpa using h2) hk
noncomputable def zH (N:List Str) (vs:List V):St:=vs.map some++List.replicate (N.length - vs.length) none
noncomputable def Jo (CX:CXT) (P:Program) (w:World) (K:PySem.W.Frag) (mg:Str->Option Value) (base:Heap) (N:List Str) (qual:Str) (scope:Scope) (f:Addr) (cd:Value) (A:Around) (outer:List Env) (s:Shared) (H:Hp) (E:XK):Cx where
 prog:=P
 w:=w
 K:=K
 mg:=mg
 base:=base
 A:=A.deeper (envOfC qual scope s.heap.objs.size f cd)
 N:=N
 s₀:=s
 H₀:=H
 env:=envOfC qual scope s.heap.objs.size f cd
 outer:=outer
 stack:=envOfC qual scope s.heap.objs.size f cd::outer
 ex:=[]
 calm:=true
 fn:=fun _=>true
 pn:=[]
 xe:=fun e s'=>wpAny (model P w) (A.deeper (envOfC qual scope s.heap.objs.size f cd)) (leaving (envOfC qual scope s.heap.objs.size f cd) e) (fun _ s''=>CX outer H s E e s'') (fun e' s''=>CX outer H s E e' s'') s'
theorem afW {sc:Scope}{n:Nat}{x:Str} (h:sc.names.lookup x=some .cell):∃ c,(cellsFrom n sc.names []).lookup x=some c:=by
 have q:=PySem.W.cellsFrom_some sc.names n [] (.inl h)
 exact Option.isSome_iff_exists.mp q
theorem aba {CX:CXT}{P:Program}{w:World}{K:PySem.W.Frag}{mg:Str->Option Value}{base:Heap}{N ps:List Str}{qual:Str}{scope:Scope}{f:Addr}{cd:Value}{A:Around}{outer:List Env}{s s1:Shared}{H:Hp}{E:XK}{us:List Value}{vs:List V}
  (S:FnScope N ps scope) (hd:A.handled=none) (e0:Env0 P w K mg base A outer s H) (hl:vs.length=ps.length) (r:jG vs us)
  (x:InCallC s s.heap.objs.size (bindL (envOfC qual scope s.heap.objs.size f cd).kindOf (ps.zip us) fun _=>none) (cellsFrom (s.heap.objs.size+1) scope.names []) (bindC (envOfC qual scope s.heap.objs.size f cd).kindOf (ps.zip us) fun _=>none) s1):
  Inv (Jo CX P w K mg base N qual scope f cd A outer s H E) [] (zH N vs) H s1:=by
 have hpl:ps.length<=N.length:=by have:=congrArg List.length S.pre; rw [List.length_take] at this; omega
 obtain ⟨h1,tk,rfl,hk⟩:=x.done
 have noA:∀ b:Addr,b ∉ (Jo CX P w K mg base N qual scope f cd A outer s H E).ex:=fun b z=>absurd (show b ∈ ([]:List Addr) from z) (by simp)
 refine ⟨⟨e0.mod,S.kind,rfl,rfl,Nat.le_refl _,fun y z c h1 h2=>?_,fun y hy=>?_,fun y c _ h=>?_,fun _=>hd,Around.frames_deeper e0.frames,.inr ⟨rfl,rfl⟩,fun b z=>absurd z (noA b),e0.bs,e0.bsz,fun b _ _=>noA b,fun b z=>absurd z (noA b),e0.funs,e0.frf⟩,
  rfl,e0.bare,Un.kept hk,⟨_,x.toInCall.ns,fun i y v h1 h2 h3=>?_⟩,fun y c h=>⟨_,x.cell y c h⟩,e0.hok.fresh (Nat.le_refl _),fun y c h=>?_,fun p hp=>absurd (show p ∈ ([]:List (Addr × Obj)) from hp) (by simp),e0.hok.kept hk,?_⟩
 ·exact name_of_addr x.apart (PySem.mem_of_lookup h1) (PySem.mem_of_lookup h2)
 ·have hy:scope.names.lookup y=some .cell ∨ scope.names.lookup y=some .free:=hy
  rcases hy with hy | hy
  ·exact afW hy
  ·exact absurd rfl (S.nofree _ (PySem.mem_of_lookup hy))
 ·exact Nat.le_of_lt (x.above y c (PySem.mem_of_lookup h))
 ·have hi:i < vs.length:=by
   unfold zH at h2
   by_cases hi:i < vs.length
   ·exact hi
   ·rw [List.getElem?_append_right (by simpa using hi)] at h2
    rw [List.getElem?_replicate] at h2
    split at h2 <;> cases h2
  have ha:vs[i]?=some v:=by
   unfold zH at h2
   rw [List.getElem?_append_left (by simpa using hi),List.getElem?_map] at h2
   cases e:vs[i]? with
   | none=>rw [e] at h2; cases h2
   | some a=>rw [e] at h2; cases h2; rfl
  obtain ⟨u,hu,rv⟩:=r.get ha
  have hp:ps[i]?=some y:=by
   rw [←S.pre,List.getElem?_take_of_lt (by omega)]; exact h1
  have ndP:ps.Nodup:=by rw [←S.pre]; exact S.nd.sublist (List.take_sublist _ _)
  refine ⟨u,rv,?_⟩
  rcases S.par y (List.mem_of_getElem? hp) with k | k
  ·exact .inl ⟨k,adR ndP hp hu k⟩
  ·obtain ⟨c,e⟩:=afW (n:=s.heap.objs.size+1) k
   refine .inr ⟨.inl k,c,e,?_⟩
   have q:=x.cell y c e
   rw [adS ndP hp hu (by show scope.names.lookup y ≠ _; rw [k]; decide)] at q
   exact q
 ·exact e0.hok.fresh (Nat.le_of_lt (x.above y c (PySem.mem_of_lookup h)))
 ·unfold zH
  show _=N.length
  rw [List.length_append,List.length_map,List.length_replicate]
  omega
theorem aq5 {CX:CXT}{P:Program}{w:World}{K:PySem.W.Frag}{mg:Str->Option Value}{base:Heap}{k:Nat}{f:Addr}{name qual:Str}{params:Arguments}{body:List Stmt}{scope:Scope}{dV kV doc pm cdv ct oc:Value}{an od:Option Addr}
  {osl:Array (Option Value)} {N ps:List Str} {sp:Sp} (lk:K.lookup f=some ⟨oc,od,.func (PySem.W.fnOf name qual params body scope dV kV doc pm an cdv ct),osl⟩) (hcd:PySem.W.codeIn K cdv qual=true) (S:FnScope N ps scope)
  (len:∀ vs H Q E,sp vs H Q E->vs.length=ps.length)
  (hbody:∀ (A:Around) (outer:List Env) (s:Shared) (H:Hp) (vs:List V) (Q:VK) (E:XK),Room k (A.deeper (envOfC qual scope s.heap.objs.size f cdv))->sp vs H Q E->
   ∃ t,PSs (Jo CX P w K mg base N qual scope f cdv A outer s H E) body t/\t { nx:=fun _ H'=>Q .non H',rt:=Q } (zH N vs) H):
  FnOk P w K mg base CX (k+1) f (PySem.W.fnOf name qual params body scope dV kV doc pm an cdv ct) ps sp:=by
 refine ⟨len,fun A outer s H args us vs Q E hr e0 hb r hsp=>?_⟩
 have hl:=len _ _ _ _ hsp
 have KX:K.In s.heap:=e0.mod.kin.keeps fun b o e=>(e0.bs b o e).1
 have lim:s.heap.NoLimit:=e0.mod.nolimit.keeps fun b o e=>(e0.bs b o e).1
 have hkind:∀ y ∈ ps.zip us,scope.names.lookup y.1=some .local ∨ (scope.names.lookup y.1=some .cell/\((cellsFrom (s.heap.objs.size+1) scope.names []).lookup y.1).isSome=true):=fun ⟨n,v⟩ hy=>by
  rcases S.par n (List.of_mem_zip hy).1 with q | q
  ·exact .inl q
  ·exact .inr ⟨q,PySem.W.cellsFrom_some _ _ _ (.inl q)⟩
 refine codeAny_call_function hr.depth (KX _ _ lk) rfl S.co S.gen rfl (PySem.W.codeRec_of KX hcd) (hb _ _ _ _ ?_)
 refine wpAny_newFunctionEnv_cells S.kind hkind fun env he s1 x=>?_
 subst he
 refine ⟨lim.keeps x.toInCall.keep,codeAny_func ?_⟩
 obtain ⟨t,ht,hq⟩:=hbody A outer s H vs Q E (hr.deeper _) hsp
 have I:Inv (Jo CX P w K mg base N qual scope f cdv A outer s H E) [] (zH N vs) H s1:=aba S hr.hd e0 hl r x
 refine wpAny_mono (ht [] s1 (zH N vs) H _ I hq) (fun fl s' hs=>?_) fun e s' hs=>hs
 have fin:∀ {σ':St} {H':Hp} {v:V} {u:Value},Inv (Jo CX P w K mg base N qual scope f cdv A outer s H E) [] σ' H' s'->jP v u->Q v H'->CE outer P w H s Q u s':=
  fun {σ' H' v u} J rv q=>⟨v,H',J.os,J.bare,J.base,J.hok,rv,q⟩
 cases fl with
 | ret u=>
  obtain ⟨v,σ',H',J,rv,q⟩:=hs
  exact fin J rv q
 | next=>
  obtain ⟨σ',H',J,q⟩:=hs
  exact fin (v:=V.non) (u:=Value.none) J rfl q
 | brk=>
  obtain ⟨_,_,_,q⟩:=hs
  exact False.elim q
 | cont=>
  obtain ⟨_,_,_,q⟩:=hs
  exact False.elim q
end L2
namespace L2
open PySem PySem.Spec PyProof.Rows
section
variable {X:Cx}{x:Str}{p pos:Pos}{e:Expr}{es:List Expr}{t:TA}{id T:String}{r:List V->Hp->VK->Prop}
noncomputable def tCB (r:List V->Hp->VK->Prop) (t:TA):TE:=fun σ H Q=>t σ H fun vs H1=>r vs H1 Q
theorem aas (hc:ze X (.builtin id) r) (hg:Gl X x) (hm:X.mg x=none) (hv:bootBuiltins x=some (.builtin id)) (ha:PA X (e::es) t) (hn:x ≠ "__name__":=by decide) (hdb:(x == ("__debug__":Str))=false:=by decide)
  (he:starEach (e::es) X.env=(false,eval e X.env)::starEach es X.env:=by rfl) (hpl:(backTo pos (starEach es X.env)).any (·.1)=false:=by rfl):PE X (.Call (.Name x p) (e::es) [] pos) (tCB r t):=by
 intro pins s σ H Q I h
 refine wpAny_Call_Name_kw (Z9 I hg hm hv ?_ hn hdb)
 exact PyProof.Rows.callWith_builtin1 (thn (ha pos pins s σ H _ I h) fun us s1 ⟨vs,H1,I1,r1,q1⟩=>hc pins s1 σ H1 vs us Q I1 r1 q1) he hpl
theorem ajx (hc:ze X (.type T) r) (hg:Gl X x) (hm:X.mg x=none) (hv:bootBuiltins x=some (.type T)) (ha:PA X (e::es) t) (hn:x ≠ "__name__":=by decide) (hdb:(x == ("__debug__":Str))=false:=by decide)
  (he:starEach (e::es) X.env=(false,eval e X.env)::starEach es X.env:=by rfl) (hpl:(backTo pos (starEach es X.env)).any (·.1)=false:=by rfl):PE X (.Call (.Name x p) (e::es) [] pos) (tCB r t):=by
 intro pins s σ H Q I h
 refine wpAny_Call_Name_kw (Z9 I hg hm hv ?_ hn hdb)
 exact PyProof.Rows.callWith_type1 (thn (ha pos pins s σ H _ I h) fun us s1 ⟨vs,H1,I1,r1,q1⟩=>hc pins s1 σ H1 vs us Q I1 r1 q1) he hpl
end
end L2
namespace HT
open PySem PyProof.Rows
noncomputable def lexLt:List Int->List Int->Bool
 | [],[]=>false
 | [],_::_=>true
 | _::_,[]=>false
 | x::xs,y::ys=>if x=y then lexLt xs ys else decide (x < y)
theorem lexLt_cons (x y:Int) (xs ys:List Int):lexLt (x::xs) (y::ys)=if x=y then lexLt xs ys else decide (x < y):=rfl
theorem lexLt_nil_nil:lexLt [] []=false:=rfl
theorem acu (y:Int) (ys:List Int):lexLt [] (y::ys)=true:=rfl
theorem acv (x:Int) (xs:List Int):lexLt (x::xs) []=false:=rfl
theorem akZ (A:Around) (s:Shared) (a:Int) (t:Tok) (c:Int) (u:Tok):∃ e,SeqAt.EqAt A s (.int a t) (.int c u) e/\(e=true ↔ a=c):=
 ⟨(a == c),SeqAt.EqAt.int_int a t c u,by simp⟩
theorem ak0 (A:Around) (s:Shared) (a:Int) (t:Tok) (c:Int) (u:Tok) (prog:Program) (w:World) (E:Value->Shared->Prop) (Q:Value->Shared->Prop) (h:Q (.bool (decide (a < c))) s):
  wpAny (model prog w) A (richCompare .Lt (.int a t) (.int c u)) Q E s:=
 (PyProof.Rows.lt_int h:wpAny (model prog w) A (compareOp .Lt (.int a t) (.int c u)) Q E s)
section
open PySem.SeqAt
open PySem.AutoSeq1 (wpAny_loadPart')
open PySem.MeetsSeq PySem.MeetsSeq2 PySem.MeetsSeq3
theorem adF (l b:Addr) (items items2:Array Value) (n n2:Nat) (dd dd2:Option Addr) (sl sl2:Array (Option Value)) (ns ms:List Int) (hi:IntsAre items.toList ns) (hj:IntsAre items2.toList ms):
  Meets (Builtin.«tuple.__lt__» ⟨[.ref l,.ref b],[]⟩)
   (fun _ R s=>s.heap.get? l=some { cls:= .type "tuple",dict:=dd,data:= .seq items n,slots:=sl }/\s.heap.get? b=some { cls:= .type "tuple",dict:=dd2,data:= .seq items2 n2,slots:=sl2 }/\
    R (.ok (.ret (.bool (lexLt ns ms)))) s):=
 .of_wp fun prog w A R s h=>by
  obtain ⟨hp,g,d,tk,os⟩:=s; obtain ⟨hl,hb,h⟩:=h
  have f2:=AutoSeq1.sub_tuple_tuple
  have z1:items.size=ns.length:=by rw [←hi.length]; simp
  have z2:items2.size=ms.length:=by rw [←hj.length]; simp
  wp_walk using wpAny_loadPart' hl,wpAny_loadPart' hb,wpAny_forIn_list _ (fun j5 b s'=>b.1=none/\s'=⟨hp,g,d,tk,os⟩/\∃ (vs ws:List Value) (ns' ms':List Int),j5=vs.zip ws/\
   IntsAre vs ns'/\IntsAre ws ms'/\ns'.length+items2.size=ms'.length+items.size/\R (.ok (.ret (.bool (lexLt ns' ms')))) ⟨hp,g,d,tk,os⟩) _
  case turn=>
   rintro ⟨y,x⟩ j5 b s' ⟨hb',rfl,vs,ws,ns',ms',hz,hvi,hwi,hlen,hR⟩
   cases hvi with
   | nil=>rw [List.zip_nil_left] at hz; cases hz
   | cons a t hvi'=>
    cases hwi with
    | nil=>rw [List.zip_nil_right] at hz; cases hz
    | cons c u hwi'=>
     rw [List.zip_cons_cons] at hz
     injection hz with hyx hrest
     injection hyx with hy hx
     subst hy hx
     rw [lexLt_cons] at hR
     simp only [List.length_cons] at hlen
     obtain ⟨e,he,hiff⟩:=akZ A.in1 ⟨hp,g,d,tk,os⟩ a t c u
     refine wpAny_bind (he prog w _ _ ?_)
     cases e with
     | true=>
      rw [if_pos (hiff.mp rfl)] at hR
      wp_walk
      exact ⟨rfl,rfl,_,_,_,_,hrest,hvi',hwi',by omega,hR⟩
     | false=>
      rw [if_neg (fun q=>absurd (hiff.mpr q) Bool.false_ne_true)] at hR
      have hri:=ak0 A.in1 ⟨hp,g,d,tk,os⟩ a t c u prog w
      wp_walk using hri
      exact ⟨_,rfl,by simpa using hR⟩
  case fin=>
   rintro ⟨b1,b2⟩ s' ⟨hb',rfl,vs,ws,ns',ms',hz,hvi,hwi,hlen,hR⟩
   simp only at hb'
   subst hb'
   have hv:lexLt ns' ms'=decide (items.size < items2.size):=by
    cases hvi with
    | nil=>
     cases hwi with
     | nil=>
      simp only [List.length_nil] at hlen
      rw [lexLt_nil_nil]
      exact (decide_eq_false (by omega)).symm
     | cons c u hw=>
      simp only [List.length_nil,List.length_cons] at hlen
      rw [acu]
      exact (decide_eq_true (by omega)).symm
    | cons a t hv=>
     cases hwi with
     | nil=>
      simp only [List.length_nil,List.length_cons] at hlen
      rw [acv]
      exact (decide_eq_false (by omega)).symm
     | cons c u hw=>
      rw [List.zip_cons_cons] at hz
      cases hz
   rw [hv] at hR
   wp_walk
   exact ⟨_,rfl,by simpa [Builtin.Tuple.tupleCompareSizes] using hR⟩
  case h=>
   exact ⟨rfl,rfl,items.toList,items2.toList,ns,ms,rfl,hi,hj,by omega,h⟩
end
section
variable {prog:Program}{w:World}{A:Around}{E:Value->Shared->Prop}{s:Shared}
theorem lt_tupInts {l b:Addr}{items items2:Array Value}{ns ms:List Int}{Q:Value->Shared->Prop} (hl:IsTup s.heap l items) (hb:IsTup s.heap b items2) (hi:IntsAre items.toList ns) (hj:IntsAre items2.toList ms)
  (hu:A.units < cLine) (h:Q (.bool (lexLt ns ms)) s):wpAny (model prog w) A (compareOp .Lt (.ref l) (.ref b)) Q E s:=by
 obtain ⟨⟨cls,dd,data,sl⟩,ho,hc,n,hd⟩:=id hl
 obtain ⟨⟨cls2,dd2,data2,sl2⟩,ho2,hc2,n2,hd2⟩:=id hb
 simp only at hc hd hc2 hd2
 subst hc hd hc2 hd2
 exact richCompare_meets_room (op:= .Lt) ⟨_,ho,rfl⟩ ⟨_,ho2,rfl⟩ PySem.F.slot_tuple_lt PySem.F.entry_tuple_lt (PySem.F.args_tuple_lt_2 _ _) (adF l b items items2 n n2 dd dd2 sl sl2 ns ms hi hj)
  ⟨ho,ho2,show Value.bool (lexLt ns ms) ≠ Value.notImplemented/\Q (.bool (lexLt ns ms)) s from ⟨(fun x=>nomatch x),h⟩⟩ hu
theorem cat_tup {t b:Addr}{vs ws:List Value}{Q:Value->Shared->Prop} (ht:IsTup s.heap t vs.toArray) (hb:IsTup s.heap b ws.toArray) (hv:vs ≠ [])
  (h1:ws=[]->Q (.ref t) s) (h2:ws ≠ []->Q (.ref s.heap.objs.size) { s with heap:=s.heap.push { cls:= .type "tuple",data:= .seq (vs++ws).toArray } })
  (hsz:vs.length+ws.length<=sizeLine):wpAny (model prog w) A (binaryOp .Add (.ref t) (.ref b)) Q E s:=by
 obtain ⟨⟨cls,dd,data,sl⟩,ho,hc,n,hd⟩:=id ht
 obtain ⟨⟨cls2,dd2,data2,sl2⟩,ho2,hc2,n2,hd2⟩:=id hb
 simp only at hc hd hc2 hd2
 subst hc hd hc2 hd2
 have e:vs.toArray++ws.toArray=(vs++ws).toArray:=by simp
 by_cases hw:ws=[]
 ·exact concat_meets ⟨_,ho,rfl⟩ ⟨_,ho2,rfl⟩ noFill_tuple_add seq_tuple_add PySem.F.slot_tuple_add PySem.F.entry_tuple_add (PySem.F.args_tuple_add_2 _ _)
   (tuple_addW1 t b vs.toArray ws.toArray n n2 dd dd2 sl sl2 (by simpa using hv) (by simp [hw])) ⟨ho,ho2,h1 hw⟩
 ·refine concat_meets ⟨_,ho,rfl⟩ ⟨_,ho2,rfl⟩ noFill_tuple_add seq_tuple_add PySem.F.slot_tuple_add PySem.F.entry_tuple_add (PySem.F.args_tuple_add_2 _ _)
   (tuple_addW2 t b vs.toArray ws.toArray n n2 dd dd2 sl sl2 (by simpa using hv) (by simpa using hw) (by rw [List.size_toArray,List.size_toArray]; exact hsz)) ⟨ho,ho2,?_⟩
  rw [e]
  exact h2 hw
end
end HT
namespace L2
open PySem PySem.Spec PyProof.Rows
noncomputable abbrev TO:=St->Hp->(Option Int->Hp->Prop)->Prop
section
variable {X:Cx}{e:Expr}{te:TE}{lo hi:Option Expr}{tl th:TO}{pos p2:Pos}
noncomputable def SlR (X:Cx) (r:V->Option Int->Option Int->Hp->VK->Prop):Prop:=
 ∀ (pins:List (Addr × Obj)) (s:Shared) (σ:St) (H:Hp) (x:V) (v vl vu:Value) (lo hi:Option Int) (sl:Addr) (Q:VK),Inv X pins σ H s->jP x v->s.heap.IsSliceOf sl vl vu .none->IsPart vl lo->IsPart vu hi->r x lo hi H Q->
  ∃ T id,typeLookup (.type T) "__getitem__"=pure (some (.builtin id))/\s.TypeIs v T/\wpAny (model X.prog X.w) X.A (getItem v (.ref sl)) (EP X pins σ Q) X.xe s
theorem SlR.or {r r':V->Option Int->Option Int->Hp->VK->Prop} (h:SlR X r) (h':SlR X r'):SlR X (fun x lo hi H Q=>r x lo hi H Q ∨ r' x lo hi H Q):=by
 intro pins s σ H x v vl vu lo hi sl Q I rx hs pl pu q
 rcases q with q | q
 ·exact h pins s σ H x v vl vu lo hi sl Q I rx hs pl pu q
 ·exact h' pins s σ H x v vl vu lo hi sl Q I rx hs pl pu q
noncomputable def aq6 (K:PySem.W.Frag):R2:=fun x y H Q=>∃ a b xs ys,x= .ref a/\y= .ref b/\SqT K H a xs/\SqT K H b ys/\xs ≠ []/\xs.length+ys.length<=sizeLine/\
 (ys=[]->Q (.ref a) H)/\(ys ≠ []->∀ p,H p=none->Q (.ref p) (upd H p (.tup (xs++ys))))
theorem jG.nil_iff {xs:List V}{us:List Value} (r:jG xs us):us=[] ↔ xs=[]:=by
 cases r with
 | nil=>simp
 | cons _ _=>simp
theorem ank:OpR X (binaryOp .Add) (aq6 X.K):=by
 intro pins s σ H x y v u Q I rx ry h
 obtain ⟨a,b,xs,ys,rfl,rfl,ha,hb,hx,hz,q1,q2⟩:=h
 cases rx
 cases ry
 obtain ⟨its,r1,p1,_⟩:=I.tuple ha
 obtain ⟨its2,r2,p2,_⟩:=I.tuple hb
 refine HT.cat_tup p1 p2 (fun z=>hx (r1.nil_iff.mp z)) (fun z=>⟨.ref a,H,I,rfl,q1 (r2.nil_iff.mp z)⟩) (fun z=>?_) (by rw [←r1.length,←r2.length]; exact hz)
 refine ⟨.ref s.heap.objs.size,_,I.laid (t':=s.toks) (o:= .tup (xs++ys)) (fun b ob q=>Heap.get?_push_of_some _ q) (Nat.le_refl _) ?_,rfl,q2 (fun w=>z (r2.nil_iff.mpr w)) _ (I.hok.fresh (Nat.le_refl _))⟩
 exact ⟨by rw [List.length_append]; exact hz,_,r1.append r2,IsTup.new _ _⟩
end
end L2
namespace L2
open PySem PySem.Spec PyProof.Rows
noncomputable def ixN (n:Nat) (i:Int):Option Nat:=if 0<=i then (if i < n then some i.toNat else none) else if -(n:Int)<=i then some (i+n).toNat else none
noncomputable def atI {α:Type} (xs:List α) (i:Int):Option α:=(ixN xs.length i).bind fun j=>xs[j]?
theorem anl {n:Nat}{i:Int}{j:Nat} (h:ixN n i=some j):seqIndex? i n=some j/\j < n/\-(n:Int)<=i/\i < n:=by
 unfold ixN at h
 by_cases h0:0<=i
 ·rw [if_pos h0] at h
  by_cases h1:i < n
  ·rw [if_pos h1] at h
   have e:i.toNat=j:=Option.some.inj h
   exact ⟨by rw [seqIndex_of h0 h1,e],by omega,by omega,h1⟩
  ·rw [if_neg h1] at h; cases h
 ·rw [if_neg h0] at h
  by_cases h1:-(n:Int)<=i
  ·rw [if_pos h1] at h
   have e:(i+n).toNat=j:=Option.some.inj h
   exact ⟨by rw [seqIndex_neg (by omega) h1,e],by omega,h1,by omega⟩
  ·rw [if_neg h1] at h; cases h
theorem aix {α:Type}{xs:List α}{i:Int}{v:α} (h:atI xs i=some v):∃ j,seqIndex? i xs.length=some j/\xs[j]?=some v/\j < xs.length/\-(xs.length:Int)<=i/\i < xs.length:=by
 unfold atI at h
 cases e:ixN xs.length i with
 | none=>rw [e] at h; cases h
 | some j=>
  rw [e] at h
  obtain ⟨h1,h2,h3,h4⟩:=anl e
  exact ⟨j,h1,h,h2,h3,h4⟩
noncomputable def aiy (b:Expr):Prop:=∀ o i,subscripted b false o i=operate [o,i] (getItem o i)
noncomputable def IxR (X:Cx) (r:R2):Prop:=
 ∀ (value slice:Expr) (pins:List (Addr × Obj)) (s:Shared) (σ:St) (H:Hp) (x y:V) (v u:Value) (Q:VK),Inv X pins σ H s->jP x v->jP y u->r x y H Q->
  subscripted slice false v u=operate [v,u] (getItem v u)->wpAny (model X.prog X.w) X.A (subscriptTail value slice v u) (EP X pins σ Q) X.xe s
noncomputable def MtR (X:Cx) (id:String) (r:V->List V->Hp->VK->Prop):Prop:=
 ∀ (pins:List (Addr × Obj)) (s:Shared) (σ:St) (H:Hp) (x:V) (xs:List V) (v:Value) (us:List Value) (Q:VK),Inv X pins σ H s->jP x v->jG xs us->r x xs H Q->
  wpAny (model X.prog X.w) X.A (call (.builtin id) (v::us)) (EP X pins σ Q) X.xe s
section
variable {X:Cx}{a b:Expr}{ta tb:TE}{pos:Pos}
theorem IxR.or {r r':R2} (h:IxR X r) (h':IxR X r'):IxR X (fun x y H Q=>r x y H Q ∨ r' x y H Q):=by
 intro value slice pins s σ H x y v u Q I rx ry q hs
 rcases q with q | q
 ·exact h value slice pins s σ H x y v u Q I rx ry q hs
 ·exact h' value slice pins s σ H x y v u Q I rx ry q hs
theorem MtR.or {id:String}{r r':V->List V->Hp->VK->Prop} (h:MtR X id r) (h':MtR X id r'):MtR X id (fun x xs H Q=>r x xs H Q ∨ r' x xs H Q):=by
 intro pins s σ H x xs v us Q I rx rs q
 rcases q with q | q
 ·exact h pins s σ H x xs v us Q I rx rs q
 ·exact h' pins s σ H x xs v us Q I rx rs q
theorem aq7 {r:R2} (hr:IxR X r) (ha:PE X a ta) (hb:PE X b tb) (hs:aiy b):PE X (.Subscript a b pos) (tOp r ta tb):=by
 intro pins s σ H Q I h
 exact Subscript_ (apB ha hb I h fun v u s2 x y H2 I2 rx ry q=>hr a b pins s2 σ H2 x y v u Q I2 rx ry q (hs _ _))
noncomputable def ar6 (K:PySem.W.Frag):R2:=fun x y H Q=>∃ p xs i v,x= .ref p/\y= .int i/\SqL K H p xs/\atI xs i=some v/\Q v H
noncomputable def ar7 (K:PySem.W.Frag):R2:=fun x y H Q=>∃ p xs i v,x= .ref p/\y= .int i/\SqT K H p xs/\atI xs i=some v/\Q v H
theorem anm:IxR X (ar6 X.K):=by
 intro value slice pins s σ H x y v u Q I rx ry h hs
 obtain ⟨p,xs,i,z,rfl,rfl,hq,he,q⟩:=h
 cases rx
 obtain ⟨t,rfl⟩:=ry
 obtain ⟨its,r,pl,hz⟩:=I.list hq
 obtain ⟨j,h1,h2,h3,h4,h5⟩:=aix he
 obtain ⟨w,ew,rw'⟩:=r.get h2
 have hl:=r.length
 have hn:=aeH
 have fin:EP X pins σ Q w s:=⟨z,H,I,rw',q⟩
 by_cases h0:0<=i
 ·have hj:i.toNat=j:=by
   rw [seqIndex_of h0 h5] at h1
   exact Option.some.inj h1
  exact item_listR pl.isList h0 (by omega) (by rw [hj]; simpa using ew) fin hs
 ·have hj:(i+(its.toArray.size:Int)).toNat=j:=by
   rw [seqIndex_neg (by omega) h4] at h1
   rw [List.size_toArray,←hl]
   exact Option.some.inj h1
  exact subscriptTail_builtinR (x:=w) pl.isList.typeIs slot_list_getitem.lookup
   (wpAny_getItem_list_neg (Q:=fun r s'=>r=w/\EP X pins σ Q r s') pl.isList (by omega) (by rw [List.size_toArray] <;> omega) (by omega) (by rw [hj]; simpa using ew) ⟨rfl,fin⟩) hs
theorem apL:IxR X (ar7 X.K):=by
 intro value slice pins s σ H x y v u Q I rx ry h hs
 obtain ⟨p,xs,i,z,rfl,rfl,hq,he,q⟩:=h
 cases rx
 obtain ⟨t,rfl⟩:=ry
 obtain ⟨its,r,pl,hz⟩:=I.tuple hq
 obtain ⟨j,h1,h2,h3,h4,h5⟩:=aix he
 obtain ⟨w,ew,rw'⟩:=r.get h2
 have hl:=r.length
 have hn:=aeH
 have fin:EP X pins σ Q w s:=⟨z,H,I,rw',q⟩
 exact subscriptTail_builtinR (x:=w) pl.typeIs slot_tuple_getitem.lookup
  (getItem_tuple (j:=j) (Q:=fun r s'=>r=w/\EP X pins σ Q r s') pl (by omega) (by omega) (by rw [List.size_toArray,←hl]; exact h1) (by simpa using ew) ⟨rfl,fin⟩) hs
theorem Inv.lst {pins:List (Addr × Obj)}{σ:St}{H:Hp}{s:Shared}{p:Addr}{xs:List V} (I:Inv X pins σ H s) (h:H p=some (.lst xs)):
  ∃ (its:List Value) (n:Nat),jG xs its/\s.heap.get? p=some { cls:= .type "list",data:= .seq its.toArray n }/\xs.length<=sizeLine:=by
 obtain ⟨z,its,n,r,e⟩:=I.hok p _ h
 exact ⟨its,n,r,e,z⟩
theorem aeI:ze X (.builtin "len") (fun xs H Q=>∃ p ys,xs=[.ref p]/\(SqL X.K H p ys ∨ SqT X.K H p ys)/\Q (.int ys.length) H):=by
 intro pins s σ H xs us Q I r h
 obtain ⟨p,ys,rfl,hq,q⟩:=h
 obtain ⟨u,rfl,rx⟩:=Z3 r
 cases rx
 have hn:=aeH
 rcases hq with hq | hq
 ·obtain ⟨its,r',pl,hz⟩:=I.list hq
  have hlen:=r'.length
  exact Calls.call_len_list pl.isList (by simp only [List.size_toArray] <;> omega) ⟨.int ys.length,H,I.tok _,⟨s.toks+1,by rw [List.size_toArray,hlen]⟩,q⟩
 ·obtain ⟨its,r',pl,hz⟩:=I.tuple hq
  have hlen:=r'.length
  exact len_tuple pl (by simp only [List.size_toArray] <;> omega) ⟨.int ys.length,H,I.tok _,⟨s.toks+1,by rw [List.size_toArray,hlen]⟩,q⟩
theorem ze.or {f:Value}{r r':List V->Hp->VK->Prop} (h:ze X f r) (h':ze X f r'):ze X f (fun xs H Q=>r xs H Q ∨ r' xs H Q):=by
 intro pins s σ H xs us Q I rs q
 rcases q with q | q
 ·exact h pins s σ H xs us Q I rs q
 ·exact h' pins s σ H xs us Q I rs q
theorem aeJ:ze X (.type "list") (fun xs H Q=>∃ p ys,xs=[.ref p]/\(SqL X.K H p ys ∨ SqT X.K H p ys)/\∀ l,H l=none->Q (.ref l) (upd H l (.lst ys))):=by
 intro pins s σ H xs us Q I r h
 obtain ⟨p,ys,rfl,hq,q⟩:=h
 obtain ⟨u,rfl,rx⟩:=Z3 r
 cases rx
 have fin:∀ (its:List Value),jG ys its->ys.length<=sizeLine->∀ (h':Heap) (c':Nat),(∀ b o',s.heap.get? b=some o'->h'.get? b=some o')->
   h'.get? s.heap.objs.size=some { cls:= .type "list",dict:=none,data:= .seq its.toArray c',slots:=#[] }->EP X pins σ Q (.ref s.heap.objs.size) { s with heap:=h' }:=fun its r' hz h' c' kp e=>
  ⟨.ref s.heap.objs.size,_,I.laid (t':=s.toks) kp (Nat.le_refl _) (show qt X.prog X.w _ h' _ (.lst ys) from ⟨hz,its,c',r',e⟩),rfl,q _ (I.hok.fresh (Nat.le_refl _))⟩
 rcases hq with hq | hq
 ·obtain ⟨its,r',pl,hz⟩:=I.list hq
  have hlen:=r'.length
  obtain ⟨o,ho,hc,n,hd⟩:=pl.isList
  exact call_list_seq p (.inl rfl) ho hc hd (fun h' c' kp e=>fin its r' hz h' c' kp e) (by simp only [List.size_toArray] <;> omega)
 ·obtain ⟨its,r',pl,hz⟩:=I.tuple hq
  have hlen:=r'.length
  obtain ⟨o,ho,hc,n,hd⟩:=pl
  exact call_list_seq p (.inr rfl) ho hc hd (fun h' c' kp e=>fin its r' hz h' c' kp e) (by simp only [List.size_toArray] <;> omega)
theorem adG:ze X (.type "tuple") (fun xs H Q=>∃ p ys,xs=[.ref p]/\((SqL X.K H p ys/\∀ l,H l=none->Q (.ref l) (upd H l (.tup ys))) ∨ (SqT X.K H p ys/\Q (.ref p) H))):=by
 intro pins s σ H xs us Q I r h
 obtain ⟨p,ys,rfl,h⟩:=h
 obtain ⟨u,rfl,rx⟩:=Z3 r
 cases rx
 rcases h with ⟨hq,q⟩ | ⟨hq,q⟩
 ·obtain ⟨its,r',pl,hz⟩:=I.list hq
  have hlen:=r'.length
  refine call_tuple_list pl.isList (fun h' kp=>?_) (by simp only [List.size_toArray] <;> omega)
  have I1:Inv X pins σ H { s with heap:=h' }:=I.kept (t':=s.toks) kp
  have I2:Inv X pins σ (upd H h'.objs.size (.tup ys)) { s with heap:=h'.push { cls:= .type "tuple",data:= .seq its.toArray } }:=
   I1.laid (t':=s.toks) (fun b o e=>Heap.get?_push_of_some _ e) (Nat.le_refl _) (show qt X.prog X.w _ _ _ (.tup ys) from ⟨hz,its,r',IsTup.new _ _⟩)
  exact ⟨.ref h'.objs.size,_,I2,rfl,q _ (I1.hok.fresh (Nat.le_refl _))⟩
 ·obtain ⟨its,r',pl,hz⟩:=I.tuple hq
  exact call_tuple_same pl ⟨.ref p,H,I,rfl,q⟩
noncomputable def tyV (K:PySem.W.Frag) (T:String) (x:V) (H:Hp):Prop:=match x with
 | .str _=>T="str"
 | .int _=>T="int"
 | .ref p=>(T="list"/\∃ xs,SqL K H p xs) ∨ (T="tuple"/\∃ o,K.lookup p=some o/\o.cls= .type "tuple"/\o.dict=none) ∨
   (T="dict"/\((∃ kvs,H p=some (.dK kvs)) ∨ ∃ kvs,H p=some (.dT kvs))) ∨ (T="set"/\∃ S n,H p=some (.set S n))
 | _=>False
theorem apM {pins:List (Addr × Obj)}{σ:St}{H:Hp}{s:Shared}{T:String}{x:V}{v:Value} (I:Inv X pins σ H s) (r:jP x v) (ty:tyV X.K T x H):
  s.TypeIs v T/\∀ a,v= .ref a->∃ ob,s.heap.get? a=some ob/\ob.dict=none:=by
 cases x with
 | str z=>
  obtain ⟨t,rfl⟩:=r
  cases (show T="str" from ty)
  exact ⟨typeIs_str s z t,fun _ e=>nomatch e⟩
 | int i=>
  obtain ⟨t,rfl⟩:=r
  cases (show T="int" from ty)
  exact ⟨typeIs_int s i t,fun _ e=>nomatch e⟩
 | ref p=>
  cases r
  rcases ty with ⟨rfl,xs,hq⟩ | ⟨rfl,o,hk,hc,hd⟩ | ⟨rfl,hk⟩ | ⟨rfl,S,n,hk⟩
  ·obtain ⟨its,_,pl,_⟩:=I.list hq
   refine ⟨pl.isList.typeIs,fun a e=>?_⟩
   cases e
   obtain ⟨o,n,e,c,hd,_⟩:=pl
   exact ⟨o,e,hd⟩
  ·refine ⟨⟨o,I.kIn p o hk,hc⟩,fun a e=>?_⟩
   cases e
   exact ⟨o,I.kIn _ o hk,hd⟩
  ·have z:∃ o,s.heap.get? p=some o/\o.ExactDict:=by
    rcases hk with ⟨kvs,hk⟩ | ⟨kvs,hk⟩
    ·obtain ⟨_,_,_,_,o,_,_,e,ex,_⟩:=I.hok p _ hk
     exact ⟨o,e,ex⟩
    ·obtain ⟨_,_,_,_,o,_,_,e,ex,_⟩:=I.hok p _ hk
     exact ⟨o,e,ex⟩
   obtain ⟨o,e,ex⟩:=z
   refine ⟨⟨o,e,ex.1⟩,fun a e2=>?_⟩
   cases e2
   exact ⟨o,e,ex.2.1⟩
  ·obtain ⟨o,_,_,_,e,ex,_⟩:=I.hok p _ hk
   refine ⟨⟨o,e,ex.1⟩,fun a e2=>?_⟩
   cases e2
   exact ⟨o,e,ex.2.1⟩
 | _=>exact False.elim ty
noncomputable def tBM (K:PySem.W.Frag) (T:String) (r:V->List V->Hp->VK->Prop) (to:TE) (t:TA):TE:=fun σ H Q=>to σ H fun x H1=>tyV K T x H1/\t σ H1 fun xs H2=>r x xs H2 Q
variable {o e:Expr}{es:List Expr}{to:TE}{t:TA}{name:Str}{apos cpos:Pos}{T id:String}{r:V->List V->Hp->VK->Prop}
theorem afX (pa:PlainAttrs T) (slot:Slot T name id) (hty:typeOf (.builtin id)=pure (.type "method_descriptor")) (hm:MtR X id r) (ho:PE X o to) (ha:PA X (e::es) t)
  (hbase:attributeBase o name X.env (eval o X.env)=eval o X.env:=by rfl)
  (hfew:((backTo cpos (starEach (e::es) X.env)).all (fun x=>!x.1) && (backToKw cpos (keywordEach [] X.env)).all (fun x=>x.1.isSome)
   && decide ((e::es).length+([]:List Keyword).length+(if ([]:List Keyword).isEmpty then 0 else 1) < 30))=true:=by rfl)
  (hline:(apos.endLine == cpos.line)=true:=by rfl) (hs:starEach (e::es) X.env=(false,eval e X.env)::starEach es X.env:=by rfl) (hplain:(backTo cpos (starEach es X.env)).any (·.1)=false:=by rfl):
  PE X (.Call (.Attribute o name apos) (e::es) [] cpos) (tBM X.K T r to t):=by
 intro pins s σ H Q I h
 refine wpAny_Call_method_late hbase hfew hline rfl (thn (ho pins s σ H _ I h) fun v s1 ⟨x,H1,I1,r1,ty,q1⟩=>?_)
 obtain ⟨h1,h2⟩:=apM I1 r1 ty
 refine ⟨T,id,pa,slot,hty,h1,h2,?_⟩
 have hA:=ha cpos pins s1 σ H1 _ I1 q1
 rw [hs] at hA ⊢
 refine Calls.callWith_builtin (by show (false || (backTo cpos (starEach es X.env)).any (·.1))=false; rw [hplain] <;> rfl) (Calls.evalArgs_plain ?_)
 exact thn hA fun us s2 ⟨vs,H2,I2,r2,q2⟩=>hm pins s2 σ H2 x vs v us Q I2 r1 r2 q2
end
end L2
namespace L2
open PySem PySem.Spec PyProof.Rows
noncomputable def MtM (X:Cx) (id:String) (r:V->List V->Hp->VK->Prop):Prop:=
 ∀ (pins:List (Addr × Obj)) (s:Shared) (σ:St) (H:Hp) (x:V) (xs:List V) (v:Value) (us:List Value) (Q:VK),Inv X pins σ H s->jP x v->jG xs us->r x xs H Q->
  wpAny (model X.prog X.w) X.A (call (.builtin id) (v::us)) (EP X pins σ Q) X.xe s
theorem jG.one:∀ {x:V}{us:List Value},jG [x] us->∃ u,us=[u]/\jP x u
 | _,_,.cons r .nil=>⟨_,rfl,r⟩
theorem jG.two:∀ {x y:V}{us:List Value},jG [x,y] us->∃ u v,us=[u,v]/\jP x u/\jP y v
 | _,_,_,.cons r (.cons q .nil)=>⟨_,_,rfl,r,q⟩
theorem jG.zero:∀ {us:List Value},jG [] us->us=[]
 | _,.nil=>rfl
theorem jG.dropLast {xs:List V}{us:List Value} (h:jG xs us):jG xs.dropLast us.dropLast:=by
 induction h with
 | nil=>exact .nil
 | cons r t ih=>
  cases t with
  | nil=>exact .nil
  | cons q t'=>exact .cons r ih
theorem jG.rep {xs:List V}{us:List Value} (h:jG xs us):∀ k:Nat,jG (List.replicate k xs).flatten (List.replicate k us).flatten
 | 0=> .nil
 | k+1=>by
  rw [List.replicate_succ,List.replicate_succ,List.flatten_cons,List.flatten_cons]
  exact jG.append h (jG.rep h k)
theorem abb (its:List Value):∀ (k:Nat) (acc:List Value),
  List.foldl (fun x1 x2=>x1++x2) acc.toArray (List.replicate k its.toArray)=(acc++(List.replicate k its).flatten).toArray
 | 0,acc=>by simp
 | k+1,acc=>by
  have e:acc.toArray++its.toArray=(acc++its).toArray:=by simp
  have e2:(acc++its)++(List.replicate k its).flatten=acc++(List.replicate (k+1) its).flatten:=by
   rw [List.replicate_succ,List.flatten_cons,List.append_assoc]
  rw [←e2,←abb its k (acc++its),←e,List.replicate_succ,List.foldl_cons]
section
variable {X:Cx}{pins:List (Addr × Obj)}{σ:St}{H:Hp}{s:Shared}{l b:Addr}{xs ys zs:List V}
theorem Inv.lset {its its':List Value}{n:Nat}{f:Array Value->Array Value}{t':Nat} (I:Inv X pins σ H s) (hH:H l=some (.lst xs))
  (e:s.heap.get? l=some { cls:= .type "list",data:= .seq its.toArray n }) (hf:f its.toArray=its'.toArray) (hv:jG ys its') (hz:ys.length<=sizeLine):
  Inv X pins σ (upd H l (.lst ys)) { s with heap:=s.heap.update l (Obj.mapSeq f),toks:=t' }:=by
 have q:=PySem.IsL.update e f
 rw [hf] at q
 refine I.write (x:=l) (e:=l) (by rw [hH]; exact trivial) (.inl rfl) (fun b' u hb hu=>(Heap.get?_update_other s.heap (Obj.mapSeq f) (Ne.symm hb)).trans hu) ⟨_,q⟩ ?_
 exact ⟨hz,its',_,hv,q⟩
theorem Inv.lnew {its:List Value}{t':Nat} (I:Inv X pins σ H s) (hv:jG ys its) (hz:ys.length<=sizeLine):
  Inv X pins σ (upd H s.heap.objs.size (.lst ys)) { s with heap:=s.heap.push { cls:= .type "list",data:= .seq its.toArray },toks:=t' }:=
 I.laid (fun _ _ q=>Heap.get?_push_of_some _ q) (Nat.le_refl _) ⟨hz,its,0,hv,Heap.get?_push_size _ rfl⟩
theorem Inv.fresh (I:Inv X pins σ H s):H s.heap.objs.size=none:=I.hok.fresh (Nat.le_refl _)
theorem Inv.lstM (I:Inv X pins σ H s) (hH:H l=some (.lst xs)):xs.length<=sizeLine/\∃ (its:List Value) (n:Nat),jG xs its/\xs.length=its.length/\s.heap.get? l=some { cls:= .type "list",data:= .seq its.toArray n }:=by
 obtain ⟨z,its,n,r,e⟩:=I.hok l _ hH
 exact ⟨z,its,n,r,r.length,e⟩
theorem ak1 {n:Nat} (h:n<=sizeLine):Builtin.List.listTooLong n=false:=by
 unfold Builtin.List.listTooLong
 exact decide_eq_false (by omega)
end
section
variable {X:Cx}
noncomputable def ann:V->List V->Hp->VK->Prop:=fun x vs H Q=>∃ l xs y,x= .ref l/\vs=[y]/\H l=some (.lst xs)/\xs.length < sizeLine/\Q .non (upd H l (.lst (xs++[y])))
theorem adT:MtM X "list.append" ann:=by
 intro pins s σ H x vs v us Q I rx rv h
 obtain ⟨l,xs,y,rfl,rfl,hH,hz,q⟩:=h
 cases rx
 obtain ⟨u,rfl,ru⟩:=rv.one
 obtain ⟨z,its,n,r,hl,e⟩:=I.lstM hH
 refine call_meets F.slot_list_append ⟨_,e,rfl⟩ F.entry_list_append (F.args_list_append_2 _ _) (PySem.list_append l its.toArray n u (by rw [List.size_toArray]; omega)) ⟨e,?_⟩
 refine ⟨.non,_,I.lset (its':=its++[u]) hH e (by simp) (r.append (.cons ru .nil)) ?_,rfl,q⟩
 rw [List.length_append,List.length_singleton]
 omega
noncomputable def ar8:R2:=fun x y H Q=>∃ l b xs zs,x= .ref l/\y= .ref b/\H l=some (.lst xs)/\H b=some (.lst zs)/\xs.length+zs.length<=sizeLine/\∀ p,H p=none->Q (.ref p) (upd H p (.lst (xs++zs)))
theorem apN:OpR X (binaryOp .Add) ar8:=by
 intro pins s σ H x y v u Q I rx ry h
 obtain ⟨l,b,xs,zs,rfl,rfl,hH,hB,hz,q⟩:=h
 cases rx
 cases ry
 obtain ⟨z,its,n,r,hl,e⟩:=I.lstM hH
 obtain ⟨z2,its2,n2,r2,hl2,e2⟩:=I.lstM hB
 refine PySem.P.add_list e e2 ?_ (by rw [List.size_toArray,List.size_toArray]; omega)
 have ea:its.toArray++its2.toArray=(its++its2).toArray:=by simp
 rw [ea]
 exact ⟨.ref _,_,I.lnew (t':=s.toks) (r.append r2) (by rw [List.length_append]; omega),rfl,q _ I.fresh⟩
noncomputable def ar9:R2:=fun x y H Q=>∃ l k xs,x= .ref l/\y= .int k/\H l=some (.lst xs)/\-(2 ^ 63)<=k/\k < 2 ^ 63/\xs.length*k.toNat<=sizeLine/\
 ∀ p,H p=none->Q (.ref p) (upd H p (.lst (List.replicate k.toNat xs).flatten))
theorem aiz {α:Type} (xs:List α) (k:Nat):(List.replicate k xs).flatten.length=k*xs.length:=by
 induction k with
 | zero=>simp
 | succ k ih=>rw [List.replicate_succ,List.flatten_cons,List.length_append,ih,Nat.succ_mul,Nat.add_comm]
theorem ak2:OpR X (binaryOp .Mult) ar9:=by
 intro pins s σ H x y v u Q I rx ry h
 obtain ⟨l,k,xs,rfl,rfl,hH,h1,h2,hz,q⟩:=h
 cases rx
 obtain ⟨t,rfl⟩:=ry
 obtain ⟨z,its,n,r,hl,e⟩:=I.lstM hH
 have hlen:its.toArray.size*k.toNat<=sizeLine:=by rw [List.size_toArray,←hl]; exact hz
 have hcap:¬ its.toArray.size*k.toNat > (2 ^ 63 - 1) / 8:=by
  have:(sizeLine:Nat)<=(2 ^ 63 - 1) / 8:=by decide
  omega
 have hfit:¬ (!Builtin.List.listFitsIndex k)=true:=by
  rw [fitsIndex_both h1 h2]
  exact Bool.false_ne_true
 have hlong:¬ Builtin.List.listTooLong (its.toArray.size*k.toNat)=true:=by
  rw [ak1 hlen]
  exact Bool.false_ne_true
 have hnew:List.foldl (fun x1 x2=>x1++x2) #[] (List.replicate (if its.toArray.isEmpty=true then 0 else k.toNat) its.toArray)=(List.replicate k.toNat its).flatten.toArray:=by
  have f0:∀ m:Nat,List.foldl (fun x1 x2=>x1++x2) #[] (List.replicate m its.toArray)=(List.replicate m its).flatten.toArray:=fun m=>by
   have:=abb its m []
   rw [List.nil_append] at this
   exact this
  rw [f0]
  cases its with
  | nil=>simp
  | cons a r'=>rw [if_neg (by simp)]
 refine wpAny_binaryOp_repeat_ref (T:="list") (U:="int") (by decide) ⟨_,e,rfl⟩ (fun s'=>typeIs_int s' k t) noFill_list_mul F.fills_int_mul F.slot_int_rmul repeat_list F.slot_int_index.lookup
  (call_meets F.slot_int_rmul (typeIs_int s k t) F.entry_int_rmul (F.args_int_rmul_2 _ _) (int___rmul___int_list k t l its.toArray n)
   ⟨e,rfl,⟨_,e,rfl⟩,call_meets F.slot_list_mul ⟨_,e,rfl⟩ F.entry_list_mul (F.args_list_mul_2 _ _) (AutoListH.list___mul___list_int_3 l its.toArray n k t hfit hcap hlong) ⟨e,?_⟩⟩)
 rw [hnew]
 exact ⟨.ref _,_,I.lnew (t':=s.toks) (r.rep k.toNat) (by rw [aiz,Nat.mul_comm]; exact hz),rfl,q _ I.fresh⟩
end
section
variable {prog:Program}{w:World}{A:Around}{E:Value->Shared->Prop}{s:Shared}
set_option maxRecDepth 100000 in
end
section
variable {X:Cx}
end
end L2
namespace Att
open PySem PySem.W PySem.Calls PyProof.Rows
theorem abV {P:Params}{h:Heap}:∀ (ns:List Int) (vs:List Value),WellAll P h vs (ns.map WData.int)->IntsAre vs ns:=by
 intro ns
 induction ns with
 | nil=>
  intro vs w
  rw [List.map_nil] at w
  cases w
  exact .nil
 | cons n ns ih=>
  intro vs w
  rw [List.map_cons] at w
  cases w with
  | cons a b=>
   cases a
   exact .cons _ _ (ih _ b)
theorem ajy {l:OpenLaw}{n:Nat} (hn:l.most=some n) {P:Params}{h:Heap}{args:List WData}{vals:List Value}
  (hpre:l.row.toRowW.claim.pre args=true) (hwl:WellAll P h vals args):
  ∃ a vs ns,vals=[Value.ref a]/\args=[WData.list (ns.map WData.int)]/\h.get? a=some { cls:= .type "list",data:= .seq vs.toArray }/\IntsAre vs ns/\ns.length<=n:=by
 have hsh:WShape.hasAll [] args [.list .int]=true:=(pre_splitW hpre).1
 have hc:l.pre.holds [] { args:=args }=true:=(pre_splitW hpre).2
 obtain ⟨d,r,rfl,h1,h2⟩:=hasAllW_cons hsh
 obtain rfl:=hasAllW_nil h2
 obtain ⟨xs,rfl,h3⟩:=hasW_list h1
 obtain ⟨ns,rfl⟩:=items_int h3
 have hlen:ns.length<=n:=by
  unfold OpenLaw.pre at hc
  have h4:(WTm.not (.lt (.lit (.int (n:Int))) (.len (.arg 0)))).holds [] { args:=[.list (ns.map .int)] }=true:=by
   have h4:=(holds_andW hc).1
   rw [hn] at h4
   exact h4
  have h5:=condW_of h4 (w_not (w_lt w_lit (w_len_list (w_arg rfl))))
  rw [List.length_map] at h5
  refine Nat.le_of_not_lt fun q=>?_
  have q':(n:Int) < ((ns.length:Nat):Int):=by omega
  first
   | (rw [decide_eq_true q'] at h5; exact absurd h5 (by decide))
   | (simp at h5; omega)
 cases hwl with
 | cons w1 w2=>
  cases w2
  cases w1 with
  | list ho hall=>exact ⟨_,_,ns,rfl,rfl,ho,abV ns _ hall,hlen⟩
theorem ajz (l:OpenLaw) (args:List WData):l.row.toRowW.claim.post args (.bool true) args=true:=
 postW_of (r:=l.row.toRowW) (X:=(true == true))
  (show WShape.has [] (.bool true) .bool=true by first | rfl | decide | simp [WShape.has,WShape.arms,WShape.armsAll])
  (show (WTm.eq .res (.lit (.bool true))).value [] { args:=args,res:=some (.bool true),after:=args }=some (.bool (true == true)) from w_eq_bool (w_res rfl) w_lit) rfl
theorem attach_call {l:OpenLaw}{n:Nat}{q:Program}{loose:List Str}{XP:(Str->Option Value)->Heap->Prop}{YP:World->Heap->Prop}{d:DefRec}
  (hn:l.most=some n) (hdf:d.params.defaults=[])
  (call:∀ (w:World) (s₀ s₁:Shared) (mg mb:Str->Option Value) (fa:Addr) (o:Obj) (pm cd doc:Value) (a:Addr) (vs:List Value) (ns:List Int),
   Ground q loose [] XP w s₀ mg mb s₁.heap->YP w s₁.heap->
   s₁.heap.get? fa=some o->o.data= .func (docDef d.name d.params d.body d.scope pm cd doc)->s₁.heap.CodeRec cd d.name->mg d.name=some (.ref fa)->
   s₁.heap.get? a=some { cls:= .type "list",data:= .seq vs.toArray }->IntsAre vs ns->ns.length<=n->s₁.gens=#[]->
   codeAny (model l.prog w) callerA (.call (.ref fa) ⟨[.ref a],[]⟩) (fun r s'=>r= .ok (.ret (.bool true))/\OldK s₁.heap s'.heap/\s'.os=s₁.os/\AllBare s'.gens) s₁):
  WalkO q loose XP YP l.row.toRowW d [] (fun f vs=>PySem.call f vs):=by
 intro w s₀ s₁ mg mb G Y fa o pm cd doc dV kV ho hd hcd hD hmg hg args vals as hpre hlay hrd hwl hlo
 obtain rfl:dV= .none:=Dflts.none hD hdf
 obtain rfl:kV= .none:=Dflts.noKw hD
 obtain ⟨a,vs,ns,rfl,rfl,hobj,hints,hlen⟩:=ajy hn hpre hwl
 refine enter_call (codeAny_mono (call w s₀ s₁ mg mb fa o pm cd doc a vs ns G Y ho (fd_plain hd) hcd hmg hobj hints hlen hg) fun r s' hq=>?_)
 obtain ⟨rfl,h2,h3,h4⟩:=hq
 exact ⟨.inl ⟨.bool true,.bool true,[],rfl,fun _=>rfl,.bool true,ajz l _,fun _=>⟨List.Pairwise.nil,fun _ hm=>(nomatch hm)⟩⟩,h2,h3,h4⟩
section
variable {prog:Program}{w:World}{A:Around}{E:Value->Shared->Prop}{s:Shared}{K:Frag}
noncomputable def asa (h:Heap) (L d:Addr):List (Addr × Obj):=(List.range h.objs.size).filterMap fun a=>if a=L ∨ a=d then none else (h.get? a).map fun o=>(a,o)
end
end Att
namespace L2
open PySem PySem.Spec PyProof.Rows
theorem Zw:∀ {vs:List Value}{ns:List Int},IntsAre vs ns->jG (ns.map V.int) vs
 | _,_,.nil=> .nil
 | _,_,.cons n t h=> .cons ⟨t,rfl⟩ (Zw h)
noncomputable def apO (H:Hp):Prop:=∀ b,H b=none ∨ ∃ o xs,H b=some (.frz o (.lst xs))
theorem ak3 {P:Program}{w:World}{K:PySem.W.Frag}{mg mb:Str->Option Value}{CX:CXT}{k:Nat}{fa a:Addr}{fd:FuncData}{x:Str}{sp:Sp}{s₁:Shared}{vs:List Value}{ns:List Int}
  (KX:K.In s₁.heap) (hns:s₁.heap.Ns mainGlobals mg) (hb:s₁.heap.Ns builtinsNs mb) (hbb:∀ x:Str,x ≠ "__name__"->mb x=bootBuiltins x) (hlim:s₁.heap.NoLimit) (hg:s₁.gens=#[])
  (ha:s₁.heap.get? a=some { cls:= .type "list",data:= .seq vs.toArray }) (hi:IntsAre vs ns) (hl:ns.length<=sizeLine) (hr:Room k callerA)
  (F:∀ base:Heap,K.In base->base.Ns mainGlobals mg->FnOk P w K mg base CX k fa fd [x] sp) (hbind:∀ (s:Shared) (u:Value),BindsTo s fd ⟨[u],[]⟩ [(x,u)])
  (hsp:∀ H:Hp,apO H->SqL K H a (ns.map V.int)->sp [.ref a] H (fun v _=>v= .bl true) fun _ _ _=>False)
  (hCX:∀ H e s',CX [] H s₁ (fun _ _ _=>False) e s'->False):
  codeAny (model P w) callerA (.call (.ref fa) ⟨[.ref a],[]⟩) (fun r s'=>r= .ok (.ret (.bool true))/\OldK s₁.heap s'.heap/\s'.os=s₁.os/\AllBare s'.gens) s₁:=by
 have rv:=Zw hi
 have lenV:=hi.length
 have core:∀ H:Hp,apO H->SqL K H a (ns.map V.int)->HOk P w H s₁.heap->(∀ b,H b ≠ none->b=a)->(H a ≠ none->K.lookup a=none)->
   codeAny (model P w) callerA (.call (.ref fa) ⟨[.ref a],[]⟩) (fun r s'=>r= .ok (.ret (.bool true))/\OldK s₁.heap s'.heap/\s'.os=s₁.os/\AllBare s'.gens) s₁:=by
  intro H hO hS hok hA hK
  have base_of:∀ {b:Addr} {o:Obj},s₁.heap.get? b=some o->H b=none->(aeB s₁.heap H).get? b=some o:=fun e n=>akM e n
  have noA:∀ {b:Addr} {o:Obj} {es:Array DictEntry} {ep:Nat},s₁.heap.get? b=some o->o.data= .dict es ep->H b=none:=fun {b o es ep} e d=>by
   cases q:H b with
   | none=>rfl
   | some u=>
    have e':b=a:=hA b (by rw [q]; simp)
    subst e'
    rw [ha] at e; cases e
    have d':Data.seq vs.toArray _=Data.dict es ep:=d
    cases d'
  have nsK:∀ {b:Addr} {m:Str->Option Value},s₁.heap.Ns b m->(aeB s₁.heap H).Ns b m:=fun {b m} ⟨o,es,ep,e,d,r⟩=>⟨o,es,ep,base_of e (noA e d),d,r⟩
  have hKb:K.In (aeB s₁.heap H):=fun b o e=>base_of (KX b o e) (by
   cases q:H b with
   | none=>rfl
   | some u=>
    have e':b=a:=hA b (by rw [q]; simp)
    subst e'
    rw [hK (by rw [q]; simp)] at e; cases e)
  have hM:Mod K mg (aeB s₁.heap H):=⟨hKb,nsK hns,⟨mb,nsK hb,hbb⟩,let ⟨mc,h1,h2⟩:=hlim; ⟨mc,nsK h1,h2⟩⟩
  have e0:Env0 P w K mg (aeB s₁.heap H) callerA [] s₁ H:=⟨rfl,hM,fun b o e=>ana e,Nat.le_of_eq (ajq _ _),trivial,fun b hb=>absurd (show b ∈ ([]:List Addr) from hb) (by simp),hok,.of_eq hg⟩
  refine codeAny_mono ((F _ hKb (nsK hns)).run callerA [] s₁ H ⟨[.ref a],[]⟩ [.ref a] [.ref a] _ _ hr e0 (hbind s₁ (.ref a)) (.cons rfl .nil) (hsp H hO hS)) fun r s' h=>?_
  cases r with
  | error e=>exact (hCX H e s' h).elim
  | ok fl=>
   cases fl with
   | next=>exact False.elim h
   | brk=>exact False.elim h
   | cont=>exact False.elim h
   | ret u=>
    obtain ⟨v,H',os,bare,un,hok',r',q⟩:=h
    have q':v= .bl true:=q
    subst q'
    obtain rfl:u=Value.bool true:=r'
    refine ⟨rfl,OldK.of_keep fun b o e=>?_,os,bare⟩
    cases q:H b with
    | none=>exact un.keep b o e q (by intro z; exact absurd (show b ∈ ([]:List Addr) from z) (by simp)) (by simp)
    | some u=>
     rcases hO b with z | ⟨ob,xs,z⟩
     ·rw [q] at z; cases z
     ·have z2:=un.frzs b ob _ z
      obtain ⟨e1,_⟩:=hok b _ z
      obtain ⟨e2,_⟩:=hok' b _ z2
      rw [e] at e1; cases e1
      exact e2
 cases hk:K.lookup a with
 | some o=>
  have e:=KX a o hk
  rw [ha] at e
  cases e
  refine core (fun _=>none) (fun _=> .inl rfl) (.inr ⟨_,vs.toArray,_,hk,rfl,rfl,rfl,by rw [List.size_toArray,lenV]; exact hl,by simpa using rv⟩) (fun b u z=>by have z':(none:Option HO)=some u:=z; cases z') (fun b z=>absurd rfl z) fun z=>absurd rfl z
 | none=>
  refine core (fun b=>if b=a then some (.frz { cls:= .type "list",data:= .seq vs.toArray } (.lst (ns.map V.int))) else none) (fun b=>?_) (.inl (.inr ⟨{ cls:= .type "list",data:= .seq vs.toArray },if_pos rfl⟩)) (fun b u z=>?_) (fun b z=>?_) fun _=>hk
  ·by_cases hb:b=a
   ·exact .inr ⟨_,_,if_pos hb⟩
   ·exact .inl (if_neg hb)
  ·by_cases hb:b=a
   ·have z':=(if_pos hb).symm.trans z
    cases z'
    subst hb
    exact ⟨ha,by rw [List.length_map]; exact hl,vs,_,rv,ha⟩
   ·have z':=(if_neg hb).symm.trans z
    cases z'
  ·by_cases hb:b=a
   ·exact hb
   ·exact absurd (if_neg hb) z
end L2
namespace L2
open PySem PySem.Spec PyProof.Rows
theorem ano {l:PySem.W.OpenLaw}{n k:Nat}{q:Program}{loose:List Str}{XP:(Str->Option Value)->Heap->Prop}{YP:World->Heap->Prop}{d:DefRec}{K:Params->PySem.W.Frag}{CX:World->CXT}{sp:World->Sp}{x:Str}
  (hn:l.most=some n) (hn2:n<=sizeLine) (hdf:d.params.defaults=[]) (hr:Room k callerA)
  (hY:∀ (w:World) (h:Heap),YP w h->(K w.params).In h)
  (F:∀ (w:World) (mg:Str->Option Value) (fa:Addr) (h:Heap),(K w.params).In h->h.Ns mainGlobals mg->mg d.name=some (.ref fa)->
   ∃ fd:FuncData,(∀ (s:Shared) (u:Value),BindsTo s fd ⟨[u],[]⟩ [(x,u)])/\
    ∀ base:Heap,(K w.params).In base->base.Ns mainGlobals mg->FnOk l.prog w (K w.params) mg base (CX w) k fa fd [x] (sp w))
  (hsp:∀ (w:World) (H:Hp) (a:Addr) (ns:List Int),ns.length<=n->apO H->SqL (K w.params) H a (ns.map V.int)->sp w [.ref a] H (fun v _=>v= .bl true) fun _ _ _=>False)
  (hCX:∀ (w:World) (H:Hp) (s:Shared) (e:Value) (s':Shared),CX w [] H s (fun _ _ _=>False) e s'->False):
  PySem.W.WalkO q loose XP YP l.row.toRowW d [] (fun f vs=>PySem.call f vs):=by
 refine Att.attach_call hn hdf fun w s₀ s₁ mg mb fa o pm cd doc a vs ns G Y ho hd hcd hmg hobj hints hlen hg=>?_
 have KX:=hY w _ Y
 obtain ⟨fd,hb,hF⟩:=F w mg fa _ KX G.T.g hmg
 exact ak3 KX G.T.g G.T.b G.T.builtins G.T.nolimit hg hobj hints (Nat.le_trans hlen hn2) hr hF hb (fun H hO hS=>hsp w H a ns hlen hO hS) fun H e s'=>hCX w H s₁ e s'
end L2
namespace L2
open PySem PySem.Spec PyProof.Rows
noncomputable def Qz (s:Stmt):Arguments:=match s with
 | .FunctionDef _ a _ _ _ _ _ _ _ _=>a
 | _=>{ posonlyargs:=[],args:=[],vararg:=none,kwonlyargs:=[],kw_defaults:=[],kwarg:=none,defaults:=[] }
noncomputable def jK (s:Stmt):List Stmt:=match s with
 | .FunctionDef _ _ b _ _ _ _ _ _ _=>b
 | _=>[]
noncomputable def jf (s:Stmt):Scope:=match s with
 | .FunctionDef _ _ _ _ _ _ sc _ _ _=>sc
 | _=>{ kind:= .function,names:=[],isGenerator:=false,isCoroutine:=false }
noncomputable abbrev CX0:CXT:=fun _ _ _ _ _ _=>False
noncomputable abbrev E0:XK:=fun _ _ _=>False
theorem aiA {X:Cx}:aht CX0 X E0:=fun _ _ _ _ _ _ _ h=>h.elim
structure Fun (K:PySem.W.Frag) (x qual:Str) (st:Stmt) (f:Addr) (fd:FuncData):Prop where
 ex:∃ (oc:Value) (od:Option Addr) (kV doc pm:Value) (an:Option Addr) (cdv ct:Value) (osl:Array (Option Value)),
  fd=PySem.W.fnOf x qual (Qz st) (jK st) (jf st) .none kV doc pm an cdv ct/\K.lookup f=some ⟨oc,od,.func fd,osl⟩/\PySem.W.codeIn K cdv qual=true
 kp:PySem.W.keepIn K (.ref f)=true
section
variable {P:Program}{w:World}{K:PySem.W.Frag}{mg:Str->Option Value}{base:Heap}
theorem Fun.ok {x qual:Str}{st:Stmt}{f:Addr}{fd:FuncData}{N ps:List Str}{k:Nat}{sp:Sp} (F:Fun K x qual st f fd) (S:FnScope N ps (jf st)) (len:∀ vs H Q E,sp vs H Q E->vs.length=ps.length)
  (hbody:∀ (cdv:Value) (A:Around) (outer:List Env) (s:Shared) (H:Hp) (vs:List V) (Q:VK) (E:XK),Room k (A.deeper (envOfC qual (jf st) s.heap.objs.size f cdv))->sp vs H Q E->
   ∃ t,PSs (Jo CX0 P w K mg base N qual (jf st) f cdv A outer s H E).nox (jK st) t/\t { nx:=fun _ H'=>Q .non H',rt:=Q } (zH N vs) H):FnOk P w K mg base CX0 (k+1) f fd ps sp:=by
 obtain ⟨oc,od,kV,doc,pm,an,cdv,ct,osl,rfl,lk,hcd⟩:=F.ex
 refine aq5 lk hcd S len fun A outer s H vs Q E hr hsp=>?_
 obtain ⟨t,h,q⟩:=hbody cdv A outer s H vs Q E hr hsp
 exact ⟨t,h.nox,q⟩
theorem Fun.binds {x qual:Str}{st:Stmt}{f:Addr}{fd:FuncData}{ps:List Str} (F:Fun K x qual st f fd)
  (h:∀ (kV doc pm:Value) (an:Option Addr) (cdv ct:Value) (us:List Value),us.length=ps.length->bindArgs (PySem.W.fnOf x qual (Qz st) (jK st) (jf st) .none kV doc pm an cdv ct) ⟨us,[]⟩=pure (ps.zip us)):QZ K fd ps []:=by
 obtain ⟨oc,od,kV,doc,pm,an,cdv,ct,osl,rfl,lk,hcd⟩:=F.ex
 exact .all (h kV doc pm an cdv ct)
theorem aeK {x qual:Str}{st:Stmt}{f:Addr}{oc:Value}{od an:Option Addr}{osl:Array (Option Value)}{kV doc pm cdv ct:Value} (l:K.lookup f=some ⟨oc,od,.func (PySem.W.fnOf x qual (Qz st) (jK st) (jf st) .none kV doc pm an cdv ct),osl⟩)
  (c:PySem.W.codeIn K cdv qual=true) (k:PySem.W.keepIn K (.ref f)=true):Fun K x qual st f (PySem.W.fnOf x qual (Qz st) (jK st) (jf st) .none kV doc pm an cdv ct):=⟨⟨oc,od,kV,doc,pm,an,cdv,ct,osl,rfl,l,c⟩,k⟩
end
theorem abG {A:Around}{k:Nat} (hr:Room k A):A.units+1 < cLine:=Nat.lt_of_le_of_lt (Nat.add_le_add_left (by decide:1<=64) _) hr.units
section
variable {X:Cx}
theorem pv (i:Nat) {x:Str}{pos:Pos} (hN:X.N[i]?=some x:=by rfl) (hv:Vis X.env.scope x:=by first | exact Or.inl rfl | exact Or.inr (Or.inl rfl) | exact Or.inr (Or.inr rfl)) (hd:(x == ("__debug__":Str))=false:=by decide)
  (hcd:(x == ("__classdict__":Str))=false:=by decide):PE X (.Name x pos) (aqQ i):=act hN hv hd hcd
end
theorem aq8 {A B:Prop} (h:B):if false=true then A else B:=by
 rw [if_neg Bool.false_ne_true]
 exact h
theorem aq9 {A B:Prop} (h:A):if true=true then A else B:=by
 rw [if_pos rfl]
 exact h
noncomputable def jq (H H':Hp):Prop:=∀ b o,H b=some o->H' b=some o
theorem jq.refl (H:Hp):jq H H:=fun _ _ h=>h
theorem jq.trans {H H1 H2:Hp} (a:jq H H1) (b:jq H1 H2):jq H H2:=fun c o h=>b c o (a c o h)
theorem jq.free {H H':Hp} (e:jq H H') {l:Addr} (h:H' l=Option.none):H l=Option.none:=by
 cases q:H l with
 | none=>rfl
 | some o=>
  rw [e l o q] at h
  cases h
theorem jq.seq {K:PySem.W.Frag}{H H':Hp}{a:Addr}{xs:List V} (e:jq H H') (h:SqL K H a xs):SqL K H' a xs:=by
 rcases h with (h | ⟨o,h⟩) | h
 ·exact .inl (.inl (e _ _ h))
 ·exact .inl (.inr ⟨o,e _ _ h⟩)
 ·exact .inr h
section
variable {κ:Type} [DecidableEq κ]
noncomputable def QA (kvs:List (κ × V)) (k:κ):Option V:=(kvs.find? fun kv=>decide (kv.1=k)).map (·.2)
noncomputable def Qc (kvs:List (κ × V)) (k:κ) (v:V):List (κ × V):=
 if (kvs.any fun kv=>decide (kv.1=k))=true then kvs.map (fun kv=>if kv.1=k then (kv.1,v) else kv) else kvs++[(k,v)]
noncomputable def ao9 (kvs:List (κ × V)) (k:κ):List (κ × V):=kvs.filter fun kv=>decide (kv.1 ≠ k)
theorem acw {p:κ × V}{r:List (κ × V)}{k:κ} (e:p.1=k):QA (p::r) k=some p.2:=by simp [QA,List.find?_cons,e]
theorem acx {p:κ × V}{r:List (κ × V)}{k:κ} (e:¬ p.1=k):QA (p::r) k=QA r k:=by simp [QA,List.find?_cons,e]
theorem afY (k:κ):∀ kvs:List (κ × V),(kvs.any fun kv=>decide (kv.1=k))=(QA kvs k).isSome
 | []=>rfl
 | p::r=>by
  rw [List.any_cons]
  by_cases e:p.1=k
  ·simp only [acw e,decide_eq_true e,Bool.true_or,Option.isSome_some]
  ·rw [acx e,decide_eq_false e,Bool.false_or]; exact afY k r
theorem Q0 (kvs:List (κ × V)) (k:κ) (v:V):(Qc kvs k v).length<=kvs.length+1:=by
 unfold Qc
 split
 ·rw [List.length_map]; omega
 ·rw [List.length_append,List.length_cons,List.length_nil]; omega
theorem abU.isSome_eq {o:Option V}{u:Option Value} (r:abU o u):o.isSome=u.isSome:=by
 cases o with
 | none=>cases u with
  | none=>rfl
  | some _=>exact (show False from r).elim
 | some _=>cases u with
  | none=>exact (show False from r).elim
  | some _=>rfl
theorem abU.getD {o:Option V}{u:Option Value}{d:V}{d':Value} (r:abU o u) (rd:jP d d'):jP (o.getD d) (u.getD d'):=by
 cases o with
 | none=>cases u with
  | none=>exact rd
  | some _=>exact (show False from r).elim
 | some _=>cases u with
  | none=>exact (show False from r).elim
  | some _=>exact r
theorem KV.val {kvs:List (κ × V)}{vs:List (κ × Value)} (r:KV kvs vs) (k:κ):abU (QA kvs k) (valueAt vs k):=by
 unfold KV at r
 induction r with
 | nil=>exact True.intro
 | @cons p q ps qs h t ih=>
  obtain ⟨h1,h2⟩:=h
  by_cases e:p.1=k
  ·have e':q.1=k:=h1.symm.trans e
   have b:valueAt (q::qs) k=some q.2:=by simp [valueAt,List.find?_cons,e']
   rw [acw e,b]; exact h2
  ·have e':¬ q.1=k:=fun z=>e (h1.trans z)
   have b:valueAt (q::qs) k=valueAt qs k:=by simp [valueAt,List.find?_cons,e']
   rw [acx e,b]; exact ih
theorem KV.any {kvs:List (κ × V)}{vs:List (κ × Value)} (r:KV kvs vs) (k:κ):(kvs.any fun kv=>decide (kv.1=k))=vs.any fun kv=>decide (kv.1=k):=by
 unfold KV at r
 induction r with
 | nil=>rfl
 | cons h t ih=>rw [List.any_cons,List.any_cons,ih,h.1]
theorem KV.repl {kvs:List (κ × V)}{vs:List (κ × Value)} (r:KV kvs vs) (k:κ) {y:V}{u:Value} (ry:jP y u):
  KV (kvs.map fun kv=>if kv.1=k then (kv.1,y) else kv) (vs.map fun kv=>if kv.1=k then (kv.1,u) else kv):=by
 unfold KV at r ⊢
 induction r with
 | nil=>exact .nil
 | @cons p q ps qs h t ih=>
  rw [List.map_cons,List.map_cons]
  refine .cons ?_ ih
  obtain ⟨h1,h2⟩:=h
  by_cases e:p.1=k
  ·rw [if_pos e,if_pos (h1.symm.trans e)]; exact ⟨h1,ry⟩
  ·rw [if_neg e,if_neg (fun z=>e (h1.trans z))]; exact ⟨h1,h2⟩
theorem KV.put {kvs:List (κ × V)}{vs:List (κ × Value)} (r:KV kvs vs) (k:κ) {y:V}{u:Value} (ry:jP y u):KV (Qc kvs k y) (stored vs k u):=by
 unfold Qc stored
 rw [r.any k]
 by_cases e:(vs.any fun kv=>decide (kv.1=k))=true
 ·rw [if_pos e,if_pos e]; exact r.repl k ry
 ·rw [if_neg e,if_neg e]; exact Paired.snoc r ⟨rfl,ry⟩
theorem KV.drop {kvs:List (κ × V)}{vs:List (κ × Value)} (r:KV kvs vs) (k:κ):KV (ao9 kvs k) (without vs k):=by
 unfold KV at r ⊢
 unfold ao9 without
 induction r with
 | nil=>exact .nil
 | @cons p q ps qs h t ih=>
  obtain ⟨h1,h2⟩:=h
  rw [List.filter_cons,List.filter_cons]
  by_cases e:p.1=k
  ·have a:¬ decide (p.1 ≠ k)=true:=by simp [e]
   have b:¬ decide (q.1 ≠ k)=true:=by simp [h1.symm.trans e]
   rw [if_neg a,if_neg b]; exact ih
  ·have e':¬ q.1=k:=fun z=>e (h1.trans z)
   have a:decide (p.1 ≠ k)=true:=by simp [e]
   have b:decide (q.1 ≠ k)=true:=by simp [e']
   rw [if_pos a,if_pos b]; exact .cons ⟨h1,h2⟩ ih
theorem KV.keys {kvs:List (κ × V)}{vs:List (κ × Value)} (r:KV kvs vs):kvs.map (·.1)=vs.map (·.1):=by
 unfold KV at r
 induction r with
 | nil=>rfl
 | cons h t ih=>rw [List.map_cons,List.map_cons,ih,h.1]
theorem KV.length {kvs:List (κ × V)}{vs:List (κ × Value)} (r:KV kvs vs):kvs.length=vs.length:=Paired.length r
end
theorem adU {P:Program}{w:World}{k:Key}{u:Value} (r:jP (kV k) u):(j1 P w).is k u=true:=by
 cases k with
 | inl i=>obtain ⟨t,e⟩:=(show ∃ t,u=Value.int i t from r); subst e; exact afP P w i t
 | inr x=>obtain ⟨t,e⟩:=(show ∃ t,u=Value.str x t from r); subst e; exact afQ P w x t
theorem adV {P:Program}{w:World}:∀ {ks:List Key}{us:List Value},jG (ks.map kV) us->ItemsAre (j1 P w) ks us
 | [],_,r=>by rw [List.map_nil] at r; cases r; exact .nil
 | k::ks,_,r=>by
  rw [List.map_cons] at r
  cases r with
  | cons h t=>exact .cons (adU h) (adV t)
noncomputable abbrev KT (H:Hp):List (List Key × V)->List (List Key × Addr × Value)->Prop:=Paired fun p q=>p.1=q.1/\H q.2.1=some (.tup (p.1.map kV))/\jP p.2 q.2.2
theorem KT.val {H:Hp}{kvs:List (List Key × V)}{xs:List (List Key × Addr × Value)} (r:KT H kvs xs) (k:List Key):abU (QA kvs k) ((atKey xs k).map (·.2)):=by
 induction r with
 | nil=>exact True.intro
 | @cons p q ps qs h t ih=>
  obtain ⟨h1,_,h2⟩:=h
  by_cases e:p.1=k
  ·have e':q.1=k:=h1.symm.trans e
   have b:atKey (q::qs) k=some q.2:=by simp [atKey,List.find?_cons,e']
   rw [acw e,b]; exact h2
  ·have e':¬ q.1=k:=fun z=>e (h1.trans z)
   have b:atKey (q::qs) k=atKey qs k:=by simp [atKey,List.find?_cons,e']
   rw [acx e,b]; exact ih
theorem KT.repl {H:Hp}{kvs:List (List Key × V)}{xs:List (List Key × Addr × Value)} (r:KT H kvs xs) (k:List Key) {y:V}{u:Value} (ry:jP y u):
  KT H (kvs.map fun kv=>if kv.1=k then (kv.1,y) else kv) (xs.map (putAt k u)):=by
 induction r with
 | nil=>exact .nil
 | @cons p q ps qs h t ih=>
  rw [List.map_cons,List.map_cons]
  refine .cons ?_ ih
  obtain ⟨h1,h2,h3⟩:=h
  unfold putAt
  by_cases e:p.1=k
  ·rw [if_pos e,if_pos (h1.symm.trans e)]; exact ⟨h1,h2,ry⟩
  ·rw [if_neg e,if_neg (fun z=>e (h1.trans z))]; exact ⟨h1,h2,h3⟩
theorem KT.put {H:Hp}{kvs:List (List Key × V)}{xs:List (List Key × Addr × Value)} (r:KT H kvs xs) (k:List Key) {b:Addr}{y:V}{u:Value} (hb:H b=some (.tup (k.map kV))) (ry:jP y u):
  KT H (Qc kvs k y) (storedH xs k b u):=by
 have e:(kvs.any fun kv=>decide (kv.1=k))=(atKey xs k).isSome:=by
  rw [afY,(r.val k).isSome_eq,Option.isSome_map]
 unfold Qc storedH
 rw [e]
 by_cases q:(atKey xs k).isSome=true
 ·rw [if_pos q,if_pos q]; exact r.repl k ry
 ·rw [if_neg q,if_neg q]; exact Paired.snoc r ⟨rfl,hb,ry⟩
theorem KT.keeps {H H':Hp}{kvs:List (List Key × V)}{xs:List (List Key × Addr × Value)} (r:KT H kvs xs) (ht:∀ b ys,H b=some (.tup ys)->H' b=some (.tup ys)):KT H' kvs xs:=
 Paired.mapP r fun _ _ z=>⟨z.1,ht _ _ z.2.1,z.2.2⟩
section
variable {P:Program}{w:World}{H:Hp}{h:Heap}{a:Addr}
theorem apa {u:HO} (ok:HOk P w H h) (e:Rd H a u):qt P w H h a u:=e.ok ok
theorem acy {kvs:List (Key × V)} (ok:HOk P w H h) (e:Rd H a (.dK kvs)):kvs.length<=sizeLine/\(a == sysModules)=false/\∃ vs,KV kvs vs/\h.DictOf (j1 P w) a vs:=
 show qt P w H h a (.dK kvs) from apa ok e
theorem apb {kvs:List (Key × V)} (ok:HOk P w H h) (e:H a=some (.dK kvs)):kvs.length<=sizeLine/\(a == sysModules)=false/\∃ vs,KV kvs vs/\h.DictOf (j1 P w) a vs:=acy ok (.inl e)
theorem acz {ks:List Key} (ok:HOk P w H h) (e:H a=some (.tup (ks.map kV))):(tupleKind (j1 P w)).is h ks a:=by
 obtain ⟨_,its,r,o,h1,h2,n,h3⟩:=(show qt P w H h a (.tup (ks.map kV)) from ok a _ e)
 exact ⟨o,its.toArray,n,h1,h2,h3,by simpa using adV r⟩
theorem adW {kvs:List (List Key × V)} (ok:HOk P w H h) (e:Rd H a (.dT kvs)):kvs.length<=sizeLine/\(a == sysModules)=false/\
  ∃ xs,KT H kvs xs/\h.DictOfH (tupleKind (j1 P w)) a xs:=by
 obtain ⟨z,y,xs,r,o,es,ep,h1,h2,h3,h4,h5⟩:=(show qt P w H h a (.dT kvs) from apa ok e)
 refine ⟨z,y,xs,r,o,es,ep,h1,h2,h3,h4,fun x hx=>?_,h5⟩
 have all:∀ {l:List (List Key × V)} {m:List (List Key × Addr × Value)},KT H l m->∀ x ∈ m,(tupleKind (j1 P w)).is h x.1 x.2.1:=by
  intro l m q
  induction q with
  | nil=>intro x hx; exact nomatch hx
  | @cons p q ps qs hq t ih=>
   intro x hx
   rcases List.mem_cons.mp hx with e | hx
   ·subst e
    exact acz ok (by rw [←hq.1]; exact hq.2.1)
   ·exact ih x hx
 exact all r x hx
theorem ara {kvs:List (List Key × V)} (ok:HOk P w H h) (e:H a=some (.dT kvs)):kvs.length<=sizeLine/\(a == sysModules)=false/\
  ∃ xs,KT H kvs xs/\h.DictOfH (tupleKind (j1 P w)) a xs:=adW ok (.inl e)
end
noncomputable def abW (H:Hp) (a:Addr) (y:V) (r:Option V):Prop:=
 (∃ kvs k,Rd H a (.dK kvs)/\y=kV k/\r=QA kvs k) ∨ ∃ kvs k b,Rd H a (.dT kvs)/\y= .ref b/\H b=some (.tup (k.map kV))/\r=QA kvs k
noncomputable def ajA (H:Hp) (a:Addr) (y v:V) (H':Hp):Prop:=
 (∃ kvs k,H a=some (.dK kvs)/\y=kV k/\kvs.length < sizeLine/\H'=upd H a (.dK (Qc kvs k v))) ∨
 ∃ kvs k b,H a=some (.dT kvs)/\y= .ref b/\H b=some (.tup (k.map kV))/\kvs.length < sizeLine/\H'=upd H a (.dT (Qc kvs k v))
theorem abW.k {H:Hp}{a:Addr}{kvs:List (Key × V)}{k:Key} (e:H a=some (.dK kvs)):abW H a (kV k) (QA kvs k):= .inl ⟨kvs,k,.inl e,rfl,rfl⟩
theorem abW.t {H:Hp}{a b:Addr}{kvs:List (List Key × V)}{k:List Key} (e:H a=some (.dT kvs)) (eb:H b=some (.tup (k.map kV))):abW H a (.ref b) (QA kvs k):= .inr ⟨kvs,k,b,.inl e,rfl,eb,rfl⟩
theorem ajA.k {H:Hp}{a:Addr}{kvs:List (Key × V)}{k:Key}{v:V} (e:H a=some (.dK kvs)) (hl:kvs.length < sizeLine):ajA H a (kV k) v (upd H a (.dK (Qc kvs k v))):= .inl ⟨kvs,k,e,rfl,hl,rfl⟩
theorem ajA.t {H:Hp}{a b:Addr}{kvs:List (List Key × V)}{k:List Key}{v:V} (e:H a=some (.dT kvs)) (eb:H b=some (.tup (k.map kV))) (hl:kvs.length < sizeLine):
  ajA H a (.ref b) v (upd H a (.dT (Qc kvs k v))):= .inr ⟨kvs,k,b,e,rfl,eb,hl,rfl⟩
section
variable {X:Cx}{pins:List (Addr × Obj)}{σ:St}{H:Hp}{s:Shared}{a:Addr}{y v:V}{u r:Value}{o:Option V}{A:Around}{E:Value->Shared->Prop}
theorem Inv.big (I:Inv X pins σ H s):sysModules < s.heap.objs.size:=by
 have h:mainGlobals < s.heap.objs.size:=(I.mod.glob.keeps I.bk).lt
 exact Nat.lt_trans (by decide) h
theorem ajB {Q:Value->Shared->Prop} (hu:A.units+1 < cLine) (I:Inv X pins σ H s) (g:abW H a y (some v)) (ry:jP y u) (h:∀ w' s',Inv X pins σ H s'->jP v w'->Q w' s'):
  wpAny (model X.prog X.w) A (getItem (.ref a) u) Q E s:=by
 rcases g with ⟨kvs,k,e,ey,l⟩ | ⟨kvs,k,b,e,ey,eb,l⟩
 ·subst ey
  obtain ⟨z,hd,vs,rel,dd⟩:=acy I.hok e
  obtain ⟨w',hw,rw'⟩:=abU.some_of (v:=v) (o:=valueAt vs k) (by rw [l]; exact rel.val k)
  exact wpAny_getItem_of (adU ry) dd.mapOf hw (h w' _ (I.tok _) rw')
 ·subst ey
  cases (show u=Value.ref b from ry)
  obtain ⟨z,hd,xs,rel,dd⟩:=adW I.hok e
  obtain ⟨w',hw,rw'⟩:=abU.some_of (v:=v) (o:=(atKey xs k).map (·.2)) (by rw [l]; exact rel.val k)
  obtain ⟨p,hp,hp2⟩:=Option.map_eq_some_iff.mp hw
  refine wpAny_getItem_heap (tupleKind_room_in1 hu) (acz I.hok eb) dd hp ?_
  rw [hp2]
  exact h w' _ (I.tok _) rw'
theorem aeL {h':Heap}{t':Nat}{ob:HO} (I:Inv X pins σ H s) (mu:Mut (H a)) (hs:Heap.SameBut a s.heap h') (he:∃ q,h'.get? a=some q) (new:qt X.prog X.w (upd H a ob) h' a ob):
  Inv X pins σ (upd H a ob) { s with heap:=h',toks:=t' }:=
 I.write (x:=a) (e:=a) mu (.inl rfl) (fun b q hb z=>(hs.2 b hb).trans z) he new
theorem ak4 {P:Program}{w:World}{H':Hp}{h':Heap}{kvs:List (Key × V)}{vs:List (Key × Value)} (z:kvs.length<=sizeLine) (hd:(a == sysModules)=false) (rel:KV kvs vs) (dd:h'.DictOf (j1 P w) a vs):
  qt P w H' h' a (.dK kvs):=⟨z,hd,vs,rel,dd⟩
theorem ajC {H':Hp}{Q:Unit->Shared->Prop} (hu:A.units+1 < cLine) (I:Inv X pins σ H s) (g:ajA H a y v H') (ry:jP y u) (rv:jP v r) (h:∀ s',Inv X pins σ H' s'->Q () s'):
  wpAny (model X.prog X.w) A (setItem (.ref a) u r) Q E s:=by
 rcases g with ⟨kvs,k,e,ey,l,eH⟩ | ⟨kvs,k,b,e,ey,eb,l,eH⟩
 ·subst ey eH
  obtain ⟨z,hd,vs,rel,dd⟩:=apb I.hok e
  have hz:vs.length<=sizeLine:=by rw [←rel.length]; exact z
  have hl:(Qc kvs k v).length<=sizeLine:=by have:=Q0 kvs k v; omega
  refine wpAny_setItem_pairs (hsz:=hz) (adU ry) dd fun h' dd' hs=>h _ ?_
  have he:∃ q,h'.get? a=some q:=let ⟨q,_,_,hq,_⟩:=dd'; ⟨q,hq⟩
  exact aeL I (by rw [e]; exact True.intro) hs he (ak4 hl hd (rel.put k rv) dd')
 ·subst ey eH
  cases (show u=Value.ref b from ry)
  obtain ⟨z,hd,xs,rel,dd⟩:=ara I.hok e
  have hz:xs.length<=sizeLine:=by rw [←Paired.length rel]; exact z
  have hl:(Qc kvs k v).length<=sizeLine:=by have:=Q0 kvs k v; omega
  refine wpAny_setItem_heap (hsz:=hz) (tupleKind_room_in1 hu) (acz I.hok eb) dd fun h' dd' hs=>h _ ?_
  obtain ⟨q,es,ep,hq,h2,h3,h4,_,h5⟩:=dd'
  refine aeL I (by rw [e]; exact True.intro) hs ⟨q,hq⟩ ⟨hl,hd,_,(rel.put k eb rv).keeps fun c ys ec=>?_,q,es,ep,hq,h2,h3,h4,h5⟩
  rw [jn (aqP ec e (fun z=>nomatch z))]
  exact ec
end
section
variable {X:Cx}{pins:List (Addr × Obj)}{σ:St}{H:Hp}{s:Shared}{a:Addr}{kvs:List (Key × V)}{k:Key}{u:Value}{A:Around}{E:Value->Shared->Prop}
end
noncomputable def apP (i:Expr):Prop:=∀ ov iv,subscripted i false ov iv=operate [ov,iv] (getItem ov iv)
theorem anp {prog:Program}{w:World}{A:Around}{E:Value->Shared->Prop}{s:Shared}{env:Env}{value slice:Expr}{pos:Pos}{T id:String}{Q:Value->Shared->Prop}
  (hl:typeLookup (.type T) "__getitem__"=pure (some (.builtin id))) (hs:apP slice)
  (h:wpAny (model prog w) A (eval value env) (fun o s₁=>wpAny (model prog w) A (eval slice env) (fun i s₂=>s₂.TypeIs o T/\wpAny (model prog w) A (getItem o i) Q E s₂) E s₁) E s):
  wpAny (model prog w) A (eval (.Subscript value slice pos) env) Q E s:=by
 refine Subscript_ (wpAny_mono h (fun o s₁ h₁=>wpAny_mono h₁ (fun i s₂ h₂=>?_) fun _ _ x=>x) fun _ _ x=>x)
 obtain ⟨hT,h₂⟩:=h₂
 unfold subscriptTail
 refine wpAny_bind ?_
 rw [getitemInPython_of_ne hT.not_modules]
 refine wpAny_bind (wpAny_specialOf hT hl ?_)
 have fin:wpAny (model prog w) A (subscripted slice false o i) (fun r s₃=>wpAny (model prog w) A (letTemporaryGo value o r >>= fun _=>pure r) Q E s₃) E s₂:=by
  rw [hs o i]
  exact wpAny_operating (wpAny_mono h₂ (fun r s₃ h₃=>wpAny_bind (wpAny_letTemporaryGo (wpAny_pure h₃))) fun _ _ x=>x)
 first
  | exact wpAny_pure (wpAny_bind fin)
  | exact wpAny_bind (wpAny_pure (wpAny_bind fin))
  | exact wpAny_bind fin
theorem afZ {X:Cx}{pins:List (Addr × Obj)}{σ:St}{H:Hp}{s:Shared}{a:Addr}{y:V}{o:Option V} (I:Inv X pins σ H s) (g:abW H a y o):s.TypeIs (.ref a) "dict":=by
 rcases g with ⟨kvs,k,e,_,_⟩ | ⟨kvs,k,b,e,_,_,_⟩
 ·obtain ⟨_,_,vs,_,dd⟩:=acy I.hok e
  exact dd.typeIs
 ·obtain ⟨_,_,xs,_,dd⟩:=adW I.hok e
  exact dd.typeIs
noncomputable def arb (td ty:TE):TE:=fun σ H Q=>td σ H fun x H1=>ty σ H1 fun y H2=>∃ a v,x= .ref a/\abW H2 a y (some v)/\Q v H2
section
variable {X:Cx}{o i e value:Expr}{pos pos' tpos:Pos}{td ty tv:TE}
theorem anq (hu:X.A.units+1 < cLine) (ho:PE X o td) (hi:PE X i ty) (hs:apP i):PE X (.Subscript o i pos) (arb td ty):=by
 intro pins s σ H Q I h
 refine anp PySem.F.slot_dict_getitem.lookup hs (thn (ho pins s σ H _ I h) fun u s1 ⟨x,H1,I1,rx,q1⟩=>thn (hi pins s1 σ H1 _ I1 q1) fun iv s2 ⟨y,H2,I2,ry,a,v,ex,g,q2⟩=>?_)
 subst ex
 obtain rfl:u=Value.ref a:=rx
 exact ⟨afZ I2 g,ajB hu I2 g ry fun w' s3 I3 rw'=>⟨v,H2,I3,rw',q2⟩⟩
end
theorem af0 {P:Program}{w:World}{H:Hp} (h:Heap) (hb:sysModules < h.objs.size):qt P w H (h.push { cls:= .type "dict",data:= .dict #[] }) h.objs.size (.dK []):=
 ⟨Nat.zero_le _,beq_eq_false_iff_ne.mpr (Ne.symm (Nat.ne_of_lt hb)),[],.nil,Heap.DictOf.new h⟩
noncomputable def apQ:TE:=fun _ H Q=>∀ p,H p=none->Q (.ref p) (upd H p (.dK []))
section
variable {X:Cx}{pos:Pos}
theorem ak5:PE X (.Dict [] [] pos) apQ:=fun pins s σ H Q I h=>
 wpAny_Dict_empty ⟨.ref s.heap.objs.size,_,I.laid (a:=s.heap.objs.size) (o:= .dK []) (t':=s.toks) (fun _ _ q=>Heap.get?_push_of_some _ q) (Nat.le_refl _) (af0 s.heap I.big),rfl,h _ (I.hok.fresh (Nat.le_refl _))⟩
end
noncomputable def ahv:List (TE × TE)->St->Hp->(List (V × V)->Hp->Prop)->Prop
 | [],_,H,Q=>Q [] H
 | (tk,tv)::r,σ,H,Q=>tk σ H fun x H1=>tv σ H1 fun y H2=>ahv r σ H2 fun ps H3=>Q ((x,y)::ps) H3
noncomputable abbrev VV:List (V × V)->List (Value × Value)->Prop:=Paired fun p q=>jP p.1 q.1/\jP p.2 q.2
noncomputable def PPs (X:Cx) (pos:Pos) (keys:List (Option Expr)) (values:List Expr) (trs:List (TE × TE)):Prop:=
 ∀ (pins:List (Addr × Obj)) (s:Shared) (σ:St) (H:Hp) (Q:List (V × V)->Hp->Prop),Inv X pins σ H s->ahv trs σ H Q->
  wpAny (model X.prog X.w) X.A (evalPairs (pairTrees keys values X.env pos)) (fun vs s'=>∃ ps H',Inv X pins σ H' s'/\VV ps vs/\Q ps H') X.xe s
theorem anr {X:Cx}{pos:Pos}:PPs X pos [] [] []:=fun pins s σ H Q I h=>pairTrees_nil_walk ⟨[],H,I,.nil,h⟩
theorem ak6 {X:Cx}{pos:Pos}{k v:Expr}{ks:List (Option Expr)}{vs:List Expr}{tk tv:TE}{trs:List (TE × TE)} (hk:PE X k tk) (hv:PE X v tv) (hr:PPs X pos ks vs trs):
  PPs X pos (some k::ks) (v::vs) ((tk,tv)::trs):=fun pins s σ H Q I h=>
 pairTrees_cons_walk (thn (hk pins s σ H _ I h) fun u s1 ⟨x,H1,I1,rx,q1⟩=>thn (hv pins s1 σ H1 _ I1 q1) fun w2 s2 ⟨y,H2,I2,ry,q2⟩=>
  thn (hr pins s2 σ H2 _ I2 q2) fun ws s3 ⟨ps,H3,I3,rel,q3⟩=>⟨(x,y)::ps,H3,I3,.cons ⟨rx,ry⟩ rel,q3⟩)
noncomputable def acA (kvs more:List (Key × V)):List (Key × V):=more.foldl (fun acc kv=>Qc acc kv.1 kv.2) kvs
theorem KV.merge:∀ {more:List (Key × V)}{rs:List (Key × Value)}{kvs:List (Key × V)}{vs:List (Key × Value)},KV more rs->KV kvs vs->KV (acA kvs more) (merged vs rs):=by
 intro more rs kvs vs r
 unfold KV at r
 induction r generalizing kvs vs with
 | nil=>intro q; exact q
 | @cons p q ps qs h t ih=>
  intro r0
  have e:KV (Qc kvs p.1 p.2) (stored vs q.1 q.2):=by
   have:=r0.put p.1 h.2
   rw [←h.1]; exact this
  exact ih e
theorem Z4:∀ (more kvs:List (Key × V)),(acA kvs more).length<=kvs.length+more.length
 | [],kvs=>by show kvs.length<=kvs.length+0; omega
 | p::r,kvs=>by
  have h1:=Z4 r (Qc kvs p.1 p.2)
  have h2:=Q0 kvs p.1 p.2
  show (acA (Qc kvs p.1 p.2) r).length<=_
  rw [List.length_cons]; omega
theorem acB {P:Program}{w:World}:∀ {kvs:List (Key × V)}{ws:List (Value × Value)},VV (kvs.map fun kv=>(kV kv.1,kv.2)) ws->∃ rs,Carries (j1 P w) ws rs/\KV kvs rs
 | [],_,r=>by rw [List.map_nil] at r; cases r; exact ⟨[],True.intro,.nil⟩
 | p::kvs,_,r=>by
  rw [List.map_cons] at r
  cases r with
  | @cons a b as bs h t=>
   obtain ⟨rs,c,q⟩:=acB (P:=P) (w:=w) t
   obtain ⟨b1,b2⟩:=b
   exact ⟨(p.1,b2)::rs,⟨adU h.1,rfl,c⟩,.cons ⟨rfl,h.2⟩ q⟩
noncomputable def arc (trs:List (TE × TE)):TE:=fun σ H Q=>∀ p,H p=none->ahv trs σ (upd H p (.dK [])) fun ps H2=>H2 p=some (.dK [])/\∃ kvs:List (Key × V),ps=kvs.map (fun kv=>(kV kv.1,kv.2))/\kvs.length<=15/\Q (.ref p) (upd H2 p (.dK (acA [] kvs)))
theorem ans {X:Cx}{pos:Pos}{keys:List (Option Expr)}{values:List Expr}{trs:List (TE × TE)} (h:PPs X pos keys values trs) (hall:keys.all (·.isSome)=true) (hl:keys.length=values.length) (h0:keys ≠ [])
  (h15:keys.length<=15):PE X (.Dict keys values pos) (arc trs):=by
 intro pins s σ H Q I q
 have hn:=I.hok.fresh (Nat.le_refl s.heap.objs.size)
 have I1:=I.laid (a:=s.heap.objs.size) (o:= .dK []) (h':=s.heap.push { cls:= .type "dict",data:= .dict #[] }) (t':=s.toks) (fun _ _ q=>Heap.get?_push_of_some _ q) (Nat.le_refl _) (af0 s.heap I.big)
 refine wpAny_Dict_walk (knd:=j1 X.prog X.w) hall hl h0 h15 (thn (h pins _ σ _ _ I1 (q _ hn)) fun ws s2 ⟨ps,H2,I2,rel,e,kvs,ep,lk,q2⟩=>?_)
 subst ep
 obtain ⟨rs,c,rk⟩:=acB (P:=X.prog) (w:=X.w) rel
 obtain ⟨z,hd,vs0,r0,dd⟩:=apb I2.hok e
 cases r0
 refine ⟨rs,c,dd,fun h' dd' hs=>⟨.ref s.heap.objs.size,_,?_,rfl,q2⟩⟩
 have hz:(acA [] kvs).length<=sizeLine:=by
  have h1:=Z4 kvs []
  rw [List.length_nil] at h1
  rw [sizeLine_eq]; omega
 have he:∃ q,h'.get? s.heap.objs.size=some q:=let ⟨q,_,_,hq,_⟩:=dd'; ⟨q,hq⟩
 exact aeL I2 (by rw [e]; exact True.intro) hs he (ak4 hz hd (rk.merge .nil) dd')
structure M1 (X:Cx) (o:Expr) (m:Str) (apos:Pos) (e:Expr) (cpos:Pos):Prop where
 base:attributeBase o m X.env (eval o X.env)=eval o X.env
 few:((backTo cpos (starEach [e] X.env)).all (fun x=>!x.1) && (backToKw cpos (keywordEach [] X.env)).all (fun x=>x.1.isSome)
  && decide (([e]:List Expr).length+([]:List Keyword).length+(if ([]:List Keyword).isEmpty then 0 else 1) < 30))=true
 line:(apos.endLine == cpos.line)=true
 trees:backTo cpos (starEach [e] X.env)=[(false,eval e X.env)]
structure M2 (X:Cx) (o:Expr) (m:Str) (apos:Pos) (e f:Expr) (cpos:Pos):Prop where
 base:attributeBase o m X.env (eval o X.env)=eval o X.env
 few:((backTo cpos (starEach [e,f] X.env)).all (fun x=>!x.1) && (backToKw cpos (keywordEach [] X.env)).all (fun x=>x.1.isSome)
  && decide (([e,f]:List Expr).length+([]:List Keyword).length+(if ([]:List Keyword).isEmpty then 0 else 1) < 30))=true
 line:(apos.endLine == cpos.line)=true
 trees:backTo cpos (starEach [e,f] X.env)=[(false,eval e X.env),(false,eval f X.env)]
noncomputable def IsD (H:Hp) (a:Addr):Prop:=(∃ kvs,Rd H a (.dK kvs)) ∨ ∃ kvs,Rd H a (.dT kvs)
theorem ak7 {X:Cx}{pins:List (Addr × Obj)}{σ:St}{H:Hp}{s:Shared}{a:Addr} (I:Inv X pins σ H s) (d:IsD H a):
  s.TypeIs (.ref a) "dict"/\(∀ b,Value.ref a= .ref b->∃ ob,s.heap.get? b=some ob/\ob.dict=none)/\(a == sysModules)=false:=by
 rcases d with ⟨kvs,e⟩ | ⟨kvs,e⟩
 ·obtain ⟨_,hd,vs,_,dd⟩:=acy I.hok e
  refine ⟨dd.typeIs,fun b q=>?_,hd⟩
  cases q
  obtain ⟨ob,_,_,h1,h2,_⟩:=dd
  exact ⟨ob,h1,h2.2.1⟩
 ·obtain ⟨_,hd,xs,_,dd⟩:=adW I.hok e
  refine ⟨dd.typeIs,fun b q=>?_,hd⟩
  cases q
  obtain ⟨ob,_,_,h1,h2,_⟩:=dd
  exact ⟨ob,h1,h2.2.1⟩
section
variable {X:Cx}{pins:List (Addr × Obj)}{σ:St}{H:Hp}{s:Shared}{a:Addr}{y d:V}{u r:Value}{o:Option V}{A:Around}{E:Value->Shared->Prop}
theorem apR {Q:Value->Shared->Prop} (hu:A.units+1 < cLine) (I:Inv X pins σ H s) (g:abW H a y o) (ry:jP y u) (h:∀ w' s',Inv X pins σ H s'->jP (o.getD .non) w'->Q w' s'):
  wpAny (model X.prog X.w) A (call (.builtin "dict.get") [.ref a,u]) Q E s:=by
 rcases g with ⟨kvs,k,e,ey,l⟩ | ⟨kvs,k,b,e,ey,eb,l⟩
 ·subst ey
  obtain ⟨z,hd,vs,rel,dd⟩:=acy I.hok e
  refine call_meetsIn PySem.F.slot_dict_get dd.typeIs PySem.F.entry_dict_get (PySem.F.args_dict_get_2 _ _) (meets_dict_get (j1 X.prog X.w) a (adU ry) hd) ⟨_,dd.mapOf,h _ _ (I.tok _) ?_⟩
  rw [l]
  exact (rel.val k).getD rfl
 ·subst ey
  cases (show u=Value.ref b from ry)
  obtain ⟨z,hd,xs,rel,dd⟩:=adW I.hok e
  refine call_meetsIn PySem.F.slot_dict_get dd.typeIs PySem.F.entry_dict_get (PySem.F.args_dict_get_2 _ _) (meetsH_dict_get (tupleKind (j1 X.prog X.w)) a b hd) ⟨tupleKind_room_in1 hu,k,xs,acz I.hok eb,dd,h _ _ (I.tok _) ?_⟩
  rw [l]
  exact (rel.val k).getD rfl
theorem apS {Q:Value->Shared->Prop} (hu:A.units+1 < cLine) (I:Inv X pins σ H s) (g:abW H a y o) (ry:jP y u) (rd:jP d r) (h:∀ w' s',Inv X pins σ H s'->jP (o.getD d) w'->Q w' s'):
  wpAny (model X.prog X.w) A (call (.builtin "dict.get") [.ref a,u,r]) Q E s:=by
 rcases g with ⟨kvs,k,e,ey,l⟩ | ⟨kvs,k,b,e,ey,eb,l⟩
 ·subst ey
  obtain ⟨z,hd,vs,rel,dd⟩:=acy I.hok e
  refine call_meetsIn PySem.F.slot_dict_get dd.typeIs PySem.F.entry_dict_get (PySem.F.args_dict_get_3 _ _ _) (meets_dict_get_default (j1 X.prog X.w) a (adU ry) hd r) ⟨_,dd.mapOf,h _ _ (I.tok _) ?_⟩
  rw [l]
  exact (rel.val k).getD rd
 ·subst ey
  cases (show u=Value.ref b from ry)
  obtain ⟨z,hd,xs,rel,dd⟩:=adW I.hok e
  refine call_meetsIn PySem.F.slot_dict_get dd.typeIs PySem.F.entry_dict_get (PySem.F.args_dict_get_3 _ _ _) (meetsH_dict_get_default (tupleKind (j1 X.prog X.w)) a b hd r) ⟨tupleKind_room_in1 hu,k,xs,acz I.hok eb,dd,h _ _ (I.tok _) ?_⟩
  rw [l]
  exact (rel.val k).getD rd
end
noncomputable def apT (td ty:TE):TE:=fun σ H Q=>td σ H fun x H1=>∃ a,x= .ref a/\IsD H1 a/\ty σ H1 fun y H2=>∃ o,abW H2 a y o/\Q (o.getD .non) H2
noncomputable def apU (td ty tx:TE):TE:=fun σ H Q=>td σ H fun x H1=>∃ a,x= .ref a/\IsD H1 a/\ty σ H1 fun y H2=>tx σ H2 fun z H3=>∃ o,abW H3 a y o/\Q (o.getD z) H3
section
variable {X:Cx}{o e f:Expr}{apos cpos:Pos}{td ty tx:TE}
theorem ak8 (hu:X.A.units+1 < cLine) (ho:PE X o td) (he:PE X e ty) (m:M1 X o "get" apos e cpos):PE X (.Call (.Attribute o "get" apos) [e] [] cpos) (apT td ty):=by
 intro pins s σ H Q I h
 refine wpAny_Call_method m.base m.few m.line PySem.F.plainAttrs_dict PySem.F.slot_dict_get PySem.F.type_dict_get (thn (ho pins s σ H _ I h) fun u s1 ⟨x,H1,I1,rx,a,ex,d,q1⟩=>?_)
 subst ex
 obtain rfl:u=Value.ref a:=rx
 obtain ⟨t1,t2,_⟩:=ak7 I1 d
 refine ⟨t1,t2,?_⟩
 rw [m.trees]
 refine Calls.callWith_builtin rfl (Calls.evalArgs_plain (Calls.spliced_cons (thn (he pins s1 σ H1 _ I1 q1) fun iv s2 ⟨y,H2,I2,ry,ov,g,q2⟩=>Calls.spliced_nil ?_)))
 exact apR hu I2 g ry fun w' s3 I3 rw'=>⟨_,H2,I3,rw',q2⟩
theorem ak9 (hu:X.A.units+1 < cLine) (ho:PE X o td) (he:PE X e ty) (hf:PE X f tx) (m:M2 X o "get" apos e f cpos):PE X (.Call (.Attribute o "get" apos) [e,f] [] cpos) (apU td ty tx):=by
 intro pins s σ H Q I h
 refine wpAny_Call_method m.base m.few m.line PySem.F.plainAttrs_dict PySem.F.slot_dict_get PySem.F.type_dict_get (thn (ho pins s σ H _ I h) fun u s1 ⟨x,H1,I1,rx,a,ex,d,q1⟩=>?_)
 subst ex
 obtain rfl:u=Value.ref a:=rx
 obtain ⟨t1,t2,_⟩:=ak7 I1 d
 refine ⟨t1,t2,?_⟩
 rw [m.trees]
 refine Calls.callWith_builtin rfl (Calls.evalArgs_plain (Calls.spliced_cons (thn (he pins s1 σ H1 _ I1 q1) fun iv s2 ⟨y,H2,I2,ry,q2⟩=>
  Calls.spliced_cons (thn (hf pins s2 σ H2 _ I2 q2) fun fv s3 ⟨z,H3,I3,rz,ov,g,q3⟩=>Calls.spliced_nil ?_))))
 exact apS hu I3 g ry rz fun w' s4 I4 rw'=>⟨_,H3,I4,rw',q3⟩
end
section
variable {X:Cx}{pins:List (Addr × Obj)}{σ:St}{H:Hp}{s:Shared}{a:Addr}{kvs:List (Key × V)}{A:Around}{E:Value->Shared->Prop}
end
section
variable {X:Cx}{pins:List (Addr × Obj)}{σ:St}{H:Hp}{s:Shared}{a:Addr}{y:V}{u:Value}{A:Around}{E:Value->Shared->Prop}
end
end L2
namespace L2
open PySem PySem.Spec PyProof.Rows
section
variable {X:Cx}
end
section
variable {κ:Type} [DecidableEq κ]
end
end L2
end
section
namespace BX
open PySem PySem.Spec L2
open PyProof.Rows hiding St
noncomputable abbrev NoX:Value->Shared->Prop:=fun _ _=>False
noncomputable def aiB (ts:List Expr) (en:Env):Sem Bool:=
 forIn ts true fun c r=>if r=true then do let ok ←isTrue c en (eval c en); pure (ForInStep.yield ok) else pure (ForInStep.yield r)
section
variable {prog:Program}{w:World}{A:Around}{s:Shared}{R:Result->Shared->Prop}
theorem adX {el tg src:Expr}{ts:List Expr}{sc:Scope}{ps:Pos}{it acc:Value}{en:Env} (J:Nat->Shared->Prop)
  (turn:∀ n s,J n s->wpAny (model prog w) A (pyNext it) (fun r s1=>match r with
   | none=>R (.ok .next) s1
   | some v=>wpAny (model prog w) A (letOwnedTupleGo tg it v) (fun _ sg=>wpAny (model prog w) A (assign tg en v) (fun _ s2=>
     wpAny (model prog w) A (aiB ts en) (fun ok s3=>
      if ok=true then wpAny (model prog w) A (eval el en) (fun y s4=>
       wpAny (model prog w) A (call (.builtin "list.append") [acc,y]) (fun _ s5=>∃ m,m < n/\J m s5) NoX s4) NoX s3
      else ∃ m,m < n/\J m s3) NoX s2) NoX sg) NoX s1) NoX s)
  (n:Nat) (h:J n s):
  codeAny (model prog w) A (.compLoop (.ListComp el [⟨tg,src,ts,0⟩] sc ps) 0 it acc en) R s:=by
 refine codeAny_loop rfl J (fun n s hJ=>?_) n h
 show wpAny _ A
  ((compTurn (.ListComp el [⟨tg,src,ts,0⟩] sc ps) 0 it acc en).onRaise
   (fun x=>do noteFrame x en; theTreesLotGoes x)) _ _ s
 refine wpAny_noted ?_
 rw [compTurn_list]
 have no:∀ {E:Value->Shared->Prop} (e:Value) (s':Shared),NoX e s'->E e s':=fun _ _ z=>z.elim
 refine wpAny_bind (wpAny_standAt (wpAny_bind (wpAny_mono (turn n s hJ) (fun r s1 h1=>?_) no)))
 cases r with
 | none=>exact wpAny_pure h1
 | some v=>
  refine wpAny_bind (wpAny_mono h1 (fun _ sg hg=>?_) no)
  refine wpAny_bind (wpAny_mono hg (fun _ s2 h2=>?_) no)
  refine wpAny_bind (wpAny_mono h2 (fun ok s3 h3=>?_) no)
  cases ok with
  | false=>exact wpAny_pure ⟨rfl,h3⟩
  | true=>
   refine wpAny_bind (wpAny_bind (wpAny_mono h3 (fun y s4 h4=>?_) no))
   exact wpAny_bind (wpAny_mono h4 (fun _ s5 h5=>wpAny_pure (wpAny_pure ⟨rfl,h5⟩)) no)
end
noncomputable def QU (en:Env):List (Str × NameKind)->List (Str × Addr)->List (Str × Addr)
 | [],cs=>cs
 | (n,k)::r,cs=>QU en r (if k == .free then (n,(en.cells.lookup n).getD 0)::cs else cs)
theorem aiC (sc:Scope) (en:Env) (h:∀ x ∈ sc.names,x.2= .free->∃ c,en.cells.lookup x.1=some c):closureFor sc en=pure (QU en sc.names []):=by
 have go:∀ (l:List (Str × NameKind)) (cs:List (Str × Addr)),(∀ x ∈ l,x.2= .free->∃ c,en.cells.lookup x.1=some c)->
   (forIn l cs (fun (x:Str × NameKind) (r:List (Str × Addr))=>(do
    if x.2 == .free then do
     let c ←cellOf en x.1
     pure (ForInStep.yield ((x.1,c)::r))
    else pure (ForInStep.yield r):Sem (ForInStep (List (Str × Addr))))):Sem _)=pure (QU en l cs):=by
  intro l
  induction l with
  | nil=>intro cs _; rfl
  | cons x l ih=>
   intro cs hl
   obtain ⟨n,k⟩:=x
   rw [List.forIn_cons]
   by_cases hk:(k == NameKind.free)=true
   ·obtain ⟨c,e⟩:=hl (n,k) List.mem_cons_self (by simpa using hk)
    have e':en.cells.lookup n=some c:=e
    simp only [hk,zzM,cellOf,e',pure_bind,QU,Option.getD_some]
    exact ih _ fun y hy=>hl y (List.mem_cons_of_mem _ hy)
   ·simp only [hk,pure_bind,QU,zzL,zzN]
    exact ih _ fun y hy=>hl y (List.mem_cons_of_mem _ hy)
 have:=go sc.names [] h
 unfold closureFor
 rw [←this]
 first
  | (simp only [bind_pure_comp,id_map',map_pure]; done)
  | (simp only [bind_pure_comp,id_map',map_pure]; exact bind_pure _)
theorem abc (en:Env):∀ (l:List (Str × NameKind)) (cs:List (Str × Addr)),(∀ x ∈ l,x.2= .free->∃ c,en.cells.lookup x.1=some c)->(∀ p ∈ cs,en.cells.lookup p.1=some p.2)->
  ∀ p ∈ QU en l cs,en.cells.lookup p.1=some p.2
 | [],_,_,h,p,hp=>h p hp
 | (n,k)::r,cs,hl,h,p,hp=>by
  refine abc en r _ (fun y hy=>hl y (List.mem_cons_of_mem _ hy)) (fun q hq=>?_) p hp
  by_cases hk:(k == NameKind.free)=true
  ·rw [if_pos hk] at hq
   rcases List.mem_cons.mp hq with rfl | hq
   ·obtain ⟨c,e⟩:=hl (n,k) List.mem_cons_self (by simpa using hk)
    have e':en.cells.lookup n=some c:=e
    show en.cells.lookup n=some ((en.cells.lookup n).getD 0)
    rw [e']; rfl
   ·exact h q hq
  ·rw [if_neg hk] at hq
   exact h q hq
theorem abH (en:Env):∀ (l:List (Str × NameKind)) (cs:List (Str × Addr)) (x:Str),(∃ c,(x,c) ∈ cs)->∃ c,(x,c) ∈ QU en l cs
 | [],_,_,h=>h
 | (n,k)::r,cs,x,⟨c,h⟩=>by
  refine abH en r _ x ?_
  by_cases hk:(k == NameKind.free)=true
  ·rw [if_pos hk]; exact ⟨c,List.mem_cons_of_mem _ h⟩
  ·rw [if_neg hk]; exact ⟨c,h⟩
theorem Qd (en:Env):∀ (l:List (Str × NameKind)) (cs:List (Str × Addr)) (x:Str),(x,NameKind.free) ∈ l->∃ c,(x,c) ∈ QU en l cs
 | (n,k)::r,cs,x,h=>by
  rcases List.mem_cons.mp h with e | h
  ·obtain ⟨e1,e2⟩:=Prod.mk.inj e
   subst e1; subst e2
   exact abH en r _ _ ⟨_,by rw [if_pos (by rfl)]; exact List.mem_cons_self⟩
  ·exact Qd en r _ x h
theorem zf {β:Type}:∀ {l:List (Str × β)}{x:Str}{c:β},(x,c) ∈ l->∃ d,l.lookup x=some d
 | (n,k)::r,x,c,h=>by
  by_cases e:x=n
  ·subst e; exact ⟨k,by simp [List.lookup_cons]⟩
  ·have eb:(x == n)=false:=by simpa using e
   rcases List.mem_cons.mp h with z | h
   ·cases z; exact absurd rfl e
   ·obtain ⟨d,hd⟩:=zf h
    exact ⟨d,by simp only [List.lookup_cons,eb]; exact hd⟩
theorem JJ {sc:Scope}{en:Env}{x:Str}{k:NameKind} (h:(x,k) ∈ (relabel sc en).names) (hc:∀ y ∈ sc.names,y.2 ≠ .cell) (hk:k= .cell ∨ k= .free):(x,NameKind.free) ∈ sc.names:=by
 obtain ⟨⟨n,j⟩,hm,e⟩:=List.mem_map.mp h
 by_cases q:(j == NameKind.free && en.scope.kind == .function && en.kindOf n == some .cell)=true
 ·have e1:(n,NameKind.cell)=(x,k):=by simpa only [q,zzM] using e
  cases e1
  have hj:j= .free:=by
   simp only [Bool.and_eq_true] at q
   simpa using q.1.1
  rw [←hj]; exact hm
 ·have e1:(n,j)=(x,k):=by simpa only [q,zzL,zzN] using e
  cases e1
  rcases hk with rfl | rfl
  ·exact absurd rfl (hc _ hm)
  ·exact hm
theorem QB {en:Env}:∀ {l:List (Str × NameKind)}{x:Str},l.lookup x=some .free->
  (l.map fun (n,k)=>if (k == NameKind.free && en.scope.kind == .function && en.kindOf n == some .cell) then (n,NameKind.cell) else (n,k)).lookup x=some .cell ∨
  (l.map fun (n,k)=>if (k == NameKind.free && en.scope.kind == .function && en.kindOf n == some .cell) then (n,NameKind.cell) else (n,k)).lookup x=some .free
 | (n,k)::r,x,h=>by
  rw [List.map_cons]
  cases hx:x == n with
  | true=>
   simp only [List.lookup_cons,hx] at h
   cases h
   by_cases q:(NameKind.free == NameKind.free && en.scope.kind == .function && en.kindOf n == some .cell)=true
   ·left; simp only [q,zzM,List.lookup_cons,hx]
   ·right; simp only [q,zzL,zzN,List.lookup_cons,hx]
  | false=>
   simp only [List.lookup_cons,hx] at h
   rcases QB (en:=en) h with g | g
   ·left
    by_cases q:(k == NameKind.free && en.scope.kind == .function && en.kindOf n == some .cell)=true
    ·simp only [q,zzM,List.lookup_cons,hx]; exact g
    ·simp only [q,zzL,zzN,List.lookup_cons,hx]; exact g
   ·right
    by_cases q:(k == NameKind.free && en.scope.kind == .function && en.kindOf n == some .cell)=true
    ·simp only [q,zzM,List.lookup_cons,hx]; exact g
    ·simp only [q,zzL,zzN,List.lookup_cons,hx]; exact g
noncomputable def blk (X:Cx) (N':List Str) (sc:Scope) (cl:List (Str × Addr)) (C:Addr) (s0:Shared) (H0:Hp) (fp:List Addr) (pn:List (Addr × Obj)):Cx:=
 { X with N:=N',s₀:=s0,H₀:=H0,env:=compEnvC sc cl C X.env,outer:=X.stack,ex:=fp,fn:=fun _=>false,pn:=pn,xe:=NoX }
noncomputable def abX (cap:List (Option Nat)) (σ:St):St:=cap.map fun o=>o.bind fun i=>(σ[i]?).join
noncomputable def PTs (X:Cx) (ts:List Expr) (t:TT):Prop:=
 ∀ (pins:List (Addr × Obj)) (s:Shared) (σ:St) (H:Hp) (Q:Bool->Hp->Prop),Inv X pins σ H s->t σ H Q->wpAny (model X.prog X.w) X.A (aiB ts X.env) (TP X pins σ Q) X.xe s
noncomputable def ard:TT:=fun _ H Q=>Q true H
theorem ant {X:Cx}:PTs X [] ard:=fun _ _ _ H _ I h=>wpAny_pure ⟨H,I,h⟩
theorem anu {X:Cx}{c:Expr}{t:TT} (h:PT X c t):PTs X [c] t:=fun pins s σ H Q I hq=>wpAny_tests_one (h pins s σ H Q I hq)
structure CompOk (X:Cx) (sc:Scope) (N':List Str) (cap:List (Option Nat)):Prop where
 fr:∀ x ∈ sc.names,x.2= .free->X.env.kindOf x.1=some .cell ∨ X.env.kindOf x.1=some .free
 nc:∀ x ∈ sc.names,x.2 ≠ .cell
 kind:sc.kind= .function
 nm:∀ x ∈ sc.names,x.2= .local->sc.names.lookup x.1=some .local
 len:cap.length=N'.length
 cp:∀ (j i:Nat) (x:Str),N'[j]?=some x->cap[j]?=some (some i)->X.N[i]?=some x/\sc.names.lookup x=some .free
noncomputable def ala (wi:TI) (cap:List (Option Nat)) (g:TG) (tt:TT) (te:TE):TE:=fun σ H Q=>wi σ H fun J H1=>
 ∃ W:Nat->Nat->St->List V->Hp->Prop,(∃ m,W 0 m (abX cap σ) [] H1)/\∀ i m τ ys H,W i m τ ys H->ys.length < sizeLine/\
  ((J.stop i H/\∀ l,H l=none->Q (.ref l) (upd H l (.lst ys))) ∨
   (J.go i H/\∀ x H',J.yld i H x H'->g x τ H' fun τ2 H2=>tt τ2 H2 fun b H3=>if b=true then te τ2 H3 fun y H4=>∃ m',m' < m/\W (i+1) m' τ2 (ys++[y]) H4 else ∃ m',m' < m/\W (i+1) m' τ2 ys H3))
theorem Inv.track {X:Cx}{pins:List (Addr × Obj)}{σ:St}{H:Hp}{s:Shared}{D:Addr}{o:HO} (I:Inv X pins σ H s) (hn:H D=none) (h1:X.s₀.heap.objs.size<=D) (h2:D ≠ X.env.locals) (h3:∀ x c,X.env.cells.lookup x=some c->c ≠ D)
  (h4:∀ p ∈ X.pn++pins,p.1 ≠ D) (new:qt X.prog X.w (upd H D o) s.heap D o):Inv X pins σ (upd H D o) s:=by
 have nd:∀ b u,H b=some u->b ≠ D:=fun b u e z=>by rw [z,hn] at e; cases e
 have hok:HOk X.prog X.w (upd H D o) s.heap:=fun b u e=>by
  by_cases hb:b=D
  ·subst hb; rw [jr] at e; cases e; exact new
  ·rw [jn hb] at e
   exact (I.hok b u e).stay (fun _ _ _ q=>q) (fun c q=>by rw [jn (nd c _ q)]; exact q) fun c xs q=>by rw [jn (nd c _ q)]; exact q
 refine I.step (h':=s.heap) (g':=s.gens) (d':=s.drawn) (t':=s.toks) (ch:=[D]) (fun b hb=>?_) (fun b o _ _ _ e _=>e) (fun b o _ _ _ e _=>⟨o.slots,e⟩) (fun b o hc _ n=>?_) (fun b o _ e=>⟨o,e⟩) (fun b xs e=>by rw [jn (nd b _ e)]; exact e)
  (fun b ob u e=>by rw [jn (nd b _ e)]; exact e) (fun b ps e=>⟨#[],by rw [jn (nd b _ e),e]; simp⟩) (fun m hm=>hm) hok I.bare
 ·have e:b=D:=by simpa using hb
  subst e
  exact ⟨.inr h1,h2,h3,h4⟩
 ·have e:b ≠ D:=by simpa using hc
  rw [jn e]; exact n
theorem anv {X : Cx} {el tg src : Expr} {ts : List Expr} {sc : Scope} {ps : Pos} {wi : TI} {g : TG} {tt : TT} {te : TE} {N' : List Str} {cap : List (Option Nat)} (hc : X.calm = true) (hi : PI X tg src wi) (ok : CompOk X sc N' cap)
    (body : ∀ cl C s0 H0 fp pn, PG (blk X N' sc cl C s0 H0 fp pn) tg g /\ PTs (blk X N' sc cl C s0 H0 fp pn) ts tt /\ PE (blk X N' sc cl C s0 H0 fp pn) el te)
    (hs : ∀ x, foldedSetIterable src X.env x = pure x := by intro _; rfl) : PE X (.ListComp el [⟨tg, src, ts, 0⟩] sc ps) (ala wi cap g tt te) := by
  intro pins s σ H Q I h
  have hfr : ∀ x ∈ sc.names, x.2 = .free -> ∃ c, X.env.cells.lookup x.1 = some c := fun x hx e => I.ok.has x.1 (ok.fr x hx e)
  have hcl := aiC sc X.env hfr
  have clm : ∀ x c, (QU X.env sc.names []).lookup x = some c -> X.env.cells.lookup x = some c := fun x c e =>
    abc X.env sc.names [] hfr (fun _ z => nomatch z) (x, c) (PySem.mem_of_lookup e)
  generalize hgl : QU X.env sc.names [] = cl at hcl clm
  rw [eval_ListComp]
  refine wpAny_comprehension_free (use := none) rfl hs hcl ok.kind ok.nm ?_
  refine thn (hi pins s σ H _ I h) fun v s1 h1 => thn h1 fun itv s2 h2 => ?_
  obtain ⟨it, fp, tn, J, H2, e, I2, T, st2, f2, W, ⟨m0, w0⟩, turn⟩ := h2
  subst e
  refine wpAny_newObj_type (wpAny_newFunctionEnv ok.nc (by intro y hy; simp at hy) (fun h4 hns hsb => ?_) ok.kind)
  dsimp only at hns hsb ⊢
  generalize hH3 : s2.heap.push { cls := .type "list", dict := none, data := .seq ([] : List Value).toArray } = h3 at hns hsb ⊢
  have hC : h3.objs.size = s2.heap.objs.size + 1 := by rw [← hH3, Heap.size_push]
  generalize hCC : h3.objs.size = C at hns hsb hC ⊢
  generalize hDD : s2.heap.objs.size = D at hC ⊢
  have hDC : D ≠ C := by rw [hC]; exact Nat.ne_of_lt (Nat.lt_succ_self _)
  have old : ∀ b o, s2.heap.get? b = some o -> h4.get? b = some o := fun b o e => hsb.extBut b o (by have := Heap.lt_size e; rw [hDD] at this; rw [hC]; exact Nat.ne_of_lt (Nat.lt_succ_of_lt this)) (Heap.get?_push_of_some _ (hH3 ▸ Heap.get?_push_of_some _ e))
  have accO : h4.get? D = some { cls := .type "list", data := .seq ([] : List Value).toArray 0 } := hsb.extBut _ _ hDC (Heap.get?_push_of_some _ (by rw [← hH3, ← hDD]; exact Heap.get?_push_size _ rfl))
  have H2D : H2 D = none := I2.hok.fresh (by rw [hDD]; exact Nat.le_refl _)
  have H2C : H2 C = none := I2.hok.fresh (by rw [hDD, hC]; exact Nat.le_succ _)
  have cellsLt : ∀ x c, X.env.cells.lookup x = some c -> c < D := fun x c e => by
    obtain ⟨v, q⟩ := I2.cell x c e
    rw [← hDD]; exact q.lt
  have pinLt : ∀ p ∈ X.pn ++ pins, p.1 < D := fun p hp => by rw [← hDD]; exact Heap.lt_size (I2.pin p hp).1
  have stkLt : ∀ b ∈ frs X.stack, b < D := fun b hb => by
    obtain ⟨_, o, ho, _⟩ := I2.stack.mem hb
    rw [← hDD]; exact Heap.lt_size ho
  have fpLt : ∀ b ∈ fp, b < D := fun b hb => by
    obtain ⟨o, ho, _⟩ := T.obj _ _ st2 b hb
    rw [← hDD]; exact Heap.lt_size ho
  have ltC : ∀ {b : Addr}, b < D -> b ≠ C := fun hb => by rw [hC]; exact Nat.ne_of_lt (Nat.lt_succ_of_lt hb)
  have locLt : X.env.locals < D := by rw [← hDD]; exact I2.lt
  have hDge : s2.heap.objs.size <= D := by rw [hDD]; exact Nat.le_refl _
  have hCge : s2.heap.objs.size <= C := by rw [hDD, hC]; exact Nat.le_succ _
  have bok : (blk X N' sc cl C s2 H2 fp (X.pn ++ pins)).Ok := by
    refine ⟨I2.ok.mod, ok.kind, I2.ok.glob, I2.ok.blt, hCge, fun x y c e1 e2 => I2.ok.inj x y c (clm x c e1) (clm y c e2), fun x hx => ?_, fun x c z _ => ?_, I2.ok.hd, I2.ok.frames, .inl rfl, fun b hb => ?_, I2.bs, Nat.le_trans I2.ok.bsz I2.sz, fun b o e hb => ?_, fun b hb z => ?_, I2.stack, I2.stkFree⟩
    · have hx' : (relabel sc X.env).names.lookup x = some .cell ∨ (relabel sc X.env).names.lookup x = some .free := hx
      have hm : (x, NameKind.free) ∈ sc.names := by
        rcases hx' with z | z
        · exact JJ (PySem.mem_of_lookup z) ok.nc (.inl rfl)
        · exact JJ (PySem.mem_of_lookup z) ok.nc (.inr rfl)
      obtain ⟨c, hc⟩ := Qd X.env sc.names [] x hm
      rw [hgl] at hc
      exact zf hc
    · exact absurd (show false = true from z) Bool.false_ne_true
    · exact ⟨ltC (fpLt b hb), fun x c e => (f2 b hb).2.2.2.2.1 x c (clm x c e)⟩
    · rcases (f2 b hb).2.2.2.1 with z | z
      · exact I2.ok.noex b o e z
      · have := Heap.lt_size e
        exact absurd (Nat.lt_of_lt_of_le this (Nat.le_trans I2.ok.bsz z)) (Nat.lt_irrefl _)
    · rcases List.mem_cons.mp (I2.stkSub b z) with q | q
      · exact (f2 b hb).2.1 q
      · exact (f2 b hb).2.2.1 q
  have pinB : ∀ p ∈ X.pn ++ pins, p.1 ≠ C /\ p.1 ∉ frs X.stack := fun p hp => ⟨ltC (pinLt p hp), fun z => by
    rcases List.mem_cons.mp (I2.stkSub p.1 z) with q | q
    · exact (I2.pin p hp).2.2.1 q
    · exact (I2.pin p hp).2.2.2.1 q⟩
  have I4 : Inv (blk X N' sc cl C s2 H2 fp (X.pn ++ pins)) [] (abX cap σ) H2 { s2 with heap := h4, toks := s2.toks + ([] : List (Str × Value)).length } := by
    refine ⟨bok, rfl, I2.bare, Un.kept old, ⟨_, hns, fun j x v e1 e2 e3 => ?_⟩, fun x c e => ?_, H2C, fun x c e => I2.freeC x c (clm x c e), fun p hp => ?_, I2.hok.kept old, ?_⟩
    · unfold abX at e2
      rw [List.getElem?_map] at e2
      cases e4 : cap[j]? with
      | none => rw [e4] at e2; cases e2
      | some o =>
        rw [e4] at e2
        cases o with
        | none => cases e2
        | some i =>
          obtain ⟨hNi, hf⟩ := ok.cp j i x e1 e4
          have e5 : (σ[i]?).join = some v := by
            have := Option.some.inj e2
            simpa using this
          have e6 : σ[i]? = some (some v) := by
            cases e7 : σ[i]? with
            | none => rw [e7] at e5; cases e5
            | some z => rw [e7] at e5; cases z with
              | none => cases e5
              | some z => cases e5; rfl
          have hk := ok.fr (x, .free) (PySem.mem_of_lookup hf) rfl
          obtain ⟨m, hn, hl⟩ := I2.loc
          have hv : Vis X.env.scope x := by
            rcases hk with z | z
            · exact .inr (.inl z)
            · exact .inr (.inr z)
          obtain ⟨u, r, lk⟩ := hl i x v hNi e6 hv
          have cellX : ∃ c, X.env.cells.lookup x = some c /\ s2.heap.IsCell c (some u) := by
            rcases lk with ⟨k1, _⟩ | ⟨_, c, e, z⟩
            · rcases hk with z | z
              · have z' : X.env.kindOf x = some .cell := z
                rw [k1] at z'; cases z'
              · have z' : X.env.kindOf x = some .free := z
                rw [k1] at z'; cases z'
            · exact ⟨c, e, z⟩
          obtain ⟨c, hc1, ob, hc2, hc3⟩ := cellX
          obtain ⟨c', hc'⟩ := Qd X.env sc.names [] x (PySem.mem_of_lookup hf)
          rw [hgl] at hc'
          obtain ⟨d, hd⟩ := zf hc'
          have ed : d = c := by
            have := clm x d hd
            rw [hc1] at this; cases this; rfl
          subst ed
          refine ⟨u, r, .inr ⟨?_, d, hd, ob, old _ _ hc2, hc3⟩⟩
          exact QB hf
    · obtain ⟨v, ob, ho, hd⟩ := I2.cell x c (clm x c e)
      exact ⟨v, ob, old _ _ ho, hd⟩
    · have hp' : p ∈ X.pn ++ pins := by simpa [blk] using hp
      obtain ⟨e1, e2, e3, e4, e5⟩ := I2.pin p hp'
      exact ⟨old _ _ e1, e2, (pinB p hp').1, (pinB p hp').2, e5⟩
    · show (abX cap σ).length = N'.length
      unfold abX
      rw [List.length_map]; exact ok.len
  have fpB : ∀ {H' : Hp} {pl : List (Addr × Obj)}, (∀ b ∈ fp, H' b = none) -> (∀ p ∈ pl, p.1 ∉ fp) -> ∀ b ∈ fp, aeF (blk X N' sc cl C s2 H2 fp (X.pn ++ pins)) pl H' b := fun {H' pl} hn hpl b hb =>
    ⟨hn b hb, ltC (fpLt b hb), bok.exfs b hb, .inl hb, fun x c e => (f2 b hb).2.2.2.2.1 x c (clm x c e), fun p hp z => by
      rcases List.mem_append.mp (show p ∈ (X.pn ++ pins) ++ pl from hp) with q | q
      · exact (f2 b hb).2.2.2.2.2 p q z
      · exact hpl p q (by rw [z]; exact hb)⟩
  have Dfp : ∀ (o : Obj), ∀ p ∈ [(D, o)], p.1 ∉ fp := fun o p hp z => by
    have e : p = (D, o) := by simpa using hp
    subst e
    exact Nat.lt_irrefl _ (fpLt D z)
  have Dfs : D ∉ frs X.stack := fun z => Nat.lt_irrefl _ (stkLt D z)
  obtain ⟨bG, bT, bE⟩ := body cl C s2 H2 fp (X.pn ++ pins)
  have loop : codeAny (model X.prog X.w) X.A (.compLoop (.ListComp el [⟨tg, src, ts, 0⟩] sc ps) 0 (.ref it) (.ref D) (compEnvC sc cl C X.env)) (compPost (model X.prog X.w) X.A X.xe none (EP X pins σ Q) (.ref D) C)
      { s2 with heap := h4, toks := s2.toks + ([] : List (Str × Value)).length } := by
    refine adX (fun n s' => ∃ i τ ys us k H', Inv (blk X N' sc cl C s2 H2 fp (X.pn ++ pins)) [] τ H' s' /\ tn i s'.heap /\ (∀ b ∈ fp, H' b = none) /\ jG ys us /\ s'.heap.get? D = some { cls := .type "list", data := .seq us.toArray k } /\ H' D = none /\ W i n τ ys H') ?_ m0
      ⟨0, _, [], [], 0, H2, I4, T.keep _ _ _ st2 (fun b _ o e => old b o e), fun b hb => (f2 b hb).1, .nil, accO, H2D, w0⟩
    rintro n s5 ⟨i, τ, ys, us, k, H5, I5, st5, fr5, rv5, ho5, hD5, w5⟩
    obtain ⟨hsz, alt⟩ := turn i n τ ys H5 w5
    have I5p : Inv (blk X N' sc cl C s2 H2 fp (X.pn ++ pins)) [(D, { cls := .type "list", data := .seq us.toArray k })] τ H5 s5 := I5.pins_of fun p hp => by
      have e : p = (D, { cls := .type "list", data := .seq us.toArray k }) := by simpa using hp
      subst e
      exact ⟨ho5, hD5, hDC, Dfs, fun v z => by cases z⟩
    rcases alt with ⟨stop, fin⟩ | ⟨go, step⟩
    · refine thn (T.done (blk X N' sc cl C s2 H2 fp (X.pn ++ pins)) rfl rfl rfl hc i _ s5 τ H5 NoX I5p (fpB fr5 (Dfp _)) st5 stop) fun r s6 ⟨hr, I6⟩ => ?_
      subst hr
      have ho6 := (I6.pin (D, _) (List.mem_append_right _ (List.mem_singleton.mpr rfl))).1
      obtain ⟨m6, hn6, _⟩ := I6.loc
      refine ⟨m6, hn6, fun h7 hs7 => ?_⟩
      have J6 : Inv X pins σ H5 s6 := I2.call' (ch := fp) I6.os I6.base I6.hok I6.bare fun b hb => ⟨(f2 b hb).2.2.2.1, (f2 b hb).2.1, (f2 b hb).2.2.2.2.1, (f2 b hb).2.2.2.2.2⟩
      have H5C : H5 C = none := I6.free
      have cne : ∀ {b : Addr}, b < D -> b ≠ C := ltC
      have J7 : Inv X pins σ H5 { s6 with heap := h7, toks := s6.toks } := J6.turned (it := C) (fun b o hb e => hs7.extBut b o hb e) H5C (Ne.symm (ltC locLt)) (.inr (Nat.le_trans I2.sz hCge)) (fun x c e => ltC (cellsLt x c e)) (fun p hp => ltC (pinLt p hp))
      have ho7 : h7.get? D = some { cls := .type "list", data := .seq us.toArray k } := hs7.extBut D _ hDC ho6
      refine ⟨.ref D, upd H5 D (.lst ys), ?_, rfl, fin D hD5⟩
      exact Inv.track J7 hD5 (Nat.le_trans I2.sz hDge) (Ne.symm (Nat.ne_of_lt locLt)) (fun x c e => Nat.ne_of_lt (cellsLt x c e)) (fun p hp => Nat.ne_of_lt (pinLt p hp)) ⟨Nat.le_of_lt hsz, us, k, rv5, ho7⟩
    · refine thn (T.item (blk X N' sc cl C s2 H2 fp (X.pn ++ pins)) rfl rfl rfl hc i _ s5 τ H5 NoX I5p (fpB fr5 (Dfp _)) st5 go) fun r s6 ⟨u, hr, h6⟩ => ?_
      subst hr
      refine thn h6 fun _ s7 ⟨x, H7, I7, r7, y7, st7, fr7⟩ => ?_
      have I7p := I7.pinned (fpB fr7 (Dfp _)) (T.obj _ _ st7)
      refine thn (bG _ s7 τ H7 x u _ I7p r7 (step x H7 y7)) fun _ s8 ⟨τ8, H8, I8, q8⟩ => ?_
      have back : ∀ {τ9 : St} {H9 : Hp} {s9 : Shared}, Inv (blk X N' sc cl C s2 H2 fp (X.pn ++ pins)) ([(D, { cls := .type "list", data := .seq us.toArray k })] ++ aa9 fp s7.heap) τ9 H9 s9 ->
          tn (i + 1) s9.heap /\ (∀ b ∈ fp, H9 b = none) /\ s9.heap.get? D = some { cls := .type "list", data := .seq us.toArray k } /\ H9 D = none := fun {τ9 H9 s9} I9 => by
        have pD := I9.pin (D, { cls := .type "list", data := .seq us.toArray k }) (List.mem_append_right _ (List.mem_append_left _ (List.mem_singleton.mpr rfl)))
        refine ⟨T.keep _ _ _ st7 fun b hb o e => (I9.pin (b, o) (List.mem_append_right _ (List.mem_append_right _ (zK hb e)))).1, fun b hb => ?_, pD.1, pD.2.1⟩
        obtain ⟨o, e, _⟩ := T.obj _ _ st7 b hb
        exact (I9.pin (b, o) (List.mem_append_right _ (List.mem_append_right _ (zK hb e)))).2.1
      have drop : ∀ {τ9 : St} {H9 : Hp} {s9 : Shared} {pl : List (Addr × Obj)}, Inv (blk X N' sc cl C s2 H2 fp (X.pn ++ pins)) pl τ9 H9 s9 -> Inv (blk X N' sc cl C s2 H2 fp (X.pn ++ pins)) [] τ9 H9 s9 := fun I9 => I9.pins_of fun p hp => nomatch hp
      refine thn (bT _ s8 τ8 H8 _ I8 q8) fun b s9 ⟨H9, I9, q9⟩ => ?_
      cases b with
      | false =>
        rw [if_neg Bool.false_ne_true] at q9 ⊢
        obtain ⟨m', hm, w9⟩ := q9
        obtain ⟨t9, f9, o9, d9⟩ := back I9
        exact ⟨m', hm, i + 1, τ8, ys, us, k, H9, drop I9, t9, f9, rv5, o9, d9, w9⟩
      | true =>
        rw [if_pos rfl] at q9 ⊢
        refine thn (bE _ s9 τ8 H9 _ I9 q9) fun y s10 ⟨z, H10, I10, r10, q10⟩ => ?_
        obtain ⟨m', hm, w10⟩ := q10
        obtain ⟨t10, f10, o10, d10⟩ := back I10
        have hl := rv5.length
        refine append_at (hsz := by show us.toArray.size <= sizeLine; rw [List.size_toArray, ← hl]; exact Nat.le_of_lt hsz) o10 fun h11 hs11 hD11 => ?_
        have I11 : Inv (blk X N' sc cl C s2 H2 fp (X.pn ++ pins)) [] τ8 H10 { s10 with heap := h11, toks := s10.toks } := (drop I10).turned (it := D) (fun b o hb e => hs11.extBut b o hb e) d10 hDC (.inr hDge) (fun x c e => Nat.ne_of_lt (cellsLt x c (clm x c e)))
          (fun p hp => by have hp' : p ∈ X.pn ++ pins := by simpa [blk] using hp
                          exact Nat.ne_of_lt (pinLt p hp'))
        refine ⟨m', hm, i + 1, τ8, ys ++ [z], us ++ [y], k + 1, H10, I11, T.keep _ _ _ t10 (fun b hb o e => hs11.extBut b o (Nat.ne_of_lt (fpLt b hb)) e), f10, rv5.append (.cons r10 .nil), ?_, d10, w10⟩
        rw [hD11]
        simp
  refine codeAny_compStart_list loop ?_
  exact T.self _ 0 _ _ _ (T.keep _ _ _ st2 (fun b _ o e => old b o e)) loop
theorem jq.tup {K:PySem.W.Frag}{H H':Hp}{a:Addr}{xs:List V} (e:jq H H') (h:SqT K H a xs):SqT K H' a xs:=by
 rcases h with (h | ⟨o,h⟩) | h
 ·exact .inl (.inl (e _ _ h))
 ·exact .inl (.inr ⟨o,e _ _ h⟩)
 ·exact .inr h
noncomputable def scr (ns:List Int):PyData:= .dict (ns.map fun n=>(.int n,.none))
mutual
noncomputable def Rep (K:PySem.W.Frag) (H:Hp):PyData->V->Prop
 | .none,v=>v= .non
 | .bool b,v=>v= .bl b
 | .int i,v=>v= .int i
 | .str x,v=>v= .str x
 | .tuple ds,v=>∃ a xs,v= .ref a/\SqT K H a xs/\Reps K H ds xs
 | .list ds,v=>∃ a xs,v= .ref a/\H a=some (.lst xs)/\Reps K H ds xs
 | .dict kvs,v=>∃ a,v= .ref a/\((∃ ns:List Int,SqL K H a (List.map V.int ns)/\kvs=ns.map (fun n=>(PyData.int n,PyData.none))) ∨ (∃ ks ob,H a=some (.frz ob (.dK ks))/\RepD K H kvs ks) ∨ (∃ x:Str,kvs=[(.str x,.none)]/\PySem.W.nsIn K mainGlobals x=some (some (.ref a))) ∨ ∃ (x:Str) (C:Addr) (oe:Obj),kvs=[(.str x,.bool true)]/\H a=some (.frz oe (.own a))/\PySem.W.nsIn K mainGlobals x=some (some (.ref C))/\oe.cls= .ref C/\oe.dict=none/\∃ vs,oe.data= .fields vs)
noncomputable def Reps (K:PySem.W.Frag) (H:Hp):List PyData->List V->Prop
 | [],xs=>xs=[]
 | d::ds,xs=>∃ x r,xs=x::r/\Rep K H d x/\Reps K H ds r
noncomputable def RepD (K:PySem.W.Frag) (H:Hp):List (PyData × PyData)->List (Key × V)->Prop
 | [],_=>False
 | (.none,_)::r,ks=>RepM K H r ks
 | _::_,_=>False
noncomputable def RepM (K:PySem.W.Frag) (H:Hp):List (PyData × PyData)->List (Key × V)->Prop
 | [],ks=>ks=[]
 | (k,d)::r,ks=>∃ i x s,k= .int i/\ks=(Sum.inl i,x)::s/\Rep K H d x/\RepM K H r s
end
noncomputable def zY (kvs:List (PyData × PyData)):Bool:=kvs.all fun p=>match p with
 | (.int _,.none)=>true
 | _=>false
theorem adY (ns:List Int):zY (ns.map fun n=>(PyData.int n,PyData.none))=true:=by
 simp [zY]
theorem RepD.out {K:PySem.W.Frag}{H:Hp}:∀ {kvs:List (PyData × PyData)}{ks:List (Key × V)},RepD K H kvs ks->∃ c r,kvs=(.none,c)::r/\RepM K H r ks
 | [],_,h=>h.elim
 | (.none,c)::r,ks,h=>⟨c,r,rfl,h⟩
 | (.bool _,_)::_,_,h=>h.elim
 | (.int _,_)::_,_,h=>h.elim
 | (.str _,_)::_,_,h=>h.elim
 | (.list _,_)::_,_,h=>h.elim
 | (.tuple _,_)::_,_,h=>h.elim
 | (.dict _,_)::_,_,h=>h.elim
theorem Rep.scrOut {K:PySem.W.Frag}{H:Hp}{kvs:List (PyData × PyData)}{v:V} (h:Rep K H (.dict kvs) v) (hs:zY kvs=true):∃ a ns,v= .ref a/\SqL K H a (List.map V.int ns)/\kvs=ns.map (fun n=>(PyData.int n,PyData.none)):=by
 obtain ⟨a,h1,h2 | ⟨ks,ob,h2,h3⟩ | ⟨x,h2,_⟩ | ⟨x,_,_,h2,_⟩⟩:=h
 ·obtain ⟨ns,q1,q2⟩:=h2; exact ⟨a,ns,h1,q1,q2⟩
 ·obtain ⟨c,r,rfl,_⟩:=h3.out
  simp [zY] at hs
 ·subst h2; simp [zY] at hs
 ·subst h2; simp [zY] at hs
noncomputable def Jb (x:Str):PyData:= .dict [(.str x,.bool true)]
noncomputable def fnD (x:Str):PyData:= .dict [(.str x,.none)]
noncomputable def jQ (H H':Hp):Prop:=∀ b o,H b=some o->(∀ φ,o ≠ .ext φ)->H' b=some o
theorem jq.e {H H':Hp} (s:jq H H'):jQ H H':=fun b o h _=>s b o h
theorem jQ.refl (H:Hp):jQ H H:=fun _ _ h _=>h
theorem jQ.trans {H H1 H2:Hp} (a:jQ H H1) (b:jQ H1 H2):jQ H H2:=fun c o h n=>b c o (a c o h n) n
theorem jQ.tup {K:PySem.W.Frag}{H H':Hp}{a:Addr}{xs:List V} (e:jQ H H') (h:SqT K H a xs):SqT K H' a xs:=by
 rcases h with (h | ⟨o,h⟩) | h
 ·exact .inl (.inl (e _ _ h fun _ z=>nomatch z))
 ·exact .inl (.inr ⟨o,e _ _ h fun _ z=>nomatch z⟩)
 ·exact .inr h
theorem jQ.sql {K:PySem.W.Frag}{H H':Hp}{a:Addr}{xs:List V} (e:jQ H H') (h:SqL K H a xs):SqL K H' a xs:=by
 rcases h with (h | ⟨o,h⟩) | h
 ·exact .inl (.inl (e _ _ h fun _ z=>nomatch z))
 ·exact .inl (.inr ⟨o,e _ _ h fun _ z=>nomatch z⟩)
 ·exact .inr h
section
variable {K:PySem.W.Frag}{H H':Hp}
mutual
theorem Rep.mono (e:jq H H'):∀ (d:PyData) (v:V),Rep K H d v->Rep K H' d v
 | .none,v,h=>h
 | .bool _,v,h=>h
 | .int _,v,h=>h
 | .str _,v,h=>h
 | .tuple ds,v,⟨a,xs,h1,h2,h3⟩=>⟨a,xs,h1,jq.tup e h2,Reps.mono e ds xs h3⟩
 | .list ds,v,⟨a,xs,h1,h2,h3⟩=>⟨a,xs,h1,e _ _ h2,Reps.mono e ds xs h3⟩
 | .dict kvs,v,⟨a,h1,h2⟩=>⟨a,h1,h2.imp (fun ⟨ns,q1,q2⟩=>⟨ns,e.seq q1,q2⟩) fun z=>z.imp (fun ⟨ks,ob,q1,q2⟩=>⟨ks,ob,e _ _ q1,RepD.mono e kvs ks q2⟩) fun y=>y.imp id fun ⟨x,C,oe,q1,q2,q3⟩=>⟨x,C,oe,q1,e _ _ q2,q3⟩⟩
theorem Reps.mono (e:jq H H'):∀ (ds:List PyData) (xs:List V),Reps K H ds xs->Reps K H' ds xs
 | [],xs,h=>h
 | d::ds,xs,⟨x,r,h1,h2,h3⟩=>⟨x,r,h1,Rep.mono e d x h2,Reps.mono e ds r h3⟩
theorem RepD.mono (e:jq H H'):∀ (kvs:List (PyData × PyData)) (ks:List (Key × V)),RepD K H kvs ks->RepD K H' kvs ks
 | [],_,h=>h
 | (.none,c)::r,ks,h=>RepM.mono e r ks h
 | (.bool _,_)::_,_,h=>h
 | (.int _,_)::_,_,h=>h
 | (.str _,_)::_,_,h=>h
 | (.list _,_)::_,_,h=>h
 | (.tuple _,_)::_,_,h=>h
 | (.dict _,_)::_,_,h=>h
theorem RepM.mono (e:jq H H'):∀ (kvs:List (PyData × PyData)) (ks:List (Key × V)),RepM K H kvs ks->RepM K H' kvs ks
 | [],_,h=>h
 | (k,d)::r,ks,⟨i,x,s,h1,h2,h3,h4⟩=>⟨i,x,s,h1,h2,Rep.mono e d x h3,RepM.mono e r s h4⟩
end
mutual
theorem Rep.monoE (e:jQ H H'):∀ (d:PyData) (v:V),Rep K H d v->Rep K H' d v
 | .none,v,h=>h
 | .bool _,v,h=>h
 | .int _,v,h=>h
 | .str _,v,h=>h
 | .tuple ds,v,⟨a,xs,h1,h2,h3⟩=>⟨a,xs,h1,jQ.tup e h2,Reps.monoE e ds xs h3⟩
 | .list ds,v,⟨a,xs,h1,h2,h3⟩=>⟨a,xs,h1,e _ _ h2 (fun _ z=>nomatch z),Reps.monoE e ds xs h3⟩
 | .dict kvs,v,⟨a,h1,h2⟩=>⟨a,h1,h2.imp (fun ⟨ns,q1,q2⟩=>⟨ns,jQ.sql e q1,q2⟩) fun z=>z.imp (fun ⟨ks,ob,q1,q2⟩=>⟨ks,ob,e _ _ q1 (fun _ z=>nomatch z),RepD.monoE e kvs ks q2⟩) fun y=>y.imp id fun ⟨x,C,oe,q1,q2,q3⟩=>⟨x,C,oe,q1,e _ _ q2 (fun _ z=>nomatch z),q3⟩⟩
theorem Reps.monoE (e:jQ H H'):∀ (ds:List PyData) (xs:List V),Reps K H ds xs->Reps K H' ds xs
 | [],xs,h=>h
 | d::ds,xs,⟨x,r,h1,h2,h3⟩=>⟨x,r,h1,Rep.monoE e d x h2,Reps.monoE e ds r h3⟩
theorem RepD.monoE (e:jQ H H'):∀ (kvs:List (PyData × PyData)) (ks:List (Key × V)),RepD K H kvs ks->RepD K H' kvs ks
 | [],_,h=>h
 | (.none,c)::r,ks,h=>RepM.monoE e r ks h
 | (.bool _,_)::_,_,h=>h
 | (.int _,_)::_,_,h=>h
 | (.str _,_)::_,_,h=>h
 | (.list _,_)::_,_,h=>h
 | (.tuple _,_)::_,_,h=>h
 | (.dict _,_)::_,_,h=>h
theorem RepM.monoE (e:jQ H H'):∀ (kvs:List (PyData × PyData)) (ks:List (Key × V)),RepM K H kvs ks->RepM K H' kvs ks
 | [],_,h=>h
 | (k,d)::r,ks,⟨i,x,s,h1,h2,h3,h4⟩=>⟨i,x,s,h1,h2,Rep.monoE e d x h3,RepM.monoE e r s h4⟩
end
theorem Reps.length:∀ {ds:List PyData}{xs:List V},Reps K H ds xs->xs.length=ds.length
 | [],xs,h=>by cases h; rfl
 | d::ds,xs,⟨x,r,h1,h2,h3⟩=>by subst h1; simp [Reps.length h3]
theorem Reps.get:∀ {ds:List PyData}{xs:List V}{i:Nat}{d:PyData},Reps K H ds xs->ds[i]?=some d->∃ x,xs[i]?=some x/\Rep K H d x
 | [],xs,i,d,h,e=>by simp at e
 | c::ds,xs,0,d,⟨x,r,h1,h2,h3⟩,e=>by subst h1; simp at e; subst e; exact ⟨x,rfl,h2⟩
 | c::ds,xs,i+1,d,⟨x,r,h1,h2,h3⟩,e=>by
  subst h1
  obtain ⟨y,e1,e2⟩:=Reps.get (i:=i) h3 (by simpa using e)
  exact ⟨y,by simpa using e1,e2⟩
theorem Reps.append:∀ {ds es:List PyData}{xs ys:List V},Reps K H ds xs->Reps K H es ys->Reps K H (ds++es) (xs++ys)
 | [],es,xs,ys,h,g=>by cases h; exact g
 | d::ds,es,xs,ys,⟨x,r,h1,h2,h3⟩,g=>by subst h1; exact ⟨x,r++ys,rfl,h2,Reps.append h3 g⟩
theorem Reps.take:∀ {ds:List PyData}{xs:List V} (n:Nat),Reps K H ds xs->Reps K H (ds.take n) (xs.take n)
 | ds,xs,0,h=>by simp; rfl
 | [],xs,n+1,h=>by cases h; rfl
 | d::ds,xs,n+1,⟨x,r,h1,h2,h3⟩=>by subst h1; exact ⟨x,_,rfl,h2,Reps.take n h3⟩
theorem Reps.drop:∀ {ds:List PyData}{xs:List V} (n:Nat),Reps K H ds xs->Reps K H (ds.drop n) (xs.drop n)
 | ds,xs,0,h=>by simpa using h
 | [],xs,n+1,h=>by cases h; rfl
 | d::ds,xs,n+1,⟨x,r,h1,h2,h3⟩=>by subst h1; simpa using Reps.drop n h3
theorem Reps.ints:∀ {ns:List Int}{xs:List V},Reps K H (ns.map PyData.int) xs->xs=ns.map V.int
 | [],xs,h=>h
 | n::ns,xs,⟨x,r,h1,h2,h3⟩=>by subst h1; cases (show x=V.int n from h2); rw [Reps.ints h3]; rfl
end
section
variable {X:Cx}{pins:List (Addr × Obj)}{σ:St}{H:Hp}{s:Shared}
mutual
theorem zu (I:Inv X pins σ H s):∀ (d:PyData) (v:V) (u:Value),Rep X.K H d v->jP v u->d.canLay0=true->∃ as,Reads s.heap u d as
 | .none,v,u,h,r,_=>by cases h; cases r; exact ⟨_,.none⟩
 | .bool b,v,u,h,r,_=>by cases h; cases r; exact ⟨_,.bool b⟩
 | .int i,v,u,h,r,_=>by cases h; obtain ⟨t,rfl⟩:=r; exact ⟨_,.int i t⟩
 | .str x,v,u,h,r,_=>by cases h; obtain ⟨t,rfl⟩:=r; exact ⟨_,.str x t⟩
 | .tuple ds,v,u,⟨a,xs,h1,h2,h3⟩,r,hc=>by
  subst h1; cases r
  obtain ⟨its,rv,⟨o,e1,e2,n,e3⟩,_⟩:=I.tuple h2
  obtain ⟨as,ra⟩:=readsAll_of I ds xs its h3 rv (by simpa [PyData.canLay0] using hc)
  exact ⟨as,.tuple e1 e2 e3 (by simpa using ra)⟩
 | .list ds,v,u,⟨a,xs,h1,h2,h3⟩,r,hc=>by
  subst h1; cases r
  obtain ⟨its,rv,⟨o,n,e1,e2,e3,e4⟩,_⟩:=I.list (SqL.of h2)
  obtain ⟨as,ra⟩:=readsAll_of I ds xs its h3 rv (by simpa [PyData.canLay0] using hc)
  exact ⟨a::as,.list e1 e2 e4 (by simpa using ra)⟩
 | .dict kvs,v,u,h,r,hc=>by simp [PyData.canLay0] at hc
theorem readsAll_of (I:Inv X pins σ H s):∀ (ds:List PyData) (xs:List V) (us:List Value),Reps X.K H ds xs->jG xs us->PyData.canLayAll0 ds=true->∃ as,ReadsAll s.heap us ds as
 | [],xs,us,h,r,_=>by cases h; cases r; exact ⟨_,.nil⟩
 | d::ds,xs,us,⟨x,q,h1,h2,h3⟩,r,hc=>by
  subst h1
  cases r with
  | cons r1 r2=>
   have hc':d.canLay0=true/\PyData.canLayAll0 ds=true:=by simpa [PyData.canLayAll0] using hc
   obtain ⟨as,ra⟩:=zu I d x _ h2 r1 hc'.1
   obtain ⟨bs,rb⟩:=readsAll_of I ds q _ h3 r2 hc'.2
   exact ⟨_,.cons ra rb⟩
end
end
noncomputable abbrev Rho:=List (Option PyData)
structure EnvR (K:PySem.W.Frag) (H:Hp) (ρ:Rho) (σ:St):Prop where
 len:ρ.length=σ.length
 at':∀ (i:Nat) (d:PyData),ρ[i]?=some (some d)->∃ v,σ[i]?=some (some v)/\Rep K H d v
theorem EnvR.mono {K:PySem.W.Frag}{H H':Hp}{ρ:Rho}{σ:St} (e:EnvR K H ρ σ) (h:jq H H'):EnvR K H' ρ σ:=
 ⟨e.len,fun i d q=>let ⟨v,e1,e2⟩:=e.at' i d q; ⟨v,e1,Rep.mono h d v e2⟩⟩
theorem EnvR.set {K:PySem.W.Frag}{H:Hp}{ρ:Rho}{σ:St} (e:EnvR K H ρ σ) {i:Nat}{d:PyData}{v:V} (r:Rep K H d v):EnvR K H (ρ.set i (some d)) (σ.set i (some v)):=by
 refine ⟨by simp [e.len],fun j c q=>?_⟩
 by_cases hj:i=j
 ·subst hj
  rw [List.getElem?_set] at q ⊢
  simp only [zzM] at q ⊢
  by_cases hl:i < ρ.length
  ·rw [if_pos hl] at q
   rw [if_pos (by rw [←e.len]; exact hl)]
   cases q
   exact ⟨v,rfl,r⟩
  ·rw [if_neg hl] at q; cases q
 ·rw [List.getElem?_set_ne hj] at q ⊢
  exact e.at' j c q
noncomputable def lkp (i:Nat) (ρ:Rho):Option PyData:=(ρ[i]?).join
theorem zg {i:Nat}{ρ:Rho}{d:PyData} (h:lkp i ρ=some d):ρ[i]?=some (some d):=by
 unfold lkp at h
 cases e:ρ[i]? with
 | none=>rw [e] at h; cases h
 | some o=>rw [e] at h; cases o with
  | none=>cases h
  | some c=>cases h; rfl
noncomputable def tD (K:PySem.W.Frag) (f:Rho->Option PyData):TE:=fun σ H Q=>∃ ρ d,EnvR K H ρ σ/\f ρ=some d/\∀ v H',jq H H'->Rep K H' d v->Q v H'
@[irreducible] noncomputable def PD (X:Cx) (e:Expr) (f:Rho->Option PyData):Prop:=PE X e (tD X.K f)
noncomputable def tDT (K:PySem.W.Frag) (f:Rho->Option Bool):TT:=fun σ H Q=>∃ ρ b,EnvR K H ρ σ/\f ρ=some b/\∀ H',jq H H'->Q b H'
@[irreducible] noncomputable def PTD (X:Cx) (e:Expr) (f:Rho->Option Bool):Prop:=PT X e (tDT X.K f)
noncomputable def tDA (K:PySem.W.Frag) (f:Rho->Option (List PyData)):TA:=fun σ H Q=>∃ ρ ds,EnvR K H ρ σ/\f ρ=some ds/\∀ vs H',jq H H'->Reps K H' ds vs->Q vs H'
@[irreducible] noncomputable def PAD (X:Cx) (es:List Expr) (f:Rho->Option (List PyData)):Prop:=PA X es (tDA X.K f)
inductive Out where
 | nx (ρ:Rho) | rt (d:PyData) | bk (ρ:Rho) | ct (ρ:Rho)
noncomputable def aiD (K:PySem.W.Frag) (D:Ends) (H:Hp):Out->Prop
 | .nx ρ=>∀ σ H',jq H H'->EnvR K H' ρ σ->D.nx σ H'
 | .rt d=>∀ v H',jq H H'->Rep K H' d v->D.rt v H'
 | .bk ρ=>∀ σ H',jq H H'->EnvR K H' ρ σ->D.bk σ H'
 | .ct ρ=>∀ σ H',jq H H'->EnvR K H' ρ σ->D.ct σ H'
theorem aiD.mono {K:PySem.W.Frag}{D:Ends}{H H':Hp}{o:Out} (h:aiD K D H o) (e:jq H H'):aiD K D H' o:=by
 cases o with
 | nx ρ=>exact fun σ H2 e2 r=>h σ H2 (e.trans e2) r
 | rt d=>exact fun v H2 e2 r=>h v H2 (e.trans e2) r
 | bk ρ=>exact fun σ H2 e2 r=>h σ H2 (e.trans e2) r
 | ct ρ=>exact fun σ H2 e2 r=>h σ H2 (e.trans e2) r
noncomputable def tDS (K:PySem.W.Frag) (F:Rho->Option Out):TS:=fun D σ H=>∃ ρ o,EnvR K H ρ σ/\F ρ=some o/\aiD K D H o
@[irreducible] noncomputable def PSD (X:Cx) (st:Stmt) (F:Rho->Option Out):Prop:=PS X st (tDS X.K F)
@[irreducible] noncomputable def Z2 (X:Cx) (st:List Stmt) (F:Rho->Option Out):Prop:=PSs X st (tDS X.K F)
noncomputable def tDG (K:PySem.W.Frag) (ga:PyData->Rho->Option Rho):TG:=fun v σ H Q=>∃ ρ d ρ',EnvR K H ρ σ/\Rep K H d v/\ga d ρ=some ρ'/\∀ σ' H',jq H H'->EnvR K H' ρ' σ'->Q σ' H'
@[irreducible] noncomputable def PGD (X:Cx) (tg:Expr) (ga:PyData->Rho->Option Rho):Prop:=PG X tg (tDG X.K ga)
section
variable {X:Cx}{e a b c:Expr}{es:List Expr}{fa fb fc:Rho->Option PyData}{pos:Pos}
theorem PE.imp {t t':TE} (h:PE X e t) (hi:∀ σ H Q,t' σ H Q->t σ H Q):PE X e t':=fun pins s σ H Q I q=>h pins s σ H Q I (hi σ H Q q)
theorem PT.imp {t t':TT} (h:PT X e t) (hi:∀ σ H Q,t' σ H Q->t σ H Q):PT X e t':=fun pins s σ H Q I q=>h pins s σ H Q I (hi σ H Q q)
theorem PA.imp {t t':TA} (h:PA X es t) (hi:∀ σ H Q,t' σ H Q->t σ H Q):PA X es t':=fun pos pins s σ H Q I q=>h pos pins s σ H Q I (hi σ H Q q)
theorem PS.imp {st:Stmt}{t t':TS} (h:PS X st t) (hi:∀ D σ H,t' D σ H->t D σ H):PS X st t':=fun pins s σ H D I q=>h pins s σ H D I (hi D σ H q)
theorem PSs.imp {st:List Stmt}{t t':TS} (h:PSs X st t) (hi:∀ D σ H,t' D σ H->t D σ H):PSs X st t':=fun pins s σ H D I q=>h pins s σ H D I (hi D σ H q)
theorem PG.imp {t t':TG} (h:PG X e t) (hi:∀ v σ H Q,t' v σ H Q->t v σ H Q):PG X e t':=fun pins s σ H v u Q I r q=>h pins s σ H v u Q I r (hi v σ H Q q)
theorem jb (i:Nat) {x:Str}{pos:Pos} (hN:X.N[i]?=some x:=by rfl) (hv:Vis X.env.scope x:=by first | exact Or.inl rfl | exact Or.inr (Or.inl rfl) | exact Or.inr (Or.inr rfl)) (hd:(x == ("__debug__":Str))=false:=by decide)
  (hcd:(x == ("__classdict__":Str))=false:=by decide):PD X (.Name x pos) (lkp i):=by
 with_unfolding_all exact (PE.imp (act hN hv hd hcd) fun σ H Q ⟨ρ,d,e,h,k⟩=>let ⟨v,e1,e2⟩:=e.at' i d (zg h); ⟨v,e1,k v H (jq.refl H) e2⟩)
noncomputable def cst (d:PyData) (_:Rho):Option PyData:=some d
theorem jg {i j pos}:PD X (.Constant (.int i) j pos) (cst (.int i)):=by
 with_unfolding_all exact (PE.imp app fun σ H Q ⟨ρ,d,e,h,k⟩=>by cases h; exact k _ H (jq.refl H) rfl)
theorem JK {i j pos}:PD X (.Constant (.bool i) j pos) (cst (.bool i)):=by
 with_unfolding_all exact (PE.imp aqR fun σ H Q ⟨ρ,d,e,h,k⟩=>by cases h; exact k _ H (jq.refl H) rfl)
theorem ahw {j pos}:PD X (.Constant .none j pos) (cst .none):=by
 with_unfolding_all exact (PE.imp akO fun σ H Q ⟨ρ,d,e,h,k⟩=>by cases h; exact k _ H (jq.refl H) rfl)
theorem aeM {i j pos}:PD X (.Constant (.str i) j pos) (cst (.str i)):=by
 with_unfolding_all exact (PE.imp akP fun σ H Q ⟨ρ,d,e,h,k⟩=>by cases h; exact k _ H (jq.refl H) rfl)
theorem anw {x:Str}{v:V}{u:Value}{d:PyData} (hg:Gl X x) (hm:X.mg x=some u) (r:jP v u) (hr:∀ H,Rep X.K H d v) (hd:(x == ("__debug__":Str))=false:=by decide):PD X (.Name x pos) (cst d):=by
 with_unfolding_all exact (PE.imp (ab2 hg hm r hd) fun σ H Q ⟨ρ,d',e,h,k⟩=>by cases h; exact k _ H (jq.refl H) (hr H))
noncomputable def op2 (g:PyData->PyData->Option PyData) (fa fb:Rho->Option PyData):Rho->Option PyData:=fun ρ=>(fa ρ).bind fun x=>(fb ρ).bind fun y=>g x y
noncomputable def OpD (X:Cx) (f:Value->Value->Sem Value) (g:PyData->PyData->Option PyData):Prop:=
 ∃ r,OpR X f r/\∀ p q d x y H Q,g p q=some d->Rep X.K H p x->Rep X.K H q y->(∀ v H',jq H H'->Rep X.K H' d v->Q v H')->r x y H Q
theorem anx {g:PyData->PyData->Option PyData}{K:PySem.W.Frag}{r:R2} (hr:∀ p q d x y H Q,g p q=some d->Rep K H p x->Rep K H q y->(∀ v H',jq H H'->Rep K H' d v->Q v H')->r x y H Q)
  {σ:St} {H:Hp} {Q:VK} (h:tD K (op2 g fa fb) σ H Q):tOp r (tD K fa) (tD K fb) σ H Q:=by
 obtain ⟨ρ,d,e,h,k⟩:=h
 unfold op2 at h
 cases ha:fa ρ with
 | none=>rw [ha] at h; cases h
 | some p=>
  rw [ha] at h
  cases hb:fb ρ with
  | none=>rw [hb] at h; cases h
  | some q=>
   rw [hb] at h
   refine ⟨ρ,p,e,ha,fun x H1 s1 r1=>⟨ρ,q,e.mono s1,hb,fun y H2 s2 r2=>?_⟩⟩
   exact hr p q d x y H2 Q h (Rep.mono s2 p x r1) r2 fun v H' s3 r3=>k v H' (s1.trans (s2.trans s3)) r3
theorem jo {op:Operator}{g:PyData->PyData->Option PyData} (ho:OpD X (binaryOp op) g) (ha:PD X a fa) (hb:PD X b fb):PD X (.BinOp a op b pos) (op2 g fa fb):=by
 with_unfolding_all
  obtain ⟨r,h1,h2⟩:=ho
  exact PE.imp (aqZ h1 ha hb) fun σ H Q h=>anx h2 h
theorem ahx {op:CmpOp}{g:PyData->PyData->Option PyData} (ho:OpD X (compareOp op) g) (ha:PD X a fa) (hb:PD X b fb) (hm:behindInMarks op b=false:=by first | exact akV _ | with_unfolding_all rfl):PD X (.Compare a [op] [b] pos) (op2 g fa fb):=by
 with_unfolding_all
  obtain ⟨r,h1,h2⟩:=ho
  exact PE.imp (ang h1 ha hb hm) fun σ H Q h=>anx h2 h
noncomputable def asB:PyData->Option Bool
 | .bool b=>some b
 | _=>none
noncomputable def tst (f:Rho->Option PyData):Rho->Option Bool:=fun ρ=>(f ρ).bind asB
theorem Q1 {d:PyData}{b:Bool} (h:asB d=some b):d= .bool b:=by
 cases d <;> simp [asB] at h
 rw [h]
theorem j2 {op:CmpOp}{g:PyData->PyData->Option PyData} (ho:OpD X (compareOp op) g) (ha:PD X a fa) (hb:PD X b fb) (hm:behindInMarks op b=false:=by first | exact akV _ | with_unfolding_all rfl):PTD X (.Compare a [op] [b] pos) (tst (op2 g fa fb)):=by
 with_unfolding_all
  obtain ⟨r,h1,h2⟩:=ho
  refine PT.imp (anh h1 ha hb hm) fun σ H Q ⟨ρ,t,e,h,k⟩=>?_
  cases hd:op2 g fa fb ρ with
  | none=>simp [tst,hd] at h
  | some d=>
   have ht:d= .bool t:=Q1 (by simpa [tst,hd] using h)
   subst ht
   exact anx h2 ⟨ρ,_,e,hd,fun v H' s r=>⟨t,r,k H' s⟩⟩
theorem zv (h:PD X e fa) (he:∀ whole,isTrue e X.env whole=(do let v ←whole; standAt e.pos; holding [v] (truthy v)):=by intro _; rfl):PTD X e (tst fa):=by
 with_unfolding_all
  refine PT.imp (apq h he) fun σ H Q ⟨ρ,t,e,h,k⟩=>?_
  cases hd:fa ρ with
  | none=>simp [tst,hd] at h
  | some d=>
   have ht:d= .bool t:=Q1 (by simpa [tst,hd] using h)
   subst ht
   exact ⟨ρ,_,e,hd,fun v H' s r=>⟨t,r,k H' s⟩⟩
variable {ta tb:Rho->Option Bool}{j5:List Expr}
@[irreducible] noncomputable def PWD (X:Cx) (e:Expr) (f:Rho->Option Bool):Prop:=PW X e (tDT X.K f)
theorem PW.imp {t t':TT} (h:PW X e t) (hi:∀ σ H Q,t' σ H Q->t σ H Q):PW X e t':=fun wh pins s σ H Q I q=>h wh pins s σ H Q I (hi σ H Q q)
noncomputable def adH (ta tb:Rho->Option Bool):Rho->Option Bool:=fun ρ=>(ta ρ).bind fun x=>if x=true then tb ρ else some false
noncomputable def orB (ta tb:Rho->Option Bool):Rho->Option Bool:=fun ρ=>(ta ρ).bind fun x=>if x=true then some true else tb ρ
noncomputable def Jp (ta:Rho->Option Bool):Rho->Option Bool:=fun ρ=>(ta ρ).map (!·)
theorem acC (ha:PTD X a ta):PWD X (.BoolOp .And [a] pos) ta:=by
 with_unfolding_all exact (anb ha)
theorem ab3 (ha:PTD X a ta):PWD X (.BoolOp .Or [a] pos) ta:=by
 with_unfolding_all exact (apr ha)
theorem aeN (ha:PTD X a ta) (hb:PWD X (.BoolOp .And (b::j5) pos) tb):PWD X (.BoolOp .And (a::b::j5) pos) (adH ta tb):=by
 with_unfolding_all
  refine PW.imp (aps ha hb) fun σ H Q ⟨ρ,t,e,h,k⟩=>?_
  cases h1:ta ρ with
  | none=>simp [adH,h1] at h
  | some x=>
   refine ⟨ρ,x,e,h1,fun H' s=>?_⟩
   cases x with
   | true=>rw [if_pos rfl]; exact ⟨ρ,t,e.mono s,by simpa [adH,h1] using h,fun H2 s2=>k H2 (s.trans s2)⟩
   | false=>
    rw [if_neg Bool.false_ne_true]
    have:t=false:=by simpa [adH,h1] using h.symm
    subst this
    exact k H' s
theorem aeO (ha:PTD X a ta) (hb:PWD X (.BoolOp .Or (b::j5) pos) tb):PWD X (.BoolOp .Or (a::b::j5) pos) (orB ta tb):=by
 with_unfolding_all
  refine PW.imp (aqS ha hb) fun σ H Q ⟨ρ,t,e,h,k⟩=>?_
  cases h1:ta ρ with
  | none=>simp [orB,h1] at h
  | some x=>
   refine ⟨ρ,x,e,h1,fun H' s=>?_⟩
   cases x with
   | false=>rw [if_neg Bool.false_ne_true]; exact ⟨ρ,t,e.mono s,by simpa [orB,h1] using h,fun H2 s2=>k H2 (s.trans s2)⟩
   | true=>
    rw [if_pos rfl]
    have:t=true:=by simpa [orB,h1] using h.symm
    subst this
    exact k H' s
theorem Jq {op:BoolOp}{l:List Expr} (h:PWD X (.BoolOp op l pos) ta):PTD X (.BoolOp op l pos) ta:=by
 with_unfolding_all exact (h.pt)
theorem zO (ha:PTD X a ta):PTD X (.UnaryOp .Not a pos) (Jp ta):=by
 with_unfolding_all
  refine PT.imp (apt ha) fun σ H Q ⟨ρ,t,e,h,k⟩=>?_
  cases h1:ta ρ with
  | none=>simp [Jp,h1] at h
  | some x=>
   have:(!x)=t:=by simpa [Jp,h1] using h
   subst this
   exact ⟨ρ,x,e,h1,fun H' s=>k H' s⟩
noncomputable def ifD (tc:Rho->Option Bool) (fa fb:Rho->Option PyData):Rho->Option PyData:=fun ρ=>(tc ρ).bind fun x=>if x=true then fa ρ else fb ρ
theorem are {tc:Rho->Option Bool} (hc:PTD X c tc) (ha:PD X a fa) (hb:PD X b fb):PD X (.IfExp c a b pos) (ifD tc fa fb):=by
 with_unfolding_all
  refine PE.imp (akQ hc ha hb) fun σ H Q ⟨ρ,d,e,h,k⟩=>?_
  cases h1:tc ρ with
  | none=>simp [ifD,h1] at h
  | some x=>
   refine ⟨ρ,x,e,h1,fun H' s=>?_⟩
   cases x with
   | true=>rw [if_pos rfl]; exact ⟨ρ,d,e.mono s,by simpa [ifD,h1] using h,fun v H2 s2=>k v H2 (s.trans s2)⟩
   | false=>rw [if_neg Bool.false_ne_true]; exact ⟨ρ,d,e.mono s,by simpa [ifD,h1] using h,fun v H2 s2=>k v H2 (s.trans s2)⟩
noncomputable def ju (_:Rho):Option (List PyData):=some []
noncomputable def jk (fa:Rho->Option PyData) (fr:Rho->Option (List PyData)):Rho->Option (List PyData):=fun ρ=>(fa ρ).bind fun x=>(fr ρ).map fun r=>x::r
theorem je:PAD X [] ju:=by
 with_unfolding_all exact (PA.imp zL fun σ H Q ⟨ρ,d,e,h,k⟩=>by cases h; exact k [] H (jq.refl H) rfl)
theorem ja {fr:Rho->Option (List PyData)} (ha:PD X e fa) (hr:PAD X es fr) (hs:starEach (e::es) X.env=(false,eval e X.env)::starEach es X.env:=by rfl):PAD X (e::es) (jk fa fr):=by
 with_unfolding_all
  refine PA.imp (qm ha hr hs) fun σ H Q ⟨ρ,ds,en,h,k⟩=>?_
  cases h1:fa ρ with
  | none=>simp [jk,h1] at h
  | some x=>
   cases h2:fr ρ with
   | none=>simp [jk,h1,h2] at h
   | some r=>
    have:x::r=ds:=by simpa [jk,h1,h2] using h
    subst this
    exact ⟨ρ,x,en,h1,fun v H1 s1 r1=>⟨ρ,r,en.mono s1,h2,fun vs H2 s2 r2=>k _ H2 (s1.trans s2) ⟨v,vs,rfl,Rep.mono s2 x v r1,r2⟩⟩⟩
noncomputable def few (ds:List PyData):Bool:=decide (ds.length < 1000000)
theorem acD {n:Nat} (h:n < 1000000):n<=sizeLine:=Nat.le_of_lt (Nat.lt_of_lt_of_le h (by rw [sizeLine_eq]; decide))
theorem jC {H:Hp}{p:Addr}{o:HO} (hp:H p=none):jq H (upd H p o):=fun b u h=>by rw [jn (qC h hp)]; exact h
noncomputable def zG (fr:Rho->Option (List PyData)):Rho->Option PyData:=fun ρ=>(fr ρ).bind fun ds=>if few ds=true then some (.tuple ds) else none
noncomputable def JV (fr:Rho->Option (List PyData)):Rho->Option PyData:=fun ρ=>(fr ρ).bind fun ds=>if few ds=true then some (.list ds) else none
theorem za {x1}{fr:Rho->Option (List PyData)} (h:PAD X es fr):PD X (.Tuple es x1 pos) (zG fr):=by
 with_unfolding_all
  refine PE.imp (akY h) fun σ H Q ⟨ρ,d,e,h,k⟩=>?_
  cases h1:fr ρ with
  | none=>simp [zG,h1] at h
  | some ds=>
   by_cases hf:few ds=true
   ·have:PyData.tuple ds=d:=by simpa [zG,h1,hf] using h
    subst this
    refine ⟨ρ,ds,e,h1,fun vs H1 s1 r1=>⟨acD (by rw [r1.length]; simpa [few] using hf),fun p hp=>k _ _ (s1.trans (jC hp)) ⟨p,vs,rfl,SqT.of jr,Reps.mono (jC hp) _ _ r1⟩⟩⟩
   ·simp [zG,h1,hf] at h
theorem qw {fr:Rho->Option (List PyData)} (h:PAD X es fr):PD X (.List es pos) (JV fr):=by
 with_unfolding_all
  refine PE.imp (ahs h) fun σ H Q ⟨ρ,d,e,h,k⟩=>?_
  cases h1:fr ρ with
  | none=>simp [JV,h1] at h
  | some ds=>
   by_cases hf:few ds=true
   ·have:PyData.list ds=d:=by simpa [JV,h1,hf] using h
    subst this
    refine ⟨ρ,ds,e,h1,fun vs H1 s1 r1=>⟨acD (by rw [r1.length]; simpa [few] using hf),fun p hp=>k _ _ (s1.trans (jC hp)) ⟨p,vs,rfl,jr,Reps.mono (jC hp) _ _ r1⟩⟩⟩
   ·simp [JV,h1,hf] at h
end
end BX
end
section
namespace BX
open PySem PySem.Spec L2
open PyProof.Rows hiding St
section
variable {X:Cx}{e a b c tg src:Expr}{es:List Expr}{st:Stmt}{sts j5:List Stmt}{fa fb fc:Rho->Option PyData}{F G:Rho->Option Out}{pos:Pos}
noncomputable def qG (fa:Rho->Option PyData):Rho->Option Out:=fun ρ=>(fa ρ).map Out.rt
theorem jD (h:PD X e fa):PSD X (.Return (some e) pos) (qG fa):=by
 with_unfolding_all
  refine PS.imp (aho h) fun D σ H ⟨ρ,o,en,q,k⟩=>?_
  cases h1:fa ρ with
  | none=>simp [qG,h1] at q
  | some d=>
   have:Out.rt d=o:=by simpa [qG,h1] using q
   subst this
   exact ⟨ρ,d,en,h1,k⟩
noncomputable def ifS (tc:Rho->Option Bool) (F G:Rho->Option Out):Rho->Option Out:=fun ρ=>(tc ρ).bind fun x=>if x=true then F ρ else G ρ
theorem qO {l r:List Stmt}{tc:Rho->Option Bool} (hc:PTD X c tc) (hl:Z2 X l F) (hr:Z2 X r G):PSD X (.If c l r pos) (ifS tc F G):=by
 with_unfolding_all
  refine PS.imp (ao6 hc hl hr) fun D σ H ⟨ρ,o,en,q,k⟩=>?_
  cases h1:tc ρ with
  | none=>simp [ifS,h1] at q
  | some x=>
   refine ⟨ρ,x,en,h1,fun H1 s1=>?_⟩
   cases x with
   | true=>rw [if_pos rfl]; exact ⟨ρ,o,en.mono s1,by simpa [ifS,h1] using q,k.mono s1⟩
   | false=>rw [if_neg Bool.false_ne_true]; exact ⟨ρ,o,en.mono s1,by simpa [ifS,h1] using q,k.mono s1⟩
noncomputable def qq:Rho->Option Out:=fun ρ=>some (.nx ρ)
noncomputable def jI (F G:Rho->Option Out):Rho->Option Out:=fun ρ=>(F ρ).bind fun o=>match o with
 | .nx ρ'=>G ρ'
 | o=>some o
theorem ji:Z2 X [] qq:=by
 with_unfolding_all
  refine PSs.imp aiu fun D σ H ⟨ρ,o,en,q,k⟩=>?_
  cases q
  exact k σ H (jq.refl H) en
theorem jd (h1 : PSD X st F) (h2 : Z2 X j5 G) : Z2 X (st :: j5) (jI F G) := by
  with_unfolding_all
   refine PSs.imp (QY h1 h2) fun D σ H ⟨ρ, o, en, q, k⟩ => ?_
   cases hf : F ρ with
   | none => simp [jI, hf] at q
   | some p =>
     refine ⟨ρ, p, en, hf, ?_⟩
     cases p with
     | nx ρ' => exact fun σ' H' s' r' => ⟨ρ', o, r', by simpa [jI, hf] using q, k.mono s'⟩
     | rt d => have : Out.rt d = o := by simpa [jI, hf] using q
               subst this; exact k
     | bk d => have : Out.bk d = o := by simpa [jI, hf] using q
               subst this; exact k
     | ct d => have : Out.ct d = o := by simpa [jI, hf] using q
               subst this; exact k
noncomputable def ahy:Rho->Option Out:=fun _=>none
theorem QC:Z2 X sts ahy:=by
 with_unfolding_all exact (PSs.imp ajr fun D σ H ⟨ρ,o,en,q,k⟩=>by cases q)
noncomputable def Jr (fa:Rho->Option PyData):Rho->Option Out:=fun ρ=>(fa ρ).map fun _=> .nx ρ
theorem zh (h:PD X e fa) (hs:swapsWith e none pos.line X.env=pure false:=by rfl):PSD X (.Expr e pos) (Jr fa):=by
 with_unfolding_all
  refine PS.imp (aeD h hs) fun D σ H ⟨ρ,o,en,q,k⟩=>?_
  cases h1:fa ρ with
  | none=>simp [Jr,h1] at q
  | some d=>
   have:Out.nx ρ=o:=by simpa [Jr,h1] using q
   subst this
   exact ⟨ρ,d,en,h1,fun v H' s r=>k σ H' s (en.mono s)⟩
noncomputable def jA (i:Nat) (d:PyData) (ρ:Rho):Option Rho:=some (ρ.set i (some d))
theorem jL (i:Nat) {x:Str} (hN:X.N.Nodup) (hi:X.N[i]?=some x:=by rfl) (hx:Loc X.env.scope x:=by first | exact Or.inl rfl | exact Or.inr rfl)
  (hf:X.fn x=true ∨ X.env.scope.names.lookup x=some .local:=by first | exact .inl rfl | exact .inr rfl | assumption):PGD X (.Name x pos) (jA i):=by
 with_unfolding_all
  refine PG.imp (aar hN hi hx hf) fun v σ H Q ⟨ρ,d,ρ',en,r,q,k⟩=>?_
  cases q
  exact k _ H (jq.refl H) (en.set r)
@[irreducible] noncomputable def anz (X:Cx) (ts:List Expr) (ga:List PyData->Rho->Option Rho):Prop:=PGs X ts fun vs σ H Q=>∃ ρ ds ρ',EnvR X.K H ρ σ/\Reps X.K H ds vs/\ga ds ρ=some ρ'/\∀ σ' H',jq H H'->EnvR X.K H' ρ' σ'->Q σ' H'
noncomputable def Js (ds:List PyData) (ρ:Rho):Option Rho:=match ds with
 | []=>some ρ
 | _=>none
noncomputable def j4 (ga:PyData->Rho->Option Rho) (gr:List PyData->Rho->Option Rho) (ds:List PyData) (ρ:Rho):Option Rho:=match ds with
 | d::r=>(ga d ρ).bind fun ρ1=>gr r ρ1
 | []=>none
theorem PGs.imp {ts:List Expr}{t t':TGs} (h:PGs X ts t) (hi:∀ v σ H Q,t' v σ H Q->t v σ H Q):PGs X ts t':=fun pins s σ H v u Q I r q=>h pins s σ H v u Q I r (hi v σ H Q q)
theorem af1:anz X [] Js:=by
 with_unfolding_all
  refine PGs.imp aiv fun vs σ H Q ⟨ρ,ds,ρ',en,r,q,k⟩=>?_
  cases ds with
  | nil=>cases r; cases q; exact ⟨rfl,k σ H (jq.refl H) en⟩
  | cons d ds=>cases q
theorem Qe {ga:PyData->Rho->Option Rho}{gr:List PyData->Rho->Option Rho} (h1:PGD X e ga) (h2:anz X es gr)
  (hs:(assignEach (e::es) X.env).map (·.2)=assign e X.env::(assignEach es X.env).map (·.2):=by rfl):anz X (e::es) (j4 ga gr):=by
 with_unfolding_all
  refine PGs.imp (afS h1 h2 hs) fun vs σ H Q ⟨ρ,ds,ρ',en,r,q,k⟩=>?_
  cases ds with
  | nil=>cases q
  | cons d ds=>
   obtain ⟨x,rr,e1,r1,r2⟩:=r
   subst e1
   cases h3:ga d ρ with
   | none=>simp [j4,h3] at q
   | some ρ1=>
    refine ⟨x,rr,rfl,ρ,d,ρ1,en,r1,h3,fun σ1 H1 s1 e1=>⟨ρ1,ds,ρ',e1,Reps.mono s1 ds rr r2,by simpa [j4,h3] using q,fun σ2 H2 s2 e2=>k σ2 H2 (s1.trans s2) e2⟩⟩
noncomputable def Q4 (n:Nat) (gr:List PyData->Rho->Option Rho) (d:PyData) (ρ:Rho):Option Rho:=match d with
 | .tuple ds=>if ds.length=n then gr ds ρ else none
 | _=>none
theorem aiE {k n:Nat}{gr:List PyData->Rho->Option Rho} (hc:X.calm=true) (h:anz X es gr) (hn:(assignEach es X.env).length=n:=by rfl) (hst:(assignEach es X.env).findIdx? (·.1)=none:=by rfl):
  PGD X (.Tuple es k pos) (Q4 n gr):=by
 with_unfolding_all
  refine PG.imp (akS hc h hn hst) fun v σ H Q ⟨ρ,d,ρ',en,r,q,k⟩=>?_
  cases d with
  | tuple ds=>
   obtain ⟨a,xs,e1,e2,e3⟩:=r
   by_cases hl:ds.length=n
   ·exact ⟨a,xs,e1,e2,by rw [e3.length]; exact hl,ρ,ds,ρ',en,e3,by simpa [Q4,hl] using q,k⟩
   ·simp [Q4,hl] at q
  | _=>simp [Q4] at q
noncomputable def qU (fa:Rho->Option PyData) (ga:PyData->Rho->Option Rho):Rho->Option Out:=fun ρ=>(fa ρ).bind fun d=>(ga d ρ).map Out.nx
theorem jx (i:Nat) {x:Str}{pos':Pos} (hN:X.N.Nodup) (he:PD X e fa) (hi:X.N[i]?=some x:=by rfl) (hx:Loc X.env.scope x:=by first | exact Or.inl rfl | exact Or.inr rfl) (hs:swapsWith e (some (.Name x pos')) pos.line X.env=pure false:=by rfl)
  (hf:X.fn x=true ∨ X.env.scope.names.lookup x=some .local:=by first | exact .inl rfl | exact .inr rfl | assumption):PSD X (.Assign [.Name x pos'] e pos) (qU fa (jA i)):=by
 with_unfolding_all
  refine PS.imp (aeE hN hi hx he hs hf) fun D σ H ⟨ρ,o,en,q,k⟩=>?_
  cases h1:fa ρ with
  | none=>simp [qU,h1] at q
  | some d=>
   have:Out.nx (ρ.set i (some d))=o:=by simpa [qU,h1,jA] using q
   subst this
   exact ⟨ρ,d,en,h1,fun v H1 s1 r1=>k _ H1 s1 ((en.mono s1).set r1)⟩
noncomputable def alb (K:PySem.W.Frag) (J:It) (ds:List PyData) (H0:Hp):Prop:=∀ i H,jQ H0 H->(i < ds.length->J.go i H)/\(ds.length<=i->J.stop i H)/\∀ x H',J.yld i H x H'->jq H H'/\∀ d,ds[i]?=some d->Rep K H' d x
noncomputable def tDI (K:PySem.W.Frag) (fi:Rho->Option (List PyData)):TI:=fun σ H R=>∃ ρ ds,EnvR K H ρ σ/\fi ρ=some ds/\∀ J H',jq H H'->alb K J ds H'->R J H'
@[irreducible] noncomputable def PID (X:Cx) (tg src:Expr) (fi:Rho->Option (List PyData)):Prop:=PI X tg src (tDI X.K fi)
theorem PI.imp {t t':TI} (h:PI X tg src t) (hi:∀ σ H R,t' σ H R->t σ H R):PI X tg src t':=fun pins s σ H R I q=>h pins s σ H R I (hi σ H R q)
noncomputable def JW:PyData->Option (List PyData)
 | .list ds=>some ds
 | _=>none
noncomputable def aeP:PyData->Option (List PyData)
 | .tuple ds=>some ds
 | _=>none
noncomputable def itL (fa:Rho->Option PyData):Rho->Option (List PyData):=fun ρ=>(fa ρ).bind JW
noncomputable def itT (fa:Rho->Option PyData):Rho->Option (List PyData):=fun ρ=>(fa ρ).bind aeP
theorem Jt (h:PD X e fa):PID X tg e (itL fa):=by
 with_unfolding_all
  refine PI.imp (anc h) fun σ H R ⟨ρ,ds,en,q,k⟩=>?_
  cases h1:fa ρ with
  | none=>simp [itL,h1] at q
  | some d=>
   cases d with
   | list es=>
    have:es=ds:=by simpa [itL,h1,JW] using q
    subst this
    refine ⟨ρ,_,en,h1,fun v H1 s1 r1=>?_⟩
    obtain ⟨a,xs,e1,e2,e3⟩:=r1
    refine ⟨a,e1,⟨xs,SqL.of e2⟩,k _ H1 s1 fun i H2 s2=>⟨fun hi=>?_,fun hi=>?_,fun x H' y=>?_⟩⟩
    ·exact ⟨xs,xs[i]'(by rw [e3.length]; exact hi),SqL.of (s2 _ _ e2 fun _ z=>nomatch z),by simp [e3.length,hi]⟩
    ·exact ⟨xs,SqL.of (s2 _ _ e2 fun _ z=>nomatch z),by rw [e3.length]; exact hi⟩
    ·obtain ⟨z1,z2⟩:=y
     subst z1
     refine ⟨jq.refl _,fun d hd=>?_⟩
     obtain ⟨y,e4,e5⟩:=(Reps.monoE s2 _ _ e3).get hd
     have:=z2 xs (SqL.of (s2 _ _ e2 fun _ z=>nomatch z))
     rw [e4] at this; cases this
     exact e5
   | _=>simp [itL,h1,JW] at q
theorem aiF (h:PD X e fa):PID X tg e (itT fa):=by
 with_unfolding_all
  refine PI.imp (apA h) fun σ H R ⟨ρ,ds,en,q,k⟩=>?_
  cases h1:fa ρ with
  | none=>simp [itT,h1] at q
  | some d=>
   cases d with
   | tuple es=>
    have:es=ds:=by simpa [itT,h1,aeP] using q
    subst this
    refine ⟨ρ,_,en,h1,fun v H1 s1 r1=>?_⟩
    obtain ⟨a,xs,e1,e2,e3⟩:=r1
    refine ⟨a,e1,⟨xs,e2⟩,k _ H1 s1 fun i H2 s2=>⟨fun hi=>?_,fun hi=>?_,fun x H' y=>?_⟩⟩
    ·exact ⟨xs,xs[i]'(by rw [e3.length]; exact hi),jQ.tup s2 e2,by simp [e3.length,hi]⟩
    ·exact ⟨xs,jQ.tup s2 e2,by rw [e3.length]; exact hi⟩
    ·obtain ⟨z1,z2⟩:=y
     subst z1
     refine ⟨jq.refl _,fun d hd=>?_⟩
     obtain ⟨y,e4,e5⟩:=(Reps.monoE s2 _ _ e3).get hd
     have:=z2 xs (jQ.tup s2 e2)
     rw [e4] at this; cases this
     exact e5
   | _=>simp [itT,h1,aeP] at q
noncomputable def zQ (lo:Int) (n:Nat):List PyData:=(List.range n).map fun (k:Nat)=>PyData.int (lo+(k:Int))
noncomputable def acE (ds:List PyData):Option (List PyData):=match ds with
 | [.int j]=>if -(2 ^ 62)<=j/\j < 2 ^ 62 then some (zQ 0 j.toNat) else none
 | _=>none
theorem aeQ {K:PySem.W.Frag}{H:Hp} (lo:Int) (n:Nat):alb K (Itr lo n) (zQ lo n) H:=fun i H2 s2=>by
 have hl:(zQ lo n).length=n:=by simp [zQ]
 refine ⟨fun hi=>by rw [hl] at hi; exact hi,fun hi=>by rw [hl] at hi; exact hi,fun x H' y=>?_⟩
 obtain ⟨z1,z2⟩:=y
 subst z1
 refine ⟨jq.refl _,fun d hd=>?_⟩
 have hi:i < n:=by
  have:=(List.getElem?_eq_some_iff.mp hd).1
  rw [hl] at this; exact this
 have:d= .int (lo+i):=by
  simp [zQ,hi] at hd
  exact hd.symm
 subst this
 exact z2
theorem qD {p pos:Pos}{fr:Rho->Option (List PyData)} (hg:Gl X "range") (hm:X.mg "range"=none) (ha:PAD X [a] fr) (hs:starEach [a] X.env=[(false,eval a X.env)]:=by rfl):PID X tg (.Call (.Name "range" p) [a] [] pos) (fun ρ=>(fr ρ).bind acE):=by
 with_unfolding_all
  refine PI.imp (aa8 hg hm ha hs) fun σ H R ⟨ρ,ds,en,q,k⟩=>?_
  cases h1:fr ρ with
  | none=>simp [h1] at q
  | some as=>
   have q':acE as=some ds:=by simpa [h1] using q
   refine ⟨ρ,as,en,h1,fun vs H1 s1 r1=>?_⟩
   unfold acE at q'
   split at q'
   ·rename_i j
    split at q'
    ·rename_i hj
     cases q'
     obtain ⟨x,r,e1,e2,e3⟩:=r1
     cases (show x=V.int j from e2)
     cases (show r=[] from e3)
     exact ⟨j,e1,hj.1,hj.2,k _ H1 s1 (aeQ 0 j.toNat)⟩
    ·cases q'
   ·cases q'
noncomputable def jO (ga:PyData->Rho->Option Rho) (F:Rho->Option Out):List PyData->Rho->Option Out
 | [],ρ=>some (.nx ρ)
 | d::r,ρ=>(ga d ρ).bind fun ρ1=>(F ρ1).bind fun o=>match o with
  | .nx ρ2=>jO ga F r ρ2
  | .ct ρ2=>jO ga F r ρ2
  | .bk ρ2=>some (.nx ρ2)
  | .rt d=>some (.rt d)
noncomputable def zR (fi:Rho->Option (List PyData)) (ga:PyData->Rho->Option Rho) (F:Rho->Option Out):Rho->Option Out:=fun ρ=>(fi ρ).bind fun ds=>jO ga F ds ρ
theorem zw {body:List Stmt}{fi:Rho->Option (List PyData)}{ga:PyData->Rho->Option Rho} (hp:PassesOwn (model X.prog X.w) X.A X.env X.xe) (hc:X.calm=true) (hi:PID X tg src fi) (hg:PGD X tg ga) (hb:Z2 X body F)
  (hs:∀ x,foldedSetIterable src X.env x=pure x:=by intro _; rfl):PSD X (.For tg src body [] pos) (zR fi ga F):=by
 with_unfolding_all
  refine PS.imp (aeG hp hc hi hg hb hs) fun D σ H ⟨ρ,o,en,q,k⟩=>?_
  cases h1:fi ρ with
  | none=>simp [zR,h1] at q
  | some ds=>
   have q':jO ga F ds ρ=some o:=by simpa [zR,h1] using q
   refine ⟨ρ,ds,en,h1,fun J H1 s1 Y=>?_⟩
   refine ⟨fun i m σ H2=>m=ds.length - i/\i<=ds.length/\jq H1 H2/\∃ ρ2,EnvR X.K H2 ρ2 σ/\jO ga F (ds.drop i) ρ2=some o,⟨ds.length,by simp,Nat.zero_le _,jq.refl _,ρ,en.mono s1,by simpa using q'⟩,?_⟩
   rintro i m σ2 H2 ⟨rfl,hi,s2,ρ2,en2,q2⟩
   obtain ⟨g1,g2,g3⟩:=Y i H2 (jq.e s2)
   by_cases hlt:i < ds.length
   ·right
    have hd:ds.drop i=ds[i]::ds.drop (i+1):=List.drop_eq_getElem_cons hlt
    rw [hd] at q2
    refine ⟨g1 hlt,fun σ3 H3=>jq H1 H3/\∃ ρ3,EnvR X.K H3 ρ3 σ3/\jO ga F (ds.drop (i+1)) ρ3=some o,fun σ3 H3 ⟨a1,ρ3,a2,a3⟩=>⟨ds.length - (i+1),by omega,rfl,hlt,a1,ρ3,a2,a3⟩,fun x H3 y=>?_⟩
    obtain ⟨s3,r3⟩:=g3 x H3 y
    have r3':=r3 ds[i] (by simp [hlt])
    cases h4:ga ds[i] ρ2 with
    | none=>simp [jO,h4] at q2
    | some ρ4=>
     refine ⟨ρ2,ds[i],ρ4,en2.mono s3,r3',h4,fun σ5 H5 s5 en5=>?_⟩
     cases h5:F ρ4 with
     | none=>simp [jO,h4,h5] at q2
     | some p=>
      refine ⟨ρ4,p,en5,h5,?_⟩
      have s15:=s2.trans (s3.trans s5)
      cases p with
      | nx ρ6=>exact fun σ6 H6 s6 en6=>⟨s15.trans s6,ρ6,en6,by simpa [jO,h4,h5] using q2⟩
      | ct ρ6=>exact fun σ6 H6 s6 en6=>⟨s15.trans s6,ρ6,en6,by simpa [jO,h4,h5] using q2⟩
      | bk ρ6=>
       have:Out.nx ρ6=o:=by simpa [jO,h4,h5] using q2
       subst this
       exact fun σ6 H6 s6 en6=>k σ6 H6 (s1.trans (s15.trans s6)) en6
      | rt d=>
       have:Out.rt d=o:=by simpa [jO,h4,h5] using q2
       subst this
       exact fun v H6 s6 r6=>k v H6 (s1.trans (s15.trans s6)) r6
   ·left
    have he:i=ds.length:=by omega
    have hn:ds.drop i=[]:=by rw [he]; simp
    rw [hn] at q2
    have:Out.nx ρ2=o:=by simpa [jO] using q2
    subst this
    exact ⟨g2 (by omega),k σ2 H2 (s1.trans s2) en2⟩
noncomputable def JH (cap:List (Option Nat)) (ρ:Rho):Rho:=cap.map fun o=>o.bind fun i=>(ρ[i]?).join
theorem EnvR.cap {K:PySem.W.Frag}{H:Hp}{ρ:Rho}{σ:St} (e:EnvR K H ρ σ) (cap:List (Option Nat)):EnvR K H (JH cap ρ) (abX cap σ):=by
 refine ⟨by simp [JH,abX],fun j d q=>?_⟩
 unfold JH at q
 unfold abX
 rw [List.getElem?_map] at q ⊢
 cases h1:cap[j]? with
 | none=>rw [h1] at q; cases q
 | some o=>
  rw [h1] at q
  cases o with
  | none=>cases q
  | some i=>
   have q':lkp i ρ=some d:=by simpa [lkp] using q
   obtain ⟨v,e1,e2⟩:=e.at' i d (zg q')
   exact ⟨v,by simp [e1],e2⟩
noncomputable def jS (ga:PyData->Rho->Option Rho) (ft:Rho->Option Bool) (fe:Rho->Option PyData):List PyData->Rho->Option (List PyData)
 | [],_=>some []
 | d::r,τ=>(ga d τ).bind fun τ2=>(ft τ2).bind fun b=>if b=true then (fe τ2).bind fun y=>(jS ga ft fe r τ2).map fun ys=>y::ys else jS ga ft fe r τ2
noncomputable def j9 (fi:Rho->Option (List PyData)) (cap:List (Option Nat)) (ga:PyData->Rho->Option Rho) (ft:Rho->Option Bool) (fe:Rho->Option PyData):Rho->Option PyData:=fun ρ=>(fi ρ).bind fun ds=>
 if few ds=true then (jS ga ft fe ds (JH cap ρ)).map PyData.list else none
@[irreducible] noncomputable def anA (X:Cx) (ts:List Expr) (f:Rho->Option Bool):Prop:=PTs X ts (tDT X.K f)
noncomputable def zW (_:Rho):Option Bool:=some true
theorem qH:anA X [] zW:=by
 with_unfolding_all exact (fun pins s σ H Q I ⟨ρ,b,en,q,k⟩=>by cases q; exact ant pins s σ H Q I (k H (jq.refl H)))
theorem acF {ft:Rho->Option Bool} (h:PTD X c ft):anA X [c] ft:=by
 with_unfolding_all exact (anu h)
theorem zn {el:Expr}{ts:List Expr}{sc:Scope}{ps:Pos}{fi:Rho->Option (List PyData)}{ga:PyData->Rho->Option Rho}{ft:Rho->Option Bool}{fe:Rho->Option PyData} (N':List Str) (cap:List (Option Nat)) (hc:X.calm=true) (hi:PID X tg src fi) (ok:CompOk X sc N' cap)
  (body:∀ cl C s0 H0 fp pn,PGD (blk X N' sc cl C s0 H0 fp pn) tg ga/\anA (blk X N' sc cl C s0 H0 fp pn) ts ft/\PD (blk X N' sc cl C s0 H0 fp pn) el fe)
  (hs:∀ x,foldedSetIterable src X.env x=pure x:=by intro _; rfl):PD X (.ListComp el [⟨tg,src,ts,0⟩] sc ps) (j9 fi cap ga ft fe):=by
 with_unfolding_all
  refine PE.imp (anv (g:=tDG X.K ga) (tt:=tDT X.K ft) (te:=tD X.K fe) hc hi ok (fun cl C s0 H0 fp pn=>body cl C s0 H0 fp pn) hs) fun σ H Q ⟨ρ,d,en,q,k⟩=>?_
  cases h1:fi ρ with
  | none=>simp [j9,h1] at q
  | some ds=>
   by_cases hf:few ds=true
   ·cases h2:jS ga ft fe ds (JH cap ρ) with
    | none=>simp [j9,h1,hf,h2] at q
    | some ys=>
     have:PyData.list ys=d:=by simpa [j9,h1,hf,h2] using q
     subst this
     refine ⟨ρ,ds,en,h1,fun J H1 s1 Y=>?_⟩
     refine ⟨fun i m τ us H2=>m=ds.length - i/\i<=ds.length/\jq H1 H2/\us.length<=i/\∃ ρ2 zs ws,EnvR X.K H2 ρ2 τ/\Reps X.K H2 zs us/\jS ga ft fe (ds.drop i) ρ2=some ws/\ys=zs++ws,
      ⟨ds.length,by simp,Nat.zero_le _,jq.refl _,Nat.le_refl _,JH cap ρ,[],ys,(en.mono s1).cap cap,rfl,by simpa using h2,rfl⟩,?_⟩
     rintro i m τ us H2 ⟨rfl,hi',s2,hu,ρ2,zs,ws,en2,r2,q2,ey⟩
     have hsm:us.length < sizeLine:=Nat.lt_of_le_of_lt (Nat.le_trans hu hi') (Nat.lt_of_lt_of_le (by simpa [few] using hf) (by rw [sizeLine_eq]; decide:1000000<=sizeLine))
     obtain ⟨g1,g2,g3⟩:=Y i H2 (jq.e s2)
     refine ⟨hsm,?_⟩
     by_cases hlt:i < ds.length
     ·right
      have hd:ds.drop i=ds[i]::ds.drop (i+1):=List.drop_eq_getElem_cons hlt
      rw [hd] at q2
      refine ⟨g1 hlt,fun x H3 y=>?_⟩
      obtain ⟨s3,r3⟩:=g3 x H3 y
      have r3':=r3 ds[i] (by simp [hlt])
      cases h4:ga ds[i] ρ2 with
      | none=>simp [jS,h4] at q2
      | some ρ4=>
       refine ⟨ρ2,ds[i],ρ4,en2.mono s3,r3',h4,fun σ5 H5 s5 en5=>?_⟩
       cases h5:ft ρ4 with
       | none=>simp [jS,h4,h5] at q2
       | some b=>
        refine ⟨ρ4,b,en5,h5,fun H6 s6=>?_⟩
        have s26:=s3.trans (s5.trans s6)
        cases b with
        | false=>
         refine aq8 ?_
         exact ⟨ds.length - (i+1),by omega,rfl,hlt,s2.trans s26,by omega,ρ4,zs,ws,en5.mono s6,Reps.mono s26 _ _ r2,by simpa [jS,h4,h5] using q2,ey⟩
        | true=>
         refine aq9 ?_
         cases h6:fe ρ4 with
         | none=>simp [jS,h4,h5,h6] at q2
         | some y=>
          cases h7:jS ga ft fe (ds.drop (i+1)) ρ4 with
          | none=>simp [jS,h4,h5,h6,h7] at q2
          | some ws'=>
           have hw:y::ws'=ws:=by simpa [jS,h4,h5,h6,h7] using q2
           refine ⟨ρ4,y,en5.mono s6,h6,fun v H7 s7 r7=>?_⟩
           refine ⟨ds.length - (i+1),by omega,rfl,hlt,s2.trans (s26.trans s7),by rw [List.length_append]; simp; omega,ρ4,zs++[y],ws',(en5.mono s6).mono s7,(Reps.mono (s26.trans s7) _ _ r2).append ⟨v,[],rfl,r7,rfl⟩,h7,?_⟩
           rw [ey,←hw]; simp
     ·left
      have he:i=ds.length:=by omega
      have hn:ds.drop i=[]:=by rw [he]; simp
      rw [hn] at q2
      have hw:[]=ws:=by simpa [jS] using q2
      subst hw
      have ey':ys=zs:=by simpa using ey
      subst ey'
      exact ⟨g2 (by omega),fun l hl=>k _ _ (s1.trans (s2.trans (jC hl))) ⟨l,us,rfl,jr,Reps.mono (jC hl) _ _ r2⟩⟩
   ·simp [j9,h1,hf] at q
noncomputable def Pur (K:PySem.W.Frag) (n:Nat) (g:List PyData->Option PyData):Sp:=fun vs H Q _=>∃ ds d,ds.length=n/\Reps K H ds vs/\g ds=some d/\∀ v H',jq H H'->Rep K H' d v->Q v H'
noncomputable def jB (g:List PyData->Option PyData) (fr:Rho->Option (List PyData)):Rho->Option PyData:=fun ρ=>(fr ρ).bind g
theorem anB {k n:Nat}{f:Addr}{fd:FuncData}{ps:List Str}{g:List PyData->Option PyData}{x:Str}{p:Pos}{fr:Rho->Option (List PyData)} (FO:FnOk X.prog X.w X.K X.mg X.base CX0 k f fd ps (Pur X.K n g)) (hr:Room k X.A) (hm:X.mg x=some (.ref f)) (hk:PySem.W.keepIn X.K (.ref f)=true)
  (hb:QZ X.K fd ps []) (hn:(e::es).length=n) (ha:PAD X (e::es) fr) (hl:∀ ρ ds,fr ρ=some ds->ds.length=(e::es).length) (hg:Gl X x:=by rfl) (hdb:(x == ("__debug__":Str))=false:=by decide) (he:starEach (e::es) X.env=(false,eval e X.env)::starEach es X.env:=by rfl)
  (hpl:(backTo pos (starEach es X.env)).any (·.1)=false:=by rfl):PD X (.Call (.Name x p) (e::es) [] pos) (jB g fr):=by
 with_unfolding_all
  refine PE.imp (anj FO hr hg hm hk hb .nil aiA ha hdb he hpl) fun σ H Q ⟨ρ,d,en,q,k⟩=>?_
  cases h1:fr ρ with
  | none=>simp [jB,h1] at q
  | some ds=>
   refine ⟨ρ,ds,en,h1,fun vs H1 s1 r1=>?_⟩
   refine ⟨ds,d,by rw [hl ρ ds h1,hn],by rw [List.append_nil]; exact r1,by simpa [jB,h1] using q,fun v H' s r=>k v H' (s1.trans s) r⟩
noncomputable def Qf (X:Cx) (f:Value) (g:List PyData->Option PyData):Prop:=∃ r,ze X f r/\∀ ds d xs H Q,g ds=some d->Reps X.K H ds xs->(∀ v H',jq H H'->Rep X.K H' d v->Q v H')->r xs H Q
theorem jV {id:String}{g:List PyData->Option PyData}{x:Str}{p:Pos}{fr:Rho->Option (List PyData)} (hc:Qf X (.builtin id) g) (hm:X.mg x=none) (hv:bootBuiltins x=some (.builtin id)) (ha:PAD X (e::es) fr) (hg:Gl X x:=by rfl) (hn:x ≠ "__name__":=by decide) (hdb:(x == ("__debug__":Str))=false:=by decide)
  (he:starEach (e::es) X.env=(false,eval e X.env)::starEach es X.env:=by rfl) (hpl:(backTo pos (starEach es X.env)).any (·.1)=false:=by rfl):PD X (.Call (.Name x p) (e::es) [] pos) (jB g fr):=by
 with_unfolding_all
  obtain ⟨r,h1,h2⟩:=hc
  refine PE.imp (aas h1 hg hm hv ha hn hdb he hpl) fun σ H Q ⟨ρ,d,en,q,k⟩=>?_
  cases h3:fr ρ with
  | none=>simp [jB,h3] at q
  | some ds=>exact ⟨ρ,ds,en,h3,fun vs H1 s1 r1=>h2 ds d vs H1 Q (by simpa [jB,h3] using q) r1 fun v H' s r=>k v H' (s1.trans s) r⟩
theorem abd {T:String}{g:List PyData->Option PyData}{x:Str}{p:Pos}{fr:Rho->Option (List PyData)} (hc:Qf X (.type T) g) (hm:X.mg x=none) (hv:bootBuiltins x=some (.type T)) (ha:PAD X (e::es) fr) (hg:Gl X x:=by rfl) (hn:x ≠ "__name__":=by decide) (hdb:(x == ("__debug__":Str))=false:=by decide)
  (he:starEach (e::es) X.env=(false,eval e X.env)::starEach es X.env:=by rfl) (hpl:(backTo pos (starEach es X.env)).any (·.1)=false:=by rfl):PD X (.Call (.Name x p) (e::es) [] pos) (jB g fr):=by
 with_unfolding_all
  obtain ⟨r,h1,h2⟩:=hc
  refine PE.imp (ajx h1 hg hm hv ha hn hdb he hpl) fun σ H Q ⟨ρ,d,en,q,k⟩=>?_
  cases h3:fr ρ with
  | none=>simp [jB,h3] at q
  | some ds=>exact ⟨ρ,ds,en,h3,fun vs H1 s1 r1=>h2 ds d vs H1 Q (by simpa [jB,h3] using q) r1 fun v H' s r=>k v H' (s1.trans s) r⟩
end
noncomputable def jE (N:List Str) (ds:List PyData):Rho:=ds.map some++List.replicate (N.length - ds.length) none
theorem Zx {K:PySem.W.Frag}{H:Hp}{N:List Str}{ds:List PyData}{vs:List V} (r:Reps K H ds vs):EnvR K H (jE N ds) (L2.zH N vs):=by
 have hl:=r.length
 refine ⟨by simp [jE,L2.zH,hl],fun i d q=>?_⟩
 unfold jE at q
 by_cases hi:i < ds.length
 ·rw [List.getElem?_append_left (by simpa using hi),List.getElem?_map] at q
  cases e:ds[i]? with
  | none=>rw [e] at q; cases q
  | some c=>
   rw [e] at q; cases q
   obtain ⟨x,e1,e2⟩:=r.get e
   refine ⟨x,?_,e2⟩
   unfold L2.zH
   rw [List.getElem?_append_left (by simp; omega),List.getElem?_map,e1]; rfl
 ·rw [List.getElem?_append_right (by simpa using hi),List.getElem?_replicate] at q
  split at q <;> cases q
noncomputable def jw (N:List Str) (n:Nat) (B:Rho->Option Out) (ds:List PyData):Option PyData:=if ds.length=n then match B (jE N ds) with
 | some (.rt d)=>some d
 | some (.nx _)=>some .none
 | _=>none else none
section
variable {P:Program}{w:World}{K:PySem.W.Frag}{mg:Str->Option Value}{base:Heap}
theorem jR {x qual:Str}{st:Stmt}{f:Addr}{fd:FuncData}{N ps:List Str}{k:Nat}{B:Rho->Option Out} (F:Fun K x qual st f fd) (S:FnScope N ps (jf st))
  (body:∀ (cdv:Value) (A:Around) (outer:List Env) (s:Shared) (H:Hp) (E:XK),Room k (A.deeper (envOfC qual (jf st) s.heap.objs.size f cdv))->
   Z2 (Jo CX0 P w K mg base N qual (jf st) f cdv A outer s H E).nox (jK st) B):FnOk P w K mg base CX0 (k+1) f fd ps (Pur K ps.length (jw N ps.length B)):=by
 with_unfolding_all
  refine F.ok S (fun vs H Q E h=>?_) (fun cdv A outer s H vs Q E hr h=>?_)
  ·obtain ⟨ds,d,h1,h2,_⟩:=h
   rw [h2.length]; exact h1
  ·obtain ⟨ds,d,h1,h2,h3,h4⟩:=h
   refine ⟨_,body cdv A outer s H E hr,?_⟩
   unfold jw at h3
   rw [if_pos h1] at h3
   cases hB:B (jE N ds) with
   | none=>rw [hB] at h3; cases h3
   | some o=>
    refine ⟨jE N ds,o,Zx h2,hB,?_⟩
    rw [hB] at h3
    cases o with
    | rt c=>cases h3; exact fun v H' s r=>h4 v H' s r
    | nx ρ=>cases h3; exact fun σ H' s r=>h4 .non H' s rfl
    | bk ρ=>cases h3
    | ct ρ=>cases h3
theorem arf {k n:Nat}{f:Addr}{fd:FuncData}{ps:List Str}{g g':List PyData->Option PyData} (F:FnOk P w K mg base CX0 k f fd ps (Pur K n g)) (h:∀ ds d,ds.length=n->g' ds=some d->g ds=some d):FnOk P w K mg base CX0 k f fd ps (Pur K n g'):=
 F.imp fun vs H Q E ⟨ds,d,h1,h2,h3,h4⟩=>⟨ds,d,h1,h2,h ds d h1 h3,h4⟩
end
section
variable {X:Cx}
noncomputable def arh (K:PySem.W.Frag):R2:=fun x y H Q=>∃ a b ys,x= .ref a/\y= .ref b/\SqT K H a []/\SqT K H b ys/\Q (.ref b) H
theorem anC:OpR X (binaryOp .Add) (arh X.K):=by
 intro pins s σ H x y v u Q I rx ry h
 obtain ⟨a,b,ys,rfl,rfl,ha,hb,q⟩:=h
 cases rx
 cases ry
 obtain ⟨its,r1,p1,_⟩:=I.tuple ha
 obtain ⟨its2,r2,p2,_⟩:=I.tuple hb
 cases r1
 obtain ⟨⟨c1,d1,t1,l1⟩,ho,hc,n,hd⟩:=id p1
 obtain ⟨⟨c2,d2,t2,l2⟩,ho2,hc2,n2,hd2⟩:=id p2
 simp only at hc hd hc2 hd2
 subst hc hd hc2 hd2
 exact concat_meets ⟨_,ho,rfl⟩ ⟨_,ho2,rfl⟩ noFill_tuple_add seq_tuple_add PySem.F.slot_tuple_add PySem.F.entry_tuple_add (PySem.F.args_tuple_add_2 _ _)
  (tuple_addW0 a b _ _ n n2 d1 d2 l1 l2 (by simp)) ⟨ho,ho2,⟨.ref b,H,I,rfl,q⟩⟩
noncomputable def qV:PyData->PyData->Option PyData
 | .int i,.int j=>some (.int (i+j))
 | .list xs,.list ys=>if few (xs++ys)=true then some (.list (xs++ys)) else none
 | .tuple [],.tuple ys=>some (.tuple ys)
 | .tuple (x::xs),.tuple ys=>if few ((x::xs)++ys)=true then some (.tuple ((x::xs)++ys)) else none
 | _,_=>none
theorem jv:OpD X (binaryOp .Add) qV:=by
 refine ⟨_,apE.or (apN.or (anC.or ank)),fun p q d x y H Q h rx ry k=>?_⟩
 unfold qV at h
 split at h
 ·cases h
  cases (show x=_ from rx)
  cases (show y=_ from ry)
  exact .inl ⟨_,_,rfl,rfl,k _ H (jq.refl H) rfl⟩
 ·rename_i xs ys
  split at h
  ·rename_i hf
   cases h
   obtain ⟨a,us,e1,e2,e3⟩:=rx
   obtain ⟨b,ws,e4,e5,e6⟩:=ry
   have hl:us.length+ws.length < 1000000:=by
    rw [e3.length,e6.length]
    simp [few] at hf
    try simp only [List.length_cons]
    omega
   exact .inr (.inl ⟨a,b,us,ws,e1,e4,e2,e5,acD hl,fun p hp=>k _ _ (jC hp) ⟨p,_,rfl,jr,Reps.mono (jC hp) _ _ (e3.append e6)⟩⟩)
  ·cases h
 ·rename_i ys
  cases h
  obtain ⟨a,us,e1,e2,e3⟩:=rx
  cases (show us=[] from e3)
  obtain ⟨b,ws,e4,e5,e6⟩:=ry
  exact .inr (.inr (.inl ⟨a,b,ws,e1,e4,e2,e5,k _ H (jq.refl H) ⟨b,ws,rfl,e5,e6⟩⟩))
 ·rename_i z xs ys
  split at h
  ·rename_i hf
   cases h
   obtain ⟨a,us,e1,e2,e3⟩:=rx
   obtain ⟨b,ws,e4,e5,e6⟩:=ry
   have hl:us.length+ws.length < 1000000:=by
    rw [e3.length,e6.length]
    simp [few] at hf
    try simp only [List.length_cons]
    omega
   refine .inr (.inr (.inr ⟨a,b,us,ws,e1,e4,e2,e5,fun z=>?_,acD hl,fun z=>?_,fun _ p hp=>?_⟩))
   ·have:=e3.length; rw [z] at this; simp at this
   ·subst z
    have:=e6.length
    have hy:ys=[]:=List.length_eq_zero_iff.mp (by simpa using this.symm)
    subst hy
    exact k _ H (jq.refl H) ⟨a,us,rfl,e2,by simpa using e3⟩
   ·exact k _ _ (jC hp) ⟨p,_,rfl,SqT.of jr,Reps.mono (jC hp) _ _ (e3.append e6)⟩
  ·cases h
 ·cases h
noncomputable def abY:PyData->PyData->Option PyData
 | .int i,.int j=>some (.int (i - j))
 | _,_=>none
theorem Zy:OpD X (binaryOp .Sub) abY:=by
 refine ⟨_,apF,fun p q d x y H Q h rx ry k=>?_⟩
 unfold abY at h
 split at h
 ·cases h; cases (show x=_ from rx); cases (show y=_ from ry); exact ⟨_,_,rfl,rfl,k _ H (jq.refl H) rfl⟩
 ·cases h
theorem Reps.rep {K:PySem.W.Frag}{H:Hp}{ds:List PyData}{xs:List V} (h:Reps K H ds xs):∀ (n:Nat),Reps K H (List.replicate n ds).flatten (List.replicate n xs).flatten
 | 0=>rfl
 | n+1=>by rw [List.replicate_succ,List.replicate_succ,List.flatten_cons,List.flatten_cons]; exact h.append (Reps.rep h n)
noncomputable def Ju:PyData->PyData->Option PyData
 | .int i,.int j=>if (-(2 ^ 64) < i/\i < 2 ^ 64) ∨ (-(2 ^ 64) < j/\j < 2 ^ 64) then some (.int (i*j)) else none
 | .list xs,.int k=>if k < 1000/\xs.length < 1000/\-1000 < k then some (.list (List.replicate k.toNat xs).flatten) else none
 | _,_=>none
theorem qv:OpD X (binaryOp .Mult) Ju:=by
 refine ⟨_,apG.or ak2,fun p q d x y H Q h rx ry k=>?_⟩
 unfold Ju at h
 split at h
 ·split at h
  ·rename_i hc
   cases h; cases (show x=_ from rx); cases (show y=_ from ry); exact .inl ⟨_,_,rfl,rfl,hc,k _ H (jq.refl H) rfl⟩
  ·cases h
 ·rename_i xs n
  split at h
  ·rename_i hc
   cases h
   obtain ⟨a,us,e1,e2,e3⟩:=rx
   cases (show y=_ from ry)
   have hl:=e3.length
   have hs:us.length*n.toNat<=sizeLine:=by
    rw [sizeLine_eq]
    have h1:us.length<=1000:=by omega
    have h2:n.toNat<=1000:=by omega
    exact Nat.le_trans (Nat.mul_le_mul h1 h2) (by decide)
   exact .inr ⟨a,n,us,e1,rfl,e2,by omega,by omega,hs,fun p hp=>k _ _ (jC hp) ⟨p,_,rfl,jr,Reps.mono (jC hp) _ _ (Reps.rep e3 n.toNat)⟩⟩
  ·cases h
 ·cases h
noncomputable def acG:PyData->PyData->Option PyData
 | .int i,.int j=>if 0 < j/\j < 1073741824 then some (.int (i / j)) else none
 | _,_=>none
theorem Jv:OpD X (binaryOp .FloorDiv) acG:=by
 refine ⟨_,ane,fun p q d x y H Q h rx ry k=>?_⟩
 unfold acG at h
 split at h
 ·split at h
  ·rename_i hc
   cases h; cases (show x=_ from rx); cases (show y=_ from ry); exact ⟨_,_,rfl,rfl,hc,k _ H (jq.refl H) rfl⟩
  ·cases h
 ·cases h
noncomputable def aeR:PyData->PyData->Option PyData
 | .int i,.int j=>if 0 < j then some (.int (i % j)) else none
 | _,_=>none
theorem Jc:OpD X (binaryOp .Mod) aeR:=by
 refine ⟨_,apH,fun p q d x y H Q h rx ry k=>?_⟩
 unfold aeR at h
 split at h
 ·split at h
  ·rename_i hc
   cases h; cases (show x=_ from rx); cases (show y=_ from ry); exact ⟨_,_,rfl,rfl,hc,k _ H (jq.refl H) rfl⟩
  ·cases h
 ·cases h
noncomputable def okD (d:PyData):Bool:=d.canLay0 && decide (d.depth < 30)
noncomputable def ari (K:PySem.W.Frag) (neg:Bool):R2:=fun x y H Q=>∃ p q,Rep K H p x/\Rep K H q y/\okD p=true/\okD q=true/\Q (.bl (if neg then !PyData.eqv p q else PyData.eqv p q)) H
theorem qW {d:PyData} (h:okD d=true):d.canLay0=true:=by simp [okD] at h; exact h.1
theorem aeS {d:PyData} (h:okD d=true):d.depth < 30:=by simp [okD] at h; exact h.2
theorem apV (hu:X.A.units+64 < cLine):OpR X (compareOp .Eq) (ari X.K false):=by
 intro pins s σ H x y v u Q I rx ry ⟨p,q,h1,h2,h3,h4,k⟩
 obtain ⟨as,ra⟩:=zu I p x v h1 rx (qW h3)
 obtain ⟨bs,rb⟩:=zu I q y u h2 ry (qW h4)
 have d1:=aeS h3
 exact SeqAt.compareEq_reads ra rb (qW h3) (qW h4) (by omega) ⟨.bl _,H,I,rfl,k⟩
theorem apW (hu:X.A.units+64 < cLine):OpR X (compareOp .NotEq) (ari X.K true):=by
 intro pins s σ H x y v u Q I rx ry ⟨p,q,h1,h2,h3,h4,k⟩
 obtain ⟨as,ra⟩:=zu I p x v h1 rx (qW h3)
 obtain ⟨bs,rb⟩:=zu I q y u h2 ry (qW h4)
 have d1:=aeS h3
 exact SeqAt.compareNe_reads ra rb (qW h3) (qW h4) (by omega) ⟨.bl _,H,I,rfl,k⟩
noncomputable def arj (K:PySem.W.Frag):R2:=fun x y H Q=>∃ a b ns,x= .ref a/\y= .ref b/\SqL K H a (List.map V.int ns)/\H b=some (.lst [])/\Q (.bl ns.isEmpty) H
theorem Z5 (h:Heap):∀ (ns:List Int) (us:List Value),jG (List.map V.int ns) us->∃ as,ReadsAll h us (ns.map PyData.int) as
 | [],us,r=>by cases r; exact ⟨_,.nil⟩
 | n::ns,us,r=>by
  cases r with
  | cons r1 r2=>
   obtain ⟨t,rfl⟩:=r1
   obtain ⟨as,ra⟩:=Z5 h ns _ r2
   exact ⟨_,.cons (.int n t) ra⟩
theorem af2:∀ ns:List Int,PyData.canLayAll0 (ns.map PyData.int)=true
 | []=>rfl
 | n::ns=>by simp [PyData.canLayAll0,PyData.canLay0,af2 ns]
theorem anD (hu:X.A.units+64 < cLine):OpR X (compareOp .Eq) (arj X.K):=by
 intro pins s σ H x y v u Q I rx ry ⟨a,b,ns,e1,e2,h1,h2,k⟩
 subst e1; subst e2
 cases rx; cases ry
 obtain ⟨its,rv,⟨o,n,g1,g2,g3,g4⟩,_⟩:=I.list h1
 obtain ⟨as,ra⟩:=Z5 s.heap ns its rv
 obtain ⟨bs,rb⟩:=zu I (.list []) (.ref b) (.ref b) ⟨b,[],rfl,h2,rfl⟩ rfl rfl
 have ra':Reads s.heap (.ref a) (.list (ns.map PyData.int)) (a::as):= .list g1 g2 g4 (by simpa using ra)
 refine SeqAt.compareEq_reads ra' rb (by simpa [PyData.canLay0] using af2 ns) rfl ?_ ⟨.bl _,H,I,rfl,?_⟩
 ·have:(PyData.list []).depth=1:=rfl
  rw [this]; omega
 ·have:PyData.eqv (.list (ns.map PyData.int)) (.list [])=ns.isEmpty:=by cases ns <;> simp [PyData.eqv,PyData.eqvAll]
  rw [this]; exact k
noncomputable def dEq:PyData->PyData->Option PyData
 | .dict kvs,.list []=>if zY kvs=true then some (.bool kvs.isEmpty) else none
 | p,q=>if okD p=true/\okD q=true then some (.bool (PyData.eqv p q)) else none
theorem Q5 (hu:X.A.units+64 < cLine):OpD X (compareOp .Eq) dEq:=by
 refine ⟨_,(anD hu).or (apV hu),fun p q d x y H Q h rx ry k=>?_⟩
 unfold dEq at h
 split at h
 ·split at h
  ·rename_i hs
   cases h
   obtain ⟨a,ns,e1,e2,e3⟩:=rx.scrOut hs
   obtain ⟨b,ws,e4,e5,e6⟩:=ry
   cases (show ws=[] from e6)
   refine .inl ⟨a,b,ns,e1,e4,e2,e5,?_⟩
   have:ns.isEmpty=(ns.map fun n=>(PyData.int n,PyData.none)).isEmpty:=by simp
   subst e3
   rw [this]
   exact k _ H (jq.refl H) rfl
  ·cases h
 ·split at h
  ·rename_i hc
   cases h
   exact .inr ⟨p,q,rx,ry,hc.1,hc.2,k _ H (jq.refl H) rfl⟩
  ·cases h
noncomputable def dNe:PyData->PyData->Option PyData:=fun p q=>if okD p=true/\okD q=true then some (.bool (!PyData.eqv p q)) else none
theorem JX (hu:X.A.units+64 < cLine):OpD X (compareOp .NotEq) dNe:=by
 refine ⟨_,apW hu,fun p q d x y H Q h rx ry k=>?_⟩
 unfold dNe at h
 split at h
 ·rename_i hc
  cases h
  exact ⟨p,q,rx,ry,hc.1,hc.2,k _ H (jq.refl H) rfl⟩
 ·cases h
noncomputable def ark (K:PySem.W.Frag) (neg:Bool):R2:=fun x y H Q=>∃ p ds,Rep K H p x/\(Rep K H (.list ds) y ∨ Rep K H (.tuple ds) y)/\okD p=true/\okD (.list ds)=true/\Q (.bl (if neg then !(ds.any fun z=>PyData.eqv z p) else ds.any fun z=>PyData.eqv z p)) H
theorem apX (hu:X.A.units+64 < cLine):OpR X (compareOp .In) (ark X.K false):=by
 intro pins s σ H x y v u Q I rx ry ⟨p,ds,h1,h2,h3,h4,k⟩
 obtain ⟨as,ra⟩:=zu I p x v h1 rx (qW h3)
 have d1:=aeS h3
 have hc:PyData.canLayAll0 ds=true:=by simpa [PyData.canLay0] using qW h4
 rcases h2 with h2 | h2
 ·obtain ⟨bs,rb⟩:=zu I (.list ds) y u h2 ry (qW h4)
  exact SeqAt.in_list_reads rb ra hc (qW h3) (by omega) ⟨.bl _,H,I,rfl,k⟩
 ·obtain ⟨bs,rb⟩:=zu I (.tuple ds) y u h2 ry (by simpa [PyData.canLay0] using hc)
  exact SeqAt.in_tuple_reads rb ra hc (qW h3) (by omega) ⟨.bl _,H,I,rfl,k⟩
noncomputable def dIn (neg:Bool):PyData->PyData->Option PyData:=fun p q=>match q with
 | .list ds=>if okD p=true/\okD (.list ds)=true then some (.bool (if neg then !(ds.any fun z=>PyData.eqv z p) else ds.any fun z=>PyData.eqv z p)) else none
 | .tuple ds=>if okD p=true/\okD (.list ds)=true then some (.bool (if neg then !(ds.any fun z=>PyData.eqv z p) else ds.any fun z=>PyData.eqv z p)) else none
 | _=>none
theorem arl {neg:Bool}{p q d:PyData}{x y:V}{H:Hp}{Q:VK}{K:PySem.W.Frag} (h:dIn neg p q=some d) (rx:Rep K H p x) (ry:Rep K H q y) (k:∀ v H',jq H H'->Rep K H' d v->Q v H'):ark K neg x y H Q:=by
 unfold dIn at h
 split at h
 ·split at h
  ·rename_i ds hc
   cases h
   exact ⟨p,ds,rx,.inl ry,hc.1,hc.2,k _ H (jq.refl H) rfl⟩
  ·cases h
 ·split at h
  ·rename_i ds hc
   cases h
   exact ⟨p,ds,rx,.inr ry,hc.1,hc.2,k _ H (jq.refl H) rfl⟩
  ·cases h
 ·cases h
theorem apY (hu:X.A.units+64 < cLine):OpD X (compareOp .In) (dIn false):=⟨_,apX hu,fun p q d x y H Q h rx ry k=>arl h rx ry k⟩
noncomputable def Qg (f:Int->Int->Bool):PyData->PyData->Option PyData
 | .int i,.int j=>some (.bool (f i j))
 | _,_=>none
theorem ahz {f:Int->Int->Bool}{p q d:PyData}{x y:V}{H:Hp}{Q:VK}{K:PySem.W.Frag} (h:Qg f p q=some d) (rx:Rep K H p x) (ry:Rep K H q y) (k:∀ v H',jq H H'->Rep K H' d v->Q v H'):rI0 (fun i j=> .bl (f i j)) x y H Q:=by
 unfold Qg at h
 split at h
 ·cases h; cases (show x=_ from rx); cases (show y=_ from ry); exact ⟨_,_,rfl,rfl,k _ H (jq.refl H) rfl⟩
 ·cases h
theorem ahA:OpD X (compareOp .Lt) (Qg fun i j=>decide (i < j)):=⟨_,aq2,fun p q d x y H Q h rx ry k=>ahz h rx ry k⟩
theorem aeT:OpD X (compareOp .LtE) (Qg fun i j=>decide (i<=j)):=⟨_,aq3,fun p q d x y H Q h rx ry k=>ahz h rx ry k⟩
theorem alc:OpD X (compareOp .GtE) (Qg fun i j=>decide (j<=i)):=⟨_,aq4,fun p q d x y H Q h rx ry k=>ahz h rx ry k⟩
noncomputable def chn (g g':PyData->PyData->Option PyData) (fa fb fc:Rho->Option PyData):Rho->Option PyData:=fun ρ=>(fa ρ).bind fun x=>(fb ρ).bind fun y=>(g x y).bind fun z=>(asB z).bind fun t=>if t=true then (fc ρ).bind fun w=>g' y w else some (.bool false)
variable {a b c e:Expr}{fa fb fc:Rho->Option PyData}{pos:Pos}
theorem apc {g g':PyData->PyData->Option PyData}{K:PySem.W.Frag}{r r':R2} (hr:∀ p q d x y H Q,g p q=some d->Rep K H p x->Rep K H q y->(∀ v H',jq H H'->Rep K H' d v->Q v H')->r x y H Q)
  (hr':∀ p q d x y H Q,g' p q=some d->Rep K H p x->Rep K H q y->(∀ v H',jq H H'->Rep K H' d v->Q v H')->r' x y H Q) {σ:St} {H:Hp} {Q:VK} (h:tD K (chn g g' fa fb fc) σ H Q):ahr r r' (tD K fa) (tD K fb) (tD K fc) σ H Q:=by
 obtain ⟨ρ,d,en,h,k⟩:=h
 unfold chn at h
 cases ha:fa ρ with
 | none=>rw [ha] at h; cases h
 | some p=>
  cases hb:fb ρ with
  | none=>rw [ha,hb] at h; cases h
  | some q=>
   rw [ha,hb] at h
   cases hg:g p q with
   | none=>simp [hg] at h
   | some z=>
    cases ht:asB z with
    | none=>simp [hg,ht] at h
    | some t=>
     have hz:=Q1 ht
     subst hz
     refine ⟨ρ,p,en,ha,fun x H1 s1 r1=>⟨ρ,q,en.mono s1,hb,fun y H2 s2 r2=>?_⟩⟩
     refine hr p q _ x y H2 _ hg (Rep.mono s2 p x r1) r2 fun v H3 s3 r3=>⟨t,r3,?_⟩
     have s13:=s1.trans (s2.trans s3)
     cases t with
     | false=>
      rw [if_neg Bool.false_ne_true]
      have hd:PyData.bool false=d:=by simpa [hg,asB] using h
      subst hd
      exact k _ H3 s13 rfl
     | true=>
      rw [if_pos rfl]
      cases hc:fc ρ with
      | none=>simp [hg,asB,hc] at h
      | some w=>
       refine ⟨ρ,w,en.mono s13,hc,fun z H4 s4 r4=>?_⟩
       exact hr' q w d y z H4 Q (by simpa [hg,asB,hc] using h) (Rep.mono (s3.trans s4) q y r2) r4 fun v H5 s5 r5=>k v H5 (s13.trans (s4.trans s5)) r5
theorem ald {op op':CmpOp}{g g':PyData->PyData->Option PyData} (ho:OpD X (compareOp op) g) (ho':OpD X (compareOp op') g') (ha:PD X a fa) (hb:PD X b fb) (hc:PD X c fc)
  (hm:lastMarks [op,op'] [b,c]=false:=by with_unfolding_all rfl):PD X (.Compare a [op,op'] [b,c] pos) (chn g g' fa fb fc):=by
 with_unfolding_all
  obtain ⟨r,h1,h2⟩:=ho
  obtain ⟨r',h3,h4⟩:=ho'
  exact PE.imp (akW h1 h3 ha hb hc hm) fun σ H Q h=>apc h2 h4 h
theorem ajD {op op':CmpOp}{g g':PyData->PyData->Option PyData} (ho:OpD X (compareOp op) g) (ho':OpD X (compareOp op') g') (ha:PD X a fa) (hb:PD X b fb) (hc:PD X c fc)
  (hm:lastMarks [op,op'] [b,c]=false:=by with_unfolding_all rfl):PTD X (.Compare a [op,op'] [b,c] pos) (tst (chn g g' fa fb fc)):=by
 with_unfolding_all
  obtain ⟨r,h1,h2⟩:=ho
  obtain ⟨r',h3,h4⟩:=ho'
  refine PT.imp (akX h1 h3 ha hb hc hm) fun σ H Q ⟨ρ,t,en,h,k⟩=>?_
  cases hd:chn g g' fa fb fc ρ with
  | none=>simp [tst,hd] at h
  | some d=>
   have ht:d= .bool t:=Q1 (by simpa [tst,hd] using h)
   subst ht
   exact apc h2 h4 ⟨ρ,_,en,hd,fun v H' s r=>⟨t,r,k H' s⟩⟩
noncomputable def dIx:PyData->PyData->Option PyData
 | .list ds,.int i=>if ds.length < 1000000 then atI ds i else none
 | .tuple ds,.int i=>if ds.length < 1000000 then atI ds i else none
 | .dict kvs,.int i=>if kvs.length < 1000000/\zY kvs=true then (atI kvs i).map (·.1) else none
 | _,_=>none
theorem aiG {K:PySem.W.Frag}{H:Hp}{ds:List PyData}{xs:List V}{i:Int}{d:PyData} (r:Reps K H ds xs) (h:atI ds i=some d):∃ x,atI xs i=some x/\Rep K H d x:=by
 have hl:=r.length
 unfold atI at h ⊢
 rw [hl]
 cases e:ixN ds.length i with
 | none=>rw [e] at h; cases h
 | some j=>
  rw [e] at h
  obtain ⟨x,e1,e2⟩:=r.get (show ds[j]?=some d from h)
  exact ⟨x,e1,e2⟩
noncomputable def IxD (X:Cx) (g:PyData->PyData->Option PyData):Prop:=∃ r,IxR X r/\∀ p q d x y H Q,g p q=some d->Rep X.K H p x->Rep X.K H q y->(∀ v H',jq H H'->Rep X.K H' d v->Q v H')->r x y H Q
theorem ixd:IxD X dIx:=by
 refine ⟨_,anm.or apL,fun p q d x y H Q h rx ry k=>?_⟩
 unfold dIx at h
 split at h
 ·split at h
  ·obtain ⟨a,us,e1,e2,e3⟩:=rx
   cases (show y=_ from ry)
   obtain ⟨z,g1,g2⟩:=aiG e3 h
   exact .inl ⟨a,us,_,z,e1,rfl,SqL.of e2,g1,k z H (jq.refl H) g2⟩
  ·cases h
 ·split at h
  ·obtain ⟨a,us,e1,e2,e3⟩:=rx
   cases (show y=_ from ry)
   obtain ⟨z,g1,g2⟩:=aiG e3 h
   exact .inr ⟨a,us,_,z,e1,rfl,e2,g1,k z H (jq.refl H) g2⟩
  ·cases h
 ·split at h
  ·rename_i hs
   obtain ⟨a,ns,e1,e2,e3⟩:=rx.scrOut hs.2
   cases (show y=_ from ry)
   subst e3
   rename_i i
   unfold atI at h
   rw [List.length_map] at h
   cases e:ixN ns.length i with
   | none=>rw [e] at h; cases h
   | some j=>
    rw [e] at h
    have h':((ns.map fun n=>(PyData.int n,PyData.none))[j]?).map (·.1)=some d:=h
    rw [List.getElem?_map] at h'
    cases e4:ns[j]? with
    | none=>rw [e4] at h'; cases h'
    | some n=>
     rw [e4] at h'
     cases h'
     refine .inl ⟨a,List.map V.int ns,i,.int n,e1,rfl,e2,?_,k _ H (jq.refl H) rfl⟩
     unfold atI
     rw [List.length_map,e]
     show (List.map V.int ns)[j]?=_
     rw [List.getElem?_map,e4]; rfl
  ·cases h
 ·cases h
theorem jT (ha:PD X a fa) (hb:PD X b fb) (hs:aiy b:=by intro _ _; rfl):PD X (.Subscript a b pos) (op2 dIx fa fb):=by
 with_unfolding_all
  obtain ⟨r,h1,h2⟩:=ixd (X:=X)
  exact PE.imp (aq7 h1 ha hb hs) fun σ H Q h=>anx h2 h
noncomputable def abZ (ds:List PyData):Option PyData:=match ds with
 | [.list xs]=>some (.int xs.length)
 | [.tuple xs]=>some (.int xs.length)
 | [.dict xs]=>if zY xs=true then some (.int xs.length) else none
 | _=>none
theorem JY:Qf X (.builtin "len") abZ:=by
 refine ⟨_,aeI,fun ds d xs H Q h r k=>?_⟩
 unfold abZ at h
 split at h
 ·cases h
  obtain ⟨x,q,e1,e2,e3⟩:=r
  cases (show q=[] from e3)
  obtain ⟨a,us,g1,g2,g3⟩:=e2
  subst g1
  exact ⟨a,us,e1,.inl (SqL.of g2),k _ H (jq.refl H) (by show _=_; rw [g3.length])⟩
 ·cases h
  obtain ⟨x,q,e1,e2,e3⟩:=r
  cases (show q=[] from e3)
  obtain ⟨a,us,g1,g2,g3⟩:=e2
  subst g1
  exact ⟨a,us,e1,.inr g2,k _ H (jq.refl H) (by show _=_; rw [g3.length])⟩
 ·split at h
  ·rename_i hs
   cases h
   obtain ⟨x,q,e1,e2,e3⟩:=r
   cases (show q=[] from e3)
   obtain ⟨a,ns,g1,g2,g3⟩:=e2.scrOut hs
   subst g1; subst g3
   exact ⟨a,_,e1,.inl g2,k _ H (jq.refl H) (by show _=_; simp)⟩
  ·cases h
 ·cases h
noncomputable def ale (ds:List PyData):Option PyData:=match ds with
 | [.int i,.int j]=>some (.int (if j > i then j else i))
 | _=>none
noncomputable def adZ (ds:List PyData):Option PyData:=match ds with
 | [.int i,.int j]=>some (.int (if j < i then j else i))
 | _=>none
theorem anE (hc:X.calm=true):Qf X (.builtin "max") ale:=by
 refine ⟨_,aju hc,fun ds d xs H Q h r k=>?_⟩
 unfold ale at h
 split at h
 ·cases h
  obtain ⟨x,q,e1,e2,y,q',e3,e4,e5⟩:=r
  cases (show x=_ from e2); cases (show y=_ from e4); cases (show q'=[] from e5); subst e3
  exact ⟨_,_,e1,k _ H (jq.refl H) rfl⟩
 ·cases h
theorem aiH (hc:X.calm=true):Qf X (.builtin "min") adZ:=by
 refine ⟨_,ajv hc,fun ds d xs H Q h r k=>?_⟩
 unfold adZ at h
 split at h
 ·cases h
  obtain ⟨x,q,e1,e2,y,q',e3,e4,e5⟩:=r
  cases (show x=_ from e2); cases (show y=_ from e4); cases (show q'=[] from e5); subst e3
  exact ⟨_,_,e1,k _ H (jq.refl H) rfl⟩
 ·cases h
end
section
variable {X:Cx}{pins:List (Addr × Obj)}{σ:St}{H:Hp}{s:Shared}
theorem abe {prog:Program}{w:World}{A:Around}{E:Value->Shared->Prop}{l:Addr}{its:Array Value}{Q:Value->Shared->Prop} (hl:s.heap.IsList l its)
  (h:∀ (h2:Heap) (it:Addr),(h2.IsListIter it l 0/\h2.IsList l its)->(∀ b ∈ [it,l],b < h2.objs.size)->l ≠ it->(∀ b o,s.heap.get? b=some o->h2.get? b=some o)->s.heap.get? it=none->Q (.ref it) { s with heap:=h2 }):
  wpAny (model prog w) A (pyIter (.ref l)) Q E s:=by
 have hlt:l < s.heap.objs.size:=by
  obtain ⟨_,e,_⟩:=hl
  exact Heap.lt_size e
 refine wpAny_pyIter_list hl (h _ _ ⟨⟨_,Heap.get?_push_size _ rfl,rfl,rfl⟩,hl.push _⟩ (fun b hb=>?_) (Nat.ne_of_lt hlt) (fun b o e=>Heap.get?_push_of_some _ e) (Heap.get?_none_of_le (Nat.le_refl _)))
 rw [Heap.size_push]
 rcases List.mem_cons.mp hb with e | hb
 ·rw [e]; exact Nat.lt_succ_self _
 ·have e:b=l:=by simpa using hb
  rw [e]; exact Nat.lt_succ_of_lt hlt
theorem ad0 {prog:Program}{w:World}{A:Around}{E:Value->Shared->Prop}{l:Addr}{its:Array Value}{Q:Value->Shared->Prop} (hl:s.heap.IsTuple l its)
  (h:∀ (h2:Heap) (it:Addr),(h2.IsTupleIter it l 0/\h2.IsTuple l its)->(∀ b ∈ [it,l],b < h2.objs.size)->l ≠ it->(∀ b o,s.heap.get? b=some o->h2.get? b=some o)->s.heap.get? it=none->Q (.ref it) { s with heap:=h2 }):
  wpAny (model prog w) A (pyIter (.ref l)) Q E s:=by
 have hlt:l < s.heap.objs.size:=by
  obtain ⟨_,e,_⟩:=hl
  exact Heap.lt_size e
 have hl2:∀ o,(s.heap.push o).IsTuple l its:=fun o=>by
  obtain ⟨ob,e,r⟩:=hl
  exact ⟨ob,Heap.get?_push_of_some _ e,r⟩
 refine wpAny_pyIter_tuple hl (h _ _ ⟨⟨_,Heap.get?_push_size _ rfl,rfl,rfl⟩,hl2 _⟩ (fun b hb=>?_) (Nat.ne_of_lt hlt) (fun b o e=>Heap.get?_push_of_some _ e) (Heap.get?_none_of_le (Nat.le_refl _)))
 rw [Heap.size_push]
 rcases List.mem_cons.mp hb with e | hb
 ·rw [e]; exact Nat.lt_succ_self _
 ·have e:b=l:=by simpa using hb
  rw [e]; exact Nat.lt_succ_of_lt hlt
theorem aat {h h2 h3 : Heap} {it : Addr} (k1 : ∀ b o, h.get? b = some o -> h2.get? b = some o) (hn : h.get? it = none) (k2 : ∀ b o, b ∉ [it] -> h2.get? b = some o -> h3.get? b = some o) : ∀ b o, h.get? b = some o -> h3.get? b = some o := fun b o e =>
  k2 b o (fun z => by have e1 : b = it := by simpa using z
                      rw [e1, hn] at e; cases e) (k1 b o e)
theorem aiI:∀ {bs:List Bool}{us:List Value},jG (bs.map V.bl) us->us=bs.map Value.bool
 | [],us,r=>by cases r; rfl
 | b::bs,us,r=>by
  cases r with
  | cons r1 r2=>cases (show _=_ from r1); rw [aiI r2]; rfl
theorem ajE (bs:List Bool):(List.range bs.length).all (fun i=>bs.getD i false)=bs.all id:=by
 have:bs=(List.range bs.length).map (fun i=>bs.getD i false):=by
  apply List.ext_getElem?
  intro i
  rw [List.getElem?_map]
  by_cases h:i < bs.length
  ·rw [List.getElem?_range h]; simp [List.getD,h]
  ·simp [h]
 conv=>rhs; rw [this]
 rw [List.all_map]; rfl
noncomputable def asb (K:PySem.W.Frag):List V->Hp->VK->Prop:=fun xs H Q=>∃ a bs,xs=[.ref a]/\SqL K H a (List.map V.bl bs)/\Q (.bl (bs.all id)) H
theorem ajF (hc:X.calm=true):ze X (.builtin "all") (asb X.K):=by
 intro pins s σ H xs us Q I r ⟨a,bs,e,hq,q⟩
 subst e
 obtain ⟨u,rfl,rx⟩:=Z3 r
 cases rx
 obtain ⟨its,rv,pl,hz⟩:=I.list hq
 have ei:=aiI rv
 have hh:=I.ok.hd hc
 refine call_all_walk (abe pl.isList fun h2 it st hlt hne k1 hn=>?_)
 refine ⟨it,[it,a],[it],its.toArray.size,(fun i v=>its.toArray[i]?=some v),_,fun i=>bs.getD i false,rfl,Walks.list (A:=X.A.in1) hh it a hne its.toArray,st,?_,fun h3 tk k2=>?_⟩
 ·intro i v s' Q' E' hP hq'
  have:v= .bool (bs.getD i false):=by
   have hP':its[i]?=some v:=by simpa using hP
   rw [ei,List.getElem?_map] at hP'
   cases hb:bs[i]? with
   | none=>rw [hb] at hP'; cases hP'
   | some b=>rw [hb] at hP'; cases hP'; simp [List.getD,hb]
  subst this
  exact wpAny_truthy_bool hq'
 ·have I3:=I.kept (t':=tk) (aat k1 hn k2)
  have hl:its.toArray.size=bs.length:=by rw [ei]; simp
  refine ⟨.bl (bs.all id),H,I3,?_,q⟩
  show _=_
  rw [hl,ajE]
noncomputable def bls:List PyData->Option (List Bool)
 | []=>some []
 | d::r=>(asB d).bind fun b=>(bls r).map fun q=>b::q
theorem Reps.bls {K:PySem.W.Frag}{H:Hp}:∀ {ds:List PyData}{bs:List Bool}{xs:List V},BX.bls ds=some bs->Reps K H ds xs->xs=bs.map V.bl
 | [],bs,xs,h,r=>by simp [BX.bls] at h; subst h; exact r
 | d::ds,bs,xs,h,⟨x,q,e1,e2,e3⟩=>by
  subst e1
  cases h1:asB d with
  | none=>simp [BX.bls,h1] at h
  | some b=>
   cases h2:BX.bls ds with
   | none=>simp [BX.bls,h1,h2] at h
   | some r=>
    have:b::r=bs:=by simpa [BX.bls,h1,h2] using h
    subst this
    have hd:=Q1 h1
    subst hd
    cases (show x=_ from e2)
    rw [Reps.bls h2 e3]; rfl
noncomputable def apZ (ds:List PyData):Option PyData:=match ds with
 | [.list xs]=>(bls xs).map fun bs=> .bool (bs.all id)
 | _=>none
theorem ap0 (hc:X.calm=true):Qf X (.builtin "all") apZ:=by
 refine ⟨_,ajF hc,fun ds d xs H Q h r k=>?_⟩
 unfold apZ at h
 split at h
 ·rename_i ys
  cases hb:bls ys with
  | none=>simp [hb] at h
  | some bs=>
   have:PyData.bool (bs.all id)=d:=by simpa [hb] using h
   subst this
   obtain ⟨x,q,e1,e2,e3⟩:=r
   cases (show q=[] from e3)
   obtain ⟨a,us,g1,g2,g3⟩:=e2
   subst g1
   have:=Reps.bls hb g3
   subst this
   exact ⟨a,bs,e1,SqL.of g2,k _ H (jq.refl H) rfl⟩
 ·cases h
noncomputable def QX:PyData->Option Int
 | .int i=>some i
 | _=>none
noncomputable def zp:List PyData->Option (List Int)
 | []=>some []
 | d::r=>(QX d).bind fun b=>(zp r).map fun q=>b::q
theorem Qh:∀ {ds:List PyData}{ns:List Int},zp ds=some ns->ds=ns.map PyData.int
 | [],ns,h=>by simp [zp] at h; subst h; rfl
 | d::ds,ns,h=>by
  cases d with
  | int i=>
   cases h2:zp ds with
   | none=>simp [zp,QX,h2] at h
   | some r=>
    have:i::r=ns:=by simpa [zp,QX,h2] using h
    subst this
    rw [Qh h2]; rfl
  | _=>simp [zp,QX] at h
theorem zq {ns:List Int}{us:List Value}{i:Nat}{v:Value} (r:jG (ns.map V.int) us) (h:us.toArray[i]?=some v):∃ t,v= .int (ns.getD i 0) t:=by
 have h':us[i]?=some v:=by simpa using h
 have hi:i < us.length:=(List.getElem?_eq_some_iff.mp h').1
 have hl:=r.length
 rw [List.length_map] at hl
 obtain ⟨u,e1,e2⟩:=r.get (show (ns.map V.int)[i]?=some (V.int (ns.getD i 0)) by
  rw [List.getElem?_map]
  have:i < ns.length:=by omega
  simp [List.getD,this])
 rw [h'] at e1; cases e1
 exact e2
theorem abI (ns:List Int):preSum (fun i=>ns.getD i 0) ns.length=ns.sum:=by
 have go:∀ k,k<=ns.length->preSum (fun i=>ns.getD i 0) k=(ns.take k).sum:=by
  intro k
  induction k with
  | zero=>intro _; simp [preSum]
  | succ k ih=>
   intro hk
   have hlt:k < ns.length:=by omega
   have h1:ns.take (k+1)=ns.take k++[ns[k]]:=by rw [List.take_succ]; simp [hlt]
   rw [h1]
   simp only [preSum,ih (by omega),List.sum_append,List.sum_cons,List.sum_nil,Int.add_zero]
   simp [List.getD,hlt]
 have:=go ns.length (Nat.le_refl _)
 simpa using this
noncomputable def asc (K:PySem.W.Frag):List V->Hp->VK->Prop:=fun xs H Q=>∃ a ns,xs=[.ref a]/\(SqL K H a (List.map V.int ns) ∨ SqT K H a (List.map V.int ns))/\Q (.int ns.sum) H
theorem ajG (hc:X.calm=true):ze X (.builtin "sum") (asc X.K):=by
 intro pins s σ H xs us Q I r ⟨a,ns,e,hq,q⟩
 subst e
 obtain ⟨u,rfl,rx⟩:=Z3 r
 cases rx
 have hh:=I.ok.hd hc
 rcases hq with hq | hq
 ·obtain ⟨its,rv,pl,hz⟩:=I.list hq
  have hl:its.toArray.size=ns.length:=by have:=rv.length; simp at this ⊢; omega
  refine call_sum_walkG (abe pl.isList fun h2 it st hlt hne k1 hn=>?_)
  refine ⟨it,[it,a],[it],its.toArray.size,(fun i v=>its.toArray[i]?=some v),_,fun i=>ns.getD i 0,rfl,Walks.list (A:=X.A.in1) hh it a hne its.toArray,st,hlt,fun i v hP=>zq rv hP,fun h3 tk t' k2=>?_⟩
  exact ⟨.int ns.sum,H,I.kept (t':=tk) (aat k1 hn k2),⟨t',by rw [hl,abI]⟩,q⟩
 ·obtain ⟨its,rv,pl,hz⟩:=I.tuple hq
  have hl:its.toArray.size=ns.length:=by have:=rv.length; simp at this ⊢; omega
  refine call_sum_walkG (ad0 (show s.heap.IsTuple a its.toArray from pl) fun h2 it st hlt hne k1 hn=>?_)
  refine ⟨it,[it,a],[it],its.toArray.size,(fun i v=>its.toArray[i]?=some v),_,fun i=>ns.getD i 0,rfl,Walks.tuple (A:=X.A.in1) hh it a hne its.toArray,st,hlt,fun i v hP=>zq rv hP,fun h3 tk t' k2=>?_⟩
  exact ⟨.int ns.sum,H,I.kept (t':=tk) (aat k1 hn k2),⟨t',by rw [hl,abI]⟩,q⟩
noncomputable def Q6 (ds:List PyData):Option PyData:=match ds with
 | [.list xs]=>(zp xs).map fun ns=> .int ns.sum
 | [.tuple xs]=>(zp xs).map fun ns=> .int ns.sum
 | _=>none
theorem ahB (hc:X.calm=true):Qf X (.builtin "sum") Q6:=by
 refine ⟨_,ajG hc,fun ds d xs H Q h r k=>?_⟩
 unfold Q6 at h
 split at h
 ·rename_i ys
  cases hb:zp ys with
  | none=>simp [hb] at h
  | some ns=>
   have:PyData.int ns.sum=d:=by simpa [hb] using h
   subst this
   obtain ⟨x,q,e1,e2,e3⟩:=r
   cases (show q=[] from e3)
   obtain ⟨a,us,g1,g2,g3⟩:=e2
   subst g1
   rw [Qh hb] at g3
   have:=Reps.ints g3
   subst this
   exact ⟨a,ns,e1,.inl (SqL.of g2),k _ H (jq.refl H) rfl⟩
 ·rename_i ys
  cases hb:zp ys with
  | none=>simp [hb] at h
  | some ns=>
   have:PyData.int ns.sum=d:=by simpa [hb] using h
   subst this
   obtain ⟨x,q,e1,e2,e3⟩:=r
   cases (show q=[] from e3)
   obtain ⟨a,us,g1,g2,g3⟩:=e2
   subst g1
   rw [Qh hb] at g3
   have:=Reps.ints g3
   subst this
   exact ⟨a,ns,e1,.inr g2,k _ H (jq.refl H) rfl⟩
 ·cases h
end
section
variable {prog:Program}{w:World}{A:Around}{E:Value->Shared->Prop}{s:Shared}
theorem aab {it t:Addr}{i:Nat}{ys:Array Value}{x:Value}{Q:Value->Shared->Prop} (hit:s.heap.IsTupleIter it t i) (ht:s.heap.IsTuple t ys) (hx:ys[i]?=some x)
  (hQ:∀ h',h'.IsTupleIter it t (i+1)->Heap.SameBut it s.heap h'->Q x { s with heap:=h' }):wpAny (model prog w) A (Builtin.SmallTypes.nextOf (.ref it)) Q E s:=by
 obtain ⟨o,ho,hc,hd⟩:=id hit
 obtain ⟨ot,hot,_,nt,hdt⟩:=ht
 unfold Builtin.SmallTypes.nextOf
 refine wpAny_bind (wpAny_callSpecial?_slot (name:=Str.ofString "__next__") hit.typeIs F.slot_tuple_iterator_next
  (wpAny_call_entry F.slot_tuple_iterator_next hit.typeIs F.entry_tuple_iterator_next ?_
   (F.args_tuple_iterator_next_1 _)))
 refine wpAny_bind (m:=field (.ref it) 0) (wpAny_field ho hd (x:= .ref t) rfl ?_)
 have no:¬ ((Value.ref t == Value.none)=true):=Bool.false_ne_true
 show wpAny _ _ (if (Value.ref t == Value.none)=true then _ else
  _) _ _ s
 rw [if_neg no]
 refine wpAny_bind (m:=field (.ref it) 1) (wpAny_field ho hd (x:= .int i 0) rfl ?_)
 refine wpAny_bind (m:=seqItems? (.ref t)) (wpAny_seqItems hot hdt ?_)
 simp only [Int.toNat_natCast,hx]
 refine wpAny_bind (wpAny_setField ho hd (by simp) (wpAny_pure ⟨x,rfl,wpAny_pure (hQ _ ?_ (Heap.SameBut.update ..))⟩))
 refine ⟨_,Heap.get?_update_self _ ho (Obj.isFreed_of_fields (Obj.data_mapFields hd _)),(Obj.cls_mapFields ..).trans hc,?_⟩
 rw [Obj.data_mapFields hd]
 simp [rawInt]
theorem ajH {it t:Addr}{i:Nat}{ys:Array Value}{Q:Value->Shared->Prop} (hh:A.handled=none) (hit:s.heap.IsTupleIter it t i) (ht:s.heap.IsTuple t ys) (hx:ys[i]?=none)
  (hE:∀ h' e,Heap.ExtBut it s.heap h'->(∃ o,h'.get? e=some o/\o.cls= .type "StopIteration")->E (.ref e) { s with heap:=h' }):wpAny (model prog w) A (Builtin.SmallTypes.nextOf (.ref it)) Q E s:=by
 obtain ⟨o,ho,hc,hd⟩:=id hit
 obtain ⟨ot,hot,_,nt,hdt⟩:=ht
 unfold Builtin.SmallTypes.nextOf
 refine wpAny_bind (wpAny_callSpecial?_slot (name:=Str.ofString "__next__") hit.typeIs F.slot_tuple_iterator_next
  (wpAny_call_entry F.slot_tuple_iterator_next hit.typeIs F.entry_tuple_iterator_next ?_
   (F.args_tuple_iterator_next_1 _)))
 refine wpAny_bind (m:=field (.ref it) 0) (wpAny_field ho hd (x:= .ref t) rfl ?_)
 have no:¬ ((Value.ref t == Value.none)=true):=Bool.false_ne_true
 show wpAny _ _ (if (Value.ref t == Value.none)=true then _ else
  _) _ _ s
 rw [if_neg no]
 refine wpAny_bind (m:=field (.ref it) 1) (wpAny_field ho hd (x:= .int i 0) rfl ?_)
 refine wpAny_bind (m:=seqItems? (.ref t)) (wpAny_seqItems hot hdt ?_)
 simp only [Int.toNat_natCast,hx]
 refine wpAny_bind (wpAny_rule (wpAny_bind (wpAny_setField ho hd (by simp) ?_)))
 refine wpAny_bind (m:=newExc (.type "StopIteration") []) ?_
 simp only [newExc,newTuple]
 refine wpAny_bind (wpAny_newObj_type ?_ (by size_fits))
 refine wpAny_bind (m:=firstArgMember _ _) (wpAny_of_eq (a:=Value.none)
  (by first | rfl | (simp only [firstArgMember]; rfl)) ?_)
 refine wpAny_newObj_type ?_ (by size_fits)
 simp only [raiseNew]
 refine wpAny_bind (wpAny_handled ?_)
 rw [show A.in1.handled=none from hh]
 refine wpAny_bind (wpAny_pure (wpAny_throw ?_))
 exact hE _ _ (((Heap.SameBut.update ..).extBut.push _).push _) ⟨_,Heap.get?_push_size _ rfl,rfl⟩
noncomputable abbrev aau (h:Heap) (T:Addr) (a b c:Value):Prop:=h.get? T=some { cls:= .type "tuple",data:= .seq #[a,b,c] }
theorem acH {T:Addr}{a b c x:Value}{k:Nat}{Q:Unit->Shared->Prop} (hT:aau s.heap T a b c)
  (h:∀ h',h'.get? T=some { cls:= .type "tuple",data:= .seq ((#[a,b,c]:Array Value).setIfInBounds k x) }->Heap.SameBut T s.heap h'->Q () { s with heap:=h' }):
  wpAny (model prog w) A (updateSeq T (·.setIfInBounds k x)) Q E s:=by
 refine wpAny_updateSeq hT rfl (h _ ?_ (Heap.SameBut.update ..))
 rw [Heap.get?_update_self _ hT rfl]
 simp [Obj.mapSeq]
structure Apart3 (z TI TO i1 i2 i3 t1 t2 t3:Addr):Prop where
 nd:[z,TO,i1,i2,i3].Nodup
 ti:TI ∉ [z,TO,i1,i2,i3]
 s1:t1 ∉ [z,TO,i1,i2,i3]
 s2:t2 ∉ [z,TO,i1,i2,i3]
 s3:t3 ∉ [z,TO,i1,i2,i3]
structure Zip3 (h:Heap) (z TI TO i1 i2 i3 t1 t2 t3:Addr) (xs ys zs:Array Value) (f0:Value) (k:Nat):Prop where
 hz:IsZip h z TI TO f0
 hTI:aau h TI (.ref i1) (.ref i2) (.ref i3)
 hTO:∃ a b c,aau h TO a b c
 g1:h.IsTupleIter i1 t1 k
 g2:h.IsTupleIter i2 t2 k
 g3:h.IsTupleIter i3 t3 k
 a1:h.IsTuple t1 xs
 a2:h.IsTuple t2 ys
 a3:h.IsTuple t3 zs
theorem Zip3.keep {h h':Heap}{z TI TO i1 i2 i3 t1 t2 t3:Addr}{xs ys zs:Array Value}{f0:Value}{k:Nat} (S:Zip3 h z TI TO i1 i2 i3 t1 t2 t3 xs ys zs f0 k)
  (kp:∀ b ∈ [z,TI,TO,i1,i2,i3,t1,t2,t3],∀ o,h.get? b=some o->h'.get? b=some o):Zip3 h' z TI TO i1 i2 i3 t1 t2 t3 xs ys zs f0 k:=by
 obtain ⟨hz,hTI,⟨a,b,c,hTO⟩,⟨o1,e1,r1⟩,⟨o2,e2,r2⟩,⟨o3,e3,r3⟩,⟨p1,f1,q1⟩,⟨p2,f2,q2⟩,⟨p3,f3,q3⟩⟩:=S
 exact ⟨kp z (by simp) _ hz,kp TI (by simp) _ hTI,⟨a,b,c,kp TO (by simp) _ hTO⟩,⟨o1,kp i1 (by simp) _ e1,r1⟩,⟨o2,kp i2 (by simp) _ e2,r2⟩,⟨o3,kp i3 (by simp) _ e3,r3⟩,⟨p1,kp t1 (by simp) _ f1,q1⟩,⟨p2,kp t2 (by simp) _ f2,q2⟩,⟨p3,kp t3 (by simp) _ f3,q3⟩⟩
noncomputable def But (l:List Addr) (h h':Heap):Prop:=∀ b o,b ∉ l->h.get? b=some o->h'.get? b=some o
theorem But.of {b:Addr}{l:List Addr}{h h':Heap} (x:Heap.ExtBut b h h') (hb:b ∈ l):But l h h':=fun c o hc e=>x c o (fun z=>hc (by rw [z]; exact hb)) e
theorem But.trans {l:List Addr}{h h1 h2:Heap} (a:But l h h1) (b:But l h1 h2):But l h h2:=fun c o hc e=>b c o hc (a c o hc e)
theorem ajI {z TI TO i1 i2 i3 t1 t2 t3:Addr}{xs ys zs:Array Value}{k:Nat}{x y v:Value}{Q:Value->Shared->Prop} (D:Apart3 z TI TO i1 i2 i3 t1 t2 t3) (S:Zip3 s.heap z TI TO i1 i2 i3 t1 t2 t3 xs ys zs .none k)
  (hx:xs[k]?=some x) (hy:ys[k]?=some y) (hv:zs[k]?=some v)
  (hQ:∀ h',Zip3 h' z TI TO i1 i2 i3 t1 t2 t3 xs ys zs (rawInt s.heap.objs.size) (k+1)->aau h' s.heap.objs.size x y v->But [z,TO,i1,i2,i3] s.heap h'->Q (.ref s.heap.objs.size) { s with heap:=h' }):
  wpAny (model prog w) A (Builtin.«zip.__next__» ⟨[.ref z],[]⟩) (fun fin s'=>∃ v,fin= .done (.ret v)/\Q v s') E s:=by
 obtain ⟨hz,hTI,⟨a,b,c,hTO⟩,g1,g2,g3,a1,a2,a3⟩:=S
 obtain ⟨nd,ti,s1,s2,s3⟩:=D
 simp only [List.nodup_cons,List.mem_cons,List.not_mem_nil,or_false,not_or] at nd ti s1 s2 s3
 obtain ⟨⟨n1,n2,n3,n4⟩,⟨n5,n6,n7⟩,⟨n8,n9⟩,n10,_⟩:=nd
 obtain ⟨t1z,t1o,t11,t12,t13⟩:=s1
 obtain ⟨t2z,t2o,t21,t22,t23⟩:=s2
 obtain ⟨t3z,t3o,t31,t32,t33⟩:=s3
 obtain ⟨tiz,tio,ti1,ti2,ti3⟩:=ti
 refine wpAny_bind (m:=field (.ref z) 2) (wpAny_field hz rfl (x:= .bool false) rfl ?_)
 refine wpAny_bind (m:=field (.ref z) 3) (wpAny_field hz rfl (x:= .ref TI) rfl ?_)
 refine wpAny_bind (wpAny_seqItems hTI rfl ?_)
 refine wpAny_bind (m:=Builtin.SmallTypes.ownedTupleIsFree (.ref z)) ?_
 unfold Builtin.SmallTypes.ownedTupleIsFree
 refine wpAny_bind (wpAny_field hz rfl (x:= .none) rfl (wpAny_pure ?_))
 simp only [zzM]
 refine wpAny_bind (wpAny_rule ?_)
 refine wpAny_bind (wpAny_field hz rfl (x:= .ref TO) rfl ?_)
 refine wpAny_bind (wpAny_setField_rec hz (by simp) fun h1 hz1 b1=>?_)
 replace hz1:IsZip h1 z TI TO .ellipsis:=hz1
 refine wpAny_bind ?_
 simp only [List.zipIdx_cons,List.zipIdx_nil,List.forIn_cons,List.forIn_nil]
 refine wpAny_bind (wpAny_bind (wpAny_onRaise ?_))
 refine wpAny_bind (m:=Builtin.SmallTypes.nextOf (.ref i1)) ?_
 refine aab (g1.extBut b1.extBut (Ne.symm n2)) (a1.extBut b1.extBut t1z) hx fun h2 g1' b2=>wpAny_pure ?_
 have o2:aau h2 TO a b c:=b2.extBut _ _ n5 (b1.extBut _ _ (Ne.symm n1) hTO)
 refine wpAny_bind (wpAny_seqItems o2 rfl ?_)
 refine wpAny_bind (acH o2 fun h3 o3 b3=>?_)
 replace o3:aau h3 TO x b c:=o3
 refine wpAny_bind (wpAny_letGo (wpAny_pure ?_))
 refine wpAny_bind (wpAny_bind (wpAny_onRaise ?_))
 refine wpAny_bind (m:=Builtin.SmallTypes.nextOf (.ref i2)) ?_
 refine aab (((g2.extBut b1.extBut (Ne.symm n3)).extBut b2.extBut (Ne.symm n8)).extBut b3.extBut (Ne.symm n6)) (((a2.extBut b1.extBut t2z).extBut b2.extBut t21).extBut b3.extBut t2o) hy fun h4 g2' b4=>wpAny_pure ?_
 have o4:aau h4 TO x b c:=b4.extBut _ _ n6 o3
 refine wpAny_bind (wpAny_seqItems o4 rfl ?_)
 refine wpAny_bind (acH o4 fun h5 o5 b5=>?_)
 replace o5:aau h5 TO x y c:=o5
 refine wpAny_bind (wpAny_letGo (wpAny_pure ?_))
 refine wpAny_bind (wpAny_bind (wpAny_onRaise ?_))
 refine wpAny_bind (m:=Builtin.SmallTypes.nextOf (.ref i3)) ?_
 refine aab (((((g3.extBut b1.extBut (Ne.symm n4)).extBut b2.extBut (Ne.symm n9)).extBut b3.extBut (Ne.symm n7)).extBut b4.extBut (Ne.symm n10)).extBut b5.extBut (Ne.symm n7))
  (((((a3.extBut b1.extBut t3z).extBut b2.extBut t31).extBut b3.extBut t3o).extBut b4.extBut t32).extBut b5.extBut t3o) hv fun h6 g3' b6=>wpAny_pure ?_
 have o6:aau h6 TO x y c:=b6.extBut _ _ n7 o5
 refine wpAny_bind (wpAny_seqItems o6 rfl ?_)
 refine wpAny_bind (acH o6 fun h7 o7 b7=>?_)
 replace o7:aau h7 TO x y v:=o7
 refine wpAny_bind (wpAny_letGo (wpAny_pure (wpAny_pure ?_)))
 refine wpAny_bind (wpAny_seqItems o7 rfl ?_)
 refine wpAny_bind (wpAny_newTuple ?_)
 have sz:h7.objs.size=s.heap.objs.size:=by rw [b7.1,b6.1,b5.1,b4.1,b3.1,b2.1,b1.1]
 have B:But [z,TO,i1,i2,i3] s.heap h7:=
  ((((((But.of b1.extBut (by simp)).trans (But.of b2.extBut (by simp))).trans (But.of b3.extBut (by simp))).trans (But.of b4.extBut (by simp))).trans (But.of b5.extBut (by simp))).trans (But.of b6.extBut (by simp))).trans (But.of b7.extBut (by simp))
 have z7:IsZip h7 z TI TO .ellipsis:=b7.extBut _ _ n1 (b6.extBut _ _ n4 (b5.extBut _ _ n1 (b4.extBut _ _ n3 (b3.extBut _ _ n1 (b2.extBut _ _ n2 hz1)))))
 have i17:h7.IsTupleIter i1 t1 (k+1):=((((g1'.extBut b3.extBut (Ne.symm n5)).extBut b4.extBut n8).extBut b5.extBut (Ne.symm n5)).extBut b6.extBut n9).extBut b7.extBut (Ne.symm n5)
 have i27:h7.IsTupleIter i2 t2 (k+1):=((g2'.extBut b5.extBut (Ne.symm n6)).extBut b6.extBut n10).extBut b7.extBut (Ne.symm n6)
 have i37:h7.IsTupleIter i3 t3 (k+1):=g3'.extBut b7.extBut (Ne.symm n7)
 refine wpAny_bind (m:=Builtin.SmallTypes.ownedTupleHandOut (.ref z) (.ref h7.objs.size)) ?_
 unfold Builtin.SmallTypes.ownedTupleHandOut
 have z8:IsZip (h7.push { cls:= .type "tuple",data:= .seq #[x,y,v] }) z TI TO .ellipsis:=Heap.get?_push_of_some _ z7
 refine wpAny_bind (wpAny_setField_rec z8 (by simp) fun h9 z9 b9=>?_)
 replace z9:IsZip h9 z TI TO (rawInt h7.objs.size):=z9
 refine wpAny_setField_rec z9 (by simp) fun h10 z10 b10=>?_
 replace z10:IsZip h10 z TI TO (rawInt h7.objs.size):=z10
 have up:∀ c o,c ≠ z->h7.get? c=some o->h10.get? c=some o:=fun c o c1 e=>b10.extBut _ _ c1 (b9.extBut _ _ c1 (Heap.get?_push_of_some _ e))
 have zlt:z < h7.objs.size:=Heap.lt_size z7
 have T10:aau h10 h7.objs.size x y v:=b10.extBut _ _ (Nat.ne_of_gt zlt) (b9.extBut _ _ (Nat.ne_of_gt zlt) (Heap.get?_push_size _ rfl))
 rw [sz] at z10 T10
 refine wpAny_pure ⟨_,rfl,?_⟩
 show Q (.ref h7.objs.size) _
 rw [sz]
 have itk:∀ {i t:Addr} {m:Nat},i ≠ z->h7.IsTupleIter i t m->h10.IsTupleIter i t m:=fun ne ⟨o,e,r⟩=>⟨o,up _ o ne e,r⟩
 have tuk:∀ {t:Addr} {us:Array Value},t ∉ [z,TO,i1,i2,i3]->s.heap.IsTuple t us->h10.IsTuple t us:=fun ne ⟨o,e,r⟩=>⟨o,up _ o (fun q=>ne (by simp [q])) (B _ o ne e),r⟩
 refine hQ h10 ⟨z10,up _ _ tiz (B _ _ (by simp [tiz,tio,ti1,ti2,ti3]) hTI),⟨x,y,v,up _ _ (Ne.symm n1) o7⟩,itk (Ne.symm n2) i17,itk (Ne.symm n3) i27,itk (Ne.symm n4) i37,
  tuk (by simp [t1z,t1o,t11,t12,t13]) a1,tuk (by simp [t2z,t2o,t21,t22,t23]) a2,tuk (by simp [t3z,t3o,t31,t32,t33]) a3⟩ T10 fun c o hc e=>up c o (fun q=>hc (by simp [q])) (B c o hc e)
theorem alf {z TI TO i1 i2 i3 t1 t2 t3:Addr}{xs ys zs:Array Value}{k:Nat}{Q:Fin->Shared->Prop} (hh:A.handled=none) (D:Apart3 z TI TO i1 i2 i3 t1 t2 t3) (S:Zip3 s.heap z TI TO i1 i2 i3 t1 t2 t3 xs ys zs .none k) (hx:xs[k]?=none)
  (hE:∀ h' e,But [z,TO,i1,i2,i3] s.heap h'->(∃ o,h'.get? e=some o/\o.cls= .type "StopIteration")->E (.ref e) { s with heap:=h' }):
  wpAny (model prog w) A (Builtin.«zip.__next__» ⟨[.ref z],[]⟩) Q E s:=by
 obtain ⟨hz,hTI,⟨a,b,c,hTO⟩,g1,g2,g3,a1,a2,a3⟩:=S
 obtain ⟨nd,ti,s1,s2,s3⟩:=D
 simp only [List.nodup_cons,List.mem_cons,List.not_mem_nil,or_false,not_or] at nd ti s1 s2 s3
 obtain ⟨⟨n1,n2,n3,n4⟩,⟨n5,n6,n7⟩,⟨n8,n9⟩,n10,_⟩:=nd
 refine wpAny_bind (m:=field (.ref z) 2) (wpAny_field hz rfl (x:= .bool false) rfl ?_)
 refine wpAny_bind (m:=field (.ref z) 3) (wpAny_field hz rfl (x:= .ref TI) rfl ?_)
 refine wpAny_bind (wpAny_seqItems hTI rfl ?_)
 refine wpAny_bind (m:=Builtin.SmallTypes.ownedTupleIsFree (.ref z)) ?_
 unfold Builtin.SmallTypes.ownedTupleIsFree
 refine wpAny_bind (wpAny_field hz rfl (x:= .none) rfl (wpAny_pure ?_))
 simp only [zzM]
 refine wpAny_bind (wpAny_rule ?_)
 refine wpAny_bind (wpAny_field hz rfl (x:= .ref TO) rfl ?_)
 refine wpAny_bind (wpAny_setField_rec hz (by simp) fun h1 hz1 b1=>?_)
 replace hz1:IsZip h1 z TI TO .ellipsis:=hz1
 refine wpAny_bind ?_
 simp only [List.zipIdx_cons,List.zipIdx_nil,List.forIn_cons,List.forIn_nil]
 refine wpAny_bind (wpAny_bind (wpAny_onRaise ?_))
 refine wpAny_bind (m:=Builtin.SmallTypes.nextOf (.ref i1)) ?_
 refine ajH hh (g1.extBut b1.extBut (Ne.symm n2)) (a1.extBut b1.extBut s1.1) hx fun h2 e b2 he=>?_
 obtain ⟨oe,ho,hc⟩:=he
 have z2:IsZip h2 z TI TO .ellipsis:=b2 _ _ n2 hz1
 have ez:e ≠ z:=fun q=>by subst q; rw [z2] at ho; cases ho; simp at hc
 refine wpAny_setField_rec z2 (by simp) fun h3 _ b3=>?_
 exact hE h3 e (((But.of b1.extBut (by simp)).trans (But.of b2 (by simp))).trans (But.of b3.extBut (by simp))) ⟨oe,b3.extBut _ _ ez ho,hc⟩
end
structure ZipC (h:Heap) (z TI TO i1 i2 i3 t1 t2 t3:Addr) (f0:Value) (k:Nat):Prop where
 hz:IsZip h z TI TO f0
 hTI:aau h TI (.ref i1) (.ref i2) (.ref i3)
 hTO:∃ a b c,aau h TO a b c
 g1:h.IsTupleIter i1 t1 k
 g2:h.IsTupleIter i2 t2 k
 g3:h.IsTupleIter i3 t3 k
theorem ZipC.all {h:Heap}{z TI TO i1 i2 i3 t1 t2 t3:Addr}{f0:Value}{k:Nat} (S:ZipC h z TI TO i1 i2 i3 t1 t2 t3 f0 k) {xs ys zs:Array Value} (a1:h.IsTuple t1 xs) (a2:h.IsTuple t2 ys) (a3:h.IsTuple t3 zs):
  Zip3 h z TI TO i1 i2 i3 t1 t2 t3 xs ys zs f0 k:=⟨S.hz,S.hTI,S.hTO,S.g1,S.g2,S.g3,a1,a2,a3⟩
theorem Zip3.c {h:Heap}{z TI TO i1 i2 i3 t1 t2 t3:Addr}{xs ys zs:Array Value}{f0:Value}{k:Nat} (S:Zip3 h z TI TO i1 i2 i3 t1 t2 t3 xs ys zs f0 k):ZipC h z TI TO i1 i2 i3 t1 t2 t3 f0 k:=⟨S.hz,S.hTI,S.hTO,S.g1,S.g2,S.g3⟩
theorem ZipC.keep {h h':Heap}{z TI TO i1 i2 i3 t1 t2 t3:Addr}{f0:Value}{k:Nat} (S:ZipC h z TI TO i1 i2 i3 t1 t2 t3 f0 k) (kp:∀ b ∈ [z,TI,TO,i1,i2,i3],∀ o,h.get? b=some o->h'.get? b=some o):
  ZipC h' z TI TO i1 i2 i3 t1 t2 t3 f0 k:=by
 obtain ⟨hz,hTI,⟨a,b,c,hTO⟩,⟨o1,e1,r1⟩,⟨o2,e2,r2⟩,⟨o3,e3,r3⟩⟩:=S
 exact ⟨kp z (by simp) _ hz,kp TI (by simp) _ hTI,⟨a,b,c,kp TO (by simp) _ hTO⟩,⟨o1,kp i1 (by simp) _ e1,r1⟩,⟨o2,kp i2 (by simp) _ e2,r2⟩,⟨o3,kp i3 (by simp) _ e3,r3⟩⟩
noncomputable def Itz (K:PySem.W.Frag) (t1 t2 t3:Addr):It:=
 ⟨fun i H=>∃ xs ys zs x y v,SqT K H t1 xs/\SqT K H t2 ys/\SqT K H t3 zs/\xs[i]?=some x/\ys[i]?=some y/\zs[i]?=some v,
  fun i H u H'=>∃ p x y v,u= .ref p/\H p=none/\H'=upd H p (.tup [x,y,v])/\∀ xs ys zs,SqT K H t1 xs->SqT K H t2 ys->SqT K H t3 zs->xs[i]?=some x/\ys[i]?=some y/\zs[i]?=some v,
  fun i H=>∃ xs ys zs,SqT K H t1 xs/\SqT K H t2 ys/\SqT K H t3 zs/\xs.length<=i⟩
theorem alg {P:Program}{w:World}{K:PySem.W.Frag}{elts:List Expr}{x1:Nat}{pos:Pos}{z TI TO i1 i2 i3 t1 t2 t3:Addr} (nd:[z,TO,i1,i2,i3].Nodup) (ti:TI ∉ [z,TO,i1,i2,i3]):
  Turn P w K (.Tuple elts x1 pos) (Itz K t1 t2 t3) [z,TI,TO,i1,i2,i3] z (fun i h=>ZipC h z TI TO i1 i2 i3 t1 t2 t3 .none i) where
 mem:=by simp
 obj:=fun i h st b hb=>by
  obtain ⟨hz,hTI,⟨a,b',c,hTO⟩,⟨o1,e1,_,d1⟩,⟨o2,e2,_,d2⟩,⟨o3,e3,_,d3⟩⟩:=st
  simp only [List.mem_cons,List.not_mem_nil,or_false] at hb
  rcases hb with rfl | rfl | rfl | rfl | rfl | rfl
  ·exact ⟨_,hz,fun v q=>by cases q⟩
  ·exact ⟨_,hTI,fun v q=>by cases q⟩
  ·exact ⟨_,hTO,fun v q=>by cases q⟩
  ·exact ⟨o1,e1,fun v q=>by rw [d1] at q; cases q⟩
  ·exact ⟨o2,e2,fun v q=>by rw [d2] at q; cases q⟩
  ·exact ⟨o3,e3,fun v q=>by rw [d3] at q; cases q⟩
 keep:=fun i h h' st k=>st.keep k
 item:=by
  intro X hP hw hK hc i pins s σ H E I hf st hg
  subst hP hw hK
  obtain ⟨xs,ys,zs,x,y,v,q1,q2,q3,ex,ey,ev⟩:=hg
  obtain ⟨us1,r1,p1,z1⟩:=I.tuple q1
  obtain ⟨us2,r2,p2,z2⟩:=I.tuple q2
  obtain ⟨us3,r3,p3,z3⟩:=I.tuple q3
  obtain ⟨u1,m1,l1⟩:=r1.get ex
  obtain ⟨u2,m2,l2⟩:=r2.get ey
  obtain ⟨u3,m3,l3⟩:=r3.get ev
  have trk:∀ {t:Addr} {ws:List V},SqT X.K H t ws->t ∉ [z,TO,i1,i2,i3]:=fun {t ws} hq hb=>by
   have hb':t ∈ [z,TI,TO,i1,i2,i3]:=by
    simp only [List.mem_cons,List.not_mem_nil,or_false] at hb ⊢
    rcases hb with e | e | e | e | e <;> simp [e]
   rcases hq with (e | ⟨o,e⟩) | ⟨o,its,n,hk,hcl,hs,_,_⟩
   ·have:=(hf t hb').1; rw [e] at this; cases this
   ·have:=(hf t hb').1; rw [e] at this; cases this
   ·-- an object of the module is no iterator of ours
    obtain ⟨f0,f1,f2,f3,f4,f5⟩:=hf t hb'
    have hbase:=I.mod.kin t o hk
    rcases f3 with q | q
    ·exact I.ok.noex t o hbase q
    ·exact absurd (Nat.lt_of_lt_of_le (Heap.lt_size hbase) (Nat.le_trans I.ok.bsz q)) (Nat.lt_irrefl _)
  have D:Apart3 z TI TO i1 i2 i3 t1 t2 t3:=⟨nd,ti,trk q1,trk q2,trk q3⟩
  have S:=st.all (xs:=us1.toArray) (ys:=us2.toArray) (zs:=us3.toArray) p1 p2 p3
  have hT:s.TypeIs (.ref z) "zip":=⟨_,st.hz,rfl⟩
  unfold pyNext
  refine wpAny_bind (wpAny_attempt (wpAny_callSpecial?_slot (name:=Str.ofString "__next__") hT F.slot_zip_next
   (wpAny_call_entry F.slot_zip_next hT F.entry_zip_next (ajI D S (by simpa using m1) (by simpa using m2) (by simpa using m3) fun h1 S1 T1 B1=>wpAny_pure ?_)
    (F.args_zip_next_1 _))))
  refine ⟨_,rfl,?_⟩
  refine wpAny_letOwnedTupleGo_zip (s:={ s with heap:=h1 }) S1.hz fun h2 z2' b2=>?_
  have nT:H s.heap.objs.size=none:=I.hok.fresh (Nat.le_refl _)
  have zlt:z < s.heap.objs.size:=Heap.lt_size st.hz
  have T2:aau h2 s.heap.objs.size u1 u2 u3:=b2.extBut _ _ (Nat.ne_of_gt zlt) T1
  have B2:But [z,TO,i1,i2,i3] s.heap h2:=B1.trans (But.of b2.extBut (by simp))
  have inF:∀ b ∈ [z,TO,i1,i2,i3],b ∈ [z,TI,TO,i1,i2,i3]:=fun b hb=>by
   simp only [List.mem_cons,List.not_mem_nil,or_false] at hb ⊢
   rcases hb with e | e | e | e | e <;> simp [e]
  have ntr:∀ b u,H b=some u->b ∉ [z,TO,i1,i2,i3]:=fun b u e hb=>by
   have:=(hf b (inF b hb)).1
   rw [e] at this; cases this
  have neT:∀ b u,H b=some u->b ≠ s.heap.objs.size:=fun b u e q=>by rw [q,nT] at e; cases e
  have hok2:HOk X.prog X.w (upd H s.heap.objs.size (.tup [x,y,v])) h2:=fun b u e=>by
   by_cases hb:b=s.heap.objs.size
   ·subst hb
    rw [jr] at e
    cases e
    exact ⟨by show 3<=sizeLine; rw [sizeLine_eq]; decide,[u1,u2,u3],.cons l1 (.cons l2 (.cons l3 .nil)),⟨_,T2,rfl,_,rfl⟩⟩
   ·rw [jn hb] at e
    refine (I.hok b u e).stay (fun c o hc' q=>B2 c o ?_ q) (fun c q=>by rw [jn (neT c _ q)]; exact q) fun c ws q=>by rw [jn (neT c _ q)]; exact q
    rcases hc' with q' | q'
    ·rw [q']; exact ntr b u e
    ·exact ntr c _ q'
  have I2:Inv X pins σ (upd H s.heap.objs.size (.tup [x,y,v])) { s with heap:=h2,toks:=s.toks }:=by
   refine I.step (g':=s.gens) (d':=s.drawn) (ch:=[z,TO,i1,i2,i3]) (fun b hb=>?_) (fun b o _ _ hb e _=>B2 b o hb e) (fun b o _ _ hb e _=>⟨o.slots,B2 b o hb e⟩) (fun b o hb e n=>?_) (fun b o hb e=>⟨o,B2 b o hb e⟩)
    (fun b ws e=>by rw [jn (neT b _ e)]; exact e) (fun b ob ws e=>by rw [jn (neT b _ e)]; exact e) (fun b ps e=>⟨#[],by rw [jn (neT b _ e),e]; simp⟩) (fun m hm=>?_) hok2 I.bare
   ·obtain ⟨f0,f1,f2,f3,f4,f5⟩:=hf b (inF b hb)
    exact ⟨f3,f1,f4,f5⟩
   ·rw [jn (Nat.ne_of_lt (Heap.lt_size e))]; exact n
   ·obtain ⟨o,es,ep,ho,r⟩:=hm
    refine ⟨o,es,ep,B2 _ o (fun hb=>?_) ho,r⟩
    exact (hf _ (inF _ hb)).2.1 rfl
  refine ⟨.ref s.heap.objs.size,_,I2,rfl,⟨_,x,y,v,rfl,nT,rfl,fun as bs cs g1 g2 g3=>?_⟩,?_,fun b hb=>?_⟩
  ·rw [I.tuple_inj g1 q1,I.tuple_inj g2 q2,I.tuple_inj g3 q3]
   exact ⟨ex,ey,ev⟩
  ·have c1:=S1.c
   obtain ⟨_,hTI,⟨a,b,c,hTO⟩,⟨o1,e1,w1⟩,⟨o2,e2,w2⟩,⟨o3,e3,w3⟩⟩:=c1
   simp only [List.nodup_cons,List.mem_cons,List.not_mem_nil,or_false,not_or] at nd ti
   obtain ⟨⟨n1,n2,n3,n4⟩,_⟩:=nd
   exact ⟨z2',b2.extBut _ _ ti.1 hTI,⟨a,b,c,b2.extBut _ _ (Ne.symm n1) hTO⟩,⟨o1,b2.extBut _ _ (Ne.symm n2) e1,w1⟩,⟨o2,b2.extBut _ _ (Ne.symm n3) e2,w2⟩,⟨o3,b2.extBut _ _ (Ne.symm n4) e3,w3⟩⟩
  ·obtain ⟨o,ho,_⟩:∃ o,s.heap.get? b=some o/\True:=by
    obtain ⟨hz,hTI,⟨a,b',c,hTO⟩,⟨o1,e1,_⟩,⟨o2,e2,_⟩,⟨o3,e3,_⟩⟩:=st
    simp only [List.mem_cons,List.not_mem_nil,or_false] at hb
    rcases hb with rfl | rfl | rfl | rfl | rfl | rfl
    ·exact ⟨_,hz,trivial⟩
    ·exact ⟨_,hTI,trivial⟩
    ·exact ⟨_,hTO,trivial⟩
    ·exact ⟨_,e1,trivial⟩
    ·exact ⟨_,e2,trivial⟩
    ·exact ⟨_,e3,trivial⟩
   rw [jn (Nat.ne_of_lt (Heap.lt_size ho))]
   exact (hf b hb).1
 done:=by
  intro X hP hw hK hc i pins s σ H E I hf st hg
  subst hP hw hK
  obtain ⟨xs,ys,zs,q1,q2,q3,hl⟩:=hg
  obtain ⟨us1,r1,p1,z1⟩:=I.tuple q1
  obtain ⟨us2,r2,p2,z2⟩:=I.tuple q2
  obtain ⟨us3,r3,p3,z3⟩:=I.tuple q3
  have trk:∀ {t:Addr} {ws:List V},SqT X.K H t ws->t ∉ [z,TO,i1,i2,i3]:=fun {t ws} hq hb=>by
   have hb':t ∈ [z,TI,TO,i1,i2,i3]:=by
    simp only [List.mem_cons,List.not_mem_nil,or_false] at hb ⊢
    rcases hb with e | e | e | e | e <;> simp [e]
   rcases hq with (e | ⟨o,e⟩) | ⟨o,its,n,hk,hcl,hs,_,_⟩
   ·have:=(hf t hb').1; rw [e] at this; cases this
   ·have:=(hf t hb').1; rw [e] at this; cases this
   ·obtain ⟨f0,f1,f2,f3,f4,f5⟩:=hf t hb'
    have hbase:=I.mod.kin t o hk
    rcases f3 with q | q
    ·exact I.ok.noex t o hbase q
    ·exact absurd (Nat.lt_of_lt_of_le (Heap.lt_size hbase) (Nat.le_trans I.ok.bsz q)) (Nat.lt_irrefl _)
  have D:Apart3 z TI TO i1 i2 i3 t1 t2 t3:=⟨nd,ti,trk q1,trk q2,trk q3⟩
  have S:=st.all (xs:=us1.toArray) (ys:=us2.toArray) (zs:=us3.toArray) p1 p2 p3
  have hT:s.TypeIs (.ref z) "zip":=⟨_,st.hz,rfl⟩
  have hlen:=r1.length
  unfold pyNext
  refine wpAny_bind (wpAny_attempt (wpAny_callSpecial?_slot (name:=Str.ofString "__next__") hT F.slot_zip_next
   (wpAny_call_entry F.slot_zip_next hT F.entry_zip_next (alf (I.ok.hd hc) D S (by simp; omega) fun h1 e B1 he=>?_)
    (F.args_zip_next_1 _))))
  obtain ⟨o,ho,hcl⟩:=he
  refine wpAny_bind (wpAny_isInstance (T:="StopIteration") (b:=true) ⟨o,ho,hcl⟩ isSubtype_stop ?_)
  refine wpAny_pure ⟨rfl,?_⟩
  have inF:∀ b ∈ [z,TO,i1,i2,i3],b ∈ [z,TI,TO,i1,i2,i3]:=fun b hb=>by
   simp only [List.mem_cons,List.not_mem_nil,or_false] at hb ⊢
   rcases hb with e | e | e | e | e <;> simp [e]
  have ntr:∀ b u,H b=some u->b ∉ [z,TO,i1,i2,i3]:=fun b u e hb=>by
   have:=(hf b (inF b hb)).1
   rw [e] at this; cases this
  refine I.step (t':=s.toks) (g':=s.gens) (d':=s.drawn) (ch:=[z,TO,i1,i2,i3]) (fun b hb=>?_) (fun b o _ _ hb e _=>B1 b o hb e) (fun b o _ _ hb e _=>⟨o.slots,B1 b o hb e⟩) (fun b o hb e n=>n) (fun b o hb e=>⟨o,B1 b o hb e⟩)
   (fun b ws e=>e) (fun b ob ws e=>e) (fun b ps e=>⟨#[],by rw [e]; simp⟩) (fun m hm=>?_) (fun b u e=>?_) I.bare
  ·obtain ⟨f0,f1,f2,f3,f4,f5⟩:=hf b (inF b hb)
   exact ⟨f3,f1,f4,f5⟩
  ·obtain ⟨o,es,ep,ho,r⟩:=hm
   refine ⟨o,es,ep,B1 _ o (fun hb=>?_) ho,r⟩
   exact (hf _ (inF _ hb)).2.1 rfl
  ·refine (I.hok b u e).stay (fun c o hc' q=>B1 c o ?_ q) (fun c q=>q) fun c ws q=>q
   rcases hc' with q' | q'
   ·rw [q']; exact ntr b u e
   ·exact ntr c _ q'
 self:=fun _ _ _ _ _ st h=>wpAny_pyIter_zip st.hz h
theorem adI (a b c:Value):checkTypeCall "zip" ⟨[a,b,c],[]⟩=pure ():=by kernel_rfl
theorem aeU (a b c:Value):checkBuiltinCall "zip.__new__" ⟨[.type "zip",a,b,c],[]⟩=pure ():=by kernel_rfl
theorem ahC (a b c d:Value):argsOk "object.__init__" ⟨[a,b,c,d],[]⟩:=by
 unfold argsOk
 rw [signature?_of (id:="object.__init__") (n:=['_','_','t','i','n','i','_','_'])
  (o:=['t','c','e','j','b','o']) (by kernel_rfl) F.owner_object]
 kernel_rfl
noncomputable abbrev ap1 (t:Addr):Obj:={ cls:= .type "tuple_iterator",data:= .fields #[.ref t,.int 0 0] }
noncomputable abbrev zh1 (h:Heap) (a:Addr):Heap:=h.push (ap1 a)
noncomputable abbrev zh2 (h:Heap) (a b:Addr):Heap:=(zh1 h a).push (ap1 b)
noncomputable abbrev zh3 (h:Heap) (a b c:Addr):Heap:=(zh2 h a b).push (ap1 c)
noncomputable abbrev zh4 (h:Heap) (a b c:Addr):Heap:=(zh3 h a b c).push { cls:= .type "tuple",data:= .seq #[.ref h.objs.size,.ref (zh1 h a).objs.size,.ref (zh2 h a b).objs.size] }
noncomputable abbrev zh5 (h:Heap) (a b c:Addr):Heap:=(zh4 h a b c).push { cls:= .type "tuple",data:= .seq #[.none,.none,.none] }
noncomputable abbrev zh6 (h:Heap) (a b c:Addr):Heap:=(zh5 h a b c).push { cls:= .type "zip",data:= .fields #[.none,.bool false,.bool false,.ref (zh3 h a b c).objs.size,.ref (zh4 h a b c).objs.size] }
theorem alh (a b c:Addr) (xs ys zs:Array Value):
  Meets (Builtin.«zip.__new__» ⟨[.type "zip",.ref a,.ref b,.ref c],[]⟩) (fun _ R s=>s.heap.IsTuple a xs/\s.heap.IsTuple b ys/\s.heap.IsTuple c zs/\
   R (.ok (.ret (.ref (zh5 s.heap a b c).objs.size))) { s with heap:=zh6 s.heap a b c }):=
 .of_wp fun prog w A R s h=>by
  obtain ⟨hp,g,d,tk,os⟩:=s
  obtain ⟨h1,h2,h3,h⟩:=h
  have hsub:=sub_zip
  have k1:Heap.IsTuple (Shared.heap ⟨hp,g,d,tk,os⟩) a xs:=h1
  have k2:Heap.IsTuple (Shared.heap ⟨zh1 hp a,g,d,tk,os⟩) b ys:=Heap.IsTuple.push h2 _
  have k3:Heap.IsTuple (Shared.heap ⟨zh2 hp a b,g,d,tk,os⟩) c zs:=Heap.IsTuple.push (Heap.IsTuple.push h3 _) _
  wp_walk using wpAny_pyIter_tuple k1,wpAny_pyIter_tuple k2,wpAny_pyIter_tuple k3
  exact ⟨_,rfl,h⟩
section
variable {X:Cx}
noncomputable def arm (K:PySem.W.Frag) (ta:TA):TI:=fun σ H R=>ta σ H fun vs H1=>∃ a b c xs ys zs,vs=[.ref a,.ref b,.ref c]/\SqT K H1 a xs/\SqT K H1 b ys/\SqT K H1 c zs/\R (Itz K a b c) H1
theorem anF {ea eb ec:Expr}{elts:List Expr}{x1:Nat}{tp:Pos}{ta:TA}{p pos:Pos} (hg:Gl X "zip") (hm:X.mg "zip"=none) (ha:PA X [ea,eb,ec] ta)
  (hs:starEach [ea,eb,ec] X.env=[(false,eval ea X.env),(false,eval eb X.env),(false,eval ec X.env)]:=by rfl) (hs2:starEach [eb,ec] X.env=[(false,eval eb X.env),(false,eval ec X.env)]:=by rfl):
  PI X (.Tuple elts x1 tp) (.Call (.Name "zip" p) [ea,eb,ec] [] pos) (arm X.K ta):=by
 intro pins s σ H R I h
 refine Call_ (Z9 I hg hm boot_zip (PyProof.Rows.callWith_type1 (thn (ha pos pins s σ H _ I h) fun us s1 ⟨vs,H1,I1,r1,q1⟩=>?_) (by rw [hs,hs2]) (by rw [hs2]; rfl)))
 obtain ⟨a,b,c,xs,ys,zs,e,q1,q2,q3,q⟩:=q1
 subst e
 cases r1 with
 | cons r1 rr=>
  cases rr with
  | cons r2 rr=>
   cases rr with
   | cons r3 rr=>
    cases rr
    cases r1; cases r2; cases r3
    obtain ⟨us1,v1,p1,z1⟩:=I1.tuple q1
    obtain ⟨us2,v2,p2,z2⟩:=I1.tuple q2
    obtain ⟨us3,v3,p3,z3⟩:=I1.tuple q3
    refine callType_new F.called_zip (by decide) (adI _ _ _) (aeU _ _ _) (fun obj=>ahC obj _ _ _) F.entry_zip_new
     (alh a b c us1.toArray us2.toArray us3.toArray) ⟨p1,p2,p3,?_⟩
    have n1:(zh1 s1.heap a).objs.size=s1.heap.objs.size+1:=Heap.size_push ..
    have n2:(zh2 s1.heap a b).objs.size=s1.heap.objs.size+2:=by rw [Heap.size_push,n1]
    have n3:(zh3 s1.heap a b c).objs.size=s1.heap.objs.size+3:=by rw [Heap.size_push,n2]
    have n4:(zh4 s1.heap a b c).objs.size=s1.heap.objs.size+4:=by rw [Heap.size_push,n3]
    have n5:(zh5 s1.heap a b c).objs.size=s1.heap.objs.size+5:=by rw [Heap.size_push,n4]
    have g6:(zh6 s1.heap a b c).get? (zh5 s1.heap a b c).objs.size=some _:=Heap.get?_push_size _ rfl
    have g5:(zh6 s1.heap a b c).get? (zh4 s1.heap a b c).objs.size=some _:=Heap.get?_push_of_some _ (Heap.get?_push_size _ rfl)
    have g4:(zh6 s1.heap a b c).get? (zh3 s1.heap a b c).objs.size=some _:=Heap.get?_push_of_some _ (Heap.get?_push_of_some _ (Heap.get?_push_size _ rfl))
    have up3:∀ x o,(zh3 s1.heap a b c).get? x=some o->(zh6 s1.heap a b c).get? x=some o:=fun x o e=>Heap.get?_push_of_some _ (Heap.get?_push_of_some _ (Heap.get?_push_of_some _ e))
    have g3:(zh6 s1.heap a b c).get? (zh2 s1.heap a b).objs.size=some _:=up3 _ _ (Heap.get?_push_size _ rfl)
    have g2:(zh6 s1.heap a b c).get? (zh1 s1.heap a).objs.size=some _:=up3 _ _ (Heap.get?_push_of_some _ (Heap.get?_push_size _ rfl))
    have g1:(zh6 s1.heap a b c).get? s1.heap.objs.size=some _:=up3 _ _ (Heap.get?_push_of_some _ (Heap.get?_push_of_some _ (Heap.get?_push_size _ rfl)))
    have kp:∀ x o,s1.heap.get? x=some o->(zh6 s1.heap a b c).get? x=some o:=fun x o e=>up3 _ _ (Heap.get?_push_of_some _ (Heap.get?_push_of_some _ (Heap.get?_push_of_some _ e)))
    show _/\_
    refine ⟨⟨_,g6,rfl⟩,?_⟩
    refine wpAny_pyIter_zip g6 ?_
    have I2:Inv X pins σ H1 { s1 with heap:=zh6 s1.heap a b c }:=I1.kept (t':=s1.toks) kp
    refine ⟨_,[(zh5 s1.heap a b c).objs.size,(zh3 s1.heap a b c).objs.size,(zh4 s1.heap a b c).objs.size,s1.heap.objs.size,(zh1 s1.heap a).objs.size,(zh2 s1.heap a b).objs.size],
     _,_,H1,rfl,I2,alg (z:=(zh5 s1.heap a b c).objs.size) (TI:=(zh3 s1.heap a b c).objs.size) (TO:=(zh4 s1.heap a b c).objs.size) (i1:=s1.heap.objs.size) (i2:=(zh1 s1.heap a).objs.size) (i3:=(zh2 s1.heap a b).objs.size) (t1:=a) (t2:=b) (t3:=c) ?_ ?_,
     ⟨g6,g4,⟨_,_,_,g5⟩,⟨_,g1,rfl,rfl⟩,⟨_,g2,rfl,rfl⟩,⟨_,g3,rfl,rfl⟩⟩,fun x hx=>?_,q⟩
    ·rw [n5,n4,n1,n2]
     simp [List.nodup_cons]
    ·rw [n3,n5,n4,n1,n2]
     simp
    ·have hle:s1.heap.objs.size<=x:=by
      rw [n5,n3,n4,n1,n2] at hx
      simp only [List.mem_cons,List.not_mem_nil,or_false] at hx
      rcases hx with e | e | e | e | e | e <;> rw [e] <;> first | exact Nat.le_refl _ | exact Nat.le_add_right _ _
     exact I1.fpOk hle (I1.hok.fresh hle)
noncomputable def Q7:List PyData->List PyData->List PyData->List PyData
 | x::xs,y::ys,z::zs=> .tuple [x,y,z]::Q7 xs ys zs
 | _,_,_=>[]
noncomputable def aiJ (ds:List PyData):Option (List PyData):=match ds with
 | [.tuple xs,.tuple ys,.tuple zs]=>if xs.length=ys.length/\ys.length=zs.length then some (Q7 xs ys zs) else none
 | _=>none
theorem ad1:∀ (xs ys zs:List PyData),xs.length=ys.length->ys.length=zs.length->(Q7 xs ys zs).length=xs.length
 | [],_,_,_,_=>by simp [Q7]
 | x::xs,[],_,h,_=>by simp at h
 | x::xs,y::ys,[],_,h=>by simp at h
 | x::xs,y::ys,z::zs,h,g=>by simp [Q7,ad1 xs ys zs (by simpa using h) (by simpa using g)]
theorem ad2:∀ (xs ys zs:List PyData) (i:Nat) (d:PyData),(Q7 xs ys zs)[i]?=some d->∃ x y z,xs[i]?=some x/\ys[i]?=some y/\zs[i]?=some z/\d= .tuple [x,y,z]
 | [],_,_,i,d,h=>by simp [Q7] at h
 | x::xs,[],_,i,d,h=>by simp [Q7] at h
 | x::xs,y::ys,[],i,d,h=>by simp [Q7] at h
 | x::xs,y::ys,z::zs,0,d,h=>by simp [Q7] at h; exact ⟨x,y,z,rfl,rfl,rfl,h.symm⟩
 | x::xs,y::ys,z::zs,i+1,d,h=>by
  obtain ⟨a,b,c,e1,e2,e3,e4⟩:=ad2 xs ys zs i d (by simpa [Q7] using h)
  exact ⟨a,b,c,by simpa using e1,by simpa using e2,by simpa using e3,e4⟩
theorem ali {ea eb ec:Expr}{elts:List Expr}{x1:Nat}{tp:Pos}{p pos:Pos}{fr:Rho->Option (List PyData)} (hm:X.mg "zip"=none) (ha:PAD X [ea,eb,ec] fr) (hg:Gl X "zip":=by rfl)
  (hs:starEach [ea,eb,ec] X.env=[(false,eval ea X.env),(false,eval eb X.env),(false,eval ec X.env)]:=by rfl) (hs2:starEach [eb,ec] X.env=[(false,eval eb X.env),(false,eval ec X.env)]:=by rfl):
  PID X (.Tuple elts x1 tp) (.Call (.Name "zip" p) [ea,eb,ec] [] pos) (fun ρ=>(fr ρ).bind aiJ):=by
 with_unfolding_all
  refine PI.imp (anF hg hm ha hs hs2) fun σ H R ⟨ρ,ds,en,q,k⟩=>?_
  cases h1:fr ρ with
  | none=>simp [h1] at q
  | some as=>
   have q':aiJ as=some ds:=by simpa [h1] using q
   refine ⟨ρ,as,en,h1,fun vs H1 s1 r1=>?_⟩
   unfold aiJ at q'
   split at q'
   ·rename_i xs ys zs
    split at q'
    ·rename_i hl
     cases q'
     obtain ⟨v1,w1,e1,⟨a,us1,ea',qa,ra⟩,v2,w2,e2,⟨b,us2,eb',qb,rb⟩,v3,w3,e3,⟨c,us3,ec',qc,rc⟩,e4⟩:=r1
     cases (show w3=[] from e4)
     subst ea'; subst eb'; subst ec'; subst e3; subst e2
     have l1:=ra.length
     have l2:=rb.length
     have l3:=rc.length
     have lz:=ad1 xs ys zs hl.1 hl.2
     refine ⟨a,b,c,us1,us2,us3,e1,qa,qb,qc,k _ H1 s1 fun i H2 s2=>⟨fun hi=>?_,fun hi=>?_,fun u H3 y=>?_⟩⟩
     ·rw [lz] at hi
      exact ⟨us1,us2,us3,us1[i]'(by omega),us2[i]'(by omega),us3[i]'(by omega),jQ.tup s2 qa,jQ.tup s2 qb,jQ.tup s2 qc,by simp <;> omega,by simp <;> omega,by simp <;> omega⟩
     ·rw [lz] at hi
      exact ⟨us1,us2,us3,jQ.tup s2 qa,jQ.tup s2 qb,jQ.tup s2 qc,by omega⟩
     ·obtain ⟨pp,x,y,v,e5,e6,e7,e8⟩:=y
      subst e5; subst e7
      refine ⟨jC e6,fun d hd=>?_⟩
      obtain ⟨dx,dy,dz,g1,g2,g3,g4⟩:=ad2 xs ys zs i d hd
      subst g4
      obtain ⟨f1,f2,f3⟩:=e8 us1 us2 us3 (jQ.tup s2 qa) (jQ.tup s2 qb) (jQ.tup s2 qc)
      have m:=s2.trans (jq.e (jC (o:= .tup [x,y,v]) e6))
      obtain ⟨x',a1,a2⟩:=(Reps.monoE m _ _ ra).get g1
      obtain ⟨y',b1,b2⟩:=(Reps.monoE m _ _ rb).get g2
      obtain ⟨z',c1,c2⟩:=(Reps.monoE m _ _ rc).get g3
      rw [f1] at a1; cases a1
      rw [f2] at b1; cases b1
      rw [f3] at c1; cases c1
      exact ⟨pp,[x,y,v],rfl,SqT.of jr,x,_,rfl,a2,y,_,rfl,b2,v,_,rfl,c2,rfl⟩
    ·cases q'
   ·cases q'
noncomputable def tyn:PyData->String
 | .none=>"NoneType"
 | .bool _=>"bool"
 | .int _=>"int"
 | .str _=>"str"
 | .tuple _=>"tuple"
 | .list _=>"list"
 | .dict kvs=>if zY kvs then "list" else "dict"
noncomputable def isFn:PyData->Bool
 | .dict [(.str _,_)]=>true
 | _=>false
noncomputable def adJ (T:String) (d:PyData):Option PyData:=if isFn d=true then none else some (.bool (tyn d == T || (T == "int" && tyn d == "bool")))
theorem alj {pins:List (Addr × Obj)}{σ:St}{H:Hp}{s:Shared}{E:Value->Shared->Prop}{Q:Value->Shared->Prop}{d:PyData}{v:V}{u c:Value}{b:Bool} (I:Inv X pins σ H s) (r:Rep X.K H d v) (hF:isFn d=false) (rv:jP v u)
  (e:PySem.W.kitOne X.K (.type (tyn d)) c=some b) (h:∀ tk,Q (.bool b) { s with toks:=tk }):wpAny (model X.prog X.w) X.A (call (.builtin "isinstance") [u,c]) Q E s:=by
 cases d with
 | none=>cases r; cases rv; exact PySem.W.kia_one PySem.W.kitx_none I.kIn True.intro e (fun z=>nomatch z) h
 | bool y=>cases r; cases rv; exact PySem.W.kia_one PySem.W.kitx_bool I.kIn True.intro e (fun z=>nomatch z) h
 | int i=>cases r; obtain ⟨t,rfl⟩:=rv; exact PySem.W.kia_one PySem.W.kitx_int I.kIn True.intro e (fun z=>nomatch z) h
 | str y=>cases r; obtain ⟨t,rfl⟩:=rv; exact PySem.W.kia_one PySem.W.kitx_str I.kIn True.intro e (fun z=>nomatch z) h
 | tuple ds=>
  obtain ⟨a,xs,e1,e2,e3⟩:=r
  subst e1; cases rv
  obtain ⟨its,_,⟨o,h1,h2,_⟩,_⟩:=I.tuple e2
  exact PySem.W.kia_one PySem.W.kitx_tuple I.kIn ⟨o,h1,h2⟩ e (fun z=>nomatch z) h
 | list ds=>
  obtain ⟨a,xs,e1,e2,e3⟩:=r
  subst e1; cases rv
  obtain ⟨its,_,⟨o,n,h1,h2,_⟩,_⟩:=I.list (SqL.of e2)
  exact PySem.W.kia_one PySem.W.kitx_list I.kIn ⟨o,h1,h2⟩ e (fun z=>nomatch z) h
 | dict ds=>
  obtain ⟨a,e1,⟨ns,e2,e3⟩ | ⟨ks,ob,e2,e3⟩ | ⟨x,e2,_⟩ | ⟨x,_,_,e2,_⟩⟩:=r
  ·subst e1; cases rv
   subst e3
   have e:PySem.W.kitOne X.K (.type "list") c=some b:=by simpa [tyn,adY] using e
   obtain ⟨its,_,⟨o,n,h1,h2,_⟩,_⟩:=I.list e2
   exact PySem.W.kia_one PySem.W.kitx_list I.kIn ⟨o,h1,h2⟩ e (fun z=>nomatch z) h
  ·subst e1; cases rv
   obtain ⟨cc,rr,rfl,e4⟩:=e3.out
   have e:PySem.W.kitOne X.K (.type "dict") c=some b:=by simpa [tyn,zY] using e
   obtain ⟨_,_,vs,_,dd⟩:=acy I.hok (.inr ⟨ob,e2⟩)
   obtain ⟨o,es,ep,h1,h2,_⟩:=dd
   exact PySem.W.kia_one PySem.W.kitx_dict I.kIn ⟨o,h1,h2.1⟩ e (fun z=>nomatch z) h
  ·subst e2; simp [isFn] at hF
  ·subst e2; simp [isFn] at hF
noncomputable def asd (K:PySem.W.Frag) (T:String):List V->Hp->VK->Prop:=fun xs H Q=>∃ x d b,xs=[x,.ty T]/\Rep K H d x/\isFn d=false/\PySem.W.kitOne K (.type (tyn d)) (.type T)=some b/\Q (.bl b) H
theorem alk {T:String}:ze X (.builtin "isinstance") (asd X.K T):=by
 intro pins s σ H xs us Q I r ⟨x,d,b,e,h1,hF,h2,q⟩
 subst e
 obtain ⟨u,w',rfl,r1,r2⟩:=afU r
 cases (show w'=_ from r2)
 exact alj I h1 hF r1 h2 fun tk=>⟨.bl b,H,I.tok tk,rfl,q⟩
noncomputable def ab0 (T:String) (d:PyData):Bool:=tyn d == T || (T == "int" && tyn d == "bool")
@[simp] theorem aqM (T:String):adJ T .none=some (.bool (ab0 T .none)):=rfl
@[simp] theorem aqN (T:String) (b:Bool):adJ T (.bool b)=some (.bool (ab0 T (.bool b))):=rfl
@[simp] theorem arn (T:String) (i:Int):adJ T (.int i)=some (.bool (ab0 T (.int i))):=rfl
@[simp] theorem aro (T:String) (x:Str):adJ T (.str x)=some (.bool (ab0 T (.str x))):=rfl
@[simp] theorem ap2 (T:String) (ds:List PyData):adJ T (.tuple ds)=some (.bool (ab0 T (.tuple ds))):=rfl
@[simp] theorem aqO (T:String) (ds:List PyData):adJ T (.list ds)=some (.bool (ab0 T (.list ds))):=rfl
theorem alm {T:String}{d e:PyData} (h:adJ T d=some e):isFn d=false/\e= .bool (ab0 T d):=by
 unfold adJ at h
 split at h
 ·cases h
 ·rename_i hf; cases h; exact ⟨by simpa using hf,rfl⟩
theorem anG {K:PySem.W.Frag}{T:String} (hT:T="bool" ∨ T="int" ∨ T="tuple") (d:PyData):PySem.W.kitOne K (.type (tyn d)) (.type T)=some (ab0 T d):=by
 rcases hT with rfl | rfl | rfl <;> cases d <;> first | rfl | (rename_i kvs; by_cases h:zY kvs=true <;> simp only [tyn,ab0,h] <;> rfl)
theorem ahD {a:Expr}{fa:Rho->Option PyData}{T:Str}{Tn:String}{p p2 pos:Pos} (hT:Tn="bool" ∨ Tn="int" ∨ Tn="tuple") (hm1:X.mg "isinstance"=none) (hm2:X.mg T=none) (hv:bootBuiltins T=some (.type Tn)) (ha:PD X a fa)
  (hg1:Gl X "isinstance":=by rfl) (hg2:Gl X T:=by rfl) (hn:T ≠ "__name__":=by decide) (hd:(T == ("__debug__":Str))=false:=by decide)
  (he:starEach [a,.Name T p2] X.env=[(false,eval a X.env),(false,eval (.Name T p2) X.env)]:=by rfl) (he2:starEach [.Name T p2] X.env=[(false,eval (.Name T p2) X.env)]:=by rfl) (hpl:(backTo pos (starEach [.Name T p2] X.env)).any (·.1)=false:=by rfl):
  PD X (.Call (.Name "isinstance" p) [a,.Name T p2] [] pos) (fun ρ=>(fa ρ).bind fun d=>adJ Tn d):=by
 with_unfolding_all
  have hT2:PE X (.Name T p2) (tC (.ty Tn)):=ait hg2 hm2 hv rfl hn hd
  refine PE.imp (aas (alk (T:=Tn)) hg1 hm1 (by decide +kernel) (qm ha (qm hT2 zL (by rw [he2]; rfl)) (by rw [he,he2])) (by decide) (by decide) (by rw [he,he2]) hpl) fun σ H Q ⟨ρ,d,en,q,k⟩=>?_
  cases h1:fa ρ with
  | none=>simp [h1] at q
  | some c=>
   obtain ⟨hF,rfl⟩:=alm (show adJ Tn c=some d by simpa [h1] using q)
   exact ⟨ρ,c,en,h1,fun v H1 s1 r1=>⟨v,c,_,rfl,r1,hF,anG hT c,k _ H1 s1 rfl⟩⟩
end
noncomputable def zI (H H':Hp):Prop:=∀ b o,H b=some o->(∀ xs,o ≠ .lst xs)->H' b=some o
theorem jq.n {H H':Hp} (e:jq H H'):zI H H':=fun b o h _=>e b o h
theorem zI.refl (H:Hp):zI H H:=fun _ _ h _=>h
theorem zI.trans {H H1 H2:Hp} (a:zI H H1) (b:zI H1 H2):zI H H2:=fun c o h n=>b c o (a c o h n) n
theorem zI.upd {H:Hp}{p:Addr}{xs ys:List V} (hp:H p=some (.lst xs)):zI H (upd H p (.lst ys)):=fun b o h n=>by
 have:b ≠ p:=fun e=>by subst e; rw [hp] at h; cases h; exact n _ rfl
 rw [jn this]; exact h
mutual
noncomputable def noL:PyData->Bool
 | .none=>true
 | .bool _=>true
 | .int _=>true
 | .str _=>true
 | .tuple ds=>noLs ds
 | .list _=>false
 | .dict _=>false
noncomputable def noLs:List PyData->Bool
 | []=>true
 | d::ds=>noL d && noLs ds
end
section
variable {K:PySem.W.Frag}{H H':Hp}
theorem zI.tup {a:Addr}{xs:List V} (e:zI H H') (h:SqT K H a xs):SqT K H' a xs:=by
 rcases h with (h | ⟨o,h⟩) | h
 ·exact .inl (.inl (e _ _ h fun _ z=>nomatch z))
 ·exact .inl (.inr ⟨o,e _ _ h fun _ z=>nomatch z⟩)
 ·exact .inr h
mutual
theorem Rep.monoN (e:zI H H'):∀ (d:PyData) (v:V),noL d=true->Rep K H d v->Rep K H' d v
 | .none,v,_,h=>h
 | .bool _,v,_,h=>h
 | .int _,v,_,h=>h
 | .str _,v,_,h=>h
 | .tuple ds,v,n,⟨a,xs,h1,h2,h3⟩=>⟨a,xs,h1,zI.tup e h2,Reps.monoN e ds xs (by simpa [noL] using n) h3⟩
 | .list ds,v,n,h=>by simp [noL] at n
 | .dict ds,v,n,h=>by simp [noL] at n
theorem Reps.monoN (e:zI H H'):∀ (ds:List PyData) (xs:List V),noLs ds=true->Reps K H ds xs->Reps K H' ds xs
 | [],xs,_,h=>h
 | d::ds,xs,n,⟨x,r,h1,h2,h3⟩=>by
  have n':noL d=true/\noLs ds=true:=by simpa [noLs] using n
  exact ⟨x,r,h1,Rep.monoN e d x n'.1 h2,Reps.monoN e ds r n'.2 h3⟩
end
theorem Q8:∀ (ds es:List PyData),noLs (ds++es)=(noLs ds && noLs es)
 | [],es=>by simp [noLs]
 | d::ds,es=>by simp [noLs,Q8 ds es,Bool.and_assoc]
theorem af3:∀ {ds:List PyData},(∀ d ∈ ds,noL d=true)->noLs ds=true
 | [],_=>rfl
 | d::ds,h=>by simp [noLs,h d List.mem_cons_self,af3 fun x hx=>h x (List.mem_cons_of_mem _ hx)]
end
end BX
end
section
namespace BX
open PySem PySem.Spec L2
open PyProof.Rows hiding St
noncomputable def jm (P:Program) (w:World) (K:PySem.W.Frag) (mg:Str->Option Value) (base:Heap) (x:Str) (ps:List Str) (k n:Nat) (g:List PyData->Option PyData):Prop:=
 ∃ (f:Addr) (fd:FuncData),FnOk P w K mg base CX0 k f fd ps (Pur K n g)/\mg x=some (.ref f)/\PySem.W.keepIn K (.ref f)=true/\QZ K fd ps []
theorem jh:∀ (ρ:Rho) (ds:List PyData),ju ρ=some ds->ds.length=0:=fun ρ ds h=>by cases h; rfl
theorem jc {fa:Rho->Option PyData}{fr:Rho->Option (List PyData)}{n:Nat} (h:∀ (ρ:Rho) (ds:List PyData),fr ρ=some ds->ds.length=n):∀ (ρ:Rho) (ds:List PyData),jk fa fr ρ=some ds->ds.length=n+1:=fun ρ ds q=>by
 cases h1:fa ρ with
 | none=>simp [jk,h1] at q
 | some x=>
  cases h2:fr ρ with
  | none=>simp [jk,h1,h2] at q
  | some r=>
   have:x::r=ds:=by simpa [jk,h1,h2] using q
   subst this
   simp [h ρ r h2]
section
variable {X:Cx}{e:Expr}{es:List Expr}{pos:Pos}
theorem jj {k j n:Nat}{ps:List Str}{g:List PyData->Option PyData}{x:Str}{p:Pos}{fr:Rho->Option (List PyData)} (c:jm X.prog X.w X.K X.mg X.base x ps k n g) (hr:Room j X.A) (hkj:k<=j) (ha:PAD X (e::es) fr)
  (hl:∀ (ρ:Rho) (ds:List PyData),fr ρ=some ds->ds.length=n) (hn:(e::es).length=n:=by rfl) (hg:Gl X x:=by rfl) (hdb:(x == ("__debug__":Str))=false:=by decide) (he:starEach (e::es) X.env=(false,eval e X.env)::starEach es X.env:=by rfl)
  (hpl:(backTo pos (starEach es X.env)).any (·.1)=false:=by rfl):PD X (.Call (.Name x p) (e::es) [] pos) (jB g fr):=by
 with_unfolding_all
  obtain ⟨f,fd,h1,h2,h3,h4⟩:=c
  exact anB h1 (hr.mono hkj) h2 h3 h4 hn ha (fun ρ ds q=>by rw [hl ρ ds q,hn]) hg hdb he hpl
end
theorem acI {ft:Rho->Option Bool}{fe:Rho->Option PyData}{i:Nat} (p:PyData->Bool) (h:PyData->PyData):∀ (ds:List PyData) (τ:Rho),(∀ d ∈ ds,ft (τ.set i (some d))=some (p d))->(∀ d ∈ ds,p d=true->fe (τ.set i (some d))=some (h d))->
  jS (jA i) ft fe ds τ=some ((ds.filter p).map h)
 | [],τ,_,_=>rfl
 | d::ds,τ,h1,h2=>by
  have ih:=acI p h ds (τ.set i (some d)) (fun c hc=>by rw [List.set_set]; exact h1 c (List.mem_cons_of_mem _ hc)) (fun c hc hp=>by rw [List.set_set]; exact h2 c (List.mem_cons_of_mem _ hc) hp)
  simp only [jS,jA,zzD,h1 d List.mem_cons_self]
  by_cases hp:p d=true
  ·simp [hp,h2 d List.mem_cons_self hp,ih,List.filter_cons]
  ·simp [hp,ih,List.filter_cons]
theorem Zz {fe:Rho->Option PyData}{i:Nat} (h:PyData->PyData) (ds:List PyData) (τ:Rho) (h2:∀ d ∈ ds,fe (τ.set i (some d))=some (h d)):jS (jA i) zW fe ds τ=some (ds.map h):=by
 rw [acI (fun _=>true) h ds τ (fun _ _=>rfl) (fun d hd _=>h2 d hd),List.filter_eq_self.mpr (fun _ _=>rfl)]
noncomputable def aiK (st:Scope) (N:List Str) (sc:Scope) (N':List Str) (cap:List (Option Nat)):Bool:=
 sc.names.all (fun x=>!decide (x.2= .free) || decide (st.names.lookup x.1=some .cell) || decide (st.names.lookup x.1=some .free)) && sc.names.all (fun x=>!decide (x.2= .cell)) && decide (sc.kind= .function) &&
 sc.names.all (fun x=>!decide (x.2= .local) || decide (sc.names.lookup x.1=some .local)) && decide (cap.length=N'.length) &&
 (List.range N'.length).all (fun j=>match N'[j]?,cap[j]? with
  | some x,some (some i)=>decide (N[i]?=some x) && decide (sc.names.lookup x=some .free)
  | _,_=>true)
theorem qE {X:Cx}{sc:Scope}{N':List Str}{cap:List (Option Nat)} (st:Scope) (N:List Str) (h:aiK st N sc N' cap=true) (hst:X.env.scope=st:=by rfl) (hN:X.N=N:=by rfl):CompOk X sc N' cap:=by
 simp only [aiK,Bool.and_eq_true,List.all_eq_true,Bool.or_eq_true,Bool.not_eq_true',decide_eq_true_eq,decide_eq_false_iff_not] at h
 obtain ⟨⟨⟨⟨⟨h1,h2⟩,h3⟩,h4⟩,h5⟩,h6⟩:=h
 subst hst; subst hN
 refine ⟨fun x hx e=>?_,h2,h3,fun x hx e=>?_,h5,fun j i x e1 e2=>?_⟩
 ·rcases h1 x hx with (z | z) | z
  ·exact absurd e z
  ·exact .inl z
  ·exact .inr z
 ·rcases h4 x hx with z | z
  ·exact absurd e z
  ·exact z
 ·have hj:j < N'.length:=(List.getElem?_eq_some_iff.mp e1).1
  have:=h6 j (List.mem_range.mpr hj)
  rw [e1,e2] at this
  simpa using this
noncomputable def Cx.inB (X:Cx):Cx:={ X with A:=X.A.in1,xe:=NoX }
theorem Cx.Ok.inB {X:Cx} (ok:X.Ok):(Cx.inB X).Ok:=
 ⟨ok.mod,ok.kind,ok.glob,ok.blt,ok.above,ok.inj,ok.has,ok.cab,fun h=>ok.hd h,ok.frames,ok.stk,ok.exf,ok.bs,ok.bsz,ok.noex,ok.exfs,ok.funs,ok.frf⟩
theorem Cx.Ok.outB {X:Cx} (ok:(Cx.inB X).Ok):X.Ok:=
 ⟨ok.mod,ok.kind,ok.glob,ok.blt,ok.above,ok.inj,ok.has,ok.cab,fun h=>ok.hd h,ok.frames,ok.stk,ok.exf,ok.bs,ok.bsz,ok.noex,ok.exfs,ok.funs,ok.frf⟩
section
variable {X:Cx}{pins:List (Addr × Obj)}{σ:St}{H:Hp}{s:Shared}
theorem Inv.inB (I:Inv X pins σ H s):Inv (Cx.inB X) pins σ H s:=⟨Cx.Ok.inB I.ok,I.os,I.bare,I.base,I.loc,I.cell,I.free,I.freeC,I.pin,I.hok,I.len⟩
theorem Inv.outB (I:Inv (Cx.inB X) pins σ H s):Inv X pins σ H s:=⟨Cx.Ok.outB I.ok,I.os,I.bare,I.base,I.loc,I.cell,I.free,I.freeC,I.pin,I.hok,I.len⟩
end
theorem arp {prog:Program}{w:World}{A:Around}{E:Value->Shared->Prop}{s:Shared}{a b:Int}{t u:Tok}{Q:Value->Shared->Prop} (h:Q (.bool (decide (a < b))) s):wpAny (model prog w) A (richCompare .Lt (.int a t) (.int b u)) Q E s:=
 CmpOf.ints_lt (prog:=prog) (w:=w) (A:=A) (P:=fun (i:Nat) v=>∃ t,v= .int (if i=0 then a else b) t) (fun i=>if i=0 then a else b) (fun _ _ q=>q) 0 1 _ _ _ _ _ ⟨t,rfl⟩ ⟨u,rfl⟩ h
noncomputable def Qi (kf:PyData->Int):PyData->List PyData->PyData
 | b,[]=>b
 | b,d::r=>if kf d < kf b then Qi kf d r else Qi kf b r
noncomputable def acJ (kf:PyData->Int):Option PyData->List PyData->PyData
 | none,[]=> .none
 | none,d::r=>Qi kf d r
 | some b,r=>Qi kf b r
noncomputable def lob (us:Array Value) (c:Nat):Obj:={ cls:= .type "list",data:= .seq us c }
structure Own1 (X:Cx) (pins:List (Addr × Obj)) (b:Addr):Prop where
 h1:b ≠ X.env.locals
 h2:b ∉ X.fs
 h3:X.s₀.heap.objs.size<=b
 h4:∀ x c,X.env.cells.lookup x=some c->c ≠ b
 h5:∀ p ∈ X.pn++pins,p.1 ≠ b
noncomputable def aln (K:PySem.W.Frag) (H:Hp) (h:Heap) (S:Addr) (kf:PyData->Int):Option PyData->Prop
 | none=>∃ c,h.get? S=some (lob #[] c)
 | some b=>∃ x u t c,Rep K H b x/\jP x u/\h.get? S=some (lob #[u,.int (kf b) t] c)
theorem aeV {h:Heap}{S:Addr}{us ws:Array Value}{c:Nat} (ho:h.get? S=some (lob us c)):∃ c2,(h.update S (Obj.mapSeq fun _=>ws)).get? S=some (lob ws c2):=by
 have e:=Heap.get?_update_self (Obj.mapSeq fun _=>ws) ho rfl
 exact ⟨_,e⟩
theorem aav:(toString "min"++toString ".loop":String)="min.loop":=by decide
theorem ajJ {X:Cx}{k:Nat}{f:Addr}{fd:FuncData}{ps:List Str}{g:List PyData->Option PyData}{kf:PyData->Int}{ds:List PyData}{xs:List V}{l it S:Addr}{pins:List (Addr × Obj)}{σ:St}{R:Result->Shared->Prop} (hc:X.calm=true)
  (FO:FnOk X.prog X.w X.K X.mg X.base CX0 k f fd ps (Pur X.K 1 g)) (hr:Room (k+1) X.A) (hb:QZ X.K fd ps []) (hk:∀ d ∈ ds,g [d]=some (.int (kf d))) (oI:Own1 X pins it) (oS:Own1 X pins S) (nIS:it ≠ S) (nlI:l ≠ it) (nlS:l ≠ S):
  ∀ (r:List PyData) (i:Nat) (bo:Option PyData) (s:Shared) (H:Hp),ds.drop i=r->Inv (Cx.inB X) pins σ H s->H l=some (.lst xs)->Reps X.K H ds xs->H it=none->H S=none->s.heap.IsListIter it l i->aln X.K H s.heap S kf bo->
   (∀ v u s' H',Inv (Cx.inB X) pins σ H' s'->jq H H'->jP v u->Rep X.K H' (acJ kf bo r) v->R (.ok (.ret u)) s')->
   codeAny (model X.prog X.w) X.A (.builtin "min.loop" ⟨[.ref it,.ref f,.ref S],[("default",.none)]⟩) R s:=by
 have fpo:∀ {b:Addr} {H:Hp} {pl:List (Addr × Obj)},Own1 X pins b->H b=none->(∀ p ∈ pl,p.1 ≠ b)->aeF (Cx.inB X) (pins++pl) H b:=fun {b H pl} o hn hp=>⟨hn,o.h1,o.h2,.inr o.h3,o.h4,fun p hq z=>by
  rcases List.mem_append.mp (show p ∈ X.pn++(pins++pl) from hq) with q | q
  ·exact o.h5 p (List.mem_append_left _ q) z
  ·rcases List.mem_append.mp q with q | q
   ·exact o.h5 p (List.mem_append_right _ q) z
   ·exact hp p q z⟩
 intro r
 induction r with
 | nil=>
  intro i bo s H hd I hl hR hI hS st hB fin
  obtain ⟨its,rv,p,hz⟩:=I.list (SqL.of (K:=X.K) hl)
  have hle:ds.length<=i:=by
   have:=congrArg List.length hd
   simp at this; omega
  have hlen:=hR.length
  have hvl:=rv.length
  have f0:=fpo (pl:=[]) oI hI (fun _ z=>nomatch z)
  obtain ⟨q0,q1,q2,q3,q4,q5⟩:=f0
  refine codeAny_builtin PySem.F.entry_min_loop ?_
  rw [Around.under_plainId PySem.F.plain_min_loop _]
  cases bo with
  | none=>
   obtain ⟨c,hSo⟩:=hB
   refine wpAny_bind (m:=seqItems? (.ref S)) (wpAny_seqItems hSo rfl ?_)
   refine wpAny_bind (m:=tryCatch (pyNext (.ref it)) _) (wpAny_tryCatch (wpAny_pyNext_list_end (I.ok.hd hc) st p.isList (by simp; omega) fun h' eb=>?_))
   have I1:Inv (Cx.inB X) pins σ H { s with heap:=h' }:=I.turned (t':=s.toks) (it:=it) (fun b o hb e=>eb b o hb e) hI oI.h1 (.inr oI.h3) oI.h4 oI.h5
   refine wpAny_bind (m:=rule _) (wpAny_rule ?_)
   exact wpAny_pure (fin .non _ _ H I1 (jq.refl H) rfl rfl)
  | some b=>
   obtain ⟨x,u,t,c,rx,ru,hSo⟩:=hB
   refine wpAny_bind (m:=seqItems? (.ref S)) (wpAny_seqItems hSo rfl ?_)
   refine wpAny_bind (m:=tryCatch (pyNext (.ref it)) _) (wpAny_tryCatch (wpAny_pyNext_list_end (I.ok.hd hc) st p.isList (by simp; omega) fun h' eb=>?_))
   have I1:Inv (Cx.inB X) pins σ H { s with heap:=h' }:=I.turned (t':=s.toks) (it:=it) (fun b o hb e=>eb b o hb e) hI oI.h1 (.inr oI.h3) oI.h4 oI.h5
   have hS1:h'.get? S=some (lob #[u,.int (kf b) t] c):=eb S _ (Ne.symm nIS) hSo
   refine wpAny_bind (m:=updateSeq S fun _=>#[]) ?_
   refine wpAny_updateSeq hS1 rfl (wpAny_bind (wpAny_letGo (wpAny_pure ?_)))
   have I2:Inv (Cx.inB X) pins σ H { s with heap:=h'.update S (Obj.mapSeq fun _=>(#[]:Array Value)) }:=Inv.turned (s:={ s with heap:=h' }) I1 (t':=s.toks) (it:=S) (fun b o hb e=>((Heap.SameBut.update h' S _).2 b hb).trans e) hS oS.h1 (.inr oS.h3) oS.h4 oS.h5
   exact fin x u _ H I2 (jq.refl H) ru rx
 | cons d r ih=>
  intro i bo s H hd I hl hR hI hS st hB fin
  obtain ⟨its,rv,p,hz⟩:=I.list (SqL.of (K:=X.K) hl)
  have hi:ds[i]?=some d:=by
   have:(ds.drop i)[0]?=some d:=by rw [hd]; rfl
   simpa using this
  have hd':ds.drop (i+1)=r:=by
   have:(ds.drop i).drop 1=r:=by rw [hd]; rfl
   simpa [List.drop_drop,Nat.add_comm] using this
  have hmem:d ∈ ds:=List.mem_of_getElem? hi
  obtain ⟨x,hx,rx⟩:=hR.get hi
  obtain ⟨u,hu,ru⟩:=rv.get hx
  refine codeAny_builtin PySem.F.entry_min_loop ?_
  rw [Around.under_plainId PySem.F.plain_min_loop _]
  obtain ⟨olds,hSo⟩:∃ olds:Obj,s.heap.get? S=some olds/\(∀ v,olds.data ≠ .cell v):=by
   cases bo with
   | none=>obtain ⟨c,e⟩:=hB; exact ⟨_,e,fun v z=>by cases z⟩
   | some b=>obtain ⟨_,_,_,c,_,_,e⟩:=hB; exact ⟨_,e,fun v z=>by cases z⟩
  obtain ⟨hSo,hSc⟩:=hSo
  have nxt:∀ {Q2:Option Value->Shared->Prop} {E2:Value->Shared->Prop},(∀ h' oi,Inv (Cx.inB X) (pins++[(S,olds),(it,oi)]) σ H { s with heap:=h' }->(oi.cls= .type "list_iterator"/\oi.data= .fields #[.ref l,.int ((i+1:Nat):Int) 0])->Q2 (some u) { s with heap:=h' })->
    wpAny (model X.prog X.w) X.A.in1 (pyNext (.ref it)) Q2 E2 s:=by
   intro Q2 E2 go
   refine wpAny_pyNext_list_item st p.isList (x:=u) (by simpa using hu) fun h' st' sb=>?_
   have I1:Inv (Cx.inB X) pins σ H { s with heap:=h' }:=I.turned (t':=s.toks) (it:=it) (fun b o hb e=>(sb.2 b hb).trans e) hI oI.h1 (.inr oI.h3) oI.h4 oI.h5
   have hS1:h'.get? S=some olds:=(sb.2 S (Ne.symm nIS)).trans hSo
   obtain ⟨oi,hoi,hci,hdi⟩:=id st'
   refine go h' oi (I1.pins_of fun q hq=>?_) ⟨hci,hdi⟩
   rcases List.mem_append.mp hq with z | z
   ·exact I1.pin q (List.mem_append_right _ z)
   ·rcases List.mem_cons.mp z with e | z
    ·subst e; exact ⟨hS1,hS,oS.h1,oS.h2,hSc⟩
    ·have e:q=(it,oi):=by simpa using z
     subst e; exact ⟨hoi,hI,oI.h1,oI.h2,fun v z=>by rw [hdi] at z; cases z⟩
  have key:∀ {Q3:Value->Shared->Prop} {E3:Value->Shared->Prop} {h':Heap} {oi:Obj},Inv (Cx.inB X) (pins++[(S,olds),(it,oi)]) σ H { s with heap:=h' }->(oi.cls= .type "list_iterator"/\oi.data= .fields #[.ref l,.int ((i+1:Nat):Int) 0])->
    (∀ t s2 H2,Inv (Cx.inB X) pins σ H2 s2->jq H H2->H2 it=none->H2 S=none->s2.heap.IsListIter it l (i+1)->s2.heap.get? S=some olds->Q3 (.int (kf d) t) s2)->wpAny (model X.prog X.w) X.A.in1 (call (.ref f) [u]) Q3 E3 { s with heap:=h' }:=by
   intro Q3 E3 h' oi I1p ho go
   have kk:(Pur X.K 1 g) [x] H (fun v H2=>v= .int (kf d)/\jq H H2) E0:=⟨[d],.int (kf d),rfl,⟨x,[],rfl,rx,rfl⟩,hk d hmem,fun v H2 s2 r2=>⟨r2,s2⟩⟩
   refine wpAny_mono (ahu (X:=Cx.inB X) (dvs:=[]) (ds:=[]) (E:=E0) FO (Room.in1 hr) hb .nil aiA I1p (.cons ru .nil) (by simpa using kk)) (fun kv s2 h2=>?_) fun _ _ z=>z.elim
   obtain ⟨v2,H2,I2,r2,e2,s2'⟩:=h2
   subst e2
   obtain ⟨t,rfl⟩:=r2
   have pS:=I2.pin (S,olds) (List.mem_append_right _ (List.mem_append_right _ (by simp)))
   have pI:=I2.pin (it,oi) (List.mem_append_right _ (List.mem_append_right _ (by simp)))
   have I2d:Inv (Cx.inB X) pins σ H2 s2:=I2.pins_of fun q hq=>I2.pin q (List.mem_append_right _ (List.mem_append_left _ hq))
   exact go t s2 H2 I2d s2' pI.2.1 pS.2.1 ⟨oi,pI.1,ho.1,ho.2⟩ pS.1
  have back:∀ {b2:PyData} {s2:Shared} {H2:Hp},Inv (Cx.inB X) pins σ H2 s2->jq H H2->H2 it=none->H2 S=none->s2.heap.IsListIter it l (i+1)->aln X.K H2 s2.heap S kf (some b2)->acJ kf bo (d::r)=acJ kf (some b2) r->
    codeAny (model X.prog X.w) X.A (.builtin "min.loop" ⟨[.ref it,.ref f,.ref S],[("default",.none)]⟩) R s2:=fun {b2 s2 H2} I2 s12 hI2 hS2 st2 hB2 em=>
   ih (i+1) (some b2) s2 H2 hd' I2 (s12 _ _ hl) (Reps.mono s12 _ _ hR) hI2 hS2 st2 hB2 fun v u s' H' I' s' r' q'=>fin v u _ H' I' (s12.trans s') r' (by rw [em]; exact q')
  cases bo with
  | none=>
   obtain ⟨c,hSn⟩:=hB
   rw [hSn] at hSo; cases hSo
   refine wpAny_bind (m:=seqItems? (.ref S)) (wpAny_seqItems hSn rfl ?_)
   refine wpAny_bind (m:=tryCatch (pyNext (.ref it)) _) (wpAny_tryCatch (nxt fun h' oi I1p ho=>?_))
   refine wpAny_bind (m:=tryCatch (holding [u] (call (.ref f) [u])) _) (wpAny_tryCatch (wpAny_holding (key I1p ho fun t s2 H2 I2 s12 hI2 hS2 st2 hS2o=>?_)))
   refine wpAny_bind (m:=updateSeq S fun _=>#[u,.int (kf d) t]) ?_
   refine wpAny_updateSeq hS2o rfl ?_
   obtain ⟨c2,hc2⟩:=aeV (ws:=#[u,.int (kf d) t]) hS2o
   have sb:=Heap.SameBut.update s2.heap S (Obj.mapSeq fun _=>#[u,.int (kf d) t])
   have I3:Inv (Cx.inB X) pins σ H2 { s2 with heap:=s2.heap.update S (Obj.mapSeq fun _=>#[u,.int (kf d) t]) }:=I2.turned (t':=s2.toks) (it:=S) (fun b o hb e=>(sb.2 b hb).trans e) hS2 oS.h1 (.inr oS.h3) oS.h4 oS.h5
   obtain ⟨oi,e1,e2⟩:=st2
   rw [aav]
   exact wpAny_pure ⟨plainId_quiet PySem.F.plain_min_loop _,back (b2:=d) I3 s12 hI2 hS2 ⟨oi,(sb.2 it nIS).trans e1,e2⟩ ⟨x,u,t,c2,Rep.mono s12 _ _ rx,ru,hc2⟩ rfl⟩
  | some b=>
   obtain ⟨xb,ub,tb,c,rb,rub,hSn⟩:=hB
   rw [hSn] at hSo; cases hSo
   refine wpAny_bind (m:=seqItems? (.ref S)) (wpAny_seqItems hSn rfl ?_)
   refine wpAny_bind (m:=tryCatch (pyNext (.ref it)) _) (wpAny_tryCatch (nxt fun h' oi I1p ho=>?_))
   refine wpAny_bind (m:=tryCatch (holding [u] (call (.ref f) [u])) _) (wpAny_tryCatch (wpAny_holding (key I1p ho fun t s2 H2 I2 s12 hI2 hS2 st2 hS2o=>?_)))
   refine wpAny_bind (m:=tryCatch (holding [u,.int (kf d) t] (richCompare .Lt (.int (kf d) t) (.int (kf b) tb) >>= _)) _) (wpAny_tryCatch (wpAny_holding (wpAny_bind (arp ?_))))
   refine wpAny_bind (wpAny_holding (wpAny_truthy_bool ?_))
   refine wpAny_bind (wpAny_letGo (wpAny_pure ?_))
   by_cases hlt:kf d < kf b
   ·simp only [hlt,decide_true,zzM]
    refine wpAny_bind (m:=updateSeq S fun _=>#[u,.int (kf d) t]) ?_
    refine wpAny_updateSeq hS2o rfl (wpAny_bind (wpAny_letGo ?_))
    obtain ⟨c2,hc2⟩:=aeV (ws:=#[u,.int (kf d) t]) hS2o
    have sb:=Heap.SameBut.update s2.heap S (Obj.mapSeq fun _=>#[u,.int (kf d) t])
    have I3:Inv (Cx.inB X) pins σ H2 { s2 with heap:=s2.heap.update S (Obj.mapSeq fun _=>#[u,.int (kf d) t]) }:=I2.turned (t':=s2.toks) (it:=S) (fun b o hb e=>(sb.2 b hb).trans e) hS2 oS.h1 (.inr oS.h3) oS.h4 oS.h5
    obtain ⟨oi,e1,e2⟩:=st2
    rw [aav]
    exact wpAny_pure ⟨plainId_quiet PySem.F.plain_min_loop _,back (b2:=d) I3 s12 hI2 hS2 ⟨oi,(sb.2 it nIS).trans e1,e2⟩ ⟨x,u,t,c2,Rep.mono s12 _ _ rx,ru,hc2⟩ (by simp [acJ,Qi,hlt])⟩
   ·simp only [hlt,decide_false,zzL,zzN]
    refine wpAny_bind (wpAny_letGo ?_)
    rw [aav]
    exact wpAny_pure ⟨plainId_quiet PySem.F.plain_min_loop _,back (b2:=b) I2 s12 hI2 hS2 st2 ⟨xb,ub,tb,c,Rep.mono s12 _ _ rb,rub,hS2o⟩ (by simp [acJ,Qi,hlt])⟩
theorem ahE (a v d:Value):argsOk "min" ⟨[a],[("key",v),("default",d)]⟩:=by unfold argsOk; kernel_rfl
theorem af4 {X:Cx}{pins:List (Addr × Obj)}{σ:St}{H:Hp}{s:Shared} (I:Inv X pins σ H s) {b:Addr} (hb:s.heap.objs.size<=b):Own1 X pins b:=by
 obtain ⟨_,h1,h2,h3,h4,h5⟩:=I.fpOk (H':=fun _=>none) hb rfl
 exact ⟨h1,h2,Nat.le_trans I.sz hb,h4,h5⟩
theorem ahF {X:Cx}{k:Nat}{f:Addr}{fd:FuncData}{ps:List Str}{g:List PyData->Option PyData}{kf:PyData->Int}{ds:List PyData}{xs:List V}{l:Addr}{pins:List (Addr × Obj)}{σ:St}{H:Hp}{s:Shared}{Q:VK} (hc:X.calm=true)
  (FO:FnOk X.prog X.w X.K X.mg X.base CX0 k f fd ps (Pur X.K 1 g)) (hr:Room (k+1) X.A) (hb:QZ X.K fd ps []) (hk:∀ d ∈ ds,g [d]=some (.int (kf d))) (I:Inv X pins σ H s) (hl:H l=some (.lst xs)) (hR:Reps X.K H ds xs)
  (q:∀ v H',jq H H'->Rep X.K H' (acJ kf none ds) v->Q v H'):
  wpAny (model X.prog X.w) X.A (call (.builtin "min") [.ref l] [("key",.ref f),("default",.none)]) (EP X pins σ Q) X.xe s:=by
 obtain ⟨its,rv,p,hz⟩:=I.list (SqL.of (K:=X.K) hl)
 have hlt:l < s.heap.objs.size:=I.hok.lt hl
 refine PyProof.Rows.kmk_tree PySem.F.kind_min PySem.F.plain_min PySem.F.entry_min (ahE _ _ _) ?_
 refine wpAny_bind (m:=Builtin.Builtins.bindParams "min" ["key","default"] 0 ⟨[],[("key",.ref f),("default",.none)]⟩)
  (wpAny_of_eq (show _=pure [some (.ref f),some .none] from rfl) ?_)
 refine wpAny_bind (wpAny_pure ?_)
 refine wpAny_bind (wpAny_pyIter_list p.isList ?_)
 refine wpAny_bind (wpAny_newList ?_ (Nat.zero_le _))
 rw [aav]
 refine wpAny_pure ⟨plainId_quiet PySem.F.plain_min_loop _,?_⟩
 generalize hh1:s.heap.push { cls:= .type "list_iterator",data:= .fields #[.ref l,.int 0 0] }=h1
 have n1:h1.objs.size=s.heap.objs.size+1:=by rw [←hh1]; exact Heap.size_push ..
 have k2:∀ b o,s.heap.get? b=some o->(h1.push { cls:= .type "list",data:= .seq ([]:List Value).toArray }).get? b=some o:=fun b o e=>Heap.get?_push_of_some _ (by rw [←hh1]; exact Heap.get?_push_of_some _ e)
 have I2:Inv X pins σ H { s with heap:=h1.push { cls:= .type "list",data:= .seq ([]:List Value).toArray } }:=I.kept (t':=s.toks) k2
 refine ajJ (kf:=kf) hc FO hr hb hk (af4 I (Nat.le_refl _)) (af4 I (b:=h1.objs.size) (by rw [n1]; exact Nat.le_succ _)) (by rw [n1]; exact Nat.ne_of_lt (Nat.lt_succ_self _)) (Nat.ne_of_lt hlt) (by rw [n1]; exact Nat.ne_of_lt (Nat.lt_succ_of_lt hlt))
  ds 0 none _ H rfl (Inv.inB I2) hl hR (I.hok.fresh (Nat.le_refl _)) (I.hok.fresh (by rw [n1]; exact Nat.le_succ _)) ⟨_,Heap.get?_push_of_some _ (by rw [←hh1]; exact Heap.get?_push_size _ rfl),rfl,rfl⟩ ⟨0,Heap.get?_push_size _ rfl⟩ fun v u s' H' I' s1 r' q'=>?_
 exact ⟨v,H',Inv.outB I',r',q v H' s1 q'⟩
noncomputable def aac (g:List PyData->Option PyData) (ds:List PyData):Bool:=ds.all fun d=>((g [d]).bind QX).isSome
noncomputable def Qj (g:List PyData->Option PyData) (d:PyData):Int:=((g [d]).bind QX).getD 0
noncomputable def aad (g:List PyData->Option PyData):PyData->Option PyData
 | .list ds=>if aac g ds=true then some (acJ (Qj g) none ds) else none
 | _=>none
theorem ajK {d:PyData}{i:Int} (h:QX d=some i):d= .int i:=by
 cases d <;> simp [QX] at h
 rw [h]
theorem alo {g:List PyData->Option PyData}{ds:List PyData} (h:aac g ds=true):∀ d ∈ ds,g [d]=some (.int (Qj g d)):=fun d hd=>by
 have:=List.all_eq_true.mp h d hd
 cases e:g [d] with
 | none=>simp [e] at this
 | some c=>
  cases e2:QX c with
  | none=>simp [e,e2] at this
  | some i=>
   have:=ajK e2
   subst this
   simp [Qj,e,QX]
theorem acK:bootBuiltins "min"=some (.builtin "min"):=by decide +kernel
theorem alp:bootBuiltins "max"=some (.builtin "max"):=by decide +kernel
section
variable {X:Cx}{a:Expr}{fa:Rho->Option PyData}{pos p p2 p3 kp kp2:Pos}{j3:Nat}
theorem alq {k j:Nat}{ps:List Str}{g:List PyData->Option PyData}{x:Str} (hc:X.calm=true) (c:jm X.prog X.w X.K X.mg X.base x ps k 1 g) (hr:Room j X.A) (hkj:k+1<=j) (hm:X.mg "min"=none) (ha:PD X a fa) (hg:Gl X "min":=by rfl) (hgx:Gl X x:=by rfl)
  (hdb:(x == ("__debug__":Str))=false:=by decide) (hs:starEach [a] X.env=[(false,eval a X.env)]:=by rfl):
  PD X (.Call (.Name "min" p) [a] [⟨some "key",.Name x p2,kp⟩,⟨some "default",.Constant .none j3 p3,kp2⟩] pos) (fun ρ=>(fa ρ).bind (aad g)):=by
 with_unfolding_all
  obtain ⟨f,fd,FO,hmx,hkp,hb⟩:=c
  intro pins s σ H Q I h
  obtain ⟨ρ,d,en,q,kq⟩:=h
  cases h1:fa ρ with
  | none=>simp [h1] at q
  | some y=>
   have q':aad g y=some d:=by simpa [h1] using q
   refine wpAny_Call_Name_kw (Z9 I hg hm acK ?_)
   have hA:PA X [a] (afV (tD X.K fa) ani):=qm ha zL (by rw [hs]; rfl)
   have hK:PK X [⟨some "key",.Name x p2,kp⟩,⟨some "default",.Constant .none j3 p3,kp2⟩] (afV (tC (.ref f)) (afV (tC .non) ani)):=aiw (ab2 hgx hmx rfl hdb) (aiw akO apK)
   refine callWith_kw (thn (hA pos pins s σ H (fun vs H1=>∃ v,vs=[v]/\jq H H1/\Rep X.K H1 y v) I ⟨ρ,y,en,h1,fun v H1 s1 r1=>⟨v,rfl,s1,r1⟩⟩) fun us s1 ⟨vs,H1,I1,r1,v,e1,s1',rv⟩=>?_) (by rw [hs]; rfl) (by rw [hs]; rfl)
   subst e1
   obtain ⟨u,rfl,ru⟩:=Z3 r1
   refine thn (hK pos pins s1 σ H1 (fun zs H2=>zs=[.ref f,.non]/\H2=H1) I1 ⟨rfl,rfl⟩) fun ws s2 ⟨zs,H2,I2,r2,e2,e3⟩=>?_
   subst e2; subst e3
   obtain ⟨w1,w2,rfl,a1,a2⟩:=afU r2
   cases (show w1=_ from a1)
   cases (show w2=_ from a2)
   cases y with
   | list ds=>
    by_cases hko:aac g ds=true
    ·have:acJ (Qj g) none ds=d:=by simpa [aad,hko] using q'
     subst this
     obtain ⟨l,xs,e4,e5,e6⟩:=rv
     subst e4
     cases (show u=_ from ru)
     exact ahF (kf:=Qj g) hc FO (hr.mono hkj) hb (alo hko) I2 e5 e6 fun v H' s' r'=>kq v H' (s1'.trans s') r'
    ·simp [aad,hko] at q'
   | _=>simp [aad] at q'
end
noncomputable def aiL:Int->List Int->Int
 | b,[]=>b
 | b,d::r=>if d > b then aiL d r else aiL b r
noncomputable def ap3:Option Int->List Int->PyData
 | none,[]=> .none
 | none,d::r=> .int (aiL d r)
 | some b,r=> .int (aiL b r)
section
variable {X:Cx}{a:Expr}{fa:Rho->Option PyData}{pos p p3 kp2:Pos}{j3:Nat}
end
end BX
end
section
namespace BX.Srt
open PySem PySem.W
open PyProof.Rows (mirror bubble mirror_size mirror_perm bubble_size bubble_perm getElem?_mirror_all getElem?_bubble)
section
variable (rk:Nat->Int) (n:Nat)
noncomputable def val (p:Array Nat) (k:Nat):Int:=rk (p.getD k 0)
noncomputable def QD (p:Array Nat) (m:Nat):Prop:=∀ i j,i<=j->j < m->val rk p i<=val rk p j
noncomputable def acL (p:Array Nat) (m:Nat):Prop:=∀ i j,i<=j->j < m->val rk p j<=val rk p i
noncomputable def af5 (p:Array Nat) (m q:Nat):Prop:=∀ i,m - (q+1)<=i->i < m->val rk p i=val rk p (m - 1)
noncomputable def OKp (p:Array Nat):Prop:=p.Perm (List.range n).toArray
end
section
variable {rk:Nat->Int}{n:Nat}{p p':Array Nat}
theorem OKp.size (h:OKp n p):p.size=n:=by
 have:=h.size_eq
 simpa using this
theorem OKp.lt (h:OKp n p) {k:Nat} (hk:k < n):p.getD k 0 < n:=by
 have hs:=h.size
 have e:p.getD k 0=p[k]'(by omega):=by simp [Array.getD,hs,hk]
 have:p[k]'(by omega) ∈ (List.range n).toArray:=h.mem_iff.mp (Array.getElem_mem _)
 rw [e]
 simpa using this
theorem QE (p:Array Nat) (k:Nat):p.getD k 0=(p[k]?).getD 0:=by simp [Array.getD_eq_getD_getElem?]
theorem ab4 {i j k:Nat} (hj:j<=p.size):val rk (kas_rev p i j) k=if i<=k/\k < j then val rk p (i+j - 1 - k) else val rk p k:=by
 unfold val kas_rev
 rw [QE,getElem?_mirror_all hj]
 by_cases h:i<=k/\k < j
 ·rw [if_pos h,if_pos h,←QE]
 ·rw [if_neg h,if_neg h,←QE]
theorem aiM {src d k:Nat} (hs:src < p.size) (hd:d<=src):val rk (bubble p src d) k=if k=src - d then val rk p src else if src - d < k/\k<=src then val rk p (k - 1) else val rk p k:=by
 unfold val
 rw [QE,getElem?_bubble hs d hd k]
 by_cases h:k=src - d
 ·rw [if_pos h,if_pos h,←QE]
 ·rw [if_neg h,if_neg h]
  by_cases h2:src - d < k/\k<=src
  ·rw [if_pos h2,if_pos h2,←QE]
  ·rw [if_neg h2,if_neg h2,←QE]
theorem OKp.rev (h:OKp n p) (i j:Nat):OKp n (kas_rev p i j):=(mirror_perm p i j _).trans h
theorem OKp.bub (h:OKp n p) (i j:Nat):OKp n (bubble p i j):=(bubble_perm p i j).trans h
theorem aae {m q k:Nat} (hm:m<=p.size) (hq:q+1<=m) (h:af5 rk p m q):val rk (kas_rev p (m - (q+1)) m) k=val rk p k:=by
 rw [ab4 hm]
 split
 ·rename_i hk
  rw [h _ (by omega) (by omega),h k hk.1 hk.2]
 ·rfl
end
variable {rk:Nat->Int}{n:Nat}{cmp:Nat->Nat->(Bool->Shared->Prop)->Shared->Prop}
section
variable {s:Shared} (hc:∀ i j (C:Bool->Shared->Prop),i < n->j < n->C (decide (rk i < rk j)) s->cmp i j C s)
include hc
theorem acM {α:Type}{p:Array Nat}{a b:Nat}{k:Bool->KasT α}{Q:α->Shared->Prop} (h:OKp n p) (ha:a < n) (hb:b < n) (h1:val rk p a < val rk p b->(k true).kasWp cmp Q s) (h2:val rk p b<=val rk p a->(k false).kasWp cmp Q s):
  (KasT.ask (p.getD a 0) (p.getD b 0) k).kasWp cmp Q s:=by
 refine hc _ _ _ (h.lt ha) (h.lt hb) ?_
 by_cases hl:rk (p.getD a 0) < rk (p.getD b 0)
 ·simp only [hl,decide_true]; exact h1 hl
 ·simp only [hl,decide_false]; exact h2 (Int.not_lt.mp hl)
theorem ahG {p:Array Nat} (h:OKp n p):∀ (f m:Nat) (Q:Nat->Shared->Prop),1<=m->m+f<=n->QD rk p m->
  (∀ m',m<=m'->m'<=m+f->QD rk p m'->(m'=m+f ∨ val rk p m' < val rk p (m' - 1))->Q m' s)->(kas_asc p f m).kasWp cmp Q s
 | 0,m,Q,_,_,hs,k=>k m (Nat.le_refl _) (Nat.le_refl _) hs (.inl rfl)
 | f+1,m,Q,h1,h2,hs,k=>by
  refine acM hc h (by omega) (by omega) (fun hl=>?_) (fun hl=>?_)
  ·show (if true=true then KasT.ret m else kas_asc p f (m+1)).kasWp cmp Q s
   rw [if_pos rfl]
   exact k m (Nat.le_refl _) (by omega) hs (.inr hl)
  ·show (if false=true then KasT.ret m else kas_asc p f (m+1)).kasWp cmp Q s
   rw [if_neg Bool.false_ne_true]
   refine ahG h f (m+1) Q (by omega) (by omega) (fun i j hij hj=>?_) fun m' a1 a2 a3 a4=>k m' (by omega) (by omega) a3 (a4.elim (fun e=> .inl (by omega)) .inr)
   by_cases hjm:j < m
   ·exact hs i j hij hjm
   ·have ej:j=m:=by omega
    subst ej
    by_cases him:i < j
    ·exact Int.le_trans (hs i (j - 1) (by omega) (by omega)) hl
    ·have ei:i=j:=by omega
     subst ei; exact Int.le_refl _
theorem ab5:∀ (f:Nat) (p:Array Nat) (m q:Nat) (Q:Array Nat × Nat × Nat->Shared->Prop),OKp n p->q+1<=m->m+f<=n->acL rk p m->af5 rk p m q->
  (∀ p' m' q',OKp n p'->q'+1<=m'->m'<=m+f->acL rk p' m'->af5 rk p' m' q'->Q (p',m',q') s)->(kas_desc f p m q).kasWp cmp Q s
 | 0,p,m,q,Q,h,h1,h2,hn,he,k=>k p m q h h1 (Nat.le_refl _) hn he
 | f+1,p,m,q,Q,h,h1,h2,hn,he,k=>by
  have hsz:=h.size
  have grow:∀ {p':Array Nat},(∀ i,val rk p' i=val rk p i)->val rk p m<=val rk p (m - 1)->acL rk p' (m+1):=fun {p'} hv hl i j hij hj=>by
   rw [hv,hv]
   by_cases hjm:j < m
   ·exact hn i j hij hjm
   ·have ej:j=m:=by omega
    subst ej
    by_cases him:i < j
    ·exact Int.le_trans hl (hn i (j - 1) (by omega) (by omega))
    ·have ei:i=j:=by omega
     subst ei; exact Int.le_refl _
  refine acM hc h (by omega) (by omega) (fun hl=>?_) (fun hl=>?_)
  ·show (if true=true then (if q > 0 then kas_desc f (kas_rev p (m - (q+1)) m) (m+1) 0 else kas_desc f p (m+1) 0) else _).kasWp cmp Q s
   rw [if_pos rfl]
   have er:∀ {p':Array Nat},af5 rk p' (m+1) 0:=fun {p'} i h3 h4=>by
    have e:i=m+1 - 1:=by omega
    rw [e]
   by_cases hq:q > 0
   ·rw [if_pos hq]
    exact ab5 f _ (m+1) 0 Q (h.rev _ _) (by omega) (by omega) (grow (fun i=>aae (by omega) h1 he) (Int.le_of_lt hl)) er fun p' m' q' a1 a2 a3 a4 a5=>k p' m' q' a1 a2 (by omega) a4 a5
   ·rw [if_neg hq]
    exact ab5 f p (m+1) 0 Q h (by omega) (by omega) (grow (fun _=>rfl) (Int.le_of_lt hl)) er fun p' m' q' a1 a2 a3 a4 a5=>k p' m' q' a1 a2 (by omega) a4 a5
  ·show (if false=true then _ else KasT.ask (p.getD (m - 1) 0) (p.getD m 0) fun d=>if d=true then .ret (p,m,q) else kas_desc f p (m+1) (q+1)).kasWp cmp Q s
   rw [if_neg Bool.false_ne_true]
   refine acM hc h (by omega) (by omega) (fun hl2=>?_) (fun hl2=>?_)
   ·show (if true=true then KasT.ret (p,m,q) else kas_desc f p (m+1) (q+1)).kasWp cmp Q s
    rw [if_pos rfl]
    exact k p m q h h1 (by omega) hn he
   ·show (if false=true then KasT.ret (p,m,q) else kas_desc f p (m+1) (q+1)).kasWp cmp Q s
    rw [if_neg Bool.false_ne_true]
    have eq:val rk p m=val rk p (m - 1):=Int.le_antisymm hl2 hl
    refine ab5 f p (m+1) (q+1) Q h (by omega) (by omega) (grow (fun _=>rfl) hl2) (fun i h3 h4=>?_) fun p' m' q' a1 a2 a3 a4 a5=>k p' m' q' a1 a2 (by omega) a4 a5
    have e1:m+1 - 1=m:=by omega
    rw [e1]
    by_cases him:i < m
    ·rw [he i (by omega) him,eq]
    ·have ei:i=m:=by omega
     rw [ei]
theorem aiN {p:Array Nat}{m:Nat}{Q:Nat × Array Nat->Shared->Prop} (h:OKp n p) (h1:1<=m) (h2:m<=n) (hn:acL rk p m) (k:∀ m' p',OKp n p'->1<=m'->m'<=n->QD rk p' m'->Q (m',p') s):(kas_tail3 m n p).kasWp cmp Q s:=by
 have hsz:=h.size
 unfold kas_tail3
 rw [KasT.kasWp_bind]
 refine ahG hc (h.rev 0 m) (n - m) m _ h1 (by omega) (fun i j hij hj=>?_) fun m' a1 a2 a3 _=>k m' _ (h.rev 0 m) (by omega) (by omega) a3
 rw [ab4 (by omega),ab4 (by omega),if_pos ⟨Nat.zero_le _,by omega⟩,if_pos ⟨Nat.zero_le _,hj⟩]
 exact hn _ _ (by omega) (by omega)
theorem abJ {p:Array Nat}{m:Nat}{Q:Nat × Array Nat->Shared->Prop} (h:OKp n p) (h2:m+1<=n) (hn:acL rk p (m+1)) (k:∀ m' p',OKp n p'->1<=m'->m'<=n->QD rk p' m'->Q (m',p') s):
  (kas_descPart m n p).kasWp cmp Q s:=by
 unfold kas_descPart
 rw [KasT.kasWp_bind]
 have er:af5 rk p (m+1) 0:=fun i h3 h4=>by
  have e:i=m+1 - 1:=by omega
  rw [e]
 refine ab5 hc (n - (m+1)) p (m+1) 0 _ h (by omega) (by omega) hn er fun p' m' q' a1 a2 a3 a4 a5=>?_
 have hsz:=a1.size
 show (if q' > 0 then kas_tail3 m' n (kas_rev p' (m' - (q'+1)) m') else kas_tail3 m' n p').kasWp cmp Q s
 by_cases hq:q' > 0
 ·rw [if_pos hq]
  refine aiN hc (a1.rev _ _) (by omega) (by omega) (fun i j hij hj=>?_) k
  rw [aae (by omega) a2 a5,aae (by omega) a2 a5]
  exact a4 i j hij hj
 ·rw [if_neg hq]
  exact aiN hc a1 (by omega) (by omega) a4 k
theorem alr {p:Array Nat}{Q:Nat × Array Nat->Shared->Prop} (h:OKp n p) (hn1:1<=n) (k:∀ m' p',OKp n p'->1<=m'->m'<=n->QD rk p' m'->Q (m',p') s):(kas_count n p).kasWp cmp Q s:=by
 have hsz:=h.size
 unfold kas_count
 rw [KasT.kasWp_bind]
 refine ahG hc h (n - 1) 1 _ (Nat.le_refl _) (by omega) (fun i j hij hj=>by
  have e1:i=0:=by omega
  have e2:j=0:=by omega
  rw [e1,e2]; exact Int.le_refl _) fun m a1 a2 a3 a4=>?_
 by_cases hm:(m == n)=true
 ·rw [if_pos hm]
  exact k m p h a1 (by omega) a3
 ·rw [if_neg hm]
  have hmn:m ≠ n:=by simpa using hm
  have hlast:val rk p m < val rk p (m - 1):=a4.resolve_left (by omega)
  by_cases hm1:m > 1
  ·rw [if_pos hm1]
   refine acM hc h (by omega) (by omega) (fun hl=>?_) (fun hl=>?_)
   ·show (if true=true then KasT.ret (m,p) else _).kasWp cmp Q s
    rw [if_pos rfl]
    exact k m p h a1 (by omega) a3
   ·show (if false=true then KasT.ret (m,p) else kas_descPart m n (kas_rev p 0 m)).kasWp cmp Q s
    rw [if_neg Bool.false_ne_true]
    have alleq:∀ i,i < m->val rk p i=val rk p (m - 1):=fun i hi=>by
     have b1:=a3 i (m - 1) (by omega) (by omega)
     have b2:=a3 0 i (Nat.zero_le _) hi
     omega
    have hv:∀ i,val rk (kas_rev p 0 m) i=val rk p i:=fun i=>by
     rw [ab4 (by omega)]
     split
     ·rename_i hi
      rw [alleq _ (by omega),alleq i hi.2]
     ·rfl
    refine abJ hc (h.rev _ _) (by omega) (fun i j hij hj=>?_) k
    rw [hv,hv]
    by_cases hjm:j < m
    ·rw [alleq j hjm,alleq i (by omega)]; exact Int.le_refl _
    ·have ej:j=m:=by omega
     subst ej
     by_cases him:i < j
     ·rw [alleq i him]; exact Int.le_of_lt hlast
     ·have ei:i=j:=by omega
      rw [ei]; exact Int.le_refl _
  ·rw [if_neg hm1]
   have em:m=1:=by omega
   subst em
   refine abJ hc h (by omega) (fun i j hij hj=>?_) k
   by_cases hj0:j=0
   ·have:i=0:=by omega
    rw [this,hj0]; exact Int.le_refl _
   ·have ej:j=1:=by omega
    subst ej
    by_cases hi0:i=0
    ·rw [hi0]; exact Int.le_of_lt hlast
    ·have ei:i=1:=by omega
     rw [ei]; exact Int.le_refl _
theorem acN {p:Array Nat}{k:Nat} (h:OKp n p) (hk:k < n) (hs:QD rk p k):∀ (f l r:Nat) (Q:Nat->Shared->Prop),l<=r->r<=k->r - l<=f->(∀ i,i < l->val rk p i<=val rk p k)->(∀ i,r<=i->i < k->val rk p k < val rk p i)->
  (∀ l',l'<=k->(∀ i,i < l'->val rk p i<=val rk p k)->(∀ i,l'<=i->i < k->val rk p k < val rk p i)->Q l' s)->(kas_place p k f l r).kasWp cmp Q s
 | 0,l,r,Q,h1,h2,h3,a,b,q=>by
  have e:l=r:=by omega
  subst e
  exact q l h2 a b
 | f+1,l,r,Q,h1,h2,h3,a,b,q=>by
  show (if l >= r then KasT.ret l else .ask (p.getD k 0) (p.getD ((l+r) / 2) 0) fun c=>if c=true then kas_place p k f l ((l+r) / 2) else kas_place p k f ((l+r) / 2+1) r).kasWp cmp Q s
  by_cases hlr:l >= r
  ·rw [if_pos hlr]
   have e:l=r:=by omega
   subst e
   exact q l h2 a b
  ·rw [if_neg hlr]
   refine acM hc h hk (by omega) (fun hl=>?_) (fun hl=>?_)
   ·show (if true=true then kas_place p k f l ((l+r) / 2) else kas_place p k f ((l+r) / 2+1) r).kasWp cmp Q s
    rw [if_pos rfl]
    refine acN h hk hs f l ((l+r) / 2) Q (by omega) (by omega) (by omega) a (fun i h4 h5=>?_) q
    exact Int.lt_of_lt_of_le hl (hs _ i h4 h5)
   ·show (if false=true then kas_place p k f l ((l+r) / 2) else kas_place p k f ((l+r) / 2+1) r).kasWp cmp Q s
    rw [if_neg Bool.false_ne_true]
    refine acN h hk hs f ((l+r) / 2+1) r Q (by omega) h2 (by omega) (fun i h4=>?_) b q
    exact Int.le_trans (hs i ((l+r) / 2) (by omega) (by omega)) hl
theorem als:∀ (f:Nat) (p:Array Nat) (k:Nat) (Q:Array Nat->Shared->Prop),OKp n p->k+f=n->QD rk p k->(∀ p',OKp n p'->QD rk p' n->Q p' s)->(kas_bin f p k).kasWp cmp Q s
 | 0,p,k,Q,h,hk,hs,q=>by
  have e:k=n:=by omega
  exact q p h (by rw [←e]; exact hs)
 | f+1,p,k,Q,h,hk,hs,q=>by
  have hsz:=h.size
  show ((kas_place p k k 0 k).bind fun l=>kas_bin f (bubble p k (k - l)) (k+1)).kasWp cmp Q s
  rw [KasT.kasWp_bind]
  refine acN hc h (by omega) hs k 0 k _ (Nat.zero_le _) (Nat.le_refl _) (by omega) (fun i hi=>absurd hi (Nat.not_lt_zero _)) (fun i h1 h2=>absurd h2 (by omega)) fun l hl a b=>?_
  refine als f _ (k+1) Q (h.bub _ _) (by omega) (fun i j hij hj=>?_) q
  have hb:k - (k - l)=l:=by omega
  rw [aiM (by omega) (by omega),aiM (by omega) (by omega),hb]
  by_cases hi1:i=l
  ·rw [if_pos hi1]
   by_cases hj1:j=l
   ·rw [if_pos hj1]; exact Int.le_refl _
   ·rw [if_neg hj1,if_pos ⟨by omega,by omega⟩]
    exact Int.le_of_lt (b _ (by omega) (by omega))
  ·rw [if_neg hi1]
   by_cases hi2:l < i/\i<=k
   ·rw [if_pos hi2,if_neg (by omega),if_pos ⟨by omega,by omega⟩]
    exact hs _ _ (by omega) (by omega)
   ·rw [if_neg hi2]
    by_cases hj1:j=l
    ·rw [if_pos hj1]; exact a i (by omega)
    ·rw [if_neg hj1]
     by_cases hj2:l < j/\j<=k
     ·rw [if_pos hj2]
      exact hs _ _ (by omega) (by omega)
     ·rw [if_neg hj2]
      exact hs _ _ hij (by omega)
theorem sort_ok {Q:Array Nat->Shared->Prop} (hn1:1<=n) (q:∀ p',OKp n p'->QD rk p' n->Q p' s):(kas_sort n).kasWp cmp Q s:=by
 unfold kas_sort
 rw [KasT.kasWp_bind]
 refine alr hc (p:=(List.range n).toArray) (Array.Perm.refl _) hn1 fun m p h h1 h2 hs=>?_
 show (if m < n then kas_bin (n - max m 1) p (max m 1) else KasT.ret p).kasWp cmp Q s
 have em:max m 1=m:=by omega
 by_cases hm:m < n
 ·rw [if_pos hm,em]
  exact als hc (n - m) p m Q h (by omega) hs q
 ·rw [if_neg hm]
  have e:m=n:=by omega
  exact q p h (by rw [←e]; exact hs)
end
end BX.Srt
end
section
namespace BX
open PySem PySem.Spec L2
open PyProof.Rows hiding St
theorem anH (vs:List Value):(vs.toArray.zip vs.toArray).map (·.2)=vs.toArray:=by
 apply Array.toList_inj.mp
 simp [List.map_snd_zip]
theorem anI (vs:List Value):(arrOf (SortSt.mk' general' (vs.toArray.zip vs.toArray) #[] 7 none)).map (·.2)=vs.toArray:=anH vs
section
variable {prog:Program}{w:World}{A:Around}{E:Value->Shared->Prop}{s:Shared}
theorem ahH {l:Addr}{vs:List Value}{Q:Value->Shared->Prop} (hl:s.heap.IsList l vs.toArray) (h2:vs.length < 2)
  (h:∀ h' D c,(∀ b o,s.heap.get? b=some o->h'.get? b=some o)->h'.get? D=some (lob vs.toArray c)->s.heap.objs.size<=D->Q (.ref D) { s with heap:=h' }):
  wpAny (model prog w) A (call (.builtin "sorted") [.ref l]) Q E s:=by
 have small:vs.length<=sizeLine:=by rw [sizeLine_eq]; omega
 refine Calls.call_function_entry kind_sorted plain_sorted entry_sorted (args_sorted1 _) ?_
 unfold Builtin.«sorted»
 refine wpAny_bind (m:=checkCount "sorted" 1 1 _) (wpAny_pure ?_)
 refine wpAny_bind (collect_list hl ?_ small)
 refine wpAny_bind (wpAny_newList ?_ small)
 generalize hh1:(s.heap.push (seqObj "list" #[] 0)).update s.heap.objs.size (Obj.mapSeq (·++vs.toArray))=h1
 have n1:h1.objs.size=s.heap.objs.size+1:=by rw [←hh1,Heap.size_update,size_push']
 have k1:∀ b o,s.heap.get? b=some o->h1.get? b=some o:=fun b o q=>by
  have hlt:b < s.heap.objs.size:=Heap.lt_size q
  rw [←hh1,Heap.get?_update_ne _ _ _ _ (Nat.ne_of_lt hlt),Heap.get?_push_ne _ _ _ (Nat.ne_of_lt hlt)]
  exact q
 have hD:(h1.push (seqObj "list" vs.toArray 0)).get? h1.objs.size=some (seqObj "list" vs.toArray 0):=Heap.get?_push_size _ rfl
 refine wpAny_bind (wpAny_holding (wpAny_call_entry (s:={ s with heap:=h1.push (seqObj "list" vs.toArray 0) }) slot_list_sort ⟨_,hD,rfl⟩ entry_list_sort ?body (args_list_sort _)))
 case body=>
  rw [list_sort_plain]
  refine wpAny_bind (listItems_at hD rfl ?_)
  refine wpAny_bind (listUpdate_at hD rfl ?_ (by rw [List.size_toArray]; exact small) (Nat.zero_le _))
  obtain ⟨e1,ho1⟩:∃ e1,((h1.push (seqObj "list" vs.toArray 0)).update h1.objs.size (Obj.mapSeq fun _=>(#[]:Array Value))).get? h1.objs.size=some (seqObj "list" #[] e1):=⟨_,get?_update_seq hD fun _=>#[]⟩
  refine wpAny_bind (seqEpoch_at ho1 rfl ?_)
  refine wpAny_bind (wpAny_newTuple ?_ small)
  refine wpAny_bind (wpAny_newList ?_ (Nat.zero_le _))
  refine wpAny_holding ?_
  dsimp only
  have hlt:vs.toArray.size < 2:=by rw [List.size_toArray]; exact h2
  rw [if_pos hlt,if_pos hlt]
  refine wpAny_bind (wpAny_pure ?_)
  rw [StateT.run_pure]
  refine wpAny_bind (wpAny_pure ?_)
  dsimp only
  have ho3:((((h1.push (seqObj "list" vs.toArray 0)).update h1.objs.size (Obj.mapSeq fun _=>(#[]:Array Value))).push (seqObj "tuple" vs.toArray 0)).push (seqObj "list" #[] 0)).get? h1.objs.size=some (seqObj "list" #[] e1):=Heap.get?_push_of_some _ (Heap.get?_push_of_some _ ho1)
  refine wpAny_bind (seqEpoch_at ho3 rfl ?_)
  rw [anI]
  refine wpAny_bind (listUpdate_at ho3 rfl ?_ (Nat.zero_le _) (by rw [List.size_toArray]; exact Nat.le_succ_of_le small))
  obtain ⟨c2,hc2⟩:=aeV (ws:=vs.toArray) (show _=some (lob #[] e1) from ho3)
  simp only [bne_self_eq_false,zzL,zzN]
  refine wpAny_pure ⟨_,rfl,?_⟩
  refine wpAny_pure ⟨_,rfl,?_⟩
  refine h _ _ c2 (fun b o q=>?_) hc2 (by rw [n1]; exact Nat.le_succ _)
  have q1:=k1 b o q
  have lt1:b < h1.objs.size:=Heap.lt_size q1
  have u1:=Heap.SameBut.update (h1.push (seqObj "list" vs.toArray 0)) h1.objs.size (Obj.mapSeq fun _=>(#[]:Array Value))
  have q2:=(u1.2 b (Nat.ne_of_lt lt1)).trans (Heap.get?_push_of_some _ q1)
  have q3:=Heap.get?_push_of_some { cls:= .type "list",data:= .seq (#[]:Array Value) } (Heap.get?_push_of_some { cls:= .type "tuple",data:= .seq vs.toArray } q2)
  exact ((Heap.SameBut.update _ h1.objs.size (Obj.mapSeq fun _=>vs.toArray)).2 b (Nat.ne_of_lt lt1)).trans q3
end
theorem qt.there {P:Program}{w:World}{H:Hp}{h:Heap}{a:Addr}{o:HO} (x:qt P w H h a o):∃ u,h.get? a=some u:=by
 cases o with
 | lst xs=>obtain ⟨_,_,_,_,e⟩:=x; exact ⟨_,e⟩
 | tup xs=>obtain ⟨_,_,_,u,e,_⟩:=x; exact ⟨_,e⟩
 | dK kvs=>obtain ⟨_,_,_,_,o,_,_,e,_⟩:=x; exact ⟨_,e⟩
 | dT kvs=>obtain ⟨_,_,_,_,o,_,_,e,_⟩:=x; exact ⟨_,e⟩
 | set S n=>obtain ⟨o,_,_,_,e,_⟩:=x; exact ⟨_,e⟩
 | ins C dx fs=>obtain ⟨_,_,_,e,_⟩:=x; exact ⟨_,e⟩
 | own y=>obtain ⟨_,e⟩:=x; exact ⟨_,e⟩
 | xd fs=>obtain ⟨_,⟨_,_,_,e,_⟩,_⟩:=x; exact ⟨_,e⟩
 | rng lo hi=>obtain ⟨_,_,_,e⟩:=x; exact ⟨_,e⟩
 | frz ob u=>obtain ⟨e,_⟩:=x; exact ⟨_,e⟩
 | tbl ps=>exact ⟨_,(show h.get? a=some _ from x)⟩
 | met f y=>exact ⟨_,(show h.get? a=some _ from x)⟩
 | ext φ=>obtain ⟨_,⟨_,e⟩,_⟩:=x; exact ⟨_,e⟩
theorem ap4 {h:Heap}{L:Addr}{m m':Str->Option Value} (a:h.Ns L m) (b:h.Ns L m'):m=m':=by
 obtain ⟨o,es,ep,e1,d1,_,q1⟩:=a
 obtain ⟨o',es',ep',e2,d2,_,q2⟩:=b
 rw [e1] at e2; cases e2
 rw [d1] at d2; cases d2
 funext x
 rw [←q1 x,←q2 x]
theorem Inv.grownL {X:Cx}{pins:List (Addr × Obj)}{σ:St}{H:Hp}{s:Shared}{h':Heap}{m:Str->Option Value}{D:Addr}{ys:List V}{us:List Value}{c:Nat} (I:Inv X pins σ H s) (hm:s.heap.Ns X.env.locals m) (hm':h'.Ns X.env.locals m)
  (kp:∀ b o,b ≠ X.env.locals->s.heap.get? b=some o->h'.get? b=some o) (hD:s.heap.get? D=none) (ho:h'.get? D=some (lob us.toArray c)) (rv:jG ys us) (hz:ys.length<=sizeLine):Inv X pins σ (upd H D (.lst ys)) { s with heap:=h' }:=by
 have nD:H D=none:=by
  cases e:H D with
  | none=>rfl
  | some o=>obtain ⟨u,q⟩:=qt.there (I.hok D o e); rw [hD] at q; cases q
 have neD:∀ b u,H b=some u->b ≠ D:=fun b u e z=>by rw [z,nD] at e; cases e
 have nL:∀ b u,H b=some u->b ≠ X.env.locals:=fun b u e z=>by rw [z,I.free] at e; cases e
 refine I.step (t':=s.toks) (g':=s.gens) (d':=s.drawn) (ch:=[]) (fun b hb=>nomatch hb) (fun b o hL _ _ e _=>kp b o hL e) (fun b o hL _ _ e _=>⟨o.slots,kp b o hL e⟩) (fun b o _ e n=>?_) (fun b o _ e=>?_) (fun b ws e=>by rw [jn (neD b _ e)]; exact e)
  (fun b ob ws e=>by rw [jn (neD b _ e)]; exact e) (fun b ps e=>⟨#[],by rw [jn (neD b _ e),e]; simp⟩) (fun m2 h2=>by rw [←ap4 hm h2]; exact hm') (fun b u e=>?_) I.bare
 ·have:b ≠ D:=fun z=>by rw [z,hD] at e; cases e
  rw [jn this]; exact n
 ·by_cases hb:b=X.env.locals
  ·obtain ⟨o',_,_,e',_⟩:=hm'
   exact ⟨o',by rw [hb]; exact e'⟩
  ·exact ⟨o,kp b o hb e⟩
 ·by_cases hb:b=D
  ·subst hb
   rw [jr] at e
   cases e
   exact ⟨hz,us,c,rv,ho⟩
  ·rw [jn hb] at e
   refine (I.hok b u e).stay (fun c' o hc' q=>kp c' o ?_ q) (fun c' q=>by rw [jn (neD c' _ q)]; exact q) fun c' ws q=>by rw [jn (neD c' _ q)]; exact q
   rcases hc' with q' | q'
   ·rw [q']; exact nL b u e
   ·exact nL c' _ q'
noncomputable def qP (p:Int × Int):PyData:= .tuple [.int p.1,.int p.2]
noncomputable def inB (p:Int × Int):Bool:=decide (0<=p.2) && decide (p.2 < 1000000)
structure PairAt (h:Heap) (u:Value) (p:Int × Int):Prop where
 ex:∃ a o k t t',u= .ref a/\h.get? a=some o/\o.cls= .type "tuple"/\o.data= .seq #[.int p.1 t,.int p.2 t'] k
theorem getD_some {α:Type}{l:List α}{i:Nat}{d x:α} (h:l[i]?=some x):l.getD i d=x:=by simp [List.getD,h]
theorem ajL {us:List Value}{xs:List V} (rv:jG xs us) (is:List Nat) (h:∀ i ∈ is,i < us.length):jG (is.map fun i=>xs.getD i .non) (is.map fun i=>us.getD i Value.none):=by
 induction is with
 | nil=>exact .nil
 | cons i is ih=>
  have hi:=h i List.mem_cons_self
  have hl:=rv.length
  obtain ⟨u,e1,e2⟩:=rv.get (show xs[i]?=some (xs[i]'(by omega)) by simp [hl,hi])
  refine .cons ?_ (ih fun j hj=>h j (List.mem_cons_of_mem _ hj))
  show L2.jP (xs.getD i .non) (us.getD i Value.none)
  rw [getD_some e1,getD_some (show xs[i]?=some (xs[i]'(by omega)) by simp [hl,hi])]
  exact e2
theorem ajM {K:PySem.W.Frag}{H:Hp}{ds:List PyData}{xs:List V} (r:Reps K H ds xs) (is:List Nat) (h:∀ i ∈ is,i < ds.length):Reps K H (is.map fun i=>ds.getD i .none) (is.map fun i=>xs.getD i .non):=by
 induction is with
 | nil=>rfl
 | cons i is ih=>
  have hi:=h i List.mem_cons_self
  obtain ⟨x,e1,e2⟩:=r.get (show ds[i]?=some ds[i] by simp [hi])
  refine ⟨_,_,rfl,?_,ih fun j hj=>h j (List.mem_cons_of_mem _ hj)⟩
  show Rep K H (ds.getD i .none) (xs.getD i .non)
  rw [getD_some e1,getD_some (show ds[i]?=some ds[i] by simp [hi])]
  exact e2
theorem aeW {α:Type}{R:α->α->Prop}:∀ {l:List α},l.length < 2->l.Pairwise R
 | [],_=> .nil
 | [p],_=>List.pairwise_singleton _ _
 | _::_::_,h=>by simp at h; omega
section
variable {X:Cx}
variable {a b:Expr}{fa fb:Rho->Option PyData}{pos p2:Pos}
noncomputable def ajN:PyData->Option PyData
 | .int i=>some (.int (-i))
 | _=>none
theorem Q9 (h:PD X a fa):PD X (.UnaryOp .USub a pos) (fun ρ=>(fa ρ).bind ajN):=by
 with_unfolding_all
  refine PE.imp (aq0 apI h) fun σ H Q ⟨ρ,d,en,q,k⟩=>?_
  cases h1:fa ρ with
  | none=>simp [h1] at q
  | some y=>
   refine ⟨ρ,y,en,h1,fun v H1 s1 r1=>?_⟩
   have q':ajN y=some d:=by simpa [h1] using q
   cases y with
   | int i=>cases q'; cases (show v=_ from r1); exact ⟨i,rfl,k _ H1 s1 rfl⟩
   | _=>cases q'
end
noncomputable def QV (bt:Int->Int->Bool):List Int->Option Int
 | []=>none
 | n::ns=>some (ns.foldl (fun a b=>if bt b a then b else a) n)
theorem ahI (bt:Int->Int->Bool) (ns:List Int) (x m:Int) (h:QV bt ns=some m):QV bt (ns++[x])=some (if bt x m then x else m):=by
 cases ns with
 | nil=>cases h
 | cons n ns=>
  have:ns.foldl (fun a b=>if bt b a then b else a) n=m:=by simpa [QV] using h
  subst this
  simp [QV,List.foldl_append]
theorem ad3 (bt:Int->Int->Bool) (ns:List Int):∀ k,k < ns.length->QV bt (ns.take (k+1))=some (ns.getD (argBest (fun i j=>bt (ns.getD i 0) (ns.getD j 0)) k) 0)
 | 0,h=>by
  cases ns with
  | nil=>simp at h
  | cons n ns=>simp [QV,argBest]
 | k+1,h=>by
  have ih:=ad3 bt ns k (by omega)
  have h1:ns.take (k+1+1)=ns.take (k+1)++[ns.getD (k+1) 0]:=by rw [List.take_succ]; simp [h,List.getD]
  rw [h1,ahI bt _ _ _ ih]
  simp only [argBest]
  by_cases hb:bt (ns.getD (k+1) 0) (ns.getD (argBest (fun i j=>bt (ns.getD i 0) (ns.getD j 0)) k) 0)=true
  ·rw [if_pos hb,if_pos hb]
  ·rw [if_neg hb,if_neg hb]
theorem alu (bt:Int->Int->Bool) (ns:List Int) (h:0 < ns.length):QV bt ns=some (ns.getD (argBest (fun i j=>bt (ns.getD i 0) (ns.getD j 0)) (ns.length - 1)) 0):=by
 have:=ad3 bt ns (ns.length - 1) (by omega)
 rwa [Nat.sub_add_cancel h,List.take_length] at this
variable {X:Cx}
noncomputable def apd (K:PySem.W.Frag) (bt:Int->Int->Bool):List V->Hp->VK->Prop:=fun xs H Q=>∃ a ns m,xs=[.ref a]/\(SqL K H a (List.map V.int ns) ∨ SqT K H a (List.map V.int ns))/\QV bt ns=some m/\Q (.int m) H
theorem ajO (hc:X.calm=true):ze X (.builtin "min") (apd X.K fun i j=>decide (i < j)):=by
 intro pins s σ H xs us Q I r ⟨a,ns,m,e,hq,hm,q⟩
 subst e
 obtain ⟨u,rfl,rx⟩:=Z3 r
 cases rx
 have hh:=I.ok.hd hc
 have h0:0 < ns.length:=by cases ns with
  | nil=>cases hm
  | cons n ns=>simp
 have hb:=alu (fun i j=>decide (i < j)) ns h0
 rw [hm] at hb
 have hb:=Option.some.inj hb
 rcases hq with hq | hq
 ·obtain ⟨its,rv,pl,hz⟩:=I.list hq
  have hl:its.toArray.size=ns.length:=by have:=rv.length; simp at this ⊢; omega
  refine call_min_walk (abe pl.isList fun h2 it st hlt hne k1 hn=>?_)
  refine ⟨it,[it,a],[it],its.toArray.size,(fun i v=>its.toArray[i]?=some v),_,_,rfl,Walks.list (A:=X.A.in1) hh it a hne its.toArray,st,hlt,by rw [hl]; exact h0,CmpOf.ints_lt (fun i=>ns.getD i 0) fun i v hP=>zq rv hP,fun v h3 tk hP k2=>?_⟩
  obtain ⟨t,rfl⟩:=zq rv hP
  exact ⟨.int m,H,I.kept (t':=tk) (aat k1 hn k2),⟨t,by rw [hl]; rw [hb]⟩,q⟩
 ·obtain ⟨its,rv,pl,hz⟩:=I.tuple hq
  have hl:its.toArray.size=ns.length:=by have:=rv.length; simp at this ⊢; omega
  refine call_min_walk (ad0 (show s.heap.IsTuple a its.toArray from pl) fun h2 it st hlt hne k1 hn=>?_)
  refine ⟨it,[it,a],[it],its.toArray.size,(fun i v=>its.toArray[i]?=some v),_,_,rfl,Walks.tuple (A:=X.A.in1) hh it a hne its.toArray,st,hlt,by rw [hl]; exact h0,CmpOf.ints_lt (fun i=>ns.getD i 0) fun i v hP=>zq rv hP,fun v h3 tk hP k2=>?_⟩
  obtain ⟨t,rfl⟩:=zq rv hP
  exact ⟨.int m,H,I.kept (t':=tk) (aat k1 hn k2),⟨t,by rw [hl]; rw [hb]⟩,q⟩
noncomputable def ad4 (bt:Int->Int->Bool) (ds:List PyData):Option PyData:=match ds with
 | [.list xs]=>(zp xs).bind fun ns=>(QV bt ns).map .int
 | [.tuple xs]=>(zp xs).bind fun ns=>(QV bt ns).map .int
 | _=>none
theorem anJ {K:PySem.W.Frag}{bt:Int->Int->Bool}{ds:List PyData}{d:PyData}{xs:List V}{H:Hp}{Q:VK} (h:ad4 bt ds=some d) (r:Reps K H ds xs) (k:∀ v H',jq H H'->Rep K H' d v->Q v H'):apd K bt xs H Q:=by
 unfold ad4 at h
 split at h
 ·rename_i ys
  cases hb:zp ys with
  | none=>simp [hb] at h
  | some ns=>
   cases hf:QV bt ns with
   | none=>simp [hb,hf] at h
   | some m=>
    have:PyData.int m=d:=by simpa [hb,hf] using h
    subst this
    obtain ⟨x,q,e1,e2,e3⟩:=r
    cases (show q=[] from e3)
    obtain ⟨a,us,g1,g2,g3⟩:=e2
    subst g1
    rw [Qh hb] at g3
    have:=Reps.ints g3
    subst this
    exact ⟨a,ns,m,e1,.inl (SqL.of g2),hf,k _ H (jq.refl H) rfl⟩
 ·rename_i ys
  cases hb:zp ys with
  | none=>simp [hb] at h
  | some ns=>
   cases hf:QV bt ns with
   | none=>simp [hb,hf] at h
   | some m=>
    have:PyData.int m=d:=by simpa [hb,hf] using h
    subst this
    obtain ⟨x,q,e1,e2,e3⟩:=r
    cases (show q=[] from e3)
    obtain ⟨a,us,g1,g2,g3⟩:=e2
    subst g1
    rw [Qh hb] at g3
    have:=Reps.ints g3
    subst this
    exact ⟨a,ns,m,e1,.inr g2,hf,k _ H (jq.refl H) rfl⟩
 ·cases h
theorem anK (hc:X.calm=true):Qf X (.builtin "min") (ad4 fun i j=>decide (i < j)):=⟨_,ajO hc,fun ds d xs H Q h r k=>anJ h r k⟩
end BX
end
section
namespace BX
open PySem PySem.Spec L2
open PyProof.Rows hiding St
variable {X:Cx}
noncomputable def adK (f:Expr->Option PyData):List Expr->Option (List PyData)
 | []=>some []
 | e::es=>(f e).bind fun d=>(adK f es).map fun ds=>d::ds
noncomputable def lit:Nat->Expr->Option PyData
 | 0,_=>none
 | n+1,e=>match e with
  | .Constant (.int i) _ _=>some (.int i)
  | .Constant (.bool b) _ _=>some (.bool b)
  | .Constant .none _ _=>some .none
  | .Constant (.str x) _ _=>some (.str x)
  | .Tuple es _ _=>(adK (lit n) es).bind fun ds=>if few ds=true then some (.tuple ds) else none
  | .List es _=>(adK (lit n) es).bind fun ds=>if few ds=true then some (.list ds) else none
  | _=>none
theorem PD.as {e:Expr}{F G:Rho->Option PyData} (h:PD X e F) (hi:∀ ρ d,G ρ=some d->F ρ=some d):PD X e G:=by
 with_unfolding_all exact (PE.imp h fun σ H Q ⟨ρ,d,en,q,k⟩=>⟨ρ,d,en,hi ρ d q,k⟩)
theorem PAD.as {es:List Expr}{F G:Rho->Option (List PyData)} (h:PAD X es F) (hi:∀ ρ d,G ρ=some d->F ρ=some d):PAD X es G:=by
 with_unfolding_all exact (PA.imp h fun σ H Q ⟨ρ,d,en,q,k⟩=>⟨ρ,d,en,hi ρ d q,k⟩)
noncomputable def alv (e:Expr):Prop:=∀ (es:List Expr) (env:Env),starEach (e::es) env=(false,eval e env)::starEach es env
theorem aeX {f:Expr->Option PyData} (hf:∀ e d,f e=some d->PD X e (cst d)/\alv e):∀ (es:List Expr) (ds:List PyData),adK f es=some ds->PAD X es (fun _=>some ds)
 | [],ds,h=>by cases h; exact je
 | e::es,ds,h=>by
  cases h1:f e with
  | none=>simp [adK,h1] at h
  | some d=>
   cases h2:adK f es with
   | none=>simp [adK,h1,h2] at h
   | some r=>
    have:d::r=ds:=by with_unfolding_all simpa [adK,h1,h2] using h
    subst this
    obtain ⟨p,st⟩:=hf e d h1
    exact (ja p (aeX hf es r h2) (st es X.env)).as fun ρ d' q=>by cases q; simp [jk,cst]
theorem ahJ:∀ (n:Nat) (e:Expr) (d:PyData),lit n e=some d->PD X e (cst d)/\alv e
 | 0,e,d,h=>by cases h
 | n+1,e,d,h=>by
  unfold lit at h
  split at h
  ·cases h; exact ⟨jg,fun _ _=>rfl⟩
  ·cases h; exact ⟨JK,fun _ _=>rfl⟩
  ·cases h; exact ⟨ahw,fun _ _=>rfl⟩
  ·cases h; exact ⟨aeM,fun _ _=>rfl⟩
  ·rename_i es x1 pos
   cases h1:adK (lit n) es with
   | none=>simp [h1] at h
   | some ds=>
    by_cases hf:few ds=true
    ·have:PyData.tuple ds=d:=by with_unfolding_all simpa [h1,hf] using h
     subst this
     exact ⟨(za (aeX (ahJ n) es ds h1)).as fun ρ d' q=>by cases q; simp [zG,hf],fun _ _=>rfl⟩
    ·simp [h1,hf] at h
  ·rename_i es pos
   cases h1:adK (lit n) es with
   | none=>simp [h1] at h
   | some ds=>
    by_cases hf:few ds=true
    ·have:PyData.list ds=d:=by simpa [h1,hf] using h
     subst this
     exact ⟨(qw (aeX (ahJ n) es ds h1)).as fun ρ d' q=>by cases q; simp [JV,hf],fun _ _=>rfl⟩
    ·simp [h1,hf] at h
  ·cases h
theorem Jw (n:Nat) {e:Expr} (d:PyData) (h:lit n e=some d):PD X e (cst d):=by
 with_unfolding_all exact ((ahJ n e d h).1)
end BX
end
section
namespace BX
open PySem L2
open PyProof.Rows hiding St
noncomputable def jW (K:PySem.W.Frag) (x:Str) (st:Stmt):Prop:=
 ∃ (f:Addr) (oc:Value) (od an:Option Addr) (kV doc pm cdv ct:Value) (osl:Array (Option Value)),PySem.W.nsIn K mainGlobals x=some (some (.ref f))/\
  K.lookup f=some ⟨oc,od,.func (PySem.W.fnOf x x (Qz st) (jK st) (jf st) .none kV doc pm an cdv ct),osl⟩/\PySem.W.codeIn K cdv x=true/\PySem.W.keepIn K (.ref f)=true
theorem alw {K:PySem.W.Frag}{x:Str}{st:Stmt}{f:Addr}{oc:Value}{od an:Option Addr}{kV doc pm cdv ct:Value}{osl:Array (Option Value)} (a:PySem.W.nsIn K mainGlobals x=some (some (.ref f)))
  (l:K.lookup f=some ⟨oc,od,.func (PySem.W.fnOf x x (Qz st) (jK st) (jf st) .none kV doc pm an cdv ct),osl⟩) (c:PySem.W.codeIn K cdv x=true) (k:PySem.W.keepIn K (.ref f)=true):jW K x st:=
 ⟨f,oc,od,an,kV,doc,pm,cdv,ct,osl,a,l,c,k⟩
noncomputable abbrev jt (x:Str) (st:Stmt) (ps:List Str):Prop:=∀ (kV doc pm:Value) (an:Option Addr) (cdv ct:Value) (us:List Value),us.length=ps.length->bindArgs (PySem.W.fnOf x x (Qz st) (jK st) (jf st) .none kV doc pm an cdv ct) ⟨us,[]⟩=pure (ps.zip us)
theorem jW.callee {P:Program}{w:World}{K:PySem.W.Frag}{mg:Str->Option Value}{base h:Heap}{x:Str}{st:Stmt}{ps:List Str}{k n:Nat}{g:List PyData->Option PyData} (T:jW K x st) (X:K.In h) (G:h.Ns mainGlobals mg)
  (hb:jt x st ps) (F:∀ (f:Addr) (fd:FuncData),Fun K x x st f fd->FnOk P w K mg base CX0 k f fd ps (Pur K n g)):jm P w K mg base x ps k n g:=by
 obtain ⟨f,oc,od,an,kV,doc,pm,cdv,ct,osl,a,l,c,kp⟩:=T
 have F1:=aeK (st:=st) l c kp
 exact ⟨f,_,F f _ F1,PySem.W.mg_of X G a,kp,F1.binds hb⟩
theorem jm.as {P:Program}{w:World}{K:PySem.W.Frag}{mg:Str->Option Value}{base:Heap}{x:Str}{ps:List Str}{k n:Nat}{g g':List PyData->Option PyData} (C:jm P w K mg base x ps k n g) (h:∀ ds d,g' ds=some d->g ds=some d):jm P w K mg base x ps k n g':=by
 obtain ⟨f,fd,F,a,b,c⟩:=C
 exact ⟨f,fd,arf F fun ds d _ q=>h ds d q,a,b,c⟩
theorem alx {K:PySem.W.Frag}{mg:Str->Option Value}{h:Heap}{x:Str}{a:Addr}{ob:Obj}{ds:List PyData} (X:K.In h) (G:h.Ns mainGlobals mg) (e:PySem.W.nsIn K mainGlobals x=some (some (.ref a))) (l:K.lookup a=some ob)
  (hc:ob.cls= .type "tuple") (hi:∃ (its:Array Value) (n:Nat) (xs:List V),ob.data= .seq its n/\its.size<=sizeLine/\jG xs its.toList/\∀ H,Reps K H ds xs):∃ v u,mg x=some u/\jP v u/\∀ H,Rep K H (.tuple ds) v:=by
 obtain ⟨its,n,xs,h1,h2,h3,h4⟩:=hi
 exact ⟨.ref a,.ref a,PySem.W.mg_of X G e,rfl,fun H=>⟨a,xs,rfl,.inr ⟨ob,its,n,l,hc,h1,h2,h3⟩,h4 H⟩⟩
end BX
end
section
namespace BX
open PySem PySem.Spec L2
open PyProof.Rows hiding St
noncomputable def QW (a:Addr) (xs:List V):HO:= .ext fun h=>xs.length<=sizeLine/\∃ (its:List Value) (n:Nat),jG xs its/\h.get? a=some { cls:= .type "list",data:= .seq its.toArray n }
noncomputable def abK (P:Program) (w:World) (a:Addr) (ob:Obj) (ks:List (Key × V)):HO:= .ext fun h=>h.get? a=some ob/\ks.length<=sizeLine/\(a == sysModules)=false/\∃ vs,KV ks vs/\h.DictOf (j1 P w) a vs
inductive Seal (P:Program) (w:World) (a:Addr):HO->HO->Prop where
 | l (xs:List V):Seal P w a (QW a xs) (.lst xs)
 | d (ob:Obj) (ks:List (Key × V)):Seal P w a (abK P w a ob ks) (.frz ob (.dK ks))
theorem Seal.ext {P:Program}{w:World}{a:Addr}{c o:HO} (S:Seal P w a c o):∃ φ,c= .ext φ:=by cases S <;> exact ⟨_,rfl⟩
section
variable {X:Cx}{pins:List (Addr × Obj)}{σ:St}{H:Hp}{s:Shared}{a:Addr}{c o:HO}
theorem Inv.opened (I:Inv X pins σ H s) (S:Seal X.prog X.w a c o) (e:H a=some c):Inv X pins σ (upd H a o) s:=by
 have q:=I.hok a c e
 have mu:Mut (H a):=by rw [e]; obtain ⟨φ,rfl⟩:=S.ext; trivial
 cases S with
 | l xs=>
  obtain ⟨h1,h2,_⟩:=q
  exact I.write (x:=a) (e:=a) (h':=s.heap) (t':=s.toks) mu (.inl rfl) (fun _ _ _ z=>z) h2 h1
 | d ob ks=>
  obtain ⟨h1,h2,_⟩:=q
  exact I.write (x:=a) (e:=a) (h':=s.heap) (t':=s.toks) mu (.inl rfl) (fun _ _ _ z=>z) h2 ⟨h1.1,h1.2⟩
theorem Inv.redesc {o1 o2:HO} (I:Inv X pins σ H s) (h1:H a=some o1) (n1:∀ y,o1 ≠ .own y) (n2:∀ xs,o1 ≠ .tup xs) (n3:∀ ps,o1 ≠ .tbl ps) (nf:∀ ob u,X.H₀ a ≠ some (.frz ob u)) (new:qt X.prog X.w (upd H a o2) s.heap a o2):Inv X pins σ (upd H a o2) s:=by
 have na:∀ b,H b=none->upd H a o2 b=none:=fun b z=>by
  have:b ≠ a:=fun q=>by subst q; rw [h1] at z; cases z
  rw [jn this]; exact z
 refine ⟨I.ok,I.os,I.bare,⟨I.base.keep,I.base.slot,fun b u q n hx=>na b (I.base.free b u q n hx),I.base.there,fun b xs q=>?_,fun b ob u q=>?_,fun b ps q=>?_⟩,I.loc,I.cell,na _ I.free,fun x c' q=>na _ (I.freeC x c' q),fun p hp=>?_,fun b u q=>?_,I.len⟩
 ·have q':=I.base.tups b xs q
  have:b ≠ a:=fun z=>by subst z; rw [h1] at q'; cases q'; exact n2 _ rfl
  rw [jn this]; exact q'
 ·have:b ≠ a:=fun z=>by subst z; exact nf _ _ q
  rw [jn this]; exact I.base.frzs b ob u q
 ·obtain ⟨more,q'⟩:=I.base.tbls b ps q
  have:b ≠ a:=fun z=>by subst z; rw [h1] at q'; cases q'; exact n3 _ rfl
  exact ⟨more,by rw [jn this]; exact q'⟩
 ·obtain ⟨g1,g2,g3⟩:=I.pin p hp
  exact ⟨g1,na _ g2,g3⟩
 ·by_cases hb:b=a
  ·subst hb
   rw [jr] at q; cases q
   exact new
  ·rw [jn hb] at q
   refine (I.hok b u q).stay (fun c' v _ z=>z) (fun c' z=>?_) fun c' xs z=>?_
   ·have:c' ≠ a:=fun m=>by subst m; rw [h1] at z; cases z; exact n1 _ rfl
    rw [jn this]; exact z
   ·have:c' ≠ a:=fun m=>by subst m; rw [h1] at z; cases z; exact n2 _ rfl
    rw [jn this]; exact z
theorem Inv.nofrz {φ:Heap->Prop} (I:Inv X pins σ H s) (e:H a=some (.ext φ)):∀ ob u,X.H₀ a ≠ some (.frz ob u):=fun ob u z=>by
 have:=I.base.frzs _ _ _ z
 rw [e] at this; cases this
theorem Inv.closed (I:Inv X pins σ H s) (S:Seal X.prog X.w a c o) (e:H a=some o) (nf:∀ ob u,X.H₀ a ≠ some (.frz ob u)):Inv X pins σ (upd H a c) s:=by
 have q:=I.hok a o e
 cases S with
 | l xs=>
  obtain ⟨h1,its,n,h2,h3⟩:=q
  refine I.write (x:=a) (e:=a) (h':=s.heap) (t':=s.toks) (by rw [e]; trivial) (.inl rfl) (fun _ _ _ z=>z) ⟨_,h3⟩ ⟨⟨h1,its,n,h2,h3⟩,⟨_,h3⟩,?_⟩
  rintro g1 g2 ⟨z1,its,n,z2,z3⟩ k
  exact ⟨z1,its,n,z2,k _ z3⟩
 | d ob ks=>
  obtain ⟨h0,h1,h2,vs,h3,ob',es,ep,h4,h5⟩:=q
  refine Inv.redesc I e (fun _ z=>nomatch z) (fun _ z=>nomatch z) (fun _ z=>nomatch z) nf ⟨⟨h0,h1,h2,vs,h3,ob',es,ep,h4,h5⟩,⟨_,h4⟩,?_⟩
  rintro g1 g2 ⟨z0,z1,z2,vs,z3,ob',es,ep,z4,z5⟩ k
  exact ⟨k _ z0,z1,z2,vs,z3,ob',es,ep,k _ z4,z5⟩
theorem Inv.sealedD {ks:List (Key × V)} (I:Inv X pins σ H s) (e:H a=some (.dK ks)):∃ ob,Inv X pins σ (upd H a (abK X.prog X.w a ob ks)) s:=by
 obtain ⟨h1,h2,vs,h3,ob,es,ep,h4,h5⟩:=I.hok a _ e
 refine ⟨ob,I.write (x:=a) (e:=a) (h':=s.heap) (t':=s.toks) (by rw [e]; trivial) (.inl rfl) (fun _ _ _ z=>z) ⟨_,h4⟩ ⟨⟨h4,h1,h2,vs,h3,ob,es,ep,h4,h5⟩,⟨_,h4⟩,?_⟩⟩
 rintro g1 g2 ⟨z0,z1,z2,vs,z3,ob',es,ep,z4,z5⟩ k
 exact ⟨k _ z0,z1,z2,vs,z3,ob',es,ep,k _ z4,z5⟩
theorem Inv.openD {ob:Obj}{ks:List (Key × V)} (I:Inv X pins σ H s) (e:H a=some (abK X.prog X.w a ob ks)):Inv X pins σ (upd H a (.dK ks)) s:=by
 obtain ⟨h1,h2,_⟩:=I.hok a _ e
 exact I.write (x:=a) (e:=a) (h':=s.heap) (t':=s.toks) (by rw [e]; trivial) (.inl rfl) (fun _ _ _ z=>z) h2 h1.2
end
mutual
noncomputable def noD:PyData->Bool
 | .tuple ds=>noDs ds
 | .list ds=>noDs ds
 | .dict _=>false
 | _=>true
noncomputable def noDs:List PyData->Bool
 | []=>true
 | d::ds=>noD d && noDs ds
end
noncomputable def af6 (H H':Hp):Prop:=∀ b o,H b=some o->(∀ ob ks,o ≠ .frz ob (.dK ks))->H' b=some o
section
variable {K:PySem.W.Frag}{H H':Hp}
theorem af6.tup {a:Addr}{xs:List V} (e:af6 H H') (h:SqT K H a xs):SqT K H' a xs:=by
 rcases h with (h | ⟨o,h⟩) | h
 ·exact .inl (.inl (e _ _ h fun _ _ z=>nomatch z))
 ·exact .inl (.inr ⟨o,e _ _ h fun _ _ z=>nomatch z⟩)
 ·exact .inr h
mutual
theorem Rep.monoM (e:af6 H H'):∀ (d:PyData) (v:V),noD d=true->Rep K H d v->Rep K H' d v
 | .none,v,_,h=>h
 | .bool _,v,_,h=>h
 | .int _,v,_,h=>h
 | .str _,v,_,h=>h
 | .tuple ds,v,n,⟨a,xs,h1,h2,h3⟩=>⟨a,xs,h1,af6.tup e h2,Reps.monoM e ds xs (by simpa [noD] using n) h3⟩
 | .list ds,v,n,⟨a,xs,h1,h2,h3⟩=>⟨a,xs,h1,e _ _ h2 (fun _ _ z=>nomatch z),Reps.monoM e ds xs (by simpa [noD] using n) h3⟩
 | .dict ds,v,n,h=>by simp [noD] at n
theorem Reps.monoM (e:af6 H H'):∀ (ds:List PyData) (xs:List V),noDs ds=true->Reps K H ds xs->Reps K H' ds xs
 | [],xs,_,h=>h
 | d::ds,xs,n,⟨x,r,h1,h2,h3⟩=>by
  have n':noD d=true/\noDs ds=true:=by simpa [noDs] using n
  exact ⟨x,r,h1,Rep.monoM e d x n'.1 h2,Reps.monoM e ds r n'.2 h3⟩
end
end
noncomputable def okB (c d:PyData):Bool:=match c with
 | .list _=>noL d
 | .dict _=>noD d
 | _=>false
noncomputable def aaw (P:Program) (w:World) (K:PySem.W.Frag) (H:Hp) (a:Addr):PyData->Prop
 | .list ds=>∃ xs,H a=some (QW a xs)/\Reps K H ds xs
 | .dict kvs=>∃ ks r ob,kvs=(.none,.none)::r/\H a=some (abK P w a ob ks)/\RepM K H r ks
 | _=>False
theorem aaw.out {P:Program}{w:World}{K:PySem.W.Frag}{H:Hp}{a:Addr}{d:PyData} (h:aaw P w K H a d):∃ c o,Seal P w a c o/\H a=some c/\
  (∀ H',jQ H H'->H' a=some o->Rep K H' d (.ref a))/\(∀ H',jQ H H'->H' a=some c->aaw P w K H' a d)/\
  ∀ x H3 v,okB d x=true->H3 a=some o->Rep K H3 x v->Rep K (upd H3 a c) x v:=by
 cases d with
 | list ds=>
  obtain ⟨xs,h1,h2⟩:=h
  exact ⟨_,_,.l xs,h1,fun H' e q=>⟨a,xs,rfl,q,Reps.monoE e _ _ h2⟩,fun H' e q=>⟨xs,q,Reps.monoE e _ _ h2⟩,fun x H3 v n q r=>Rep.monoN (fun b u hb m=>by
   have:b ≠ a:=fun z=>by subst z; rw [q] at hb; cases hb; exact m _ rfl
   rw [jn this]; exact hb) x v n r⟩
 | dict kvs=>
  obtain ⟨ks,r,ob,rfl,h1,h2⟩:=h
  exact ⟨_,_,.d ob ks,h1,fun H' e q=>⟨a,rfl,.inr (.inl ⟨ks,ob,q,show RepM K H' r ks from RepM.monoE e _ _ h2⟩)⟩,fun H' e q=>⟨ks,r,ob,rfl,q,RepM.monoE e _ _ h2⟩,fun x H3 v n q r=>Rep.monoM (fun b u hb m=>by
   have:b ≠ a:=fun z=>by subst z; rw [q] at hb; cases hb; exact m _ _ rfl
   rw [jn this]; exact hb) x v n r⟩
 | none=>exact h.elim
 | bool _=>exact h.elim
 | int _=>exact h.elim
 | str _=>exact h.elim
 | tuple _=>exact h.elim
theorem jQ.upd {H:Hp}{a:Addr}{φ:Heap->Prop}{o:HO} (e:H a=some (.ext φ)):jQ H (upd H a o):=fun b u h n=>by
 have:b ≠ a:=fun z=>by subst z; rw [e] at h; cases h; exact n _ rfl
 rw [jn this]; exact h
structure EnvO (P:Program) (w:World) (K:PySem.W.Frag) (Hs H:Hp) (own:Option Nat) (ρ:Rho) (σ:St):Prop where
 len:ρ.length=σ.length
 sm:jq Hs H
 pl:∀ i d,ρ[i]?=some (some d)->own ≠ some i->∃ v,σ[i]?=some (some v)/\Rep K H d v
 ow:∀ i,own=some i->∃ d a,ρ[i]?=some (some d)/\σ[i]?=some (some (.ref a))/\Hs a=none/\aaw P w K H a d
noncomputable def hid (own:Option Nat) (ρ:Rho):Rho:=match own with
 | none=>ρ
 | some i=>ρ.set i none
section
variable {P:Program}{w:World}{K:PySem.W.Frag}{Hs H H':Hp}{own:Option Nat}{ρ:Rho}{σ:St}
theorem EnvO.of (e:EnvR K H ρ σ) (s:jq Hs H):EnvO P w K Hs H none ρ σ:=⟨e.len,s,fun i d h _=>e.at' i d h,fun i z=>nomatch z⟩
theorem EnvO.to (e:EnvO P w K Hs H none ρ σ):EnvR K H ρ σ:=⟨e.len,fun i d h=>e.pl i d h (fun z=>nomatch z)⟩
theorem EnvO.hid (e:EnvO P w K Hs H own ρ σ):EnvR K H (hid own ρ) σ:=by
 cases own with
 | none=>exact e.to
 | some i=>
  refine ⟨by simp [BX.hid,e.len],fun j d h=>?_⟩
  by_cases hj:i=j
  ·subst hj
   simp only [BX.hid] at h
   rw [List.getElem?_set] at h
   simp at h
  ·simp only [BX.hid] at h
   rw [List.getElem?_set_ne hj] at h
   exact e.pl j d h (fun z=>hj (Option.some.inj z))
theorem aaw.mono {a:Addr}{d:PyData} (h:aaw P w K H a d) (s:jq H H'):aaw P w K H' a d:=by
 obtain ⟨c,o,_,h1,_,h2,_⟩:=h.out
 exact h2 H' (jq.e s) (s _ _ h1)
theorem EnvO.mono (e:EnvO P w K Hs H own ρ σ) (s:jq H H'):EnvO P w K Hs H' own ρ σ:=
 ⟨e.len,e.sm.trans s,fun i d h n=>let ⟨v,h1,h2⟩:=e.pl i d h n; ⟨v,h1,Rep.mono s d v h2⟩,fun i n=>let ⟨d,a,h1,h2,h3,h4⟩:=e.ow i n; ⟨d,a,h1,h2,h3,h4.mono s⟩⟩
theorem EnvO.opn {i:Nat} (e:EnvO P w K Hs H (some i) ρ σ):∃ d a c o,ρ[i]?=some (some d)/\σ[i]?=some (some (.ref a))/\Hs a=none/\Seal P w a c o/\H a=some c/\EnvR K (upd H a o) ρ σ/\jq Hs (upd H a o)/\
  (∀ H3,jq (upd H a o) H3->jQ H (upd H3 a c)/\EnvO P w K Hs (upd H3 a c) (some i) ρ σ)/\∀ x H3 v,okB d x=true->H3 a=some o->Rep K H3 x v->Rep K (upd H3 a c) x v:=by
 obtain ⟨d,a,h1,h2,h3,h4⟩:=e.ow i rfl
 obtain ⟨c,o,S,h5,h6,h7,h8⟩:=h4.out
 obtain ⟨φ,rfl⟩:=S.ext
 have s1:jQ H (upd H a o):=jQ.upd h5
 have sH:∀ {H2:Hp},(∀ b u,b ≠ a->H b=some u->H2 b=some u)->jq Hs H2:=fun {H2} k b u q=>k b u (fun z=>by subst z; rw [h3] at q; cases q) (e.sm b u q)
 refine ⟨d,a,_,o,h1,h2,h3,S,h5,⟨e.len,fun j x q=>?_⟩,sH fun b u n q=>by rw [jn n]; exact q,fun H3 s3=>⟨fun b u q m=>?_,e.len,sH fun b u n q=>by rw [jn n]; exact s3 b u (by rw [jn n]; exact q),fun j x q n=>?_,fun j n=>?_⟩,h8⟩
 ·by_cases hj:i=j
  ·subst hj
   rw [h1] at q; cases q
   exact ⟨.ref a,h2,h6 _ s1 jr⟩
  ·obtain ⟨v,g1,g2⟩:=e.pl j x q (fun z=>hj (Option.some.inj z))
   exact ⟨v,g1,Rep.monoE s1 _ _ g2⟩
 ·have:b ≠ a:=fun z=>by subst z; rw [h5] at q; cases q; exact m _ rfl
  rw [jn this]
  exact s3 b u (by rw [jn this]; exact q)
 ·have s4:jQ H (upd H3 a (.ext φ)):=fun b u q m=>by
   have:b ≠ a:=fun z=>by subst z; rw [h5] at q; cases q; exact m _ rfl
   rw [jn this]
   exact s3 b u (by rw [jn this]; exact q)
  obtain ⟨v,g1,g2⟩:=e.pl j x q n
  exact ⟨v,g1,Rep.monoE s4 _ _ g2⟩
 ·cases n
  have s4:jQ H (upd H3 a (.ext φ)):=fun b u q m=>by
   have:b ≠ a:=fun z=>by subst z; rw [h5] at q; cases q; exact m _ rfl
   rw [jn this]
   exact s3 b u (by rw [jn this]; exact q)
  exact ⟨d,a,h1,h2,h3,h7 _ s4 jr⟩
end
end BX
end
section
namespace BX
open PySem PySem.Spec L2
open PyProof.Rows hiding St
noncomputable def brw (own:Option Nat) (f:Rho->Option PyData):Rho->Option PyData:=fun ρ=>match f (hid own ρ) with
 | some d=>some d
 | none=>match own with
  | none=>none
  | some i=>match f ρ,lkp i ρ with
   | some d,some c=>if okB c d=true then some d else none
   | _,_=>none
theorem anL {own:Option Nat}{f:Rho->Option PyData}{ρ:Rho}{d:PyData} (h:brw own f ρ=some d):f (hid own ρ)=some d ∨ ∃ i c,own=some i/\f ρ=some d/\ρ[i]?=some (some c)/\okB c d=true:=by
 unfold brw at h
 cases h1:f (hid own ρ) with
 | some x=>rw [h1] at h; exact .inl h
 | none=>
  rw [h1] at h
  cases own with
  | none=>cases h
  | some i=>
   simp only at h
   cases h2:f ρ with
   | none=>rw [h2] at h; cases h
   | some x=>
    rw [h2] at h
    cases h3:lkp i ρ with
    | none=>rw [h3] at h; cases h
    | some c=>
     rw [h3] at h
     simp only at h
     split at h
     ·rename_i ok
      cases h
      exact .inr ⟨i,c,rfl,rfl,zg h3,ok⟩
     ·cases h
section
variable {X:Cx}{e a b c tg src:Expr}{es:List Expr}{st:Stmt}{sts j5:List Stmt}{fa fb fc:Rho->Option PyData}{F G:Rho->Option Out}{pos:Pos}{own:Option Nat}
noncomputable def tE (P:Program) (w:World) (K:PySem.W.Frag) (own:Option Nat) (f:Rho->Option PyData):TE:=fun σ H Q=>∃ Hs ρ d,EnvO P w K Hs H own ρ σ/\brw own f ρ=some d/\∀ v H',jQ H H'->EnvO P w K Hs H' own ρ σ->Rep K H' d v->Q v H'
theorem ahK (h:PD X e fa):PE X e (tE X.prog X.w X.K own fa):=by
 with_unfolding_all
  intro pins s σ H Q I ⟨Hs,ρ,d,E,hb,k⟩
  rcases anL hb with h1 | ⟨i,c,ho,h1,h2,ok⟩
  ·exact h pins s σ H Q I ⟨hid own ρ,d,E.hid,h1,fun v H' s r=>k v H' (jq.e s) (E.mono s) r⟩
  ·subst ho
   obtain ⟨d0,a,cl,o,g1,g2,g3,S,g4,env,sm,back,keep⟩:=E.opn
   rw [h2] at g1; cases g1
   refine thn (h pins s σ (upd H a o) (fun v H3=>jq (upd H a o) H3/\Rep X.K H3 d v) (Inv.opened I S g4) ⟨ρ,d,env,h1,fun v H3 s3 r3=>⟨s3,r3⟩⟩) fun u s1 ⟨v,H3,I3,r,s3,r3⟩=>?_
   have e3:H3 a=some o:=s3 _ _ jr
   exact ⟨v,upd H3 a cl,Inv.closed I3 S e3 (by obtain ⟨φ,rfl⟩:=S.ext; exact Inv.nofrz I g4),r,k v _ (back H3 s3).1 (back H3 s3).2 (keep d H3 v ok e3 r3)⟩
noncomputable def tT (P:Program) (w:World) (K:PySem.W.Frag) (own:Option Nat) (f:Rho->Option Bool):TT:=fun σ H Q=>∃ Hs ρ d,EnvO P w K Hs H own ρ σ/\f ρ=some d/\∀ H',jQ H H'->EnvO P w K Hs H' own ρ σ->Q d H'
theorem aly {tc:Rho->Option Bool} (h:PTD X e tc):PT X e (tT X.prog X.w X.K own tc):=by
 with_unfolding_all
  intro pins s σ H Q I ⟨Hs,ρ,d,E,h1,k⟩
  cases own with
  | none=>exact h pins s σ H Q I ⟨ρ,d,E.to,h1,fun H' s=>k H' (jq.e s) (E.mono s)⟩
  | some i=>
   obtain ⟨d0,a,cl,o,g1,g2,g3,S,g4,env,sm,back,keep⟩:=E.opn
   refine thn (h pins s σ (upd H a o) (fun b H3=>b=d/\jq (upd H a o) H3) (Inv.opened I S g4) ⟨ρ,d,env,h1,fun H3 s3=>⟨rfl,s3⟩⟩) fun b s1 ⟨H3,I3,hb,s3⟩=>?_
   subst hb
   exact ⟨upd H3 a cl,Inv.closed I3 S (s3 _ _ jr) (by obtain ⟨φ,rfl⟩:=S.ext; exact Inv.nofrz I g4),k _ (back H3 s3).1 (back H3 s3).2⟩
noncomputable def tF (P:Program) (w:World) (K:PySem.W.Frag) (own:Option Nat) (f:Rho->Option PyData):TE:=fun σ H Q=>∃ Hs ρ d,EnvO P w K Hs H own ρ σ/\f ρ=some d/\∀ v H',jq Hs H'->Rep K H' d v->Q v H'
theorem ap5 (h:PD X e fa):PE X e (tF X.prog X.w X.K own fa):=by
 with_unfolding_all
  intro pins s σ H Q I ⟨Hs,ρ,d,E,h1,k⟩
  cases own with
  | none=>exact h pins s σ H Q I ⟨ρ,d,E.to,h1,fun v H' s r=>k v H' (E.sm.trans s) r⟩
  | some i=>
   obtain ⟨d0,a,cl,o,g1,g2,g3,S,g4,env,sm,back,keep⟩:=E.opn
   exact h pins s σ (upd H a o) Q (Inv.opened I S g4) ⟨ρ,d,env,h1,fun v H3 s3 r3=>k v H3 (sm.trans s3) r3⟩
noncomputable def arq (P:Program) (w:World) (K:PySem.W.Frag) (Hs:Hp) (own:Option Nat) (D:Ends):Out->Prop
 | .nx ρ=>∀ σ H,EnvO P w K Hs H own ρ σ->D.nx σ H
 | .rt d=>∀ v H,jq Hs H->Rep K H d v->D.rt v H
 | .bk ρ=>∀ σ H,EnvO P w K Hs H own ρ σ->D.bk σ H
 | .ct ρ=>∀ σ H,EnvO P w K Hs H own ρ σ->D.ct σ H
noncomputable def tOS (P:Program) (w:World) (K:PySem.W.Frag) (own:Option Nat) (F:Rho->Option Out):TS:=fun D σ H=>∃ Hs ρ o,EnvO P w K Hs H own ρ σ/\F ρ=some o/\arq P w K Hs own D o
@[irreducible] noncomputable def PSO (X:Cx) (own:Option Nat) (st:Stmt) (F:Rho->Option Out):Prop:=PS X st (tOS X.prog X.w X.K own F)
@[irreducible] noncomputable def acO (X:Cx) (own:Option Nat) (sts:List Stmt) (F:Rho->Option Out):Prop:=PSs X sts (tOS X.prog X.w X.K own F)
theorem ad5 (h:PSD X st F):PSO X none st F:=by
 with_unfolding_all
  refine PS.imp h fun D σ H ⟨Hs,ρ,o,E,q,k⟩=>⟨ρ,o,E.to,q,?_⟩
  cases o with
  | nx ρ'=>exact fun σ' H' s r=>k σ' H' (EnvO.of r (E.sm.trans s))
  | rt d=>exact fun v H' s r=>k v H' (E.sm.trans s) r
  | bk ρ'=>exact fun σ' H' s r=>k σ' H' (EnvO.of r (E.sm.trans s))
  | ct ρ'=>exact fun σ' H' s r=>k σ' H' (EnvO.of r (E.sm.trans s))
theorem Za (h:acO X none sts F):Z2 X sts F:=by
 with_unfolding_all
  refine PSs.imp h fun D σ H ⟨ρ,o,en,q,k⟩=>⟨H,ρ,o,EnvO.of en (jq.refl H),q,?_⟩
  cases o with
  | nx ρ'=>exact fun σ' H' E=>k σ' H' E.sm E.to
  | rt d=>exact fun v H' s r=>k v H' s r
  | bk ρ'=>exact fun σ' H' E=>k σ' H' E.sm E.to
  | ct ρ'=>exact fun σ' H' E=>k σ' H' E.sm E.to
theorem qj:acO X own [] qq:=by
 with_unfolding_all
  refine PSs.imp aiu fun D σ H ⟨Hs,ρ,o,E,q,k⟩=>?_
  cases q
  exact k σ H E
theorem jJ (h1 : PSO X own st F) (h2 : acO X own j5 G) : acO X own (st :: j5) (jI F G) := by
  with_unfolding_all
   refine PSs.imp (QY h1 h2) fun D σ H ⟨Hs, ρ, o, E, q, k⟩ => ?_
   cases hf : F ρ with
   | none => simp [jI, hf] at q
   | some p =>
     refine ⟨Hs, ρ, p, E, hf, ?_⟩
     cases p with
     | nx ρ' => exact fun σ' H' E' => ⟨Hs, ρ', o, E', by simpa [jI, hf] using q, k⟩
     | rt d => have : Out.rt d = o := by simpa [jI, hf] using q
               subst this; exact k
     | bk d => have : Out.bk d = o := by simpa [jI, hf] using q
               subst this; exact k
     | ct d => have : Out.ct d = o := by simpa [jI, hf] using q
               subst this; exact k
theorem aax (h:PD X e fa):PSO X own (.Return (some e) pos) (qG fa):=by
 with_unfolding_all
  refine PS.imp (aho (ap5 (own:=own) h)) fun D σ H ⟨Hs,ρ,o,E,q,k⟩=>?_
  cases h1:fa ρ with
  | none=>simp [qG,h1] at q
  | some d=>
   have:Out.rt d=o:=by simpa [qG,h1] using q
   subst this
   exact ⟨Hs,ρ,d,E,h1,k⟩
theorem ap6 {l r:List Stmt}{tc:Rho->Option Bool} (hc:PTD X c tc) (hl:acO X own l F) (hr:acO X own r G):PSO X own (.If c l r pos) (ifS tc F G):=by
 with_unfolding_all
  refine PS.imp (ao6 (aly (own:=own) hc) hl hr) fun D σ H ⟨Hs,ρ,o,E,q,k⟩=>?_
  cases h1:tc ρ with
  | none=>simp [ifS,h1] at q
  | some x=>
   refine ⟨Hs,ρ,x,E,h1,fun H1 _ E1=>?_⟩
   cases x with
   | true=>rw [if_pos rfl]; exact ⟨Hs,ρ,o,E1,by simpa [ifS,h1] using q,k⟩
   | false=>rw [if_neg Bool.false_ne_true]; exact ⟨Hs,ρ,o,E1,by simpa [ifS,h1] using q,k⟩
theorem EnvO.set {P:Program}{w:World}{K:PySem.W.Frag}{Hs H:Hp}{ρ:Rho}{σ:St}{i:Nat}{d:PyData}{v:V} (E:EnvO P w K Hs H own ρ σ) (hi:own ≠ some i) (r:Rep K H d v):EnvO P w K Hs H own (ρ.set i (some d)) (σ.set i (some v)):=by
 refine ⟨by simp [E.len],E.sm,fun j x q n=>?_,fun j n=>?_⟩
 ·by_cases hj:i=j
  ·subst hj
   rw [List.getElem?_set] at q ⊢
   simp only [zzM] at q ⊢
   by_cases hl:i < ρ.length
   ·rw [if_pos hl] at q
    rw [if_pos (by rw [←E.len]; exact hl)]
    cases q
    exact ⟨v,rfl,r⟩
   ·rw [if_neg hl] at q; cases q
  ·rw [List.getElem?_set_ne hj] at q ⊢
   exact E.pl j x q n
 ·have hj:i ≠ j:=fun z=>by subst z; exact hi n
  rw [List.getElem?_set_ne hj,List.getElem?_set_ne hj]
  exact E.ow j n
theorem ab6 (i:Nat) {x:Str}{pos':Pos} (hN:X.N.Nodup) (he:PD X e fa) (ho:own ≠ some i:=by decide) (hi:X.N[i]?=some x:=by rfl) (hx:Loc X.env.scope x:=by first | exact Or.inl rfl | exact Or.inr rfl) (hs:swapsWith e (some (.Name x pos')) pos.line X.env=pure false:=by rfl)
  (hf:X.fn x=true ∨ X.env.scope.names.lookup x=some .local:=by first | exact .inl rfl | exact .inr rfl | assumption):PSO X own (.Assign [.Name x pos'] e pos) (qU (brw own fa) (jA i)):=by
 with_unfolding_all
  refine PS.imp (aeE hN hi hx (ahK (own:=own) he) hs hf) fun D σ H ⟨Hs,ρ,o,E,q,k⟩=>?_
  cases h1:brw own fa ρ with
  | none=>simp [qU,h1] at q
  | some d=>
   have:Out.nx (ρ.set i (some d))=o:=by simpa [qU,h1,jA] using q
   subst this
   exact ⟨Hs,ρ,d,E,h1,fun v H1 _ E1 r1=>k _ H1 (E1.set ho r1)⟩
end
section
variable {X:Cx}{e a b c tg src:Expr}{es:List Expr}{st:Stmt}{sts j5 body:List Stmt}{fa fb fc:Rho->Option PyData}{F G:Rho->Option Out}{pos:Pos}{own:Option Nat}
@[irreducible] noncomputable def PGO (X:Cx) (own:Option Nat) (tg:Expr) (ga:PyData->Rho->Option Rho):Prop:=
 PG X tg fun v σ H Q=>∃ Hs ρ d ρ',EnvO X.prog X.w X.K Hs H own ρ σ/\Rep X.K H d v/\ga d ρ=some ρ'/\∀ σ' H',EnvO X.prog X.w X.K Hs H' own ρ' σ'->Q σ' H'
@[irreducible] noncomputable def anM (X:Cx) (own:Option Nat) (ts:List Expr) (ga:List PyData->Rho->Option Rho):Prop:=
 PGs X ts fun vs σ H Q=>∃ Hs ρ ds ρ',EnvO X.prog X.w X.K Hs H own ρ σ/\Reps X.K H ds vs/\ga ds ρ=some ρ'/\∀ σ',EnvO X.prog X.w X.K Hs H own ρ' σ'->Q σ' H
theorem aay (i:Nat) {x:Str} (hN:X.N.Nodup) (ho:own ≠ some i:=by decide) (hi:X.N[i]?=some x:=by rfl) (hx:Loc X.env.scope x:=by first | exact Or.inl rfl | exact Or.inr rfl)
  (hf:X.fn x=true ∨ X.env.scope.names.lookup x=some .local:=by first | exact .inl rfl | exact .inr rfl | assumption):PGO X own (.Name x pos) (jA i):=by
 with_unfolding_all
  refine PG.imp (aar hN hi hx hf) fun v σ H Q ⟨Hs,ρ,d,ρ',E,r,q,k⟩=>?_
  cases q
  exact k _ H (E.set ho r)
theorem acP:anM X own [] Js:=by
 with_unfolding_all
  refine PGs.imp aiv fun vs σ H Q ⟨Hs,ρ,ds,ρ',E,r,q,k⟩=>?_
  cases ds with
  | nil=>cases r; cases q; exact ⟨rfl,k σ E⟩
  | cons d ds=>cases q
theorem Ji (i:Nat) {x:Str}{gr:List PyData->Rho->Option Rho} (hN:X.N.Nodup) (h2:anM X own es gr) (ho:own ≠ some i:=by decide) (hi:X.N[i]?=some x:=by rfl) (hx:Loc X.env.scope x:=by first | exact Or.inl rfl | exact Or.inr rfl)
  (hf:X.fn x=true ∨ X.env.scope.names.lookup x=some .local:=by first | exact .inl rfl | exact .inr rfl | assumption)
  (hs:(assignEach (.Name x pos::es) X.env).map (·.2)=assign (.Name x pos) X.env::(assignEach es X.env).map (·.2):=by rfl):anM X own (.Name x pos::es) (j4 (jA i) gr):=by
 with_unfolding_all
  refine PGs.imp (afS (aar hN hi hx hf) h2 hs) fun vs σ H Q ⟨Hs,ρ,ds,ρ',E,r,q,k⟩=>?_
  cases ds with
  | nil=>cases q
  | cons d ds=>
   obtain ⟨y,rr,e1,r1,r2⟩:=r
   subst e1
   exact ⟨y,rr,rfl,Hs,_,ds,ρ',E.set ho r1,r2,by simpa [j4,jA] using q,k⟩
theorem aeY {k n:Nat}{gr:List PyData->Rho->Option Rho} (hc:X.calm=true) (h:anM X own es gr) (hn:(assignEach es X.env).length=n:=by rfl) (hst:(assignEach es X.env).findIdx? (·.1)=none:=by rfl):
  PGO X own (.Tuple es k pos) (Q4 n gr):=by
 with_unfolding_all
  refine PG.imp (akS hc h hn hst) fun v σ H Q ⟨Hs,ρ,d,ρ',E,r,q,k⟩=>?_
  cases d with
  | tuple ds=>
   obtain ⟨a,xs,e1,e2,e3⟩:=r
   by_cases hl:ds.length=n
   ·exact ⟨a,xs,e1,e2,by rw [e3.length]; exact hl,Hs,ρ,ds,ρ',E,e3,by simpa [Q4,hl] using q,fun σ' E'=>k σ' H E'⟩
   ·simp [Q4,hl] at q
  | _=>simp [Q4] at q
theorem EnvO.rebase {P:Program}{w:World}{K:PySem.W.Frag}{Hs H:Hp}{ρ:Rho}{σ:St} (E:EnvO P w K Hs H own ρ σ):∃ Hb,EnvO P w K Hb H own ρ σ/\(∀ H3,jq Hb H3->jQ H H3)/\
  (∀ H3 ρ3 σ3,EnvO P w K Hb H3 own ρ3 σ3->EnvO P w K Hs H3 own ρ3 σ3)/\∀ H3,jq Hb H3->jq Hs H3:=by
 cases own with
 | none=>exact ⟨H,⟨E.len,jq.refl H,E.pl,fun i z=>nomatch z⟩,fun _ s=>jq.e s,fun H3 ρ3 σ3 E3=>⟨E3.len,E.sm.trans E3.sm,E3.pl,fun i z=>nomatch z⟩,fun _ s=>E.sm.trans s⟩
 | some i=>
  obtain ⟨d,a,h1,h2,h3,h4⟩:=E.ow i rfl
  obtain ⟨c,o,S,h5,_⟩:=h4.out
  obtain ⟨φ,rfl⟩:=S.ext
  let Hb:Hp:=fun b=>if b=a then none else H b
  have ha:Hb a=none:=if_pos rfl
  have hb:∀ b,b ≠ a->Hb b=H b:=fun b n=>if_neg n
  have sH:∀ H3,jq Hb H3->jq Hs H3:=fun H3 s b u q=>by
   have n:b ≠ a:=fun z=>by subst z; rw [h3] at q; cases q
   exact s b u (by rw [hb b n]; exact E.sm b u q)
  refine ⟨Hb,⟨E.len,fun b u q=>?_,E.pl,fun j n=>?_⟩,fun H3 s b u q m=>?_,fun H3 ρ3 σ3 E3=>⟨E3.len,sH H3 E3.sm,E3.pl,fun j n=>?_⟩,sH⟩
  ·by_cases n:b=a
   ·subst n; rw [ha] at q; cases q
   ·rw [hb b n] at q; exact q
  ·cases n
   exact ⟨d,a,h1,h2,ha,h4⟩
  ·have n:b ≠ a:=fun z=>by subst z; rw [h5] at q; cases q; exact m _ rfl
   exact s b u (by rw [hb b n]; exact q)
  ·obtain ⟨d3,a3,g1,g2,g3,g4⟩:=E3.ow j n
   refine ⟨d3,a3,g1,g2,?_,g4⟩
   by_cases z:a3=a
   ·rw [z]; exact h3
   ·rw [hb a3 z] at g3
    cases q:Hs a3 with
    | none=>rfl
    | some u=>have:=E.sm _ _ q; rw [g3] at this; cases this
theorem QF {fi:Rho->Option (List PyData)}{ga:PyData->Rho->Option Rho} (hp:PassesOwn (model X.prog X.w) X.A X.env X.xe) (hc:X.calm=true) (hi:PID X tg src fi) (hg:PGO X own tg ga) (hb:acO X own body F)
  (hs:∀ x,foldedSetIterable src X.env x=pure x:=by intro _; rfl):PSO X own (.For tg src body [] pos) (zR (fun ρ=>fi (hid own ρ)) ga F):=by
 with_unfolding_all
  refine PS.imp (aeG hp hc hi hg hb hs) fun D σ H ⟨Hs,ρ,o,E,q,k⟩=>?_
  cases h1:fi (hid own ρ) with
  | none=>simp [zR,h1] at q
  | some ds=>
   have q':jO ga F ds ρ=some o:=by simpa [zR,h1] using q
   refine ⟨hid own ρ,ds,E.hid,h1,fun J H1 s1 Y=>?_⟩
   obtain ⟨Hb,Eb,sE,back,sb⟩:=(E.mono s1).rebase
   refine ⟨fun i m σ H2=>m=ds.length - i/\i<=ds.length/\∃ ρ2,EnvO X.prog X.w X.K Hb H2 own ρ2 σ/\jO ga F (ds.drop i) ρ2=some o,⟨ds.length,by simp,Nat.zero_le _,ρ,Eb,by simpa using q'⟩,?_⟩
   rintro i m σ2 H2 ⟨rfl,hi,ρ2,en2,q2⟩
   obtain ⟨g1,g2,g3⟩:=Y i H2 (sE H2 en2.sm)
   by_cases hlt:i < ds.length
   ·right
    have hd:ds.drop i=ds[i]::ds.drop (i+1):=List.drop_eq_getElem_cons hlt
    rw [hd] at q2
    refine ⟨g1 hlt,fun σ3 H3=>∃ ρ3,EnvO X.prog X.w X.K Hb H3 own ρ3 σ3/\jO ga F (ds.drop (i+1)) ρ3=some o,fun σ3 H3 ⟨ρ3,a2,a3⟩=>⟨ds.length - (i+1),by omega,rfl,hlt,ρ3,a2,a3⟩,fun x H3 y=>?_⟩
    obtain ⟨s3,r3⟩:=g3 x H3 y
    have r3':=r3 ds[i] (by simp [hlt])
    cases h4:ga ds[i] ρ2 with
    | none=>simp [jO,h4] at q2
    | some ρ4=>
     refine ⟨Hb,ρ2,ds[i],ρ4,en2.mono s3,r3',h4,fun σ5 H5 en5=>?_⟩
     cases h5:F ρ4 with
     | none=>simp [jO,h4,h5] at q2
     | some p=>
      refine ⟨Hb,ρ4,p,en5,h5,?_⟩
      cases p with
      | nx ρ6=>exact fun σ6 H6 en6=>⟨ρ6,en6,by simpa [jO,h4,h5] using q2⟩
      | ct ρ6=>exact fun σ6 H6 en6=>⟨ρ6,en6,by simpa [jO,h4,h5] using q2⟩
      | bk ρ6=>
       have:Out.nx ρ6=o:=by simpa [jO,h4,h5] using q2
       subst this
       exact fun σ6 H6 en6=>k σ6 H6 (back _ _ _ en6)
      | rt d=>
       have:Out.rt d=o:=by simpa [jO,h4,h5] using q2
       subst this
       exact fun v H6 s6 r6=>k v H6 (sb _ s6) r6
   ·left
    have he:i=ds.length:=by omega
    have hn:ds.drop i=[]:=by rw [he]; simp
    rw [hn] at q2
    have:Out.nx ρ2=o:=by simpa [jO] using q2
    subst this
    exact ⟨g2 (by omega),k σ2 H2 (back _ _ _ en2)⟩
noncomputable def zx (tc:Rho->Option Bool) (F:Rho->Option Out):Nat->Rho->Option Out
 | 0,_=>none
 | n+1,ρ=>(tc ρ).bind fun x=>if x=true then (F ρ).bind fun o=>match o with
   | .nx ρ2=>zx tc F n ρ2
   | .ct ρ2=>zx tc F n ρ2
   | .bk ρ2=>some (.nx ρ2)
   | .rt d=>some (.rt d)
  else some (.nx ρ)
theorem ajP (n:Nat) {tc:Rho->Option Bool} (hp:PassesOwn (model X.prog X.w) X.A X.env X.xe) (hc:PTD X c tc) (hb:acO X own body F):PSO X own (.While c body [] pos) (zx tc F n):=by
 with_unfolding_all
  refine PS.imp (akT hp (aly (own:=own) hc) hb) fun D σ H ⟨Hs,ρ,o,E,q,k⟩=>?_
  refine ⟨fun m σ H=>∃ ρ,EnvO X.prog X.w X.K Hs H own ρ σ/\zx tc F m ρ=some o,⟨n,ρ,E,q⟩,?_⟩
  rintro m σ2 H2 ⟨ρ2,E2,q2⟩
  cases m with
  | zero=>cases q2
  | succ m=>
   cases h1:tc ρ2 with
   | none=>simp [zx,h1] at q2
   | some x=>
    refine ⟨Hs,ρ2,x,E2,h1,fun H3 _ E3=>?_⟩
    cases x with
    | false=>
     rw [if_neg Bool.false_ne_true]
     have:Out.nx ρ2=o:=by simpa [zx,h1] using q2
     subst this
     exact k σ2 H3 E3
    | true=>
     rw [if_pos rfl]
     refine ⟨fun σ4 H4=>∃ ρ4,EnvO X.prog X.w X.K Hs H4 own ρ4 σ4/\zx tc F m ρ4=some o,fun σ4 H4 ⟨ρ4,a1,a2⟩=>⟨m,Nat.lt_succ_self m,ρ4,a1,a2⟩,?_⟩
     cases h5:F ρ2 with
     | none=>simp [zx,h1,h5] at q2
     | some p=>
      refine ⟨Hs,ρ2,p,E3,h5,?_⟩
      cases p with
      | nx ρ6=>exact fun σ6 H6 en6=>⟨ρ6,en6,by simpa [zx,h1,h5] using q2⟩
      | ct ρ6=>exact fun σ6 H6 en6=>⟨ρ6,en6,by simpa [zx,h1,h5] using q2⟩
      | bk ρ6=>
       have:Out.nx ρ6=o:=by simpa [zx,h1,h5] using q2
       subst this
       exact fun σ6 H6 en6=>k σ6 H6 en6
      | rt d=>
       have:Out.rt d=o:=by simpa [zx,h1,h5] using q2
       subst this
       exact fun v H6 s6 r6=>k v H6 s6 r6
end
theorem Zv {H:Hp}{a:Addr}{o o':HO}:upd (upd H a o) a o'=upd H a o':=by
 funext b
 by_cases h:b=a
 ·subst h; rw [jr,jr]
 ·rw [jn h,jn h,jn h]
section
variable {P:Program}{w:World}{K:PySem.W.Frag}{Hs H:Hp}{ρ:Rho}{σ:St}{i:Nat}
theorem EnvO.put {a:Addr}{d d':PyData}{φ:Heap->Prop}{H3:Hp}{c:HO} (E:EnvO P w K Hs H (some i) ρ σ) (h0:ρ[i]?=some (some d)) (h2:σ[i]?=some (some (.ref a))) (h3:Hs a=none) (h5:H a=some (.ext φ))
  (s3:∀ b u,b ≠ a->H b=some u->H3 b=some u) (ow:aaw P w K (upd H3 a c) a d'):EnvO P w K Hs (upd H3 a c) (some i) (ρ.set i (some d')) σ:=by
 have hi:i < ρ.length:=(List.getElem?_eq_some_iff.mp h0).1
 have s4:jQ H (upd H3 a c):=fun b u q m=>by
  have:b ≠ a:=fun z=>by subst z; rw [h5] at q; cases q; exact m _ rfl
  rw [jn this]; exact s3 b u this q
 refine ⟨by simp [E.len],fun b u q=>?_,fun j x q n=>?_,fun j n=>?_⟩
 ·have:b ≠ a:=fun z=>by subst z; rw [h3] at q; cases q
  rw [jn this]; exact s3 b u this (E.sm b u q)
 ·have hj:i ≠ j:=fun z=>n (by rw [z])
  rw [List.getElem?_set_ne hj] at q
  obtain ⟨v,g1,g2⟩:=E.pl j x q n
  exact ⟨v,g1,Rep.monoE s4 _ _ g2⟩
 ·cases n
  exact ⟨d',a,by rw [List.getElem?_set_self hi],h2,h3,ow⟩
theorem EnvO.opnL {ds:List PyData} (E:EnvO P w K Hs H (some i) ρ σ) (h:ρ[i]?=some (some (.list ds))):∃ a xs,σ[i]?=some (some (.ref a))/\Hs a=none/\H a=some (QW a xs)/\Reps K H ds xs/\EnvR K (upd H a (.lst xs)) ρ σ:=by
 obtain ⟨d,a,h1,h2,h3,h4⟩:=E.ow i rfl
 rw [h] at h1; cases h1
 obtain ⟨xs,h5,h6⟩:=h4
 have s1:jQ H (upd H a (.lst xs)):=jQ.upd h5
 refine ⟨a,xs,h2,h3,h5,h6,E.len,fun j x q=>?_⟩
 by_cases hj:i=j
 ·subst hj
  rw [h] at q; cases q
  exact ⟨.ref a,h2,a,xs,rfl,jr,Reps.monoE s1 _ _ h6⟩
 ·obtain ⟨v,g1,g2⟩:=E.pl j x q (fun z=>hj (Option.some.inj z))
  exact ⟨v,g1,Rep.monoE s1 _ _ g2⟩
end
section
variable {X:Cx}{e a b c tg src:Expr}{es:List Expr}{st:Stmt}{sts j5 body:List Stmt}{fa fb fc:Rho->Option PyData}{F G:Rho->Option Out}{pos:Pos}
noncomputable def ap7 (P:Program) (w:World) (K:PySem.W.Frag) (i:Nat) (g:Rho->Option PyData):TE:=fun σ H Q=>∃ Hs ρ d',EnvO P w K Hs H (some i) ρ σ/\g ρ=some d'/\∀ H',EnvO P w K Hs H' (some i) (ρ.set i (some d')) σ->Q .non H'
noncomputable def ajQ (i:Nat) (g:Rho->Option PyData):Rho->Option Out:=fun ρ=>(g ρ).map fun d=> .nx (ρ.set i (some d))
theorem aiO {i:Nat}{g:Rho->Option PyData} (h:PE X e (ap7 X.prog X.w X.K i g)) (hs:swapsWith e none pos.line X.env=pure false:=by rfl):PSO X (some i) (.Expr e pos) (ajQ i g):=by
 with_unfolding_all
  refine PS.imp (aeD h hs) fun D σ H ⟨Hs,ρ,o,E,q,k⟩=>?_
  cases h1:g ρ with
  | none=>simp [ajQ,h1] at q
  | some d=>
   have:Out.nx (ρ.set i (some d))=o:=by simpa [ajQ,h1] using q
   subst this
   exact ⟨Hs,ρ,d,E,h1,fun H' E'=>k σ H' E'⟩
noncomputable def anN (c d:Option PyData):Option PyData:=match c,d with
 | some (.list ds),some d=>if noL d=true/\ds.length < 1000000 then some (.list (ds++[d])) else none
 | _,_=>none
noncomputable def ap8 (i:Nat) (fa:Rho->Option PyData):Rho->Option PyData:=fun ρ=>anN (lkp i ρ) (fa ρ)
theorem alz {c d:Option PyData}{r:PyData} (h:anN c d=some r):∃ ds x,c=some (.list ds)/\d=some x/\noL x=true/\ds.length < 1000000/\r= .list (ds++[x]):=by
 unfold anN at h
 split at h
 ·split at h
  ·rename_i hc
   cases h
   exact ⟨_,_,rfl,rfl,hc.1,hc.2,rfl⟩
  ·cases h
 ·cases h
theorem aaf {n:Nat} (h:n < 1000000):n < sizeLine:=Nat.lt_of_lt_of_le h (by rw [sizeLine_eq]; decide)
theorem ajR (i:Nat) {x:Str}{p1 apos cpos:Pos} (h:PD X e fa) (hN:X.N[i]?=some x:=by rfl) (hv:Vis X.env.scope x:=by first | exact Or.inl rfl | exact Or.inr (Or.inl rfl) | exact Or.inr (Or.inr rfl)) (hd:(x == ("__debug__":Str))=false:=by decide)
  (hcd:(x == ("__classdict__":Str))=false:=by decide) (hbase:attributeBase (.Name x p1) "append" X.env (eval (.Name x p1) X.env)=eval (.Name x p1) X.env:=by rfl)
  (hfew:((backTo cpos (starEach [e] X.env)).all (fun x=>!x.1) && (backToKw cpos (keywordEach [] X.env)).all (fun x=>x.1.isSome) && decide ([e].length+([]:List Keyword).length+(if ([]:List Keyword).isEmpty then 0 else 1) < 30))=true:=by rfl)
  (hline:(apos.endLine == cpos.line)=true:=by rfl) (hs:starEach [e] X.env=(false,eval e X.env)::starEach [] X.env:=by rfl) (hplain:(backTo cpos (starEach [] X.env)).any (·.1)=false:=by rfl):
  PE X (.Call (.Attribute (.Name x p1) "append" apos) [e] [] cpos) (ap7 X.prog X.w X.K i (ap8 i fa)):=by
 with_unfolding_all
  intro pins s σ H Q I ⟨Hs,ρ,d',E,hg,k⟩
  obtain ⟨ds,d,q1,q2,hn,hl,rfl⟩:=alz hg
  obtain ⟨a,xs,g2,g3,g4,g5,env⟩:=E.opnL (zg q1)
  have hlen:=g5.length
  have W:=afX (X:=X) (cpos:=cpos) (apos:=apos) PySem.F.plainAttrs_list PySem.F.slot_list_append PySem.F.type_list_append adT (act hN hv hd hcd) (qm h zL hs) hbase hfew hline hs hplain
  refine thn (W pins s σ (upd H a (.lst xs)) (fun v H4=>∃ H3 y,v= .non/\H4=upd H3 a (.lst (xs++[y]))/\jq (upd H a (.lst xs)) H3/\Rep X.K H3 d y) (Inv.opened I (.l xs) g4)
   ⟨.ref a,g2,.inl ⟨rfl,_,SqL.of jr⟩,ρ,d,env,q2,fun y H3 s3 r3=>⟨a,xs,y,rfl,rfl,s3 _ _ jr,by rw [hlen]; exact aaf hl,H3,y,rfl,rfl,s3,r3⟩⟩) fun u s1 ⟨v,H4,I4,r,H3,y,e1,e2,s3,r3⟩=>?_
  subst e1
  have e4:H4 a=some (.lst (xs++[y])):=by rw [e2]; exact jr
  have sb:∀ b u,b ≠ a->H b=some u->H4 b=some u:=fun b u n q=>by rw [e2,jn n]; exact s3 b u (by rw [jn n]; exact q)
  refine ⟨.non,upd H4 a (QW a (xs++[y])),Inv.closed I4 (.l _) e4 (Inv.nofrz I g4),r,k _ (E.put (zg q1) g2 g3 g4 sb ⟨xs++[y],jr,?_⟩)⟩
  have s5:jQ H (upd H4 a (QW a (xs++[y]))):=fun b u q m=>by
   have:b ≠ a:=fun z=>by subst z; rw [g4] at q; cases q; exact m _ rfl
   rw [jn this]; exact sb b u this q
  have s6:zI H3 (upd H4 a (QW a (xs++[y]))):=fun b u q m=>by
   have e3:H3 a=some (.lst xs):=s3 _ _ jr
   have:b ≠ a:=fun z=>by subst z; rw [e3] at q; cases q; exact m _ rfl
   rw [jn this,e2,jn this]; exact q
  exact (Reps.monoE s5 _ _ g5).append ⟨y,[],rfl,Rep.monoN s6 _ _ hn r3,rfl⟩
end
section
variable {X:Cx}{e a b c tg src:Expr}{es:List Expr}{st:Stmt}{sts j5 body:List Stmt}{fa fb fc:Rho->Option PyData}{F G:Rho->Option Out}{pos:Pos}
@[irreducible] noncomputable def PN (X:Cx) (e:Expr) (f:Rho->Option PyData):Prop:=
 PE X e fun σ H Q=>∃ ρ d,EnvR X.K H ρ σ/\f ρ=some d/\∀ a H',jq H H'->H a=none->aaw X.prog X.w X.K H' a d->Q (.ref a) H'
theorem alA {fr:Rho->Option (List PyData)} (h:PAD X es fr):PN X (.List es pos) (JV fr):=by
 with_unfolding_all
  intro pins s σ H Q I ⟨ρ,d,en,hf,k⟩
  cases h1:fr ρ with
  | none=>simp [JV,h1] at hf
  | some ds=>
   by_cases hfew:few ds=true
   ·have:PyData.list ds=d:=by simpa [JV,h1,hfew] using hf
    subst this
    refine thn (ahs h pins s σ H (fun v H2=>∃ a xs H1,v= .ref a/\H1 a=none/\jq H H1/\H2=upd H1 a (.lst xs)/\Reps X.K H1 ds xs) I ⟨ρ,ds,en,h1,fun vs H1 s1 r1=>⟨by rw [r1.length]; exact acD (by simpa [few] using hfew),fun l hl=>⟨l,vs,H1,rfl,hl,s1,rfl,r1⟩⟩⟩) fun u s1 ⟨v,H2,I2,r,a,xs,H1,e1,e2,s1',e3,r1⟩=>?_
    subst e1
    have e4:H2 a=some (.lst xs):=by rw [e3]; exact jr
    have e5:upd H2 a (QW a xs)=upd H1 a (QW a xs):=by rw [e3,Zv]
    have s2:jq H1 (upd H2 a (QW a xs)):=by rw [e5]; exact jC e2
    exact ⟨.ref a,_,Inv.closed I2 (.l xs) e4 (fun ob u z=>by have:=I.base.frzs _ _ _ z; rw [s1'.free e2] at this; cases this),r,k a _ (s1'.trans s2) (s1'.free e2) ⟨xs,jr,Reps.mono s2 _ _ r1⟩⟩
   ·simp [JV,h1,hfew] at hf
theorem acQ:PN X (.Dict [] [] pos) (cst (.dict [(.none,.none)])):=by
 with_unfolding_all
  intro pins s σ H Q I ⟨ρ,d,en,hf,k⟩
  cases hf
  refine thn (ak5 pins s σ H (fun v H2=>∃ a,v= .ref a/\H a=none/\H2=upd H a (.dK [])) I (fun l hl=>⟨l,rfl,hl,rfl⟩)) fun u s1 ⟨v,H2,I2,r,a,e1,e2,e3⟩=>?_
  subst e1
  have e4:H2 a=some (.dK []):=by rw [e3]; exact jr
  obtain ⟨ob,I3⟩:=Inv.sealedD I2 e4
  have s2:jq H (upd H2 a (abK X.prog X.w a ob [])):=by rw [e3,Zv]; exact jC e2
  exact ⟨.ref a,_,I3,r,k a _ s2 e2 ⟨[],[],ob,rfl,jr,rfl⟩⟩
noncomputable def aag (i:Nat) (f:Rho->Option PyData) (G:Rho->Option Out):Rho->Option Out:=fun ρ=>(f ρ).bind fun d=>if i < ρ.length then (G (ρ.set i (some d))).bind fun o=>match o with
  | .rt c=>some (.rt c)
  | _=>none
 else none
theorem Zb (i:Nat) {x:Str}{pos':Pos} (hN:X.N.Nodup) (he:PN X e fa) (h:acO X (some i) j5 G) (hi:X.N[i]?=some x:=by rfl) (hx:Loc X.env.scope x:=by first | exact Or.inl rfl | exact Or.inr rfl) (hs:swapsWith e (some (.Name x pos')) pos.line X.env=pure false:=by rfl)
  (hf:X.fn x=true ∨ X.env.scope.names.lookup x=some .local:=by first | exact .inl rfl | exact .inr rfl | assumption):acO X none (.Assign [.Name x pos'] e pos::j5) (aag i fa G):=by
 with_unfolding_all
  refine PSs.imp (QY (aeE hN hi hx he hs hf) h) fun D σ H ⟨Hs,ρ,o,E,q,k⟩=>?_
  cases h1:fa ρ with
  | none=>simp [aag,h1] at q
  | some d=>
   by_cases hl:i < ρ.length
   ·cases h2:G (ρ.set i (some d)) with
    | none=>simp [aag,h1,h2] at q
    | some p=>
     cases p with
     | rt c=>
      have:Out.rt c=o:=by simpa [aag,h1,h2,hl] using q
      subst this
      refine ⟨ρ,d,E.to,h1,fun a H' s hn ow=>⟨Hs,ρ.set i (some d),.rt c,⟨by simp [E.len],E.sm.trans s,fun j y q n=>?_,fun j n=>?_⟩,h2,k⟩⟩
      ·have hj:i ≠ j:=fun z=>n (by rw [z])
       rw [List.getElem?_set_ne hj] at q ⊢
       obtain ⟨v,g1,g2⟩:=E.pl j y q (fun z=>nomatch z)
       exact ⟨v,g1,Rep.mono s _ _ g2⟩
      ·cases n
       refine ⟨d,a,by rw [List.getElem?_set_self hl],by rw [List.getElem?_set_self (by rw [←E.len]; exact hl)],E.sm.free hn,ow⟩
     | nx _=>simp [aag,h1,h2,hl] at q
     | bk _=>simp [aag,h1,h2,hl] at q
     | ct _=>simp [aag,h1,h2,hl] at q
   ·simp [aag,h1,hl] at q
noncomputable def isI (n:Int):PyData->Bool
 | .int m=>decide (m=n)
 | _=>false
noncomputable def zb (r:List (PyData × PyData)) (n:Int):Option PyData:=(r.find? fun p=>isI n p.1).map (·.2)
noncomputable def acR (r:List (PyData × PyData)) (n:Int) (d:PyData):List (PyData × PyData):=if r.any (fun p=>isI n p.1)=true then r.map (fun p=>if isI n p.1=true then (p.1,d) else p) else r++[(.int n,d)]
theorem aaz {K:PySem.W.Frag}{H:Hp} (n:Int):∀ {r:List (PyData × PyData)}{ks:List (Key × V)},RepM K H r ks->(zb r n=none/\QA ks (Sum.inl n:Key)=none) ∨ ∃ d x,zb r n=some d/\QA ks (Sum.inl n:Key)=some x/\Rep K H d x
 | [],ks,h=>by cases (show ks=[] from h); exact .inl ⟨rfl,rfl⟩
 | (k,d)::r,ks,⟨i,x,s,h1,h2,h3,h4⟩=>by
  subst h1; subst h2
  by_cases hn:i=n
  ·subst hn
   exact .inr ⟨d,x,by simp [zb,isI],by simp [QA],h3⟩
  ·have e1:zb ((.int i,d)::r) n=zb r n:=by simp [zb,isI,hn,List.find?_cons]
   have e2:QA ((Sum.inl i,x)::s) (Sum.inl n:Key)=QA s (Sum.inl n):=by
    have:¬ (Sum.inl i:Key)=Sum.inl n:=fun z=>hn (Sum.inl.inj z)
    simp [QA,List.find?_cons,this]
   rw [e1,e2]
   exact aaz n h4
theorem RepM.any {K:PySem.W.Frag}{H:Hp} (n:Int):∀ {r:List (PyData × PyData)}{ks:List (Key × V)},RepM K H r ks->r.any (fun p=>isI n p.1)=ks.any fun kv=>decide (kv.1=(Sum.inl n:Key))
 | [],ks,h=>by cases (show ks=[] from h); rfl
 | (k,d)::r,ks,⟨i,x,s,h1,h2,h3,h4⟩=>by
  subst h1; subst h2
  rw [List.any_cons,List.any_cons,RepM.any n h4]
  congr 1
  by_cases hn:i=n
  ·subst hn; simp [isI]
  ·have:¬ (Sum.inl i:Key)=Sum.inl n:=fun z=>hn (Sum.inl.inj z)
   simp [isI,hn]
theorem RepM.repl {K:PySem.W.Frag}{H:Hp} (n:Int) {d':PyData}{x':V} (hr:Rep K H d' x'):∀ {r:List (PyData × PyData)}{ks:List (Key × V)},RepM K H r ks->
  RepM K H (r.map fun p=>if isI n p.1=true then (p.1,d') else p) (ks.map fun kv=>if kv.1=(Sum.inl n:Key) then (kv.1,x') else kv)
 | [],ks,h=>by cases (show ks=[] from h); exact rfl
 | (k,d)::r,ks,⟨i,x,s,h1,h2,h3,h4⟩=>by
  subst h1; subst h2
  by_cases hn:i=n
  ·subst hn
   have c1:isI i ((PyData.int i,d):PyData × PyData).1=true:=by simp [isI]
   rw [List.map_cons,List.map_cons,if_pos c1,if_pos rfl]
   exact ⟨i,x',_,rfl,rfl,hr,RepM.repl i hr h4⟩
  ·have c1:¬ isI n ((PyData.int i,d):PyData × PyData).1=true:=by simp [isI,hn]
   have c2:¬ ((Sum.inl i,x):Key × V).1=Sum.inl n:=fun z=>hn (Sum.inl.inj z)
   rw [List.map_cons,List.map_cons,if_neg c1,if_neg c2]
   exact ⟨i,x,_,rfl,rfl,h3,RepM.repl n hr h4⟩
theorem RepM.snoc {K:PySem.W.Frag}{H:Hp} (n:Int) {d':PyData}{x':V} (hr:Rep K H d' x'):∀ {r:List (PyData × PyData)}{ks:List (Key × V)},RepM K H r ks->RepM K H (r++[(.int n,d')]) (ks++[(Sum.inl n,x')])
 | [],ks,h=>by cases (show ks=[] from h); exact ⟨n,x',[],rfl,rfl,hr,rfl⟩
 | (k,d)::r,ks,⟨i,x,s,h1,h2,h3,h4⟩=>by
  subst h2
  exact ⟨i,x,_,h1,rfl,h3,RepM.snoc n hr h4⟩
theorem RepM.put {K:PySem.W.Frag}{H:Hp} (n:Int) {d':PyData}{x':V} (hr:Rep K H d' x') {r:List (PyData × PyData)}{ks:List (Key × V)} (h:RepM K H r ks):RepM K H (acR r n d') (Qc ks (Sum.inl n) x'):=by
 unfold acR Qc
 rw [h.any n]
 by_cases c:(ks.any fun kv=>decide (kv.1=(Sum.inl n:Key)))=true
 ·rw [if_pos c,if_pos c]; exact h.repl n hr
 ·rw [if_neg c,if_neg c]; exact h.snoc n hr
theorem RepM.length {K:PySem.W.Frag}{H:Hp}:∀ {r:List (PyData × PyData)}{ks:List (Key × V)},RepM K H r ks->ks.length=r.length
 | [],ks,h=>by cases (show ks=[] from h); rfl
 | (k,d)::r,ks,⟨i,x,s,h1,h2,h3,h4⟩=>by subst h2; simp [RepM.length h4]
noncomputable def arr (P:Program) (w:World):V->V->V->Hp->(Hp->Prop)->Prop:=fun o k v H Q=>∃ a ks ob n,o= .ref a/\k= .int n/\H a=some (abK P w a ob ks)/\ks.length < sizeLine/\∀ ob',Q (upd H a (abK P w a ob' (Qc ks (Sum.inl n) v)))
theorem alB (hu:X.A.units+1 < cLine):aqV X (arr X.prog X.w):=by
 intro pins s σ H o k v ov iv u Q I ro rk rv ⟨a,ks,ob,n,e1,e2,h1,h2,q⟩
 subst e1; subst e2
 cases ro
 obtain ⟨t,rfl⟩:=rk
 refine ajC hu (Inv.openD I h1) (ajA.k (k:=Sum.inl n) jr h2) ⟨t,rfl⟩ rv fun s' I'=>?_
 obtain ⟨ob',I2⟩:=Inv.sealedD I' jr
 rw [Zv,Zv] at I2
 exact ⟨_,I2,q ob'⟩
noncomputable def ahL (c v k:Option PyData):Option PyData:=match c,v,k with
 | some (.dict ((.none,.none)::r)),some d,some (.int n)=>if r.length < 1000000 then some (.dict ((.none,.none)::acR r n d)) else none
 | _,_,_=>none
theorem alC {c v k:Option PyData}{o:PyData} (h:ahL c v k=some o):∃ r d n,c=some (.dict ((.none,.none)::r))/\v=some d/\k=some (.int n)/\r.length < 1000000/\o= .dict ((.none,.none)::acR r n d):=by
 unfold ahL at h
 split at h
 ·split at h
  ·rename_i hc
   cases h
   exact ⟨_,_,_,rfl,rfl,rfl,hc,rfl⟩
  ·cases h
 ·cases h
noncomputable def ahM (i:Nat) (fk fv:Rho->Option PyData):Rho->Option Out:=fun ρ=>(ahL (lkp i ρ) (brw (some i) fv ρ) (brw (some i) fk ρ)).map fun d=> .nx (ρ.set i (some d))
theorem aeZ (i:Nat) {x:Str}{p1 p2:Pos}{fk fv:Rho->Option PyData} (hu:X.A.units+1 < cLine) (hk:PD X b fk) (he:PD X e fv) (hN:X.N[i]?=some x:=by rfl) (hv:Vis X.env.scope x:=by first | exact Or.inl rfl | exact Or.inr (Or.inl rfl) | exact Or.inr (Or.inr rfl))
  (hd:(x == ("__debug__":Str))=false:=by decide) (hcd:(x == ("__classdict__":Str))=false:=by decide)
  (ha:∀ v,assign (.Subscript (.Name x p1) b p2) X.env v=(do
   let ov ←holding [v] (eval (.Name x p1) X.env)
   let iv ←holding [v,ov] (eval b X.env)
   standAt p2
   holding [v,ov,iv] (setItem ov iv v)
   release [v,ov,iv] []):=by intro _; rfl)
  (hs:swapsWithSole [.Subscript (.Name x p1) b p2] e pos.line X.env=pure false:=by rfl) (hw:swappedStores [.Subscript (.Name x p1) b p2] e X.env=pure none:=by rfl)
  (h1:(assignEach [.Subscript (.Name x p1) b p2] X.env).map (·.2)=[assign (.Subscript (.Name x p1) b p2) X.env]:=by rfl):PSO X (some i) (.Assign [.Subscript (.Name x p1) b p2] e pos) (ahM i fk fv):=by
 with_unfolding_all
  refine PS.imp (apy (ahK (own:=some i) he) (apw (act hN hv hd hcd) (ahK (own:=some i) hk) (alB hu) ha) hs hw h1) fun D σ H ⟨Hs,ρ,o,E,q,k⟩=>?_
  cases hp:ahL (lkp i ρ) (brw (some i) fv ρ) (brw (some i) fk ρ) with
  | none=>simp [ahM,hp] at q
  | some nw=>
   have:Out.nx (ρ.set i (some nw))=o:=by simpa [ahM,hp] using q
   subst this
   obtain ⟨r,d,n,q1,q2,q3,hl,rfl⟩:=alC hp
   refine ⟨Hs,ρ,d,E,q2,fun v H1 s1 E1 r1=>?_⟩
   obtain ⟨d0,a,g1,g2,g3,g4⟩:=E1.ow i rfl
   rw [zg q1] at g1; cases g1
   refine ⟨.ref a,g2,Hs,ρ,.int n,E1,q3,fun kv H2 s2 E2 r2=>?_⟩
   cases (show kv=V.int n from r2)
   obtain ⟨d1,a1,f1,f2,f3,f4⟩:=E2.ow i rfl
   rw [zg q1] at f1; cases f1
   rw [g2] at f2; cases f2
   obtain ⟨ks,r',ob,e1,e2,e3⟩:=f4
   cases e1
   refine ⟨a,ks,ob,n,rfl,rfl,e2,by rw [e3.length]; exact aaf hl,fun ob'=>k _ _ (E2.put (zg q1) g2 f3 e2 (fun _ _ _ z=>z) ⟨_,_,ob',rfl,jr,?_⟩)⟩
   have s5:jQ H2 (upd H2 a (abK X.prog X.w a ob' (Qc ks (Sum.inl n) v))):=jQ.upd e2
   exact RepM.put n (Rep.monoE (s2.trans s5) _ _ r1) (RepM.monoE s5 _ _ e3)
end
noncomputable def zy:PyData->Option (List (PyData × PyData))
 | .dict ((.none,_)::r)=>some r
 | _=>none
theorem JL {K:PySem.W.Frag}{H:Hp}{d:PyData}{r:List (PyData × PyData)}{v:V} (h:zy d=some r) (q:Rep K H d v):∃ a ks ob,v= .ref a/\H a=some (.frz ob (.dK ks))/\RepM K H r ks:=by
 unfold zy at h
 split at h
 ·cases h
  obtain ⟨a,h1,⟨ns,h2,h3⟩ | ⟨ks,ob,h2,h3⟩ | ⟨x,h2,_⟩ | ⟨x,_,_,h2,_⟩⟩:=q
  ·cases ns with
   | nil=>cases h3
   | cons n ns=>cases h3
  ·exact ⟨a,ks,ob,h1,h2,h3⟩
  ·cases h2
  ·cases h2
 ·cases h
theorem acS {H:Hp}{a:Addr}{ob:Obj}{ks:List (Key × V)} (h:H a=some (.frz ob (.dK ks))) (n:Int):abW H a (.int n) (QA ks (Sum.inl n:Key)):= .inl ⟨ks,Sum.inl n,.inr ⟨ob,h⟩,rfl,rfl⟩
section
variable {X:Cx}{e a b c tg src:Expr}{es:List Expr}{fa fb fc:Rho->Option PyData}{pos:Pos}
noncomputable def af7 (p q:PyData):Option PyData:=match zy p,q with
 | some r,.int n=>zb r n
 | _,_=>none
theorem ahN (hu:X.A.units+1 < cLine) (ha:PD X a fa) (hb:PD X b fb) (hs:apP b:=by intro _ _; rfl):PD X (.Subscript a b pos) (op2 af7 fa fb):=by
 with_unfolding_all
  refine PE.imp (anq hu ha hb hs) fun σ H Q ⟨ρ,d,en,h,k⟩=>?_
  cases h1:fa ρ with
  | none=>simp [op2,h1] at h
  | some p=>
   cases h2:fb ρ with
   | none=>simp [op2,h1,h2] at h
   | some q=>
    have h':af7 p q=some d:=by simpa [op2,h1,h2] using h
    unfold af7 at h'
    split at h'
    ·rename_i r n hp
     refine ⟨ρ,p,en,h1,fun v H1 s1 r1=>⟨ρ,.int n,en.mono s1,h2,fun y H2 s2 r2=>?_⟩⟩
     cases (show y=V.int n from r2)
     obtain ⟨ad,ks,ob,e1,e2,e3⟩:=JL hp (Rep.mono s2 _ _ r1)
     rcases aaz n e3 with ⟨z,_⟩ | ⟨d',x,z1,z2,z3⟩
     ·rw [z] at h'; cases h'
     ·rw [z1] at h'; cases h'
      exact ⟨ad,x,e1,by rw [←z2]; exact acS e2 n,k x H2 (s1.trans s2) z3⟩
    ·cases h'
noncomputable def abL (p q z:PyData):Option PyData:=match zy p,q with
 | some r,.int n=>some ((zb r n).getD z)
 | _,_=>none
noncomputable def Qk (fa fb fc:Rho->Option PyData):Rho->Option PyData:=fun ρ=>(fa ρ).bind fun p=>(fb ρ).bind fun q=>(fc ρ).bind fun z=>abL p q z
theorem Zc {apos cpos:Pos} (hu:X.A.units+1 < cLine) (ha:PD X a fa) (hb:PD X b fb) (hc:PD X c fc) (m:M2 X a "get" apos b c cpos:=by exact ⟨rfl,rfl,rfl,rfl⟩):PD X (.Call (.Attribute a "get" apos) [b,c] [] cpos) (Qk fa fb fc):=by
 with_unfolding_all
  refine PE.imp (ak9 hu ha hb hc m) fun σ H Q ⟨ρ,d,en,h,k⟩=>?_
  cases h1:fa ρ with
  | none=>simp [Qk,h1] at h
  | some p=>
   cases h2:fb ρ with
   | none=>simp [Qk,h1,h2] at h
   | some q=>
    cases h3:fc ρ with
    | none=>simp [Qk,h1,h2,h3] at h
    | some z=>
     have h':abL p q z=some d:=by simpa [Qk,h1,h2,h3] using h
     unfold abL at h'
     split at h'
     ·rename_i r n hp
      cases h'
      refine ⟨ρ,p,en,h1,fun v H1 s1 r1=>?_⟩
      obtain ⟨ad,ks,ob,e1,e2,e3⟩:=JL hp r1
      refine ⟨ad,e1,.inl ⟨ks,.inr ⟨ob,e2⟩⟩,ρ,.int n,en.mono s1,h2,fun y H2 s2 r2=>⟨ρ,z,(en.mono s1).mono s2,h3,fun y3 H3 s3 r3=>?_⟩⟩
      cases (show y=V.int n from r2)
      refine ⟨_,acS (s3 _ _ (s2 _ _ e2)) n,?_⟩
      rcases aaz n (RepM.mono (s2.trans s3) _ _ e3) with ⟨z1,z2⟩ | ⟨d',x,z1,z2,z3⟩
      ·rw [z2]; exact k _ H3 (s1.trans (s2.trans s3)) (by rw [z1]; exact r3)
      ·rw [z2]; exact k _ H3 (s1.trans (s2.trans s3)) (by rw [z1]; exact z3)
     ·cases h'
noncomputable def aiP (p q:PyData):Option PyData:=match zy p,q with
 | some r,.int n=>some ((zb r n).getD .none)
 | _,_=>none
theorem alD {apos cpos:Pos} (hu:X.A.units+1 < cLine) (ha:PD X a fa) (hb:PD X b fb) (m:M1 X a "get" apos b cpos:=by exact ⟨rfl,rfl,rfl,rfl⟩):PD X (.Call (.Attribute a "get" apos) [b] [] cpos) (op2 aiP fa fb):=by
 with_unfolding_all
  refine PE.imp (ak8 hu ha hb m) fun σ H Q ⟨ρ,d,en,h,k⟩=>?_
  cases h1:fa ρ with
  | none=>simp [op2,h1] at h
  | some p=>
   cases h2:fb ρ with
   | none=>simp [op2,h1,h2] at h
   | some q=>
    have h':aiP p q=some d:=by simpa [op2,h1,h2] using h
    unfold aiP at h'
    split at h'
    ·rename_i r n hp
     cases h'
     refine ⟨ρ,p,en,h1,fun v H1 s1 r1=>?_⟩
     obtain ⟨ad,ks,ob,e1,e2,e3⟩:=JL hp r1
     refine ⟨ad,e1,.inl ⟨ks,.inr ⟨ob,e2⟩⟩,ρ,.int n,en.mono s1,h2,fun y H2 s2 r2=>?_⟩
     cases (show y=V.int n from r2)
     refine ⟨_,acS (s2 _ _ e2) n,?_⟩
     rcases aaz n (RepM.mono s2 _ _ e3) with ⟨z1,z2⟩ | ⟨d',x,z1,z2,z3⟩
     ·rw [z2]; exact k _ H2 (s1.trans s2) (by rw [z1]; exact rfl)
     ·rw [z2]; exact k _ H2 (s1.trans s2) (by rw [z1]; exact z3)
    ·cases h'
noncomputable def Itd (d:Addr) (ob:Obj) (ks:List (Key × V)):It:=
 ⟨fun i H=>H d=some (.frz ob (.dK ks))/\i < ks.length,fun i H x H'=>H'=H/\∃ kv,ks[i]?=some kv/\x=kV kv.1,fun i H=>H d=some (.frz ob (.dK ks))/\ks.length<=i⟩
theorem ajS {k:Key}{v:Value} (h:acq k v=true):jP (kV k) v:=by
 rcases qg h with ⟨i,t,rfl,rfl⟩ | ⟨x,t,rfl,rfl⟩
 ·exact ⟨t,rfl⟩
 ·exact ⟨t,rfl⟩
theorem alE {P:Program}{w:World}{H:Hp}{h:Heap}{d:Addr}{ob:Obj}{ks:List (Key × V)}{es:Array DictEntry}{ep:Nat} (ok:HOk P w H h) (e:H d=some (.frz ob (.dK ks))) (hd:ob.data= .dict es ep):∃ vs,KV ks vs/\h.DictAt (j1 P w) d vs ep:=by
 obtain ⟨h0,z,nm,vs,rel,ob',es',ep',h4,h5,h6,h7⟩:=ok d _ e
 rw [h0] at h4; cases h4
 rw [hd] at h6; cases h6
 exact ⟨vs,rel,ob,es,h0,h5,hd,h7⟩
theorem ajT {P:Program}{w:World}{K:PySem.W.Frag}{tg:Expr} (d it:Addr) (hne:d ≠ it) (ob:Obj) (ks:List (Key × V)) (es:Array DictEntry) (ep:Nat) (hd:ob.data= .dict es ep):Turn P w K tg (Itd d ob ks) [it] it (fun i h=>h.IsKeyIter it d i ks.length ep) where
 mem:=by simp
 obj:=fun i h st b hb=>by
  have e:b=it:=by simpa using hb
  subst e
  obtain ⟨o,e,c,d⟩:=st
  exact ⟨o,e,fun v z=>by rw [d] at z; cases z⟩
 keep:=fun i h h' st k=>st.at fun o e=>k it (by simp) o e
 item:=by
  intro X hP hw hK hc i pins s σ H E I hf st hg
  subst hP hw hK
  obtain ⟨hH,hi⟩:=hg
  obtain ⟨vs,rel,dat⟩:=alE I.hok hH hd
  have hl:=rel.length
  obtain ⟨f0,f1,f2,f3,f4,f5⟩:=hf it (by simp)
  have hi':i < vs.length:=by omega
  obtain ⟨⟨k,x⟩,hx⟩:∃ p,vs[i]?=some p:=⟨vs[i],by simp [hi']⟩
  rw [hl] at st
  refine wpAny_pyNext_dict_item st dat hx fun key h' hkey st' sb=>?_
  have I1:Inv X pins σ H { s with heap:=h' }:=I.turned (t':=s.toks) (fun b o hb e=>(sb.2 b hb).trans e) f0 f1 f3 f4 f5
  obtain ⟨o,e,c,dd⟩:=id st'
  rw [←hl] at st'
  have hk:(ks.map (·.1))[i]?=some k:=by rw [rel.keys,List.getElem?_map,hx]; rfl
  rw [List.getElem?_map] at hk
  cases hq:ks[i]? with
  | none=>rw [hq] at hk; cases hk
  | some kv=>
   rw [hq] at hk
   have hk':kv.1=k:=by simpa using hk
   exact ⟨key,rfl,afT (s:={ s with heap:=h' }) e c dd (by decide) ⟨kV k,H,I1,ajS hkey,⟨rfl,kv,hq,by rw [hk']⟩,st',fun b hb=>(hf b hb).1⟩⟩
 done:=by
  intro X hP hw hK hc i pins s σ H E I hf st hg
  subst hP hw hK
  obtain ⟨hH,hi⟩:=hg
  obtain ⟨vs,rel,dat⟩:=alE I.hok hH hd
  have hl:=rel.length
  obtain ⟨f0,f1,f2,f3,f4,f5⟩:=hf it (by simp)
  rw [hl] at st
  exact wpAny_pyNext_dict_end (I.ok.hd hc) st dat (by simp; omega) fun h' eb=>⟨rfl,I.turned (t':=s.toks) (fun b o hb e=>eb b o hb e) f0 f1 f3 f4 f5⟩
 self:=fun _ _ _ _ _ st h=>wpAny_pyIter_keyiter st h
end
noncomputable def ars:HO->Bool
 | .lst _=>true
 | .tup _=>true
 | .frz _ _=>true
 | _=>false
noncomputable def Zd (H H':Hp):Prop:=∀ b o,H b=some o->ars o=true->H' b=some o
section
variable {K:PySem.W.Frag}{H H':Hp}
theorem Zd.tup {a:Addr}{xs:List V} (e:Zd H H') (h:SqT K H a xs):SqT K H' a xs:=by
 rcases h with (h | ⟨o,h⟩) | h
 ·exact .inl (.inl (e _ _ h rfl))
 ·exact .inl (.inr ⟨o,e _ _ h rfl⟩)
 ·exact .inr h
theorem Zd.sql {a:Addr}{xs:List V} (e:Zd H H') (h:SqL K H a xs):SqL K H' a xs:=by
 rcases h with (h | ⟨o,h⟩) | h
 ·exact .inl (.inl (e _ _ h rfl))
 ·exact .inl (.inr ⟨o,e _ _ h rfl⟩)
 ·exact .inr h
mutual
theorem Rep.monoA (e:Zd H H'):∀ (d:PyData) (v:V),Rep K H d v->Rep K H' d v
 | .none,v,h=>h
 | .bool _,v,h=>h
 | .int _,v,h=>h
 | .str _,v,h=>h
 | .tuple ds,v,⟨a,xs,h1,h2,h3⟩=>⟨a,xs,h1,Zd.tup e h2,Reps.monoA e ds xs h3⟩
 | .list ds,v,⟨a,xs,h1,h2,h3⟩=>⟨a,xs,h1,e _ _ h2 rfl,Reps.monoA e ds xs h3⟩
 | .dict kvs,v,⟨a,h1,h2⟩=>⟨a,h1,h2.imp (fun ⟨ns,q1,q2⟩=>⟨ns,Zd.sql e q1,q2⟩) fun z=>z.imp (fun ⟨ks,ob,q1,q2⟩=>⟨ks,ob,e _ _ q1 rfl,RepD.monoA e kvs ks q2⟩) fun y=>y.imp id fun ⟨x,C,oe,q1,q2,q3⟩=>⟨x,C,oe,q1,e _ _ q2 rfl,q3⟩⟩
theorem Reps.monoA (e:Zd H H'):∀ (ds:List PyData) (xs:List V),Reps K H ds xs->Reps K H' ds xs
 | [],xs,h=>h
 | d::ds,xs,⟨x,r,h1,h2,h3⟩=>⟨x,r,h1,Rep.monoA e d x h2,Reps.monoA e ds r h3⟩
theorem RepD.monoA (e:Zd H H'):∀ (kvs:List (PyData × PyData)) (ks:List (Key × V)),RepD K H kvs ks->RepD K H' kvs ks
 | [],_,h=>h
 | (.none,c)::r,ks,h=>RepM.monoA e r ks h
 | (.bool _,_)::_,_,h=>h
 | (.int _,_)::_,_,h=>h
 | (.str _,_)::_,_,h=>h
 | (.list _,_)::_,_,h=>h
 | (.tuple _,_)::_,_,h=>h
 | (.dict _,_)::_,_,h=>h
theorem RepM.monoA (e:Zd H H'):∀ (kvs:List (PyData × PyData)) (ks:List (Key × V)),RepM K H kvs ks->RepM K H' kvs ks
 | [],_,h=>h
 | (k,d)::r,ks,⟨i,x,s,h1,h2,h3,h4⟩=>⟨i,x,s,h1,h2,Rep.monoA e d x h3,RepM.monoA e r s h4⟩
end
end
section
variable {X:Cx}{e a b c tg src:Expr}{es:List Expr}{fa fb fc:Rho->Option PyData}{pos:Pos}
noncomputable def ase (K:PySem.W.Frag) (tl:TE):TI:=fun σ H R=>tl σ H fun x H1=>∃ d ob ks,x= .ref d/\H1 d=some (.frz ob (.dK ks))/\R (Itd d ob ks) H1
theorem anO {l:Expr}{tl:TE} (hl:PE X l tl):PI X tg l (ase X.K tl):=by
 intro pins s σ H R I h
 refine thn (hl pins s σ H _ I h) fun v s1 ⟨x,H1,I1,r1,q1⟩=>?_
 obtain ⟨d,ob,ks,e,hq,q⟩:=q1
 subst e
 cases r1
 obtain ⟨h0,z,nm,vs,rel,ob',es,ep,h4,h5,h6,h7⟩:=I1.hok d _ hq
 rw [h0] at h4; cases h4
 have hl:=rel.length
 refine wpAny_pyIter_dict nm (show s1.heap.DictAt (j1 X.prog X.w) d vs ep from ⟨ob,es,h0,h5,h6,h7⟩) ?_
 rw [←hl]
 refine ⟨s1.heap.objs.size,[s1.heap.objs.size],_,_,H1,rfl,I1.kept (t':=s1.toks) fun b o e=>Heap.get?_push_of_some _ e,ajT d _ (Nat.ne_of_lt (Heap.lt_size h0)) ob ks es ep h6,⟨_,Heap.get?_push_size _ rfl,rfl,rfl⟩,fun b hb=>?_,q⟩
 have e:b=s1.heap.objs.size:=by simpa using hb
 subst e
 exact I1.fpOk (Nat.le_refl _) (I1.hok.fresh (Nat.le_refl _))
theorem RepM.keys {K:PySem.W.Frag}{H:Hp}:∀ {r:List (PyData × PyData)}{ks:List (Key × V)}{i:Nat}{d:PyData}{kv:Key × V},RepM K H r ks->(r.map (·.1))[i]?=some d->ks[i]?=some kv->Rep K H d (kV kv.1)
 | [],ks,i,d,kv,h,e,q=>by simp at e
 | (k,c)::r,ks,0,d,kv,⟨i,x,s,h1,h2,h3,h4⟩,e,q=>by
  subst h1; subst h2
  simp at e q
  subst e; subst q
  exact rfl
 | (k,c)::r,ks,j+1,d,kv,⟨i,x,s,h1,h2,h3,h4⟩,e,q=>by
  subst h2
  exact RepM.keys (i:=j) h4 (by simpa using e) (by simpa using q)
noncomputable def itD (fa:Rho->Option PyData):Rho->Option (List PyData):=fun ρ=>(fa ρ).bind fun d=>(zy d).map fun r=>r.map (·.1)
theorem acT (h:PD X e fa):PID X tg e (itD fa):=by
 with_unfolding_all
  refine PI.imp (anO h) fun σ H R ⟨ρ,ds,en,q,k⟩=>?_
  cases h1:fa ρ with
  | none=>simp [itD,h1] at q
  | some d=>
   cases h2:zy d with
   | none=>simp [itD,h1,h2] at q
   | some r=>
    have:r.map (·.1)=ds:=by simpa [itD,h1,h2] using q
    subst this
    refine ⟨ρ,_,en,h1,fun v H1 s1 r1=>?_⟩
    obtain ⟨a,ks,ob,e1,e2,e3⟩:=JL h2 r1
    have hl:=e3.length
    refine ⟨a,ob,ks,e1,e2,k _ H1 s1 fun i H2 s2=>⟨fun hi=>?_,fun hi=>?_,fun x H' y=>?_⟩⟩
    ·exact ⟨s2 _ _ e2 (fun _ z=>nomatch z),by rw [hl]; simpa using hi⟩
    ·exact ⟨s2 _ _ e2 (fun _ z=>nomatch z),by rw [hl]; simpa using hi⟩
    ·obtain ⟨z1,kv,z2,z3⟩:=y
     subst z1; subst z3
     exact ⟨jq.refl _,fun d hd=>RepM.keys (RepM.monoE s2 _ _ e3) hd z2⟩
noncomputable def ajU (fa fb:Rho->Option PyData):Rho->Option PyData:=fun ρ=>(fa ρ).bind fun k=>(fb ρ).bind fun d=>match k with
 | .int n=>some (.dict [(.none,.none),(.int n,d)])
 | _=>none
theorem acU (ha:PD X a fa) (hb:PD X b fb):PD X (.Dict [some a] [b] pos) (ajU fa fb):=by
 with_unfolding_all
  intro pins s σ H Q I ⟨ρ,d,en,hf,k⟩
  cases h1:fa ρ with
  | none=>simp [ajU,h1] at hf
  | some p=>
   cases h2:fb ρ with
   | none=>simp [ajU,h1,h2] at hf
   | some q=>
    cases p with
    | int n=>
     have:PyData.dict [(.none,.none),(.int n,q)]=d:=by simpa [ajU,h1,h2] using hf
     subst this
     have W:=ans (X:=X) (pos:=pos) (ak6 ha hb anr) rfl rfl (by simp) (by simp)
     refine thn (W pins s σ H (fun v H4=>∃ l y H3,v= .ref l/\H l=none/\H3 l=some (.dK [])/\jq (upd H l (.dK [])) H3/\Rep X.K H3 q y/\H4=upd H3 l (.dK [(Sum.inl n,y)])) I fun l hl=>?_) fun u s1 ⟨v,H4,I4,r,l,y,H3,e1,e2,e3,e4,e5,e6⟩=>?_
     ·have s0:jq H (upd H l (.dK [])):=jC hl
      refine ⟨ρ,.int n,en.mono s0,h1,fun x H1 s1 r1=>⟨ρ,q,(en.mono s0).mono s1,h2,fun y H2 s2 r2=>?_⟩⟩
      cases (show x=V.int n from r1)
      have el:H2 l=some (.dK []):=s2 _ _ (s1 _ _ jr)
      exact ⟨el,[(Sum.inl n,y)],rfl,by simp,l,y,H2,rfl,hl,el,s1.trans s2,r2,rfl⟩
     ·subst e1
      have e7:H4 l=some (.dK [(Sum.inl n,y)]):=by rw [e6]; exact jr
      obtain ⟨ob,I5⟩:=Inv.sealedD I4 e7
      have I6:=Inv.opened I5 (.d ob _) jr
      rw [Zv] at I6
      have sA:Zd H3 (upd H4 l (.frz ob (.dK [(Sum.inl n,y)]))):=fun b o z dt=>by
       have:b ≠ l:=fun m=>by subst m; rw [e3] at z; cases z; cases dt
       rw [jn this,e6,jn this]; exact z
      have sH:jq H (upd H4 l (.frz ob (.dK [(Sum.inl n,y)]))):=fun b o z=>by
       have:b ≠ l:=fun m=>by subst m; rw [e2] at z; cases z
       rw [jn this,e6,jn this]; exact e4 b o (by rw [jn this]; exact z)
      exact ⟨.ref l,_,I6,r,k _ _ sH ⟨l,rfl,.inr (.inl ⟨_,ob,jr,show RepM X.K _ [(.int n,q)] _ from ⟨n,y,[],rfl,rfl,Rep.monoA sA _ _ e5,rfl⟩⟩)⟩⟩
    | _=>simp [ajU,h1,h2] at hf
end
end BX
end
section
namespace BX
open PySem PySem.Spec L2
theorem af8 (l:Addr) (items:Array Value) (n:Nat) (u:Tok) (dd:Option Addr) (sl:Array (Option Value)):
  Meets (Builtin.«tuple.__mul__» ⟨[.ref l,.int 1 u],[]⟩) (fun _ R s=>s.heap.get? l=some { cls:= .type "tuple",dict:=dd,data:= .seq items n,slots:=sl }/\R (.ok (.ret (.ref l))) s):=
 .of_wp fun prog w A R s h=>by
  obtain ⟨hp,g,d,tk,os⟩:=s
  obtain ⟨hl,h⟩:=h
  have e1:(items.isEmpty || (1:Int) == 1)=true:=by simp
  wp_walk
  exact ⟨_,rfl,h⟩
theorem af9 (l:Addr) (items:Array Value) (n:Nat) (x:Int) (u:Tok) (dd:Option Addr) (sl:Array (Option Value)) (hx:x<=0) (hx2:-(2 ^ 63)<=x) (hi:items.isEmpty=false):
  Meets (Builtin.«tuple.__mul__» ⟨[.ref l,.int x u],[]⟩) (fun _ R s=>s.heap.get? l=some { cls:= .type "tuple",dict:=dd,data:= .seq items n,slots:=sl }/\R (.ok (.ret (.ref s.heap.objs.size))) { s with heap:=s.heap.push { cls:= .type "tuple",data:= .seq #[] } }):=
 .of_wp fun prog w A R s h=>by
  obtain ⟨hp,g,d,tk,os⟩:=s
  obtain ⟨hl,h⟩:=h
  have e0:(decide (x < -(2 ^ 63)) || decide (x >= 2 ^ 63))=false:=by simp; omega
  have e1:(items.isEmpty || x == 1)=false:=by rw [hi]; simp; omega
  have e2:(decide (x<=0) || items.isEmpty)=true:=by simp [hx]
  wp_walk
  refine wpAny_ite_false (by rw [e0]; rfl) ?_
  wp_walk
  refine wpAny_ite_false (by rw [e1]; rfl) ?_
  wp_walk
  exact ⟨_,rfl,h⟩
theorem aga (l:Addr) (items:Array Value) (n:Nat) (x:Int) (u:Tok) (dd:Option Addr) (sl:Array (Option Value)) (hx:2<=x) (hx2:x < 2 ^ 63) (hi:items.isEmpty=false) (hz:(items.size:Int)*x<=sizeLine) (hsz:(List.foldl (fun x1 x2=>x1++x2) #[] (List.replicate x.toNat items)).size<=sizeLine):
  Meets (Builtin.«tuple.__mul__» ⟨[.ref l,.int x u],[]⟩) (fun _ R s=>s.heap.get? l=some { cls:= .type "tuple",dict:=dd,data:= .seq items n,slots:=sl }/\R (.ok (.ret (.ref s.heap.objs.size))) { s with heap:=s.heap.push { cls:= .type "tuple",data:= .seq (List.foldl (fun x1 x2=>x1++x2) #[] (List.replicate x.toNat items)) } }):=
 .of_wp fun prog w A R s h=>by
  obtain ⟨hp,g,d,tk,os⟩:=s
  obtain ⟨hl,h⟩:=h
  have hs:((2 ^ 63 - 1) / 8:Int) >= (sizeLine:Int):=by rw [sizeLine_eq]; decide
  have e0:(decide (x < -(2 ^ 63)) || decide (x >= 2 ^ 63))=false:=by simp; omega
  have e1:(items.isEmpty || x == 1)=false:=by rw [hi]; simp; omega
  have e2:(decide (x<=0) || items.isEmpty)=false:=by rw [hi]; simp; omega
  have e3:¬ (items.size:Int)*x > (2 ^ 63 - 1) / 8:=by omega
  have e4:Builtin.Tuple.tupleTooMany ((items.size:Int)*x)=false:=by simp [Builtin.Tuple.tupleTooMany]; omega
  wp_walk
  refine wpAny_ite_false (by rw [e0]; rfl) ?_
  wp_walk
  refine wpAny_ite_false (by rw [e1]; rfl) ?_
  wp_walk
  refine wpAny_ite_false (by rw [e2]; rfl) ?_
  wp_walk
  rw [if_neg e3]
  refine wpAny_ite_false (by rw [e4]; rfl) ?_
  wp_walk
  exact ⟨_,rfl,h⟩
theorem abf:fillsNumberSlot (.type "tuple") "mul"=pure false:=
 PySem.fillsNumberSlot_seq (id:="tuple.__mul__") (r:=some (.builtin "tuple.__rmul__")) F.slot_tuple_mul.lookup (by decide +kernel) F.slot_tuple_rmul.lookup (by decide +kernel)
theorem ae0:seqRepeat? (.type "tuple")=pure (some (.builtin "tuple.__mul__")):=by
 unfold seqRepeat?
 rw [PySem.seqSlot_of (T:="tuple") (name:="__mul__") (id:="tuple.__mul__") F.slot_tuple_mul.lookup (by decide +kernel),PySem.seqSlot_of (T:="tuple") (name:="__rmul__") (id:="tuple.__rmul__") F.slot_tuple_rmul.lookup (by decide +kernel)]
 rfl
theorem acV (a:Int) (t:Tok) (l:Addr) (items:Array Value) (n:Nat) (dd:Option Addr) (sl:Array (Option Value)):
  Meets (Builtin.«int.__rmul__» ⟨[.int a t,.ref l],[]⟩) (fun _ R s=>s.heap.get? l=some { cls:= .type "tuple",dict:=dd,data:= .seq items n,slots:=sl }/\R (.ok (.ret Value.notImplemented)) s):=
 .of_wp fun prog w A R s h=>by
  obtain ⟨hp,g,d,tk,os⟩:=s; obtain ⟨hl,h⟩:=h
  wp_walk
  exact ⟨_,rfl,h⟩
section
open PyProof.Rows hiding St
variable {X:Cx}{e a b c tg src:Expr}{es:List Expr}{fa fb fc:Rho->Option PyData}{pos:Pos}{j5:List Expr}
noncomputable def art (K:PySem.W.Frag):R2:=fun x y H Q=>∃ l k xs,x= .ref l/\y= .int k/\SqT K H l xs/\0 < xs.length/\-(2 ^ 63)<=k/\k < 2 ^ 63/\(xs.length:Int)*k<=sizeLine/\
 (∀ p,H p=none->Q (.ref p) (upd H p (.tup (List.replicate k.toNat xs).flatten)))/\(k=1->Q (.ref l) H)
theorem anP:OpR X (binaryOp .Mult) (art X.K):=by
 intro pins s σ H x y v u Q I rx ry h
 obtain ⟨l,k,xs,rfl,rfl,hH,hne,h1,h2,hz,q,q1⟩:=h
 cases rx
 obtain ⟨t,rfl⟩:=ry
 obtain ⟨its,r,⟨⟨oc,od,odt,osl⟩,e,c,n,d⟩,hlz⟩:=I.tuple hH
 have hl:=r.length
 cases c
 cases (show odt=_ from d)
 have hi:its.toArray.isEmpty=false:=by
  cases its with
  | nil=>rw [hl] at hne; simp at hne
  | cons a r'=>simp
 refine wpAny_binaryOp_repeat_ref (T:="tuple") (U:="int") (by decide) ⟨_,e,rfl⟩ (fun s'=>typeIs_int s' k t) abf F.fills_int_mul F.slot_int_rmul ae0 F.slot_int_index.lookup
  (call_meets F.slot_int_rmul (typeIs_int s k t) F.entry_int_rmul (F.args_int_rmul_2 _ _) (acV k t l its.toArray n od osl) ⟨e,rfl,⟨_,e,rfl⟩,?_⟩)
 have fresh:∀ {ys:List V} {jts:List Value},jG ys jts->ys.length<=sizeLine->Inv X pins σ (upd H s.heap.objs.size (.tup ys)) { s with heap:=s.heap.push { cls:= .type "tuple",data:= .seq jts.toArray } }:=fun {ys jts} rv hy=>
  I.laid (t':=s.toks) (fun b o e=>Heap.get?_push_of_some _ e) (Nat.le_refl _) (show qt X.prog X.w _ _ _ (.tup ys) from ⟨hy,jts,rv,IsTup.new _ _⟩)
 by_cases k1:k=1
 ·subst k1
  exact call_meets F.slot_tuple_mul ⟨_,e,rfl⟩ F.entry_tuple_mul (F.args_tuple_mul_2 _ _) (af8 l its.toArray n t od osl) ⟨e,.ref l,H,I,rfl,q1 rfl⟩
 ·by_cases k0:k<=0
  ·have hk:k.toNat=0:=by omega
   refine call_meets F.slot_tuple_mul ⟨_,e,rfl⟩ F.entry_tuple_mul (F.args_tuple_mul_2 _ _) (af9 l its.toArray n k t od osl k0 h1 hi) ⟨e,.ref _,_,fresh (ys:=[]) (jts:=[]) .nil (Nat.zero_le _),rfl,?_⟩
   have:=q _ (I.hok.fresh (Nat.le_refl _))
   rw [hk] at this
   exact this
  ·have hnew:List.foldl (fun x1 x2=>x1++x2) #[] (List.replicate k.toNat its.toArray)=(List.replicate k.toNat its).flatten.toArray:=by
    have:=abb its k.toNat []
    rw [List.nil_append] at this
    exact this
   have hlen:((List.replicate k.toNat xs).flatten.length:Int)=xs.length*k:=by
    rw [aiz,Int.natCast_mul,Int.mul_comm,Int.toNat_of_nonneg (by omega)]
   have hlen2:(List.replicate k.toNat xs).flatten.length<=sizeLine:=by omega
   have hl2:=(r.rep k.toNat).length
   refine call_meets F.slot_tuple_mul ⟨_,e,rfl⟩ F.entry_tuple_mul (F.args_tuple_mul_2 _ _) (aga l its.toArray n k t od osl (by omega) h2 hi (by rw [List.size_toArray,←hl]; exact hz) (by rw [hnew,List.size_toArray,←hl2]; exact hlen2)) ⟨e,?_⟩
   rw [hnew]
   exact ⟨.ref _,_,fresh (r.rep k.toNat) hlen2,rfl,q _ (I.hok.fresh (Nat.le_refl _))⟩
end
end BX
end
section
namespace BX
open PySem PySem.Spec L2
open PyProof.Rows hiding St
section
variable {X:Cx}{e a b c tg src:Expr}{es:List Expr}{fa fb fc:Rho->Option PyData}{pos:Pos}{j5:List Expr}
noncomputable def alF (p q:PyData):Option PyData:=match p,q with
 | .tuple ds,.int k=>if 0 < ds.length/\ds.length < 1000/\-1000 < k/\k < 1000 then some (.tuple (List.replicate k.toNat ds).flatten) else none
 | _,_=>none
theorem alG:OpD X (binaryOp .Mult) alF:=by
 refine ⟨_,anP,fun p q d x y H Q h rx ry k=>?_⟩
 unfold alF at h
 split at h
 ·rename_i ds n
  split at h
  ·rename_i hc
   cases h
   obtain ⟨a,us,e1,e2,e3⟩:=rx
   cases (show y=V.int n from ry)
   have hl:=e3.length
   have hz:(us.length:Int)*n<=1000000:=by
    have h1:(us.length:Int)*n<=us.length*1000:=Int.mul_le_mul_of_nonneg_left (by omega) (by omega)
    omega
   refine ⟨a,n,us,e1,rfl,e2,by omega,by omega,by omega,Int.le_trans hz (by rw [sizeLine_eq]; decide),fun p hp=>?_,fun h1=>?_⟩
   ·have s1:=jC (o:= .tup (List.replicate n.toNat us).flatten) hp
    exact k _ _ s1 ⟨p,_,rfl,SqT.of jr,Reps.mono s1 _ _ (e3.rep _)⟩
   ·subst h1
    refine k _ H (jq.refl H) ⟨a,us,rfl,e2,?_⟩
    simpa using e3
  ·cases h
 ·cases h
noncomputable def aru (lo:Int) (n:Nat):It:=⟨fun i _=>i < n,fun i H x H'=>H'=H/\x= .int (lo - i),fun i _=>n<=i⟩
theorem agb {P:Program}{w:World}{K:PySem.W.Frag}{tg:Expr} (it:Addr) (lo:Int) (n:Nat):Turn P w K tg (aru lo n) [it] it (fun i h=>IsRangeIter h it (lo+(i:Nat)*(-1)) ((n:Int) - (i:Nat)) (-1)) where
 mem:=by simp
 obj:=fun i h st b hb=>by
  have e:b=it:=by simpa using hb
  subst e
  exact ⟨_,st,fun v z=>by
   have z':Data.fields _=Data.cell v:=z
   cases z'⟩
 keep:=fun i h h' st k=>k it (by simp) _ st
 item:=by
  intro X hP hw hK hc i pins s σ H E I hf st hg
  subst hP hw hK
  obtain ⟨f0,f1,f2,f3,f4,f5⟩:=hf it (by simp)
  have W:=Walks.range (prog:=X.prog) (w:=X.w) (I.ok.hd hc) it lo (-1) n
  refine W.item i s _ _ hg st fun v h' tk hv st' kk=>?_
  obtain ⟨t,rfl⟩:=hv
  have I1:Inv X pins σ H { s with heap:=h',toks:=tk }:=I.turned (fun b o hb e=>kk b o (by simpa using hb) e) f0 f1 f3 f4 f5
  refine ⟨_,rfl,afT (s:={ s with heap:=h',toks:=tk }) (n:="range_iterator") st' rfl rfl (by decide) ⟨.int (lo - i),H,I1,⟨t,?_⟩,⟨rfl,rfl⟩,st',fun b hb=>(hf b hb).1⟩⟩
  congr 1
  omega
 done:=by
  intro X hP hw hK hc i pins s σ H E I hf st hg
  subst hP hw hK
  obtain ⟨f0,f1,f2,f3,f4,f5⟩:=hf it (by simp)
  exact wpAny_pyNext_range_end (I.ok.hd hc) st (by have:n<=i:=hg; omega) fun h' eb=>⟨rfl,I.turned (t':=s.toks) (fun b o hb e=>eb b o hb e) f0 f1 f3 f4 f5⟩
 self:=fun _ _ _ _ _ st h=>wpAny_pyIter_rangeiter st h
theorem Ze (a b:Int):Builtin.Range.rangeSize a b (-1)=if a > b then a - b else 0:=by
 unfold Builtin.Range.rangeSize
 simp only [show ¬ (-1:Int) > 0 by decide,zzN,Int.neg_neg,Int.ediv_one]
 split <;> omega
theorem ahO {a b:Int} (ha:-1000000<=a) (ha':a < 1000000) (hb:-1000000<=b) (hb':b < 1000000):Builtin.Range.small a b (-1)=true:=by
 unfold Builtin.Range.small
 rw [Ze]
 simp only [Builtin.Range.rangeFitsLong,Bool.and_eq_true,Bool.or_eq_true,decide_eq_true_eq,beq_iff_eq,show ¬ (-1:Int) > 0 by decide,zzN]
 split <;> omega
noncomputable def arv (ta:TA):TI:=fun σ H R=>ta σ H fun vs H1=>∃ i j:Int,vs=[.int i,.int j,.int (-1)]/\(-1000000<=i/\i < 1000000/\-1000000<=j/\j < 1000000)/\R (aru i (i - j).toNat) H1
theorem ajV {ta:TA}{p pos:Pos} (hg:Gl X "range") (hm:X.mg "range"=none) (ha:PA X [a,b,c] ta) (hs:starEach [a,b,c] X.env=[(false,eval a X.env),(false,eval b X.env),(false,eval c X.env)]:=by rfl) (hs2:starEach [b,c] X.env=[(false,eval b X.env),(false,eval c X.env)]:=by rfl):
  PI X tg (.Call (.Name "range" p) [a,b,c] [] pos) (arv ta):=by
 intro pins s σ H R I h
 refine Call_ (Z9 I hg hm boot_range (PyProof.Rows.callWith_type1 (thn (ha pos pins s σ H _ I h) fun us s1 ⟨vs,H1,I1,r1,q1⟩=>?_) (by rw [hs,hs2]) (by rw [hs2]; rfl)))
 obtain ⟨i,j,e,⟨q1,q2,q3,q4⟩,q⟩:=q1
 subst e
 cases r1 with
 | cons r rr=>
  cases rr with
  | cons r' rr=>
   cases rr with
   | cons r'' rr=>
    cases rr
    obtain ⟨t,rfl⟩:=r
    obtain ⟨t',rfl⟩:=r'
    obtain ⟨t'',rfl⟩:=r''
    refine PySem.call_range_3 (by decide) ?_ (Or.inl (PyProof.noPylong_small (by decide)))
    refine wpAny_pyIter_range (IsRange.new ..) (ahO q1 q2 q3 q4) ?_
    have I2:Inv X pins σ H1 { s1 with heap:=s1.heap.push { cls:= .type "range",data:= .fields #[.int i t,.int j t',.int (-1) t''] },toks:=s1.toks }:=I1.kept fun b o e=>Heap.get?_push_of_some _ e
    refine ⟨(s1.heap.push { cls:= .type "range",data:= .fields #[.int i t,.int j t',.int (-1) t''] }).objs.size,[(s1.heap.push { cls:= .type "range",data:= .fields #[.int i t,.int j t',.int (-1) t''] }).objs.size],_,_,H1,rfl,
     I2.kept (t':=s1.toks) fun b o e=>Heap.get?_push_of_some _ e,agb _ i (i - j).toNat,?_,fun b hb=>?_,q⟩
    ·have e1:i+((0:Nat):Int)*(-1)=i:=by simp
     have e2:(((i - j).toNat:Nat):Int) - ((0:Nat):Int)=Builtin.Range.rangeSize i j (-1):=by rw [Ze]; split <;> omega
     show IsRangeIter _ _ (i+((0:Nat):Int)*(-1)) ((((i - j).toNat:Nat):Int) - ((0:Nat):Int)) (-1)
     rw [e1,e2]
     exact Heap.get?_push_size _ rfl
    ·have e:b=(s1.heap.push { cls:= .type "range",data:= .fields #[.int i t,.int j t',.int (-1) t''] }).objs.size:=by simpa using hb
     subst e
     exact I2.fpOk (Nat.le_refl _) (I2.hok.fresh (Nat.le_refl _))
noncomputable def aiQ (lo:Int) (n:Nat):List PyData:=(List.range n).map fun (k:Nat)=>PyData.int (lo - (k:Int))
noncomputable def ajW (ds:List PyData):Option (List PyData):=match ds with
 | [.int i,.int j,.int c]=>if c=-1/\-1000000<=i/\i < 1000000/\-1000000<=j/\j < 1000000 then some (aiQ i (i - j).toNat) else none
 | _=>none
theorem aah {p pos:Pos}{fr:Rho->Option (List PyData)} (hg:Gl X "range") (hm:X.mg "range"=none) (ha:PAD X [a,b,c] fr) (hs:starEach [a,b,c] X.env=[(false,eval a X.env),(false,eval b X.env),(false,eval c X.env)]:=by rfl) (hs2:starEach [b,c] X.env=[(false,eval b X.env),(false,eval c X.env)]:=by rfl):
  PID X tg (.Call (.Name "range" p) [a,b,c] [] pos) (fun ρ=>(fr ρ).bind ajW):=by
 with_unfolding_all
  refine PI.imp (ajV hg hm ha hs hs2) fun σ H R ⟨ρ,ds,en,q,k⟩=>?_
  cases h1:fr ρ with
  | none=>simp [h1] at q
  | some as=>
   have q':ajW as=some ds:=by simpa [h1] using q
   refine ⟨ρ,as,en,h1,fun vs H1 s1 r1=>?_⟩
   unfold ajW at q'
   split at q'
   ·rename_i i j cc
    split at q'
    ·rename_i hj
     cases q'
     obtain ⟨rfl,hj⟩:=hj
     obtain ⟨x,r,e1,e2,y,r',e3,e4,z,r'',e5,e6,e7⟩:=r1
     cases (show x=V.int i from e2)
     cases (show y=V.int j from e4)
     cases (show z=V.int (-1) from e6)
     cases (show r''=[] from e7)
     subst e5; subst e3
     refine ⟨i,j,e1,hj,k _ H1 s1 fun n H2 s2=>?_⟩
     have hl:(aiQ i (i - j).toNat).length=(i - j).toNat:=by simp [aiQ]
     refine ⟨fun hi=>by rw [hl] at hi; exact hi,fun hi=>by rw [hl] at hi; exact hi,fun x H' y=>?_⟩
     obtain ⟨z1,z2⟩:=y
     subst z1
     refine ⟨jq.refl _,fun d hd=>?_⟩
     have hi:n < (i - j).toNat:=by
      have:=(List.getElem?_eq_some_iff.mp hd).1
      rw [hl] at this; exact this
     have:d= .int (i - n):=by
      simp [aiQ,hi] at hd
      exact hd.symm
     subst this
     exact z2
    ·cases q'
   ·cases q'
noncomputable def arw:PyData->Bool
 | .none=>true
 | _=>false
theorem alH {K:PySem.W.Frag}{H:Hp}{p:PyData}{x:V} (r:Rep K H p x):decide (x= .non)=arw p:=by
 cases p with
 | none=>cases (show x= .non from r); rfl
 | bool b=>cases (show x=_ from r); rfl
 | int b=>cases (show x=_ from r); rfl
 | str b=>cases (show x=_ from r); rfl
 | tuple ds=>obtain ⟨a,xs,h,_⟩:=r; subst h; rfl
 | list ds=>obtain ⟨a,xs,h,_⟩:=r; subst h; rfl
 | dict ds=>obtain ⟨a,h,_⟩:=r; subst h; rfl
noncomputable def aiR (p q:PyData):Option PyData:=match q with
 | .none=>some (.bool (!arw p))
 | _=>none
theorem alI:OpD X (compareOp .IsNot) aiR:=by
 refine ⟨_,anf,fun p q d x y H Q h rx ry k=>?_⟩
 unfold aiR at h
 split at h
 ·cases h
  exact ⟨ry,by rw [alH rx]; exact k _ H (jq.refl H) rfl⟩
 ·cases h
end
section
variable {X:Cx}{e a b c tg src:Expr}{es:List Expr}{fa fb fc:Rho->Option PyData}{pos:Pos}
noncomputable def arx:V->List V->Hp->VK->Prop:=fun x vs H Q=>∃ l xs y,x= .ref l/\vs=[.int 0,y]/\H l=some (.lst xs)/\xs.length < sizeLine/\Q .non (upd H l (.lst (y::xs)))
theorem ahP:MtM X "list.insert" arx:=by
 intro pins s σ H x vs v us Q I rx rv h
 obtain ⟨l,xs,y,rfl,rfl,hH,hz,q⟩:=h
 cases rx
 cases rv with
 | cons r0 rv=>
  obtain ⟨t,rfl⟩:=r0
  obtain ⟨u,rfl,ru⟩:=jG.one rv
  obtain ⟨z,its,n,r,hl,e⟩:=I.lstM hH
  refine call_meets F.slot_list_insert ⟨_,e,rfl⟩ F.entry_list_insert (F.args_list_insert_3 _ _ _) (AutoSeq1.list_insert_list_int_val_1 l its.toArray n 0 t u (by decide) (by rw [List.size_toArray]; omega)) ⟨e,?_⟩
  refine ⟨.non,_,I.lset (its':=u::its) (t':=s.toks) hH e ?_ (.cons ru r) ?_,rfl,q⟩
  ·simp
  ·rw [List.length_cons]; omega
noncomputable def anQ (c z d:Option PyData):Option PyData:=match c,z,d with
 | some (.list ds),some (.int 0),some d=>if noL d=true/\ds.length < 1000000 then some (.list (d::ds)) else none
 | _,_,_=>none
noncomputable def ary (i:Nat) (fz fa:Rho->Option PyData):Rho->Option PyData:=fun ρ=>anQ (lkp i ρ) (fz ρ) (fa ρ)
theorem alJ {c z d:Option PyData}{r:PyData} (h:anQ c z d=some r):∃ ds x,c=some (.list ds)/\z=some (.int 0)/\d=some x/\noL x=true/\ds.length < 1000000/\r= .list (x::ds):=by
 unfold anQ at h
 split at h
 ·split at h
  ·rename_i hc
   cases h
   exact ⟨_,_,rfl,rfl,rfl,hc.1,hc.2,rfl⟩
  ·cases h
 ·cases h
theorem ahQ (i:Nat) {x:Str}{p1 apos cpos:Pos}{fz:Rho->Option PyData} (hz:PD X b fz) (h:PD X e fa) (hN:X.N[i]?=some x:=by rfl) (hv:Vis X.env.scope x:=by first | exact Or.inl rfl | exact Or.inr (Or.inl rfl) | exact Or.inr (Or.inr rfl)) (hd:(x == ("__debug__":Str))=false:=by decide)
  (hcd:(x == ("__classdict__":Str))=false:=by decide) (hbase:attributeBase (.Name x p1) "insert" X.env (eval (.Name x p1) X.env)=eval (.Name x p1) X.env:=by rfl)
  (hfew:((backTo cpos (starEach [b,e] X.env)).all (fun x=>!x.1) && (backToKw cpos (keywordEach [] X.env)).all (fun x=>x.1.isSome) && decide ([b,e].length+([]:List Keyword).length+(if ([]:List Keyword).isEmpty then 0 else 1) < 30))=true:=by rfl)
  (hline:(apos.endLine == cpos.line)=true:=by rfl) (hs:starEach [b,e] X.env=(false,eval b X.env)::starEach [e] X.env:=by rfl) (hs2:starEach [e] X.env=(false,eval e X.env)::starEach [] X.env:=by rfl) (hplain:(backTo cpos (starEach [e] X.env)).any (·.1)=false:=by rfl):
  PE X (.Call (.Attribute (.Name x p1) "insert" apos) [b,e] [] cpos) (ap7 X.prog X.w X.K i (ary i fz fa)):=by
 with_unfolding_all
  intro pins s σ H Q I ⟨Hs,ρ,d',E,hg,k⟩
  obtain ⟨ds,d,q1,q0,q2,hn,hl,rfl⟩:=alJ hg
  obtain ⟨a,xs,g2,g3,g4,g5,env⟩:=E.opnL (zg q1)
  have hlen:=g5.length
  have W:=afX (X:=X) (cpos:=cpos) (apos:=apos) PySem.F.plainAttrs_list PySem.F.slot_list_insert PySem.F.type_list_insert ahP (act hN hv hd hcd) (qm hz (qm h zL hs2) hs) hbase hfew hline hs hplain
  refine thn (W pins s σ (upd H a (.lst xs)) (fun v H4=>∃ H3 y,v= .non/\H4=upd H3 a (.lst (y::xs))/\jq (upd H a (.lst xs)) H3/\Rep X.K H3 d y) (Inv.opened I (.l xs) g4)
   ⟨.ref a,g2,.inl ⟨rfl,_,SqL.of jr⟩,ρ,.int 0,env,q0,fun y0 H2 s2 r2=>⟨ρ,d,env.mono s2,q2,fun y H3 s3 r3=>?_⟩⟩) fun u s1 ⟨v,H4,I4,r,H3,y,e1,e2,s3,r3⟩=>?_
  ·cases (show y0=V.int 0 from r2)
   exact ⟨a,xs,y,rfl,rfl,s3 _ _ (s2 _ _ jr),by rw [hlen]; exact aaf hl,H3,y,rfl,rfl,s2.trans s3,r3⟩
  subst e1
  have e4:H4 a=some (.lst (y::xs)):=by rw [e2]; exact jr
  have sb:∀ b u,b ≠ a->H b=some u->H4 b=some u:=fun b u n q=>by rw [e2,jn n]; exact s3 b u (by rw [jn n]; exact q)
  refine ⟨.non,upd H4 a (QW a (y::xs)),Inv.closed I4 (.l _) e4 (Inv.nofrz I g4),r,k _ (E.put (zg q1) g2 g3 g4 sb ⟨y::xs,jr,?_⟩)⟩
  have s5:jQ H (upd H4 a (QW a (y::xs))):=fun b u q m=>by
   have:b ≠ a:=fun z=>by subst z; rw [g4] at q; cases q; exact m _ rfl
   rw [jn this]; exact sb b u this q
  have s6:zI H3 (upd H4 a (QW a (y::xs))):=fun b u q m=>by
   have e3:H3 a=some (.lst xs):=s3 _ _ jr
   have:b ≠ a:=fun z=>by subst z; rw [e3] at q; cases q; exact m _ rfl
   rw [jn this,e2,jn this]; exact q
  exact ⟨y,xs,rfl,Rep.monoN s6 _ _ hn r3,Reps.monoE s5 _ _ g5⟩
end
section
variable {X:Cx}{e a b c tg src:Expr}{es:List Expr}{fa fb fc:Rho->Option PyData}{pos:Pos}
theorem Reps.set {K:PySem.W.Frag}{H:Hp}{d:PyData}{v:V} (r:Rep K H d v):∀ {ds:List PyData}{xs:List V} (j:Nat),Reps K H ds xs->Reps K H (ds.set j d) (xs.set j v)
 | [],xs,j,h=>by cases (show xs=[] from h); exact rfl
 | _::ds,xs,0,⟨x,q,h1,h2,h3⟩=>by subst h1; exact ⟨v,q,rfl,r,h3⟩
 | _::ds,xs,j+1,⟨x,q,h1,h2,h3⟩=>by subst h1; exact ⟨x,_,rfl,h2,Reps.set r j h3⟩
noncomputable def ae1 (ds:List PyData):Option PyData:=match ds with
 | [.list xs]=>some (.list xs)
 | [.tuple xs]=>some (.list xs)
 | _=>none
noncomputable def ahR (ds:List PyData):Option PyData:=match ds with
 | [.list xs]=>some (.tuple xs)
 | [.tuple xs]=>some (.tuple xs)
 | _=>none
theorem alK:Qf X (.type "tuple") ahR:=by
 refine ⟨_,adG,fun ds d xs H Q h r k=>?_⟩
 unfold ahR at h
 split at h
 ·cases h
  obtain ⟨x,q,e1,e2,e3⟩:=r
  cases (show q=[] from e3)
  obtain ⟨a,us,g1,g2,g3⟩:=e2
  subst g1
  refine ⟨a,us,e1,.inl ⟨SqL.of g2,fun l hl=>?_⟩⟩
  have s1:=jC (o:= .tup us) hl
  exact k _ _ s1 ⟨l,us,rfl,SqT.of jr,Reps.mono s1 _ _ g3⟩
 ·cases h
  obtain ⟨x,q,e1,e2,e3⟩:=r
  cases (show q=[] from e3)
  obtain ⟨a,us,g1,g2,g3⟩:=e2
  subst g1
  exact ⟨a,us,e1,.inr ⟨g2,k _ H (jq.refl H) ⟨a,us,rfl,g2,g3⟩⟩⟩
 ·cases h
end
section
variable {X:Cx}{e a b c:Expr}{fa fb fc:Rho->Option PyData}{pos p2:Pos}
end
section
variable {prog:Program}{w:World}{A:Around}{E:Value->Shared->Prop}{s:Shared}
noncomputable def ItA (g:Bool) (h:Heap) (i t:Addr) (k:Nat):Prop:=match g with
 | true=>h.IsListIter i t k
 | false=>h.IsTupleIter i t k
noncomputable def SrA (g:Bool) (h:Heap) (t:Addr) (xs:Array Value):Prop:=match g with
 | true=>h.IsList t xs
 | false=>h.IsTuple t xs
theorem ItA.to {g:Bool}{h h':Heap}{i t:Addr}{k:Nat} (x:ItA g h i t k) (kp:∀ o,h.get? i=some o->h'.get? i=some o):ItA g h' i t k:=by
 cases g <;> exact (let ⟨o,e,r⟩:=x; ⟨o,kp o e,r⟩)
theorem SrA.to {g:Bool}{h h':Heap}{t:Addr}{xs:Array Value} (x:SrA g h t xs) (kp:∀ o,h.get? t=some o->h'.get? t=some o):SrA g h' t xs:=by
 cases g <;> exact (let ⟨o,e,r⟩:=x; ⟨o,kp o e,r⟩)
theorem ItA.extBut {g:Bool}{h h':Heap}{i t b:Addr}{k:Nat} (x:ItA g h i t k) (e:Heap.ExtBut b h h') (n:i ≠ b):ItA g h' i t k:=x.to fun o q=>e i o n q
theorem SrA.extBut {g:Bool}{h h':Heap}{t b:Addr}{xs:Array Value} (x:SrA g h t xs) (e:Heap.ExtBut b h h') (n:t ≠ b):SrA g h' t xs:=x.to fun o q=>e t o n q
theorem ItA.obj {g:Bool}{h:Heap}{i t:Addr}{k:Nat} (x:ItA g h i t k):∃ o vs,h.get? i=some o/\o.data= .fields vs:=by
 cases g <;> exact (let ⟨o,e,_,d⟩:=x; ⟨o,_,e,d⟩)
structure Apart2 (z TI TO i1 i2 t1 t2:Addr):Prop where
 nd:[z,TO,i1,i2].Nodup
 ti:TI ∉ [z,TO,i1,i2]
 s1:t1 ∉ [z,TO,i1,i2]
 s2:t2 ∉ [z,TO,i1,i2]
structure Zip2 (ga gb:Bool) (h:Heap) (z TI TO i1 i2 t1 t2:Addr) (f0:Value) (k:Nat):Prop where
 hz:IsZip h z TI TO f0
 hTI:IsPair h TI (.ref i1) (.ref i2)
 hTO:∃ a b,IsPair h TO a b
 g1:ItA ga h i1 t1 k
 g2:ItA gb h i2 t2 k
theorem Zip2.keep {ga gb:Bool}{h h':Heap}{z TI TO i1 i2 t1 t2:Addr}{f0:Value}{k:Nat} (S:Zip2 ga gb h z TI TO i1 i2 t1 t2 f0 k) (kp:∀ b ∈ [z,TI,TO,i1,i2],∀ o,h.get? b=some o->h'.get? b=some o):
  Zip2 ga gb h' z TI TO i1 i2 t1 t2 f0 k:=by
 obtain ⟨hz,hTI,⟨a,b,hTO⟩,g1,g2⟩:=S
 exact ⟨kp z (by simp) _ hz,kp TI (by simp) _ hTI,⟨a,b,kp TO (by simp) _ hTO⟩,g1.to (kp i1 (by simp)),g2.to (kp i2 (by simp))⟩
end
noncomputable def Sq (g:Bool) (K:PySem.W.Frag) (H:Hp) (t:Addr) (xs:List V):Prop:=match g with
 | true=>SqL K H t xs
 | false=>SqT K H t xs
theorem Sq.inj {g:Bool}{X:Cx}{pins:List (Addr × Obj)}{σ:St}{H:Hp}{s:Shared}{a:Addr}{xs ys:List V} (I:Inv X pins σ H s) (q:Sq g X.K H a xs) (q':Sq g X.K H a ys):xs=ys:=by
 cases g with
 | true=>exact I.list_inj q q'
 | false=>exact I.tuple_inj q q'
theorem Sq.monoE {g:Bool}{K:PySem.W.Frag}{H H':Hp}{a:Addr}{xs:List V} (e:jQ H H') (h:Sq g K H a xs):Sq g K H' a xs:=by
 cases g with
 | true=>exact jQ.sql e h
 | false=>exact jQ.tup e h
theorem Sq.at {g:Bool}{K:PySem.W.Frag}{H:Hp}{a:Addr}{xs:List V} (h:Sq g K H a xs):(∃ u,H a=some u) ∨ ∃ o,K.lookup a=some o:=by
 cases g with
 | true=>rcases h with (e | ⟨o,e⟩) | ⟨o,its,n,hk,_⟩ <;> first | exact .inl ⟨_,e⟩ | exact .inr ⟨_,hk⟩
 | false=>rcases h with (e | ⟨o,e⟩) | ⟨o,its,n,hk,_⟩ <;> first | exact .inl ⟨_,e⟩ | exact .inr ⟨_,hk⟩
section
variable {X:Cx}
end
section
variable {X:Cx}{e a b c:Expr}{fa fb fc:Rho->Option PyData}{pos p2:Pos}
noncomputable def aiS (p q:PyData):Option PyData:=match p,q with
 | .list ds,.int k=>if ds.length < 1000/\-1000 < k/\k < 1000 then some (.list (List.replicate k.toNat ds).flatten) else none
 | _,_=>none
theorem acW:OpD X (binaryOp .Mult) aiS:=by
 refine ⟨_,ak2,fun p q d x y H Q h rx ry k=>?_⟩
 unfold aiS at h
 split at h
 ·rename_i ds n
  split at h
  ·rename_i hc
   cases h
   obtain ⟨l,us,e1,e2,e3⟩:=rx
   cases (show y=V.int n from ry)
   have hl:=e3.length
   refine ⟨l,n,us,e1,rfl,e2,by omega,by omega,?_,fun p hp=>?_⟩
   ·rw [sizeLine_eq]
    have h1:us.length*n.toNat<=1000*1000:=Nat.mul_le_mul (by omega) (by omega)
    exact Nat.le_trans h1 (by decide)
   ·have s1:=jC (o:= .lst (List.replicate n.toNat us).flatten) hp
    exact k _ _ s1 ⟨p,_,rfl,jr,Reps.mono s1 _ _ (e3.rep _)⟩
  ·cases h
 ·cases h
theorem Zw:∀ {is:List Int}{us:List Value},jG (is.map V.int) us->∀ (j:Nat) (i:Int),is[j]?=some i->∃ t,us[j]?=some (.int i t)
 | [],us,r,j,i,h=>by simp at h
 | i0::is,u::us,.cons r rr,j,i,h=>by
  cases j with
  | zero=>cases h; obtain ⟨t,rfl⟩:=r; exact ⟨t,rfl⟩
  | succ j=>exact Zw rr j i (by simpa using h)
end
structure OneCell (sc:Scope) (y0:Str) (pre post:List (Str × NameKind)):Prop where
 split:sc.names=pre++(y0,.cell)::post
 pre:∀ x ∈ pre,x.2 ≠ .cell
 post:∀ x ∈ post,x.2 ≠ .cell
structure CompOk1 (X:Cx) (sc:Scope) (N':List Str) (cap:List (Option Nat)) (y0:Str):Prop where
 fr:∀ x ∈ sc.names,x.2= .free->X.env.kindOf x.1=some .cell ∨ X.env.kindOf x.1=some .free
 one:∃ pre post,OneCell sc y0 pre post
 lk:sc.names.lookup y0=some .cell
 kind:sc.kind= .function
 nm:∀ x ∈ sc.names,x.2= .local->sc.names.lookup x.1=some .local
 len:cap.length=N'.length
 cp:∀ (j i:Nat) (x:Str),N'[j]?=some x->cap[j]?=some (some i)->X.N[i]?=some x/\sc.names.lookup x=some .free
section
variable {X:Cx}{e:Expr}{fa:Rho->Option PyData}
end
theorem anR {X : Cx} {i0 : Nat} {x0 : Str} {pos0 pos1 : Pos} {el tg src : Expr} {ts : List Expr} {sc : Scope} {ps : Pos} {wi : TI} {g : TG} {tt : TT} {te : TE} {N' : List Str} {cap : List (Option Nat)} (hc : X.calm = true) (hi : PI X tg src wi) (ok : CompOk X sc N' cap)
    (body : ∀ cl C s0 H0 fp pn, PG (blk X N' sc cl C s0 H0 fp pn) tg g /\ PTs (blk X N' sc cl C s0 H0 fp pn) ts tt /\ PE (blk X N' sc cl C s0 H0 fp pn) el te)
    (hN : X.N.Nodup) (hi0 : X.N[i0]? = some x0) (hx0 : Loc X.env.scope x0) (hsw : swapsWith (.ListComp el [⟨tg, src, ts, 0⟩] sc ps) (some (.Name x0 pos0)) pos1.line X.env = pure true)
    (hf0 : X.fn x0 = true ∨ X.env.scope.names.lookup x0 = some .local)
    (hs : ∀ x, foldedSetIterable src X.env x = pure x := by intro _; rfl) : PS X (.Assign [.Name x0 pos0] (.ListComp el [⟨tg, src, ts, 0⟩] sc ps) pos1) (apx (ala wi cap g tt te) (akR i0)) := by
  intro pins s σ H Dn I h
  have hfr : ∀ x ∈ sc.names, x.2 = .free -> ∃ c, X.env.cells.lookup x.1 = some c := fun x hx e => I.ok.has x.1 (ok.fr x hx e)
  have hcl := aiC sc X.env hfr
  have clm : ∀ x c, (QU X.env sc.names []).lookup x = some c -> X.env.cells.lookup x = some c := fun x c e =>
    abc X.env sc.names [] hfr (fun _ z => nomatch z) (x, c) (PySem.mem_of_lookup e)
  generalize hgl : QU X.env sc.names [] = cl at hcl clm
  rw [exec_Assign_Name_used _ _ _ _ hsw]
  refine wpAny_bind (wpAny_standAt (wpAny_bind ?_))
  show wpAny _ X.A (do let _ ← comprehension (.ListComp el [⟨tg, src, ts, 0⟩] sc ps) sc X.env _ (newList []) false (eval src X.env) (some (assign (.Name x0 pos0) X.env))) _ _ s
  refine wpAny_bind (wpAny_mono (wpAny_comprehension_free (use := some (assign (.Name x0 pos0) X.env)) (Q := fun _ s' => SP X pins Dn .next s') rfl hs hcl ok.kind ok.nm ?_) (fun _ s' hq => wpAny_pure (wpAny_pure hq)) fun _ _ e => e)
  refine thn (hi pins s σ H _ I h) fun v s1 h1 => thn h1 fun itv s2 h2 => ?_
  obtain ⟨it, fp, tn, J, H2, e, I2, T, st2, f2, W, ⟨m0, w0⟩, turn⟩ := h2
  subst e
  refine wpAny_newObj_type (wpAny_newFunctionEnv ok.nc (by intro y hy; simp at hy) (fun h4 hns hsb => ?_) ok.kind)
  dsimp only at hns hsb ⊢
  generalize hH3 : s2.heap.push { cls := .type "list", dict := none, data := .seq ([] : List Value).toArray } = h3 at hns hsb ⊢
  have hC : h3.objs.size = s2.heap.objs.size + 1 := by rw [← hH3, Heap.size_push]
  generalize hCC : h3.objs.size = C at hns hsb hC ⊢
  generalize hDD : s2.heap.objs.size = D at hC ⊢
  have hDC : D ≠ C := by rw [hC]; exact Nat.ne_of_lt (Nat.lt_succ_self _)
  have old : ∀ b o, s2.heap.get? b = some o -> h4.get? b = some o := fun b o e => hsb.extBut b o (by have := Heap.lt_size e; rw [hDD] at this; rw [hC]; exact Nat.ne_of_lt (Nat.lt_succ_of_lt this)) (Heap.get?_push_of_some _ (hH3 ▸ Heap.get?_push_of_some _ e))
  have accO : h4.get? D = some { cls := .type "list", data := .seq ([] : List Value).toArray 0 } := hsb.extBut _ _ hDC (Heap.get?_push_of_some _ (by rw [← hH3, ← hDD]; exact Heap.get?_push_size _ rfl))
  have H2D : H2 D = none := I2.hok.fresh (by rw [hDD]; exact Nat.le_refl _)
  have H2C : H2 C = none := I2.hok.fresh (by rw [hDD, hC]; exact Nat.le_succ _)
  have cellsLt : ∀ x c, X.env.cells.lookup x = some c -> c < D := fun x c e => by
    obtain ⟨v, q⟩ := I2.cell x c e
    rw [← hDD]; exact q.lt
  have pinLt : ∀ p ∈ X.pn ++ pins, p.1 < D := fun p hp => by rw [← hDD]; exact Heap.lt_size (I2.pin p hp).1
  have stkLt : ∀ b ∈ frs X.stack, b < D := fun b hb => by
    obtain ⟨_, o, ho, _⟩ := I2.stack.mem hb
    rw [← hDD]; exact Heap.lt_size ho
  have fpLt : ∀ b ∈ fp, b < D := fun b hb => by
    obtain ⟨o, ho, _⟩ := T.obj _ _ st2 b hb
    rw [← hDD]; exact Heap.lt_size ho
  have ltC : ∀ {b : Addr}, b < D -> b ≠ C := fun hb => by rw [hC]; exact Nat.ne_of_lt (Nat.lt_succ_of_lt hb)
  have locLt : X.env.locals < D := by rw [← hDD]; exact I2.lt
  have hDge : s2.heap.objs.size <= D := by rw [hDD]; exact Nat.le_refl _
  have hCge : s2.heap.objs.size <= C := by rw [hDD, hC]; exact Nat.le_succ _
  have bok : (blk X N' sc cl C s2 H2 fp (X.pn ++ pins)).Ok := by
    refine ⟨I2.ok.mod, ok.kind, I2.ok.glob, I2.ok.blt, hCge, fun x y c e1 e2 => I2.ok.inj x y c (clm x c e1) (clm y c e2), fun x hx => ?_, fun x c z _ => ?_, I2.ok.hd, I2.ok.frames, .inl rfl, fun b hb => ?_, I2.bs, Nat.le_trans I2.ok.bsz I2.sz, fun b o e hb => ?_, fun b hb z => ?_, I2.stack, I2.stkFree⟩
    · have hx' : (relabel sc X.env).names.lookup x = some .cell ∨ (relabel sc X.env).names.lookup x = some .free := hx
      have hm : (x, NameKind.free) ∈ sc.names := by
        rcases hx' with z | z
        · exact JJ (PySem.mem_of_lookup z) ok.nc (.inl rfl)
        · exact JJ (PySem.mem_of_lookup z) ok.nc (.inr rfl)
      obtain ⟨c, hc⟩ := Qd X.env sc.names [] x hm
      rw [hgl] at hc
      exact zf hc
    · exact absurd (show false = true from z) Bool.false_ne_true
    · exact ⟨ltC (fpLt b hb), fun x c e => (f2 b hb).2.2.2.2.1 x c (clm x c e)⟩
    · rcases (f2 b hb).2.2.2.1 with z | z
      · exact I2.ok.noex b o e z
      · have := Heap.lt_size e
        exact absurd (Nat.lt_of_lt_of_le this (Nat.le_trans I2.ok.bsz z)) (Nat.lt_irrefl _)
    · rcases List.mem_cons.mp (I2.stkSub b z) with q | q
      · exact (f2 b hb).2.1 q
      · exact (f2 b hb).2.2.1 q
  have pinB : ∀ p ∈ X.pn ++ pins, p.1 ≠ C /\ p.1 ∉ frs X.stack := fun p hp => ⟨ltC (pinLt p hp), fun z => by
    rcases List.mem_cons.mp (I2.stkSub p.1 z) with q | q
    · exact (I2.pin p hp).2.2.1 q
    · exact (I2.pin p hp).2.2.2.1 q⟩
  have I4 : Inv (blk X N' sc cl C s2 H2 fp (X.pn ++ pins)) [] (abX cap σ) H2 { s2 with heap := h4, toks := s2.toks + ([] : List (Str × Value)).length } := by
    refine ⟨bok, rfl, I2.bare, Un.kept old, ⟨_, hns, fun j x v e1 e2 e3 => ?_⟩, fun x c e => ?_, H2C, fun x c e => I2.freeC x c (clm x c e), fun p hp => ?_, I2.hok.kept old, ?_⟩
    · unfold abX at e2
      rw [List.getElem?_map] at e2
      cases e4 : cap[j]? with
      | none => rw [e4] at e2; cases e2
      | some o =>
        rw [e4] at e2
        cases o with
        | none => cases e2
        | some i =>
          obtain ⟨hNi, hf⟩ := ok.cp j i x e1 e4
          have e5 : (σ[i]?).join = some v := by
            have := Option.some.inj e2
            simpa using this
          have e6 : σ[i]? = some (some v) := by
            cases e7 : σ[i]? with
            | none => rw [e7] at e5; cases e5
            | some z => rw [e7] at e5; cases z with
              | none => cases e5
              | some z => cases e5; rfl
          have hk := ok.fr (x, .free) (PySem.mem_of_lookup hf) rfl
          obtain ⟨m, hn, hl⟩ := I2.loc
          have hv : Vis X.env.scope x := by
            rcases hk with z | z
            · exact .inr (.inl z)
            · exact .inr (.inr z)
          obtain ⟨u, r, lk⟩ := hl i x v hNi e6 hv
          have cellX : ∃ c, X.env.cells.lookup x = some c /\ s2.heap.IsCell c (some u) := by
            rcases lk with ⟨k1, _⟩ | ⟨_, c, e, z⟩
            · rcases hk with z | z
              · have z' : X.env.kindOf x = some .cell := z
                rw [k1] at z'; cases z'
              · have z' : X.env.kindOf x = some .free := z
                rw [k1] at z'; cases z'
            · exact ⟨c, e, z⟩
          obtain ⟨c, hc1, ob, hc2, hc3⟩ := cellX
          obtain ⟨c', hc'⟩ := Qd X.env sc.names [] x (PySem.mem_of_lookup hf)
          rw [hgl] at hc'
          obtain ⟨d, hd⟩ := zf hc'
          have ed : d = c := by
            have := clm x d hd
            rw [hc1] at this; cases this; rfl
          subst ed
          refine ⟨u, r, .inr ⟨?_, d, hd, ob, old _ _ hc2, hc3⟩⟩
          exact QB hf
    · obtain ⟨v, ob, ho, hd⟩ := I2.cell x c (clm x c e)
      exact ⟨v, ob, old _ _ ho, hd⟩
    · have hp' : p ∈ X.pn ++ pins := by simpa [blk] using hp
      obtain ⟨e1, e2, e3, e4, e5⟩ := I2.pin p hp'
      exact ⟨old _ _ e1, e2, (pinB p hp').1, (pinB p hp').2, e5⟩
    · show (abX cap σ).length = N'.length
      unfold abX
      rw [List.length_map]; exact ok.len
  have fpB : ∀ {H' : Hp} {pl : List (Addr × Obj)}, (∀ b ∈ fp, H' b = none) -> (∀ p ∈ pl, p.1 ∉ fp) -> ∀ b ∈ fp, aeF (blk X N' sc cl C s2 H2 fp (X.pn ++ pins)) pl H' b := fun {H' pl} hn hpl b hb =>
    ⟨hn b hb, ltC (fpLt b hb), bok.exfs b hb, .inl hb, fun x c e => (f2 b hb).2.2.2.2.1 x c (clm x c e), fun p hp z => by
      rcases List.mem_append.mp (show p ∈ (X.pn ++ pins) ++ pl from hp) with q | q
      · exact (f2 b hb).2.2.2.2.2 p q z
      · exact hpl p q (by rw [z]; exact hb)⟩
  have Dfp : ∀ (o : Obj), ∀ p ∈ [(D, o)], p.1 ∉ fp := fun o p hp z => by
    have e : p = (D, o) := by simpa using hp
    subst e
    exact Nat.lt_irrefl _ (fpLt D z)
  have Dfs : D ∉ frs X.stack := fun z => Nat.lt_irrefl _ (stkLt D z)
  obtain ⟨bG, bT, bE⟩ := body cl C s2 H2 fp (X.pn ++ pins)
  have loop : codeAny (model X.prog X.w) X.A (.compLoop (.ListComp el [⟨tg, src, ts, 0⟩] sc ps) 0 (.ref it) (.ref D) (compEnvC sc cl C X.env)) (compPost (model X.prog X.w) X.A X.xe (some (assign (.Name x0 pos0) X.env)) (fun _ s' => SP X pins Dn .next s') (.ref D) C)
      { s2 with heap := h4, toks := s2.toks + ([] : List (Str × Value)).length } := by
    refine adX (fun n s' => ∃ i τ ys us k H', Inv (blk X N' sc cl C s2 H2 fp (X.pn ++ pins)) [] τ H' s' /\ tn i s'.heap /\ (∀ b ∈ fp, H' b = none) /\ jG ys us /\ s'.heap.get? D = some { cls := .type "list", data := .seq us.toArray k } /\ H' D = none /\ W i n τ ys H') ?_ m0
      ⟨0, _, [], [], 0, H2, I4, T.keep _ _ _ st2 (fun b _ o e => old b o e), fun b hb => (f2 b hb).1, .nil, accO, H2D, w0⟩
    rintro n s5 ⟨i, τ, ys, us, k, H5, I5, st5, fr5, rv5, ho5, hD5, w5⟩
    obtain ⟨hsz, alt⟩ := turn i n τ ys H5 w5
    have I5p : Inv (blk X N' sc cl C s2 H2 fp (X.pn ++ pins)) [(D, { cls := .type "list", data := .seq us.toArray k })] τ H5 s5 := I5.pins_of fun p hp => by
      have e : p = (D, { cls := .type "list", data := .seq us.toArray k }) := by simpa using hp
      subst e
      exact ⟨ho5, hD5, hDC, Dfs, fun v z => by cases z⟩
    rcases alt with ⟨stop, fin⟩ | ⟨go, step⟩
    · refine thn (T.done (blk X N' sc cl C s2 H2 fp (X.pn ++ pins)) rfl rfl rfl hc i _ s5 τ H5 NoX I5p (fpB fr5 (Dfp _)) st5 stop) fun r s6 ⟨hr, I6⟩ => ?_
      subst hr
      have ho6 := (I6.pin (D, _) (List.mem_append_right _ (List.mem_singleton.mpr rfl))).1
      obtain ⟨m6, hn6, _⟩ := I6.loc
      have J6 : Inv X pins σ H5 s6 := I2.call' (ch := fp) I6.os I6.base I6.hok I6.bare fun b hb => ⟨(f2 b hb).2.2.2.1, (f2 b hb).2.1, (f2 b hb).2.2.2.2.1, (f2 b hb).2.2.2.2.2⟩
      have H5C : H5 C = none := I6.free
      have J7 : Inv X pins σ (upd H5 D (.lst ys)) s6 := Inv.track J6 hD5 (Nat.le_trans I2.sz hDge) (Ne.symm (Nat.ne_of_lt locLt)) (fun x c e => Nat.ne_of_lt (cellsLt x c e)) (fun p hp => Nat.ne_of_lt (pinLt p hp)) ⟨Nat.le_of_lt hsz, us, k, rv5, ho6⟩
      refine wpAny_assign_Name (adN J7 hN hi0 hx0 (show jP (.ref D) (.ref D) from rfl) (fun s8 I8 ⟨a, sb, ha⟩ => ?_) hf0)
      have aC : C ≠ a := by
        rcases ha with z | z
        · rw [z]; exact Ne.symm (ltC locLt)
        · exact Ne.symm (ltC (cellsLt _ _ z))
      refine ⟨m6, hn6.sameBut sb aC, fun h7 hs7 => ?_⟩
      have J8 : Inv X pins (σ.set i0 (some (.ref D))) (upd H5 D (.lst ys)) { s8 with heap := h7, toks := s8.toks } := I8.turned (it := C) (fun b o hb e => hs7.extBut b o hb e) (by rw [jn (Ne.symm hDC)]; exact H5C) (Ne.symm (ltC locLt)) (.inr (Nat.le_trans I2.sz hCge)) (fun x c e => ltC (cellsLt x c e)) (fun p hp => ltC (pinLt p hp))
      exact ⟨_, _, J8, fin D hD5⟩
    · refine thn (T.item (blk X N' sc cl C s2 H2 fp (X.pn ++ pins)) rfl rfl rfl hc i _ s5 τ H5 NoX I5p (fpB fr5 (Dfp _)) st5 go) fun r s6 ⟨u, hr, h6⟩ => ?_
      subst hr
      refine thn h6 fun _ s7 ⟨x, H7, I7, r7, y7, st7, fr7⟩ => ?_
      have I7p := I7.pinned (fpB fr7 (Dfp _)) (T.obj _ _ st7)
      refine thn (bG _ s7 τ H7 x u _ I7p r7 (step x H7 y7)) fun _ s8 ⟨τ8, H8, I8, q8⟩ => ?_
      have back : ∀ {τ9 : St} {H9 : Hp} {s9 : Shared}, Inv (blk X N' sc cl C s2 H2 fp (X.pn ++ pins)) ([(D, { cls := .type "list", data := .seq us.toArray k })] ++ aa9 fp s7.heap) τ9 H9 s9 ->
          tn (i + 1) s9.heap /\ (∀ b ∈ fp, H9 b = none) /\ s9.heap.get? D = some { cls := .type "list", data := .seq us.toArray k } /\ H9 D = none := fun {τ9 H9 s9} I9 => by
        have pD := I9.pin (D, { cls := .type "list", data := .seq us.toArray k }) (List.mem_append_right _ (List.mem_append_left _ (List.mem_singleton.mpr rfl)))
        refine ⟨T.keep _ _ _ st7 fun b hb o e => (I9.pin (b, o) (List.mem_append_right _ (List.mem_append_right _ (zK hb e)))).1, fun b hb => ?_, pD.1, pD.2.1⟩
        obtain ⟨o, e, _⟩ := T.obj _ _ st7 b hb
        exact (I9.pin (b, o) (List.mem_append_right _ (List.mem_append_right _ (zK hb e)))).2.1
      have drop : ∀ {τ9 : St} {H9 : Hp} {s9 : Shared} {pl : List (Addr × Obj)}, Inv (blk X N' sc cl C s2 H2 fp (X.pn ++ pins)) pl τ9 H9 s9 -> Inv (blk X N' sc cl C s2 H2 fp (X.pn ++ pins)) [] τ9 H9 s9 := fun I9 => I9.pins_of fun p hp => nomatch hp
      refine thn (bT _ s8 τ8 H8 _ I8 q8) fun b s9 ⟨H9, I9, q9⟩ => ?_
      cases b with
      | false =>
        rw [if_neg Bool.false_ne_true] at q9 ⊢
        obtain ⟨m', hm, w9⟩ := q9
        obtain ⟨t9, f9, o9, d9⟩ := back I9
        exact ⟨m', hm, i + 1, τ8, ys, us, k, H9, drop I9, t9, f9, rv5, o9, d9, w9⟩
      | true =>
        rw [if_pos rfl] at q9 ⊢
        refine thn (bE _ s9 τ8 H9 _ I9 q9) fun y s10 ⟨z, H10, I10, r10, q10⟩ => ?_
        obtain ⟨m', hm, w10⟩ := q10
        obtain ⟨t10, f10, o10, d10⟩ := back I10
        have hl := rv5.length
        refine append_at (hsz := by show us.toArray.size <= sizeLine; rw [List.size_toArray, ← hl]; exact Nat.le_of_lt hsz) o10 fun h11 hs11 hD11 => ?_
        have I11 : Inv (blk X N' sc cl C s2 H2 fp (X.pn ++ pins)) [] τ8 H10 { s10 with heap := h11, toks := s10.toks } := (drop I10).turned (it := D) (fun b o hb e => hs11.extBut b o hb e) d10 hDC (.inr hDge) (fun x c e => Nat.ne_of_lt (cellsLt x c (clm x c e)))
          (fun p hp => by have hp' : p ∈ X.pn ++ pins := by simpa [blk] using hp
                          exact Nat.ne_of_lt (pinLt p hp'))
        refine ⟨m', hm, i + 1, τ8, ys ++ [z], us ++ [y], k + 1, H10, I11, T.keep _ _ _ t10 (fun b hb o e => hs11.extBut b o (Nat.ne_of_lt (fpLt b hb)) e), f10, rv5.append (.cons r10 .nil), ?_, d10, w10⟩
        rw [hD11]
        simp
  refine codeAny_compStart_list loop ?_
  exact T.self _ 0 _ _ _ (T.keep _ _ _ st2 (fun b _ o e => old b o e)) loop
theorem alL {K:PySem.W.Frag}{fi:Rho->Option (List PyData)}{cap:List (Option Nat)}{ga:PyData->Rho->Option Rho}{ft:Rho->Option Bool}{fe:Rho->Option PyData}{σ:St}{H:Hp}{Q:VK} (h:tD K (j9 fi cap ga ft fe) σ H Q):
  ala (tDI K fi) cap (tDG K ga) (tDT K ft) (tD K fe) σ H Q:=by
 obtain ⟨ρ,d,en,q,k⟩:=h
 cases h1:fi ρ with
 | none=>simp [j9,h1] at q
 | some ds=>
  by_cases hf:few ds=true
  ·cases h2:jS ga ft fe ds (JH cap ρ) with
   | none=>simp [j9,h1,hf,h2] at q
   | some ys=>
    have:PyData.list ys=d:=by simpa [j9,h1,hf,h2] using q
    subst this
    refine ⟨ρ,ds,en,h1,fun J H1 s1 Y=>?_⟩
    refine ⟨fun i m τ us H2=>m=ds.length - i/\i<=ds.length/\jq H1 H2/\us.length<=i/\∃ ρ2 zs ws,EnvR K H2 ρ2 τ/\Reps K H2 zs us/\jS ga ft fe (ds.drop i) ρ2=some ws/\ys=zs++ws,
     ⟨ds.length,by simp,Nat.zero_le _,jq.refl _,Nat.le_refl _,JH cap ρ,[],ys,(en.mono s1).cap cap,rfl,by simpa using h2,rfl⟩,?_⟩
    rintro i m τ us H2 ⟨rfl,hi',s2,hu,ρ2,zs,ws,en2,r2,q2,ey⟩
    have hsm:us.length < sizeLine:=Nat.lt_of_le_of_lt (Nat.le_trans hu hi') (Nat.lt_of_lt_of_le (by simpa [few] using hf) (by rw [sizeLine_eq]; decide:1000000<=sizeLine))
    obtain ⟨g1,g2,g3⟩:=Y i H2 (jq.e s2)
    refine ⟨hsm,?_⟩
    by_cases hlt:i < ds.length
    ·right
     have hd:ds.drop i=ds[i]::ds.drop (i+1):=List.drop_eq_getElem_cons hlt
     rw [hd] at q2
     refine ⟨g1 hlt,fun x H3 y=>?_⟩
     obtain ⟨s3,r3⟩:=g3 x H3 y
     have r3':=r3 ds[i] (by simp [hlt])
     cases h4:ga ds[i] ρ2 with
     | none=>simp [jS,h4] at q2
     | some ρ4=>
      refine ⟨ρ2,ds[i],ρ4,en2.mono s3,r3',h4,fun σ5 H5 s5 en5=>?_⟩
      cases h5:ft ρ4 with
      | none=>simp [jS,h4,h5] at q2
      | some b=>
       refine ⟨ρ4,b,en5,h5,fun H6 s6=>?_⟩
       have s26:=s3.trans (s5.trans s6)
       cases b with
       | false=>
        refine aq8 ?_
        exact ⟨ds.length - (i+1),by omega,rfl,hlt,s2.trans s26,by omega,ρ4,zs,ws,en5.mono s6,Reps.mono s26 _ _ r2,by simpa [jS,h4,h5] using q2,ey⟩
       | true=>
        refine aq9 ?_
        cases h6:fe ρ4 with
        | none=>simp [jS,h4,h5,h6] at q2
        | some y=>
         cases h7:jS ga ft fe (ds.drop (i+1)) ρ4 with
         | none=>simp [jS,h4,h5,h6,h7] at q2
         | some ws'=>
          have hw:y::ws'=ws:=by simpa [jS,h4,h5,h6,h7] using q2
          refine ⟨ρ4,y,en5.mono s6,h6,fun v H7 s7 r7=>?_⟩
          refine ⟨ds.length - (i+1),by omega,rfl,hlt,s2.trans (s26.trans s7),by rw [List.length_append]; simp; omega,ρ4,zs++[y],ws',(en5.mono s6).mono s7,(Reps.mono (s26.trans s7) _ _ r2).append ⟨v,[],rfl,r7,rfl⟩,h7,?_⟩
          rw [ey,←hw]; simp
    ·left
     have he:i=ds.length:=by omega
     have hn:ds.drop i=[]:=by rw [he]; simp
     rw [hn] at q2
     have hw:[]=ws:=by simpa [jS] using q2
     subst hw
     have ey':ys=zs:=by simpa using ey
     subst ey'
     exact ⟨g2 (by omega),fun l hl=>k _ _ (s1.trans (s2.trans (jC hl))) ⟨l,us,rfl,jr,Reps.mono (jC hl) _ _ r2⟩⟩
  ·simp [j9,h1,hf] at q
section
variable {X:Cx}{tg src:Expr}{pos pos':Pos}
theorem acX (i:Nat) {x:Str}{el:Expr}{ts:List Expr}{sc:Scope}{ps:Pos}{fi:Rho->Option (List PyData)}{ga:PyData->Rho->Option Rho}{ft:Rho->Option Bool}{fe:Rho->Option PyData} (N':List Str) (cap:List (Option Nat)) (hc:X.calm=true) (hN:X.N.Nodup) (hi:PID X tg src fi) (ok:CompOk X sc N' cap)
  (body:∀ cl C s0 H0 fp pn,PGD (blk X N' sc cl C s0 H0 fp pn) tg ga/\anA (blk X N' sc cl C s0 H0 fp pn) ts ft/\PD (blk X N' sc cl C s0 H0 fp pn) el fe)
  (hi0:X.N[i]?=some x:=by rfl) (hx:Loc X.env.scope x:=by first | exact Or.inl rfl | exact Or.inr rfl) (hsw:swapsWith (.ListComp el [⟨tg,src,ts,0⟩] sc ps) (some (.Name x pos')) pos.line X.env=pure true:=by rfl)
  (hf:X.fn x=true ∨ X.env.scope.names.lookup x=some .local:=by first | exact .inl rfl | exact .inr rfl | assumption)
  (hs:∀ x,foldedSetIterable src X.env x=pure x:=by intro _; rfl):PSD X (.Assign [.Name x pos'] (.ListComp el [⟨tg,src,ts,0⟩] sc ps) pos) (qU (j9 fi cap ga ft fe) (jA i)):=by
 with_unfolding_all
  refine PS.imp (anR (g:=tDG X.K ga) (tt:=tDT X.K ft) (te:=tD X.K fe) hc hi ok (fun cl C s0 H0 fp pn=>body cl C s0 H0 fp pn) hN hi0 hx hsw hf hs) fun D σ H ⟨ρ,o,en,q,k⟩=>alL ?_
  cases h1:j9 fi cap ga ft fe ρ with
  | none=>simp [qU,h1] at q
  | some d=>
   have:Out.nx (ρ.set i (some d))=o:=by simpa [qU,h1,jA] using q
   subst this
   exact ⟨ρ,d,en,h1,fun v H1 s1 r1=>k _ H1 s1 ((en.mono s1).set r1)⟩
end
structure Mine (X:Cx) (H:Hp) (b:Addr):Prop where
 un:H b=none
 new:X.s₀.heap.get? b=none
 loc:b ≠ X.env.locals
 cel:∀ x c,X.env.cells.lookup x=some c->c ≠ b
 pin:∀ p ∈ X.pn,p.1 ≠ b
structure Xc (X:Cx) (H:Hp) (h:Heap) (e C:Addr):Prop where
 mine:Mine X H e
 ob:∃ oe vs,h.get? e=some oe/\(oe.cls= .ref C/\oe.dict=none)/\oe.data= .fields vs/\1 < vs.size/\
  (vs[1]?=some .none ∨ ∃ T oT ts,vs[1]?=some (.ref T)/\T ≠ e/\Mine X H T/\h.get? T=some oT/\oT.data= .fields ts/\3 < ts.size)
theorem Inv.exIn {X:Cx}{pins:List (Addr × Obj)}{σ:St}{H:Hp}{s:Shared}{ch:List Addr} (I:Inv X pins σ H s) (hn:∀ b ∈ ch,X.s₀.heap.get? b=none/\b ≠ X.env.locals/\∀ x c,X.env.cells.lookup x=some c->c ≠ b):Inv { X with ex:=ch++X.ex } pins σ H s:=by
 have no:∀ b,b ∉ ch++X.ex->b ∉ X.ex:=fun b h z=>h (List.mem_append_right _ z)
 refine ⟨⟨I.ok.mod,I.ok.kind,I.ok.glob,I.ok.blt,I.ok.above,I.ok.inj,I.ok.has,I.ok.cab,I.ok.hd,I.ok.frames,I.ok.stk,fun b hb=>?_,I.ok.bs,I.ok.bsz,fun b o e hb=>?_,fun b hb z=>?_,I.ok.funs,I.ok.frf⟩,I.os,I.bare,
  ⟨fun b o e n hf hx=>I.base.keep b o e n hf (no b hx),fun b o e n hf hx=>I.base.slot b o e n hf (no b hx),fun b o e n hx=>I.base.free b o e n (no b hx),fun b o e hx=>I.base.there b o e (no b hx),I.base.tups,I.base.frzs,I.base.tbls⟩,I.loc,I.cell,I.free,I.freeC,I.pin,I.hok,I.len⟩
 ·rcases List.mem_append.mp hb with q | q
  ·exact (hn b q).2
  ·exact I.ok.exf b q
 ·rcases List.mem_append.mp hb with q | q
  ·have:=(I.ok.bs b o e).1
   rw [(hn b q).1] at this; cases this
  ·exact I.ok.noex b o e q
 ·rcases List.mem_append.mp hb with q | q
  ·obtain ⟨_,o,ho,_⟩:=I.ok.funs.mem z
   rw [(hn b q).1] at ho; cases ho
  ·exact I.ok.exfs b q z
theorem Inv.exOut {X:Cx}{pins:List (Addr × Obj)}{σ:St}{H:Hp}{s:Shared}{ch:List Addr} (I:Inv { X with ex:=ch++X.ex } pins σ H s) (ok:X.Ok) (hn:∀ b ∈ ch,X.s₀.heap.get? b=none):Inv X pins σ H s:=by
 have no:∀ b o,X.s₀.heap.get? b=some o->b ∉ X.ex->b ∉ ch++X.ex:=fun b o e h z=>by
  rcases List.mem_append.mp z with q | q
  ·rw [hn b q] at e; cases e
  ·exact h q
 exact ⟨ok,I.os,I.bare,⟨fun b o e n hf hx=>I.base.keep b o e n hf (no b o e hx),fun b o e n hf hx=>I.base.slot b o e n hf (no b o e hx),fun b o e n hx=>I.base.free b o e n (no b o e hx),fun b o e hx=>I.base.there b o e (no b o e hx),I.base.tups,I.base.frzs,I.base.tbls⟩,I.loc,I.cell,I.free,I.freeC,I.pin,I.hok,I.len⟩
section
variable {X:Cx}{σ:St}{H:Hp}{s:Shared}{h':Heap}{e C:Addr}{E:Value->Shared->Prop}{A:Around}
theorem Inv.shake {ch:List Addr} (I:Inv X [] σ H s) (hm:∀ b ∈ ch,Mine X H b) (keep:∀ b o,b ∉ frs X.stack->b ∉ ch->s.heap.get? b=some o->h'.get? b=some o)
  (slot:∀ b o,b ∈ frs X.stack->b ∉ ch->s.heap.get? b=some o->∃ sl,h'.get? b=some { o with slots:=sl }):Inv X [] σ H { s with heap:=h' }:=by
 have u:Un (frs X.stack) ch H H s.heap h':=⟨fun b o q _ nf nc=>keep b o nf nc q,fun b o q _ hf nc=>slot b o hf nc q,fun _ _ _ n _=>n,fun b o q nc=>by
  by_cases hf:b ∈ frs X.stack
  ·obtain ⟨sl,z⟩:=slot b o hf nc q; exact ⟨_,z⟩
  ·exact ⟨o,keep b o hf nc q⟩,fun _ _ q=>q,fun _ _ _ q=>q,fun _ ps q=>⟨#[],by rw [q]; simp⟩⟩
 have hok:HOk X.prog X.w H h':=fun b o q=>(I.hok b o q).stay (fun c v hc r=>by
  have hb:H c ≠ none:=by
   rcases hc with rfl | hc
   ·rw [q]; exact fun z=>nomatch z
   ·rw [hc]; exact fun z=>nomatch z
  exact keep c v (fun z=>hb (I.stkFree c z)) (fun z=>hb (hm c z).un) r) (fun _ r=>r) fun _ _ r=>r
 exact Inv.exOut (Inv.call (X:={ X with ex:=ch++X.ex }) (g':=s.gens) (d':=s.drawn) (t':=s.toks) (Inv.exIn I fun b hb=>⟨(hm b hb).new,(hm b hb).loc,(hm b hb).cel⟩) u hok I.bare fun b hb=>⟨.inl (List.mem_append_left _ hb),(hm b hb).loc,(hm b hb).cel,fun p hp=>(hm b hb).pin p (by simpa using hp)⟩) I.ok fun b hb=>(hm b hb).new
structure XcT (X:Cx) (H:Hp) (h:Heap) (e C:Addr):Prop where
 mine:Mine X H e
 ob:∃ oe vs T oT ts,h.get? e=some oe/\(oe.cls= .ref C/\oe.dict=none)/\oe.data= .fields vs/\vs[1]?=some (.ref T)/\T ≠ e/\Mine X H T/\h.get? T=some oT/\oT.data= .fields ts/\3 < ts.size
theorem XcT.c {h:Heap} (x:XcT X H h e C):Xc X H h e C:=by
 obtain ⟨oe,vs,T,oT,ts,h1,h2,h3,h4,h5,h6,h7,h8,h9⟩:=x.ob
 exact ⟨x.mine,oe,vs,h1,h2,h3,(Array.getElem?_eq_some_iff.mp h4).1,.inr ⟨T,oT,ts,h4,h5,h6,h7,h8,h9⟩⟩
structure Top0 (X:Cx):Prop where
 st:X.stack=X.env::X.outer
 fr:X.env.frame=some X.env.locals
 ex:X.ex=[]
theorem Mine.nofr {b:Addr} (m:Mine X H b) (I:Inv X [] σ H s):b ∉ frs X.stack:=fun z=>by
 rcases List.mem_cons.mp (I.stkSub b z) with q | q
 ·exact m.loc q
 ·obtain ⟨_,o,ho,_⟩:=I.ok.funs.mem q
  rw [m.new] at ho; cases ho
theorem anS {P:Program}{w:World}{h:Heap}{b:Addr}{u:HO} (hok:HOk P w H h) (hH:H b=some u) (hb:h.get? b=none):False:=by
 have x:=hok b u hH
 have no:∀ {o:Obj},h.get? b=some o->False:=fun {o} q=>by rw [hb] at q; cases q
 cases u with
 | lst xs=>obtain ⟨_,_,_,_,e⟩:=x; exact no e
 | tup xs=>obtain ⟨_,_,_,⟨_,e,_⟩⟩:=x; exact no e
 | dK kvs=>obtain ⟨_,_,_,_,o,_,_,e,_⟩:=x; exact no e
 | dT kvs=>obtain ⟨_,_,_,_,o,_,_,e,_⟩:=x; exact no e
 | set S n=>obtain ⟨o,_,_,_,e,_⟩:=x; exact no e
 | ins C dx fs=>obtain ⟨_,_,_,e,_⟩:=x; exact no e
 | own y=>obtain ⟨_,e⟩:=x; exact no e
 | xd fs=>obtain ⟨_,⟨_,_,_,e,_⟩,_⟩:=x; exact no e
 | rng lo hi=>obtain ⟨_,_,_,e⟩:=x; exact no e
 | frz ob u=>obtain ⟨e,_⟩:=x; exact no e
 | tbl ps=>exact no (show h.get? b=some _ from x)
 | met f y=>exact no (show h.get? b=some _ from x)
 | ext φ=>obtain ⟨_,⟨_,e⟩,_⟩:=x; exact no e
theorem aaA (hx:X.ex=[]) (I:Inv X [] σ H s) {b:Addr} (hb:s.heap.get? b=none):Mine X H b:=by
 have no:∀ {o:Obj},s.heap.get? b=some o->False:=fun {o} q=>by rw [hb] at q; cases q
 refine ⟨?_,?_,fun z=>?_,fun x c q z=>?_,fun p hp z=>?_⟩
 ·cases hH:H b with
  | none=>rfl
  | some u=>exact (anS I.hok hH hb).elim
 ·cases h0:X.s₀.heap.get? b with
  | none=>rfl
  | some o=>
   obtain ⟨o',q⟩:=I.base.there b o h0 (by rw [hx]; simp)
   exact (no q).elim
 ·subst z
  obtain ⟨m,⟨o,_,_,ho,_⟩,_⟩:=I.loc
  exact no ho
 ·obtain ⟨v,o,ho,_⟩:=I.cell x c q
  subst z
  exact no ho
 ·have:=(I.pin p (List.mem_append_left _ hp)).1
  rw [z] at this
  exact no this
theorem agc {oe:Obj}{vs:Array Value}{head:Value}{hadNext:Bool} (T0:Top0 X) (hA:A.frames=some X.stack) (I:Inv X [] σ H s) (me:Mine X H e) (he:s.heap.get? e=some oe) (hc:oe.cls= .ref C/\oe.dict=none) (hd:oe.data= .fields vs) (hsz:1 < vs.size):
  wpAny (model X.prog X.w) A (do let a ←frameOf X.env; let pl ←entryPlaceOf X.env.locals hadNext; let b ←EntryCells.newEntry head a .none (rawInt X.env.locals) .none pl; setField (.ref e) 1 b) (fun _ s'=>Inv X [] σ H s'/\XcT X H s'.heap e C) E s:=by
 have hst:=T0.st
 have hfn:=I.stack
 rw [hst] at hfn hA
 have hene:e ∉ (X.env::X.outer).filterMap (·.frame):=by
  have:=me.nofr I
  rw [hst] at this; exact this
 refine wpAny_bind (wpAny_frameOf_fun hA hfn T0.fr fun h₁ hs₁=>?_)
 refine wpAny_bind (wpAny_entryPlaceOf fun pl hpl=>?_)
 unfold EntryCells.newEntry newFields
 refine wpAny_bind (wpAny_newObj_type ?_ (hpl.sizeOk5 _ _ _ _ _))
 have he₁:h₁.get? e=some oe:=(hs₁.2.1 e hene).trans he
 generalize hob:({ cls:= .type "traceback",dict:=none,data:= .fields ([head,Value.ref X.env.locals,.none,rawInt X.env.locals,.none]++(if pl.isEmpty then List.replicate 6 Value.none else pl)).toArray }:Obj)=ob
 have obd:ob.data= .fields ([head,Value.ref X.env.locals,.none,rawInt X.env.locals,.none]++(if pl.isEmpty then List.replicate 6 Value.none else pl)).toArray:=by rw [←hob]
 have obf:ob.isFreed=false:=by rw [←hob]; rfl
 have he₂:(h₁.push ob).get? e=some oe:=Heap.get?_push_of_some ob he₁
 refine wpAny_setField he₂ hd hsz ?_
 have hTe:h₁.objs.size ≠ e:=Nat.ne_of_gt (Heap.lt_size he₁)
 have hd₃:=Obj.data_mapFields hd (·.setIfInBounds 1 (Value.ref h₁.objs.size))
 have he₃:=Heap.get?_update_self (Obj.mapFields (·.setIfInBounds 1 (Value.ref h₁.objs.size))) he₂ (Obj.isFreed_of_fields hd₃)
 have hT₃:((h₁.push ob).update e (Obj.mapFields (·.setIfInBounds 1 (Value.ref h₁.objs.size)))).get? h₁.objs.size=some ob:=(Heap.get?_update_other _ _ (Ne.symm hTe)).trans (Heap.get?_push_size h₁ obf)
 have keep:∀ b o,b ≠ e->h₁.get? b=some o->((h₁.push ob).update e (Obj.mapFields (·.setIfInBounds 1 (Value.ref h₁.objs.size)))).get? b=some o:=fun b o hb q=>by
  rw [Heap.get?_update_other _ _ (Ne.symm hb)]
  exact Heap.get?_push_of_some _ q
 have hfr:frs X.stack=(X.env::X.outer).filterMap (·.frame):=by rw [hst]; rfl
 have sz:h₁.objs.size=s.heap.objs.size:=hs₁.1
 have J:Inv X [] σ H { s with heap:=(h₁.push ob).update e (Obj.mapFields (·.setIfInBounds 1 (Value.ref h₁.objs.size))) }:=by
  refine Inv.shake (s:=s) (ch:=[e]) I (fun b hb=>by rw [List.mem_singleton.mp hb]; exact me) (fun b o nf nc q=>keep b o (fun z=>nc (by simp [z])) ((hs₁.2.1 b (by rw [←hfr]; exact nf)).trans q)) (fun b o _ nc q=>?_)
  obtain ⟨sl,z⟩:=hs₁.2.2 b o q
  exact ⟨sl,keep b _ (fun w=>nc (by simp [w])) z⟩
 refine ⟨J,me,_,_,h₁.objs.size,ob,_,he₃,?_,hd₃,by simp [hsz],hTe,?_,hT₃,obd,?_⟩
 ·rw [Obj.cls_mapFields]; exact ⟨hc.1,by unfold Obj.mapFields; split <;> exact hc.2⟩
 ·exact aaA T0.ex I (Heap.get?_none_of_le (by rw [sz]; exact Nat.le_refl _))
 ·simp only [List.size_toArray,List.length_append,List.length_cons,List.length_nil]; omega
theorem ae2 (T0:Top0 X) (hA:A.frames=some X.stack) (I:Inv X [] σ H s) (x:Xc X H s.heap e C):wpAny (model X.prog X.w) A (noteFrame (.ref e) X.env) (fun _ s'=>Inv X [] σ H s'/\XcT X H s'.heap e C) E s:=by
 obtain ⟨oe,vs,he,hc,hd,hsz,hT⟩:=x.ob
 unfold noteFrame
 simp only [T0.fr]
 rcases hT with h1 | ⟨T,oT,ts,h1,hTe,mT,hT,hdT,h3⟩
 ·refine wpAny_bind (wpAny_field he hd h1 ?_)
  rw [if_neg (by decide)]
  exact agc T0 hA I x.mine he hc hd hsz
 ·refine wpAny_bind (wpAny_field he hd h1 ?_)
  rw [if_pos (show (Value.ref T != Value.none)=true from by simp)]
  refine wpAny_bind (wpAny_field hT hdT (x:=ts[3]) (by simp [h3]) ?_)
  by_cases hq:(ts[3] == rawInt X.env.locals)=true
  ·rw [if_pos hq]
   exact wpAny_pure ⟨I,x.mine,oe,vs,T,oT,ts,he,hc,hd,h1,hTe,mT,hT,hdT,h3⟩
  ·rw [if_neg hq]
   refine wpAny_bind (wpAny_setField hT hdT h3 ?_)
   have other:∀ b,b ≠ T->(s.heap.update T (Obj.mapFields (·.setIfInBounds 3 Value.none))).get? b=s.heap.get? b:=fun b hb=>Heap.get?_update_other _ _ (Ne.symm hb)
   have J:Inv X [] σ H { s with heap:=s.heap.update T (Obj.mapFields (·.setIfInBounds 3 Value.none)) }:=
    Inv.shake (s:=s) (ch:=[T]) I (fun b hb=>by rw [List.mem_singleton.mp hb]; exact mT) (fun b o _ nc q=>(other b fun z=>nc (by simp [z])).trans q) fun b o _ nc q=>⟨o.slots,(other b fun z=>nc (by simp [z])).trans q⟩
   exact agc (s:={ s with heap:=s.heap.update T (Obj.mapFields (·.setIfInBounds 3 Value.none)) }) T0 hA J x.mine ((other e (Ne.symm hTe)).trans he) hc hd hsz
theorem Ql (fl:Option Addr) (I:Inv X [] σ H s) (x:XcT X H s.heap e C):wpAny (model X.prog X.w) A (setFlight (.ref e) fl) (fun _ s'=>Inv X [] σ H s'/\XcT X H s'.heap e C) E s:=by
 obtain ⟨oe,vs,T,oT,ts,he,hc,hd,h1,hTe,mT,hT,hdT,h3⟩:=x.ob
 unfold setFlight
 refine wpAny_bind (wpAny_field he hd h1 ?_)
 rw [if_pos (show (Value.ref T != Value.none)=true from by simp)]
 refine wpAny_setField hT hdT h3 ?_
 have other:∀ b,b ≠ T->(s.heap.update T (Obj.mapFields (·.setIfInBounds 3 (fl.elim Value.none fun f=>rawInt f)))).get? b=s.heap.get? b:=fun b hb=>Heap.get?_update_other _ _ (Ne.symm hb)
 have J:Inv X [] σ H { s with heap:=s.heap.update T (Obj.mapFields (·.setIfInBounds 3 (fl.elim Value.none fun f=>rawInt f))) }:=
  Inv.shake (s:=s) (ch:=[T]) I (fun b hb=>by rw [List.mem_singleton.mp hb]; exact mT) (fun b o _ nc q=>(other b fun z=>nc (by simp [z])).trans q) fun b o _ nc q=>⟨o.slots,(other b fun z=>nc (by simp [z])).trans q⟩
 exact ⟨J,x.mine,oe,vs,T,_,_,(other e (Ne.symm hTe)).trans he,hc,hd,h1,hTe,mT,Heap.get?_update_self _ hT (Obj.isFreed_of_fields (Obj.data_mapFields hdT _)),Obj.data_mapFields hdT _,by simpa using h3⟩
theorem asf {P:Value->Shared->Prop} (T0:Top0 X) (hA:A.frames=some X.stack) (hP:∀ e s,P e s->∃ a C σ H,e= .ref a/\Inv X [] σ H s/\Xc X H s.heap a C/\∀ s',Inv X [] σ H s'->XcT X H s'.heap a C->P e s'):PassesOwn (model X.prog X.w) A X.env P:=fun ev s' h=>by
 obtain ⟨a,C,σ,H,rfl,I,x,back⟩:=hP ev s' h
 refine wpAny_mono (ae2 (E:=fun _ _=>False) T0 hA I x) (fun _ s2 ⟨I2,x2⟩=>?_) fun _ _ z=>z.elim
 obtain ⟨oe,vs,T,oT,ts,he,hc,hd,h1,r⟩:=id x2.ob
 unfold cameBackBy
 refine wpAny_bind (wpAny_field he hd h1 ?_)
 rw [if_neg (by simp)]
 first
  | exact wpAny_mono (Ql (E:=fun _ _=>False) _ I2 x2) (fun _ s3 ⟨I3,x3⟩=>back s3 I3 x3) fun _ _ z=>z.elim
  | exact wpAny_bind (wpAny_pure (wpAny_mono (Ql (E:=fun _ _=>False) _ I2 x2) (fun _ s3 ⟨I3,x3⟩=>back s3 I3 x3) fun _ _ z=>z.elim))
end
structure XcO (h0:Heap) (H:Hp) (h:Heap) (e C:Addr):Prop where
 un:H e=none
 new:h0.get? e=none
 ob:∃ oe vs T oT ts,h.get? e=some oe/\(oe.cls= .ref C/\oe.dict=none)/\oe.data= .fields vs/\vs[1]?=some (.ref T)/\T ≠ e/\H T=none/\h0.get? T=none/\h.get? T=some oT/\oT.data= .fields ts/\3 < ts.size
noncomputable def CXt (P:Program) (w:World):CXT:=fun outer H s E ev s'=>∃ e C H',ev= .ref e/\s'.os=s.os/\AllBare s'.gens/\Un (frs outer) [] H H' s.heap s'.heap/\HOk P w H' s'.heap/\XcO s.heap H' s'.heap e C/\E (.ref C) none H'
section
variable {X:Cx}
theorem Xc.of (hx:X.ex=[]) {pins:List (Addr × Obj)}{σ:St}{H H':Hp}{s s':Shared}{e0 C:Addr} (I:Inv X pins σ H s) (x:XcO s.heap H' s'.heap e0 C):Xc X H' s'.heap e0 C:=by
 have J:Inv X [] σ H s:=I.pins_of fun p hp=>nomatch hp
 obtain ⟨oe,ws,T,oT,ts,h1,h2,h3,h4,h5,h6,h7,h8,h9,h10⟩:=x.ob
 have m1:=aaA hx J x.new
 have m2:=aaA hx J h7
 exact ⟨⟨x.un,m1.new,m1.loc,m1.cel,m1.pin⟩,oe,ws,h1,h2,h3,(Array.getElem?_eq_some_iff.mp h4).1,.inr ⟨T,oT,ts,h4,h5,⟨h6,m2.new,m2.loc,m2.cel,m2.pin⟩,h8,h9,h10⟩⟩
end
noncomputable def Thr (X:Cx) (H:Hp) (c:Str) (ev:Value) (s':Shared):Prop:=∃ e C σ' H',ev= .ref e/\X.mg c=some (.ref C)/\Inv X [] σ' H' s'/\jq H H'/\Xc X H' s'.heap e C
theorem Thr.mono {X:Cx}{H H1:Hp}{c:Str}{ev:Value}{s':Shared} (s:jq H H1) (h:Thr X H1 c ev s'):Thr X H c ev s':=by
 obtain ⟨e,C,σ',H',h1,h2,h3,h4,h5⟩:=h
 exact ⟨e,C,σ',H',h1,h2,h3,s.trans h4,h5⟩
@[irreducible] noncomputable def PDX (X:Cx) (e:Expr) (fx:Rho->Option Str):Prop:=∀ (s:Shared) (σ:St) (H:Hp) (ρ:Rho) (c:Str),Inv X [] σ H s->EnvR X.K H ρ σ->fx ρ=some c->(∀ ev s',Thr X H c ev s'->X.xe ev s')->wpAny (model X.prog X.w) X.A (eval e X.env) (fun _ _=>False) X.xe s
@[irreducible] noncomputable def PSX (X:Cx) (st:Stmt) (fx:Rho->Option Str):Prop:=∀ (s:Shared) (σ:St) (H:Hp) (ρ:Rho) (c:Str),Inv X [] σ H s->EnvR X.K H ρ σ->fx ρ=some c->(∀ ev s',Thr X H c ev s'->X.xe ev s')->wpAny (model X.prog X.w) X.A (exec st X.env) (fun _ _=>False) X.xe s
@[irreducible] noncomputable def ab1 (X:Cx) (sts:List Stmt) (fx:Rho->Option Str):Prop:=∀ (s:Shared) (σ:St) (H:Hp) (ρ:Rho) (c:Str),Inv X [] σ H s->EnvR X.K H ρ σ->fx ρ=some c->(∀ ev s',Thr X H c ev s'->X.xe ev s')->wpAny (model X.prog X.w) X.A (execs sts X.env) (fun _ _=>False) X.xe s
noncomputable def vB:List Value:=[.type "ValueError",.type "Exception",.type "BaseException",.type "object"]
noncomputable def ajX (K:PySem.W.Frag) (mg:Str->Option Value) (x:Str):Prop:=∃ C,mg x=some (.ref C)/\PySem.W.excIn K C vB "ValueError.__new__"=true
theorem anT {K:PySem.W.Frag}{h:Heap}{C:Addr} (X:K.In h) (q:PySem.W.excIn K C vB "ValueError.__new__"=true):
  ∃ bm N nm qn bs hdct sn sub ab col dd k0 k1 k2 k3 k5 mN,h.get? C=some (excClassObj nm qn C N bs bm hdct sn sub ab col dd k0 k1 k2 k3 k5 "ValueError.__new__")/\h.Ns N mN/\mN "__init__"=none/\OwnTail h vB bm:=by
 unfold PySem.W.excIn at q
 split at q
 ·rename_i dd cd sl ho
  split at q
  ·rename_i C' bm k0 k1 k2 k3 n k5 hm hs
   simp only [Bool.and_eq_true,beq_iff_eq,Bool.not_eq_true'] at q
   obtain ⟨⟨⟨⟨⟨rfl,rfl⟩,hdel⟩,ht⟩,hok⟩,hni⟩:=q
   obtain ⟨nm,bs,mro,ns,qn,hd,sn,sub,ab,col,del⟩:=cd
   dsimp only at hm hdel hok hni
   subst hm hdel
   have hsl:sl=#[k0,k1,k2,k3,some (.builtin "ValueError.__new__"),k5]:=by
    obtain ⟨l⟩:=sl
    simp only at hs
    rw [hs]
   subst hsl
   exact ⟨bm,ns,nm,qn,bs,hd,sn,sub,ab,col,dd,k0,k1,k2,k3,k5,_,X _ _ ho,.of_isNs (PySem.W.isNs_of_in X hok),PySem.W.nsMap_none_of_in X hok hni,PySem.W.tail_of_in X ht⟩
  ·cases q
 ·cases q
section
variable {X:Cx}{e a b c:Expr}{es:List Expr}{st:Stmt}{sts j5:List Stmt}{fx gx:Rho->Option Str}{F:Rho->Option Out}{pos:Pos}
theorem jX (h:PSX X st fx):ab1 X (st::j5) fx:=by
 with_unfolding_all
  intro s σ H ρ c I en q k
  exact wpAny_execs_cons (wpAny_mono (h s σ H ρ c I en q k) (fun _ _ z=>z.elim) fun _ _ z=>z)
noncomputable def nxX (F:Rho->Option Out) (gx:Rho->Option Str):Rho->Option Str:=fun ρ=>(F ρ).bind fun o=>match o with
 | .nx ρ'=>gx ρ'
 | _=>none
theorem ZA (h1:PSD X st F) (h2:ab1 X j5 gx):ab1 X (st::j5) (nxX F gx):=by
 with_unfolding_all
  intro s σ H ρ c I en q k
  cases hF:F ρ with
  | none=>simp [nxX,hF] at q
  | some o=>
   cases o with
   | nx ρ'=>
    have q':gx ρ'=some c:=by simpa [nxX,hF] using q
    refine wpAny_execs_cons (wpAny_mono (h1 [] s σ H { nx:=fun σ' H'=>jq H H'/\EnvR X.K H' ρ' σ',rt:=fun _ _=>False,bk:=fun _ _=>False,ct:=fun _ _=>False } I ⟨ρ,.nx ρ',en,hF,fun σ' H' s1 e1=>⟨s1,e1⟩⟩) (fun f s1 z=>?_) fun _ _ z=>z)
    cases f with
    | next=>
     obtain ⟨σ',H',I',sm,e1⟩:=z
     exact wpAny_mono (h2 s1 σ' H' ρ' c I' e1 q' fun ev s' t=>k ev s' (t.mono sm)) (fun _ _ z=>z.elim) fun _ _ z=>z
    | brk=>obtain ⟨_,_,_,z⟩:=z; exact z.elim
    | cont=>obtain ⟨_,_,_,z⟩:=z; exact z.elim
    | ret u=>obtain ⟨_,_,_,_,_,z⟩:=z; exact z.elim
   | _=>simp [nxX,hF] at q
noncomputable def ifX (tc:Rho->Option Bool) (fx gx:Rho->Option Str):Rho->Option Str:=fun ρ=>(tc ρ).bind fun x=>if x=true then fx ρ else gx ρ
noncomputable def ahS:Rho->Option Str:=fun _=>none
theorem QG:ab1 X sts ahS:=by
 with_unfolding_all
  intro s σ H ρ c I en q k
  cases q
theorem ae3 {l r:List Stmt}{tc:Rho->Option Bool} (hc:PTD X a tc) (hl:ab1 X l fx) (hr:ab1 X r gx):PSX X (.If a l r pos) (ifX tc fx gx):=by
 with_unfolding_all
  intro s σ H ρ c I en q k
  cases ht:tc ρ with
  | none=>simp [ifX,ht] at q
  | some x=>
   refine wpAny_If (wpAny_mono (hc [] s σ H (fun b H'=>b=x/\jq H H') I ⟨ρ,x,en,ht,fun H' s1=>⟨rfl,s1⟩⟩) (fun d s1 z=>?_) fun _ _ z=>z)
   obtain ⟨H1,I1,rfl,s1'⟩:=z
   cases d with
   | true=>exact hl s1 σ H1 ρ c I1 (en.mono s1') (by simpa [ifX,ht] using q) fun ev s' t=>k ev s' (t.mono s1')
   | false=>exact hr s1 σ H1 ρ c I1 (en.mono s1') (by simpa [ifX,ht] using q) fun ev s' t=>k ev s' (t.mono s1')
theorem aiT (h:PDX X e fx):PSX X (.Return (some e) pos) fx:=by
 with_unfolding_all
  intro s σ H ρ c I en q k
  exact wpAny_Return_some (wpAny_mono (h s σ H ρ c I en q k) (fun _ _ z=>z.elim) fun _ _ z=>z)
theorem Jx (h:PDX X e fx) (hs:swapsWith e none pos.line X.env=pure false:=by rfl):PSX X (.Expr e pos) fx:=by
 with_unfolding_all
  intro s σ H ρ c I en q k
  exact wpAny_Expr_any (wpAny_mono (h s σ H ρ c I en q k) (fun _ _ z=>z.elim) fun _ _ z=>z) I.quiet hs
end
noncomputable def ajY (K:PySem.W.Frag) (mg:Str->Option Value) (n:Nat) (gx:List PyData->Option Str):Sp:=fun vs H _ E=>∃ ds c,ds.length=n/\Reps K H ds vs/\gx ds=some c/\∀ C H',mg c=some (.ref C)->jq H H'->E (.ref C) none H'
noncomputable def Jd (P:Program) (w:World) (K:PySem.W.Frag) (mg:Str->Option Value) (base:Heap) (x:Str) (ps:List Str) (k n:Nat) (gx:List PyData->Option Str):Prop:=
 ∃ (f:Addr) (fd:FuncData),FnOk P w K mg base (CXt P w) k f fd ps (ajY K mg n gx)/\mg x=some (.ref f)/\PySem.W.keepIn K (.ref f)=true/\QZ K fd ps []
section
variable {X:Cx}{e a b c:Expr}{es:List Expr}{st:Stmt}{sts j5:List Stmt}{fx gx:Rho->Option Str}{F:Rho->Option Out}{pos:Pos}
theorem zS {k j n:Nat}{ps:List Str}{g:List PyData->Option Str}{x:Str}{p:Pos}{fr:Rho->Option (List PyData)} (hxe:X.ex=[]) (C:Jd X.prog X.w X.K X.mg X.base x ps k n g) (hr:Room j X.A) (hkj:k<=j) (ha:PAD X (e::es) fr) (hl:∀ ρ ds,fr ρ=some ds->ds.length=n)
  (hg:Gl X x:=by rfl) (hdb:(x == ("__debug__":Str))=false:=by decide) (he:starEach (e::es) X.env=(false,eval e X.env)::starEach es X.env:=by rfl)
  (hpl:(backTo pos (starEach es X.env)).any (·.1)=false:=by rfl):PDX X (.Call (.Name x p) (e::es) [] pos) (fun ρ=>(fr ρ).bind g):=by
 with_unfolding_all
  intro s σ H ρ c I en q k'
  obtain ⟨f,fd,F,hm,hk,hb⟩:=C
  cases hd:fr ρ with
  | none=>simp [hd] at q
  | some ds=>
   have q':g ds=some c:=by simpa [hd] using q
   refine wpAny_Call_Name_kw (aaq I hg hm ?_ hdb)
   refine PySem.W.callWith_K (h₀:=X.base) I.ok.mod.kin hk (thn (ha pos [] s σ H (fun vs H1=>jq H H1/\Reps X.K H1 ds vs) I ⟨ρ,ds,en,hd,fun vs H1 s1 r1=>⟨s1,r1⟩⟩) fun us s1 ⟨vs,H1,I1,r,sm,rd⟩=>⟨I1.kIn,?_⟩) he hpl
   have hsp:ajY X.K X.mg n g vs H1 (fun _ _=>False) (fun cls _ H'=>X.mg c=some cls/\jq H1 H')->vs.length=ps.length:=fun z=>F.len _ _ _ _ z
   by_cases hn:ds.length=n
   ·have sp:ajY X.K X.mg n g vs H1 (fun _ _=>False) (fun cls _ H'=>X.mg c=some cls/\jq H1 H'):=⟨ds,c,hn,rd,q',fun C H' hC s2=>⟨hC,s2⟩⟩
    have hlu:(us++[]).length=ps.length:=by rw [List.append_nil,←r.length]; exact hsp sp
    have hbd:=hb s1 us I1.kIn hlu
    rw [List.append_nil] at hbd
    refine wpAny_call (codeAny_mono (F.run X.A X.stack s1 H1 ⟨us,[]⟩ us vs _ _ (hr.mono hkj) I1.env0 hbd r sp) fun rs s' hq=>?_)
    cases rs with
    | error ev=>
     obtain ⟨e0,C,H',rfl,os,bare,un,hok,xc,hC,sm2⟩:=hq
     have J':Inv X [] σ H' s':=I1.call' (ch:=[]) os un hok bare fun b z=>nomatch z
     exact k' _ _ ⟨e0,C,σ,H',rfl,hC,J',sm.trans sm2,Xc.of hxe I1 xc⟩
    | ok fl=>
     cases fl with
     | ret u=>obtain ⟨v,H',_,_,_,_,_,z⟩:=hq; exact z.elim
     | next=>exact False.elim hq
     | brk=>exact False.elim hq
     | cont=>exact False.elim hq
   ·exact absurd (hl ρ ds hd) hn
theorem ZB {x m:Str}{k0:_}{np p3 cpos:Pos} (hxe:X.ex=[]) (hE:ajX X.K X.mg x) (hc:X.calm=true) (hg:Gl X x:=by rfl) (hdb:(x == ("__debug__":Str))=false:=by decide)
  (he:starEach [.Constant (.str m) k0 p3] X.env=[(false,eval (.Constant (.str m) k0 p3) X.env)]:=by rfl):PSX X (.Raise (some (.Call (.Name x np) [.Constant (.str m) k0 p3] [] cpos)) none pos) (fun _=>some x):=by
 with_unfolding_all
  intro s σ H ρ c I en q k
  cases q
  obtain ⟨C,hm,hex⟩:=hE
  obtain ⟨bm,N,nm,qn,bs,hdct,sn,sub,ab,col,dd,k0',k1,k2,k3,k5,mN,hC,hN,hni,TL⟩:=anT (h:=X.base) I.ok.mod.kin hex
  have hpl:(backTo cpos (starEach [.Constant (.str m) k0 p3] X.env)).any (·.1)=false:=by rw [he]; rfl
  refine wpAny_Raise_call_subT (C:=C) (nm:=nm) (q:=qn) (N:=N) (bs:=bs) (bm:=bm) (hdct:=hdct) (sn:=sn) (sub:=sub) (ab:=ab) (col:=col) (dd:=dd) (k0:=k0') (k1:=k1) (k2:=k2) (k3:=k3) (k5:=k5) PySem.F.excBase_ValueError (mN:=mN) (TL.hasType rfl) (I.ok.hd hc) hpl hni ?_
  refine wpAny_mono (ab2 (pos:=np) hg hm (show jP (.ref C) (.ref C) from rfl) hdb [] s σ H (fun v H'=>v= .ref C/\H'=H) I ⟨rfl,rfl⟩) (fun v s1 ⟨y,H1,I1,r1,e1,e2⟩=>?_) fun _ _ z=>z
  subst e1; subst e2
  obtain rfl:v=Value.ref C:=r1
  refine ⟨rfl,?_⟩
  have pa:PA X [.Constant (.str m) k0 p3] _:=qm (X:=X) akP zL he
  have hsp:=pa cpos [] s1 σ H1 (fun vs H'=>vs.length=1/\H'=H1) I1 ⟨rfl,rfl⟩
  rw [he] at hsp ⊢
  refine Calls.evalArgs_plain (wpAny_mono hsp (fun us s2 ⟨vs,H2,I2,r2,l2,e2⟩=>?_) fun _ _ z=>z)
  subst e2
  have kp:∀ b o,X.base.get? b=some o->s2.heap.get? b=some o:=fun b o e=>(I2.bs b o e).1
  refine ⟨rfl,?_,kp _ _ hC,hN.keeps kp,TL.keeps kp,fun h' e0 md=>?_⟩
  ·show us.length<=sizeLine
   rw [←r2.length,l2,sizeLine_eq]; decide
  ·obtain ⟨t,h1,h2,h3⟩:=md.there
   have I3:Inv X [] σ H2 { s2 with heap:=h' }:=I2.kept (t':=s2.toks) md.keeps
   have m0:=aaA hxe I2 md.new
   exact k _ _ ⟨e0,C,σ,H2,rfl,hm,I3,jq.refl _,m0,_,_,h1,⟨rfl,rfl⟩,rfl,by simp,.inl rfl⟩
end
theorem alM {CX:CXT}{P:Program}{w:World}{K:PySem.W.Frag}{mg:Str->Option Value}{base:Heap}{k:Nat}{f:Addr}{name qual:Str}{params:Arguments}{body:List Stmt}{scope:Scope}{dV kV doc pm cdv ct oc:Value}{an od:Option Addr}
  {osl:Array (Option Value)} {N ps:List Str} {sp:Sp} (lk:K.lookup f=some ⟨oc,od,.func (PySem.W.fnOf name qual params body scope dV kV doc pm an cdv ct),osl⟩) (hcd:PySem.W.codeIn K cdv qual=true) (S:FnScope N ps scope)
  (len:∀ vs H Q E,sp vs H Q E->vs.length=ps.length)
  (hbody:∀ (A:Around) (outer:List Env) (s:Shared) (H:Hp) (vs:List V) (Q:VK) (E:XK) (s1:Shared),Room k (A.deeper (envOfC qual scope s.heap.objs.size f cdv))->sp vs H Q E->
   Inv (Jo CX P w K mg base N qual scope f cdv A outer s H E) [] (L2.zH N vs) H s1->
   wpAny (model P w) (A.deeper (envOfC qual scope s.heap.objs.size f cdv)) (execs body (envOfC qual scope s.heap.objs.size f cdv)) (SP (Jo CX P w K mg base N qual scope f cdv A outer s H E) [] { nx:=fun _ H'=>Q .non H',rt:=Q }) (Jo CX P w K mg base N qual scope f cdv A outer s H E).xe s1):
  FnOk P w K mg base CX (k+1) f (PySem.W.fnOf name qual params body scope dV kV doc pm an cdv ct) ps sp:=by
 refine ⟨len,fun A outer s H args us vs Q E hr e0 hb r hsp=>?_⟩
 have hl:=len _ _ _ _ hsp
 have KX:K.In s.heap:=e0.mod.kin.keeps fun b o e=>(e0.bs b o e).1
 have lim:s.heap.NoLimit:=e0.mod.nolimit.keeps fun b o e=>(e0.bs b o e).1
 have hkind:∀ y ∈ ps.zip us,scope.names.lookup y.1=some .local ∨ (scope.names.lookup y.1=some .cell/\((cellsFrom (s.heap.objs.size+1) scope.names []).lookup y.1).isSome=true):=fun ⟨n,v⟩ hy=>by
  rcases S.par n (List.of_mem_zip hy).1 with q | q
  ·exact .inl q
  ·exact .inr ⟨q,PySem.W.cellsFrom_some _ _ _ (.inl q)⟩
 refine codeAny_call_function hr.depth (KX _ _ lk) rfl S.co S.gen rfl (PySem.W.codeRec_of KX hcd) (hb _ _ _ _ ?_)
 refine wpAny_newFunctionEnv_cells S.kind hkind fun env he s1 x=>?_
 subst he
 refine ⟨lim.keeps x.toInCall.keep,codeAny_func ?_⟩
 have I:Inv (Jo CX P w K mg base N qual scope f cdv A outer s H E) [] (L2.zH N vs) H s1:=aba S hr.hd e0 hl r x
 refine wpAny_mono (hbody A outer s H vs Q E s1 (hr.deeper _) hsp I) (fun fl s' hs=>?_) fun e s' hs=>hs
 have fin:∀ {σ':St} {H':Hp} {v:V} {u:Value},Inv (Jo CX P w K mg base N qual scope f cdv A outer s H E) [] σ' H' s'->jP v u->Q v H'->CE outer P w H s Q u s':=
  fun {σ' H' v u} J rv q=>⟨v,H',J.os,J.bare,J.base,J.hok,rv,q⟩
 cases fl with
 | ret u=>
  obtain ⟨v,σ',H',J,rv,q⟩:=hs
  exact fin J rv q
 | next=>
  obtain ⟨σ',H',J,q⟩:=hs
  exact fin (v:=V.non) (u:=Value.none) J rfl q
 | brk=>
  obtain ⟨_,_,_,q⟩:=hs
  exact False.elim q
 | cont=>
  obtain ⟨_,_,_,q⟩:=hs
  exact False.elim q
theorem alN {CX:CXT}{P:Program}{w:World}{K:PySem.W.Frag}{mg:Str->Option Value}{base:Heap}{N:List Str}{qual:Str}{scope:Scope}{f:Addr}{cd:Value}{A:Around}{outer:List Env}{s:Shared}{H:Hp}{E:XK}:Top0 (Jo CX P w K mg base N qual scope f cd A outer s H E):=⟨rfl,rfl,rfl⟩
section
variable {P:Program}{w:World}{K:PySem.W.Frag}{mg:Str->Option Value}{base:Heap}
noncomputable def JM (N:List Str) (n:Nat) (Fx:Rho->Option Str) (ds:List PyData):Option Str:=if ds.length=n then Fx (jE N ds) else none
theorem QH {x qual:Str}{st:Stmt}{f:Addr}{fd:FuncData}{N ps:List Str}{k:Nat}{Fx:Rho->Option Str} (F:Fun K x qual st f fd) (S:FnScope N ps (jf st))
  (body:∀ (cdv:Value) (A:Around) (outer:List Env) (s:Shared) (H:Hp) (E:XK),Room k (A.deeper (envOfC qual (jf st) s.heap.objs.size f cdv))->ab1 (Jo (CXt P w) P w K mg base N qual (jf st) f cdv A outer s H E) (jK st) Fx):
  FnOk P w K mg base (CXt P w) (k+1) f fd ps (ajY K mg ps.length (JM N ps.length Fx)):=by
 with_unfolding_all
  obtain ⟨oc,od,kV,doc,pm,an,cdv,ct,osl,rfl,lk,hcd⟩:=F.ex
  refine alM lk hcd S (fun vs H Q E h=>?_) fun A outer s H vs Q E s1 hr h I=>?_
  ·obtain ⟨ds,c,h1,h2,_⟩:=h
   rw [h2.length]; exact h1
  ·obtain ⟨ds,c,h1,h2,h3,h4⟩:=h
   unfold JM at h3
   rw [if_pos h1] at h3
   refine wpAny_mono (body cdv A outer s H E hr s1 (L2.zH N vs) H (jE N ds) c I (Zx h2) h3 fun ev s' t=>?_) (fun _ _ z=>z.elim) fun _ _ z=>z
   obtain ⟨e,C,σ',H',rfl,hC,J,sm,xc⟩:=t
   have T0:Top0 (Jo (CXt P w) P w K mg base N qual (jf st) f cdv A outer s H E):=alN
   show wpAny (model P w) (A.deeper (envOfC qual (jf st) s.heap.objs.size f cdv)) (leaving (envOfC qual (jf st) s.heap.objs.size f cdv) (.ref e)) (fun _ s''=>CXt P w outer H s E (.ref e) s'') (fun e' s''=>CXt P w outer H s E e' s'') s'
   have n1:=ae2 (E:=fun _ _=>False) (A:=A.deeper (envOfC qual (jf st) s.heap.objs.size f cdv)) T0 J.ok.frames J xc
   unfold leaving
   refine wpAny_bind (wpAny_mono n1 (fun _ s2 ⟨J2,t2⟩=>?_) fun _ _ z=>z.elim)
   have n2:=Ql (E:=fun _ _=>False) (A:=A.deeper (envOfC qual (jf st) s.heap.objs.size f cdv)) none J2 t2
   refine wpAny_mono n2 (fun _ s3 ⟨J3,t3⟩=>?_) fun _ _ z=>z.elim
   obtain ⟨oe,ws,T,oT,ts,g1,g2,g3,g4,g5,g6,g7,g8,g9⟩:=t3.ob
   exact ⟨e,C,H',rfl,J3.os,J3.bare,J3.base,J3.hok,⟨t3.mine.un,t3.mine.new,oe,ws,T,oT,ts,g1,g2,g3,g4,g5,g6.un,g6.new,g7,g8,g9⟩,h4 C H' hC sm⟩
end
theorem Inv.asA {X:Cx}{pins:List (Addr × Obj)}{σ:St}{H:Hp}{s:Shared}{A:Around}{cm:Bool}{xe:Value->Shared->Prop} (I:Inv X pins σ H s) (hf:A.frames=some X.stack) (hd:cm=true->A.handled=none):Inv { X with A:=A,calm:=cm,xe:=xe } pins σ H s:=
 ⟨⟨I.ok.mod,I.ok.kind,I.ok.glob,I.ok.blt,I.ok.above,I.ok.inj,I.ok.has,I.ok.cab,hd,hf,I.ok.stk,I.ok.exf,I.ok.bs,I.ok.bsz,I.ok.noex,I.ok.exfs,I.ok.funs,I.ok.frf⟩,I.os,I.bare,I.base,I.loc,I.cell,I.free,I.freeC,I.pin,I.hok,I.len⟩
theorem Inv.ofA {X:Cx}{pins:List (Addr × Obj)}{σ:St}{H:Hp}{s:Shared}{A:Around}{cm:Bool}{xe:Value->Shared->Prop} (ok:X.Ok) (I:Inv { X with A:=A,calm:=cm,xe:=xe } pins σ H s):Inv X pins σ H s:=
 ⟨ok,I.os,I.bare,I.base,I.loc,I.cell,I.free,I.freeC,I.pin,I.hok,I.len⟩
theorem Mine.unwish {X:Cx}{E:Value->Shared->Prop}{H:Hp}{b:Addr} (m:Mine (X.wish E) H b):Mine X H b:=⟨m.un,m.new,m.loc,m.cel,m.pin⟩
theorem Xc.unwish {X:Cx}{E:Value->Shared->Prop}{H:Hp}{h:Heap}{e C:Addr} (x:Xc (X.wish E) H h e C):Xc X H h e C:=by
 obtain ⟨oe,vs,h1,h2,h3,h4,h5⟩:=x.ob
 refine ⟨x.mine.unwish,oe,vs,h1,h2,h3,h4,?_⟩
 rcases h5 with q | ⟨T,oT,ts,q1,q2,q3,q4⟩
 ·exact .inl q
 ·exact .inr ⟨T,oT,ts,q1,q2,q3.unwish,q4⟩
@[irreducible] noncomputable def PS0 (X:Cx) (st:Stmt) (F:Rho->Option Out):Prop:=∀ (s:Shared) (σ:St) (H:Hp) (D:Ends),Inv X [] σ H s->tDS X.K F D σ H->wpAny (model X.prog X.w) X.A (exec st X.env) (SP X [] D) X.xe s
@[irreducible] noncomputable def alO (X:Cx) (sts:List Stmt) (F:Rho->Option Out):Prop:=∀ (s:Shared) (σ:St) (H:Hp) (D:Ends),Inv X [] σ H s->tDS X.K F D σ H->wpAny (model X.prog X.w) X.A (execs sts X.env) (SP X [] D) X.xe s
section
variable {X:Cx}{st:Stmt}{sts j5 tb hb:List Stmt}{F G:Rho->Option Out}{pos:Pos}
theorem anU (h:Z2 X sts F):alO X sts F:=by
 with_unfolding_all
  exact fun s σ H D I t=>h [] s σ H D I t
theorem ajZ (h1:PS0 X st F) (h2:alO X j5 G):alO X (st::j5) (jI F G):=by
 with_unfolding_all
  intro s σ H D I ⟨ρ,o,en,q,k⟩
  cases hF:F ρ with
  | none=>simp [jI,hF] at q
  | some o1=>
   cases o1 with
   | nx ρ1=>
    have q':G ρ1=some o:=by simpa [jI,hF] using q
    refine wpAny_execs_cons (thn (h1 s σ H { D with nx:=fun σ' H'=>jq H H'/\EnvR X.K H' ρ1 σ' } I ⟨ρ,.nx ρ1,en,hF,fun σ' H' s1 e1=>⟨s1,e1⟩⟩) fun f s1 z=>?_)
    cases f with
    | next=>
     obtain ⟨σ',H',I',sm,e1⟩:=z
     exact h2 s1 σ' H' D I' ⟨ρ1,o,e1,q',k.mono sm⟩
    | brk=>exact z
    | cont=>exact z
    | ret u=>exact z
   | rt d=>
    have q':Out.rt d=o:=by simpa [jI,hF] using q
    subst q'
    refine wpAny_execs_cons (thn (h1 s σ H { D with nx:=fun _ _=>False } I ⟨ρ,.rt d,en,hF,k⟩) fun f s1 z=>?_)
    cases f with
    | next=>obtain ⟨_,_,_,z⟩:=z; exact z.elim
    | brk=>exact z
    | cont=>exact z
    | ret u=>exact z
   | bk ρ1=>
    have q':Out.bk ρ1=o:=by simpa [jI,hF] using q
    subst q'
    refine wpAny_execs_cons (thn (h1 s σ H { D with nx:=fun _ _=>False } I ⟨ρ,.bk ρ1,en,hF,k⟩) fun f s1 z=>?_)
    cases f with
    | next=>obtain ⟨_,_,_,z⟩:=z; exact z.elim
    | brk=>exact z
    | cont=>exact z
    | ret u=>exact z
   | ct ρ1=>
    have q':Out.ct ρ1=o:=by simpa [jI,hF] using q
    subst q'
    refine wpAny_execs_cons (thn (h1 s σ H { D with nx:=fun _ _=>False } I ⟨ρ,.ct ρ1,en,hF,k⟩) fun f s1 z=>?_)
    cases f with
    | next=>obtain ⟨_,_,_,z⟩:=z; exact z.elim
    | brk=>exact z
    | cont=>exact z
    | ret u=>exact z
end
section
variable {X:Cx}{st b0:Stmt}{sts j5 tb hb:List Stmt}{F G:Rho->Option Out}{fx:Rho->Option Str}{pos:Pos}
noncomputable def Z6 (n:Nat):Rho:=List.replicate n none
noncomputable abbrev hX (X:Cx) (e:Addr):Cx:={ X with A:=X.A.mark (some (.ref e)),calm:=false,xe:=fun _ _=>False }
theorem SP.ofA {A:Around}{cm:Bool}{xe:Value->Shared->Prop}{D:Ends}{f:Flow}{s':Shared} (ok:X.Ok) (h:SP { X with A:=A,calm:=cm,xe:=xe } [] D f s'):SP X [] D f s':=by
 cases f with
 | next=>obtain ⟨σ',H',I,q⟩:=h; exact ⟨σ',H',Inv.ofA ok I,q⟩
 | brk=>obtain ⟨σ',H',I,q⟩:=h; exact ⟨σ',H',Inv.ofA ok I,q⟩
 | cont=>obtain ⟨σ',H',I,q⟩:=h; exact ⟨σ',H',Inv.ofA ok I,q⟩
 | ret u=>obtain ⟨v,σ',H',I,r,q⟩:=h; exact ⟨v,σ',H',Inv.ofA ok I,r,q⟩
end
section
variable {P:Program}{w:World}{K:PySem.W.Frag}{mg:Str->Option Value}{base:Heap}
theorem alP {x qual:Str}{st:Stmt}{f:Addr}{fd:FuncData}{N ps:List Str}{k:Nat}{B:Rho->Option Out} (F:Fun K x qual st f fd) (S:FnScope N ps (jf st))
  (body:∀ (cdv:Value) (A:Around) (outer:List Env) (s:Shared) (H:Hp) (E:XK),Room k (A.deeper (envOfC qual (jf st) s.heap.objs.size f cdv))->alO (Jo CX0 P w K mg base N qual (jf st) f cdv A outer s H E) (jK st) B):
  FnOk P w K mg base CX0 (k+1) f fd ps (Pur K ps.length (jw N ps.length B)):=by
 with_unfolding_all
  obtain ⟨oc,od,kV,doc,pm,an,cdv,ct,osl,rfl,lk,hcd⟩:=F.ex
  refine alM lk hcd S (fun vs H Q E h=>?_) fun A outer s H vs Q E s1 hr h I=>?_
  ·obtain ⟨ds,d,h1,h2,_⟩:=h
   rw [h2.length]; exact h1
  ·obtain ⟨ds,d,h1,h2,h3,h4⟩:=h
   unfold jw at h3
   rw [if_pos h1] at h3
   cases hB:B (jE N ds) with
   | none=>rw [hB] at h3; cases h3
   | some o=>
    rw [hB] at h3
    refine body cdv A outer s H E hr s1 (L2.zH N vs) H _ I ⟨jE N ds,o,Zx h2,hB,?_⟩
    cases o with
    | rt c=>cases h3; exact fun v H' sm r=>h4 v H' sm r
    | nx ρ=>cases h3; exact fun σ H' sm e=>h4 .non H' sm rfl
    | bk ρ=>cases h3
    | ct ρ=>cases h3
end
section
variable {X:Cx}{e a b c:Expr}{fa fb fc:Rho->Option PyData}{pos p2:Pos}
end
section
variable {X:Cx}
end
section
variable {X:Cx}
end
section
variable {X:Cx}{e a b c:Expr}{fa fb fc:Rho->Option PyData}{pos p2:Pos}
end
section
variable {X:Cx}
end
section
variable {X:Cx}{e:Expr}{es:List Expr}{pos p:Pos}
noncomputable def zr (x:Str):PyData->Bool
 | .dict [(.str y,.none)]=>decide (y=x)
 | _=>false
theorem agd {x:Str}{d:PyData} (h:zr x d=true):d=fnD x:=by
 unfold zr at h
 split at h
 ·rw [of_decide_eq_true h]; rfl
 ·cases h
@[simp] theorem qQ (x:Str):zr x (fnD x)=true:=by simp [zr,fnD]
theorem aiU {K:PySem.W.Frag}{H:Hp}{x:Str}{v:V} (h:Rep K H (fnD x) v):∃ a,v= .ref a/\PySem.W.nsIn K mainGlobals x=some (some (.ref a)):=by
 obtain ⟨a,h1,⟨ns,h2,h3⟩ | ⟨ks,ob,h2,h3⟩ | ⟨y,h2,h3⟩ | ⟨y,_,_,h2,_⟩⟩:=h
 ·cases ns with
  | nil=>cases h3
  | cons n ns=>cases h3
 ·exact h3.elim
 ·cases h2
  exact ⟨a,h1,h3⟩
 ·cases h2
end
section
variable {X:Cx}{e a b c:Expr}{es:List Expr}{fa:Rho->Option PyData}{fx gx:Rho->Option Str}{pos:Pos}
end
section
variable {X:Cx}{own:Option Nat}{e a b c tg src:Expr}{es:List Expr}{st:Stmt}{sts j5 body:List Stmt}{fx gx:Rho->Option Str}{F:Rho->Option Out}{fa:Rho->Option PyData}{pos:Pos}
theorem Thr.unwish {W:Value->Shared->Prop}{Hb Hs:Hp}{c:Str}{ev:Value}{s':Shared} (sb:∀ H3,jq Hb H3->jq Hs H3) (h:Thr (X.wish W) Hb c ev s'):Thr X Hs c ev s':=by
 obtain ⟨e,C,σ',H',h1,h2,h3,h4,h5⟩:=h
 exact ⟨e,C,σ',H',h1,h2,h3.unwish,sb _ h4,h5.unwish⟩
end
section
variable {X:Cx}{e a b c:Expr}{es:List Expr}{st:Stmt}{sts j5:List Stmt}{fx gx:Rho->Option Str}{F:Rho->Option Out}{pos p:Pos}
noncomputable def orX (fx gx:Rho->Option Str):Rho->Option Str:=fun ρ=>match fx ρ with
 | some c=>some c
 | none=>gx ρ
theorem ae4 (h1:ab1 X sts fx) (h2:ab1 X sts gx):ab1 X sts (orX fx gx):=by
 with_unfolding_all
  intro s σ H ρ c I en q k
  cases hf:fx ρ with
  | some c'=>
   have:c'=c:=by simpa [orX,hf] using q
   subst this
   exact h1 s σ H ρ c' I en hf k
  | none=>exact h2 s σ H ρ c I en (by simpa [orX,hf] using q) k
end
section
variable {X:Cx}{a b c:Expr}{tc ta tb:Rho->Option Bool}{pos:Pos}
end
section
variable {X:Cx}{a b:Expr}{fa fb:Rho->Option PyData}
theorem acY:∀ {is:List Bool}{us:List Value},jG (is.map V.bl) us->us=is.map Value.bool
 | [],us,r=>by cases r; rfl
 | i0::is,u::us,.cons r rr=>by
  rw [List.map_cons,←acY rr,show u=Value.bool i0 from r]
noncomputable def aj0 (k:Bool):Value->Bool
 | .bool i=>i == k
 | _=>false
noncomputable def anV:V->List V->Hp->VK->Prop:=fun x vs H Q=>∃ (l:Addr) (is:List Bool) (k:Bool) (j:Nat),x= .ref l/\vs=[.bl k]/\H l=some (.lst (is.map V.bl))/\is.findIdx? (· == k)=some j/\Q (.int j) H
noncomputable def anW:V->List V->Hp->VK->Prop:=fun x vs H Q=>∃ (l:Addr) (is:List Bool) (k:Bool),x= .ref l/\vs=[.bl k]/\H l=some (.lst (is.map V.bl))/\Q (.int (is.countP (· == k))) H
theorem aj1:MtR X "list.index" anV:=by
 intro pins s σ H x vs v us Q I rx rv h
 obtain ⟨l,is,k,j,rfl,rfl,hH,hj,q⟩:=h
 cases rx
 obtain ⟨u,rfl,ru⟩:=jG.one rv
 cases (show u=Value.bool k from ru)
 obtain ⟨z,its,n,r,hl,e⟩:=I.lstM hH
 have hlen:=r.length
 simp only [List.length_map] at hlen
 have hits:=acY r
 subst hits
 obtain ⟨hj1,hj2,hj3⟩:=List.findIdx?_eq_some_iff_getElem.mp hj
 have hln:=aeH
 have z':=z
 rw [List.length_map] at z'
 refine call_meets F.slot_list_index ⟨_,e,rfl⟩ F.entry_list_index (F.args_list_index_2 _ _) (SeqAt.list_indexAt l (is.map Value.bool).toArray n none #[] (.bool k) (aj0 k) j (by simp; omega) ?_ ?_ ?_) ⟨e,?_,?_⟩
 ·omega
 ·simp [aj0]; exact beq_iff_eq.mp hj2
 ·intro m hm hmj
  simp [aj0]
  have:=hj3 m hmj
  exact fun z=>this (by rw [z]; exact beq_self_eq_true k)
 ·intro y hy
  have hy':y ∈ is.map Value.bool:=by simpa using hy
  obtain ⟨i,_,rfl⟩:=List.mem_map.mp hy'
  exact SeqAt.EqAt.bool_bool _ _
 ·exact ⟨.int j,H,I.tok _,⟨_,rfl⟩,q⟩
theorem aj2:MtR X "list.count" anW:=by
 intro pins s σ H x vs v us Q I rx rv h
 obtain ⟨l,is,k,rfl,rfl,hH,q⟩:=h
 cases rx
 obtain ⟨u,rfl,ru⟩:=jG.one rv
 cases (show u=Value.bool k from ru)
 obtain ⟨z,its,n,r,hl,e⟩:=I.lstM hH
 have hits:=acY r
 subst hits
 have hc:((is.map Value.bool).toArray.toList.countP (aj0 k))=is.countP (· == k):=by
  show (is.map Value.bool).countP (aj0 k)=_
  rw [List.countP_map]; rfl
 refine call_meets F.slot_list_count ⟨_,e,rfl⟩ F.entry_list_count (F.args_list_count_2 _ _) (SeqAt.list_countAt l (is.map Value.bool).toArray n none #[] (.bool k) (aj0 k)) ⟨e,?_,?_⟩
 ·intro y hy
  have hy':y ∈ is.map Value.bool:=by simpa using hy
  obtain ⟨i,_,rfl⟩:=List.mem_map.mp hy'
  exact SeqAt.EqAt.bool_bool _ _
 ·exact ⟨.int (is.countP (· == k)),H,I.tok _,⟨_,by rw [←hc]⟩,q⟩
noncomputable def age:List PyData->Option (List Bool)
 | []=>some []
 | .bool i::r=>(age r).map (i::·)
 | _=>none
theorem ahT {K:PySem.W.Frag}{H:Hp}:∀ {ds:List PyData}{is:List Bool}{xs:List V},age ds=some is->Reps K H ds xs->xs=is.map V.bl
 | [],is,xs,h,r=>by cases h; exact r
 | d::ds,is,xs,h,r=>by
  obtain ⟨x,ys,e1,e2,e3⟩:=r
  cases d with
  | bool i=>
   simp only [age,Option.map_eq_some_iff] at h
   obtain ⟨js,h1,h2⟩:=h
   subst h2
   cases (show x=_ from e2)
   rw [e1,ahT h1 e3]; rfl
  | _=>simp [age] at h
noncomputable def ae5 (p q:PyData):Option PyData:=match p,q with
 | .list ds,.bool k=>(age ds).bind fun is=>(is.findIdx? (· == k)).map fun (j:Nat)=>PyData.int j
 | _,_=>none
noncomputable def ae6 (p q:PyData):Option PyData:=match p,q with
 | .list ds,.bool k=>(age ds).map fun is=>PyData.int (is.countP (· == k))
 | _,_=>none
theorem aj3 {apos cpos:Pos} (ha:PD X a fa) (hb:PD X b fb) (hbase:attributeBase a "index" X.env (eval a X.env)=eval a X.env:=by rfl)
  (hfew:((backTo cpos (starEach [b] X.env)).all (fun x=>!x.1) && (backToKw cpos (keywordEach [] X.env)).all (fun x=>x.1.isSome) && decide ([b].length+([]:List Keyword).length+(if ([]:List Keyword).isEmpty then 0 else 1) < 30))=true:=by rfl)
  (hline:(apos.endLine == cpos.line)=true:=by rfl) (hs:starEach [b] X.env=(false,eval b X.env)::starEach [] X.env:=by rfl) (hplain:(backTo cpos (starEach [] X.env)).any (fun x=>x.1)=false:=by rfl):
  PD X (.Call (.Attribute a "index" apos) [b] [] cpos) (op2 ae5 fa fb):=by
 with_unfolding_all
  refine PE.imp (afX PySem.F.plainAttrs_list PySem.F.slot_list_index PySem.F.type_list_index aj1 ha (qm hb zL hs) hbase hfew hline hs hplain) fun σ H Q ⟨ρ,d,en,h,k⟩=>?_
  cases h1:fa ρ with
  | none=>simp [op2,h1] at h
  | some p=>
   cases h2:fb ρ with
   | none=>simp [op2,h1,h2] at h
   | some q=>
    have h':ae5 p q=some d:=by simpa [op2,h1,h2] using h
    unfold ae5 at h'
    split at h'
    ·rename_i ds n
     cases h3:age ds with
     | none=>simp [h3] at h'
     | some is=>
      cases h4:is.findIdx? (· == n) with
      | none=>simp [h3,h4] at h'
      | some j=>
       simp only [h3,h4,zzD,zzE,Option.some.injEq] at h'
       subst h'
       refine ⟨ρ,_,en,h1,fun v H1 s1 r1=>?_⟩
       obtain ⟨l,xs,e1,e2,e3⟩:=r1
       subst e1
       refine ⟨.inl ⟨rfl,xs,SqL.of e2⟩,ρ,_,en.mono s1,h2,fun y H2 s2 r2=>?_⟩
       cases (show y=V.bl n from r2)
       refine ⟨l,is,n,j,rfl,rfl,?_,h4,k _ H2 (s1.trans s2) rfl⟩
       rw [←ahT h3 e3]
       exact s2 _ _ e2
    ·cases h'
theorem aj4 {apos cpos:Pos} (ha:PD X a fa) (hb:PD X b fb) (hbase:attributeBase a "count" X.env (eval a X.env)=eval a X.env:=by rfl)
  (hfew:((backTo cpos (starEach [b] X.env)).all (fun x=>!x.1) && (backToKw cpos (keywordEach [] X.env)).all (fun x=>x.1.isSome) && decide ([b].length+([]:List Keyword).length+(if ([]:List Keyword).isEmpty then 0 else 1) < 30))=true:=by rfl)
  (hline:(apos.endLine == cpos.line)=true:=by rfl) (hs:starEach [b] X.env=(false,eval b X.env)::starEach [] X.env:=by rfl) (hplain:(backTo cpos (starEach [] X.env)).any (fun x=>x.1)=false:=by rfl):
  PD X (.Call (.Attribute a "count" apos) [b] [] cpos) (op2 ae6 fa fb):=by
 with_unfolding_all
  refine PE.imp (afX PySem.F.plainAttrs_list PySem.F.slot_list_count PySem.F.type_list_count aj2 ha (qm hb zL hs) hbase hfew hline hs hplain) fun σ H Q ⟨ρ,d,en,h,k⟩=>?_
  cases h1:fa ρ with
  | none=>simp [op2,h1] at h
  | some p=>
   cases h2:fb ρ with
   | none=>simp [op2,h1,h2] at h
   | some q=>
    have h':ae6 p q=some d:=by simpa [op2,h1,h2] using h
    unfold ae6 at h'
    split at h'
    ·rename_i ds n
     cases h3:age ds with
     | none=>simp [h3] at h'
     | some is=>
      simp only [h3,zzE,Option.some.injEq] at h'
      subst h'
      refine ⟨ρ,_,en,h1,fun v H1 s1 r1=>?_⟩
      obtain ⟨l,xs,e1,e2,e3⟩:=r1
      subst e1
      refine ⟨.inl ⟨rfl,xs,SqL.of e2⟩,ρ,_,en.mono s1,h2,fun y H2 s2 r2=>?_⟩
      cases (show y=V.bl n from r2)
      refine ⟨l,is,n,rfl,rfl,?_,k _ H2 (s1.trans s2) rfl⟩
      rw [←ahT h3 e3]
      exact s2 _ _ e2
    ·cases h'
end
structure RoomH (k:Nat) (A:Around):Prop where
 dp:A.depth+3*k+5 < recursionLimit
 un:A.units+16*k+200 < cLine
theorem RoomH.deeper {k:Nat}{A:Around} (r:RoomH (k+1) A) (env:Env):RoomH k (A.deeper env):=
 ⟨by have:=r.dp; show A.depth+1+3*k+5 < _; omega,by have:=r.un; show A.units+3+16*k+200 < _; omega⟩
theorem Room.h {k:Nat}{A:Around} (r:Room k A):RoomH k A:=⟨r.dp,r.un⟩
theorem RoomH.mark {k:Nat}{A:Around}{v:Option Value} (r:RoomH k A):RoomH k (A.mark v):=⟨r.dp,r.un⟩
structure FnH (P:Program) (w:World) (K:PySem.W.Frag) (mg:Str->Option Value) (base:Heap) (k:Nat) (f:Addr) (fd:FuncData) (ps:List Str) (sp:Sp):Prop where
 len:∀ vs H Q E,sp vs H Q E->vs.length=ps.length
 run:∀ (A:Around) (outer:List Env) (s:Shared) (H:Hp) (args:Args) (us:List Value) (vs:List V) (Q:VK) (E:XK),RoomH k A->Env0 P w K mg base A outer s H->BindsTo s fd args (ps.zip us)->jG vs us->sp vs H Q E->
  codeAny (model P w) A (.call (.ref f) args) (CR CX0 outer P w H s Q E) s
noncomputable abbrev cxH (P:Program) (w:World) (K:PySem.W.Frag) (mg:Str->Option Value) (base:Heap) (N:List Str) (qual:Str) (scope:Scope) (f:Addr) (cd:Value) (A:Around) (outer:List Env) (s:Shared) (H:Hp) (E:XK):Cx:=
 { Jo CX0 P w K mg base N qual scope f cd { A with handled:=none } outer s H E with A:=A.deeper (envOfC qual scope s.heap.objs.size f cd),calm:=false,xe:=fun _ _=>False }
noncomputable def ab7 (P:Program) (w:World) (K:PySem.W.Frag) (mg:Str->Option Value) (base:Heap) (x:Str) (ps:List Str) (k n:Nat) (g:List PyData->Option PyData):Prop:=
 ∃ (f:Addr) (fd:FuncData),FnH P w K mg base k f fd ps (Pur K n g)/\mg x=some (.ref f)/\PySem.W.keepIn K (.ref f)=true/\QZ K fd ps []
section
variable {P:Program}{w:World}{K:PySem.W.Frag}{mg:Str->Option Value}{base:Heap}
theorem asg {x qual:Str}{st:Stmt}{f:Addr}{fd:FuncData}{N ps:List Str}{k:Nat}{B:Rho->Option Out} (F:Fun K x qual st f fd) (S:FnScope N ps (jf st))
  (body:∀ (cdv:Value) (A:Around) (outer:List Env) (s:Shared) (H:Hp) (E:XK),RoomH k (A.deeper (envOfC qual (jf st) s.heap.objs.size f cdv))->Z2 (cxH P w K mg base N qual (jf st) f cdv A outer s H E) (jK st) B):
  FnH P w K mg base (k+1) f fd ps (Pur K ps.length (jw N ps.length B)):=by
 with_unfolding_all
  obtain ⟨oc,od,kV,doc,pm,an,cdv,ct,osl,rfl,lk,hcd⟩:=F.ex
  have len:∀ vs H Q E,Pur K ps.length (jw N ps.length B) vs H Q E->vs.length=ps.length:=fun vs H Q E h=>by
   obtain ⟨ds,d,h1,h2,_⟩:=h
   rw [h2.length]; exact h1
  refine ⟨len,fun A outer s H args us vs Q E hr e0 hb r hsp=>?_⟩
  have hl:=len _ _ _ _ hsp
  have KX:K.In s.heap:=e0.mod.kin.keeps fun b o e=>(e0.bs b o e).1
  have lim:s.heap.NoLimit:=e0.mod.nolimit.keeps fun b o e=>(e0.bs b o e).1
  have hkind:∀ y ∈ ps.zip us,(jf st).names.lookup y.1=some .local ∨ ((jf st).names.lookup y.1=some .cell/\((cellsFrom (s.heap.objs.size+1) (jf st).names []).lookup y.1).isSome=true):=fun ⟨n,v⟩ hy=>by
   rcases S.par n (List.of_mem_zip hy).1 with q | q
   ·exact .inl q
   ·exact .inr ⟨q,PySem.W.cellsFrom_some _ _ _ (.inl q)⟩
  have hdp:A.depth < recursionLimit:=by have:=hr.dp; omega
  refine codeAny_call_function hdp (KX _ _ lk) rfl S.co S.gen rfl (PySem.W.codeRec_of KX hcd) (hb _ _ _ _ ?_)
  refine wpAny_newFunctionEnv_cells S.kind hkind fun env he s1 x=>?_
  subst he
  refine ⟨lim.keeps x.toInCall.keep,codeAny_func ?_⟩
  have e1:Env0 P w K mg base { A with handled:=none } outer s H:=⟨e0.frames,e0.mod,e0.bs,e0.bsz,e0.funs,e0.frf,e0.hok,e0.bare⟩
  have I0:Inv (Jo CX0 P w K mg base N qual (jf st) f cdv { A with handled:=none } outer s H E) [] (L2.zH N vs) H s1:=aba S rfl e1 hl r x
  have I:Inv (cxH P w K mg base N qual (jf st) f cdv A outer s H E) [] (L2.zH N vs) H s1:=Inv.asA I0 I0.ok.frames (fun z=>nomatch z)
  obtain ⟨ds,d,h1,h2,h3,h4⟩:=hsp
  unfold jw at h3
  rw [if_pos h1] at h3
  cases hB:B (jE N ds) with
  | none=>rw [hB] at h3; cases h3
  | some o=>
   rw [hB] at h3
   have bd:=body cdv A outer s H E (hr.deeper _) [] s1 (L2.zH N vs) H { nx:=fun _ H'=>Q .non H',rt:=Q } I ⟨jE N ds,o,Zx h2,hB,by
    cases o with
    | rt c=>cases h3; exact fun v H' sm r=>h4 v H' sm r
    | nx ρ=>cases h3; exact fun σ H' sm e=>h4 .non H' sm rfl
    | bk ρ=>cases h3
    | ct ρ=>cases h3⟩
   refine wpAny_mono bd (fun fl s' hs=>?_) fun e s' hs=>hs.elim
   have fin:∀ {σ':St} {H':Hp} {v:V} {u:Value},Inv (cxH P w K mg base N qual (jf st) f cdv A outer s H E) [] σ' H' s'->jP v u->Q v H'->CE outer P w H s Q u s':=
    fun {σ' H' v u} J rv q=>⟨v,H',J.os,J.bare,J.base,J.hok,rv,q⟩
   cases fl with
   | ret u=>
    obtain ⟨v,σ',H',J,rv,q⟩:=hs
    exact fin J rv q
   | next=>
    obtain ⟨σ',H',J,q⟩:=hs
    exact fin (v:=V.non) (u:=Value.none) J rfl q
   | brk=>
    obtain ⟨_,_,_,q⟩:=hs
    exact False.elim q
   | cont=>
    obtain ⟨_,_,_,q⟩:=hs
    exact False.elim q
end
section
variable {X:Cx}{e:Expr}{es:List Expr}{pos:Pos}
theorem alQ {k n:Nat}{ps:List Str}{g:List PyData->Option PyData}{x:Str}{p:Pos}{fr:Rho->Option (List PyData)} (c:ab7 X.prog X.w X.K X.mg X.base x ps k n g) (hr:RoomH k X.A) (ha:PAD X (e::es) fr)
  (hl:∀ (ρ:Rho) (ds:List PyData),fr ρ=some ds->ds.length=n) (hn:(e::es).length=n:=by rfl) (hg:Gl X x:=by rfl) (hdb:(x == ("__debug__":Str))=false:=by decide) (he:starEach (e::es) X.env=(false,eval e X.env)::starEach es X.env:=by rfl)
  (hpl:(backTo pos (starEach es X.env)).any (·.1)=false:=by rfl):PD X (.Call (.Name x p) (e::es) [] pos) (jB g fr):=by
 with_unfolding_all
  obtain ⟨f,fd,F,hm,hk,hb⟩:=c
  have run:∀ {pins:List (Addr × Obj)} {σ:St} {H:Hp} {s:Shared} {Q:VK} {us:List Value} {vs:List V},Inv X pins σ H s->jG vs us->Pur X.K n g vs H Q (fun _ _ _=>False)->wpAny (model X.prog X.w) X.A (call (.ref f) us) (EP X pins σ Q) X.xe s:=by
   intro pins σ H s Q us vs I r h
   have hl:us.length=ps.length:=by rw [←r.length]; exact F.len _ _ _ _ h
   have hb':=hb s us I.kIn (by rw [List.append_nil]; exact hl)
   rw [List.append_nil] at hb'
   refine wpAny_call (codeAny_mono (F.run X.A X.stack s H ⟨us,[]⟩ us vs Q (fun _ _ _=>False) hr I.env0 hb' r h) fun r s' hq=>?_)
   cases r with
   | error e=>exact (aiA [] σ H s e s' (I.pins_of fun p hp=>nomatch hp) hq:X.xe e s')
   | ok fl=>
    cases fl with
    | ret u=>exact I.after hq
    | next=>exact False.elim hq
    | brk=>exact False.elim hq
    | cont=>exact False.elim hq
  have pc:PE X (.Call (.Name x p) (e::es) [] pos) (ao8 (Pur X.K n g) [] (fun _ _ _=>False) (tDA X.K fr)):=by
   intro pins s σ H Q I h
   refine wpAny_Call_Name_kw (aaq I hg hm ?_ hdb)
   refine PySem.W.callWith_K (h₀:=X.base) I.ok.mod.kin hk (thn (ha pos pins s σ H _ I h) fun us s1 ⟨vs,H1,I1,r,q⟩=>⟨I1.kIn,?_⟩) he hpl
   have q':Pur X.K n g (vs++[]) H1 Q (fun _ _ _=>False):=q
   rw [List.append_nil] at q'
   exact run I1 r q'
  refine PE.imp pc fun σ H Q ⟨ρ,d,en,q,k⟩=>?_
  cases h1:fr ρ with
  | none=>simp [jB,h1] at q
  | some ds=>
   refine ⟨ρ,ds,en,h1,fun vs H1 s1 r1=>?_⟩
   exact ⟨ds,d,by rw [hl ρ ds h1],by rw [List.append_nil]; exact r1,by simpa [jB,h1] using q,fun v H' s r=>k v H' (s1.trans s) r⟩
end
structure ExcK (K:PySem.W.Frag) (C:Addr):Prop where
 exc:PySem.W.excIn K C vB "ValueError.__new__"=true
 ga:PySem.W.findIn K (.ref C) "__getattribute__"=some (some (.builtin "BaseException.__getattribute__"))
 gt:PySem.W.findIn K (.ref C) "__getattr__"=some none
 cl:PySem.W.findIn K (.ref C) "__class__"=some (some (.builtin "object.__class__"))
 mo:PySem.W.mroIn K C (.type "object")=some true
 mb:PySem.W.mroIn K C (.type "BaseException")=some true
theorem agf {K:PySem.W.Frag}{C:Addr}{t:Value}{b:Bool} (h:PySem.W.mroIn K C t=some b):(PySem.W.clsIn K C).isSome=true:=by
 unfold PySem.W.mroIn at h
 cases hc:PySem.W.clsIn K C with
 | none=>rw [hc] at h; cases h
 | some cd=>rfl
theorem ExcK.ci {K:PySem.W.Frag}{C:Addr} (h:ExcK K C):(PySem.W.clsIn K C).isSome=true:=agf h.mo
structure ClsG (K:PySem.W.Frag):Prop where
 gt:PySem.W.specialIn K (.builtin "object.__class__") "__get__"=some (some (.builtin "getset_descriptor.__get__"))
 tk:PySem.W.takesIn K (.builtin "object.__class__")=some true
section
variable {prog:Program}{w:World}{A:Around}{E:Value->Shared->Prop}{s:Shared}{K:PySem.W.Frag}{a C:Addr}{oe:Obj}
theorem alR (hg:ClsG K) (hc:ExcK K C):PySem.W.findObj K C none "__class__"=some (.bind (.builtin "getset_descriptor.__get__") (.builtin "object.__class__")):=by
 obtain ⟨cd,h1⟩:=Option.isSome_iff_exists.mp hc.ci
 unfold PySem.W.findObj
 rw [h1,zzD,hc.cl,zzD]
 simp [hg.gt,hg.tk]
theorem aj5 {nameV:Value}{Q:Unit->Shared->Prop} (X:K.In s.heap) (hc:ExcK K C) (I:PySem.W.InstAt s.heap a oe C none) (hq:Q () s):wpAny (model prog w) A (checkBuiltinCall "BaseException.__getattribute__" ⟨[.ref a,nameV],[]⟩) Q E s:=by
 have hk:builtinKind "BaseException.__getattribute__"=some .slot:=by decide +kernel
 have hsplit:splitId "BaseException.__getattribute__"=some ("BaseException","__getattribute__"):=by decide +kernel
 have ha:=F.args_bexc_ga (.ref a) nameV
 have L0:=I.type (M:=model prog w)
 have L1:=PySem.W.looks_mroIn (M:=model prog w) X hc.mb
 obtain ⟨hh,g,d,t,os⟩:=s
 simp only [checkBuiltinCall,hk,hsplit]
 refine wpAny_bind ?_
 unfold isInstance
 repeat (first | with_reducible refine L0.at ?_ | with_reducible refine L1.at ?_ | wp_step)
 exact hq
theorem aj6 {tk:Tok}{Q:Fin->Shared->Prop} (X:K.In s.heap) (hg:ClsG K) (hc:ExcK K C) (I:PySem.W.InstAt s.heap a oe C none) (hq:Q (.done (.ret (.ref C))) s):
  wpAny (model prog w) A (Builtin.«object.__getattribute__» ⟨[.ref a,.str "__class__" tk],[]⟩) Q E s:=by
 have L0:=I.type (M:=model prog w)
 have L1:=PySem.W.looks_find (M:=model prog w) X I (alR hg hc)
 obtain ⟨hh,g,d,t,os⟩:=s
 refine wpAny_bind (wpAny_pure (wpAny_bind (wpAny_pure (wpAny_bind (L0.at (wpAny_bind (L1.at ?_)))))))
 show wpAny _ _ (holding [Value.builtin "object.__class__"] (call (.builtin "getset_descriptor.__get__") [.builtin "object.__class__",.ref a,.ref C]) >>= ret) _ _ _
 refine wpAny_bind (wpAny_holding (wpAny_call (PySem.W.class_get (ox:=oe) (od:=none) X I hc.mo ?_)))
 exact wpAny_pure hq
theorem anX {Q:Option Value->Shared->Prop} (X:K.In s.heap) (hg:ClsG K) (hc:ExcK K C) (I:PySem.W.InstAt s.heap a oe C none) (hq:Q (some (.ref C)) { s with toks:=s.toks+1 }):wpAny (model prog w) A (getAttr? (.ref a) "__class__") Q E s:=by
 have L0:=I.type (M:=model prog w)
 have L1:=PySem.W.looks_findIn (M:=model prog w) X hc.ga
 have L2:=PySem.W.looks_findIn (M:=model prog w) X hc.gt
 obtain ⟨hh,g,d,t,os⟩:=s
 unfold getAttr? getAttrBy? getAttrBy
 refine wpAny_bind (wpAny_mkText (wpAny_bind (wpAny_attempt (wpAny_holding (wpAny_bind (L0.at (wpAny_bind (L1.at ?_))))))))
 have hx2:(Value.builtin "BaseException.__getattribute__" == Value.builtin "object.__getattribute__")=false:=by decide +kernel
 have hx1:(onTheHeap (Value.ref C) && Value.builtin "BaseException.__getattribute__" == Value.builtin "object.__getattribute__")=false:=by rw [hx2]; rfl
 dsimp only
 rw [hx1]
 show wpAny _ _ (getAttrByItsOwn _ _ _ _ _ _) _ _ _
 unfold getAttrByItsOwn hookBefore
 rw [if_pos (show onTheHeap (Value.ref C)=true from rfl)]
 refine wpAny_bind (L2.at (wpAny_bind (wpAny_attempt (wpAny_holding ?_))))
 unfold callGetattribute
 rw [if_neg (by simp)]
 have f3:=PySem.F.attr_ValueError.ga.bind (.ref a)
 have fin:codeAny (model prog w) A (.call (.builtin "BaseException.__getattribute__") ⟨[.ref a,.str "__class__" t],[]⟩) (fun r s'=>match r with | .ok (.ret v)=>v= .ref C/\s'=⟨hh,g,d,t+1,os⟩ | _=>False) ⟨hh,g,d,t+1,os⟩:=
  codeAny_call_builtin PySem.F.attr_ValueError.ga.plain F.entry_bexc_ga (aj5 (s:=⟨hh,g,d,t+1,os⟩) X hc I (aj6 (s:=⟨hh,g,d,t+1,os⟩) X hg hc I ⟨rfl,rfl⟩))
 unfold boundAndCalled
 rw [f3]
 refine wpAny_bind (wpAny_pure (wpAny_call (codeAny_mono fin fun r s' hr=>?_)))
 cases r with
 | error e=>exact hr.elim
 | ok fl=>
  cases fl with
  | ret v=>
   obtain ⟨rfl,rfl⟩:=hr
   exact PySem.W.handed_on rfl (wpAny_pure hq)
  | next=>exact hr.elim
  | brk=>exact hr.elim
  | cont=>exact hr.elim
theorem alS (hg:ClsG K) (hc:ExcK K C):PySem.W.KitX K (.ref a) (.ref C) (fun h=>∃ oe,PySem.W.InstAt h a oe C none) where
 ty:=fun _ _ _ ⟨_,I⟩=>I.type
 it:=fun _ _ X _=>by
  obtain ⟨cdD,hcD⟩:=Option.isSome_iff_exists.mp hc.ci
  unfold PySem.W.clsIn at hcD
  split at hcD
  ·rename_i ho
   intro A' Q' E' s' k q
   unfold isType loadHead
   exact wpAny_bind (wpAny_loadPart (k _ _ (X _ _ ho)) (wpAny_pure q))
  ·cases hcD
 ne:=fun h tp dd its n sl X htp=>by
  obtain ⟨cdD,hcD⟩:=Option.isSome_iff_exists.mp hc.ci
  refine Bool.eq_false_iff.mpr fun q=>?_
  have e:C=tp:=Value.ref.inj (beq_iff_eq.mp q)
  subst e
  unfold PySem.W.clsIn at hcD
  split at hcD
  ·rename_i ho
   have z:=(X _ _ ho).symm.trans htp
   cases z
  ·cases hcD
 ca:=fun X ⟨_,I⟩ k=>anX X hg hc I k
end
noncomputable def adr (K:PySem.W.Frag) (c:Str):Option Addr:=match PySem.W.nsIn K mainGlobals c with
 | some (some (.ref C))=>some C
 | _=>none
theorem ap9 {K:PySem.W.Frag}{c:Str}{C:Addr} (h:PySem.W.nsIn K mainGlobals c=some (some (.ref C))):adr K c=some C:=by
 unfold adr; rw [h]
theorem aiV {K:PySem.W.Frag}{c:Str}{C:Addr} (h:adr K c=some C):PySem.W.nsIn K mainGlobals c=some (some (.ref C)):=by
 unfold adr at h
 split at h
 ·rename_i q; cases h; exact q
 ·cases h
noncomputable def aqa (K:PySem.W.Frag) (C:Addr):Bool:=PySem.W.excIn K C vB "ValueError.__new__" && ((PySem.W.findIn K (.ref C) "__getattribute__" == some (some (.builtin "BaseException.__getattribute__"))) && ((PySem.W.findIn K (.ref C) "__getattr__" == some none) && ((PySem.W.findIn K (.ref C) "__class__" == some (some (.builtin "object.__class__"))) && ((PySem.W.mroIn K C (.type "object") == some true) && (PySem.W.mroIn K C (.type "BaseException") == some true)))))
theorem alT {K:PySem.W.Frag}{C:Addr} (h:aqa K C=true):ExcK K C:=by
 unfold aqa at h
 simp only [Bool.and_eq_true,beq_iff_eq] at h
 obtain ⟨h1,h2,h3,h4,h5,h6⟩:=h
 exact ⟨h1,h2,h3,h4,h5,h6⟩
noncomputable def ae7 (K:PySem.W.Frag) (y:Str) (cs:List Str):Bool:=(PySem.W.specialIn K (.builtin "object.__class__") "__get__" == some (some (.builtin "getset_descriptor.__get__"))) && ((PySem.W.takesIn K (.builtin "object.__class__") == some true) && (match adr K y with
 | none=>false
 | some B=>(PySem.W.typeIn K (.ref B) == some (.type "type")) && ((PySem.W.mroIn K B (.type "BaseException") == some true) && cs.all fun c=>match adr K c with
  | none=>false
  | some C=>aqa K C && ((PySem.W.mroIn K C (.ref B) == some true) && ((PySem.W.kitOne K (.ref C) (.type "ValueError") == some true) && cs.all fun d=>match adr K d with
   | none=>false
   | some D=>PySem.W.kitOne K (.ref C) (.ref D) == some (c == d))))))
structure ErrT (K:PySem.W.Frag) (mg:Str->Option Value) (y:Str) (cs:List Str):Prop where
 tab:ae7 K y cs=true
 mgs:∀ c C,adr K c=some C->mg c=some (.ref C)
section
variable {K:PySem.W.Frag}{mg:Str->Option Value}{y:Str}{cs:List Str}
theorem ErrT.g (h:ErrT K mg y cs):ClsG K:=by
 have:=h.tab
 unfold ae7 at this
 simp only [Bool.and_eq_true,beq_iff_eq] at this
 exact ⟨this.1,this.2.1⟩
theorem ErrT.par (h:ErrT K mg y cs):∃ B,adr K y=some B/\mg y=some (.ref B)/\PySem.W.typeIn K (.ref B)=some (.type "type")/\PySem.W.mroIn K B (.type "BaseException")=some true/\
  ∀ c ∈ cs,∃ C,adr K c=some C/\mg c=some (.ref C)/\ExcK K C/\PySem.W.mroIn K C (.ref B)=some true/\PySem.W.kitOne K (.ref C) (.type "ValueError")=some true/\∀ d ∈ cs,∃ D,adr K d=some D/\mg d=some (.ref D)/\PySem.W.kitOne K (.ref C) (.ref D)=some (c == d):=by
 have q:=h.tab
 unfold ae7 at q
 simp only [Bool.and_eq_true,beq_iff_eq] at q
 obtain ⟨_,_,q⟩:=q
 cases hB:adr K y with
 | none=>rw [hB] at q; cases q
 | some B=>
  rw [hB] at q
  simp only [Bool.and_eq_true,beq_iff_eq,List.all_eq_true] at q
  obtain ⟨q1,q2,q3⟩:=q
  refine ⟨B,rfl,h.mgs y B hB,q1,q2,fun c hc=>?_⟩
  have z:=q3 c hc
  cases hC:adr K c with
  | none=>rw [hC] at z; cases z
  | some C=>
   rw [hC] at z
   simp only [Bool.and_eq_true,beq_iff_eq,List.all_eq_true] at z
   obtain ⟨z1,z2,z3,z4⟩:=z
   refine ⟨C,rfl,h.mgs c C hC,alT z1,z2,z3,fun d hd=>?_⟩
   have v:=z4 d hd
   cases hD:adr K d with
   | none=>rw [hD] at v; cases v
   | some D=>
    rw [hD] at v
    exact ⟨D,rfl,h.mgs d D hD,beq_iff_eq.mp v⟩
theorem ErrT.err (h:ErrT K mg y cs) {c:Str} (hc:c ∈ cs):ajX K mg c:=by
 obtain ⟨B,_,_,_,_,q⟩:=h.par
 obtain ⟨C,_,q2,q3,_⟩:=q c hc
 exact ⟨C,q2,q3.exc⟩
end
noncomputable def ad6:PyData->Option Str
 | .dict [(.str c,.bool true)]=>some c
 | _=>none
theorem agg {d:PyData}{c:Str} (h:ad6 d=some c):d=Jb c:=by
 unfold ad6 at h
 split at h
 ·cases h; rfl
 ·cases h
@[simp] theorem aqb (c:Str):ad6 (Jb c)=some c:=rfl
theorem alU {K:PySem.W.Frag}{H:Hp}{x:Str}{v:V} (h:Rep K H (Jb x) v):∃ a C oe,v= .ref a/\H a=some (.frz oe (.own a))/\PySem.W.nsIn K mainGlobals x=some (some (.ref C))/\oe.cls= .ref C/\oe.dict=none/\∃ vs,oe.data= .fields vs:=by
 obtain ⟨a,h1,⟨ns,h2,h3⟩ | ⟨ks,ob,h2,h3⟩ | ⟨y,h2,_⟩ | ⟨y,C,oe,h2,h3,h4,h5⟩⟩:=h
 ·cases ns with
  | nil=>cases h3
  | cons n ns=>cases h3
 ·exact h3.elim
 ·cases h2
 ·cases h2
  exact ⟨a,C,oe,h1,h3,h4,h5⟩
noncomputable def aj7 (cs:List Str) (f:Str->Bool) (d:PyData):Option PyData:=(ad6 d).bind fun c=>if c ∈ cs then some (.bool (f c)) else none
section
variable {X:Cx}{a:Expr}{fa:Rho->Option PyData}{pos p p2:Pos}{y:Str}{cs:List Str}
noncomputable def arz (K:PySem.W.Frag) (w:V):List V->Hp->VK->Prop:=fun xs H Q=>∃ x c C b,xs=[x,w]/\Rep K H (Jb c) x/\adr K c=some C/\ExcK K C/\(∀ u,jP w u->PySem.W.kitOne K (.ref C) u=some b)/\Q (.bl b) H
theorem ad7 {w:V} (G:ClsG X.K):ze X (.builtin "isinstance") (arz X.K w):=by
 intro pins s σ H xs us Q I r ⟨x,c,C,b,e,h1,hC,hK,h2,q⟩
 subst e
 obtain ⟨u,w',rfl,r1,r2⟩:=afU r
 obtain ⟨a,C',oe,rfl,e2,e3,e4,e5,vs,e6⟩:=alU h1
 have:=ap9 e3
 rw [hC] at this; cases this
 cases (show u=Value.ref a from r1)
 have at':s.heap.get? a=some oe:=(I.hok _ _ e2).1
 exact PySem.W.kia_one (alS G hK) I.kIn ⟨oe,at',e4,by unfold PySem.W.notCls; rw [e6],by rw [e5]; trivial⟩ (h2 w' r2) (fun z=>nomatch z) fun tk=>⟨.bl b,H,I.tok tk,rfl,q⟩
theorem ZC {T:Str} (hE:ErrT X.K X.mg y cs) (hm1:X.mg "isinstance"=none) (ha:PD X a fa) (hT:T ∈ cs:=by decide) (hg1:Gl X "isinstance":=by rfl) (hg2:Gl X T:=by rfl) (hd:(T == ("__debug__":Str))=false:=by decide)
  (he:starEach [a,.Name T p2] X.env=[(false,eval a X.env),(false,eval (.Name T p2) X.env)]:=by rfl) (he2:starEach [.Name T p2] X.env=[(false,eval (.Name T p2) X.env)]:=by rfl) (hpl:(backTo pos (starEach [.Name T p2] X.env)).any (·.1)=false:=by rfl):
  PD X (.Call (.Name "isinstance" p) [a,.Name T p2] [] pos) (fun ρ=>(fa ρ).bind (aj7 cs fun c=>c == T)):=by
 with_unfolding_all
  obtain ⟨B,_,_,_,_,par⟩:=hE.par
  obtain ⟨D,d1,d2,_⟩:=par T hT
  have hT2:PE X (.Name T p2) (tC (.ref D)):=ab2 hg2 d2 rfl hd
  refine PE.imp (aas (ad7 (w:= .ref D) hE.g) hg1 hm1 (by decide +kernel) (qm ha (qm hT2 zL (by rw [he2]; rfl)) (by rw [he,he2])) (by decide) (by decide) (by rw [he,he2]) hpl) fun σ H Q ⟨ρ,d,en,q,k⟩=>?_
  cases h1:fa ρ with
  | none=>simp [h1] at q
  | some c0=>
   have q':aj7 cs (fun c=>c == T) c0=some d:=by simpa [h1] using q
   unfold aj7 at q'
   cases h2:ad6 c0 with
   | none=>rw [h2] at q'; cases q'
   | some c=>
    rw [h2,zzD] at q'
    by_cases hc:c ∈ cs
    ·rw [if_pos hc] at q'
     cases q'
     have:=agg h2
     subst this
     obtain ⟨C,c1,c2,c3,c4,c5,c6⟩:=par c hc
     obtain ⟨D',d1',d2',d3'⟩:=c6 T hT
     rw [d1] at d1'; cases d1'
     exact ⟨ρ,_,en,h1,fun v H1 s1 r1=>⟨v,c,C,_,rfl,r1,c1,c3,fun u ru=>by cases (show u=Value.ref D from ru); exact d3',k _ H1 s1 rfl⟩⟩
    ·rw [if_neg hc] at q'; cases q'
theorem anY (hE:ErrT X.K X.mg y cs) (hm1:X.mg "isinstance"=none) (hm2:X.mg "ValueError"=none) (ha:PD X a fa) (hg1:Gl X "isinstance":=by rfl) (hg2:Gl X "ValueError":=by rfl)
  (he:starEach [a,.Name "ValueError" p2] X.env=[(false,eval a X.env),(false,eval (.Name "ValueError" p2) X.env)]:=by rfl) (he2:starEach [.Name "ValueError" p2] X.env=[(false,eval (.Name "ValueError" p2) X.env)]:=by rfl) (hpl:(backTo pos (starEach [.Name "ValueError" p2] X.env)).any (·.1)=false:=by rfl):
  PD X (.Call (.Name "isinstance" p) [a,.Name "ValueError" p2] [] pos) (fun ρ=>(fa ρ).bind (aj7 cs fun _=>true)):=by
 with_unfolding_all
  obtain ⟨B,_,_,_,_,par⟩:=hE.par
  have hT2:PE X (.Name "ValueError" p2) (tC (.ty "ValueError")):=ait hg2 hm2 (u:= .type "ValueError") (by decide +kernel) rfl (by decide) (by decide)
  refine PE.imp (aas (ad7 (w:= .ty "ValueError") hE.g) hg1 hm1 (by decide +kernel) (qm ha (qm hT2 zL (by rw [he2]; rfl)) (by rw [he,he2])) (by decide) (by decide) (by rw [he,he2]) hpl) fun σ H Q ⟨ρ,d,en,q,k⟩=>?_
  cases h1:fa ρ with
  | none=>simp [h1] at q
  | some c0=>
   have q':aj7 cs (fun _=>true) c0=some d:=by simpa [h1] using q
   unfold aj7 at q'
   cases h2:ad6 c0 with
   | none=>rw [h2] at q'; cases q'
   | some c=>
    rw [h2,zzD] at q'
    by_cases hc:c ∈ cs
    ·rw [if_pos hc] at q'
     cases q'
     have:=agg h2
     subst this
     obtain ⟨C,c1,c2,c3,c4,c5,c6⟩:=par c hc
     exact ⟨ρ,_,en,h1,fun v H1 s1 r1=>⟨v,c,C,_,rfl,r1,c1,c3,fun u ru=>by cases (show u=Value.type "ValueError" from ru); exact c5,k _ H1 s1 rfl⟩⟩
    ·rw [if_neg hc] at q'; cases q'
end
section
variable {X:Cx}{σ:St}{H:Hp}{s:Shared}{e C:Addr}
theorem Inv.take {oe:Obj} (I:Inv X [] σ H s) (m:Mine X H e) (he:s.heap.get? e=some oe):Inv X [] σ (upd H e (.frz oe (.own e))) s/\jq H (upd H e (.frz oe (.own e))):=by
 have ne:∀ b o,H b=some o->b ≠ e:=fun b o q z=>by subst z; rw [m.un] at q; cases q
 have sm:jq H (upd H e (.frz oe (.own e))):=fun b o q=>by rw [jn (ne b o q)]; exact q
 have u:Un (frs X.stack) [e] H (upd H e (.frz oe (.own e))) s.heap s.heap:=⟨fun b o q _ _ _=>q,fun b o q _ _ _=>⟨o.slots,q⟩,fun b o q n nc=>by rw [jn (fun z=>nc (by simp [z]))]; exact n,fun b o q _=>⟨o,q⟩,fun b xs q=>sm b _ q,fun b o v q=>sm b _ q,fun b ps q=>⟨#[],by rw [sm b _ q]; simp⟩⟩
 have hok:HOk X.prog X.w (upd H e (.frz oe (.own e))) s.heap:=fun b o q=>by
  by_cases hb:b=e
  ·subst hb
   rw [jr] at q; cases q
   exact ⟨he,_,he⟩
  ·rw [jn hb] at q
   exact (I.hok b o q).stay (fun c v hc r=>r) (fun c r=>sm _ _ r) fun c v r=>sm _ _ r
 refine ⟨?_,sm⟩
 have J:=Inv.call (X:={ X with ex:=[e]++X.ex }) (g':=s.gens) (d':=s.drawn) (t':=s.toks) (Inv.exIn I fun b hb=>by rw [List.mem_singleton.mp hb]; exact ⟨m.new,m.loc,m.cel⟩) u hok I.bare fun b hb=>by
  rw [List.mem_singleton.mp hb]
  exact ⟨.inl (List.mem_append_left _ (by simp)),m.loc,m.cel,fun p hp=>m.pin p (by simpa using hp)⟩
 exact Inv.exOut J I.ok fun b hb=>by rw [List.mem_singleton.mp hb]; exact m.new
theorem anZ {M:Model}{A:Around}{E:Value->Shared->Prop}{x:Str}{pos:Pos}{Q:Unit->Shared->Prop} (I:Inv X [] σ H s) (hl:X.env.kindOf x=some .local) (h:∀ s',Inv X [] (List.replicate σ.length none) H s'->Q () s'):
  wpAny M A (do bindName X.env x .none; unbindBehindTheSuite X.env x pos) Q E s:=by
 obtain ⟨m,hn,_⟩:=id I.loc
 have hcls:(X.env.scope.kind == .class || (X.env.scope.kind == .module && X.env.locals != X.env.globals))=false:=by rw [I.ok.kind]; rfl
 have cne:=I.cne
 refine wpAny_nameGoes hl hn hcls fun h' m' hn' hs=>?_
 obtain ⟨oL,_,_,hoL,_⟩:=id hn
 have tracked:HOk X.prog X.w H h':=fun b ob e=>by
  refine (I.hok b ob e).stay (fun c w' hc q=>(hs.2 c ?_).trans q) (fun _ q=>q) fun _ _ q=>q
  rintro rfl
  rcases hc with rfl | hc
  ·rw [I.free] at e; cases e
  ·rw [I.free] at hc; cases hc
 refine h _ ⟨I.ok,I.os,I.bare,⟨fun b o e n hb hx=>?_,fun b o e n hb hx=>?_,I.base.free,fun b o e hx=>?_,I.base.tups,I.base.frzs,I.base.tbls⟩,⟨_,hn',fun j y v' e1 e2 e3=>?_⟩,fun y c e=>?_,I.free,I.freeC,fun p hp=>?_,tracked,by simpa using I.len⟩
 ·exact (hs.2 b (Nat.ne_of_lt (Nat.lt_of_lt_of_le (Heap.lt_size e) I.ok.above))).trans (I.base.keep b o e n hb hx)
 ·obtain ⟨sl,e1⟩:=I.base.slot b o e n hb hx
  exact ⟨sl,(hs.2 b (Nat.ne_of_lt (Nat.lt_of_lt_of_le (Heap.lt_size e) I.ok.above))).trans e1⟩
 ·obtain ⟨o',e1⟩:=I.base.there b o e hx
  exact ⟨o',(hs.2 b (Nat.ne_of_lt (Nat.lt_of_lt_of_le (Heap.lt_size e) I.ok.above))).trans e1⟩
 ·rw [List.getElem?_replicate] at e2
  split at e2 <;> cases e2
 ·obtain ⟨w',z⟩:=I.cell y c e
  exact ⟨w',z.sameBut hs (cne y c e)⟩
 ·obtain ⟨e,n,ne,nf,d⟩:=I.pin p hp
  exact ⟨(hs.2 p.1 ne).trans e,n,ne,nf,d⟩
theorem agh {M:Model}{A:Around}{E:Value->Shared->Prop}{K:PySem.W.Frag}{B:Addr}{oe:Obj}{Q:Bool->Shared->Prop} (X:K.In s.heap) (he:s.heap.get? e=some oe) (hc:oe.cls= .ref C)
  (ht:PySem.W.typeIn K (.ref B)=some (.type "type")) (hB:PySem.W.mroIn K B (.type "BaseException")=some true) (hm:PySem.W.mroIn K C (.ref B)=some true) (hq:Q true s):wpAny M A (excMatches (.ref e) (.ref B)) Q E s:=by
 have L0:=PySem.W.looks_typeIn (M:=M) X ht
 have L1:=PySem.W.looks_mroIn (M:=M) X hB
 have L2':=PySem.W.looks_mroIn (M:=M) X hm
 have Lt:PySem.W.Looks M s.heap (isType (.ref B)) true:=by
  obtain ⟨cdD,hcD⟩:=Option.isSome_iff_exists.mp (agf hB)
  unfold PySem.W.clsIn at hcD
  split at hcD
  ·rename_i ho
   intro A' Q' E' s' k q
   unfold isType loadHead
   exact wpAny_bind (wpAny_loadPart (k _ _ (X _ _ ho)) (wpAny_pure q))
  ·cases hcD
 have f:=tc_notTuple
 obtain ⟨hp,g,d,tk,os⟩:=s
 unfold excMatches isInstance isExcClass
 repeat (first | (with_reducible refine wpAny_loadPart_at he ?_; rw [hc]) | with_reducible refine L0.at ?_ | with_reducible refine L1.at ?_ | with_reducible refine L2'.at ?_ | with_reducible refine Lt.at ?_ | wp_step)
 exact hq
end
noncomputable def Zf (n i:Nat) (cs:List Str) (F:Rho->Option Out) (fx:Rho->Option Str) (G:Rho->Option Out):Rho->Option Out:=fun ρ=>match F ρ with
 | some o=>some o
 | none=>match fx ρ with
  | some c=>if c ∈ cs then (match G ((Z6 n).set i (some (Jb c))) with
   | some (.rt d)=>some (.rt d)
   | _=>none) else none
  | none=>none
section
variable {X:Cx}{st b0:Stmt}{sts j5 tb hb:List Stmt}{F G:Rho->Option Out}{fx:Rho->Option Str}{pos:Pos}
theorem alV {y x:Str}{np hpos:Pos}{n:Nat}{cs:List Str} (i:Nat) (T0:Top0 X) (hN:X.N.length=n) (hnd:X.N.Nodup) (hE:ErrT X.K X.mg y cs) (hn:∀ E,Z2 (X.wish E) tb F) (hx:∀ E,ab1 (X.wish E) tb fx) (hh:∀ e,Z2 (hX X e) (b0::hb) G)
  (hi:X.N[i]?=some x:=by rfl) (hl:X.env.kindOf x=some .local:=by rfl) (hlk:X.env.scope.names.lookup x=some .local:=by rfl) (hg:Gl X y:=by rfl) (hdb:(y == ("__debug__":Str))=false:=by decide):PS0 X (.Try tb [.ExceptHandler (some (.Name y np)) (some x) (b0::hb) hpos] [] [] pos) (Zf n i cs F fx G):=by
 with_unfolding_all
  intro s σ H D I ⟨ρ,o,en,q,k⟩
  refine wpAny_Try_except ?_
  let E':Value->Shared->Prop:=fun ev s1=>wpAny (model X.prog X.w) X.A (noteFrame ev X.env) (fun _ s₂=>wpAny (model X.prog X.w) X.A (setFlight ev none) (fun _ s₃=>wpAny (model X.prog X.w) X.A (handleBy ev X.env [.ExceptHandler (some (.Name y np)) (some x) (b0::hb) hpos]) (SP X [] D) X.xe s₃) X.xe s₂) X.xe s1
  cases hF:F ρ with
  | some o1=>
   have e1:o1=o:=by simpa [Zf,hF] using q
   subst e1
   refine wpAny_mono (hn E' [] s σ H D (I.wish E') ⟨ρ,o1,en,hF,k⟩) (fun f s1 z=>?_) fun _ _ z=>z
   have z':=SP.unwish z
   cases f with
   | next=>exact wpAny_execs_nil z'
   | brk=>exact z'
   | cont=>exact z'
   | ret u=>exact z'
  | none=>
   cases hc:fx ρ with
   | none=>simp [Zf,hF,hc] at q
   | some c=>
    by_cases hy:c ∈ cs
    ·cases hG:G ((Z6 n).set i (some (Jb c))) with
     | none=>simp [Zf,hF,hc,hy,hG] at q
     | some o1=>
     cases o1 with
     | nx ρ1=>simp [Zf,hF,hc,hy,hG] at q
     | bk ρ1=>simp [Zf,hF,hc,hy,hG] at q
     | ct ρ1=>simp [Zf,hF,hc,hy,hG] at q
     | rt d=>
     have q':Out.rt d=o:=by simpa [Zf,hF,hc,hy,hG] using q
     subst q'
     obtain ⟨B,aB,mB,tB,bB,par⟩:=hE.par
     obtain ⟨C',aC,mC,xC,pC,_⟩:=par c hy
     refine wpAny_mono (hx E' s σ H ρ c (I.wish E') en hc fun ev s1 t=>?_) (fun _ _ z=>z.elim) fun _ _ z=>z
     obtain ⟨e,C,σ1,H1,rfl,hm,J,sm,xc⟩:=t
     have J0:=J.unwish
     have x0:=xc.unwish
     show wpAny _ X.A (noteFrame (.ref e) X.env) _ _ s1
     refine wpAny_mono (ae2 (E:=fun _ _=>False) T0 J0.ok.frames J0 x0) (fun _ s2 ⟨J2,t2⟩=>?_) fun _ _ z=>z.elim
     refine wpAny_mono (Ql (E:=fun _ _=>False) none J2 t2) (fun _ s3 ⟨J3,t3⟩=>?_) fun _ _ z=>z.elim
     have ok:=J3.ok
     have hm0:X.mg c=some (.ref C):=hm
     rw [hm0] at mC; cases mC
     have fr:(X.A.mark (some (.ref e))).frames=some X.stack:=ok.frames
     have J4:Inv (hX X e) [] σ1 H1 s3:=Inv.asA J3 fr (fun z=>nomatch z)
     refine wpAny_handleBy_cons (codeAny_handlers_test ?_) (fun z=>nomatch z)
     refine aaq (X:=hX X e) J4 hg mB ?_ hdb
     obtain ⟨oe,ws,T,oT,ts,g1,g2,g3,g4,g5,g6,g7,g8,g9⟩:=id t3.ob
     refine agh J4.kIn g1 g2.1 tB bB pC ?_
     refine codeAny_handlers_suite_as ?_
     refine wpAny_mono (Ql (A:=X.A.mark (some (.ref e))) (E:=fun _ _=>False) none J3 t3) (fun _ s5 ⟨J5,t5⟩=>?_) fun _ _ z=>z.elim
     obtain ⟨oe5,ws5,T5,oT5,ts5,g51,g52,g53,_⟩:=id t5.ob
     obtain ⟨J6,sm6⟩:=Inv.take J5 t5.mine g51
     have J7:Inv (hX X e) [] σ1 (upd H1 e (.frz oe5 (.own e))) s5:=Inv.asA J6 fr (fun z=>nomatch z)
     have hlen:σ1.length=n:=by rw [←hN,←J5.len]
     refine acs (X:=hX X e) J7 hnd hi (.inl hlk) (v:= .ref e) rfl (fun s6 J8=>?_) (.inr hlk)
     have re:Rep X.K (upd H1 e (.frz oe5 (.own e))) (Jb c) (.ref e):=⟨e,rfl,.inr (.inr (.inr ⟨c,_,oe5,rfl,jr,aiV aC,g52.1,g52.2,ws5,g53⟩))⟩
     have eb:EnvR X.K (upd H1 e (.frz oe5 (.own e))) ((Z6 n).set i (some (Jb c))) (σ1.set i (some (.ref e))):=by
      refine ⟨by simp [Z6,hlen],fun j d qd=>?_⟩
      by_cases hj:j=i
      ·subst hj
       rw [List.getElem?_set_self (by simp only [Z6,List.length_replicate]; rw [←hN]; exact (List.getElem?_eq_some_iff.mp hi).1)] at qd
       cases qd
       exact ⟨.ref e,List.getElem?_set_self (by rw [hlen,←hN]; exact (List.getElem?_eq_some_iff.mp hi).1),re⟩
      ·rw [List.getElem?_set_ne (Ne.symm hj)] at qd
       simp [Z6,List.getElem?_replicate] at qd
     refine wpAny_mono (hh e [] s6 _ _ { D with nx:=fun _ _=>False,bk:=fun _ _=>False,ct:=fun _ _=>False } J8 ⟨_,.rt d,eb,hG,fun v H' sm' r=>k v H' ((sm.trans sm6).trans sm') r⟩) (fun f s7 z=>?_) fun _ _ z=>z.elim
     have z':=SP.ofA J5.ok z
     cases f with
     | next=>obtain ⟨_,_,_,z⟩:=z'; exact z.elim
     | brk=>obtain ⟨_,_,_,z⟩:=z'; exact z.elim
     | cont=>obtain ⟨_,_,_,z⟩:=z'; exact z.elim
     | ret u=>
      obtain ⟨v,σ',H',I',r,z⟩:=z'
      exact anZ I' hl fun s8 I8=>⟨v,_,H',I8,r,z⟩
    ·simp [Zf,hF,hc,hy] at q
end
noncomputable def ae8 {α:Type} (K:PySem.W.Frag) (enc:α->PyData) (rk:α->Int) (ok:α->Prop):List V->Hp->VK->Prop:=fun vs H Q=>∃ a xs ps,vs=[.ref a]/\H a=some (.lst xs)/\Reps K H (ps.map enc) xs/\ps.length < 64/\(∀ p ∈ ps,ok p)/\
 ∀ qs:List α,qs.Perm ps->qs.Pairwise (fun a b=>rk a<=rk b)->∀ l ys,H l=none->Reps K H (qs.map enc) ys->Q (.ref l) (upd H l (.lst ys))
theorem acZ {X:Cx}{α:Type} (z0:α) (enc:α->PyData) (rk:α->Int) (T:Value) (ok:α->Prop) (At:Heap->Value->α->Prop)
  (hat:∀ {pins:List (Addr × Obj)} {σ:St} {H:Hp} {s:Shared} {v:V} {x:α} {u:Value} {h':Heap},Inv X pins σ H s->ok x->Rep X.K H (enc x) v->jP v u->(∀ b o,b ≠ X.env.locals->s.heap.get? b=some o->h'.get? b=some o)->At h' u x)
  (hfirst:∀ {h:Heap} {u:Value} {x:α},ok x->At h u x->∃ a o xs n f,u= .ref a/\h.get? a=some o/\o.cls= .type "tuple"/\o.data= .seq xs n/\xs[0]?=some f/\∀ M,PySem.W.Looks M h (typeOf f) T)
  (hT:(T == T)=true)
  (hlt:∀ {s:Shared} {u v:Value} {x y:α} {Q:Bool->Shared->Prop} {E:Value->Shared->Prop},ok x->ok y->At s.heap u x->At s.heap v y->Q (decide (rk x < rk y)) s->wpAny (model X.prog X.w) X.A.in1.in1 (keyLt' (tuples' (T != Value.type "tuple")) u v) Q E s):
  ze X (.builtin "sorted") (ae8 X.K enc rk ok):=by
 intro pins s σ H vs us0 Q I r ⟨a,xs,ps,e,hl,hR,h64,hB,q⟩
 subst e
 obtain ⟨u,rfl,rx⟩:=Z3 r
 cases rx
 obtain ⟨us,rv,pl,hz⟩:=I.list (SqL.of (K:=X.K) hl)
 have l1:=hR.length
 have l2:=rv.length
 rw [List.length_map] at l1
 by_cases h2:us.length < 2
 ·refine ahH pl.isList h2 fun h' D c kp ho hD=>?_
  have hps:ps.Pairwise (fun a b=>rk a<=rk b):=aeW (by omega)
  refine ⟨.ref D,upd H D (.lst xs),I.laid (t':=s.toks) kp hD ⟨hz,us,c,rv,ho⟩,rfl,q ps (List.Perm.refl _) hps D xs (I.hok.fresh hD) hR⟩
 ·obtain ⟨m,F⟩:=I.fr
  have ge2:2<=us.length:=by omega
  have lt64:us.length < 64:=by omega
  refine PySem.W.kat_sorted (h₀:=X.base) (L:=X.env.locals) (m:=m) (news:=JI X.base s.heap X.env.locals) (vs:=us) (l:=a) F akN pl.isList ge2 lt64 ?_
  intro D e1 h' F' N' hlt'
  have nD:=N' (D,seqObj "list" #[] e1) List.mem_cons_self
  have kpb:∀ {h2:Heap},Fr X.base X.env.locals h2 m->(∀ p ∈ JI X.base s.heap X.env.locals,h2.get? p.1=some p.2)->∀ b o,b ≠ X.env.locals->s.heap.get? b=some o->h2.get? b=some o:=fun {h2} F2 N2 b o hb e=>by
   cases e3:X.base.get? b with
   | some u=>have:=F.keep b u e3; rw [e] at this; cases this; exact F2.keep b _ e3
   | none=>exact N2 (b,o) (abF hb e3 e)
  have kp1:=kpb F' fun p hp=>(N' p (List.mem_cons_of_mem _ hp)).1
  have freshD:s.heap.get? D=none:=by
   cases e3:s.heap.get? D with
   | none=>rfl
   | some o=>exact absurd (hlt' (D,o) (abF nD.2.1 nD.2.2 e3)) (Nat.lt_irrefl _)
  have pr:∀ i (hi:i < ps.length),At h' (us.getD i Value.none) ps[i]:=fun i hi=>by
   obtain ⟨x,ex,er⟩:=hR.get (show (ps.map enc)[i]?=some (enc ps[i]) by simp [hi])
   obtain ⟨v,ev,rv2⟩:=rv.get ex
   rw [getD_some ev]
   exact hat I (hB _ (List.getElem_mem _)) er rv2 kp1
  have hu:us.length=ps.length:=by omega
  have kt:∃ fs:List Value,PySem.W.KatTups h' us fs/\fs.length=us.length/\∀ v ∈ fs,∀ M,PySem.W.Looks M h' (typeOf v) T:=by
   have go:∀ (n:Nat) (ws:List Value),us.drop n=ws->∃ fs:List Value,PySem.W.KatTups h' ws fs/\fs.length=ws.length/\∀ v ∈ fs,∀ M,PySem.W.Looks M h' (typeOf v) T:=by
    intro n ws
    induction ws generalizing n with
    | nil=>intro _; exact ⟨[],trivial,rfl,fun v hv=>nomatch hv⟩
    | cons w ws ih=>
     intro hd
     have hn:us[n]?=some w:=by
      have:(us.drop n)[0]?=some w:=by rw [hd]; rfl
      simpa using this
     have hd':us.drop (n+1)=ws:=by
      have:(us.drop n).drop 1=ws:=by rw [hd]; rfl
      simpa [List.drop_drop,Nat.add_comm] using this
     obtain ⟨fs,t1,t2,t3⟩:=ih (n+1) hd'
     have hlt2:n < ps.length:=by
      have:=(List.getElem?_eq_some_iff.mp hn).1
      omega
     obtain ⟨a2,o,ys,k,f,e1,e2,e3,e4,e5,e6⟩:=hfirst (hB _ (List.getElem_mem _)) (pr n hlt2)
     rw [getD_some hn] at e1
     subst e1
     refine ⟨f::fs,PySem.W.KatTups.cons e2 e3 e4 e5 t1,by simp [t2],fun v hv=>?_⟩
     rcases List.mem_cons.mp hv with rfl | hv
     ·exact e6
     ·exact t3 v hv
   exact go 0 us rfl
  obtain ⟨fs,t1,t2,t3⟩:=kt
  refine PySem.W.kat_kind (s:={ s with heap:=h' }) (T:=T) t1 (by omega) (fun v hv=>t3 v hv _) hT ?_
  show (PySem.W.kas_sort us.length).kasWp (PySem.W.kas_ask X.prog X.w X.A.in1.in1 (tuples' (T != Value.type "tuple")) us) _ { s with heap:=h' }
  refine Srt.sort_ok (rk:=fun i=>rk (ps.getD i z0)) (n:=us.length) (s:={ s with heap:=h' }) (fun i j C hi hj hC=>?_) (by omega) fun p hp hs=>?_
  ·have g1:ps.getD i z0=ps[i]'(by omega):=getD_some (List.getElem?_eq_getElem _)
   have g2:ps.getD j z0=ps[j]'(by omega):=getD_some (List.getElem?_eq_getElem _)
   simp only [g1,g2] at hC
   exact hlt (s:={ s with heap:=h' }) (hB _ (List.getElem_mem _)) (hB _ (List.getElem_mem _)) (pr i (by omega)) (pr j (by omega)) hC
  ·have mem:∀ i ∈ p.toList,i < us.length:=fun i hi=>by
    have:i ∈ (List.range us.length).toArray:=hp.mem_iff.mp (by simpa using hi)
    simpa using this
   have permN:p.toList.Perm (List.range us.length):=by simpa using hp.toList
   refine PySem.W.KasFin.intro (news:=(D,seqObj "list" #[] e1)::JI X.base s.heap X.env.locals) (g:=fun o'=>(D,o')::JI X.base s.heap X.env.locals) F' N' (.head fun z hz=>Nat.ne_of_lt (hlt' z hz)) fun h2 c F2 N2=>?_
   have kp2:=kpb F2 fun z hz=>(N2 z (List.mem_cons_of_mem _ hz)).1
   have hD2:=(N2 (D,PySem.W.listOf (List.toArray (p.toList.map fun i=>us.getD i Value.none)) c) List.mem_cons_self).1
   have hln:(p.toList.map fun i=>xs.getD i V.non).length<=sizeLine:=by
    rw [List.length_map,permN.length_eq,List.length_range,sizeLine_eq]; omega
   have I2:=Inv.grownL (ys:=p.toList.map fun i=>xs.getD i V.non) I F.ns F2.ns kp2 freshD hD2 (ajL rv _ mem) hln
   have nH:H D=none:=by
    cases e3:H D with
    | none=>rfl
    | some o=>obtain ⟨u,z⟩:=qt.there (I.hok D o e3); rw [freshD] at z; cases z
   have eqs:(p.toList.map fun i=>(ps.map enc).getD i PyData.none)=(p.toList.map fun i=>ps.getD i z0).map enc:=by
    rw [List.map_map]
    refine List.map_congr_left fun i hi=>?_
    have hi':=mem i hi
    have g1:ps.getD i z0=ps[i]'(by omega):=getD_some (List.getElem?_eq_getElem _)
    show (ps.map enc).getD i PyData.none=enc (ps.getD i z0)
    rw [g1]
    refine getD_some ?_
    rw [List.getElem?_map,List.getElem?_eq_getElem (show i < ps.length by omega)]
    rfl
   have rp:=ajM hR p.toList fun i hi=>by rw [List.length_map]; have:=mem i hi; omega
   rw [eqs] at rp
   refine ⟨.ref D,_,I2,rfl,q _ ?_ ?_ D _ nH rp⟩
   ·have e5:(List.range us.length).map (fun i=>ps.getD i z0)=ps:=by
     apply List.ext_getElem?
     intro i
     rw [List.getElem?_map]
     by_cases hi:i < us.length
     ·rw [List.getElem?_range hi,List.getElem?_eq_getElem (show i < ps.length by omega)]
      show some (ps.getD i z0)=_
      rw [getD_some (List.getElem?_eq_getElem (show i < ps.length by omega))]
     ·rw [List.getElem?_eq_none_iff.mpr (show (List.range us.length).length<=i by rw [List.length_range]; omega),List.getElem?_eq_none_iff.mpr (show ps.length<=i by omega)]
      rfl
    have:=permN.map (fun i=>ps.getD i z0)
    rw [e5] at this
    exact this
   ·rw [List.pairwise_map]
    rw [List.pairwise_iff_getElem]
    intro i j hi hj hij
    have hps:p.size=us.length:=hp.size
    have hi':i < p.size:=by simpa using hi
    have hj':j < p.size:=by simpa using hj
    have:=hs i j (Nat.le_of_lt hij) (by omega)
    simp only [Srt.val] at this
    have g1:p.getD i 0=p.toList[i]:=by simp [Array.getD,hi']
    have g2:p.getD j 0=p.toList[j]:=by simp [Array.getD,hj']
    rw [g1,g2] at this
    exact this
noncomputable abbrev aaB:=Int × (Int × Int)
noncomputable def Z7 (t:aaB):PyData:= .tuple [.int t.1,qP t.2]
noncomputable def qk (t:aaB):Int:=t.1*1000000000000+t.2.1*1000000+t.2.2
noncomputable def inT (t:aaB):Bool:=decide (0<=t.2.1) && decide (t.2.1 < 1000000) && inB t.2
theorem alW {p q:aaB} (hp:inT p=true) (hq:inT q=true):(qk p < qk q) ↔ (p.1 < q.1 ∨ (p.1=q.1/\(p.2.1 < q.2.1 ∨ (p.2.1=q.2.1/\p.2.2 < q.2.2)))):=by
 simp only [inT,inB,Bool.and_eq_true,decide_eq_true_eq] at hp hq
 unfold qk
 omega
structure TripAt (h:Heap) (u:Value) (t:aaB):Prop where
 ex:∃ a o k tk a2,u= .ref a/\h.get? a=some o/\o.cls= .type "tuple"/\o.data= .seq #[.int t.1 tk,.ref a2] k/\PairAt h (.ref a2) t.2
theorem QI {h:Heap}{a:Addr}{p:Int × Int} (x:PairAt h (.ref a) p):Reads h (.ref a) (qP p) []:=by
 obtain ⟨b,o,k,t,t',e1,e2,e3,e4⟩:=x.ex
 cases e1
 exact .tuple e2 e3 e4 (.cons (.int _ t) (.cons (.int _ t') .nil))
theorem QJ {h:Heap}{a:Addr}{p:Int × Int} (x:PairAt h (.ref a) p):∃ t t',IsTup h a #[.int p.1 t,.int p.2 t']:=by
 obtain ⟨b,o,k,t,t',e1,e2,e3,e4⟩:=x.ex
 cases e1
 exact ⟨t,t',o,e2,e3,k,e4⟩
theorem agi (p q:Int × Int):PyData.eqv (qP p) (qP q)=decide (p.1=q.1/\p.2=q.2):=by
 simp only [qP,PyData.eqv,PyData.eqvAll,Bool.and_true]
 rw [Bool.decide_and,Bool.beq_eq_decide_eq,Bool.beq_eq_decide_eq]
theorem an0 {X:Cx} (hu:X.A.in1.in1.units+8 < cLine) {s:Shared}{u v:Value}{p q:aaB}{Q:Bool->Shared->Prop}{E:Value->Shared->Prop} (hp:inT p=true) (hq:inT q=true) (xu:TripAt s.heap u p) (xv:TripAt s.heap v q)
  (h:Q (decide (qk p < qk q)) s):wpAny (model X.prog X.w) X.A.in1.in1 (keyLt' (tuples' (Value.type "int" != Value.type "tuple")) u v) Q E s:=by
 obtain ⟨a,oa,ka,ta,a2,rfl,ea,_,da,pa⟩:=xu.ex
 obtain ⟨b,ob,kb,tb,b2,rfl,eb,_,db,pb⟩:=xv.ex
 have hr:=alW hp hq
 have hT:(Value.type "int" != Value.type "tuple")=true:=by decide
 rw [hT]
 refine PySem.W.kat_lt ea da eb db ?_
 show PySem.W.KatLex X.prog X.w X.A.in1.in1 true (decide (2 < 2)) Q [(.int p.1 ta,.int q.1 tb),(.ref a2,.ref b2)] 0 s
 refine PySem.W.kat_cons (SeqAt.EqAt.int_int p.1 ta q.1 tb X.prog X.w _ _ ?_)
 by_cases e1:p.1=q.1
 ·have eb1:(p.1 == q.1)=true:=by simpa using e1
  rw [eb1]
  refine PySem.W.kat_yes (PySem.W.kat_cons (SeqAt.eqAt_reads (qP p.2) (qP q.2) _ s _ _ [] [] (QI pa) (QI pb) rfl rfl ?_ X.prog X.w _ _ ?_))
  ·have:(qP p.2).depth=2 ∨ (qP p.2).depth<=8:= .inr (by simp [qP,PyData.depth,PyData.depthAll])
   omega
  rw [agi]
  by_cases e2:p.2.1=q.2.1/\p.2.2=q.2.2
  ·rw [decide_eq_true e2]
   refine PySem.W.kat_yes (PySem.W.kat_nil ?_)
   have:decide (qk p < qk q)=decide (2 < 2):=by
    apply decide_eq_decide.mpr
    rw [hr]; omega
   rw [←this]; exact h
  ·rw [decide_eq_false e2]
   obtain ⟨t1,t2,i1⟩:=QJ pa
   obtain ⟨t3,t4,i2⟩:=QJ pb
   refine PySem.W.kat_no (PySem.W.kat_one _ _ (HT.lt_tupInts (ns:=[p.2.1,p.2.2]) (ms:=[q.2.1,q.2.2]) i1 i2 (.cons _ t1 (.cons _ t2 .nil)) (.cons _ t3 (.cons _ t4 .nil)) (by omega) ?_))
   show Q (HT.lexLt [p.2.1,p.2.2] [q.2.1,q.2.2]) s
   have:HT.lexLt [p.2.1,p.2.2] [q.2.1,q.2.2]=decide (qk p < qk q):=by
    rw [HT.lexLt_cons,HT.lexLt_cons,HT.lexLt_nil_nil]
    by_cases c1:p.2.1=q.2.1
    ·rw [if_pos c1,if_neg (fun z=>e2 ⟨c1,z⟩)]
     apply decide_eq_decide.mpr
     rw [hr]; omega
    ·rw [if_neg c1]
     apply decide_eq_decide.mpr
     rw [hr]; omega
   rw [this]; exact h
 ·have eb1:(p.1 == q.1)=false:=by simpa using e1
  rw [eb1]
  refine PySem.W.kat_no (oneLt_int ?_)
  have:decide (qk p < qk q)=decide (p.1 < q.1):=by
   apply decide_eq_decide.mpr
   rw [hr]; omega
  rw [←this]; exact h
section
variable {X:Cx}
theorem ahU {pins:List (Addr × Obj)}{σ:St}{H:Hp}{s:Shared}{a:Addr}{o:Obj}{xs:Array Value}{k:Nat} (I:Inv X pins σ H s) (eo:s.heap.get? a=some o) (dk:o.data= .seq xs k):a ≠ X.env.locals:=fun z=>by
 obtain ⟨_,⟨o',es,ep,h1,h2,_⟩,_⟩:=I.loc
 rw [z] at eo; rw [eo] at h1; cases h1
 rw [dk] at h2; cases h2
theorem aiW {pins:List (Addr × Obj)}{σ:St}{H:Hp}{s:Shared}{v:V}{p:Int × Int}{u:Value}{h':Heap} (I:Inv X pins σ H s) (r:Rep X.K H (qP p) v) (rv:jP v u) (kp:∀ b o,b ≠ X.env.locals->s.heap.get? b=some o->h'.get? b=some o):∃ a,u= .ref a/\PairAt h' u p:=by
 obtain ⟨a2,ws,e2,e3,x1,r1,e4,e5,x2,r2,e6,e7,e8⟩:=r
 cases (show x1=_ from e5)
 cases (show x2=_ from e7)
 cases (show r2=[] from e8)
 subst e6; subst e4; subst e2
 cases rv
 obtain ⟨its,r3,⟨o,eo,co,k,dk⟩,_⟩:=I.tuple e3
 cases r3 with
 | cons y1 r3=>
  cases r3 with
  | cons y2 r3=>
   cases r3
   obtain ⟨t,rfl⟩:=y1
   obtain ⟨t',rfl⟩:=y2
   exact ⟨a2,rfl,a2,o,k,t,t',rfl,kp a2 o (ahU I eo dk) eo,co,by simpa using dk⟩
theorem an1 {pins:List (Addr × Obj)}{σ:St}{H:Hp}{s:Shared}{v:V}{p:aaB}{u:Value}{h':Heap} (I:Inv X pins σ H s) (r:Rep X.K H (Z7 p) v) (rv:jP v u) (kp:∀ b o,b ≠ X.env.locals->s.heap.get? b=some o->h'.get? b=some o):TripAt h' u p:=by
 obtain ⟨a2,ws,e2,e3,x1,r1,e4,e5,x2,r2,e6,e7,e8⟩:=r
 cases (show x1=_ from e5)
 cases (show r2=[] from e8)
 subst e6; subst e4; subst e2
 cases rv
 obtain ⟨its,r3,⟨o,eo,co,k,dk⟩,_⟩:=I.tuple e3
 cases r3 with
 | cons y1 r3=>
  cases r3 with
  | cons y2 r3=>
   cases r3
   obtain ⟨t,rfl⟩:=y1
   obtain ⟨a3,rfl,pp⟩:=aiW I e7 y2 kp
   exact ⟨a2,o,k,t,a3,rfl,kp a2 o (ahU I eo dk) eo,co,by simpa using dk,pp⟩
theorem ahV (hu:X.A.in1.in1.units+8 < cLine):ze X (.builtin "sorted") (ae8 X.K Z7 qk (fun t=>inT t=true)):=
 acZ (0,(0,0)) Z7 qk (.type "int") _ TripAt (fun I _ r rv kp=>an1 I r rv kp) (fun _ x=>by
  obtain ⟨a,o,k,tk,a2,e1,e2,e3,e4,_⟩:=x.ex
  exact ⟨a,o,_,k,_,e1,e2,e3,e4,rfl,fun M=>PySem.W.Looks.of_pure rfl⟩) rfl fun hx hy xu xv h=>an0 hu hx hy xu xv h
end
section
variable {α:Type}
noncomputable def aj8 (rk:α->Int) (p:α):List α->List α
 | []=>[p]
 | q::r=>if rk p<=rk q then p::q::r else q::aj8 rk p r
noncomputable def Qm (rk:α->Int):List α->List α
 | []=>[]
 | p::r=>aj8 rk p (Qm rk r)
theorem abg (rk:α->Int) (p:α):∀ l,(aj8 rk p l).Perm (p::l)
 | []=>List.Perm.refl _
 | q::r=>by
  unfold aj8
  split
  ·exact List.Perm.refl _
  ·exact ((abg rk p r).cons q).trans (List.Perm.swap p q r)
theorem zo (rk:α->Int):∀ l,(Qm rk l).Perm l
 | []=>List.Perm.refl _
 | p::r=>(abg rk p _).trans ((zo rk r).cons p)
theorem abM (rk:α->Int) (p:α):∀ l,l.Pairwise (fun a b=>rk a<=rk b)->(aj8 rk p l).Pairwise (fun a b=>rk a<=rk b)
 | [],_=>List.pairwise_singleton _ _
 | q::r,h=>by
  have hq:=List.pairwise_cons.mp h
  unfold aj8
  split
  ·rename_i hle
   refine List.pairwise_cons.mpr ⟨fun b hb=>?_,h⟩
   rcases List.mem_cons.mp hb with rfl | hb
   ·exact hle
   ·exact Int.le_trans hle (hq.1 b hb)
  ·rename_i hle
   refine List.pairwise_cons.mpr ⟨fun b hb=>?_,abM rk p r hq.2⟩
   rcases List.mem_cons.mp ((abg rk p r).mem_iff.mp hb) with rfl | hb
   ·omega
   ·exact hq.1 b hb
theorem zz (rk:α->Int):∀ l,(Qm rk l).Pairwise (fun a b=>rk a<=rk b)
 | []=> .nil
 | p::r=>abM rk p _ (zz rk r)
theorem Zg {rk:α->Int}:∀ {l l':List α},l.Pairwise (fun a b=>rk a<=rk b)->l'.Pairwise (fun a b=>rk a<=rk b)->l.Perm l'->(∀ p ∈ l,∀ q ∈ l,rk p=rk q->p=q)->l=l'
 | [],l',_,_,hp,_=>hp.nil_eq
 | a::l,[],_,_,hp,_=>by have:=hp.length_eq; simp at this
 | a::l,b::l',h1,h2,hp,hb=>by
  have h1':=List.pairwise_cons.mp h1
  have h2':=List.pairwise_cons.mp h2
  have hab:a=b:=by
   have ha:a ∈ b::l':=hp.mem_iff.mp List.mem_cons_self
   have hb':b ∈ a::l:=hp.mem_iff.mpr List.mem_cons_self
   rcases List.mem_cons.mp ha with e | ha'
   ·exact e
   ·rcases List.mem_cons.mp hb' with e | hb''
    ·exact e.symm
    ·exact hb a List.mem_cons_self b hb' (Int.le_antisymm (h1'.1 b hb'') (h2'.1 a ha'))
  subst hab
  rw [Zg h1'.2 h2'.2 (List.Perm.cons_inv hp) fun p hp q hq=>hb p (List.mem_cons_of_mem _ hp) q (List.mem_cons_of_mem _ hq)]
end
noncomputable def ae9:PyData->Option aaB
 | .tuple [.int n,.tuple [.int p,.int q]]=>some (n,(p,q))
 | _=>none
theorem agj {d:PyData}{t:aaB} (h:ae9 d=some t):d=Z7 t:=by
 unfold ae9 at h
 split at h
 ·cases h; rfl
 ·cases h
noncomputable def zX:List PyData->Option (List aaB)
 | []=>some []
 | d::ds=>(ae9 d).bind fun t=>(zX ds).map fun ts=>t::ts
theorem ac0:∀ {ds:List PyData}{ts:List aaB},zX ds=some ts->ds=ts.map Z7
 | [],ts,h=>by cases h; rfl
 | d::ds,ts,h=>by
  cases h1:ae9 d with
  | none=>simp [zX,h1] at h
  | some t=>
   cases h2:zX ds with
   | none=>simp [zX,h1,h2] at h
   | some r=>
    have:t::r=ts:=by simpa [zX,h1,h2] using h
    subst this
    rw [agj h1,ac0 h2]; rfl
theorem ad8:∀ (ts:List aaB),zX (ts.map Z7)=some ts
 | []=>rfl
 | t::ts=>by
  show (some t).bind (fun t=>(zX (ts.map Z7)).map fun ts=>t::ts)=_
  rw [ad8 ts]; rfl
theorem ad9 {p q:aaB} (hp:inT p=true) (hq:inT q=true) (h:qk p=qk q):p=q:=by
 simp only [inT,inB,Bool.and_eq_true,decide_eq_true_eq] at hp hq
 unfold qk at h
 obtain ⟨p1,p2,p3⟩:=p
 obtain ⟨q1,q2,q3⟩:=q
 simp only at*
 have h1:p1=q1:=by omega
 have h2:p2=q2:=by omega
 have h3:p3=q3:=by omega
 rw [h1,h2,h3]
noncomputable def ac1 (ds:List PyData):Option PyData:=match ds with
 | [.list xs]=>(zX xs).bind fun ts=>if decide (ts.length < 64) && ts.all inT then some (.list ((Qm qk ts).map Z7)) else none
 | _=>none
theorem alX {X:Cx} (hu:X.A.in1.in1.units+8 < cLine):Qf X (.builtin "sorted") ac1:=by
 refine ⟨_,ahV hu,fun ds d xs H Q h r k=>?_⟩
 unfold ac1 at h
 split at h
 ·rename_i ys
  cases hp:zX ys with
  | none=>simp [hp] at h
  | some ps=>
   by_cases hc:(decide (ps.length < 64) && ps.all inT)=true
   ·have:PyData.list ((Qm qk ps).map Z7)=d:=by simpa [hp,hc] using h
    subst this
    obtain ⟨x,q,e1,e2,e3⟩:=r
    cases (show q=[] from e3)
    obtain ⟨a,us,g1,g2,g3⟩:=e2
    subst g1
    rw [ac0 hp] at g3
    simp only [Bool.and_eq_true,decide_eq_true_eq,List.all_eq_true] at hc
    refine ⟨a,us,ps,e1,g2,g3,hc.1,hc.2,fun qs p1 p2 l zs hl hz=>?_⟩
    have:qs=Qm qk ps:=Zg p2 (zz qk ps) (p1.trans (zo qk ps).symm) fun p hp q hq e=>ad9 (hc.2 p (p1.mem_iff.mp hp)) (hc.2 q (p1.mem_iff.mp hq)) e
    subst this
    exact k _ _ (jC hl) ⟨l,zs,rfl,jr,Reps.mono (jC hl) _ _ hz⟩
   ·simp [hp,hc] at h
 ·cases h
section
variable {X:Cx}{e a b c:Expr}{es j5:List Expr}{st:Stmt}{sts srest:List Stmt}{fx gx:Rho->Option Str}{fa fb:Rho->Option PyData}{F:Rho->Option Out}{pos:Pos}
theorem ahW (h1:PDX X e fx) (h2:PDX X e gx):PDX X e (orX fx gx):=by
 with_unfolding_all
  intro s σ H ρ c I en q k
  cases hf:fx ρ with
  | some c'=>
   have:c'=c:=by simpa [orX,hf] using q
   subst this
   exact h1 s σ H ρ c' I en hf k
  | none=>exact h2 s σ H ρ c I en (by simpa [orX,hf] using q) k
noncomputable def orD (f g:Rho->Option PyData):Rho->Option PyData:=fun ρ=>(f ρ).orElse fun _=>g ρ
theorem ahX (h1:PD X e fa) (h2:PD X e fb):PD X e (orD fa fb):=by
 with_unfolding_all
  intro pins s σ H Q I ⟨ρ,d,en,q,k⟩
  cases hf:fa ρ with
  | some d'=>
   have:d'=d:=by simpa [orD,hf] using q
   subst this
   exact h1 pins s σ H Q I ⟨ρ,d',en,hf,k⟩
  | none=>exact h2 pins s σ H Q I ⟨ρ,d,en,by simpa [orD,hf] using q,k⟩
noncomputable def items:PyData->Option (List PyData)
 | .list ds=>some ds
 | .tuple ds=>some ds
 | _=>none
noncomputable def itS (fa:Rho->Option PyData):Rho->Option (List PyData):=fun ρ=>(fa ρ).bind items
theorem zP {tg:Expr} (h:PD X e fa):PID X tg e (itS fa):=by
 with_unfolding_all
  intro pins s σ H R I ⟨ρ,ds,en,q,k⟩
  cases hf:fa ρ with
  | none=>simp [itS,hf] at q
  | some d=>
   have q':items d=some ds:=by simpa [itS,hf] using q
   cases d with
   | list es=>
    cases q'
    exact Jt (tg:=tg) h pins s σ H R I ⟨ρ,ds,en,by simp [itL,hf,JW],k⟩
   | tuple es=>
    cases q'
    exact aiF (tg:=tg) h pins s σ H R I ⟨ρ,ds,en,by simp [itT,hf,aeP],k⟩
   | _=>cases q'
end
theorem _root_.L2.Room.sort {k:Nat}{A:Around} (r:Room k A):A.in1.in1.units+8 < cLine:=by
 have:=r.un
 show A.units+1+1+8 < cLine
 omega
theorem _root_.L2.Room.units1 {k:Nat}{A:Around} (r:Room k A):A.units+1 < cLine:=by have:=r.un; omega
theorem RoomH.units {k:Nat}{A:Around} (r:RoomH k A):A.units+64 < cLine:=by have:=r.un; omega
theorem RoomH.mono {j k:Nat}{A:Around} (r:RoomH k A) (h:j<=k):RoomH j A:=⟨by have:=r.dp; omega,by have:=r.un; omega⟩
section
variable {X:Cx}{a b:Expr}{pos:Pos}
end
section
variable {X:Cx}{e a b c:Expr}{l r:List Stmt}{fx gx:Rho->Option Str}{pos:Pos}
end
section
variable {X:Cx}{own:Option Nat}{tg:Expr}{st:Stmt}{sts:List Stmt}{fx:Rho->Option Str}{F:Rho->Option Out}
end
theorem aj9 {X:Cx}:Qf X (.type "list") ae1:=by
 refine ⟨_,aeJ,fun ds d xs H Q h r k=>?_⟩
 unfold ae1 at h
 split at h
 ·cases h
  obtain ⟨x,q,e1,e2,e3⟩:=r
  cases (show q=[] from e3)
  obtain ⟨a,us,g1,g2,g3⟩:=e2
  subst g1
  exact ⟨a,us,e1,.inl (SqL.of g2),fun l hl=>k _ _ (jC hl) ⟨l,us,rfl,jr,Reps.mono (jC hl) _ _ g3⟩⟩
 ·cases h
  obtain ⟨x,q,e1,e2,e3⟩:=r
  cases (show q=[] from e3)
  obtain ⟨a,us,g1,g2,g3⟩:=e2
  subst g1
  exact ⟨a,us,e1,.inr g2,fun l hl=>k _ _ (jC hl) ⟨l,us,rfl,jr,Reps.mono (jC hl) _ _ g3⟩⟩
 ·cases h
theorem aaC (a i:Expr) (fp:Pos) (args:List Expr) (pos:Pos) (env:Env):eval (.Call (.Subscript a i fp) args [] pos) env=(do
  callWith pos (←eval (.Subscript a i fp) env) [] (backTo pos (starEach args env)) (backToKw pos (keywordEach [] env))):=rfl
section
variable {X:Cx}{a i e:Expr}{es:List Expr}{pos fp:Pos}
noncomputable def abh (x:Str) (g:List PyData->Option PyData) (ff:Rho->Option PyData) (fr:Rho->Option (List PyData)):Rho->Option PyData:=fun ρ=>(ff ρ).bind fun d=>if zr x d=true then (fr ρ).bind g else none
theorem aaD {k j n:Nat}{ps:List Str}{g:List PyData->Option PyData}{x:Str}{ff:Rho->Option PyData}{fr:Rho->Option (List PyData)} (c:jm X.prog X.w X.K X.mg X.base x ps k n g) (hr:Room j X.A) (hkj:k<=j) (hf:PD X (.Subscript a i fp) ff) (ha:PAD X (e::es) fr)
  (hl:∀ (ρ:Rho) (ds:List PyData),fr ρ=some ds->ds.length=n) (he:starEach (e::es) X.env=(false,eval e X.env)::starEach es X.env:=by rfl)
  (hpl:(backTo pos (starEach es X.env)).any (·.1)=false:=by rfl):PD X (.Call (.Subscript a i fp) (e::es) [] pos) (abh x g ff fr):=by
 with_unfolding_all
  obtain ⟨f,fd,c1,c2,c3,c4⟩:=c
  intro pins s σ H Q I ⟨ρ,d,en,q,k⟩
  cases h0:ff ρ with
  | none=>simp [abh,h0] at q
  | some d0=>
   cases hF:zr x d0 with
   | false=>simp [abh,h0,hF] at q
   | true=>
    have:=agd hF
    subst this
    cases h1:fr ρ with
    | none=>simp [abh,h0,hF,h1] at q
    | some ds=>
     have q':g ds=some d:=by simpa [abh,h0,hF,h1] using q
     rw [aaC]
     refine wpAny_bind (thn (hf pins s σ H (fun v H1=>jq H H1/\Rep X.K H1 (fnD x) v) I ⟨ρ,_,en,h0,fun v H1 s1 r1=>⟨s1,r1⟩⟩) fun u s1 ⟨v,H1,I1,rv,sm,re⟩=>?_)
     obtain ⟨ad,ev,ea⟩:=aiU re
     subst ev
     cases rv
     have hff:=(PySem.W.mg_of I1.mod.kin I1.mod.glob ea).symm.trans c2
     cases hff
     refine PySem.W.callWith_K (h₀:=X.base) I1.ok.mod.kin c3 (thn (ha pos pins s1 σ H1 (fun vs H2=>jq H1 H2/\Reps X.K H2 ds vs) I1 ⟨ρ,ds,en.mono sm,h1,fun vs H2 s2 r2=>⟨s2,r2⟩⟩) fun us s2 ⟨vs,H2,I2,r,sm2,rd⟩=>⟨I2.kIn,?_⟩) he hpl
     have sp:Pur X.K n g (vs++[]) H2 Q (fun _ _ _=>False):=⟨ds,d,hl ρ ds h1,by rw [List.append_nil]; exact rd,q',fun v H' s r=>k v H' (sm.trans (sm2.trans s)) r⟩
     exact ahu c1 (hr.mono hkj) c4 .nil aiA I2 r sp
noncomputable def Qn (x:Str) (g:List PyData->Option Str) (ff:Rho->Option PyData) (fr:Rho->Option (List PyData)):Rho->Option Str:=fun ρ=>(ff ρ).bind fun d=>if zr x d=true then (fr ρ).bind g else none
theorem ZD {k j n:Nat}{ps:List Str}{g:List PyData->Option Str}{x:Str}{ff:Rho->Option PyData}{fr:Rho->Option (List PyData)} (hxe:X.ex=[]) (C:Jd X.prog X.w X.K X.mg X.base x ps k n g) (hr:Room j X.A) (hkj:k<=j) (hf:PD X (.Subscript a i fp) ff) (ha:PAD X (e::es) fr) (hl:∀ ρ ds,fr ρ=some ds->ds.length=n)
  (he:starEach (e::es) X.env=(false,eval e X.env)::starEach es X.env:=by rfl)
  (hpl:(backTo pos (starEach es X.env)).any (·.1)=false:=by rfl):PDX X (.Call (.Subscript a i fp) (e::es) [] pos) (Qn x g ff fr):=by
 with_unfolding_all
  intro s σ H ρ c I en q k'
  obtain ⟨f,fd,F,hm,hk,hb⟩:=C
  cases h0:ff ρ with
  | none=>simp [Qn,h0] at q
  | some d0=>
   cases hF:zr x d0 with
   | false=>simp [Qn,h0,hF] at q
   | true=>
    have:=agd hF
    subst this
    cases hd:fr ρ with
    | none=>simp [Qn,h0,hF,hd] at q
    | some ds=>
     have q':g ds=some c:=by simpa [Qn,h0,hF,hd] using q
     rw [aaC]
     refine wpAny_bind (thn (hf [] s σ H (fun v H1=>jq H H1/\Rep X.K H1 (fnD x) v) I ⟨ρ,_,en,h0,fun v H1 s1 r1=>⟨s1,r1⟩⟩) fun u s1 ⟨v,H1,I1,rv,sm0,re⟩=>?_)
     obtain ⟨ad,ev,ea⟩:=aiU re
     subst ev
     cases rv
     have hff:=(PySem.W.mg_of I1.mod.kin I1.mod.glob ea).symm.trans hm
     cases hff
     refine PySem.W.callWith_K (h₀:=X.base) I1.ok.mod.kin hk (thn (ha pos [] s1 σ H1 (fun vs H2=>jq H1 H2/\Reps X.K H2 ds vs) I1 ⟨ρ,ds,en.mono sm0,hd,fun vs H2 s1 r1=>⟨s1,r1⟩⟩) fun us s2 ⟨vs,H2,I2,r,sm,rd⟩=>⟨I2.kIn,?_⟩) he hpl
     have hn:ds.length=n:=hl ρ ds hd
     have sp:ajY X.K X.mg n g vs H2 (fun _ _=>False) (fun cls _ H'=>X.mg c=some cls/\jq H2 H'):=⟨ds,c,hn,rd,q',fun C H' hC s2=>⟨hC,s2⟩⟩
     have hlu:(us++[]).length=ps.length:=by rw [List.append_nil,←r.length]; exact F.len _ _ _ _ sp
     have hbd:=hb s2 us I2.kIn hlu
     rw [List.append_nil] at hbd
     refine wpAny_call (codeAny_mono (F.run X.A X.stack s2 H2 ⟨us,[]⟩ us vs _ _ (hr.mono hkj) I2.env0 hbd r sp) fun rs s' hq=>?_)
     cases rs with
     | error ev=>
      obtain ⟨e0,C,H',rfl,os,bare,un,hok,xc,hC,sm2⟩:=hq
      have J':Inv X [] σ H' s':=I2.call' (ch:=[]) os un hok bare fun b z=>nomatch z
      exact k' _ _ ⟨e0,C,σ,H',rfl,hC,J',sm0.trans (sm.trans sm2),Xc.of hxe I2 xc⟩
     | ok fl=>
      cases fl with
      | ret u=>obtain ⟨v,H',_,_,_,_,_,z⟩:=hq; exact z.elim
      | next=>exact False.elim hq
      | brk=>exact False.elim hq
      | cont=>exact False.elim hq
end
theorem jq.sE {H H':Hp} (s:jq H H'):jQ H H':=jq.e s
section
variable {X:Cx}{own:Option Nat}{e a b c:Expr}{es:List Expr}{st:Stmt}{sts j5:List Stmt}{fa fb fc:Rho->Option PyData}{F G:Rho->Option Out}{pos:Pos}
end
noncomputable def afa (ds:List PyData):Option PyData:=match ds with
 | [.int i]=>some (.int i)
 | [.bool k]=>some (.int (if k=true then 1 else 0))
 | _=>none
theorem alY {X:Cx}:Qf X (.type "int") afa:=by
 refine ⟨_,ajw,fun ds d xs H Q h r k=>?_⟩
 unfold afa at h
 split at h
 ·cases h
  obtain ⟨x,q,e1,e2,e3⟩:=r
  cases (show q=[] from e3)
  rename_i i
  cases (show x=V.int i from e2)
  exact .inl ⟨_,e1,k _ _ (jq.refl _) rfl⟩
 ·cases h
  obtain ⟨x,q,e1,e2,e3⟩:=r
  cases (show q=[] from e3)
  rename_i b
  cases (show x=V.bl b from e2)
  exact .inr ⟨_,e1,k _ _ (jq.refl _) rfl⟩
 ·cases h
section
variable {X:Cx}{tg src:Expr}{pos pos':Pos}{own:Option Nat}
end
noncomputable def Zh (ps:List (Int × Int)):PyData:= .tuple (ps.map qP)
noncomputable def jN:List (Int × Int)->Int
 | []=>0
 | p::r=>(p.1*1000+p.2)*(1000000:Int) ^ r.length+jN r
noncomputable def inP (p:Int × Int):Bool:=decide (0<=p.1) && decide (p.1 < 1000) && decide (0<=p.2) && decide (p.2 < 1000)
noncomputable def inS (n:Nat) (ps:List (Int × Int)):Bool:=decide (ps.length=n) && decide (1<=n) && ps.all inP
theorem agk (k:Nat):(0:Int) < (1000000:Int) ^ k:=by
 induction k with
 | zero=>decide
 | succ k ih=>rw [Int.pow_succ]; omega
theorem afb {p:Int × Int} (h:inP p=true):0<=p.1/\p.1 < 1000/\0<=p.2/\p.2 < 1000:=by
 simp only [inP,Bool.and_eq_true,decide_eq_true_eq] at h; omega
theorem ac2:∀ (ps:List (Int × Int)),ps.all inP=true->0<=jN ps/\jN ps < (1000000:Int) ^ ps.length
 | [],_=>by simp [jN]
 | p::r,h=>by
  rw [List.all_cons,Bool.and_eq_true] at h
  obtain ⟨a1,a2,a3,a4⟩:=afb h.1
  obtain ⟨b1,b2⟩:=ac2 r h.2
  have hp:=agk r.length
  have hm:0<=p.1*1000+p.2/\p.1*1000+p.2<=999999:=by omega
  simp only [jN,List.length_cons,Int.pow_succ]
  generalize p.1*1000+p.2=m at*
  generalize (1000000:Int) ^ r.length=P at*
  have h1:0<=m*P:=Int.mul_nonneg hm.1 (by omega)
  have h2:m*P<=999999*P:=Int.mul_le_mul_of_nonneg_right hm.2 (by omega)
  omega
theorem aka {m m' P x y:Int} (hP:0 < P) (hx:0<=x/\x < P) (hy:0<=y/\y < P):(m*P+x < m'*P+y) ↔ (m < m' ∨ (m=m'/\x < y)):=by
 rcases Int.lt_trichotomy m m' with h | h | h
 ·have:(m+1)*P<=m'*P:=Int.mul_le_mul_of_nonneg_right (by omega) (by omega)
  rw [Int.add_mul] at this
  constructor
  ·intro _; exact .inl h
  ·intro _; omega
 ·subst h
  constructor
  ·intro q; exact .inr ⟨rfl,by omega⟩
  ·intro q; omega
 ·have:(m'+1)*P<=m*P:=Int.mul_le_mul_of_nonneg_right (by omega) (by omega)
  rw [Int.add_mul] at this
  constructor
  ·intro q; omega
  ·intro q; omega
theorem ac3 {p q:Int × Int}{r r':List (Int × Int)} (hl:r.length=r'.length) (hp:inP p=true) (hq:inP q=true) (hr:r.all inP=true) (hr':r'.all inP=true):
  (jN (p::r) < jN (q::r')) ↔ ((p.1 < q.1 ∨ (p.1=q.1/\p.2 < q.2)) ∨ ((p.1=q.1/\p.2=q.2)/\jN r < jN r')):=by
 obtain ⟨a1,a2,a3,a4⟩:=afb hp
 obtain ⟨c1,c2,c3,c4⟩:=afb hq
 have b:=ac2 r hr
 have b':=ac2 r' hr'
 rw [←hl] at b'
 simp only [jN]
 rw [←hl,aka (agk r.length) b b']
 constructor
 ·rintro (h | ⟨h,k⟩)
  ·left; omega
  ·right; exact ⟨by omega,k⟩
 ·rintro (h | ⟨h,k⟩)
  ·left; omega
  ·right; exact ⟨by omega,k⟩
theorem abi:∀ {r r':List (Int × Int)},r.length=r'.length->r.all inP=true->r'.all inP=true->jN r=jN r'->r=r'
 | [],[],_,_,_,_=>rfl
 | [],_::_,h,_,_,_=>by simp at h
 | _::_,[],h,_,_,_=>by simp at h
 | p::r,q::r',h,h1,h2,e=>by
  rw [List.all_cons,Bool.and_eq_true] at h1 h2
  have hl:r.length=r'.length:=by simpa using h
  have l1:=ac3 hl h1.1 h2.1 h1.2 h2.2
  have l2:=ac3 hl.symm h2.1 h1.1 h2.2 h1.2
  have n1:¬ jN (p::r) < jN (q::r'):=by omega
  have n2:¬ jN (q::r') < jN (p::r):=by omega
  rw [l1] at n1
  rw [l2] at n2
  have e1:p.1=q.1/\p.2=q.2:=by omega
  have e2:jN r=jN r':=by omega
  obtain ⟨p1,p2⟩:=p
  obtain ⟨q1,q2⟩:=q
  simp only at e1
  rw [e1.1,e1.2,abi hl h1.2 h2.2 e2]
noncomputable def QK (h:Heap):List Value->List (Int × Int)->Prop
 | [],ps=>ps=[]
 | v::vs,ps=>∃ p r a,ps=p::r/\v= .ref a/\PairAt h (.ref a) p/\QK h vs r
theorem QK.len {h:Heap}:∀ {vs:List Value}{ps:List (Int × Int)},QK h vs ps->vs.length=ps.length
 | [],ps,e=>by cases (show ps=[] from e); rfl
 | v::vs,ps,⟨p,r,a,e,_,_,k⟩=>by rw [e,List.length_cons,List.length_cons,k.len]
structure SetAt (h:Heap) (u:Value) (ps:List (Int × Int)):Prop where
 ex:∃ a o k vs,u= .ref a/\h.get? a=some o/\o.cls= .type "tuple"/\o.data= .seq (List.toArray vs) k/\QK h vs ps
theorem agl {X:Cx} (hu:X.A.in1.in1.units+8 < cLine) {s:Shared}{Q:Bool->Shared->Prop}:∀ (us vs:List Value) (ps qs:List (Int × Int)) (i:Nat),QK s.heap us ps->QK s.heap vs qs->ps.length=qs.length->ps.all inP=true->qs.all inP=true->Q (decide (jN ps < jN qs)) s->
  PySem.W.KatLex X.prog X.w X.A.in1.in1 false false Q (us.zip vs) i s
 | [],vs,ps,qs,i,a,b,hl,_,_,h=>by
  cases (show ps=[] from a)
  cases qs with
  | nil=>exact PySem.W.kat_nil (by simpa [jN] using h)
  | cons q qs=>simp at hl
 | u::us,[],ps,qs,i,a,b,hl,_,_,h=>by
  cases (show qs=[] from b)
  obtain ⟨p,r,_,rfl,_⟩:=a
  simp at hl
 | u::us,v::vs,ps,qs,i,a,b,hl,h1,h2,h=>by
  obtain ⟨p,r,a2,rfl,rfl,pa,ra⟩:=a
  obtain ⟨q,r',b2,rfl,rfl,pb,rb⟩:=b
  rw [List.all_cons,Bool.and_eq_true] at h1 h2
  have hl':r.length=r'.length:=by simpa using hl
  have hr:=ac3 hl' h1.1 h2.1 h1.2 h2.2
  show PySem.W.KatLex X.prog X.w X.A.in1.in1 false false Q ((.ref a2,.ref b2)::us.zip vs) i s
  refine PySem.W.kat_cons (SeqAt.eqAt_reads (qP p) (qP q) _ s _ _ [] [] (QI pa) (QI pb) rfl rfl ?_ X.prog X.w _ _ ?_)
  ·have:(qP p).depth=2 ∨ (qP p).depth<=8:= .inr (by simp [qP,PyData.depth,PyData.depthAll])
   omega
  rw [agi]
  by_cases e2:p.1=q.1/\p.2=q.2
  ·rw [decide_eq_true e2]
   refine PySem.W.kat_yes (agl hu us vs r r' (i+1) ra rb hl' h1.2 h2.2 ?_)
   have:decide (jN (p::r) < jN (q::r'))=decide (jN r < jN r'):=by
    apply decide_eq_decide.mpr
    rw [hr]
    constructor
    ·rintro (z | ⟨_,z⟩)
     ·omega
     ·exact z
    ·exact fun z=> .inr ⟨e2,z⟩
   rw [←this]; exact h
  ·rw [decide_eq_false e2]
   obtain ⟨t1,t2,i1⟩:=QJ pa
   obtain ⟨t3,t4,i2⟩:=QJ pb
   refine PySem.W.kat_no ?_
   rw [Bool.false_and]
   refine PySem.W.kat_one _ _ (HT.lt_tupInts (ns:=[p.1,p.2]) (ms:=[q.1,q.2]) i1 i2 (.cons _ t1 (.cons _ t2 .nil)) (.cons _ t3 (.cons _ t4 .nil)) (by omega) ?_)
   show Q (HT.lexLt [p.1,p.2] [q.1,q.2]) s
   have:HT.lexLt [p.1,p.2] [q.1,q.2]=decide (jN (p::r) < jN (q::r')):=by
    rw [HT.lexLt_cons,HT.lexLt_cons,HT.lexLt_nil_nil]
    by_cases c1:p.1=q.1
    ·rw [if_pos c1,if_neg (fun z=>e2 ⟨c1,z⟩)]
     apply decide_eq_decide.mpr
     rw [hr]
     constructor
     ·exact fun z=> .inl (.inr ⟨c1,z⟩)
     ·rintro (z | ⟨z,_⟩)
      ·omega
      ·exact absurd z e2
    ·rw [if_neg c1]
     apply decide_eq_decide.mpr
     rw [hr]
     constructor
     ·exact fun z=> .inl (.inl z)
     ·rintro (z | ⟨z,_⟩)
      ·omega
      ·exact absurd z e2
   rw [this]; exact h
theorem aqc {X:Cx} (hu:X.A.in1.in1.units+8 < cLine) {n:Nat}{s:Shared}{u v:Value}{p q:List (Int × Int)}{Q:Bool->Shared->Prop}{E:Value->Shared->Prop} (hp:inS n p=true) (hq:inS n q=true) (xu:SetAt s.heap u p) (xv:SetAt s.heap v q)
  (h:Q (decide (jN p < jN q)) s):wpAny (model X.prog X.w) X.A.in1.in1 (keyLt' (tuples' (Value.type "tuple" != Value.type "tuple")) u v) Q E s:=by
 obtain ⟨a,oa,ka,us,rfl,ea,_,da,pa⟩:=xu.ex
 obtain ⟨b,ob,kb,vs,rfl,eb,_,db,pb⟩:=xv.ex
 simp only [inS,Bool.and_eq_true,decide_eq_true_eq] at hp hq
 have hT:(Value.type "tuple" != Value.type "tuple")=false:=by decide
 rw [hT]
 refine PySem.W.kat_lt ea da eb db ?_
 have hz:decide ((List.toArray us).size < (List.toArray vs).size)=false:=by
  rw [List.size_toArray,List.size_toArray,pa.len,pb.len]
  exact decide_eq_false (by omega)
 rw [hz]
 exact agl hu us vs p q 0 pa pb (by omega) hp.2 hq.2 h
section
variable {X:Cx}
theorem agm {pins:List (Addr × Obj)}{σ:St}{H:Hp}{s:Shared}{h':Heap} (I:Inv X pins σ H s) (kp:∀ b o,b ≠ X.env.locals->s.heap.get? b=some o->h'.get? b=some o):∀ (ps:List (Int × Int)) (xs:List V) (us:List Value),Reps X.K H (ps.map qP) xs->jG xs us->QK h' us ps
 | [],xs,us,r,v=>by
  cases (show xs=[] from r)
  cases v
  rfl
 | p::ps,xs,us,r,v=>by
  obtain ⟨x,q,rfl,e2,e3⟩:=r
  cases v with
  | cons y v=>
   obtain ⟨a,rfl,pp⟩:=aiW I e2 y kp
   exact ⟨p,ps,a,rfl,rfl,pp,agm I kp ps _ _ e3 v⟩
theorem aqd {pins:List (Addr × Obj)}{σ:St}{H:Hp}{s:Shared}{v:V}{p:List (Int × Int)}{u:Value}{h':Heap} (I:Inv X pins σ H s) (r:Rep X.K H (Zh p) v) (rv:jP v u) (kp:∀ b o,b ≠ X.env.locals->s.heap.get? b=some o->h'.get? b=some o):SetAt h' u p:=by
 obtain ⟨a2,ws,e2,e3,e4⟩:=r
 subst e2
 cases rv
 obtain ⟨its,r3,⟨o,eo,co,k,dk⟩,_⟩:=I.tuple e3
 exact ⟨a2,o,k,its,rfl,kp a2 o (ahU I eo dk) eo,co,dk,agm I kp p ws its e4 r3⟩
theorem ahY (hu:X.A.in1.in1.units+8 < cLine) (n:Nat):ze X (.builtin "sorted") (ae8 X.K Zh jN (fun t=>inS n t=true)):=
 acZ [] Zh jN (.type "tuple") _ SetAt (fun I _ r rv kp=>aqd I r rv kp) (fun {h u x} hx sx=>by
  obtain ⟨a,o,k,vs,e1,e2,e3,e4,pa⟩:=sx.ex
  simp only [inS,Bool.and_eq_true,decide_eq_true_eq] at hx
  cases vs with
  | nil=>
   cases (show x=[] from pa)
   simp at hx
   omega
  | cons v vs=>
   obtain ⟨p,r,b,rfl,rfl,pp,_⟩:=pa
   obtain ⟨b',ob,k',t,t',f1,f2,f3,f4⟩:=pp.ex
   cases f1
   exact ⟨a,o,_,k,.ref b,e1,e2,e3,e4,rfl,fun M A Q E s kp q=>wpAny_typeOf (⟨ob,kp _ _ f2,f3⟩:s.TypeIs (.ref b) "tuple") q⟩) rfl fun hx hy xu xv h=>aqc hu hx hy xu xv h
end
noncomputable def afc:PyData->Option (Int × Int)
 | .tuple [.int p,.int q]=>some (p,q)
 | _=>none
noncomputable def zi:List PyData->Option (List (Int × Int))
 | []=>some []
 | d::ds=>(afc d).bind fun t=>(zi ds).map fun ts=>t::ts
theorem aaE:∀ {ds:List PyData}{ts:List (Int × Int)},zi ds=some ts->ds=ts.map qP
 | [],ts,h=>by cases h; rfl
 | d::ds,ts,h=>by
  cases h1:afc d with
  | none=>simp [zi,h1] at h
  | some t=>
   cases h2:zi ds with
   | none=>simp [zi,h1,h2] at h
   | some r=>
    have:t::r=ts:=by simpa [zi,h1,h2] using h
    subst this
    have hd:d=qP t:=by
     unfold afc at h1
     split at h1
     ·cases h1; rfl
     ·cases h1
    rw [hd,aaE h2]; rfl
theorem abN:∀ (ts:List (Int × Int)),zi (ts.map qP)=some ts
 | []=>rfl
 | t::ts=>by
  show (some t).bind (fun t=>(zi (ts.map qP)).map fun ts=>t::ts)=_
  rw [abN ts]; rfl
noncomputable def ahZ:PyData->Option (List (Int × Int))
 | .tuple ds=>zi ds
 | _=>none
noncomputable def Jy:List PyData->Option (List (List (Int × Int)))
 | []=>some []
 | d::ds=>(ahZ d).bind fun t=>(Jy ds).map fun ts=>t::ts
theorem ac4:∀ {ds:List PyData}{ts:List (List (Int × Int))},Jy ds=some ts->ds=ts.map Zh
 | [],ts,h=>by cases h; rfl
 | d::ds,ts,h=>by
  cases h1:ahZ d with
  | none=>simp [Jy,h1] at h
  | some t=>
   cases h2:Jy ds with
   | none=>simp [Jy,h1,h2] at h
   | some r=>
    have:t::r=ts:=by simpa [Jy,h1,h2] using h
    subst this
    have hd:d=Zh t:=by
     unfold ahZ at h1
     split at h1
     ·rw [aaE h1]; rfl
     ·cases h1
    rw [hd,ac4 h2]; rfl
theorem aea:∀ (ts:List (List (Int × Int))),Jy (ts.map Zh)=some ts
 | []=>rfl
 | t::ts=>by
  show (zi (t.map qP)).bind (fun t=>(Jy (ts.map Zh)).map fun ts=>t::ts)=_
  rw [abN t,aea ts]; rfl
noncomputable def alZ (ss:List (List (Int × Int))):Bool:=decide (ss.length < 64) && ss.all (inS ((ss.head?.getD []).length))
noncomputable def afd (ds:List PyData):Option PyData:=match ds with
 | [.list xs]=>(Jy xs).bind fun ts=>if alZ ts=true then some (.list ((Qm jN ts).map Zh)) else none
 | _=>none
theorem al0 {X:Cx} (hu:X.A.in1.in1.units+8 < cLine):Qf X (.builtin "sorted") afd:=by
 refine ⟨fun vs H Q=>∃ n,ae8 X.K Zh jN (fun t=>inS n t=true) vs H Q,fun pins s σ H vs us Q I r ⟨n,h⟩=>ahY hu n pins s σ H vs us Q I r h,fun ds d xs H Q h r k=>?_⟩
 unfold afd at h
 split at h
 ·rename_i ys
  cases hp:Jy ys with
  | none=>simp [hp] at h
  | some ps=>
   by_cases hc:alZ ps=true
   ·have:PyData.list ((Qm jN ps).map Zh)=d:=by simpa [hp,hc] using h
    subst this
    obtain ⟨x,q,e1,e2,e3⟩:=r
    cases (show q=[] from e3)
    obtain ⟨a,us,g1,g2,g3⟩:=e2
    subst g1
    rw [ac4 hp] at g3
    simp only [alZ,Bool.and_eq_true,decide_eq_true_eq,List.all_eq_true] at hc
    refine ⟨_,a,us,ps,e1,g2,g3,hc.1,hc.2,fun qs p1 p2 l zs hl hz=>?_⟩
    have:qs=Qm jN ps:=Zg p2 (zz jN ps) (p1.trans (zo jN ps).symm) fun p hp q hq e=>by
     have i1:=hc.2 p (p1.mem_iff.mp hp)
     have i2:=hc.2 q (p1.mem_iff.mp hq)
     simp only [inS,Bool.and_eq_true,decide_eq_true_eq] at i1 i2
     exact abi (by omega) i1.2 i2.2 e
    subst this
    exact k _ _ (jC hl) ⟨l,zs,rfl,jr,Reps.mono (jC hl) _ _ hz⟩
   ·simp [hp,hc] at h
 ·cases h
end BX
end
local macro_rules
  | `(tactic| dsimp? [$xs,*])=>`(tactic| simp only [BX.jI,BX.ifS,BX.ifD,BX.ifX,BX.adH,BX.orB,BX.Jp,BX.tst,BX.op2,BX.chn,BX.jB,BX.zG,BX.JV,BX.jk,BX.ju,BX.lkp,BX.cst,BX.qG,BX.Jr,BX.qU,BX.jA,BX.qq,BX.nxX,BX.orX,BX.ahS,BX.ahy,BX.asB,zzA,zzB,zzC,zzD,zzH,zzE,zzI,zzF,zzG,zzJ,zzK,zzL,zzM,zzN,$(⟨xs.elemsAndSeps⟩),*])
section
namespace Rods
open PySem L2 BX
open PyProof.Rows hiding St
noncomputable def top (i:Nat):Stmt:=PySem.Challenge.pw_beadrods_k11_all_settings.main.body.getD i (.Pass ⟨0,0,0,0⟩)
structure Bare (mg:Str->Option Value):Prop where
 isi:mg "isinstance"=none
 bool:mg "bool"=none
 int:mg "int"=none
 tuple:mg "tuple"=none
 zip:mg "zip"=none
 range:mg "range"=none
 all:mg "all"=none
 len:mg "len"=none
 max:mg "max"=none
 min:mg "min"=none
 sum:mg "sum"=none
 sorted:mg "sorted"=none
 abs:mg "abs"=none
 list:mg "list"=none
 enum:mg "enumerate"=none
 vale:mg "ValueError"=none
 str:mg "str"=none
 set:mg "set"=none
 dict:mg "dict"=none
theorem an2:bootBuiltins "bool"=some (.type "bool"):=by decide +kernel
theorem al1:bootBuiltins "int"=some (.type "int"):=by decide +kernel
theorem agn:bootBuiltins "tuple"=some (.type "tuple"):=by decide +kernel
theorem an3:bootBuiltins "list"=some (.type "list"):=by decide +kernel
theorem aqe:bootBuiltins "all"=some (.builtin "all"):=by decide +kernel
theorem JZ:bootBuiltins "len"=some (.builtin "len"):=by decide +kernel
theorem alp:bootBuiltins "max"=some (.builtin "max"):=by decide +kernel
theorem acK:bootBuiltins "min"=some (.builtin "min"):=by decide +kernel
theorem ah0:bootBuiltins "sum"=some (.builtin "sum"):=by decide +kernel
theorem aeb:bootBuiltins "sorted"=some (.builtin "sorted"):=by decide +kernel
end Rods
namespace Rods
open PySem L2 BX
open PyProof.Rows hiding St
noncomputable abbrev aaF:Stmt:=top 9
noncomputable abbrev ZE:Stmt:=top 17
noncomputable abbrev aaG:Stmt:=top 16
noncomputable abbrev afe:Stmt:=top 19
noncomputable abbrev zj (C:Program->World->PySem.W.Frag->(Str->Option Value)->Heap->Prop) (qual:Str) (st:Stmt) (N:List Str) (k:Nat) (B:Rho->Option Out):Prop:=
 ∀ (P:Program) (w:World) (K:PySem.W.Frag) (mg:Str->Option Value) (base:Heap) (f:Addr) (cdv:Value) (A:Around) (outer:List Env) (s:Shared) (H:Hp) (E:XK),C P w K mg base->Room k (A.deeper (envOfC qual (jf st) s.heap.objs.size f cdv))->
  Z2 (Jo CX0 P w K mg base N qual (jf st) f cdv A outer s H E).nox (jK st) B
theorem ah1:FnScope ["thing","least","most"] ["thing","least","most"] (jf aaF):=⟨rfl,rfl,rfl,by decide +kernel,rfl,by decide +kernel,by decide +kernel⟩
noncomputable def aaH:{ B:Rho->Option Out // zj (fun _ _ _ mg _=>Bare mg) "is_whole" aaF ["thing","least","most"] 0 B }:=
 ⟨_,fun P w K mg base f cdv A outer s H E T hr=>
  jd (qO (Jq (aeO (zv (ahD (.inl rfl) T.isi T.bool an2 (jb 0))) (ab3 (zO (zv (ahD (.inr (.inl rfl)) T.isi T.int al1 (jb 0))))))) (jd (jD JK) ji) ji)
  (jd (jD (ald aeT aeT (jb 1) (jb 0) (jb 2))) ji)⟩
noncomputable def qe:List PyData->Option PyData:=jw ["thing","least","most"] 3 aaH.1
theorem ago:FnScope ["manner","rod"] ["manner","rod"] (jf ZE):=⟨rfl,rfl,rfl,by decide +kernel,rfl,by decide +kernel,by decide +kernel⟩
noncomputable def abj:{ B:Rho->Option Out // zj (fun _ _ _ _ _=>True) "rod_worth" ZE ["manner","rod"] 0 B }:=
 ⟨_,fun P w K mg base f cdv A outer s H E T hr=>
  jd (jD (jo jv (jo qv (jT (jb 1) jg) (jT (jb 0) jg)) (jT (jb 1) jg))) ji⟩
noncomputable def qI:List PyData->Option PyData:=jw ["manner","rod"] 2 abj.1
theorem al2:FnScope ["rod"] ["rod"] (jf afe):=⟨rfl,rfl,rfl,by decide +kernel,rfl,by decide +kernel,by decide +kernel⟩
noncomputable def ah2:{ B:Rho->Option Out // zj (fun _ _ _ _ _=>True) "beads" afe ["rod"] 0 B }:=
 ⟨_,fun P w K mg base f cdv A outer s H E T hr=>jd (jD (jo jv (jT (jb 0) jg) (jT (jb 0) jg))) ji⟩
noncomputable def qr:List PyData->Option PyData:=jw ["rod"] 1 ah2.1
noncomputable def qL (i:Nat) (m:Nat):List PyData:=(List.range m).map fun (j:Nat)=>PyData.tuple [.int (i:Int),.int (j:Int)]
noncomputable def qZ (n m:Nat):List PyData:=(List.range n).flatMap fun (i:Nat)=>qL i m
theorem agp (i m:Nat):qL i (m+1)=qL i m++[PyData.tuple [.int (i:Int),.int (m:Int)]]:=by simp [qL,List.range_succ]
theorem QL (n m:Nat):qZ (n+1) m=qZ n m++qL n m:=by simp [qZ,List.range_succ]
theorem agq (i m:Nat):noLs (qL i m)=true:=af3 fun d hd=>by
 obtain ⟨j,_,rfl⟩:=List.mem_map.mp hd
 simp [noL,noLs]
theorem akb (n m:Nat):noLs (qZ n m)=true:=by
 induction n with
 | zero=>simp [qZ,noLs]
 | succ n ih=>rw [QL,Q8,ih,agq]; rfl
theorem aff (i m:Nat):(qL i m).length=m:=by simp [qL]
theorem Qo (n m:Nat):(qZ n m).length=n*m:=by
 induction n with
 | zero=>simp [qZ]
 | succ n ih=>rw [QL,List.length_append,ih,aff,Nat.succ_mul]
noncomputable def zA (ds:List PyData):Option PyData:=match ds with
 | [.tuple [.int u,.int _,.int l,.int _]]=>if 0<=u/\u < 1000/\0<=l/\l < 1000 then some (.list (qZ (u+1).toNat (l+1).toNat)) else none
 | _=>none
theorem QM:FnScope ["manner","rods","upper","lower"] ["manner"] (jf aaG):=⟨rfl,rfl,rfl,by decide +kernel,rfl,by decide +kernel,by decide +kernel⟩
end Rods
namespace Rods
open PySem L2 BX
open PyProof.Rows hiding St
section
variable {P:Program}{w:World}{K:PySem.W.Frag}{mg:Str->Option Value}{base:Heap}
theorem ah3 {f:Addr}{fd:FuncData} (F:Fun K "all_rods" "all_rods" aaG f fd) (T:Bare mg):FnOk P w K mg base CX0 1 f fd ["manner"] (Pur K 1 zA):=by
 with_unfolding_all
  refine F.ok QM (fun vs H Q E h=>?_) (fun cdv A outer s H vs Q E hr h=>?_)
  ·obtain ⟨ds,d,h1,h2,_⟩:=h
   rw [h2.length]; exact h1
  ·obtain ⟨ds,d,h1,h2,h3,k⟩:=h
   unfold zA at h3
   split at h3
   ·rename_i u e l b
    split at h3
    ·rename_i hb
     obtain ⟨hu0,hu1,hl0,hl1⟩:=hb
     cases h3
     refine ⟨_,QY (aeE (i:=1) QM.nd rfl (Or.inl rfl) (ahs zL))
      (QY (aeG PassesOwn.never rfl (aa8 rfl T.range (ja (jo jv (jT (jb 0) jg) jg) je)) (aar (i:=2) QM.nd rfl (Or.inl rfl))
       (aeC (aeG PassesOwn.never rfl (aa8 rfl T.range (ja (jo jv (jT (jb 0) jg) jg) je)) (aar (i:=3) QM.nd rfl (Or.inl rfl))
        (aeC (aeD (afX PySem.F.plainAttrs_list PySem.F.slot_list_append PySem.F.type_list_append adT (pv 1) (qm (akY (qm (pv 2) (qm (pv 3) zL))) zL)))))))
      (aeC (aho (pv 1)))),?_⟩
     obtain ⟨mv,rr,e1,em,e2⟩:=h2
     cases (show rr=[] from e2)
     subst e1
     have nm:noL (PyData.tuple [.int u,.int e,.int l,.int b])=true:=by simp [noL,noLs]
     refine ⟨Nat.zero_le _,fun p hp=>?_⟩
     have envr:∀ {H2:Hp} {x2 x3:Option V} {y:Option V},jq H H2->EnvR K H2 [some (PyData.tuple [.int u,.int e,.int l,.int b]),none,none,none] [some mv,y,x2,x3]:=fun {H2 x2 x3 y} s2=>
      ⟨rfl,fun i d q=>by
       cases i with
       | zero=>cases q; exact ⟨mv,rfl,Rep.mono s2 _ _ em⟩
       | succ i=>
        match i,q with
        | 0,q=>cases q
        | 1,q=>cases q
        | 2,q=>cases q
        | j+3,q=>simp at q⟩
     refine ⟨_,[.int (u+1)],envr (jC hp),by simp [jk,ju,op2,lkp,dIx,atI,ixN,cst,qV],fun vs1 H1 s1 r1=>?_⟩
     obtain ⟨y1,q1,f1,f2,f3⟩:=r1
     cases (show y1=V.int (u+1) from f2)
     cases (show q1=[] from f3)
     subst f1
     refine ⟨u+1,rfl,by omega,by omega,adO (n:=(u+1).toNat) (fun i σ H2=>∃ x2 x3 xs,σ=[some mv,some (.ref p),x2,x3]/\jq H H2/\H2 p=some (.lst xs)/\Reps K H2 (qZ i (l+1).toNat) xs)
      ⟨none,none,[],rfl,(jC hp).trans s1,s1 _ _ jr,rfl⟩ ?_ ?_⟩
     ·rintro i σ H2 hi ⟨x2,x3,xs,rfl,s2,hp2,r2⟩
      refine ⟨_,[.int (l+1)],envr s2,by simp [jk,ju,op2,lkp,dIx,atI,ixN,cst,qV],fun vs2 H3 s3 r3=>?_⟩
      obtain ⟨y2,q2,g1,g2,g3⟩:=r3
      cases (show y2=V.int (l+1) from g2)
      cases (show q2=[] from g3)
      subst g1
      refine ⟨l+1,rfl,by omega,by omega,adO (n:=(l+1).toNat) (fun j σ H4=>∃ x3 ys,σ=[some mv,some (.ref p),some (.int (0+i)),x3]/\jq H H4/\H4 p=some (.lst ys)/\Reps K H4 (qZ i (l+1).toNat++qL i j) ys)
       ⟨x3,xs,rfl,s2.trans s3,s3 _ _ hp2,by simpa [qL] using Reps.mono s3 _ _ r2⟩ ?_ ?_⟩
      ·rintro j σ H4 hj ⟨x3',ys,rfl,s4,hp4,r4⟩
       have hlen:ys.length < sizeLine:=by
        rw [r4.length,List.length_append,Qo,aff,sizeLine_eq]
        have h1:i*(l+1).toNat<=1000*1001:=Nat.mul_le_mul (by omega) (by omega)
        omega
       refine ⟨_,rfl,.inl ⟨rfl,ys,SqL.of hp4⟩,_,rfl,_,rfl,by show 2<=sizeLine; rw [sizeLine_eq]; decide,fun q hq=>?_⟩
       have npq:p ≠ q:=qC hp4 hq
       refine ⟨p,ys,.ref q,rfl,rfl,by rw [jn npq]; exact hp4,hlen,?_⟩
       have t1:zI H4 (upd (upd H4 q (.tup [.int (0+(i:Int)),.int (0+(j:Int))])) p (.lst (ys++[.ref q]))):=
        (jq.n (jC hq)).trans (zI.upd (xs:=ys) (by rw [jn npq]; exact hp4))
       refine ⟨_,ys++[.ref q],rfl,fun c o hc=>?_,jr,?_⟩
       ·have hc4:=s4 c o hc
        rw [jn (qC hc hp),jn (qC hc4 hq)]
        exact hc4
       ·rw [agp,←List.append_assoc]
        refine (Reps.monoN t1 _ _ (by rw [Q8,akb,agq]; rfl) r4).append ⟨.ref q,[],rfl,⟨q,_,rfl,SqT.of (by rw [jn (Ne.symm npq)]; exact jr),?_⟩,rfl⟩
        exact ⟨_,_,rfl,by show _=V.int _; rw [Int.zero_add],_,_,rfl,by show _=V.int _; rw [Int.zero_add],rfl⟩
      ·rintro σ H4 ⟨x3',ys,rfl,s4,hp4,r4⟩
       exact ⟨_,x3',ys,rfl,s4,hp4,by rw [QL]; exact r4⟩
     ·rintro σ H2 ⟨x2,x3,xs,rfl,s2,hp2,r2⟩
      exact ⟨_,rfl,k _ _ s2 ⟨p,xs,rfl,hp2,r2⟩⟩
    ·cases h3
   ·cases h3
end
end Rods
namespace Rods
open PySem L2 BX
open PyProof.Rows hiding St
noncomputable abbrev ZF:Stmt:=top 14
noncomputable abbrev ZG:Stmt:=top 13
noncomputable abbrev CC:=Program->World->PySem.W.Frag->(Str->Option Value)->Heap->Prop
structure CHasAll (P:Program) (w:World) (K:PySem.W.Frag) (mg:Str->Option Value) (base:Heap):Prop where
 t:Bare mg
 allRods:jm P w K mg base "all_rods" ["manner"] 1 1 zA
 rodWorth:jm P w K mg base "rod_worth" ["manner","rod"] 1 2 qI
theorem aec:FnScope ["manner","worths"] ["manner"] (jf ZF):=⟨rfl,rfl,rfl,by decide +kernel,rfl,by decide +kernel,by decide +kernel⟩
theorem nd2:(["rod","manner"]:List Str).Nodup:=by decide +kernel
theorem nd3:(["digit","worths"]:List Str).Nodup:=by decide +kernel
noncomputable def afg:{ B:Rho->Option Out // zj CHasAll "has_all_digits" ZF ["manner","worths"] 1 B }:=
 ⟨_,fun P w K mg base f cdv A outer s H E C hr=>
  jd (jx 1 aec.nd (zn ["rod","manner"] [none,some 0] rfl (Jt (jj C.allRods hr (Nat.le_refl _) (ja (jb 0) je) (jc jh))) (qE (jf ZF) ["manner","worths"] (by decide +kernel))
   fun cl C' s0 H0 fp pn=>⟨jL 0 nd2,qH,jj C.rodWorth hr (Nat.le_refl _) (ja (jb 1) (ja (jb 0) je)) (jc (jc jh))⟩))
  (jd (jD (jV (ap0 rfl) C.t.all aqe (ja (zn ["digit","worths"] [none,some 1] rfl (qD rfl C.t.range (ja (jT (jb 0) jg) je)) (qE (jf ZF) ["manner","worths"] (by decide +kernel))
   fun cl C' s0 H0 fp pn=>⟨jL 0 nd3,qH,ahx (apY hr.units) (jb 0) (jb 1)⟩) je))) ji)⟩
noncomputable abbrev ac5:Stmt:=top 15
noncomputable abbrev Qp:Stmt:=top 18
noncomputable abbrev ab8:Stmt:=top 20
noncomputable def GC (K:PySem.W.Frag) (mg:Str->Option Value) (x:Str) (d:PyData):Prop:=∃ v u,mg x=some u/\jP v u/\∀ H,Rep K H d v
theorem jZ {X:Cx}{pos:Pos}{x:Str}{d:PyData} (c:GC X.K X.mg x d) (hg:Gl X x:=by rfl) (hd:(x == ("__debug__":Str))=false:=by decide):PD X (.Name x pos) (cst d):=by
 with_unfolding_all
  obtain ⟨v,u,h1,h2,h3⟩:=c
  exact anw hg h1 h2 h3 hd
noncomputable def aaI:List PyData->Option PyData:=jw ["manner","worths"] 1 afg.1
structure CIsManner (P:Program) (w:World) (K:PySem.W.Frag) (mg:Str->Option Value) (base:Heap):Prop where
 t:Bare mg
 least:GC K mg "LEAST_PARTS" (.tuple [.int 0,.int 1,.int 0,.int 2])
 most:GC K mg "MOST_PARTS" (.tuple [.int 3,.int 16,.int 12,.int 16])
 isWhole:jm P w K mg base "is_whole" ["thing","least","most"] 1 3 qe
 hasAll:jm P w K mg base "has_all_digits" ["manner"] 2 1 aaI
theorem JN:FnScope ["thing","part","least","most"] ["thing"] (jf ZG):=⟨rfl,rfl,rfl,by decide +kernel,rfl,by decide +kernel,by decide +kernel⟩
noncomputable def abk:{ B:Rho->Option Out // zj CIsManner "is_manner" ZG ["thing","part","least","most"] 2 B }:=
 ⟨_,fun P w K mg base f cdv A outer s H E C hr=>
  jd (qO (Jq (aeO (zO (zv (ahD (.inr (.inr rfl)) C.t.isi C.t.tuple agn (jb 0)))) (ab3 (j2 (JX hr.units) (jV JY C.t.len JZ (ja (jb 0) je)) (jV JY C.t.len JZ (ja (jZ C.most) je)))))) (jd (jD JK) ji) ji)
  (jd (zw PassesOwn.never rfl (ali C.t.zip (ja (jb 0) (ja (jZ C.least) (ja (jZ C.most) je)))) (aiE (n:=3) rfl (Qe (jL 1 JN.nd) (Qe (jL 2 JN.nd) (Qe (jL 3 JN.nd) af1))))
   (jd (qO (zO (zv (jj C.isWhole hr (by decide) (ja (jb 1) (ja (jb 2) (ja (jb 3) je))) (jc (jc (jc jh)))))) (jd (jD JK) ji) ji) ji))
  (jd (jD (jj C.hasAll hr (Nat.le_refl _) (ja (jb 0) je) (jc jh))) ji))⟩
noncomputable def qx:List PyData->Option PyData:=jw ["thing","part","least","most"] 1 abk.1
structure CCheck (P:Program) (w:World) (K:PySem.W.Frag) (mg:Str->Option Value) (base:Heap):Prop where
 isManner:jm P w K mg base "is_manner" ["thing"] 3 1 qx
theorem agr:FnScope ["thing"] ["thing"] (jf ac5):=⟨rfl,rfl,rfl,by decide +kernel,rfl,by decide +kernel,by decide +kernel⟩
noncomputable def afh:{ B:Rho->Option Out // zj CCheck "check_manner" ac5 ["thing"] 3 B }:=
 ⟨_,fun P w K mg base f cdv A outer s H E C hr=>
  jd (qO (zO (zv (jj C.isManner hr (Nat.le_refl _) (ja (jb 0) je) (jc jh)))) QC ji) ji⟩
noncomputable def J1:List PyData->Option PyData:=jw ["thing"] 1 afh.1
structure CRodsWith (P:Program) (w:World) (K:PySem.W.Frag) (mg:Str->Option Value) (base:Heap):Prop where
 allRods:jm P w K mg base "all_rods" ["manner"] 1 1 zA
 rodWorth:jm P w K mg base "rod_worth" ["manner","rod"] 1 2 qI
theorem ags:FnScope ["manner","worth"] ["manner","worth"] (jf Qp):=⟨rfl,rfl,rfl,by decide +kernel,rfl,by decide +kernel,by decide +kernel⟩
theorem nd4:(["rod","manner","worth"]:List Str).Nodup:=by decide +kernel
noncomputable def abl:{ B:Rho->Option Out // zj CRodsWith "rods_with" Qp ["manner","worth"] 1 B }:=
 ⟨_,fun P w K mg base f cdv A outer s H E C hr=>
  jd (jD (zn ["rod","manner","worth"] [none,some 0,some 1] rfl (Jt (jj C.allRods hr (Nat.le_refl _) (ja (jb 0) je) (jc jh))) (qE (jf Qp) ["manner","worth"] (by decide +kernel))
   fun cl C' s0 H0 fp pn=>⟨jL 0 nd4,acF (j2 (Q5 hr.units) (jj C.rodWorth hr (Nat.le_refl _) (ja (jb 1) (ja (jb 0) je)) (jc (jc jh))) (jb 2)),jb 0⟩)) ji⟩
noncomputable def ZH:List PyData->Option PyData:=jw ["manner","worth"] 2 abl.1
structure CFewest (P:Program) (w:World) (K:PySem.W.Frag) (mg:Str->Option Value) (base:Heap):Prop where
 t:Bare mg
 rodsWith:jm P w K mg base "rods_with" ["manner","worth"] 2 2 ZH
 beads:jm P w K mg base "beads" ["rod"] 1 1 qr
theorem akc:FnScope ["manner","worth"] ["manner","worth"] (jf ab8):=⟨rfl,rfl,rfl,by decide +kernel,rfl,by decide +kernel,by decide +kernel⟩
noncomputable def ab9:{ B:Rho->Option Out // zj CFewest "fewest_beads" ab8 ["manner","worth"] 2 B }:=
 ⟨_,fun P w K mg base f cdv A outer s H E C hr=>
  jd (jD (alq rfl C.beads hr (Nat.le_refl _) C.t.min (jj C.rodsWith hr (by decide) (ja (jb 0) (ja (jb 1) je)) (jc (jc jh))))) ji⟩
noncomputable def JO:List PyData->Option PyData:=jw ["manner","worth"] 2 ab9.1
noncomputable abbrev Jz:Stmt:=top 24
noncomputable abbrev zB:Stmt:=top 25
noncomputable abbrev zT:Stmt:=top 26
noncomputable abbrev Jj:Stmt:=top 27
noncomputable abbrev ZI:Stmt:=top 28
noncomputable abbrev Jk:Stmt:=top 29
noncomputable abbrev Z8 (C:CC) (qual:Str) (st:Stmt) (N:List Str) (k:Nat) (sts:List Stmt) (B:Rho->Option Out):Prop:=
 ∀ (P:Program) (w:World) (K:PySem.W.Frag) (mg:Str->Option Value) (base:Heap) (f:Addr) (cdv:Value) (A:Around) (outer:List Env) (s:Shared) (H:Hp) (E:XK),C P w K mg base->Room k (A.deeper (envOfC qual (jf st) s.heap.objs.size f cdv))->
  Z2 (Jo CX0 P w K mg base N qual (jf st) f cdv A outer s H E).nox sts B
noncomputable abbrev abO (own:Nat) (C:CC) (qual:Str) (st:Stmt) (N:List Str) (k:Nat) (sts:List Stmt) (B:Rho->Option Out):Prop:=
 ∀ (P:Program) (w:World) (K:PySem.W.Frag) (mg:Str->Option Value) (base:Heap) (f:Addr) (cdv:Value) (A:Around) (outer:List Env) (s:Shared) (H:Hp) (E:XK),C P w K mg base->Room k (A.deeper (envOfC qual (jf st) s.heap.objs.size f cdv))->
  acO (Jo CX0 P w K mg base N qual (jf st) f cdv A outer s H E).nox (some own) sts B
noncomputable def j6:Stmt->List Stmt
 | .For _ _ b _ _=>b
 | _=>[]
noncomputable def JA (l:List Stmt) (i:Nat):Stmt:=l.getD i (.Pass ⟨0,0,0,0⟩)
structure CNum (P:Program) (w:World) (K:PySem.W.Frag) (mg:Str->Option Value) (base:Heap):Prop where
 rodWorth:jm P w K mg base "rod_worth" ["manner","rod"] 1 2 qI
noncomputable abbrev an4:List Str:=["manner","setting","number","rod"]
theorem afi:FnScope an4 ["manner","setting"] (jf Jj):=⟨rfl,rfl,rfl,by decide +kernel,rfl,by decide +kernel,by decide +kernel⟩
noncomputable def afj:{ B:Rho->Option Out // Z8 CNum "number_on" Jj an4 1 (j6 (JA (jK Jj) 1)) B }:=
 ⟨_,fun P w K mg base f cdv A outer s H E C hr=>
  jd (jx 2 afi.nd (jo jv (jo qv (jb 2) (jT (jb 0) jg)) (jj C.rodWorth hr (Nat.le_refl _) (ja (jb 0) (ja (jb 3) je)) (jc (jc jh))))) ji⟩
noncomputable def an5:{ B:Rho->Option Out // zj CNum "number_on" Jj an4 1 B }:=
 ⟨_,fun P w K mg base f cdv A outer s H E C hr=>
  jd (jx 2 afi.nd jg) (jd (zw PassesOwn.never rfl (aiF (jb 1)) (jL 3 afi.nd) (afj.2 P w K mg base f cdv A outer s H E C hr)) (jd (jD (jb 2)) ji))⟩
noncomputable def an6:List PyData->Option PyData:=jw an4 2 an5.1
theorem an7:FnScope ["manner","rods"] ["manner","rods"] (jf ZI):=⟨rfl,rfl,rfl,by decide +kernel,rfl,by decide +kernel,by decide +kernel⟩
noncomputable def aiX:{ B:Rho->Option Out // zj (fun _ _ _ _ _=>True) "full_rods" ZI ["manner","rods"] 0 B }:=
 ⟨_,fun P w K mg base f cdv A outer s H E C hr=>
  jd (jD (jo alG (za (ja (za (ja (jT (jb 0) jg) (ja (jT (jb 0) jg) je))) je)) (jb 1))) ji⟩
noncomputable def al3:List PyData->Option PyData:=jw ["manner","rods"] 2 aiX.1
structure CLast (P:Program) (w:World) (K:PySem.W.Frag) (mg:Str->Option Value) (base:Heap):Prop where
 allRods:jm P w K mg base "all_rods" ["manner"] 1 1 zA
 rodWorth:jm P w K mg base "rod_worth" ["manner","rod"] 1 2 qI
 num:jm P w K mg base "number_on" ["manner","setting"] 2 2 an6
 full:jm P w K mg base "full_rods" ["manner","rods"] 1 2 al3
noncomputable abbrev aiY:List Str:=["manner","ahead","number","base","most","told","rod","left"]
theorem ZJ:FnScope aiY ["manner","ahead","number"] (jf Jk):=⟨rfl,rfl,rfl,by decide +kernel,rfl,by decide +kernel,by decide +kernel⟩
noncomputable def ZK:{ B:Rho->Option Out // abO 5 CLast "last_rods" Jk aiY 2 (j6 (JA (jK Jk) 3)) B }:=
 ⟨_,fun P w K mg base f cdv A outer s H E C hr=>
  jJ (ab6 7 ZJ.nd (jo Zy (jb 2) (jj C.rodWorth hr (by decide) (ja (jb 0) (ja (jb 6) je)) (jc (jc jh)))))
  (jJ (ap6 (Jq (aeN (j2 (Q5 hr.units) (jo Jc (jb 7) (jb 3)) jg) (acC (ajD aeT aeT jg (jb 7) (jo qv (jb 3) (jb 4))))))
   (jJ (aiO (ajR 5 (za (ja (jb 6) (ja (jo Jv (jb 7) (jb 3)) je))))) qj) qj) qj)⟩
noncomputable def aiZ:{ B:Rho->Option Out // zj CLast "last_rods" Jk aiY 2 B }:=
 ⟨_,fun P w K mg base f cdv A outer s H E C hr=>
  Za (jJ (ad5 (jx 3 ZJ.nd (jT (jb 0) jg)))
  (jJ (ad5 (jx 4 ZJ.nd (jj C.num hr (Nat.le_refl _) (ja (jb 0) (ja (jj C.full hr (by decide) (ja (jb 0) (ja (jb 1) je)) (jc (jc jh))) je)) (jc (jc jh)))))
  (Zb 5 ZJ.nd (alA je)
  (jJ (QF PassesOwn.never rfl (Jt (jj C.allRods hr (by decide) (ja (jb 0) je) (jc jh))) (aay 6 ZJ.nd) (ZK.2 P w K mg base f cdv A outer s H E C hr))
  (jJ (aax (jb 5)) qj)))))⟩
noncomputable def aed:List PyData->Option PyData:=jw aiY 3 aiZ.1
structure CChkRods (P:Program) (w:World) (K:PySem.W.Frag) (mg:Str->Option Value) (base:Heap):Prop where
 isWhole:jm P w K mg base "is_whole" ["thing","least","most"] 1 3 qe
 most:GC K mg "MOST_RODS" (.int 4)
theorem ac6:FnScope ["rods"] ["rods"] (jf Jz):=⟨rfl,rfl,rfl,by decide +kernel,rfl,by decide +kernel,by decide +kernel⟩
noncomputable def Zi:{ B:Rho->Option Out // zj CChkRods "check_rods" Jz ["rods"] 1 B }:=
 ⟨_,fun P w K mg base f cdv A outer s H E C hr=>
  jd (qO (zO (zv (jj C.isWhole hr (Nat.le_refl _) (ja (jb 0) (ja jg (ja (jZ C.most) je))) (jc (jc (jc jh)))))) QC ji) ji⟩
noncomputable def qy:List PyData->Option PyData:=jw ["rods"] 1 Zi.1
structure CChkNum (P:Program) (w:World) (K:PySem.W.Frag) (mg:Str->Option Value) (base:Heap):Prop where
 isWhole:jm P w K mg base "is_whole" ["thing","least","most"] 1 3 qe
 most:GC K mg "MOST_NUMBER" (.int 99999)
theorem aee:FnScope ["number"] ["number"] (jf zB):=⟨rfl,rfl,rfl,by decide +kernel,rfl,by decide +kernel,by decide +kernel⟩
noncomputable def aaJ:{ B:Rho->Option Out // zj CChkNum "check_number" zB ["number"] 1 B }:=
 ⟨_,fun P w K mg base f cdv A outer s H E C hr=>
  jd (qO (zO (zv (jj C.isWhole hr (Nat.le_refl _) (ja (jb 0) (ja jg (ja (jZ C.most) je))) (jc (jc (jc jh)))))) QC ji) ji⟩
noncomputable def zC:List PyData->Option PyData:=jw ["number"] 1 aaJ.1
structure CAsked (P:Program) (w:World) (K:PySem.W.Frag) (mg:Str->Option Value) (base:Heap):Prop where
 check:jm P w K mg base "check_manner" ["thing"] 4 1 J1
 rods:jm P w K mg base "check_rods" ["rods"] 2 1 qy
 num:jm P w K mg base "check_number" ["number"] 2 1 zC
theorem agt:FnScope ["manner","rods","number"] ["manner","rods","number"] (jf zT):=⟨rfl,rfl,rfl,by decide +kernel,rfl,by decide +kernel,by decide +kernel⟩
noncomputable def aai:{ B:Rho->Option Out // zj CAsked "check_asked" zT ["manner","rods","number"] 4 B }:=
 ⟨_,fun P w K mg base f cdv A outer s H E C hr=>
  jd (zh (jj C.check hr (Nat.le_refl _) (ja (jb 0) je) (jc jh)))
  (jd (zh (jj C.rods hr (by decide) (ja (jb 1) je) (jc jh)))
  (jd (zh (jj C.num hr (by decide) (ja (jb 2) je) (jc jh))) ji))⟩
noncomputable def ql:List PyData->Option PyData:=jw ["manner","rods","number"] 3 aai.1
noncomputable abbrev aaj:Stmt:=top 34
noncomputable abbrev Zj:Stmt:=top 35
noncomputable abbrev aaK:Stmt:=top 36
noncomputable abbrev ZL:Stmt:=top 37
noncomputable abbrev ZM:Stmt:=top 38
structure CLongF (P:Program) (w:World) (K:PySem.W.Frag) (mg:Str->Option Value) (base:Heap):Prop where
 t:Bare mg
 last:jm P w K mg base "last_rods" ["manner","ahead","number"] 3 3 aed
 beads:jm P w K mg base "beads" ["rod"] 1 1 qr
noncomputable abbrev ac7:List Str:=["manner","ahead","fewest","longer","number","rod","left","several"]
theorem Qq:FnScope ac7 ["manner","ahead","fewest"] (jf Zj):=⟨rfl,rfl,rfl,by decide +kernel,rfl,by decide +kernel,by decide +kernel⟩
noncomputable def aaL:{ B:Rho->Option Out // abO 3 CLongF "longer_fewest" Zj ac7 3 (j6 (JA (j6 (JA (jK Zj) 1)) 0)) B }:=
 ⟨_,fun P w K mg base f cdv A outer s H E C hr=>
  jJ (ab6 7 Qq.nd (jo jv (ahN (abG hr) (jb 2) (jb 4)) (jj C.beads hr (by decide) (ja (jb 5) je) (jc jh))))
  (jJ (aeZ 3 (abG hr) (jb 6) (jV (aiH rfl) C.t.min acK (ja (jb 7) (ja (Zc (abG hr) (jb 3) (jb 6) (jb 7)) je)))) qj)⟩
noncomputable def Jl:{ B:Rho->Option Out // abO 3 CLongF "longer_fewest" Zj ac7 3 (j6 (JA (jK Zj) 1)) B }:=
 ⟨_,fun P w K mg base f cdv A outer s H E C hr=>
  jJ (QF PassesOwn.never rfl (Jt (jj C.last hr (Nat.le_refl _) (ja (jb 0) (ja (jb 1) (ja (jb 4) je))) (jc (jc (jc jh))))) (aeY (n:=2) rfl (Ji 5 Qq.nd (Ji 6 Qq.nd acP))) (aaL.2 P w K mg base f cdv A outer s H E C hr)) qj⟩
noncomputable def afk:{ B:Rho->Option Out // zj CLongF "longer_fewest" Zj ac7 3 B }:=
 ⟨_,fun P w K mg base f cdv A outer s H E C hr=>
  Za (Zb 3 Qq.nd acQ
  (jJ (QF PassesOwn.never rfl (acT (jb 2)) (aay 4 Qq.nd) (Jl.2 P w K mg base f cdv A outer s H E C hr))
  (jJ (aax (jb 3)) qj)))⟩
noncomputable def afl:List PyData->Option PyData:=jw ac7 3 afk.1
structure CLeast (P:Program) (w:World) (K:PySem.W.Frag) (mg:Str->Option Value) (base:Heap):Prop where
 t:Bare mg
 asked:jm P w K mg base "check_asked" ["manner","rods","number"] 5 3 ql
 longer:jm P w K mg base "longer_fewest" ["manner","ahead","fewest"] 4 3 afl
noncomputable abbrev abm:List Str:=["manner","rods","number","fewest","ahead"]
theorem Zk:FnScope abm ["manner","rods","number"] (jf aaj):=⟨rfl,rfl,rfl,by decide +kernel,rfl,by decide +kernel,by decide +kernel⟩
noncomputable def aaM:{ B:Rho->Option Out // Z8 CLeast "least_beads" aaj abm 5 (j6 (JA (jK aaj) 2)) B }:=
 ⟨_,fun P w K mg base f cdv A outer s H E C hr=>
  jd (jx 3 Zk.nd (jj C.longer hr (by decide) (ja (jb 0) (ja (jb 4) (ja (jb 3) je))) (jc (jc (jc jh))))) ji⟩
noncomputable def ac8:{ B:Rho->Option Out // zj CLeast "least_beads" aaj abm 5 B }:=
 ⟨_,fun P w K mg base f cdv A outer s H E C hr=>
  jd (zh (jj C.asked hr (Nat.le_refl _) (ja (jb 0) (ja (jb 1) (ja (jb 2) je))) (jc (jc (jc jh)))))
  (jd (jx 3 Zk.nd (acU (jb 2) jg))
  (jd (zw PassesOwn.never rfl (aah rfl C.t.range (ja (jo Zy (jb 1) jg) (ja (Q9 jg) (ja (Q9 jg) je)))) (jL 4 Zk.nd) (aaM.2 P w K mg base f cdv A outer s H E C hr))
  (jd (jD (alD (abG hr) (jb 3) jg)) ji)))⟩
noncomputable def Zl:List PyData->Option PyData:=jw abm 3 ac8.1
noncomputable abbrev an8:List Str:=["base","rods","number","digits","left"]
noncomputable def akd:Stmt->List Stmt
 | .While _ b _ _=>b
 | _=>[]
theorem afm:FnScope an8 ["base","rods","number"] (jf ZM):=⟨rfl,rfl,rfl,by decide +kernel,rfl,by decide +kernel,by decide +kernel⟩
noncomputable def aak:{ B:Rho->Option Out // abO 3 (fun _ _ _ mg _=>Bare mg) "digits_by_rods" ZM an8 0 (akd (JA (jK ZM) 2)) B }:=
 ⟨_,fun P w K mg base f cdv A outer s H E C hr=>
  jJ (aiO (ahQ 3 jg (jo Jc (jb 4) (jb 0))))
  (jJ (ab6 4 afm.nd (jo Jv (jb 4) (jb 0))) qj)⟩
noncomputable def an9:{ B:Rho->Option Out // zj (fun _ _ _ mg _=>Bare mg) "digits_by_rods" ZM an8 0 B }:=
 ⟨_,fun P w K mg base f cdv A outer s H E C hr=>
  Za (Zb 3 afm.nd (alA je)
  (jJ (ab6 4 afm.nd (jb 2))
  (jJ (ajP 10 PassesOwn.never (j2 ahA (jV JY C.len JZ (ja (jb 3) je)) (jo Zy (jb 1) jg)) (aak.2 P w K mg base f cdv A outer s H E C hr))
  (jJ (aax (jo jv (qw (ja (jb 4) je)) (jb 3))) qj))))⟩
noncomputable def al4:List PyData->Option PyData:=jw an8 3 an9.1
structure CPlainR (P:Program) (w:World) (K:PySem.W.Frag) (mg:Str->Option Value) (base:Heap):Prop where
 t:Bare mg
 dig:jm P w K mg base "digits_by_rods" ["base","rods","number"] 1 3 al4
 fewest:jm P w K mg base "fewest_beads" ["manner","worth"] 3 2 JO
noncomputable abbrev ZN:List Str:=["manner","rods","number","digits"]
theorem ZO:FnScope ZN ["manner","rods","number"] (jf ZL):=⟨rfl,rfl,rfl,by decide +kernel,rfl,by decide +kernel,by decide +kernel⟩
theorem ndd:(["digit","manner"]:List Str).Nodup:=by decide +kernel
noncomputable def ZP:{ B:Rho->Option Out // zj CPlainR "plain_rods" ZL ZN 3 B }:=
 ⟨_,fun P w K mg base f cdv A outer s H E C hr=>
  jd (jx 3 ZO.nd (jj C.dig hr (by decide) (ja (jT (jb 0) jg) (ja (jb 1) (ja (jb 2) je))) (jc (jc (jc jh)))))
  (jd (qO (j2 alc (jT (jb 3) jg) (jT (jb 0) jg)) QC ji)
  (jd (jD (abd alK C.t.tuple agn (ja (zn ["digit","manner"] [none,some 0] rfl (Jt (jb 3)) (qE (jf ZL) ZN (by decide +kernel))
   fun cl C' s0 H0 fp pn=>⟨jL 0 ndd,qH,jj C.fewest hr (Nat.le_refl _) (ja (jb 1) (ja (jb 0) je)) (jc (jc jh))⟩) je))) ji))⟩
noncomputable def aca:List PyData->Option PyData:=jw ZN 3 ZP.1
structure CPlainS (P:Program) (w:World) (K:PySem.W.Frag) (mg:Str->Option Value) (base:Heap):Prop where
 asked:jm P w K mg base "check_asked" ["manner","rods","number"] 5 3 ql
 rods:jm P w K mg base "plain_rods" ["manner","rods","number"] 4 3 aca
theorem aef:FnScope ["manner","rods","number"] ["manner","rods","number"] (jf aaK):=⟨rfl,rfl,rfl,by decide +kernel,rfl,by decide +kernel,by decide +kernel⟩
noncomputable def ZQ:{ B:Rho->Option Out // zj CPlainS "plain_setting" aaK ["manner","rods","number"] 5 B }:=
 ⟨_,fun P w K mg base f cdv A outer s H E C hr=>
  jd (zh (jj C.asked hr (Nat.le_refl _) (ja (jb 0) (ja (jb 1) (ja (jb 2) je))) (jc (jc (jc jh)))))
  (jd (jD (jj C.rods hr (by decide) (ja (jb 0) (ja (jb 1) (ja (jb 2) je))) (jc (jc (jc jh))))) ji)⟩
noncomputable def Je:List PyData->Option PyData:=jw ["manner","rods","number"] 3 ZQ.1
noncomputable abbrev JB:Stmt:=top 32
noncomputable abbrev JP:Stmt:=top 33
noncomputable abbrev ai0:Stmt:=top 40
noncomputable abbrev afn:Stmt:=top 41
noncomputable abbrev acb:Stmt:=top 42
noncomputable abbrev aaN:Stmt:=top 43
structure CLonger (P:Program) (w:World) (K:PySem.W.Frag) (mg:Str->Option Value) (base:Heap):Prop where
 last:jm P w K mg base "last_rods" ["manner","ahead","number"] 3 3 aed
noncomputable abbrev aaO:List Str:=["manner","ahead","ways","longer","number","rod","left"]
theorem Qr:FnScope aaO ["manner","ahead","ways"] (jf JP):=⟨rfl,rfl,rfl,by decide +kernel,rfl,by decide +kernel,by decide +kernel⟩
noncomputable def acd:{ B:Rho->Option Out // abO 3 CLonger "longer_ways" JP aaO 3 (j6 (JA (j6 (JA (jK JP) 1)) 0)) B }:=
 ⟨_,fun P w K mg base f cdv A outer s H E C hr=>
  jJ (aeZ 3 (abG hr) (jb 6) (jo jv (Zc (abG hr) (jb 3) (jb 6) jg) (ahN (abG hr) (jb 2) (jb 4)))) qj⟩
noncomputable def JC:{ B:Rho->Option Out // abO 3 CLonger "longer_ways" JP aaO 3 (j6 (JA (jK JP) 1)) B }:=
 ⟨_,fun P w K mg base f cdv A outer s H E C hr=>
  jJ (QF PassesOwn.never rfl (Jt (jj C.last hr (Nat.le_refl _) (ja (jb 0) (ja (jb 1) (ja (jb 4) je))) (jc (jc (jc jh))))) (aeY (n:=2) rfl (Ji 5 Qr.nd (Ji 6 Qr.nd acP))) (acd.2 P w K mg base f cdv A outer s H E C hr)) qj⟩
noncomputable def ace:{ B:Rho->Option Out // zj CLonger "longer_ways" JP aaO 3 B }:=
 ⟨_,fun P w K mg base f cdv A outer s H E C hr=>
  Za (Zb 3 Qr.nd acQ
  (jJ (QF PassesOwn.never rfl (acT (jb 2)) (aay 4 Qr.nd) (JC.2 P w K mg base f cdv A outer s H E C hr))
  (jJ (aax (jb 3)) qj)))⟩
noncomputable def acf:List PyData->Option PyData:=jw aaO 3 ace.1
structure CHow (P:Program) (w:World) (K:PySem.W.Frag) (mg:Str->Option Value) (base:Heap):Prop where
 t:Bare mg
 asked:jm P w K mg base "check_asked" ["manner","rods","number"] 5 3 ql
 longer:jm P w K mg base "longer_ways" ["manner","ahead","ways"] 4 3 acf
noncomputable abbrev ake:List Str:=["manner","rods","number","ways","ahead"]
theorem ac9:FnScope ake ["manner","rods","number"] (jf JB):=⟨rfl,rfl,rfl,by decide +kernel,rfl,by decide +kernel,by decide +kernel⟩
noncomputable def ada:{ B:Rho->Option Out // Z8 CHow "how_many" JB ake 5 (j6 (JA (jK JB) 2)) B }:=
 ⟨_,fun P w K mg base f cdv A outer s H E C hr=>
  jd (jx 3 ac9.nd (jj C.longer hr (by decide) (ja (jb 0) (ja (jb 4) (ja (jb 3) je))) (jc (jc (jc jh))))) ji⟩
noncomputable def al5:{ B:Rho->Option Out // zj CHow "how_many" JB ake 5 B }:=
 ⟨_,fun P w K mg base f cdv A outer s H E C hr=>
  jd (zh (jj C.asked hr (Nat.le_refl _) (ja (jb 0) (ja (jb 1) (ja (jb 2) je))) (jc (jc (jc jh)))))
  (jd (jx 3 ac9.nd (acU (jb 2) jg))
  (jd (zw PassesOwn.never rfl (aah rfl C.t.range (ja (jo Zy (jb 1) jg) (ja (Q9 jg) (ja (Q9 jg) je)))) (jL 4 ac9.nd) (ada.2 P w K mg base f cdv A outer s H E C hr))
  (jd (jD (Zc (abG hr) (jb 3) jg jg)) ji)))⟩
noncomputable def ah4:List PyData->Option PyData:=jw ake 3 al5.1
theorem aoa:FnScope ["_law_script","_law_k"] ["_law_script","_law_k"] (jf ai0):=⟨rfl,rfl,rfl,by decide +kernel,rfl,by decide +kernel,by decide +kernel⟩
noncomputable def ai1:{ B:Rho->Option Out // zj (fun _ _ _ mg _=>Bare mg) "_law_cell" ai0 ["_law_script","_law_k"] 0 B }:=
 ⟨_,fun P w K mg base f cdv A outer s H E C hr=>
  jd (qO (j2 (Q5 hr.units) (jb 0) (qw je)) (jd (jD (jo qv jg (jb 1))) ji) ji)
  (jd (jD (jo jv (jT (jb 0) (jo Jc (jb 1) (jV JY C.len JZ (ja (jb 0) je)))) (jo qv jg (jo Jv (jb 1) (jV JY C.len JZ (ja (jb 0) je)))))) ji)⟩
noncomputable def agu:List PyData->Option PyData:=jw ["_law_script","_law_k"] 2 ai1.1
structure CDrawn (P:Program) (w:World) (K:PySem.W.Frag) (mg:Str->Option Value) (base:Heap):Prop where
 cell:jm P w K mg base "_law_cell" ["_law_script","_law_k"] 1 2 agu
theorem adb:FnScope ["_law_script","_law_k","_law_many","_law_cell_here"] ["_law_script","_law_k","_law_many"] (jf afn):=⟨rfl,rfl,rfl,by decide +kernel,rfl,by decide +kernel,by decide +kernel⟩
noncomputable def ah5:{ B:Rho->Option Out // zj CDrawn "_law_drawn" afn ["_law_script","_law_k","_law_many","_law_cell_here"] 1 B }:=
 ⟨_,fun P w K mg base f cdv A outer s H E C hr=>
  jd (jx 3 adb.nd (jo Jc (jo jv (jo qv (jo Jc (jj C.cell hr (Nat.le_refl _) (ja (jb 0) (ja (jb 1) je)) (jc (jc jh))) jg) jg) (jo qv jg (jo jv (jb 1) jg))) jg))
  (jd (jx 3 adb.nd (jo Jc (jo jv (jo qv (jb 3) (jb 3)) (jo Jv (jb 3) jg)) jg))
  (jd (jD (jo Jc (jo Jv (jo Jc (jo jv (jo qv (jb 3) (jb 3)) (jo Jv (jb 3) jg)) jg) jg) (jb 2))) ji))⟩
noncomputable def JD:List PyData->Option PyData:=jw ["_law_script","_law_k","_law_many","_law_cell_here"] 3 ah5.1
noncomputable abbrev afo:List Str:=["_law_script","_law_at","_law_known","_law_way","_law_each","_law_upper","_law_lower"]
structure CManner (P:Program) (w:World) (K:PySem.W.Frag) (mg:Str->Option Value) (base:Heap):Prop where
 t:Bare mg
 drawn:jm P w K mg base "_law_drawn" ["_law_script","_law_k","_law_many"] 2 3 JD
theorem zM:FnScope afo ["_law_script","_law_at"] (jf acb):=⟨rfl,rfl,rfl,by decide +kernel,rfl,by decide +kernel,by decide +kernel⟩
noncomputable def jl (a b c d:Int):PyData:= .tuple [.int a,.int b,.int c,.int d]
noncomputable def abn:List PyData:=[jl 1 5 4 10,jl 2 5 5 10,jl 0 1 9 10,jl 1 5 5 10,jl 0 1 10 10,jl 1 2 1 4,jl 0 1 1 2]
noncomputable def abo:List PyData:=[jl 1 4 3 8,jl 1 3 2 5,jl 3 4 3 16,jl 2 3 2 7,jl 1 1 1 3]
noncomputable def acg:{ B:Rho->Option Out // zj CManner "_law_manner" acb afo 2 B }:=
 ⟨_,fun P w K mg base f cdv A outer s H E C hr=>
  jd (jx 2 zM.nd (Jw 3 (.list abn) (by kernel_rfl)))
  (jd (jx 2 zM.nd (jo jv (jb 2) (Jw 3 (.list abo) (by kernel_rfl))))
  (jd (jx 3 zM.nd (jj C.drawn hr (Nat.le_refl _) (ja (jb 0) (ja (jb 1) (ja (jo qv jg (jV JY C.t.len JZ (ja (jb 2) je))) je))) (jc (jc (jc jh)))))
  (jd (qO (j2 ahA (jb 3) (jV JY C.t.len JZ (ja (jb 2) je))) (jd (jD (jT (jb 2) (jb 3))) ji) ji)
  (jd (jx 4 zM.nd (jo jv jg (jj C.drawn hr (Nat.le_refl _) (ja (jb 0) (ja (jo jv (jb 1) jg) (ja jg je))) (jc (jc (jc jh))))))
  (jd (jx 5 zM.nd (jj C.drawn hr (Nat.le_refl _) (ja (jb 0) (ja (jo jv (jb 1) jg) (ja jg je))) (jc (jc (jc jh)))))
  (jd (jx 6 zM.nd (jo jv (jV (anE rfl) C.t.max alp (ja (jo Zy (jb 4) jg) (ja jg je))) (jj C.drawn hr (Nat.le_refl _) (ja (jb 0) (ja (jo jv (jb 1) jg) (ja jg je))) (jc (jc (jc jh))))))
  (jd (jD (za (ja (jb 5) (ja (jb 4) (ja (jb 6) (ja (jo jv jg (jj C.drawn hr (Nat.le_refl _) (ja (jb 0) (ja (jo jv (jb 1) jg) (ja (jV (aiH rfl) C.t.min acK (ja jg (ja (jo jv (jo qv (jb 5) (jb 4)) (jb 6)) je))) je))) (jc (jc (jc jh))))) je)))))) ji)))))))⟩
noncomputable def ZR:List PyData->Option PyData:=jw afo 2 acg.1
structure CSetting (P:Program) (w:World) (K:PySem.W.Frag) (mg:Str->Option Value) (base:Heap):Prop where
 t:Bare mg
 drawn:jm P w K mg base "_law_drawn" ["_law_script","_law_k","_law_many"] 2 3 JD
noncomputable abbrev aob:List Str:=["_law_script","_law_at","_law_manner_here","_law_most","_law_rods_here","_law_found","_law_k","_law_rod"]
theorem adc:FnScope aob ["_law_script","_law_at","_law_manner_here","_law_most"] (jf aaN):=⟨rfl,rfl,rfl,by decide +kernel,rfl,by decide +kernel,by decide +kernel⟩
noncomputable def aqf:{ B:Rho->Option Out // Z8 CSetting "_law_setting" aaN aob 2 (j6 (JA (jK aaN) 2)) B }:=
 ⟨_,fun P w K mg base f cdv A outer s H E C hr=>
  (jd (jx 7 adc.nd (za (ja (jj C.drawn hr (by decide) (ja (jb 0) (ja (jo jv (jo jv (jb 1) jg) (jo qv jg (jb 6))) (ja (jo jv (jT (jb 2) jg) jg) je))) (jc (jc (jc jh)))) (ja (jj C.drawn hr (by decide) (ja (jb 0) (ja (jo jv (jo jv (jb 1) jg) (jo qv jg (jb 6))) (ja (jo jv (jT (jb 2) jg) jg) je))) (jc (jc (jc jh)))) je))))
  (jd (jx 5 adc.nd (jo jv (jb 5) (za (ja (jb 7) je))))
  ji))⟩
noncomputable def ash:{ B:Rho->Option Out // zj CSetting "_law_setting" aaN aob 2 B }:=
 ⟨_,fun P w K mg base f cdv A outer s H E C hr=>
  (jd (jx 4 adc.nd (jo jv jg (jj C.drawn hr (by decide) (ja (jb 0) (ja (jb 1) (ja (jb 3) je))) (jc (jc (jc jh))))))
  (jd (jx 5 adc.nd (za je))
  (jd (zw PassesOwn.never rfl (qD rfl C.t.range (ja (jb 4) je)) (jL 6 adc.nd) (aqf.2 P w K mg base f cdv A outer s H E C hr))
  (jd (jD (jb 5))
  ji))))⟩
noncomputable def ass:List PyData->Option PyData:=jw aob 4 ash.1
noncomputable abbrev aaP (C:CC) (qual:Str) (st:Stmt) (N:List Str) (k:Nat) (Fx:Rho->Option Str):Prop:=
 ∀ (P:Program) (w:World) (K:PySem.W.Frag) (mg:Str->Option Value) (base:Heap) (f:Addr) (cdv:Value) (A:Around) (outer:List Env) (s:Shared) (H:Hp) (E:XK),C P w K mg base->Room k (A.deeper (envOfC qual (jf st) s.heap.objs.size f cdv))->
  ab1 (Jo (CXt P w) P w K mg base N qual (jf st) f cdv A outer s H E) (jK st) Fx
end Rods
namespace Rods
open PySem L2 BX
open PyProof.Rows hiding St
noncomputable abbrev qR:List Str:=["NoManner","NoSetting","NoNumber","NoMove","TooGreat","Nothing"]
noncomputable abbrev qo:Stmt:=top 31
structure CLongerEnds (P:Program) (w:World) (K:PySem.W.Frag) (mg:Str->Option Value) (base:Heap):Prop where
 c_last:jm P w K mg base "last_rods" ["manner","ahead","number"] 3 3 aed
noncomputable abbrev zt:List Str:=["manner","ahead","ends","longer","number","rod","left"]
theorem zk:FnScope zt ["manner","ahead","ends"] (jf qo):=⟨rfl,rfl,rfl,by decide +kernel,rfl,by decide +kernel,by decide +kernel⟩
theorem al6:(["end","rod"]:List Str).Nodup:=by decide +kernel
noncomputable def Jf:{ B:Rho->Option Out // abO 3 CLongerEnds "longer_ends" qo zt 3 (j6 (JA (j6 (JA (jK qo) 1)) 0)) B }:=
 ⟨_,fun P w K mg base f cdv A outer s H E C hr=>
  (jJ (aeZ 3 hr.units1 (jb 6) (jo jv (Zc hr.units1 (jb 3) (jb 6) (qw je)) (zn ["end","rod"] [none,some 5] rfl (zP (ahN hr.units1 (jb 2) (jb 4))) (qE (jf qo) zt (by decide +kernel))
   fun cl C' s0 H0 fp pn=>⟨(jL 0 al6),qH,(jo jv (za (ja (jb 1) je)) (jb 0))⟩)))
  qj)⟩
noncomputable def zD:{ B:Rho->Option Out // abO 3 CLongerEnds "longer_ends" qo zt 3 (j6 (JA (jK qo) 1)) B }:=
 ⟨_,fun P w K mg base f cdv A outer s H E C hr=>
  (jJ (QF PassesOwn.never rfl (zP (jj C.c_last hr (by decide) (ja (jb 0) (ja (jb 1) (ja (jb 4) je))) (jc (jc (jc jh))))) (aeY (n:=2) rfl (Ji 5 zk.nd (Ji 6 zk.nd acP))) (Jf.2 P w K mg base f cdv A outer s H E C hr))
  qj)⟩
noncomputable def JQ:{ B:Rho->Option Out // zj CLongerEnds "longer_ends" qo zt 3 B }:=
 ⟨_,fun P w K mg base f cdv A outer s H E C hr=>
  (Za (Zb 3 zk.nd acQ
  (jJ (QF PassesOwn.never rfl (acT (jb 2)) (aay 4 zk.nd) (zD.2 P w K mg base f cdv A outer s H E C hr))
  (jJ (aax (jb 3))
  qj))))⟩
noncomputable def zU:List PyData->Option PyData:=jw zt 3 JQ.1
noncomputable abbrev qF:Stmt:=top 30
structure CAllSettings (P:Program) (w:World) (K:PySem.W.Frag) (mg:Str->Option Value) (base:Heap):Prop where
 t:Bare mg
 c_asked:jm P w K mg base "check_asked" ["manner","rods","number"] 5 3 ql
 c_LongerEnds:jm P w K mg base "longer_ends" ["manner","ahead","ends"] 4 3 zU
noncomputable abbrev qX:List Str:=["manner","rods","number","ends","ahead"]
theorem qS:FnScope qX ["manner","rods","number"] (jf qF):=⟨rfl,rfl,rfl,by decide +kernel,rfl,by decide +kernel,by decide +kernel⟩
noncomputable def zl:{ B:Rho->Option Out // Z8 CAllSettings "all_settings" qF qX 5 (j6 (JA (jK qF) 2)) B }:=
 ⟨_,fun P w K mg base f cdv A outer s H E C hr=>
  (jd (jx 3 qS.nd (jj C.c_LongerEnds hr (by decide) (ja (jb 0) (ja (jb 4) (ja (jb 3) je))) (jc (jc (jc jh)))))
  ji)⟩
noncomputable def zE:{ B:Rho->Option Out // zj CAllSettings "all_settings" qF qX 5 B }:=
 ⟨_,fun P w K mg base f cdv A outer s H E C hr=>
  (jd (zh (jj C.c_asked hr (by decide) (ja (jb 0) (ja (jb 1) (ja (jb 2) je))) (jc (jc (jc jh)))))
  (jd (jx 3 qS.nd (acU (jb 2) (Jw 2 (.list [.tuple []]) (by kernel_rfl))))
  (jd (zw PassesOwn.never rfl (aah rfl C.t.range (ja (jo Zy (jb 1) jg) (ja (Q9 jg) (ja (Q9 jg) je)))) (jL 4 qS.nd) (zl.2 P w K mg base f cdv A outer s H E C hr))
  (jd (jD (jV (al0 hr.sort) C.t.sorted aeb (ja (Zc hr.units1 (jb 3) jg (qw je)) je)))
  ji))))⟩
noncomputable def qp:List PyData->Option PyData:=jw qX 3 zE.1
structure XCheck (P:Program) (w:World) (K:PySem.W.Frag) (mg:Str->Option Value) (base:Heap):Prop where
 c_isManner:jm P w K mg base "is_manner" ["thing"] 3 1 qx
 e_NoManner:ajX K mg "NoManner"
noncomputable def abp:{ F:Rho->Option Str // aaP XCheck "check_manner" ac5 ["thing"] 3 F }:=
 ⟨_,fun P w K mg base f cdv A outer s H E C hr=>
  (jX (ae3 (zO (zv (jj C.c_isManner hr (by decide) (ja (jb 0) je) (jc jh)))) (jX (ZB rfl C.e_NoManner rfl)) QG))⟩
noncomputable def aal:List PyData->Option Str:=JM ["thing"] 1 abp.1
structure XChkRods (P:Program) (w:World) (K:PySem.W.Frag) (mg:Str->Option Value) (base:Heap):Prop where
 c_isWhole:jm P w K mg base "is_whole" ["thing","least","most"] 1 3 qe
 k_MOST_RODS:GC K mg "MOST_RODS" (.int 4)
 e_NoNumber:ajX K mg "NoNumber"
noncomputable def Qs:{ F:Rho->Option Str // aaP XChkRods "check_rods" Jz ["rods"] 1 F }:=
 ⟨_,fun P w K mg base f cdv A outer s H E C hr=>
  (jX (ae3 (zO (zv (jj C.c_isWhole hr (by decide) (ja (jb 0) (ja jg (ja (jZ C.k_MOST_RODS) je))) (jc (jc (jc jh)))))) (jX (ZB rfl C.e_NoNumber rfl)) QG))⟩
noncomputable def Qt:List PyData->Option Str:=JM ["rods"] 1 Qs.1
structure XChkNum (P:Program) (w:World) (K:PySem.W.Frag) (mg:Str->Option Value) (base:Heap):Prop where
 c_isWhole:jm P w K mg base "is_whole" ["thing","least","most"] 1 3 qe
 k_MOST_NUMBER:GC K mg "MOST_NUMBER" (.int 99999)
 e_NoNumber:ajX K mg "NoNumber"
noncomputable def ZS:{ F:Rho->Option Str // aaP XChkNum "check_number" zB ["number"] 1 F }:=
 ⟨_,fun P w K mg base f cdv A outer s H E C hr=>
  (jX (ae3 (zO (zv (jj C.c_isWhole hr (by decide) (ja (jb 0) (ja jg (ja (jZ C.k_MOST_NUMBER) je))) (jc (jc (jc jh)))))) (jX (ZB rfl C.e_NoNumber rfl)) QG))⟩
noncomputable def aaQ:List PyData->Option Str:=JM ["number"] 1 ZS.1
structure XAsked (P:Program) (w:World) (K:PySem.W.Frag) (mg:Str->Option Value) (base:Heap):Prop where
 c_chkRods:jm P w K mg base "check_rods" ["rods"] 2 1 qy
 c_check:jm P w K mg base "check_manner" ["thing"] 4 1 J1
 x_check:Jd P w K mg base "check_manner" ["thing"] 4 1 aal
 x_chkRods:Jd P w K mg base "check_rods" ["rods"] 2 1 Qt
 x_chkNum:Jd P w K mg base "check_number" ["number"] 2 1 aaQ
noncomputable def J9:{ F:Rho->Option Str // aaP XAsked "check_asked" zT ["manner","rods","number"] 4 F }:=
 ⟨_,fun P w K mg base f cdv A outer s H E C hr=>
  (ae4 (jX (Jx (zS rfl C.x_check hr (by decide) (ja (jb 0) je) (jc jh)))) (ZA (zh (jj C.c_check hr (by decide) (ja (jb 0) je) (jc jh)))
  (ae4 (jX (Jx (zS rfl C.x_chkRods hr (by decide) (ja (jb 1) je) (jc jh)))) (ZA (zh (jj C.c_chkRods hr (by decide) (ja (jb 1) je) (jc jh)))
  (jX (Jx (zS rfl C.x_chkNum hr (by decide) (ja (jb 2) je) (jc jh))))))))⟩
noncomputable def zF:List PyData->Option Str:=JM ["manner","rods","number"] 3 J9.1
structure XPlainR (P:Program) (w:World) (K:PySem.W.Frag) (mg:Str->Option Value) (base:Heap):Prop where
 c_digits:jm P w K mg base "digits_by_rods" ["base","rods","number"] 1 3 al4
 e_TooGreat:ajX K mg "TooGreat"
noncomputable def ach:{ F:Rho->Option Str // aaP XPlainR "plain_rods" ZL ZN 3 F }:=
 ⟨_,fun P w K mg base f cdv A outer s H E C hr=>
  (ZA (jx 3 ZO.nd (jj C.c_digits hr (by decide) (ja (jT (jb 0) jg) (ja (jb 1) (ja (jb 2) je))) (jc (jc (jc jh)))))
  (jX (ae3 (j2 alc (jT (jb 3) jg) (jT (jb 0) jg)) (jX (ZB rfl C.e_TooGreat rfl)) QG)))⟩
noncomputable def afp:List PyData->Option Str:=JM ZN 3 ach.1
structure XPlainS (P:Program) (w:World) (K:PySem.W.Frag) (mg:Str->Option Value) (base:Heap):Prop where
 c_asked:jm P w K mg base "check_asked" ["manner","rods","number"] 5 3 ql
 x_asked:Jd P w K mg base "check_asked" ["manner","rods","number"] 5 3 zF
 x_plainR:Jd P w K mg base "plain_rods" ["manner","rods","number"] 4 3 afp
noncomputable def ZT:{ F:Rho->Option Str // aaP XPlainS "plain_setting" aaK ["manner","rods","number"] 5 F }:=
 ⟨_,fun P w K mg base f cdv A outer s H E C hr=>
  (ae4 (jX (Jx (zS rfl C.x_asked hr (by decide) (ja (jb 0) (ja (jb 1) (ja (jb 2) je))) (jc (jc (jc jh)))))) (ZA (zh (jj C.c_asked hr (by decide) (ja (jb 0) (ja (jb 1) (ja (jb 2) je))) (jc (jc (jc jh)))))
  (jX (aiT (zS rfl C.x_plainR hr (by decide) (ja (jb 0) (ja (jb 1) (ja (jb 2) je))) (jc (jc (jc jh))))))))⟩
noncomputable def aaR:List PyData->Option Str:=JM ["manner","rods","number"] 3 ZT.1
structure XAllSettings (P:Program) (w:World) (K:PySem.W.Frag) (mg:Str->Option Value) (base:Heap):Prop where
 x_asked:Jd P w K mg base "check_asked" ["manner","rods","number"] 5 3 zF
noncomputable def Jg:{ F:Rho->Option Str // aaP XAllSettings "all_settings" qF qX 5 F }:=
 ⟨_,fun P w K mg base f cdv A outer s H E C hr=>
  (jX (Jx (zS rfl C.x_asked hr (by decide) (ja (jb 0) (ja (jb 1) (ja (jb 2) je))) (jc (jc (jc jh))))))⟩
noncomputable def Jh:List PyData->Option Str:=JM qX 3 Jg.1
structure XHow (P:Program) (w:World) (K:PySem.W.Frag) (mg:Str->Option Value) (base:Heap):Prop where
 x_asked:Jd P w K mg base "check_asked" ["manner","rods","number"] 5 3 zF
noncomputable def aoc:{ F:Rho->Option Str // aaP XHow "how_many" JB ake 5 F }:=
 ⟨_,fun P w K mg base f cdv A outer s H E C hr=>
  (jX (Jx (zS rfl C.x_asked hr (by decide) (ja (jb 0) (ja (jb 1) (ja (jb 2) je))) (jc (jc (jc jh))))))⟩
noncomputable def aod:List PyData->Option Str:=JM ake 3 aoc.1
structure XLeast (P:Program) (w:World) (K:PySem.W.Frag) (mg:Str->Option Value) (base:Heap):Prop where
 x_asked:Jd P w K mg base "check_asked" ["manner","rods","number"] 5 3 zF
noncomputable def afq:{ F:Rho->Option Str // aaP XLeast "least_beads" aaj abm 5 F }:=
 ⟨_,fun P w K mg base f cdv A outer s H E C hr=>
  (jX (Jx (zS rfl C.x_asked hr (by decide) (ja (jb 0) (ja (jb 1) (ja (jb 2) je))) (jc (jc (jc jh))))))⟩
noncomputable def afr:List PyData->Option Str:=JM abm 3 afq.1
noncomputable abbrev ZU:Stmt:=top 44
structure CLValue (P:Program) (w:World) (K:PySem.W.Frag) (mg:Str->Option Value) (base:Heap):Prop where
 tr:True
noncomputable abbrev aci:List Str:=["_law_manner_here","_law_setting_here","_law_found","_law_upper","_law_lower"]
theorem Qu:FnScope aci ["_law_manner_here","_law_setting_here"] (jf ZU):=⟨rfl,rfl,rfl,by decide +kernel,rfl,by decide +kernel,by decide +kernel⟩
noncomputable def aaS:{ B:Rho->Option Out // Z8 CLValue "_law_value" ZU aci 0 (j6 (JA (jK ZU) 1)) B }:=
 ⟨_,fun P w K mg base f cdv A outer s H E C hr=>
  (jd (jx 2 Qu.nd (jo jv (jo jv (jo qv (jT (jb 0) jg) (jb 2)) (jo qv (jb 3) (jT (jb 0) jg))) (jb 4)))
  ji)⟩
noncomputable def acj:{ B:Rho->Option Out // zj CLValue "_law_value" ZU aci 0 B }:=
 ⟨_,fun P w K mg base f cdv A outer s H E C hr=>
  (jd (jx 2 Qu.nd jg)
  (jd (zw PassesOwn.never rfl (zP (jb 1)) (aiE (n:=2) rfl (Qe (jL 3 Qu.nd) (Qe (jL 4 Qu.nd) af1))) (aaS.2 P w K mg base f cdv A outer s H E C hr))
  (jd (jD (jb 2))
  ji)))⟩
noncomputable def QN:List PyData->Option PyData:=jw aci 2 acj.1
noncomputable abbrev aam:Stmt:=top 45
structure CLRods (P:Program) (w:World) (K:PySem.W.Frag) (mg:Str->Option Value) (base:Heap):Prop where
 t:Bare mg
noncomputable abbrev add:List Str:=["_law_manner_here","_law_found","_law_upper"]
theorem aaT:FnScope add ["_law_manner_here"] (jf aam):=⟨rfl,rfl,rfl,by decide +kernel,rfl,by decide +kernel,by decide +kernel⟩
theorem al7:(["_law_lower","_law_upper"]:List Str).Nodup:=by decide +kernel
noncomputable def afs:{ B:Rho->Option Out // Z8 CLRods "_law_rods" aam add 0 (j6 (JA (jK aam) 1)) B }:=
 ⟨_,fun P w K mg base f cdv A outer s H E C hr=>
  (jd (jx 1 aaT.nd (jo jv (jb 1) (zn ["_law_lower","_law_upper"] [none,some 2] rfl (qD rfl C.t.range (ja (jo jv (jT (jb 0) jg) jg) je)) (qE (jf aam) add (by decide +kernel))
   fun cl C' s0 H0 fp pn=>⟨(jL 0 al7),qH,(za (ja (jb 1) (ja (jb 0) je)))⟩)))
  ji)⟩
noncomputable def aft:{ B:Rho->Option Out // zj CLRods "_law_rods" aam add 0 B }:=
 ⟨_,fun P w K mg base f cdv A outer s H E C hr=>
  (jd (jx 1 aaT.nd (qw je))
  (jd (zw PassesOwn.never rfl (qD rfl C.t.range (ja (jo jv (jT (jb 0) jg) jg) je)) (jL 2 aaT.nd) (afs.2 P w K mg base f cdv A outer s H E C hr))
  (jd (jD (jb 1))
  ji)))⟩
noncomputable def aan:List PyData->Option PyData:=jw add 1 aft.1
noncomputable abbrev aaU:Stmt:=top 46
structure CLAll (P:Program) (w:World) (K:PySem.W.Frag) (mg:Str->Option Value) (base:Heap):Prop where
 t:Bare mg
 c_LRods:jm P w K mg base "_law_rods" ["_law_manner_here"] 1 1 aan
noncomputable abbrev aeg:List Str:=["_law_manner_here","_law_rods_here","_law_found","_law_k","_law_longer","_law_row"]
theorem QO:FnScope aeg ["_law_manner_here","_law_rods_here"] (jf aaU):=⟨rfl,rfl,rfl,by decide +kernel,rfl,by decide +kernel,by decide +kernel⟩
theorem al8:(["_law_rod","_law_row"]:List Str).Nodup:=by decide +kernel
noncomputable def afu:{ B:Rho->Option Out // Z8 CLAll "_law_all" aaU aeg 1 (j6 (JA (j6 (JA (jK aaU) 1)) 1)) B }:=
 ⟨_,fun P w K mg base f cdv A outer s H E C hr=>
  (jd (jx 4 QO.nd (jo jv (jb 4) (zn ["_law_rod","_law_row"] [none,some 5] rfl (zP (jj C.c_LRods hr (by decide) (ja (jb 0) je) (jc jh))) (qE (jf aaU) aeg (by decide +kernel))
   fun cl C' s0 H0 fp pn=>⟨(jL 0 al8),qH,(jo jv (jb 1) (za (ja (jb 0) je)))⟩)))
  ji)⟩
noncomputable def ade:{ B:Rho->Option Out // Z8 CLAll "_law_all" aaU aeg 1 (j6 (JA (jK aaU) 1)) B }:=
 ⟨_,fun P w K mg base f cdv A outer s H E C hr=>
  (jd (jx 4 QO.nd (qw je))
  (jd (zw PassesOwn.never rfl (zP (jb 2)) (jL 5 QO.nd) (afu.2 P w K mg base f cdv A outer s H E C hr))
  (jd (jx 2 QO.nd (jb 4))
  ji)))⟩
noncomputable def ai2:{ B:Rho->Option Out // zj CLAll "_law_all" aaU aeg 1 B }:=
 ⟨_,fun P w K mg base f cdv A outer s H E C hr=>
  (jd (jx 2 QO.nd (Jw 2 (.list [.tuple []]) (by kernel_rfl)))
  (jd (zw PassesOwn.never rfl (qD rfl C.t.range (ja (jb 1) je)) (jL 3 QO.nd) (ade.2 P w K mg base f cdv A outer s H E C hr))
  (jd (jD (jb 2))
  ji)))⟩
noncomputable def agv:List PyData->Option PyData:=jw aeg 2 ai2.1
noncomputable abbrev Jm:Stmt:=top 48
structure CLRefused (P:Program) (w:World) (K:PySem.W.Frag) (mg:Str->Option Value) (base:Heap):Prop where
 t:Bare mg
 errT:ErrT K mg "BeadError" qR
noncomputable abbrev abq:List Str:=["_law_e","_law_flags"]
theorem Zm:FnScope abq ["_law_e"] (jf Jm):=⟨rfl,rfl,rfl,by decide +kernel,rfl,by decide +kernel,by decide +kernel⟩
noncomputable def aeh:{ B:Rho->Option Out // ∀ (P:Program) (w:World) (K:PySem.W.Frag) (mg:Str->Option Value) (base:Heap) (f:Addr) (cdv:Value) (A:Around) (outer:List Env) (s:Shared) (H:Hp) (E:XK),CLRefused P w K mg base->RoomH 0 (A.deeper (envOfC "_law_refused" (jf Jm) s.heap.objs.size f cdv))->
  Z2 (cxH P w K mg base abq "_law_refused" (jf Jm) f cdv A outer s H E) (jK Jm) B }:=
 ⟨_,fun P w K mg base f cdv A outer s H E C hr=>
  (jd (jx 1 Zm.nd (qw (ja (ZC C.errT C.t.isi (jb 0)) (ja (ZC C.errT C.t.isi (jb 0)) (ja (ZC C.errT C.t.isi (jb 0)) je)))))
  (jd (jx 1 Zm.nd (jo jv (jb 1) (qw (ja (ZC C.errT C.t.isi (jb 0)) (ja (ZC C.errT C.t.isi (jb 0)) (ja (ZC C.errT C.t.isi (jb 0)) je))))))
  (jd (qO (Jq (aeO (j2 (JX hr.units) (aj4 (jb 1) JK) jg) (ab3 (zO (zv (anY C.errT C.t.isi C.t.vale (jb 0))))))) (jd (jD (za (ja aeM (ja (Q9 jg) je))))
  ji) ji)
  (jd (jD (za (ja aeM (ja (aj3 (jb 1) JK) je))))
  ji))))⟩
noncomputable def qJ:List PyData->Option PyData:=jw abq 1 aeh.1
noncomputable abbrev abr:Stmt:=top 49
structure CLTold (P:Program) (w:World) (K:PySem.W.Frag) (mg:Str->Option Value) (base:Heap):Prop where
 c_AllSettings:jm P w K mg base "all_settings" ["manner","rods","number"] 6 3 qp
 c_how:jm P w K mg base "how_many" ["manner","rods","number"] 6 3 ah4
 c_least:jm P w K mg base "least_beads" ["manner","rods","number"] 6 3 Zl
 c_plainS:jm P w K mg base "plain_setting" ["manner","rods","number"] 6 3 Je
 k_all_settings:GC K mg "all_settings" (fnD "all_settings")
 k_how_many:GC K mg "how_many" (fnD "how_many")
 k_least_beads:GC K mg "least_beads" (fnD "least_beads")
 k_plain_setting:GC K mg "plain_setting" (fnD "plain_setting")
 x_AllSettings:Jd P w K mg base "all_settings" ["manner","rods","number"] 6 3 Jh
 x_how:Jd P w K mg base "how_many" ["manner","rods","number"] 6 3 aod
 x_least:Jd P w K mg base "least_beads" ["manner","rods","number"] 6 3 afr
 x_plainS:Jd P w K mg base "plain_setting" ["manner","rods","number"] 6 3 aaR
 h_LRefused:ab7 P w K mg base "_law_refused" ["_law_e"] 1 1 qJ
 errT:ErrT K mg "BeadError" qR
noncomputable abbrev ah6:List Str:=["_law_way","_law_manner_here","_law_rods_here","_law_number","_law_e"]
theorem agw:FnScope ah6 ["_law_way","_law_manner_here","_law_rods_here","_law_number"] (jf abr):=⟨rfl,rfl,rfl,by decide +kernel,rfl,by decide +kernel,by decide +kernel⟩
noncomputable def qM:{ B:Rho->Option Out // ∀ (P:Program) (w:World) (K:PySem.W.Frag) (mg:Str->Option Value) (base:Heap) (f:Addr) (cdv:Value) (A:Around) (outer:List Env) (s:Shared) (H:Hp) (E:XK),CLTold P w K mg base->Room 6 (A.deeper (envOfC "_law_told" (jf abr) s.heap.objs.size f cdv))->
  alO (Jo CX0 P w K mg base ah6 "_law_told" (jf abr) f cdv A outer s H E) (jK abr) B }:=
 ⟨_,fun P w K mg base f cdv A outer s H E C hr=>
  (ajZ (alV (n:=5) 4 alN rfl agw.nd C.errT
   (fun E'=>(jd (jD (ahX (aaD C.c_AllSettings hr (by decide) (jT (qw (ja (jZ C.k_all_settings) (ja (jZ C.k_how_many) (ja (jZ C.k_least_beads) (ja (jZ C.k_plain_setting) je))))) (jb 0)) (ja (jb 1) (ja (jb 2) (ja (jb 3) je))) (jc (jc (jc jh)))) (ahX (aaD C.c_how hr (by decide) (jT (qw (ja (jZ C.k_all_settings) (ja (jZ C.k_how_many) (ja (jZ C.k_least_beads) (ja (jZ C.k_plain_setting) je))))) (jb 0)) (ja (jb 1) (ja (jb 2) (ja (jb 3) je))) (jc (jc (jc jh)))) (ahX (aaD C.c_least hr (by decide) (jT (qw (ja (jZ C.k_all_settings) (ja (jZ C.k_how_many) (ja (jZ C.k_least_beads) (ja (jZ C.k_plain_setting) je))))) (jb 0)) (ja (jb 1) (ja (jb 2) (ja (jb 3) je))) (jc (jc (jc jh)))) (aaD C.c_plainS hr (by decide) (jT (qw (ja (jZ C.k_all_settings) (ja (jZ C.k_how_many) (ja (jZ C.k_least_beads) (ja (jZ C.k_plain_setting) je))))) (jb 0)) (ja (jb 1) (ja (jb 2) (ja (jb 3) je))) (jc (jc (jc jh))))))))
  ji))
   (fun E'=>(jX (aiT (ahW (ZD rfl C.x_AllSettings hr (by decide) (jT (qw (ja (jZ C.k_all_settings) (ja (jZ C.k_how_many) (ja (jZ C.k_least_beads) (ja (jZ C.k_plain_setting) je))))) (jb 0)) (ja (jb 1) (ja (jb 2) (ja (jb 3) je))) (jc (jc (jc jh)))) (ahW (ZD rfl C.x_how hr (by decide) (jT (qw (ja (jZ C.k_all_settings) (ja (jZ C.k_how_many) (ja (jZ C.k_least_beads) (ja (jZ C.k_plain_setting) je))))) (jb 0)) (ja (jb 1) (ja (jb 2) (ja (jb 3) je))) (jc (jc (jc jh)))) (ahW (ZD rfl C.x_least hr (by decide) (jT (qw (ja (jZ C.k_all_settings) (ja (jZ C.k_how_many) (ja (jZ C.k_least_beads) (ja (jZ C.k_plain_setting) je))))) (jb 0)) (ja (jb 1) (ja (jb 2) (ja (jb 3) je))) (jc (jc (jc jh)))) (ZD rfl C.x_plainS hr (by decide) (jT (qw (ja (jZ C.k_all_settings) (ja (jZ C.k_how_many) (ja (jZ C.k_least_beads) (ja (jZ C.k_plain_setting) je))))) (jb 0)) (ja (jb 1) (ja (jb 2) (ja (jb 3) je))) (jc (jc (jc jh))))))))))
   (fun e=>(jd (jD (alQ C.h_LRefused (RoomH.mark (BX.Room.h (hr.mono (j:=1) (by decide)))) (ja (jb 4) je) (jc jh))) ji))) (anU ji))⟩
noncomputable def jM:List PyData->Option PyData:=jw ah6 4 qM.1
noncomputable abbrev JR:Stmt:=top 50
structure CLPlain (P:Program) (w:World) (K:PySem.W.Frag) (mg:Str->Option Value) (base:Heap):Prop where
 t:Bare mg
 c_LRods:jm P w K mg base "_law_rods" ["_law_manner_here"] 1 1 aan
noncomputable abbrev ZV:List Str:=["_law_manner_here","_law_rods_here","_law_number","_law_found","_law_k","_law_some"]
theorem Jn:FnScope ZV ["_law_manner_here","_law_rods_here","_law_number"] (jf JR):=⟨rfl,rfl,rfl,by decide +kernel,rfl,by decide +kernel,by decide +kernel⟩
theorem al9:(["_law_rod","_law_number","_law_manner_here"]:List Str).Nodup:=by decide +kernel
theorem agx:(["_law_rod"]:List Str).Nodup:=by decide +kernel
noncomputable def Zn:{ B:Rho->Option Out // Z8 CLPlain "_law_plain" JR ZV 1 (j6 (JA (jK JR) 1)) B }:=
 ⟨_,fun P w K mg base f cdv A outer s H E C hr=>
  (jd (acX 5 ["_law_rod","_law_number","_law_manner_here"] [none,some 2,some 0] rfl Jn.nd (zP (jj C.c_LRods hr (by decide) (ja (jb 0) je) (jc jh))) (qE (jf JR) ZV (by decide +kernel))
   fun cl C' s0 H0 fp pn=>⟨(jL 0 al9),(acF (j2 (Q5 hr.units) (jo jv (jo qv (jT (jb 0) jg) (jT (jb 2) jg)) (jT (jb 0) jg)) (jo Jc (jb 1) (jT (jb 2) jg)))),(jb 0)⟩)
  (jd (jx 3 Jn.nd (jo jv (za (ja (jT (jT (jV (alX hr.sort) C.t.sorted aeb (ja (zn ["_law_rod"] [none] rfl (zP (jb 5)) (qE (jf JR) ZV (by decide +kernel))
   fun cl C' s0 H0 fp pn=>⟨(jL 0 agx),qH,(za (ja (jV (ahB rfl) C.t.sum ah0 (ja (jb 0) je)) (ja (jb 0) je)))⟩) je)) jg) jg) je)) (jb 3)))
  (jd (jx 2 Jn.nd (jo Jv (jb 2) (jT (jb 0) jg)))
  ji)))⟩
noncomputable def ack:{ B:Rho->Option Out // zj CLPlain "_law_plain" JR ZV 1 B }:=
 ⟨_,fun P w K mg base f cdv A outer s H E C hr=>
  (jd (jx 3 Jn.nd (za je))
  (jd (zw PassesOwn.never rfl (qD rfl C.t.range (ja (jb 1) je)) (jL 4 Jn.nd) (Zn.2 P w K mg base f cdv A outer s H E C hr))
  (jd (jD (are (j2 (Q5 hr.units) (jb 2) jg) (jb 3) (Jw 2 (.tuple [.str "refused",.int 4]) (by kernel_rfl))))
  ji)))⟩
noncomputable def ZW:List PyData->Option PyData:=jw ZV 3 ack.1
noncomputable abbrev adf:Stmt:=top 51
structure CLaw (P:Program) (w:World) (K:PySem.W.Frag) (mg:Str->Option Value) (base:Heap):Prop where
 t:Bare mg
 c_manner:jm P w K mg base "_law_manner" ["_law_script","_law_at"] 3 2 ZR
 c_drawn:jm P w K mg base "_law_drawn" ["_law_script","_law_k","_law_many"] 2 3 JD
 c_LRods:jm P w K mg base "_law_rods" ["_law_manner_here"] 1 1 aan
 c_LAll:jm P w K mg base "_law_all" ["_law_manner_here","_law_rods_here"] 2 2 agv
 c_LValue:jm P w K mg base "_law_value" ["_law_manner_here","_law_setting_here"] 1 2 QN
 c_LTold:jm P w K mg base "_law_told" ["_law_way","_law_manner_here","_law_rods_here","_law_number"] 7 4 jM
 c_LPlain:jm P w K mg base "_law_plain" ["_law_manner_here","_law_rods_here","_law_number"] 2 3 ZW
noncomputable abbrev agy:List Str:=["_law_script","_law_manner_here","_law_rods_here","_law_rows","_law_number","_law_due","_law_sums","_law_odd","_law_bad"]
noncomputable def aqg:Expr->Scope
 | .ListComp _ _ sc _=>sc
 | _=>⟨.function,[],false,false,[]⟩
noncomputable def asi:Stmt->Expr
 | .Assign _ e _=>e
 | _=> .Constant .none 0 ⟨0,0,0,0⟩
noncomputable abbrev aoe:Scope:=relabel (aqg (asi (JA (jK adf) 6))) (envOfC "law" (jf adf) 0 0 .none)
theorem QP:FnScope agy ["_law_script"] (jf adf):=⟨rfl,rfl,rfl,by decide +kernel,rfl,by decide +kernel,by decide +kernel⟩
theorem ama:(["_law_setting_here","_law_number","_law_manner_here"]:List Str).Nodup:=by decide +kernel
theorem amb:(["_law_setting_here"]:List Str).Nodup:=by decide +kernel
theorem amc:(["_law_way","_law_manner_here","_law_rods_here","_law_odd"]:List Str).Nodup:=by decide +kernel
theorem amd:(["_law_way","_law_manner_here","_law_bad","_law_number"]:List Str).Nodup:=by decide +kernel
theorem ame:(["_law_way","_law_bad","_law_odd","_law_manner_here"]:List Str).Nodup:=by decide +kernel
noncomputable def amf:{ B:Rho->Option Out // zj CLaw "law" adf agy 7 B }:=
 ⟨_,fun P w K mg base f cdv A outer s H E C hr=>
  (jd (jx 1 QP.nd (jj C.c_manner hr (by decide) (ja (jb 0) (ja jg je)) (jc (jc jh))))
  (jd (jx 2 QP.nd (jo jv jg (jj C.c_drawn hr (by decide) (ja (jb 0) (ja jg (ja (jo jv jg (abd alY C.t.int al1 (ja (ahx ahA (jV JY C.t.len JZ (ja (jj C.c_LRods hr (by decide) (ja (jb 1) je) (jc jh)) je)) jg) je))) je))) (jc (jc (jc jh))))))
  (jd (jx 3 QP.nd (jj C.c_LAll hr (by decide) (ja (jb 1) (ja (jb 2) je)) (jc (jc jh))))
  (jd (jx 4 QP.nd (jo jv (jj C.c_LValue hr (by decide) (ja (jb 1) (ja (jT (jb 3) (jj C.c_drawn hr (by decide) (ja (jb 0) (ja jg (ja (jV JY C.t.len JZ (ja (jb 3) je)) je))) (jc (jc (jc jh))))) je)) (jc (jc jh))) (jT (Jw 2 (.list [.int 0,.int 0,.int 1,.int 40]) (by kernel_rfl)) (jj C.c_drawn hr (by decide) (ja (jb 0) (ja jg (ja jg je))) (jc (jc (jc jh)))))))
  (jd (acX 5 ["_law_setting_here","_law_number","_law_manner_here"] [none,some 4,some 1] rfl QP.nd (zP (jb 3)) (qE (jf adf) agy (by decide +kernel))
   fun cl C' s0 H0 fp pn=>⟨(jL 0 ama),(acF (j2 (Q5 hr.units) (jj C.c_LValue hr (by decide) (ja (jb 2) (ja (jb 0) je)) (jc (jc jh))) (jb 1))),(jb 0)⟩)
  (jd (qO (Jq (aeO (j2 (JX hr.units) (jj C.c_LTold hr (by decide) (ja jg (ja (jb 1) (ja (jb 2) (ja (jb 4) je)))) (jc (jc (jc (jc jh))))) (jb 5)) (ab3 (j2 (JX hr.units) (jj C.c_LTold hr (by decide) (ja jg (ja (jb 1) (ja (jb 2) (ja (jb 4) je)))) (jc (jc (jc (jc jh))))) (jV JY C.t.len JZ (ja (jb 5) je)))))) (jd (jD JK)
  ji) ji)
  (jd (acX 6 ["_law_setting_here"] [none] rfl QP.nd (zP (jb 5)) (qE (jf adf) agy (by decide +kernel))
   fun cl C' s0 H0 fp pn=>⟨(jL 0 amb),qH,(jV (ahB rfl) C.t.sum ah0 (ja (zn ["_law_rod"] [none] rfl (zP (jb 0)) (qE aoe ["_law_setting_here"] (by decide +kernel))
   fun cl C' s0 H0 fp pn=>⟨(jL 0 agx),qH,(jV (ahB rfl) C.t.sum ah0 (ja (jb 0) je))⟩) je))⟩)
  (jd (qO (Jq (aeN (j2 (JX hr.units) (jj C.c_LTold hr (by decide) (ja jg (ja (jb 1) (ja (jb 2) (ja (jb 4) je)))) (jc (jc (jc (jc jh))))) (jV (anK rfl) C.t.min acK (ja (jo jv (jb 6) (Jw 2 (.list [.int 999]) (by kernel_rfl))) je))) (acC (j2 (JX hr.units) (jb 5) (qw je))))) (jd (jD JK)
  ji) ji)
  (jd (qO (Jq (aeN (j2 (Q5 hr.units) (jb 5) (qw je)) (acC (j2 alI (jj C.c_LTold hr (by decide) (ja jg (ja (jb 1) (ja (jb 2) (ja (jb 4) je)))) (jc (jc (jc (jc jh))))) ahw)))) (jd (jD JK)
  ji) ji)
  (jd (qO (j2 (JX hr.units) (jj C.c_LTold hr (by decide) (ja jg (ja (jb 1) (ja (jb 2) (ja (jb 4) je)))) (jc (jc (jc (jc jh))))) (jj C.c_LPlain hr (by decide) (ja (jb 1) (ja (jb 2) (ja (jb 4) je))) (jc (jc (jc jh))))) (jd (jD JK)
  ji) ji)
  (jd (qO (j2 (JX hr.units) (jj C.c_LTold hr (by decide) (ja jg (ja (jb 1) (ja jg (ja (jb 4) je)))) (jc (jc (jc (jc jh))))) (jj C.c_LPlain hr (by decide) (ja (jb 1) (ja jg (ja (jb 4) je))) (jc (jc (jc jh))))) (jd (jD JK)
  ji) ji)
  (jd (jx 7 QP.nd (jT (qw (ja (Q9 jg) (ja jg (ja ahw (ja JK (ja aeM je)))))) (jj C.c_drawn hr (by decide) (ja (jb 0) (ja jg (ja jg je))) (jc (jc (jc jh))))))
  (jd (jx 8 QP.nd (jT (Jw 2 (.list [.int 0,.int 5,.none,.bool true,.str "1"]) (by kernel_rfl)) (jj C.c_drawn hr (by decide) (ja (jb 0) (ja jg (ja jg je))) (jc (jc (jc jh))))))
  (jd (qO (j2 (JX hr.units) (zn ["_law_way","_law_manner_here","_law_rods_here","_law_odd"] [none,some 1,some 2,some 7] rfl (qD rfl C.t.range (ja jg je)) (qE (jf adf) agy (by decide +kernel))
   fun cl C' s0 H0 fp pn=>⟨(jL 0 amc),qH,(jj C.c_LTold hr (by decide) (ja (jb 0) (ja (jb 1) (ja (jb 2) (ja (jb 3) je)))) (jc (jc (jc (jc jh)))))⟩) (jo acW (Jw 3 (.list [.tuple [.str "refused",.int 2]]) (by kernel_rfl)) jg)) (jd (jD JK)
  ji) ji)
  (jd (qO (j2 (JX hr.units) (zn ["_law_way","_law_manner_here","_law_bad","_law_number"] [none,some 1,some 8,some 4] rfl (qD rfl C.t.range (ja jg je)) (qE (jf adf) agy (by decide +kernel))
   fun cl C' s0 H0 fp pn=>⟨(jL 0 amd),qH,(jj C.c_LTold hr (by decide) (ja (jb 0) (ja (jb 1) (ja (jb 2) (ja (jb 3) je)))) (jc (jc (jc (jc jh)))))⟩) (jo acW (Jw 3 (.list [.tuple [.str "refused",.int 2]]) (by kernel_rfl)) jg)) (jd (jD JK)
  ji) ji)
  (jd (jD (ahx (Q5 hr.units) (zn ["_law_way","_law_bad","_law_odd","_law_manner_here"] [none,some 8,some 7,some 1] rfl (qD rfl C.t.range (ja jg je)) (qE (jf adf) agy (by decide +kernel))
   fun cl C' s0 H0 fp pn=>⟨(jL 0 ame),qH,(jj C.c_LTold hr (by decide) (ja (jb 0) (ja (abd aj9 C.t.list an3 (ja (jb 3) je)) (ja (jb 1) (ja (jb 2) je)))) (jc (jc (jc (jc jh)))))⟩) (jo acW (Jw 3 (.list [.tuple [.str "refused",.int 0]]) (by kernel_rfl)) jg)))
  ji))))))))))))))))⟩
noncomputable def aof:List PyData->Option PyData:=jw agy 1 amf.1
theorem qf (i a b:Int):qe [.int i,.int a,.int b]=some (.bool (decide (a<=i) && decide (i<=b))):=by
 by_cases h:a<=i <;> simp [qe,jw,aaH,jE,jI,ifS,orB,tst,lkp,ab0,tyn,asB,Jp,chn,Qg,qG,qq,h]
theorem aaV (u e l b x y:Int) (h:-18446744073709551616 < x/\x < 18446744073709551616):qI [.tuple [.int u,.int e,.int l,.int b],.tuple [.int x,.int y]]=some (.int (x*e+y)):=by
 simp [qI,jw,abj,jE,jI,op2,lkp,dIx,atI,ixN,qG,qq,cst,Ju,qV,h]
theorem ZX (x y:Int):qr [.tuple [.int x,.int y]]=some (.int (x+y)):=by
 simp [qr,jw,ah2,jE,jI,op2,lkp,dIx,atI,ixN,qG,qq,cst,qV]
theorem ah7 {n:Nat}{i:Int} (h0:0<=i) (h:i.toNat < n):ixN n i=some i.toNat:=by
 unfold ixN
 rw [if_pos h0,if_pos (by omega)]
noncomputable def okN (u e l b:Int):Bool:=decide (0<=u) && decide (u<=3) && decide (1<=e) && decide (e<=5) && decide (e - 1<=l) && decide (1<=l) && decide (l<=11) && decide (2<=b) && decide (b<=16) && decide (b<=u*e+l+1)
noncomputable def jy (u l:Int):List PyData:=qZ (u+1).toNat (l+1).toNat
noncomputable def jp (e:Int):PyData->Int
 | .tuple [.int x,.int y]=>x*e+y
 | _=>-1
noncomputable def fpr (m:PyData) (d:Int):Int × Int:=match JO [m,.int d] with
 | some (.tuple [.int x,.int y])=>(x,y)
 | _=>(0,0)
noncomputable def pr (p:Int × Int):PyData:= .tuple [.int p.1,.int p.2]
noncomputable def jH (ps:List (Int × Int)):PyData:= .tuple (ps.map pr)
noncomputable def okP (u l:Int) (p:Int × Int):Bool:=decide (0<=p.1) && decide (p.1<=u) && decide (0<=p.2) && decide (p.2<=l)
noncomputable def okS (u l:Int) (ps:List (Int × Int)):Bool:=decide (1<=ps.length) && decide (ps.length<=4) && ps.all (okP u l)
noncomputable def wt (e:Int) (p:Int × Int):Int:=p.1*e+p.2
noncomputable def val (b e:Int) (ps:List (Int × Int)):Int:=ps.foldl (fun n p=>n*b+wt e p) 0
noncomputable def bds (ps:List (Int × Int)):Int:=(ps.map fun p=>p.1+p.2).sum
noncomputable def dgl (b:Int):Nat->Int->List Int
 | 0,_=>[]
 | 1,n=>[n]
 | k+2,n=>dgl b (k+1) (n / b)++[n % b]
noncomputable def pln (m:PyData) (b:Int) (r:Nat) (n:Int):List (Int × Int):=(dgl b r n).map (fpr m)
noncomputable def f00:Int × Int:=(0,0)
noncomputable def arA (e:Int):List Int->List PyData->List Int
 | c,[]=>c
 | c,r::rs=>arA e (c.set (jp e r).toNat (c.getD (jp e r).toNat 0+1)) rs
noncomputable def arB (u e l:Int):List Int:=arA e (List.replicate (u*e+l+1).toNat 0) (jy u l)
noncomputable def cnt (u e l n:Int):Int:=((jy u l).filter fun r=>jp e r == n).length
noncomputable def okM (u e l b:Int):Bool:=decide (0<=u) && decide (u<=3) && decide (1<=e) && decide (e<=5) && decide (e - 1<=l) && decide (1<=l) && decide (l<=10) && decide (2<=b) && decide (b<=16) && decide (b<=u*e+l+1)
theorem abt {n m:Nat}{d:PyData} (h:d ∈ qZ n m):∃ i j:Nat,i < n/\j < m/\d= .tuple [.int i,.int j]:=by
 obtain ⟨i,hi,hd⟩:=List.mem_flatMap.mp h
 obtain ⟨j,hj,rfl⟩:=List.mem_map.mp hd
 exact ⟨i,j,List.mem_range.mp hi,List.mem_range.mp hj,rfl⟩
theorem aaW (i:Int):okD (.int i)=true:=by simp [okD,PyData.canLay0,PyData.depth]
theorem Zo {u e l b:Int} (hu:0<=u) (hu':u < 100) (hl:0<=l) (hl':l < 100):zA [jl u e l b]=some (.list (jy u l)):=by
 simp [zA,jl,jy,hu,hl,show u < 1000 by omega,show l < 1000 by omega]
theorem Zp {u l:Int} (hu':u < 100) (hl':l < 100):few (jy u l)=true:=by
 simp only [few,jy,Qo,decide_eq_true_eq]
 have:(u+1).toNat*(l+1).toNat<=100*100:=Nat.mul_le_mul (by omega) (by omega)
 omega
theorem abu {u e l b:Int} (hu':u < 100) {d:PyData} (h:d ∈ jy u l):qI [jl u e l b,d]=some (.int (jp e d)):=by
 obtain ⟨i,j,hi,hj,rfl⟩:=abt h
 exact aaV u e l b i j (by omega)
theorem adg {α:Type} (f:α->Int):∀ xs:List α,zp (xs.map fun d=>PyData.int (f d))=some (xs.map f)
 | []=>rfl
 | x::xs=>by simp [zp,QX,adg f xs]
theorem amg (ns:List Int):okD (.list (ns.map PyData.int))=true:=by
 have h1:∀ ns:List Int,PyData.canLayAll0 (ns.map PyData.int)=true:=fun ns=>by
  induction ns with
  | nil=>rfl
  | cons n ns ih=>simp [PyData.canLayAll0,PyData.canLay0,ih]
 have h2:∀ ns:List Int,PyData.depthAll (ns.map PyData.int)=0:=fun ns=>by
  induction ns with
  | nil=>rfl
  | cons n ns ih=>simp [PyData.depthAll,PyData.depth,ih]
 simp [okD,PyData.canLay0,h1,PyData.depth,h2]
theorem amh (ns:List Int) (d:Int):(ns.map PyData.int).any (fun z=>PyData.eqv z (.int d))=ns.any (fun z=>z == d):=by
 induction ns with
 | nil=>rfl
 | cons n ns ih=>simp only [List.map_cons,List.any_cons,ih]; rfl
theorem ai3 {α:Type} (f:α->Bool):∀ xs:List α,bls (xs.map fun d=>PyData.bool (f d))=some (xs.map f)
 | []=>rfl
 | x::xs=>by simp [bls,asB,ai3 f xs]
theorem ix0 (u e l b:Int):dIx (jl u e l b) (.int 0)=some (.int u):=rfl
theorem ix1 (u e l b:Int):dIx (jl u e l b) (.int 1)=some (.int e):=rfl
theorem ix2 (u e l b:Int):dIx (jl u e l b) (.int 2)=some (.int l):=rfl
theorem ix3 (u e l b:Int):dIx (jl u e l b) (.int 3)=some (.int b):=rfl
theorem acl {j:Int} (h:0<=j) (h':j < 1000000):acE [.int j]=some (zQ 0 j.toNat):=by
 unfold acE
 exact if_pos (by omega)
theorem afv (a b:Int):PyData.eqv (.int a) (.int b)=(a == b):=by unfold PyData.eqv; rfl
theorem adh {u e l b:Int} (hu:0<=u) (hu':u < 100) (hl:0<=l) (hl':l < 100) (hb:0<=b) (hb':b < 100):aaI [jl u e l b]=some (.bool ((List.range b.toNat).all fun d=>((jy u l).map (jp e)).any fun z=>z == (d:Int))):=by
 have h1:=Zo (e:=e) (b:=b) hu hu' hl hl'
 have h2:=Zp hu' hl'
 have h4:few (zQ 0 b.toNat)=true:=by simp [few,zQ]; omega
 simp only [aaI,jw,afg,jE,jI,qG,j9,itL,jB,jk,ju,lkp,JW,List.length_cons,List.length_nil,zzM,List.map_cons,List.map_nil,List.cons_append,List.nil_append,zzA,zzC,zzD,zzE,h1,h2,JH,qU]
 rw [Zz (fun d=> .int (jp e d))]
 ·simp only [jA,qq,op2,cst,lkp,zzD,zzE,zzF,zzG,List.replicate,List.length_cons,List.length_nil,zzA,zzB,zzC,ix3,acl hb (show b < 1000000 by omega),h4,zzM]
  rw [Zz (fun d=> .bool (((jy u l).map (jp e)).any fun z=>z == (QX d).getD 0))]
  ·have:(zQ 0 b.toNat).map (fun d=>PyData.bool (((jy u l).map (jp e)).any fun z=>z == (QX d).getD 0))=(List.range b.toNat).map fun (d:Nat)=>PyData.bool (((jy u l).map (jp e)).any fun z=>z == (d:Int)):=by
    simp [zQ,QX,Function.comp_def]
   simp only [zzE,zzD,this,apZ,ai3 (fun (d:Nat)=>((jy u l).map (jp e)).any fun z=>z == (d:Int)),List.all_map,Function.comp_def,id]
  ·intro d hd
   obtain ⟨k,_,rfl⟩:=List.mem_map.mp hd
   have h5:(jy u l).map (fun d=>PyData.int (jp e d))=((jy u l).map (jp e)).map PyData.int:=by simp
   have h6:=amg ((jy u l).map (jp e))
   simp only [op2,lkp,zzG,zzA,zzB,zzC,zzD,dIn,aaW,h5,h6,amh]
   simp [QX]
 ·intro d hd
  simp [jB,jk,ju,lkp,abu (b:=b) (e:=e) hu' hd]
theorem afw {u e l b:Int} (hu:0<=u) (hu':u<=3) (he:1<=e) (he':e<=16) (hl:0<=l) (hl':l<=12) (hb:2<=b) (hb':b<=16):qx [jl u e l b]=aaI [jl u e l b]:=by
 have g:=adh (e:=e) hu (by omega) hl (by omega) (show 0<=b by omega) (by omega)
 have w1:qe [.int u,.int 0,.int 3]=some (.bool true):=by rw [qf]; simp [hu,hu']
 have w2:qe [.int e,.int 1,.int 16]=some (.bool true):=by rw [qf]; simp [he,he']
 have w3:qe [.int l,.int 0,.int 12]=some (.bool true):=by rw [qf]; simp [hl,hl']
 have w4:qe [.int b,.int 2,.int 16]=some (.bool true):=by rw [qf]; simp [hb,hb']
 have z:aiJ [jl u e l b,.tuple [.int 0,.int 1,.int 0,.int 2],.tuple [.int 3,.int 16,.int 12,.int 16]]=some [.tuple [.int u,.int 0,.int 3],.tuple [.int e,.int 1,.int 16],.tuple [.int l,.int 0,.int 12],.tuple [.int b,.int 2,.int 16]]:=rfl
 rw [g]
 rw [show jl u e l b= .tuple [.int u,.int e,.int l,.int b] from rfl] at g z ⊢
 simp [qx,jw,abk,jE,jI,ifS,orB,Jp,tst,ab0,tyn,asB,lkp,op2,jB,jk,ju,abZ,cst,dNe,aaW,afv,qq,zR,z,jO,Q4,j4,Js,jA,w1,w2,w3,w4,qG,g]
theorem Qv {m:PyData} (h:qx [m]=some (.bool true)):J1 [m]=some .none:=by
 simp [J1,jw,afh,jE,jI,ifS,Jp,tst,asB,jB,jk,ju,lkp,h,qq]
theorem QQ:few []=true:=by simp [few]
theorem add_int (i j:Int):qV (.int i) (.int j)=some (.int (i+j)):=rfl
theorem qz {i j:Int} (h:-1000000000000 < i/\i < 1000000000000):Ju (.int i) (.int j)=some (.int (i*j)):=by
 unfold Ju; exact if_pos (.inl ⟨by omega,by omega⟩)
theorem QR {i j:Int} (h:0 < j):aeR (.int i) (.int j)=some (.int (i % j)):=by unfold aeR; exact if_pos h
theorem JE {i j:Int} (h:0 < j) (h':j < 1000000000):acG (.int i) (.int j)=some (.int (i / j)):=by unfold acG; exact if_pos ⟨h,by omega⟩
theorem ami (ns:List Int) (hn:ns.length < 1000000) (k:Int) (hk:0<=k):∃ c,agu [scr ns,.int k]=some (.int c):=by
 cases ns with
 | nil=>
  refine ⟨7*k,?_⟩
  simp [agu,jw,ai1,jE,jI,ifS,tst,op2,lkp,JV,ju,few,dEq,scr,zY,asB,qG,cst,qz,qq]
 | cons n ns=>
  have hl:0 < (((n::ns).map fun n=>(PyData.int n,PyData.none)).length:Int):=by simp
  have hl':(((n::ns).map fun n=>(PyData.int n,PyData.none)).length:Int) < 1000000:=by simp at hn ⊢; omega
  have hsc:=adY (n::ns)
  have e1:dEq (scr (n::ns)) (.list [])=some (.bool false):=by
   show (if zY ((n::ns).map fun n=>(PyData.int n,PyData.none))=true then some (PyData.bool ((n::ns).map fun n=>(PyData.int n,PyData.none)).isEmpty) else none)=_
   rw [if_pos hsc]; rfl
  have e2:abZ [scr (n::ns)]=some (.int (((n::ns).map fun n=>(PyData.int n,PyData.none)).length)):=by
   show (if zY ((n::ns).map fun n=>(PyData.int n,PyData.none))=true then some (PyData.int ((n::ns).map fun n=>(PyData.int n,PyData.none)).length) else none)=_
   rw [if_pos hsc]
  generalize hL:(((n::ns).map fun n=>(PyData.int n,PyData.none)).length:Int)=L at*
  have h0:0<=k % L:=Int.emod_nonneg _ (by omega)
  have h1:k % L < L:=Int.emod_lt_of_pos _ hl
  have e3:∃ c,dIx (scr (n::ns)) (.int (k % L))=some (.int c):=by
   have hlen:((n::ns).map fun n=>(PyData.int n,PyData.none)).length < 1000000:=by omega
   have hlt:(k % L).toNat < ((n::ns).map fun n=>(PyData.int n,PyData.none)).length:=by omega
   have hx:ixN ((n::ns).map fun n=>(PyData.int n,PyData.none)).length (k % L)=some (k % L).toNat:=ah7 h0 hlt
   refine ⟨((n::ns)[(k % L).toNat]'(by simpa using hlt)),?_⟩
   show (if ((n::ns).map fun n=>(PyData.int n,PyData.none)).length < 1000000/\zY ((n::ns).map fun n=>(PyData.int n,PyData.none))=true then (atI ((n::ns).map fun n=>(PyData.int n,PyData.none)) (k % L)).map (·.1) else none)=_
   rw [if_pos ⟨hlen,hsc⟩]
   unfold atI
   rw [hx,zzD,List.getElem?_eq_getElem hlt,zzE,List.getElem_map]
  obtain ⟨c,e3⟩:=e3
  refine ⟨c+6553*(k / L),?_⟩
  simp [agu,jw,ai1,jE,jI,ifS,tst,op2,lkp,JV,ju,few,asB,qG,cst,qq,jB,jk,e1,e2,e3,QR hl,JE hl (show L < 1000000000 by omega),qz,add_int]
theorem qK (ns:List Int) (hn:ns.length < 1000000) (k m:Int) (hk:0<=k) (hm:0 < m):∃ r,JD [scr ns,.int k,.int m]=some (.int r)/\0<=r/\r < m:=by
 obtain ⟨c,hc⟩:=ami ns hn k hk
 generalize h1:(c % 2147483563*69069+104723*(k+1)) % 2147483563=a
 generalize h2:(a*a+a / 3) % 2147483399=d
 have ha:0<=a/\a < 2147483563:=by rw [←h1]; exact ⟨Int.emod_nonneg _ (by omega),Int.emod_lt_of_pos _ (by omega)⟩
 have hd:0<=d/\d < 2147483399:=by rw [←h2]; exact ⟨Int.emod_nonneg _ (by omega),Int.emod_lt_of_pos _ (by omega)⟩
 have hc':0<=c % 2147483563/\c % 2147483563 < 2147483563:=⟨Int.emod_nonneg _ (by omega),Int.emod_lt_of_pos _ (by omega)⟩
 refine ⟨(d*d+d / 7) % 2147483647 / 11 % m,?_,Int.emod_nonneg _ (by omega),Int.emod_lt_of_pos _ hm⟩
 have m1:Ju (.int (c % 2147483563)) (.int 69069)=some (.int (c % 2147483563*69069)):=qz (by omega)
 have m2:Ju (.int 104723) (.int (k+1))=some (.int (104723*(k+1))):=qz (by omega)
 have m3:Ju (.int a) (.int a)=some (.int (a*a)):=qz (by omega)
 have m4:Ju (.int d) (.int d)=some (.int (d*d)):=qz (by omega)
 simp [JD,jw,ah5,jE,jI,qU,jA,op2,lkp,ju,qG,cst,qq,jB,jk,hc,m1,m2,m3,m4,QR,JE,add_int,h1,h2,hm]
theorem amj (w:Int) (h0:0<=w) (h:w < 12):∃ u e l b,dIx (.list (abn++abo)) (.int w)=some (jl u e l b)/\okM u e l b=true:=by
 obtain ⟨n,rfl⟩:=Int.eq_ofNat_of_zero_le h0
 have hn:n < 12:=by omega
 have:∀ n < 12,∃ u e l b,dIx (.list (abn++abo)) (.int (n:Nat))=some (jl u e l b)/\okM u e l b=true:=by
  intro n hn
  match n,hn with
  | 0,_=>exact ⟨_,_,_,_,rfl,by decide⟩
  | 1,_=>exact ⟨_,_,_,_,rfl,by decide⟩
  | 2,_=>exact ⟨_,_,_,_,rfl,by decide⟩
  | 3,_=>exact ⟨_,_,_,_,rfl,by decide⟩
  | 4,_=>exact ⟨_,_,_,_,rfl,by decide⟩
  | 5,_=>exact ⟨_,_,_,_,rfl,by decide⟩
  | 6,_=>exact ⟨_,_,_,_,rfl,by decide⟩
  | 7,_=>exact ⟨_,_,_,_,rfl,by decide⟩
  | 8,_=>exact ⟨_,_,_,_,rfl,by decide⟩
  | 9,_=>exact ⟨_,_,_,_,rfl,by decide⟩
  | 10,_=>exact ⟨_,_,_,_,rfl,by decide⟩
  | 11,_=>exact ⟨_,_,_,_,rfl,by decide⟩
  | k+12,h=>omega
 exact this n hn
theorem ah8 (ns:List Int) (hn:ns.length < 1000000) (k:Int) (hk:0<=k):∃ u e l b,ZR [scr ns,.int k]=some (jl u e l b)/\okM u e l b=true:=by
 obtain ⟨w,hw,hw0,hw1⟩:=qK ns hn k 24 hk (by omega)
 have a1:qV (.list abn) (.list abo)=some (.list (abn++abo)):=rfl
 have a2:abZ [.list (abn++abo)]=some (.int 12):=rfl
 have a3:Ju (.int 2) (.int 12)=some (.int 24):=rfl
 by_cases hlt:w < 12
 ·obtain ⟨u,e,l,b,h1,h2⟩:=amj w hw0 hlt
  refine ⟨u,e,l,b,?_,h2⟩
  simp [ZR,jw,acg,jE,jI,qU,jA,op2,lkp,ju,qG,cst,qq,jB,jk,ifS,tst,asB,a1,a2,a3,hw,Qg,hlt,h1]
 ·obtain ⟨r1,e1,p1,q1⟩:=qK ns hn (k+1) 5 (by omega) (by omega)
  obtain ⟨r2,e2,p2,q2⟩:=qK ns hn (k+2) 4 (by omega) (by omega)
  obtain ⟨r3,e3,p3,q3⟩:=qK ns hn (k+3) 4 (by omega) (by omega)
  generalize hlo:(if (1:Int) > 1+r1 - 1 then 1 else 1+r1 - 1)+r3=lo
  have hlo1:1<=lo/\r1<=lo/\lo<=10:=by
   rw [←hlo]; split <;> omega
  have hue:0<=r2*(1+r1)/\r2*(1+r1)<=3*5:=⟨Int.mul_nonneg p2 (by omega),Int.mul_le_mul (by omega) (by omega) (by omega) (by omega)⟩
  generalize hmn:(if r2*(1+r1)+lo < 15 then r2*(1+r1)+lo else 15)=mn
  have hmn1:0 < mn/\mn<=15/\mn<=r2*(1+r1)+lo:=by
   rw [←hmn]; split <;> omega
  obtain ⟨r4,e4,p4,q4⟩:=qK ns hn (k+4) mn (by omega) (by omega)
  refine ⟨r2,1+r1,lo,2+r4,?_,?_⟩
  ·have m1:Ju (.int r2) (.int (1+r1))=some (.int (r2*(1+r1))):=qz (by omega)
   have x1:ale [.int (1+r1 - 1),.int 1]=some (.int (if (1:Int) > 1+r1 - 1 then 1 else 1+r1 - 1)):=rfl
   have x2:adZ [.int 15,.int (r2*(1+r1)+lo)]=some (.int (if r2*(1+r1)+lo < 15 then r2*(1+r1)+lo else 15)):=rfl
   have x3:abY (.int (1+r1)) (.int 1)=some (.int (1+r1 - 1)):=rfl
   simp only [ZR,jw,acg,jE,jI,qU,jA,op2,lkp,ju,qG,cst,qq,jB,jk,ifS,tst,asB,a1,a2,a3,hw,Qg,hlt,zzD,zzE,zzF,zzG,List.replicate,List.length_cons,List.length_nil,zzM,List.map_cons,List.map_nil,List.cons_append,List.nil_append,zzA,zzB,zzC,add_int,e1,e2,e3,m1,x1,x2,x3,decide_false,hlo,hmn,e4]
   simp [e1,e2,e3,m1,x1,x2,x3,hlo,hmn,e4,add_int,lkp,zG,jk,ju,few,jl]
   simp only [zG,jk,ju,lkp,op2,jB,cst,zzD,zzE,zzA,zzB,zzC,add_int,m1,x2,hmn,e4]
   simp
  ·have:=hue.1
   simp [okM]
   omega
noncomputable def isInt (t:Int):PyData->Bool
 | .int x=>x == t
 | _=>false
noncomputable def aqh (u e l:Int):Bool:=
 isInt (u*e+l) (ap3 none ((jy u l).map (jp e))) &&
 ((List.range (u*e+l+1).toNat).all fun n=>(jy u l).any fun r=>jp e r == (n:Int)) &&
 ((jy u l).all fun r=>decide (0<=jp e r) && decide (jp e r<=u*e+l)) &&
 decide (arB u e l=(List.range (u*e+l+1).toNat).map fun (n:Nat)=>cnt u e l n)
noncomputable def zN:Bool:=(List.range 4).all fun (i:Nat)=>(List.range 5).all fun (j:Nat)=>(List.range 11).all fun (k:Nat)=>decide (k+1 < j) || aqh i (j+1) (k+1)
structure Chk (u e l:Int):Prop where
 most:ap3 none ((jy u l).map (jp e))= .int (u*e+l)
 dig:∀ n:Nat,n < (u*e+l+1).toNat->((jy u l).any fun r=>jp e r == (n:Int))=true
 rng:∀ r ∈ jy u l,0<=jp e r/\jp e r<=u*e+l
 lst:arB u e l=(List.range (u*e+l+1).toNat).map fun (n:Nat)=>cnt u e l n
theorem aqi {u e l:Int} (h:aqh u e l=true):Chk u e l:=by
 simp only [aqh,Bool.and_eq_true,List.all_eq_true,decide_eq_true_eq] at h
 obtain ⟨⟨⟨h1,h2⟩,h3⟩,h4⟩:=h
 refine ⟨?_,fun n hn=>h2 n (List.mem_range.mpr hn),fun r hr=>h3 r hr,h4⟩
 generalize ap3 none ((jy u l).map (jp e))=x at h1
 cases x <;> simp [isInt] at h1
 rw [h1]
theorem jF {u e l b:Int} (h:okN u e l b=true):0<=u/\u<=3/\1<=e/\e<=5/\e - 1<=l/\1<=l/\l<=11/\2<=b/\b<=16/\b<=u*e+l+1:=by
 simp only [okN,Bool.and_eq_true,decide_eq_true_eq] at h
 omega
theorem aqj {u e l b:Int} (H:zN=true) (h:okN u e l b=true):Chk u e l:=by
 obtain ⟨a1,a2,a3,a4,a5,a6,a7,_⟩:=jF h
 simp only [zN,List.all_eq_true,Bool.or_eq_true,decide_eq_true_eq] at H
 have:=H u.toNat (List.mem_range.mpr (by omega)) (e - 1).toNat (List.mem_range.mpr (by omega)) (l - 1).toNat (List.mem_range.mpr (by omega))
 rcases this with z | z
 ·exfalso; omega
 ·rw [show ((u.toNat:Nat):Int)=u by omega,show (((e - 1).toNat:Nat):Int)+1=e by omega,show (((l - 1).toNat:Nat):Int)+1=l by omega] at z
  exact aqi z
theorem aog {u e l b:Int} (h:okM u e l b=true):okN u e l b=true:=by
 simp only [okM,okN,Bool.and_eq_true,decide_eq_true_eq] at h ⊢
 omega
theorem ah9 {u e l b:Int} (H:zN=true) (h:okN u e l b=true) {n:Int} (h0:0<=n) (hn:n < b):((jy u l).any fun r=>jp e r == n)=true:=by
 obtain ⟨a1,a2,a3,a4,a5,a6,a7,a8,a9,a10⟩:=jF h
 have:=(aqj H h).dig n.toNat (by omega)
 rw [show ((n.toNat:Nat):Int)=n by omega] at this
 exact this
noncomputable def zJ (u e l w:Int):List PyData:=(jy u l).filter fun r=>jp e r == w
theorem aaX {u e l b w:Int} (hu:0<=u) (hu':u < 100) (hl:0<=l) (hl':l < 100):ZH [jl u e l b,.int w]=some (.list (zJ u e l w)):=by
 have h1:=Zo (e:=e) (b:=b) hu hu' hl hl'
 have h2:=Zp hu' hl'
 simp only [ZH,jw,abl,jE,jI,qG,j9,itL,jB,jk,ju,lkp,JW,List.length_cons,List.length_nil,zzM,List.map_cons,List.map_nil,List.cons_append,List.nil_append,zzA,zzC,zzD,zzE,h1,h2,JH]
 rw [acI (fun d=>jp e d == w) id]
 ·simp [zJ]
 ·intro d hd
  simp [tst,op2,jB,jk,ju,lkp,abu (b:=b) (e:=e) hu' hd,dEq,aaW,PyData.eqv,asB]
 ·intro d hd _
  simp [lkp]
theorem abv (kf:PyData->Int):∀ (r:List PyData) (d:PyData),Qi kf d r=d ∨ Qi kf d r ∈ r
 | [],d=> .inl rfl
 | x::r,d=>by
  unfold Qi
  split
  ·rcases abv kf r x with z | z
   ·exact .inr (by rw [z]; exact List.mem_cons_self)
   ·exact .inr (List.mem_cons_of_mem _ z)
  ·rcases abv kf r d with z | z
   ·exact .inl z
   ·exact .inr (List.mem_cons_of_mem _ z)
noncomputable def ai4 (m:PyData) (d:Int):PyData:=pr (fpr m d)
theorem akf {u e l b:Int} (H:zN=true) (h:okN u e l b=true) {d:Int} (h0:0<=d) (hd:d < b):
  JO [jl u e l b,.int d]=some (ai4 (jl u e l b) d)/\wt e (fpr (jl u e l b) d)=d/\okP u l (fpr (jl u e l b) d)=true:=by
 obtain ⟨a1,a2,a3,a4,a5,a6,a7,a8,a9,a10⟩:=jF h
 have hw:=aaX (e:=e) (b:=b) (w:=d) a1 (show u < 100 by omega) (show 0<=l by omega) (show l < 100 by omega)
 have any:=ah9 H h h0 hd
 have rods:∀ r ∈ zJ u e l d,∃ i j:Nat,r= .tuple [.int i,.int j]/\(i:Int)*e+j=d/\(i:Int)<=u/\(j:Int)<=l:=fun r hr=>by
  obtain ⟨h1,h2⟩:=List.mem_filter.mp hr
  obtain ⟨i,j,q1,q2,rfl⟩:=abt h1
  exact ⟨i,j,rfl,by simpa [jp] using h2,by omega,by omega⟩
 have kb:∀ i j:Nat,qr [.tuple [.int i,.int j]]=some (.int (i+j)):=fun i j=>ZX i j
 have hk:aac qr (zJ u e l d)=true:=List.all_eq_true.mpr fun r hr=>by
  obtain ⟨i,j,rfl,_,_⟩:=rods r hr
  rw [kb]; rfl
 have mem:acJ (Qj qr) none (zJ u e l d) ∈ zJ u e l d:=by
  cases hr:zJ u e l d with
  | nil=>
   exfalso
   obtain ⟨r,h1,h2⟩:=List.any_eq_true.mp any
   have:r ∈ zJ u e l d:=List.mem_filter.mpr ⟨h1,h2⟩
   rw [hr] at this; cases this
  | cons r rs=>
   show Qi (Qj qr) r rs ∈ r::rs
   rcases abv (Qj qr) rs r with z | z
   ·rw [z]; exact List.mem_cons_self
   ·exact List.mem_cons_of_mem _ z
 obtain ⟨i,j,e1,e2,e3,e4⟩:=rods _ mem
 have g:JO [jl u e l b,.int d]=some (.tuple [.int i,.int j]):=by
  have hm:aad qr (.list (zJ u e l d))=some (.tuple [.int i,.int j]):=by
   show (if aac qr (zJ u e l d)=true then some (acJ (Qj qr) none (zJ u e l d)) else none)=_
   rw [if_pos hk,e1]
  simp [JO,jw,ab9,jE,jI,jB,jk,ju,lkp,qG,hw,hm]
 have f:fpr (jl u e l b) d=((i:Int),(j:Int)):=by unfold fpr; rw [g]
 unfold ai4
 rw [f]
 refine ⟨g,e2,?_⟩
 simp only [okP,Bool.and_eq_true,decide_eq_true_eq]
 exact ⟨⟨⟨by omega,e3⟩,by omega⟩,e4⟩
end Rods
theorem Rods.allN_true:Rods.zN=true:=by decide +kernel
namespace Rods
open PySem L2 BX
open PyProof.Rows hiding St
theorem ZY {tc:Rho->Option Bool}{F:Rho->Option Out}{n:Nat}{ρ ρ':Rho} (h:tc ρ=some true) (h':F ρ=some (.nx ρ')):zx tc F (n+1) ρ=zx tc F n ρ':=by
 show (tc ρ).bind _=_
 rw [h,h']
 rfl
theorem acm {tc:Rho->Option Bool}{F:Rho->Option Out}{n:Nat}{ρ:Rho} (h:tc ρ=some false):zx tc F (n+1) ρ=some (.nx ρ):=by
 show (tc ρ).bind _=_
 rw [h]
 rfl
theorem jz {F G:Rho->Option Out}{ρ ρ1:Rho} (h:F ρ=some (.nx ρ1)):jI F G ρ=G ρ1:=by
 unfold jI
 rw [h]
 rfl
theorem jY {N:List Str}{n:Nat}{B:Rho->Option Out}{ds:List PyData}{d:PyData} (hl:ds.length=n) (h:B (jE N ds)=some (.rt d)):jw N n B ds=some d:=by
 unfold jw
 rw [if_pos hl,h]
noncomputable def tcD:Rho->Option Bool:=tst (op2 (Qg fun i j=>decide (i < j)) (jB abZ (jk (lkp 3) ju)) (op2 abY (lkp 1) (cst (.int 1))))
theorem aei {b k:Int}{r n:Option PyData}{ds:List PyData} (hb:0 < b) (hb':b<=16) (hl:ds.length < 1000):
  aak.1 [some (.int b),r,n,some (.list ds),some (.int k)]=some (.nx [some (.int b),r,n,some (.list (.int (k % b)::ds)),some (.int (k / b))]):=by
 have m1:∀ i:Int,aeR (.int i) (.int b)=some (.int (i % b)):=fun i=>QR hb
 have m2:∀ i:Int,acG (.int i) (.int b)=some (.int (i / b)):=fun i=>JE hb (by omega)
 have hl':ds.length < 1000000:=by omega
 simp [aak,jI,ajQ,ary,anQ,op2,lkp,cst,m1,m2,noL,hl',qU,jA,brw,hid,qq]
theorem Qa {b:Option PyData}{r:Int}{n k:Option PyData}{ds:List PyData}:tcD [b,some (.int r),n,some (.list ds),k]=some (decide ((ds.length:Int) < r - 1)):=by
 simp [tcD,tst,op2,jB,jk,ju,lkp,cst,abZ,abY,Qg,asB]
theorem afx {b r n:Int}{ds:List PyData}{k:Int} (hl:zx tcD aak.1 10 [some (.int b),some (.int r),some (.int n),some (.list []),some (.int n)]=some (.nx [some (.int b),some (.int r),some (.int n),some (.list ds),some (.int k)]))
  (hd:ds.length < 100) (hn:noLs ds=true):al4 [.int b,.int r,.int n]=some (.list (.int k::ds)):=by
 have f0:few []=true:=QQ
 have f1:few [PyData.int k]=true:=by rw [few]; exact decide_eq_true (by show 1 < 1000000; decide)
 have f2:few ([PyData.int k]++ds)=true:=by
  rw [few]
  refine decide_eq_true ?_
  rw [List.length_append,List.length_singleton]
  omega
 have e:an9.1 [some (.int b),some (.int r),some (.int n),none,none]=some (.rt (.list (.int k::ds))):=by
  simp only [an9]
  show aag 3 (JV ju) (jI (qU (brw (some 3) (lkp 2)) (jA 4)) (jI (zx tcD aak.1 10) (jI (qG (op2 qV (JV (jk (lkp 4) ju)) (lkp 3))) qq))) _=_
  have h2:jI (zx tcD aak.1 10) (jI (qG (op2 qV (JV (jk (lkp 4) ju)) (lkp 3))) qq) [some (.int b),some (.int r),some (.int n),some (.list []),some (.int n)]=some (.rt (.list (.int k::ds))):=by
   unfold jI
   rw [hl]
   simp only [zzD,qG,op2,JV,jk,ju,lkp,zzA,zzB,zzC,zzE,f1,zzM,qV,f2]
   rfl
  have h1:qU (brw (some 3) (lkp 2)) (jA 4) [some (.int b),some (.int r),some (.int n),some (.list []),none]=some (.nx [some (.int b),some (.int r),some (.int n),some (.list []),some (.int n)]):=rfl
  have h3:jI (qU (brw (some 3) (lkp 2)) (jA 4)) (jI (zx tcD aak.1 10) (jI (qG (op2 qV (JV (jk (lkp 4) ju)) (lkp 3))) qq)) [some (.int b),some (.int r),some (.int n),some (.list []),none]=some (.rt (.list (.int k::ds))):=by
   rw [←h2]
   conv=>lhs; unfold jI
   rw [h1]
   rfl
  unfold aag
  simp only [JV,ju,zzD,f0,zzM,List.length_cons,List.length_nil]
  rw [if_pos (by decide)]
  simp only [zzF,zzG,h3,zzD]
 exact jY rfl e
theorem afy {b n:Int} (hb:0 < b) (hb':b<=16) {r:Nat} (h1:1<=r) (h4:r<=4):al4 [.int b,.int (r:Int),.int n]=some (.list ((dgl b r n).map .int)):=by
 have:r=1 ∨ r=2 ∨ r=3 ∨ r=4:=by omega
 rcases this with e | e | e | e <;> subst e
 ·refine afx (ds:=[]) (k:=n) ?_ (by simp) (by simp [noLs,noL])
  rw [acm (Qa.trans (by rfl))]
 ·refine afx (ds:=[.int (n % b)]) (k:=n / b) ?_ (by simp) (by simp [noLs,noL])
  rw [ZY (Qa.trans (by rfl)) (aei hb hb' (by simp)),acm (Qa.trans (by rfl))]
 ·refine afx (ds:=[.int (n / b % b),.int (n % b)]) (k:=n / b / b) ?_ (by simp) (by simp [noLs,noL])
  rw [ZY (Qa.trans (by rfl)) (aei hb hb' (by simp)),ZY (Qa.trans (by rfl)) (aei hb hb' (by simp)),acm (Qa.trans (by rfl))]
 ·refine afx (ds:=[.int (n / b / b % b),.int (n / b % b),.int (n % b)]) (k:=n / b / b / b) ?_ (by simp) (by simp [noLs,noL])
  rw [ZY (Qa.trans (by rfl)) (aei hb hb' (by simp)),ZY (Qa.trans (by rfl)) (aei hb hb' (by simp)),ZY (Qa.trans (by rfl)) (aei hb hb' (by simp)),acm (Qa.trans (by rfl))]
theorem pw1 (b:Int):b ^ 1=b:=by rw [Int.pow_succ,Int.pow_zero,Int.one_mul]
theorem abw {b:Int} (hb:0 < b):∀ r:Nat,0 < b ^ r
 | 0=>by simp
 | r+1=>by rw [Int.pow_succ]; exact Int.mul_pos (abw hb r) hb
theorem ape {b:Int} (h0:0 < b) (h:b<=16):∀ r:Nat,b ^ r<=16 ^ r
 | 0=>by simp
 | r+1=>by
  rw [Int.pow_succ,Int.pow_succ]
  exact Int.mul_le_mul (ape h0 h r) h (by omega) (Int.le_of_lt (abw (by decide) r))
theorem amk {b:Int} (h0:0 < b) (h:b<=16) {r:Nat} (hr:r<=4):b ^ r<=65536:=by
 have:r=0 ∨ r=1 ∨ r=2 ∨ r=3 ∨ r=4:=by omega
 have:=ape h0 h r
 rcases ‹r=0 ∨ _› with e | e | e | e | e <;> subst e <;> first | (exact Int.le_trans this (by decide))
theorem adi (b:Int) (k:Nat) (n:Int):dgl b (k+2) n=dgl b (k+1) (n / b)++[n % b]:=rfl
theorem afz (b:Int):∀ (r:Nat) (n:Int),(dgl b r n).length=r
 | 0,_=>rfl
 | 1,_=>rfl
 | k+2,n=>by rw [adi,List.length_append,afz b (k+1)]; rfl
theorem abx {b n:Int} (hb:0 < b) {k:Nat} (h:n < b ^ (k+1)):n / b < b ^ k:=
 Int.ediv_lt_of_lt_mul hb (by rw [←Int.pow_succ]; exact h)
theorem ai5 {b:Int} (hb:0 < b):∀ (r:Nat) (n:Int),0<=n->n < b ^ r->∀ d ∈ dgl b r n,0<=d/\d < b
 | 0,n,_,_,d,hd=>by cases hd
 | 1,n,h0,h1,d,hd=>by
  rw [show dgl b 1 n=[n] from rfl,List.mem_singleton] at hd
  subst hd
  exact ⟨h0,by rw [pw1] at h1; exact h1⟩
 | k+2,n,h0,h1,d,hd=>by
  rw [adi] at hd
  rcases List.mem_append.mp hd with q | q
  ·exact ai5 hb (k+1) (n / b) (Int.ediv_nonneg h0 (by omega)) (abx hb h1) d q
  ·rw [List.mem_singleton] at q
   subst q
   exact ⟨Int.emod_nonneg _ (by omega),Int.emod_lt_of_pos _ hb⟩
theorem aaY {b:Int} (hb:0 < b):∀ (k:Nat) (n:Int),0<=n->∃ x r,dgl b (k+1) n=x::r/\(n < b ^ (k+1)->x < b)/\(b ^ (k+1)<=n->b<=x)
 | 0,n,h0=>⟨n,[],rfl,fun h=>by rw [Nat.zero_add,pw1] at h; exact h,fun h=>by rw [Nat.zero_add,pw1] at h; exact h⟩
 | k+1,n,h0=>by
  obtain ⟨x,r,e,h1,h2⟩:=aaY hb k (n / b) (Int.ediv_nonneg h0 (by omega))
  refine ⟨x,r++[n % b],?_,fun h=>h1 (abx hb h),fun h=>h2 ?_⟩
  ·rw [adi,e]; rfl
  ·refine Int.le_ediv_of_mul_le hb ?_
   rw [←Int.pow_succ]; exact h
theorem aml (b e:Int) (ps:List (Int × Int)) (p:Int × Int):val b e (ps++[p])=val b e ps*b+wt e p:=by simp [val]
end Rods
namespace Rods
open PySem L2 BX
open PyProof.Rows hiding St
section
variable {u e l b:Int}
theorem qA {u l:Int}{p:Int × Int} (h:okP u l p=true):0<=p.1/\p.1<=u/\0<=p.2/\p.2<=l:=by
 simp only [okP,Bool.and_eq_true,decide_eq_true_eq] at h
 exact ⟨h.1.1.1,h.1.1.2,h.1.2,h.2⟩
theorem aej {e u l:Int} (he:1<=e) {p:Int × Int} (h:okP u l p=true):0<=wt e p:=by
 obtain ⟨h1,h2,h3,h4⟩:=qA h
 have:=Int.mul_nonneg h1 (show 0<=e by omega)
 unfold wt; omega
theorem amm {e u l:Int} (he:1<=e) (he5:e<=5) (hu:u<=3) (hl:l<=11) {p:Int × Int} (h:okP u l p=true):wt e p<=26:=by
 obtain ⟨h1,h2,h3,h4⟩:=qA h
 have:p.1*e<=3*5:=Int.mul_le_mul (by omega) he5 (by omega) (by omega)
 unfold wt; omega
theorem ai6 {b e u l:Int} (h2:2<=b) (hb:b<=16) (he:1<=e) (he5:e<=5) (hu:u<=3) (hl:l<=11):∀ (ps:List (Int × Int)) (acc:Int),ps.all (okP u l)=true->0<=acc->0<=ps.foldl (fun n p=>n*b+wt e p) acc/\ps.foldl (fun n p=>n*b+wt e p) acc+30<=(acc+30)*16 ^ ps.length
 | [],acc,_,h=>⟨h,by simp⟩
 | p::ps,acc,hp,h=>by
  rw [List.all_cons,Bool.and_eq_true] at hp
  have w0:=aej he hp.1
  have w1:=amm he he5 hu hl hp.1
  have ha:0<=acc*b:=Int.mul_nonneg h (by omega)
  have hb2:acc*b<=acc*16:=Int.mul_le_mul_of_nonneg_left hb h
  obtain ⟨h1,h3⟩:=ai6 h2 hb he he5 hu hl ps (acc*b+wt e p) hp.2 (by omega)
  refine ⟨h1,Int.le_trans h3 ?_⟩
  rw [List.length_cons,Int.pow_succ,Int.mul_comm (16 ^ ps.length) 16,←Int.mul_assoc]
  refine Int.mul_le_mul_of_nonneg_right ?_ (Int.le_of_lt (abw (by decide) _))
  omega
theorem aqk (h:okN u e l b=true) {ps:List (Int × Int)} (hp:ps.all (okP u l)=true):0<=val b e ps:=by
 obtain ⟨a1,a2,a3,a4,a5,a6,a7,a8,a9,a10⟩:=jF h
 exact (ai6 a8 a9 a3 a4 a2 a7 ps 0 hp (by omega)).1
end
end Rods
namespace Rods
open PySem L2 BX
open PyProof.Rows hiding St
theorem qN {ds:List PyData} (h:ds.length < 10000):few ds=true:=by
 rw [few]
 refine decide_eq_true ?_
 omega
theorem amn {u e l b:Int} (H:zN=true) (h:okN u e l b=true):qx [jl u e l b]=some (.bool true):=by
 obtain ⟨a1,a2,a3,a4,a5,a6,a7,a8,a9,a10⟩:=jF h
 rw [afw a1 a2 a3 (by omega) (by omega) (by omega) a8 a9,adh a1 (by omega) (by omega) (by omega) (by omega) (by omega)]
 congr 2
 refine List.all_eq_true.mpr fun d hd=>?_
 have:=ah9 H h (n:=(d:Int)) (by omega) (by have:=List.mem_range.mp hd; omega)
 simpa [List.any_map,Function.comp_def] using this
end Rods
namespace Rods
open PySem L2 BX
open PyProof.Rows hiding St
section
variable {u e l b:Int}{ps qs:List (Int × Int)}
theorem agz (h:okN u e l b=true) {S:PyData}:∀ (qs:List (Int × Int)) (acc:Int) (x:Option PyData),qs.all (okP u l)=true->0<=acc->(acc+30)*16 ^ qs.length<=1000000000->
  ∃ y,jO (jA 3) afj.1 (qs.map pr) [some (jl u e l b),some S,some (.int acc),x]=some (.nx [some (jl u e l b),some S,some (.int (qs.foldl (fun n p=>n*b+wt e p) acc)),y])
 | [],acc,x,_,_,_=>⟨x,rfl⟩
 | q::qs,acc,x,hq,h0,hB=>by
  obtain ⟨a1,a2,a3,a4,a5,a6,a7,a8,a9,a10⟩:=jF h
  rw [List.all_cons,Bool.and_eq_true] at hq
  obtain ⟨q1,q2,q3,q4⟩:=qA hq.1
  have w0:=aej a3 hq.1
  have w1:=amm a3 a4 a2 a7 hq.1
  have hp:=abw (b:=16) (by decide) qs.length
  rw [List.length_cons,Int.pow_succ,Int.mul_comm (16 ^ qs.length) 16,←Int.mul_assoc] at hB
  have ha:0<=acc*b:=Int.mul_nonneg h0 (by omega)
  have hb2:acc*b<=acc*16:=Int.mul_le_mul_of_nonneg_left a9 h0
  have hB':(acc*b+wt e q+30)*16 ^ qs.length<=1000000000:=Int.le_trans (Int.mul_le_mul_of_nonneg_right (by omega) (Int.le_of_lt hp)) hB
  have hacc:acc<=1000000000:=by
   have h1:(acc+30)*16*1<=(acc+30)*16*16 ^ qs.length:=Int.mul_le_mul_of_nonneg_left (by omega) (by omega)
   omega
  have m1:Ju (.int acc) (.int b)=some (.int (acc*b)):=qz ⟨by omega,by omega⟩
  have w':qI [jl u e l b,pr q]=some (.int (wt e q)):=aaV u e l b q.1 q.2 (by omega)
  have step:afj.1 [some (jl u e l b),some S,some (.int acc),some (pr q)]=some (.nx [some (jl u e l b),some S,some (.int (acc*b+wt e q)),some (pr q)]):=by
   simp only [afj,jI,qU,op2,jB,jk,ju,lkp,cst,jA,zzA,zzB,zzC,zzD,zzE,ix3,m1,w',add_int,zzF,zzG,qq]
  obtain ⟨y,hy⟩:=agz h (S:=S) qs (acc*b+wt e q) (some (pr q)) hq.2 (by omega) hB'
  refine ⟨y,?_⟩
  rw [List.map_cons]
  simp only [jO,jA,zzD,zzF,zzG,step]
  exact hy
theorem aoh (h:okN u e l b=true) (h4:ps.length<=4) (hp:ps.all (okP u l)=true):an6 [jl u e l b,jH ps]=some (.int (val b e ps)):=by
 have hB:(0+30:Int)*16 ^ ps.length<=1000000000:=by
  have:=amk (b:=16) (by decide) (by decide) h4
  omega
 obtain ⟨y,hy⟩:=agz h (S:=jH ps) ps 0 none hp (by omega) hB
 refine jY rfl ?_
 show an5.1 [some (jl u e l b),some (jH ps),none,none]=_
 simp only [an5]
 refine (jz (ρ1:=[some (jl u e l b),some (jH ps),some (.int 0),none]) ?_).trans ?_
 ·simp only [qU,cst,jA,zzD,zzE,zzF,zzG]
 refine (jz (ρ1:=[some (jl u e l b),some (jH ps),some (.int (val b e ps)),y]) ?_).trans ?_
 ·show (itT (lkp 1) _).bind _=_
  rw [show itT (lkp 1) [some (jl u e l b),some (jH ps),some (.int 0),none]=some (ps.map pr) from rfl]
  exact hy
 rfl
end
end Rods
namespace Rods
open PySem L2 BX
open PyProof.Rows hiding St
theorem agA {n:Int} (h0:0<=n) (h1:n<=99999):zC [.int n]=some .none:=by
 have w:qe [.int n,.int 0,.int 99999]=some (.bool true):=by rw [qf]; simp [h0,h1]
 simp [zC,jw,aaJ,jE,jI,ifS,Jp,tst,asB,jB,jk,ju,lkp,cst,w,qq]
theorem agB {n:Int} (h0:1<=n) (h1:n<=4):qy [.int n]=some .none:=by
 have w:qe [.int n,.int 1,.int 4]=some (.bool true):=by rw [qf]; simp [h0,h1]
 simp [qy,jw,Zi,jE,jI,ifS,Jp,tst,asB,jB,jk,ju,lkp,cst,w,qq]
end Rods
namespace Rods
open PySem L2 BX
open PyProof.Rows hiding St
section
variable {u e l b:Int}{ps qs:List (Int × Int)}
theorem acn (i j:Int):dEq (.int i) (.int j)=some (.bool (decide (i=j))):=by
 have:(i == j)=decide (i=j):=rfl
 simp only [dEq,aaW,afv,and_self,zzM,this]
theorem amo {b:Int}{r:Nat}{n x:Int}{xs:List Int} (h4:r<=4) (hx:dgl b r n=x::xs):dIx (.list ((dgl b r n).map .int)) (.int 0)=some (.int x):=by
 have hl:=afz b r n
 have hlt:((dgl b r n).map PyData.int).length < 1000000:=by rw [List.length_map,hl]; omega
 show (if ((dgl b r n).map PyData.int).length < 1000000 then atI ((dgl b r n).map PyData.int) 0 else none)=_
 rw [if_pos hlt,hx]
 simp [atI,ixN]
theorem aia (H:zN=true) (h:okN u e l b=true) {r:Nat}{n:Int} (h1:1<=r) (h4:r<=4) (h0:0<=n) (hn:n < b ^ r):aca [jl u e l b,.int (r:Int),.int n]=some (jH (pln (jl u e l b) b r n)):=by
 obtain ⟨a1,a2,a3,a4,a5,a6,a7,a8,a9,a10⟩:=jF h
 have hb:0 < b:=by omega
 have hd:=afy (n:=n) hb a9 h1 h4
 have hg:=ai5 hb r n h0 hn
 have hl:=afz b r n
 obtain ⟨k,rfl⟩:∃ k,r=k+1:=⟨r - 1,by omega⟩
 obtain ⟨x,xs,hx,hx1,_⟩:=aaY hb k n h0
 have hi:=amo h4 hx
 have hc:Qg (fun i j=>decide (j<=i)) (.int x) (.int b)=some (.bool false):=by
  show some (PyData.bool (decide (b<=x)))=_
  rw [decide_eq_false (by have:=hx1 hn; omega)]
 have hf:few ((dgl b (k+1) n).map .int)=true:=qN (by rw [List.length_map,hl]; omega)
 generalize hr:((k+1:Nat):Int)=rr at hd ⊢
 refine jY rfl ?_
 show ZP.1 [some (jl u e l b),some (.int rr),some (.int n),none]=_
 simp only [ZP]
 refine (jz (ρ1:=[some (jl u e l b),some (.int rr),some (.int n),some (.list ((dgl b (k+1) n).map .int))]) ?_).trans ?_
 ·simp only [qU,jB,jk,ju,op2,lkp,cst,jA,zzA,zzB,zzC,zzD,zzE,ix3,hd,zzF,zzG]
 refine (jz (ρ1:=[some (jl u e l b),some (.int rr),some (.int n),some (.list ((dgl b (k+1) n).map .int))]) ?_).trans ?_
 ·simp only [ifS,tst,op2,lkp,cst,zzA,zzB,zzC,zzD,hi,ix3,hc,asB,zzL,zzN,qq]
 simp only [jI,qG,jB,jk,ju,j9,itL,lkp,JW,zzA,zzB,zzC,zzD,zzE,hf,zzM,JH,List.map_cons,List.map_nil,zzH]
 rw [Zz (fun d=>ai4 (jl u e l b) ((QX d).getD 0))]
 ·simp [ahR,jH,pln,ai4,QX,Function.comp_def]
 ·intro d hd
  obtain ⟨i,hi,rfl⟩:=List.mem_map.mp hd
  simp [jB,jk,ju,lkp,QX,(akf H h (hg i hi).1 (hg i hi).2).1]
theorem aib (H:zN=true) (h:okN u e l b=true) {r:Nat}{n:Int} (h1:1<=r) (h4:r<=4) (h0:0<=n) (hn:n < b ^ r):Je [jl u e l b,.int (r:Int),.int n]=some (jH (pln (jl u e l b) b r n)):=by
 obtain ⟨a1,a2,a3,a4,a5,a6,a7,a8,a9,a10⟩:=jF h
 have hle:=amk (show 0 < b by omega) a9 h4
 have g1:=Qv (amn H h)
 have g2:qy [.int (r:Int)]=some .none:=agB (by omega) (by omega)
 have g3:zC [.int n]=some .none:=agA h0 (by omega)
 have g4:ql [jl u e l b,.int (r:Int),.int n]=some .none:=by
  simp [ql,jw,aai,jE,jI,Jr,jB,jk,ju,lkp,g1,g2,g3,qq]
 have g5:=aia H h h1 h4 h0 hn
 simp [Je,jw,ZQ,jE,jI,Jr,qG,jB,jk,ju,lkp,g4,g5,qq]
theorem aql (p q:Int × Int):PyData.eqv (pr p) (pr q)=decide (p=q):=by
 obtain ⟨a,b⟩:=p
 obtain ⟨c,d⟩:=q
 simp only [pr,PyData.eqv,PyData.eqvAll,Prod.mk.injEq,Bool.and_true,Bool.decide_and]
 rfl
theorem aek:∀ (ps qs:List (Int × Int)),PyData.eqvAll (ps.map pr) (qs.map pr)=decide (ps=qs)
 | [],[]=>by simp [PyData.eqvAll]
 | [],q::qs=>by simp [PyData.eqvAll]
 | p::ps,[]=>by simp [PyData.eqvAll]
 | p::ps,q::qs=>by simp [PyData.eqvAll,aql,aek ps qs]
theorem agC (ps qs:List (Int × Int)):PyData.eqv (jH ps) (jH qs)=decide (ps=qs):=by
 unfold jH PyData.eqv
 exact aek ps qs
theorem agD (ps:List (Int × Int)):okD (jH ps)=true:=by
 have h1:∀ ps:List (Int × Int),PyData.canLayAll0 (ps.map pr)=true:=fun ps=>by
  induction ps with
  | nil=>rfl
  | cons p ps ih=>simp [PyData.canLayAll0,PyData.canLay0,pr,ih]
 have h2:∀ ps:List (Int × Int),PyData.depthAll (ps.map pr)<=1:=fun ps=>by
  induction ps with
  | nil=>simp [PyData.depthAll]
  | cons p ps ih=>simp [PyData.depthAll,PyData.depth,pr] at ih ⊢; omega
 have:=h2 ps
 simp [okD,jH,PyData.canLay0,h1,PyData.depth]
 omega
theorem aoi (ps qs:List (Int × Int)):dNe (jH ps) (jH qs)=some (.bool (!decide (ps=qs))):=by
 unfold dNe
 rw [if_pos ⟨agD ps,agD qs⟩,agC]
end
end Rods
namespace Rods
open PySem L2 BX
open PyProof.Rows hiding St
theorem apf {α:Type} (x:α):∀ n:Nat,(List.replicate n [x]).flatten=List.replicate n x
 | 0=>rfl
 | n+1=>by rw [List.replicate_succ,List.flatten_cons,apf x n,List.replicate_succ]; rfl
noncomputable def qh (u e l b:Int) (a:Nat):Int:=val b e (List.replicate a (u,l))
theorem amp {u e l b:Int} (h:okN u e l b=true) (a:Nat):(List.replicate a (u,l)).all (okP u l)=true:=by
 obtain ⟨a1,a2,a3,a4,a5,a6,a7,a8,a9,a10⟩:=jF h
 refine List.all_eq_true.mpr fun p hp=>?_
 rw [(List.mem_replicate.mp hp).2]
 simp only [okP,Bool.and_eq_true,decide_eq_true_eq]
 exact ⟨⟨⟨a1,Int.le_refl _⟩,by omega⟩,Int.le_refl _⟩
theorem amq {u e l b:Int} (a:Nat) (ha:a < 4):al3 [jl u e l b,.int (a:Int)]=some (jH (List.replicate a (u,l))):=by
 refine jY rfl ?_
 have f1:few [pr (u,l)]=true:=qN (by simp)
 have f2:few [PyData.int u,.int l]=true:=qN (by simp)
 have rp:alF (.tuple [.tuple [.int u,.int l]]) (.int (a:Int))=some (jH (List.replicate a (u,l))):=by
  show (if 0 < [pr (u,l)].length/\[pr (u,l)].length < 1000/\-1000 < (a:Int)/\(a:Int) < 1000 then some (PyData.tuple (List.replicate (a:Int).toNat [pr (u,l)]).flatten) else none)=_
  rw [if_pos ⟨by simp,by simp,by omega,by omega⟩,apf]
  simp [jH]
 have f1':few [PyData.tuple [.int u,.int l]]=true:=f1
 generalize (a:Int)=aa at*
 show aiX.1 [some (jl u e l b),some (.int aa)]=_
 simp only [aiX,jI,qG,op2,zG,jk,ju,lkp,cst,zzA,zzB,zzC,zzD,zzE,ix0,ix2,f1',f2,zzM,rp]
noncomputable def zc (e n:Int) (r:PyData):Int:=n - jp e r
noncomputable def okL (e b m n:Int) (r:PyData):Bool:=decide (zc e n r % b=0) && (decide (0<=zc e n r) && decide (zc e n r<=b*m))
noncomputable def abP (e b n:Int) (r:PyData):PyData:= .tuple [r,.int (zc e n r / b)]
theorem aoj {u e l b m n:Int} (hu':u < 100) (hb:0 < b) (hb':b < 100) {A x7:Option PyData}{ds:List PyData} (hds:ds.length < 1000000) {R:PyData} (nR:noL R=true) {L:Int}:tst (op2 dEq (op2 aeR (lkp 7) (lkp 3)) (cst (.int 0))) [some (jl u e l b),A,some (.int n),some (.int b),some (.int m),some (.list ds),some R,some (.int L)]=some (decide (L % b=0)):=by
 have mb:Ju (.int b) (.int m)=some (.int (b*m)):=qz (by omega)
 have md:=fun x=>QR (i:=x) hb
 have fd:=fun x=>JE (i:=x) hb (by omega)
 have sb:∀ x y:Int,abY (.int x) (.int y)=some (.int (x - y)):=fun _ _=>rfl
 have le:∀ x y:Int,Qg (fun i j=>decide (i<=j)) (.int x) (.int y)=some (.bool (decide (x<=y))):=fun _ _=>rfl
 simp only [tst,op2,lkp,cst,zzA,zzB,zzC,zzD,md,acn,asB]
theorem aok {u e l b m n:Int} (hu':u < 100) (hb:0 < b) (hb':b < 100) {A x7:Option PyData}{ds:List PyData} (hds:ds.length < 1000000) {R:PyData} (nR:noL R=true) {L:Int}:tst (chn (Qg fun i j=>decide (i<=j)) (Qg fun i j=>decide (i<=j)) (cst (.int 0)) (lkp 7) (op2 Ju (lkp 3) (lkp 4))) [some (jl u e l b),A,some (.int n),some (.int b),some (.int m),some (.list ds),some R,some (.int L)]=some (decide (0<=L) && decide (L<=b*m)):=by
 have mb:Ju (.int b) (.int m)=some (.int (b*m)):=qz (by omega)
 have md:=fun x=>QR (i:=x) hb
 have fd:=fun x=>JE (i:=x) hb (by omega)
 have sb:∀ x y:Int,abY (.int x) (.int y)=some (.int (x - y)):=fun _ _=>rfl
 have le:∀ x y:Int,Qg (fun i j=>decide (i<=j)) (.int x) (.int y)=some (.bool (decide (x<=y))):=fun _ _=>rfl
 simp only [tst,chn,op2,lkp,cst,zzA,zzB,zzC,zzD,le,mb,asB]
 by_cases c2:0<=L
 ·simp [c2,asB]
 ·simp [c2,asB]
theorem aol {u e l b m n:Int} (hu':u < 100) (hb:0 < b) (hb':b < 100) {A x7:Option PyData}{ds:List PyData} (hds:ds.length < 1000000) {R:PyData} (nR:noL R=true) {L:Int}:ajQ 5 (ap8 5 (zG (jk (lkp 6) (jk (op2 acG (lkp 7) (lkp 3)) ju)))) [some (jl u e l b),A,some (.int n),some (.int b),some (.int m),some (.list ds),some R,some (.int L)]=some (.nx [some (jl u e l b),A,some (.int n),some (.int b),some (.int m),some (.list (ds++[.tuple [R,.int (L / b)]])),some R,some (.int L)]):=by
 have mb:Ju (.int b) (.int m)=some (.int (b*m)):=qz (by omega)
 have md:=fun x=>QR (i:=x) hb
 have fd:=fun x=>JE (i:=x) hb (by omega)
 have sb:∀ x y:Int,abY (.int x) (.int y)=some (.int (x - y)):=fun _ _=>rfl
 have le:∀ x y:Int,Qg (fun i j=>decide (i<=j)) (.int x) (.int y)=some (.bool (decide (x<=y))):=fun _ _=>rfl
 have hn:noL (.tuple [R,.int (L / b)])=true:=by simp [noL,noLs,nR]
 have hf2:few [R,PyData.int (L / b)]=true:=by simp [few]
 simp only [ajQ,ap8,zG,jk,ju,op2,lkp,zzA,zzB,zzC,zzD,zzE,fd,hf2,zzM,anN,hn,hds,and_self,zzF,zzG]
theorem aic {u e l b m n:Int} (hu':u < 100) (hb:0 < b) (hb':b < 100) {A x7:Option PyData}{ds:List PyData} (hds:ds.length < 1000000) {R:PyData} (nR:noL R=true) {L:Int} (hL':n - jp e R=L) (hw:qI [jl u e l b,R]=some (.int (jp e R))):
  ZK.1 [some (jl u e l b),A,some (.int n),some (.int b),some (.int m),some (.list ds),some R,x7]=
   some (.nx [some (jl u e l b),A,some (.int n),some (.int b),some (.int m),some (.list (ds++if (decide (L % b=0) && (decide (0<=L) && decide (L<=b*m)))=true then [.tuple [R,.int (L / b)]] else [])),some R,some (.int L)]):=by
 have sb:∀ x y:Int,abY (.int x) (.int y)=some (.int (x - y)):=fun _ _=>rfl
 simp only [ZK]
 refine (jz (ρ1:=[some (jl u e l b),A,some (.int n),some (.int b),some (.int m),some (.list ds),some R,some (.int L)]) ?_).trans ?_
 ·simp only [qU,brw,hid,op2,lkp,jB,jk,ju,zzF,zzG,zzA,zzB,zzC,zzD,zzE,hw,sb,jA,hL']
 ·have q1:=aoj (u:=u) (e:=e) (l:=l) (m:=m) (n:=n) hu' hb hb' (A:=A) (x7:=x7) hds nR (L:=L)
  have q2:=aok (u:=u) (e:=e) (l:=l) (m:=m) (n:=n) hu' hb hb' (A:=A) (x7:=x7) hds nR (L:=L)
  have q3:=aol (u:=u) (e:=e) (l:=l) (m:=m) (n:=n) hu' hb hb' (A:=A) (x7:=x7) hds nR (L:=L)
  cases c1:decide (L % b=0) with
  | false=>simp only [jI,ifS,adH,q1,c1,zzD,zzL,zzN,qq,Bool.false_and,List.append_nil]
  | true=>
   cases c2:(decide (0<=L) && decide (L<=b*m)) with
   | false=>simp only [jI,ifS,adH,q1,q2,c1,c2,zzD,zzM,zzL,zzN,qq,Bool.and_false,List.append_nil]
   | true=>simp only [jI,ifS,adH,q1,q2,q3,c1,c2,zzD,zzM,qq,Bool.and_self]
theorem akg {u e l b m n:Int} (hu':u < 100) (hb:0 < b) (hb':b < 100) {A x7:Option PyData}{ds:List PyData} (hds:ds.length < 1000000) {r:PyData} (hr:r ∈ jy u l):
  ZK.1 [some (jl u e l b),A,some (.int n),some (.int b),some (.int m),some (.list ds),some r,x7]=
   some (.nx [some (jl u e l b),A,some (.int n),some (.int b),some (.int m),some (.list (ds++if okL e b m n r=true then [abP e b n r] else [])),some r,some (.int (zc e n r))]):=by
 have hw:=abu (e:=e) (b:=b) hu' hr
 have nR:noL r=true:=by obtain ⟨i,j,_,_,rfl⟩:=abt hr; simp [noL,noLs]
 exact aic hu' hb hb' hds nR rfl hw
theorem ael {u e l b m n:Int} (hu':u < 100) (hb:0 < b) (hb':b < 100) {A:Option PyData}:∀ (rs ds:List PyData) (x6 x7:Option PyData),(∀ r ∈ rs,r ∈ jy u l)->ds.length+rs.length < 1000000->
  ∃ y6 y7,jO (jA 6) ZK.1 rs [some (jl u e l b),A,some (.int n),some (.int b),some (.int m),some (.list ds),x6,x7]=
   some (.nx [some (jl u e l b),A,some (.int n),some (.int b),some (.int m),some (.list (ds++(rs.filter (okL e b m n)).map (abP e b n))),y6,y7])
 | [],ds,x6,x7,_,_=>⟨x6,x7,by simp [jO]⟩
 | r::rs,ds,x6,x7,h,hl=>by
  have hl':ds.length+(rs.length+1) < 1000000:=hl
  have s:=akg (l:=l) (e:=e) (m:=m) (n:=n) hu' hb hb' (A:=A) (x7:=x7) (ds:=ds) (by omega) (h r List.mem_cons_self)
  obtain ⟨y6,y7,ih⟩:=ael (l:=l) (e:=e) (m:=m) (n:=n) hu' hb hb' (A:=A) rs (ds++if okL e b m n r=true then [abP e b n r] else []) (some r) (some (.int (zc e n r))) (fun x hx=>h x (List.mem_cons_of_mem _ hx)) (by split <;> simp <;> omega)
  refine ⟨y6,y7,?_⟩
  rw [jO]
  simp only [jA,zzF,zzG,zzD,s,ih]
  by_cases c:okL e b m n r=true
  ·simp [c,List.filter_cons]
  ·simp [c,List.filter_cons]
theorem agE {u e l b n:Int} (h:okN u e l b=true) (a:Nat) (ha:a < 4):
  aed [jl u e l b,.int (a:Int),.int n]=some (.list (((jy u l).filter (okL e b (qh u e l b a) n)).map (abP e b n))):=by
 obtain ⟨a1,a2,a3,a4,a5,a6,a7,a8,a9,a10⟩:=jF h
 have hu:0<=u:=a1
 have hu':u < 100:=by omega
 have hl:0<=l:=by omega
 have hl':l < 100:=by omega
 have hb:0 < b:=by omega
 have hb':b < 100:=by omega
 refine jY rfl ?_
 have h1:=amq (u:=u) (e:=e) (l:=l) (b:=b) a ha
 have h2:an6 [jl u e l b,jH (List.replicate a (u,l))]=some (.int (qh u e l b a)):=aoh h (by rw [List.length_replicate]; omega) (amp h a)
 have h3:=Zo (e:=e) (b:=b) hu hu' hl hl'
 have hf:=Zp (u:=u) (l:=l) hu' hl'
 have hlen:(jy u l).length < 1000000:=by simpa [few] using hf
 obtain ⟨y6,y7,lp⟩:=ael (u:=u) (l:=l) (e:=e) (m:=qh u e l b a) (n:=n) hu' hb hb' (A:=some (.int (a:Int))) (jy u l) [] none none (fun _ h=>h) (by simpa using hlen)
 show aiZ.1 [some (jl u e l b),some (.int (a:Int)),some (.int n),none,none,none,none,none]=_
 simp only [aiZ]
 refine (jz (ρ1:=[some (jl u e l b),some (.int (a:Int)),some (.int n),some (.int b),none,none,none,none]) ?_).trans ?_
 ·simp only [qU,op2,lkp,cst,jA,zzA,zzC,zzD,zzE,ix3,zzF,zzG]
 refine (jz (ρ1:=[some (jl u e l b),some (.int (a:Int)),some (.int n),some (.int b),some (.int (qh u e l b a)),none,none,none]) ?_).trans ?_
 ·simp only [qU,jB,jk,ju,lkp,jA,zzA,zzB,zzC,zzD,zzE,h1,h2,zzF,zzG]
 have f0:few ([]:List PyData)=true:=QQ
 simp only [aag,JV,ju,f0,zzD,zzM,List.length_cons,List.length_nil,Nat.lt_add_one,zzF,zzG]
 have q:jI (zR (fun ρ=>itL (jB zA (jk (lkp 0) ju)) (hid (some 5) ρ)) (jA 6) ZK.1) (jI (qG (lkp 5)) qq) [some (jl u e l b),some (.int (a:Int)),some (.int n),some (.int b),some (.int (qh u e l b a)),some (.list []),none,none]=
   some (.rt (.list (((jy u l).filter (okL e b (qh u e l b a) n)).map (abP e b n)))):=by
  refine (jz (ρ1:=[some (jl u e l b),some (.int (a:Int)),some (.int n),some (.int b),some (.int (qh u e l b a)),some (.list ([]++((jy u l).filter (okL e b (qh u e l b a) n)).map (abP e b n))),y6,y7]) ?_).trans ?_
  ·simp only [zR,itL,JW,jB,jk,ju,lkp,hid,zzF,zzG,zzA,zzC,zzD,zzE,h3,lp]
  ·simp only [jI,qG,lkp,zzA,zzB,zzC,zzE,zzD,List.nil_append]
 rw [if_pos (by decide),q]
 rfl
noncomputable abbrev KI:=List (Int × Int)
noncomputable def enc (kv:KI):List (PyData × PyData):=kv.map fun p=>(.int p.1,.int p.2)
noncomputable def dI (kv:KI):PyData:= .dict ((.none,.none)::enc kv)
noncomputable def j7 (kv:KI) (k:Int):Option Int:=(kv.find? fun p=>decide (p.1=k)).map (·.2)
noncomputable def qu (kv:KI) (k:Int):Int:=(j7 kv k).getD 0
noncomputable def aaZ (kv:KI) (k v:Int):KI:=if kv.any (fun p=>decide (p.1=k))=true then kv.map (fun p=>if p.1=k then (p.1,v) else p) else kv++[(k,v)]
theorem Zq (kv:KI) (k:Int):zb (enc kv) k=(j7 kv k).map .int:=by
 induction kv with
 | nil=>rfl
 | cons p kv ih=>
  by_cases h:p.1=k
  ·simp [zb,enc,j7,isI,h]
  ·have e1:zb (enc (p::kv)) k=zb (enc kv) k:=by simp [zb,enc,isI,h,List.find?_cons]
   have e2:j7 (p::kv) k=j7 kv k:=by simp [j7,h,List.find?_cons]
   rw [e1,e2,ih]
theorem agF (kv:KI) (k v:Int):acR (enc kv) k (.int v)=enc (aaZ kv k v):=by
 have h1:(enc kv).any (fun p=>isI k p.1)=kv.any fun p=>decide (p.1=k):=by simp [enc,List.any_map,Function.comp_def,isI]
 unfold acR aaZ
 rw [h1]
 by_cases c:kv.any (fun p=>decide (p.1=k))=true
 ·rw [if_pos c,if_pos c]
  simp only [enc,List.map_map]
  apply List.map_congr_left
  intro p _
  by_cases h:p.1=k <;> simp [isI,h]
 ·rw [if_neg c,if_neg c]
  simp [enc]
theorem agG (kv:KI) (k v:Int):(aaZ kv k v).length<=kv.length+1:=by
 unfold aaZ
 split <;> simp
theorem afA {kv:KI}:∀ {p:Int × Int},p ∈ kv->∃ c,j7 kv p.1=some c:=by
 intro p hp
 have:(kv.find? fun q=>decide (q.1=p.1)).isSome=true:=by
  rw [List.find?_isSome]
  exact ⟨p,hp,by simp⟩
 cases h:kv.find? fun q=>decide (q.1=p.1) with
 | none=>rw [h] at this; cases this
 | some q=>exact ⟨q.2,by simp [j7,h]⟩
theorem zV (p:Int × Int) (kv:KI) (x:Int):j7 (p::kv) x=if p.1=x then some p.2 else j7 kv x:=by
 by_cases h:p.1=x <;> simp [j7,List.find?_cons,h]
theorem ai7 (k v x:Int):∀ kv:KI,j7 (kv.map fun p=>if p.1=k then (p.1,v) else p) x=if x=k then (if kv.any (fun p=>decide (p.1=k))=true then some v else none) else j7 kv x
 | []=>by simp [j7]
 | p::kv=>by
  rw [List.map_cons,zV,zV,ai7 k v x kv]
  by_cases hp:p.1=k
  ·by_cases hx:x=k
   ·subst hx; simp [hp]
   ·have hkx:¬ k=x:=fun z=>hx z.symm
    simp [hp,hx,hkx]
  ·by_cases hx:x=k
   ·subst hx; rw [List.any_cons,decide_eq_false hp,Bool.false_or]; simp [hp]
   ·by_cases hq:p.1=x <;> simp [hp,hx,hq]
theorem ai8 (k v x:Int):∀ kv:KI,j7 (kv++[(k,v)]) x=if kv.any (fun p=>decide (p.1=x))=true then j7 kv x else if k=x then some v else none
 | []=>by rw [List.nil_append,zV]; simp [j7]
 | p::kv=>by
  rw [List.cons_append,zV,zV,ai8 k v x kv]
  by_cases hp:p.1=x
  ·simp [hp]
  ·rw [List.any_cons,decide_eq_false hp,Bool.false_or,if_neg hp,if_neg hp]
theorem amr {kv:KI}{x:Int} (h:¬ kv.any (fun p=>decide (p.1=x))=true):j7 kv x=none:=by
 induction kv with
 | nil=>rfl
 | cons p kv ih=>
  rw [zV]
  by_cases hp:p.1=x
  ·exact absurd (by simp [hp]) h
  ·rw [if_neg hp]; exact ih (by simpa [hp] using h)
theorem aom (kv:KI) (k v x:Int):j7 (aaZ kv k v) x=if x=k then some v else j7 kv x:=by
 unfold aaZ
 by_cases c:kv.any (fun p=>decide (p.1=k))=true
 ·rw [if_pos c,ai7,if_pos c]
 ·rw [if_neg c,ai8]
  by_cases hx:x=k
  ·subst hx
   rw [if_neg c,if_pos rfl,if_pos rfl]
  ·have hkx:¬ k=x:=fun z=>hx z.symm
   rw [if_neg hx,if_neg hkx]
   by_cases d:kv.any (fun p=>decide (p.1=x))=true
   ·rw [if_pos d]
   ·rw [if_neg d,amr d]
noncomputable def rp (u l:Int):List (Int × Int):=(List.range (u+1).toNat).flatMap fun (i:Nat)=>(List.range (l+1).toNat).map fun (j:Nat)=>((i:Int),(j:Int))
theorem aa0 (u l:Int):jy u l=(rp u l).map pr:=by
 simp [jy,qZ,qL,rp,List.map_flatMap,List.map_map,Function.comp_def,pr]
theorem afB {u l:Int}{p:Int × Int} (h:okP u l p=true):p ∈ rp u l:=by
 obtain ⟨q1,q2,q3,q4⟩:=qA h
 refine List.mem_flatMap.mpr ⟨p.1.toNat,List.mem_range.mpr (by omega),List.mem_map.mpr ⟨p.2.toNat,List.mem_range.mpr (by omega),?_⟩⟩
 exact Prod.ext (by show ((p.1.toNat:Nat):Int)=p.1; omega) (by show ((p.2.toNat:Nat):Int)=p.2; omega)
theorem agH {u l:Int}{p:Int × Int} (h:p ∈ rp u l):okP u l p=true:=by
 obtain ⟨i,hi,h2⟩:=List.mem_flatMap.mp h
 obtain ⟨j,hj,rfl⟩:=List.mem_map.mp h2
 have:=List.mem_range.mp hi
 have:=List.mem_range.mp hj
 simp only [okP,Bool.and_eq_true,decide_eq_true_eq]
 exact ⟨⟨⟨by omega,by omega⟩,by omega⟩,by omega⟩
theorem aid (u l:Int):(rp u l).length=(jy u l).length:=by rw [aa0,List.length_map]
theorem aao {u e l b:Int} (h:okN u e l b=true):(rp u l).length<=48:=by
 obtain ⟨a1,a2,a3,a4,a5,a6,a7,a8,a9,a10⟩:=jF h
 rw [aid]
 show (qZ (u+1).toNat (l+1).toNat).length<=48
 rw [Qo]
 exact Nat.le_trans (Nat.mul_le_mul (show (u+1).toNat<=4 by omega) (show (l+1).toNat<=12 by omega)) (by decide)
noncomputable def bd (p:Int × Int):Int:=p.1+p.2
noncomputable def okQ (e b M n:Int) (p:Int × Int):Bool:=decide ((n - wt e p) % b=0) && (decide (0<=n - wt e p) && decide (n - wt e p<=b*M))
noncomputable def lps (u e l b:Int) (a:Nat) (n:Int):List ((Int × Int) × Int):=((rp u l).filter (okQ e b (qh u e l b a) n)).map fun p=>(p,(n - wt e p) / b)
noncomputable def ams (q:(Int × Int) × Int):PyData:= .tuple [pr q.1,.int q.2]
theorem aem {u e l b n:Int} (h:okN u e l b=true) (a:Nat) (ha:a < 4):aed [jl u e l b,.int (a:Int),.int n]=some (.list ((lps u e l b a n).map ams)):=by
 rw [agE h a ha,aa0,List.filter_map,List.map_map]
 unfold lps
 rw [List.map_map]
 rfl
theorem afC (u e l b:Int) (a:Nat) (n:Int):(lps u e l b a n).length<=(rp u l).length:=by unfold lps; rw [List.length_map]; exact List.length_filter_le _ _
noncomputable def zZ (acc:KI) (q:Int × Int):KI:=aaZ acc q.1 (if (j7 acc q.1).getD q.2 < q.2 then (j7 acc q.1).getD q.2 else q.2)
theorem aen (acc:KI) (q:Int × Int):(zZ acc q).length<=acc.length+1:=agG _ _ _
theorem Zr:∀ (xs:List (Int × Int)) (acc:KI),(xs.foldl zZ acc).length<=acc.length+xs.length
 | [],acc=>by simp
 | x::xs,acc=>by
  have h1:=Zr xs (zZ acc x)
  have h2:=aen acc x
  rw [List.foldl_cons,List.length_cons]
  omega
noncomputable def JS (d:Option Int) (P:Int->Prop):Prop:=(∀ v,d=some v->P v)/\∀ v,P v->∃ m,d=some m/\m<=v
theorem JS.imp {d:Option Int}{P P':Int->Prop} (h:JS d P) (h1:∀ v,P v->P' v) (h2:∀ v,P' v->∃ w,P w/\w<=v):JS d P':=
 ⟨fun v e=>h1 v (h.1 v e),fun v p=>by
  obtain ⟨w,hw,hl⟩:=h2 v p
  obtain ⟨m,hm,hl2⟩:=h.2 w hw
  exact ⟨m,hm,Int.le_trans hl2 hl⟩⟩
theorem JS.uniq {d d':Option Int}{P:Int->Prop} (h:JS d P) (h':JS d' P):d=d':=by
 cases d with
 | none=>
  cases d' with
  | none=>rfl
  | some v=>obtain ⟨m,hm,_⟩:=h.2 v (h'.1 v rfl); cases hm
 | some v=>
  obtain ⟨m,hm,hl⟩:=h'.2 v (h.1 v rfl)
  obtain ⟨m',hm',hl'⟩:=h.2 m (h'.1 m hm)
  cases hm'
  rw [hm]
  congr 1
  omega
theorem aa1 (k:Int):∀ (xs:List (Int × Int)) (acc:KI),JS (j7 (xs.foldl zZ acc) k) fun v=>j7 acc k=some v ∨ (k,v) ∈ xs
 | [],acc=>⟨fun v e=> .inl e,fun v p=>by
   rcases p with q | q
   ·exact ⟨v,q,Int.le_refl _⟩
   ·cases q⟩
 | x::xs,acc=>by
  rw [List.foldl_cons]
  have ih:=aa1 k xs (zZ acc x)
  have hf:j7 (zZ acc x) k=if k=x.1 then some (if (j7 acc x.1).getD x.2 < x.2 then (j7 acc x.1).getD x.2 else x.2) else j7 acc k:=aom _ _ _ _
  by_cases hk:k=x.1
  ·rw [if_pos hk] at hf
   subst hk
   refine ih.imp (fun v p=>?_) fun v p=>?_
   ·rcases p with q | q
    ·rw [hf] at q
     have q:=Option.some.inj q
     by_cases hlt:(j7 acc x.1).getD x.2 < x.2
     ·rw [if_pos hlt] at q
      cases hc:j7 acc x.1 with
      | none=>rw [hc] at hlt; exact absurd hlt (Int.lt_irrefl _)
      | some c=>rw [hc] at q; exact .inl (by rw [←q]; rfl)
     ·rw [if_neg hlt] at q
      exact .inr (by rw [←q]; exact List.mem_cons_self)
    ·exact .inr (List.mem_cons_of_mem _ q)
   ·rcases p with q | q
    ·refine ⟨_,.inl hf,?_⟩
     rw [q]
     show (if v < x.2 then v else x.2)<=v
     split <;> omega
    ·rcases List.mem_cons.mp q with z | z
     ·refine ⟨_,.inl hf,?_⟩
      have:v=x.2:=by rw [←z]
      rw [this]
      split <;> omega
     ·exact ⟨v,.inr z,Int.le_refl _⟩
  ·rw [if_neg hk] at hf
   refine ih.imp (fun v p=>?_) fun v p=>?_
   ·rcases p with q | q
    ·exact .inl (by rw [←hf]; exact q)
    ·exact .inr (List.mem_cons_of_mem _ q)
   ·rcases p with q | q
    ·exact ⟨v,.inl (by rw [hf]; exact q),Int.le_refl _⟩
    ·rcases List.mem_cons.mp q with z | z
     ·exact absurd (by rw [←z]) hk
     ·exact ⟨v,.inr z,Int.le_refl _⟩
theorem amt (k:Int) (xs:List (Int × Int)):JS (j7 (xs.foldl zZ []) k) fun v=>(k,v) ∈ xs:=
 (aa1 k xs []).imp (fun v p=>by rcases p with q | q; cases q; exact q) fun v p=>⟨v,.inr p,Int.le_refl _⟩
theorem aon {kv:KI}{n c:Int} (h:j7 kv n=some c):∃ p ∈ kv,p.1=n/\qu kv n=c:=by
 unfold j7 at h
 cases hq:kv.find? fun p=>decide (p.1=n) with
 | none=>rw [hq] at h; cases h
 | some q=>
  refine ⟨q,List.mem_of_find?_eq_some hq,by simpa using List.find?_some hq,?_⟩
  unfold qu j7
  rw [hq]
  rw [hq] at h
  exact Option.some.inj h
theorem ai9 (acc:KI) (k v:Int):abL (dI acc) (.int k) (.int v)=some (.int ((j7 acc k).getD v)):=by
 show some ((zb (enc acc) k).getD (.int v))=_
 rw [Zq]
 cases j7 acc k <;> rfl
theorem aqm {acc:KI}{k v:Int} (hl:acc.length < 1000000):ahL (some (dI acc)) (some (.int v)) (some (.int k))=some (dI (aaZ acc k v)):=by
 have hle:(enc acc).length < 1000000:=by simpa [enc] using hl
 show (if (enc acc).length < 1000000 then some (PyData.dict ((.none,.none)::acR (enc acc) k (.int v))) else none)=_
 rw [if_pos hle,agF]
 rfl
theorem aoo {m A W n R:Option PyData}{acc:KI}{k v:Int} (hl:acc.length < 1000000):
  ahM 3 (lkp 6) (jB adZ (jk (lkp 7) (jk (Qk (lkp 3) (lkp 6) (lkp 7)) ju))) [m,A,W,some (dI acc),n,R,some (.int k),some (.int v)]=some (.nx [m,A,W,some (dI (zZ acc (k,v))),n,R,some (.int k),some (.int v)]):=by
 have g2:=ai9 acc k v
 have fk:brw (some 3) (lkp 6) [m,A,W,some (dI acc),n,R,some (.int k),some (.int v)]=some (.int k):=by
  simp only [brw,hid,lkp,zzF,zzG,zzA,zzB,zzC]
 have mn:∀ i j:Int,adZ [.int i,.int j]=some (.int (if j < i then j else i)):=fun _ _=>rfl
 have fv:brw (some 3) (jB adZ (jk (lkp 7) (jk (Qk (lkp 3) (lkp 6) (lkp 7)) ju))) [m,A,W,some (dI acc),n,R,some (.int k),some (.int v)]=some (.int (if (j7 acc k).getD v < v then (j7 acc k).getD v else v)):=by
  simp only [brw,hid,jB,jk,ju,Qk,lkp,zzF,zzG,zzA,zzB,zzC,Option.join_none,zzH,zzD,zzI,zzE,g2,mn]
  rfl
 have l3:lkp 3 [m,A,W,some (dI acc),n,R,some (.int k),some (.int v)]=some (dI acc):=rfl
 simp only [ahM,l3,fk,fv,aqm hl,zzE,zzF,zzG]
 rfl
theorem amu (p:Int × Int):qr [pr p]=some (.int (bd p)):=ZX p.1 p.2
theorem amv {m A:Option PyData}{r:List (PyData × PyData)}{acc:KI}{n k c:Int}{p:Int × Int}{x7:Option PyData} (hc:zb r n=some (.int c)) (hl:acc.length < 1000000):
  aaL.1 [m,A,some (.dict ((.none,.none)::r)),some (dI acc),some (.int n),some (pr p),some (.int k),x7]=some (.nx [m,A,some (.dict ((.none,.none)::r)),some (dI (zZ acc (k,c+bd p))),some (.int n),some (pr p),some (.int k),some (.int (c+bd p))]):=by
 have g1:af7 (.dict ((.none,.none)::r)) (.int n)=some (.int c):=hc
 have fs:brw (some 3) (op2 qV (op2 af7 (lkp 2) (lkp 4)) (jB qr (jk (lkp 5) ju))) [m,A,some (.dict ((.none,.none)::r)),some (dI acc),some (.int n),some (pr p),some (.int k),x7]=some (.int (c+bd p)):=by
  simp only [brw,hid,op2,jB,jk,ju,lkp,zzF,zzG,zzA,zzB,zzC,zzD,zzE,g1,amu,add_int]
 simp only [aaL]
 refine (jz (ρ1:=[m,A,some (.dict ((.none,.none)::r)),some (dI acc),some (.int n),some (pr p),some (.int k),some (.int (c+bd p))]) ?_).trans ?_
 ·simp only [qU,fs,jA,zzD,zzE,zzF,zzG]
 refine (jz (aoo hl)).trans rfl
theorem adj {m A:Option PyData}{r:List (PyData × PyData)}{n c:Int} (hc:zb r n=some (.int c)):∀ (qs:List ((Int × Int) × Int)) (acc:KI) (x5 x6 x7:Option PyData),acc.length+qs.length < 1000000->
  ∃ y5 y6 y7,jO (Q4 2 (j4 (jA 5) (j4 (jA 6) Js))) aaL.1 (qs.map ams) [m,A,some (.dict ((.none,.none)::r)),some (dI acc),some (.int n),x5,x6,x7]=
   some (.nx [m,A,some (.dict ((.none,.none)::r)),some (dI ((qs.map fun q=>(q.2,c+bd q.1)).foldl zZ acc)),some (.int n),y5,y6,y7])
 | [],acc,x5,x6,x7,_=>⟨x5,x6,x7,rfl⟩
 | q::qs,acc,x5,x6,x7,hl=>by
  have hl':acc.length+(qs.length+1) < 1000000:=hl
  have h2:=aen acc (q.2,c+bd q.1)
  obtain ⟨y5,y6,y7,ih⟩:=adj (m:=m) (A:=A) hc qs (zZ acc (q.2,c+bd q.1)) (some (pr q.1)) (some (.int q.2)) (some (.int (c+bd q.1))) (by omega)
  refine ⟨y5,y6,y7,?_⟩
  have s:=amv (m:=m) (A:=A) (acc:=acc) (k:=q.2) (p:=q.1) (x7:=x7) hc (by omega)
  have ga:Q4 2 (j4 (jA 5) (j4 (jA 6) Js)) (ams q) [m,A,some (.dict ((.none,.none)::r)),some (dI acc),some (.int n),x5,x6,x7]=some [m,A,some (.dict ((.none,.none)::r)),some (dI acc),some (.int n),some (pr q.1),some (.int q.2),x7]:=rfl
  rw [List.map_cons,jO,ga,zzD,s,zzD]
  exact ih
noncomputable def ctr (u e l b:Int) (a:Nat) (kv:KI) (p:Int × Int):List (Int × Int):=(lps u e l b a p.1).map fun q=>(q.2,qu kv p.1+bd q.1)
theorem aja (u e l b:Int) (a:Nat) (kv:KI) (p:Int × Int):(ctr u e l b a kv p).length<=(rp u l).length:=by unfold ctr; rw [List.length_map]; exact afC ..
theorem akh {u e l b:Int} (h:okN u e l b=true) (a:Nat) (ha:a < 4) {kv:KI}{n:Int} (hv:zb (enc kv) n=some (.int (qu kv n))) {acc:KI} (hacc:acc.length+(rp u l).length < 1000000) {p:Int × Int} (hp:p.1=n) {x5 x6 x7:Option PyData}:
  ∃ y5 y6 y7,Jl.1 [some (jl u e l b),some (.int (a:Int)),some (dI kv),some (dI acc),some (.int n),x5,x6,x7]=
   some (.nx [some (jl u e l b),some (.int (a:Int)),some (dI kv),some (dI ((ctr u e l b a kv p).foldl zZ acc)),some (.int n),y5,y6,y7]):=by
 have h1:=aem (n:=n) h a ha
 have hq:=afC u e l b a n
 obtain ⟨y5,y6,y7,lp⟩:=adj (m:=some (jl u e l b)) (A:=some (.int (a:Int))) hv (lps u e l b a n) acc x5 x6 x7 (by omega)
 refine ⟨y5,y6,y7,?_⟩
 unfold ctr
 rw [hp]
 simp only [Jl]
 refine (jz (ρ1:=[some (jl u e l b),some (.int (a:Int)),some (dI kv),some (dI (((lps u e l b a n).map fun q=>(q.2,qu kv n+bd q.1)).foldl zZ acc)),some (.int n),y5,y6,y7]) ?_).trans rfl
 simp only [zR,itL,JW,jB,jk,ju,lkp,hid,zzF,zzG,zzA,zzB,zzC,zzD,zzE,h1]
 exact lp
theorem aop {kv:KI}{p:Int × Int} (hp:p ∈ kv):zb (enc kv) p.1=some (.int (qu kv p.1)):=by
 obtain ⟨c,hc⟩:=afA hp
 rw [Zq,hc]; unfold qu; rw [hc]; rfl
theorem adk {u e l b:Int} (h:okN u e l b=true) (a:Nat) (ha:a < 4) (kv:KI):∀ (ps:KI) (acc:KI) (x4 x5 x6 x7:Option PyData),(∀ p ∈ ps,p ∈ kv)->acc.length+(ps.length+1)*(rp u l).length < 1000000->
  ∃ y4 y5 y6 y7,jO (jA 4) Jl.1 (ps.map fun p=> .int p.1) [some (jl u e l b),some (.int (a:Int)),some (dI kv),some (dI acc),x4,x5,x6,x7]=
   some (.nx [some (jl u e l b),some (.int (a:Int)),some (dI kv),some (dI ((ps.flatMap (ctr u e l b a kv)).foldl zZ acc)),y4,y5,y6,y7])
 | [],acc,x4,x5,x6,x7,_,_=>⟨x4,x5,x6,x7,rfl⟩
 | p::ps,acc,x4,x5,x6,x7,hp,hl2=>by
  have e4:(ps.length+1+1)*(rp u l).length=(ps.length+1)*(rp u l).length+(rp u l).length:=by rw [Nat.succ_mul]
  have hl3:acc.length+(ps.length+1+1)*(rp u l).length < 1000000:=hl2
  obtain ⟨y5,y6,y7,s⟩:=akh h a ha (kv:=kv) (n:=p.1) (aop (hp p List.mem_cons_self)) (acc:=acc) (x5:=x5) (x6:=x6) (x7:=x7) (by
   have:(rp u l).length<=(ps.length+1)*(rp u l).length:=Nat.le_mul_of_pos_left _ (by omega)
   omega) (p:=p) rfl
  have h2:=Zr (ctr u e l b a kv p) acc
  have h3:=aja u e l b a kv p
  obtain ⟨z4,z5,z6,z7,ih⟩:=adk h a ha kv ps ((ctr u e l b a kv p).foldl zZ acc) (some (.int p.1)) y5 y6 y7 (fun q hq=>hp q (List.mem_cons_of_mem _ hq)) (by omega)
  refine ⟨z4,z5,z6,z7,?_⟩
  rw [List.map_cons,jO]
  simp only [jA,zzF,zzG,zzD]
  rw [s,zzD,List.flatMap_cons,List.foldl_append]
  exact ih
noncomputable def aby (u e l b:Int) (a:Nat) (kv:KI):KI:=(kv.flatMap (ctr u e l b a kv)).foldl zZ []
theorem agI {α β:Type} (f:α->List β) (k:Nat) (hf:∀ x,(f x).length<=k):∀ xs:List α,(xs.flatMap f).length<=xs.length*k
 | []=>by simp
 | x::xs=>by
  rw [List.flatMap_cons,List.length_append,List.length_cons,Nat.succ_mul]
  have:=agI f k hf xs
  have:=hf x
  omega
theorem aie (u e l b:Int) (a:Nat) (kv:KI):(aby u e l b a kv).length<=kv.length*(rp u l).length:=by
 have h1:=Zr (kv.flatMap (ctr u e l b a kv)) []
 have h2:=agI (ctr u e l b a kv) (rp u l).length (aja u e l b a kv) kv
 rw [List.length_nil,Nat.zero_add] at h1
 exact Nat.le_trans h1 h2
theorem aoq (kv:KI):(BX.zy (dI kv)).map (fun r=>r.map (·.1))=some (kv.map fun p=>PyData.int p.1):=by
 show some ((enc kv).map (·.1))=_
 simp [enc,List.map_map,Function.comp_def]
theorem aki {u e l b:Int} (h:okN u e l b=true) (a:Nat) (ha:a < 4) (kv:KI) (hk:(kv.length+1)*(rp u l).length < 1000000):
  afl [jl u e l b,.int (a:Int),dI kv]=some (dI (aby u e l b a kv)):=by
 refine jY rfl ?_
 obtain ⟨y4,y5,y6,y7,lp⟩:=adk h a ha kv kv [] none none none none (fun _ h=>h) (by simpa using hk)
 show afk.1 [some (jl u e l b),some (.int (a:Int)),some (dI kv),none,none,none,none,none]=_
 have pr:=aoq kv
 have q:jI (zR (fun ρ=>itD (lkp 2) (hid (some 3) ρ)) (jA 4) Jl.1) (jI (qG (lkp 3)) qq) [some (jl u e l b),some (.int (a:Int)),some (dI kv),some (dI []),none,none,none,none]=some (.rt (dI (aby u e l b a kv))):=by
  refine (jz (ρ1:=[some (jl u e l b),some (.int (a:Int)),some (dI kv),some (dI (aby u e l b a kv)),y4,y5,y6,y7]) ?_).trans rfl
  simp only [zR,itD,lkp,hid,zzF,zzG,zzA,zzB,zzC,zzD,pr]
  exact lp
 simp only [afk,aag,cst,zzD,List.length_cons,List.length_nil,zzF,zzG]
 rw [if_pos (by decide)]
 have q':jI (zR (fun ρ=>itD (lkp 2) (hid (some 3) ρ)) (jA 4) Jl.1) (jI (qG (lkp 3)) qq) [some (jl u e l b),some (.int (a:Int)),some (dI kv),some (.dict [(.none,.none)]),none,none,none,none]=some (.rt (dI (aby u e l b a kv))):=q
 rw [q']
 rfl
end Rods
namespace BX
open PySem PySem.Spec L2
open PyProof.Rows hiding St
theorem Qw {ga:PyData->Rho->Option Rho}{F:Rho->Option Out} (Iv:Nat->Rho->Prop):∀ (ds:List PyData) (i:Nat) (ρ:Rho),Iv i ρ->
  (∀ j d ρ,ds[j]?=some d->Iv (i+j) ρ->∃ ρ1 ρ2,ga d ρ=some ρ1/\F ρ1=some (.nx ρ2)/\Iv (i+j+1) ρ2)->∃ ρ',jO ga F ds ρ=some (.nx ρ')/\Iv (i+ds.length) ρ'
 | [],i,ρ,h,_=>⟨ρ,rfl,h⟩
 | d::ds,i,ρ,h,hs=>by
  obtain ⟨ρ1,ρ2,h1,h2,h3⟩:=hs 0 d ρ rfl h
  obtain ⟨ρ',h4,h5⟩:=Qw Iv ds (i+1) ρ2 h3 fun j d ρ hd hi=>by
   have:=hs (j+1) d ρ (by simpa using hd) (by rw [show i+(j+1)=i+1+j by omega]; exact hi)
   rw [show i+1+j+1=i+(j+1)+1 by omega]; exact this
  refine ⟨ρ',?_,by rw [List.length_cons,show i+(ds.length+1)=i+1+ds.length by omega]; exact h5⟩
  simp [jO,h1,h2,h4]
theorem agJ {n j:Nat}{d:PyData} (h:(zQ 0 n)[j]?=some d):j < n/\d= .int j:=by
 simp only [zQ,List.getElem?_map] at h
 cases hj:(List.range n)[j]? with
 | none=>rw [hj] at h; cases h
 | some k=>
  rw [hj] at h
  obtain ⟨h1,h2⟩:=List.getElem?_eq_some_iff.mp hj
  simp at h1 h2
  subst h2
  simp at h
  exact ⟨h1,h.symm⟩
theorem adl (n:Nat):(zQ 0 n).length=n:=by simp [zQ]
end BX
namespace Rods
open PySem L2 BX
open PyProof.Rows hiding St
section
variable {u e l b:Int}
theorem aa2 (b e:Int) (p:Int × Int) (t:List (Int × Int)):val b e (p::t)=wt e p*b ^ t.length+val b e t:=by
 have key:∀ (t:List (Int × Int)) (acc:Int),t.foldl (fun n p=>n*b+wt e p) acc=acc*b ^ t.length+val b e t:=by
  intro t
  induction t with
  | nil=>intro acc; simp [val]
  | cons q t ih=>
   intro acc
   rw [List.foldl_cons,ih]
   show _=acc*b ^ (q::t).length+(q::t).foldl (fun n p=>n*b+wt e p) 0
   rw [List.foldl_cons,ih,List.length_cons,Int.pow_succ,Int.mul_comm (b ^ t.length) b,←Int.mul_assoc,Int.add_mul,Int.zero_mul,Int.zero_add,Int.add_assoc]
 show (p::t).foldl (fun n p=>n*b+wt e p) 0=_
 rw [List.foldl_cons,key]
 simp
theorem aap (a:Nat):qh u e l b (a+1)=qh u e l b a*b+wt e (u,l):=by
 unfold qh
 rw [List.replicate_succ']
 exact aml _ _ _ _
noncomputable def Sp (u e l b:Int) (r:Nat) (n v:Int):Prop:=∃ t:List (Int × Int),t.length=r/\t.all (okP u l)=true/\val b e t=n/\bds t=v
theorem aa3 (p:Int × Int) (t:List (Int × Int)):bds (p::t)=bd p+bds t:=by simp [bds,bd]
theorem ajb {a:Nat}{kv:KI}{k v:Int} (hb:0 < b):(k,v) ∈ kv.flatMap (ctr u e l b a kv) ↔ ∃ p c,okP u l p=true/\j7 kv (k*b+wt e p)=some c/\0<=k/\k<=qh u e l b a/\v=c+bd p:=by
 constructor
 ·intro h
  obtain ⟨q,hq,h2⟩:=List.mem_flatMap.mp h
  obtain ⟨x,hx,h3⟩:=List.mem_map.mp h2
  obtain ⟨p,hp,rfl⟩:=List.mem_map.mp hx
  obtain ⟨hp1,hp2⟩:=List.mem_filter.mp hp
  simp only [okQ,Bool.and_eq_true,decide_eq_true_eq] at hp2
  obtain ⟨o1,o2,o3⟩:=hp2
  obtain ⟨c,hc⟩:=afA hq
  have hk:(q.1 - wt e p) / b=k:=congrArg Prod.fst h3
  have hv:qu kv q.1+bd p=v:=congrArg Prod.snd h3
  have hd:=Int.mul_ediv_add_emod (q.1 - wt e p) b
  rw [o1,hk,Int.mul_comm] at hd
  have e1:k*b+wt e p=q.1:=by omega
  refine ⟨p,c,agH hp1,by rw [e1]; exact hc,?_,?_,?_⟩
  ·rw [←hk]; exact Int.ediv_nonneg o2 (by omega)
  ·rw [←hk]
   exact Int.le_of_lt_add_one (Int.ediv_lt_of_lt_mul hb (by
    have:(qh u e l b a+1)*b=b*qh u e l b a+b:=by rw [Int.add_mul,Int.mul_comm]; omega
    omega))
  ·rw [←hv]; unfold qu; rw [hc]; rfl
 ·rintro ⟨p,c,hp,hc,h0,h1,rfl⟩
  obtain ⟨q,hq,hq1,hq2⟩:=aon hc
  refine List.mem_flatMap.mpr ⟨q,hq,List.mem_map.mpr ⟨(p,k),?_,?_⟩⟩
  ·refine List.mem_map.mpr ⟨p,List.mem_filter.mpr ⟨afB hp,?_⟩,?_⟩
   ·simp only [okQ,Bool.and_eq_true,decide_eq_true_eq]
    have e1:q.1 - wt e p=k*b:=by omega
    rw [e1]
    refine ⟨Int.mul_emod_left _ _,Int.mul_nonneg h0 (by omega),?_⟩
    rw [Int.mul_comm]
    exact Int.mul_le_mul_of_nonneg_left h1 (by omega)
   ·have e1:q.1 - wt e p=k*b:=by omega
    rw [e1,Int.mul_ediv_cancel _ (by omega)]
  ·rw [hq1,hq2]
noncomputable def BkD (u e l b N:Int) (r j:Nat) (D:KI):Prop:=∀ k,JS (j7 D k) fun v=>(j=0 ∨ (0<=k/\k<=qh u e l b (r - j)))/\∃ t:List (Int × Int),t.length=j/\t.all (okP u l)=true/\k*b ^ j+val b e t=N/\bds t=v
theorem aor (N:Int) (r:Nat):BkD u e l b N r 0 [(N,0)]:=fun k=>by
 rw [zV]
 refine ⟨fun v hv=>?_,fun v ⟨_,t,h1,h2,h3,h4⟩=>?_⟩
 ·by_cases hk:N=k
  ·rw [if_pos hk] at hv
   cases hv
   exact ⟨.inl rfl,[],rfl,rfl,by subst hk; simp [val],rfl⟩
  ·rw [if_neg hk] at hv; cases hv
 ·have:t=[]:=List.eq_nil_of_length_eq_zero h1
  subst this
  have:N=k:=by simp [val] at h3; omega
  exact ⟨0,by rw [if_pos this],by rw [←h4]; exact Int.le_refl _⟩
theorem aos (h:okN u e l b=true) {N:Int}{r j:Nat} (hj:j < r) {D:KI} (H:BkD u e l b N r j D):BkD u e l b N r (j+1) (aby u e l b (r - (j+1)) D):=fun k=>by
 obtain ⟨a1,a2,a3,a4,a5,a6,a7,a8,a9,a10⟩:=jF h
 have hb:0 < b:=by omega
 refine (amt k (D.flatMap (ctr u e l b (r - (j+1)) D))).imp (fun v pp=>?_) fun v pp=>?_
 ·obtain ⟨p,c,hp,hc,h0,h1,rfl⟩:=(ajb hb).mp pp
  obtain ⟨_,t,t1,t2,t3,t4⟩:=(H _).1 c hc
  refine ⟨.inr ⟨h0,h1⟩,p::t,by rw [List.length_cons,t1],by rw [List.all_cons,hp,t2]; rfl,?_,by rw [aa3,t4]; omega⟩
  rw [aa2,t1,←t3,Int.add_mul,Int.pow_succ,Int.mul_comm (b ^ j) b,←Int.mul_assoc]
  omega
 ·obtain ⟨hk,t,t1,t2,t3,t4⟩:=pp
  obtain ⟨h0,h1⟩:=hk.resolve_left (by omega)
  cases t with
  | nil=>cases t1
  | cons p t=>
   rw [List.all_cons,Bool.and_eq_true] at t2
   have t1':t.length=j:=by simpa using t1
   have w0:=aej a3 t2.1
   obtain ⟨q1,q2,q3,q4⟩:=qA t2.1
   have w1:wt e p<=wt e (u,l):=by
    have:=Int.mul_le_mul_of_nonneg_right q2 (show 0<=e by omega)
    unfold wt; show p.1*e+p.2<=u*e+l; omega
   have hr:r - j=(r - (j+1))+1:=by omega
   have hm:=aap (u:=u) (e:=e) (l:=l) (b:=b) (r - (j+1))
   have hkb:k*b<=qh u e l b (r - (j+1))*b:=Int.mul_le_mul_of_nonneg_right h1 (by omega)
   have hkb0:0<=k*b:=Int.mul_nonneg h0 (by omega)
   obtain ⟨c,hc,hl⟩:=(H (k*b+wt e p)).2 (bds t) ⟨.inr ⟨by omega,by rw [hr,hm]; omega⟩,t,t1',t2.2,by
    rw [aa2,t1',Int.pow_succ,Int.mul_comm (b ^ j) b,←Int.mul_assoc] at t3
    rw [Int.add_mul]; omega,rfl⟩
   refine ⟨c+bd p,(ajb hb).mpr ⟨p,c,t2.1,hc,h0,h1,rfl⟩,?_⟩
   rw [aa3] at t4
   omega
theorem aqn {N:Int}{r:Nat} (hr:1<=r) {D:KI} (H:BkD u e l b N r r D):JS (j7 D 0) (Sp u e l b r N):=
 (H 0).imp (fun v ⟨_,t,t1,t2,t3,t4⟩=>⟨t,t1,t2,by rw [Int.zero_mul] at t3; omega,t4⟩) fun v ⟨t,t1,t2,t3,t4⟩=>⟨v,⟨.inr ⟨Int.le_refl _,by rw [Nat.sub_self]; exact Int.le_refl _⟩,t,t1,t2,by rw [Int.zero_mul]; omega,t4⟩,Int.le_refl _⟩
end
end Rods
namespace Rods
open PySem L2 BX
open PyProof.Rows hiding St
noncomputable def ofO:Option Int->PyData
 | some v=> .int v
 | none=> .none
end Rods
namespace Rods
open PySem L2 BX
open PyProof.Rows hiding St
section
variable {u e l b:Int}
theorem amw {kv:KI} (h:okN u e l b=true) {j:Nat} (hj:j<=2) (hk:kv.length<=48 ^ j):(kv.length+1)*(rp u l).length < 1000000:=by
 have h1:=aao h
 have h2:kv.length+1<=2305:=by
  have:j=0 ∨ j=1 ∨ j=2:=by omega
  rcases this with q | q | q <;> subst q <;> simp at hk <;> omega
 exact Nat.lt_of_le_of_lt (Nat.mul_le_mul h2 h1) (by decide)
theorem agK {kv kv':KI} (h:okN u e l b=true) {j:Nat} (hk:kv.length<=48 ^ j) (hk':kv'.length<=kv.length*(rp u l).length):kv'.length<=48 ^ (j+1):=by
 rw [Nat.pow_succ]
 exact Nat.le_trans hk' (Nat.mul_le_mul hk (aao h))
theorem Z0 (H:zN=true) (h:okN u e l b=true) {r n:Int} (h1:1<=r) (h4:r<=4) (h0:0<=n) (hn:n<=99999):ql [jl u e l b,.int r,.int n]=some .none:=by
 have g1:=Qv (amn H h)
 have g2:qy [.int r]=some .none:=agB h1 h4
 have g3:zC [.int n]=some .none:=agA h0 hn
 simp [ql,jw,aai,jE,jI,Jr,jB,jk,ju,lkp,g1,g2,g3,qq]
theorem aot (kv:KI) (k:Int):aiP (dI kv) (.int k)=some (ofO (j7 kv k)):=by
 show some ((zb (enc kv) k).getD .none)=_
 rw [Zq]
 cases j7 kv k <;> rfl
theorem abz {r:Nat} (h1:1<=r) (h3:r<=3):ajW [.int ((r:Int) - 1),.int (-1),.int (-1)]=some ((List.range r).map fun (j:Nat)=> .int (((r - (j+1):Nat):Int))):=by
 have:r=1 ∨ r=2 ∨ r=3:=by omega
 rcases this with q | q | q <;> subst q <;> rfl
theorem adm {r j:Nat}{d:PyData} (h:((List.range r).map fun (j:Nat)=>PyData.int (((r - (j+1):Nat):Int)))[j]?=some d):j < r/\d= .int (((r - (j+1):Nat):Int)):=by
 rw [List.getElem?_map] at h
 cases hj:(List.range r)[j]? with
 | none=>rw [hj] at h; cases h
 | some k=>
  rw [hj] at h
  obtain ⟨h1,h2⟩:=List.getElem?_eq_some_iff.mp hj
  simp at h1 h2
  subst h2
  simp at h
  exact ⟨h1,h.symm⟩
theorem amx {kv kv':KI}{a:Nat}{R N:Option PyData} (g:afl [jl u e l b,.int (a:Int),dI kv]=some (dI kv')):aaM.1 [some (jl u e l b),R,N,some (dI kv),some (.int (a:Int))]=some (.nx [some (jl u e l b),R,N,some (dI kv'),some (.int (a:Int))]):=by
 simp only [aaM,jI,qU,jB,jk,ju,lkp,jA,zzA,zzB,zzC,zzD,zzE,g,zzF,zzG,qq]
theorem akj (H:zN=true) (h:okN u e l b=true) {r:Nat} (h1:1<=r) (h3:r<=3) {n:Int} (h0:0<=n) (hn:n<=99999):∃ d,Zl [jl u e l b,.int (r:Int),.int n]=some (ofO d)/\JS d (Sp u e l b r n):=by
 have ga:=Z0 H h (r:=(r:Int)) (n:=n) (by omega) (by omega) h0 hn
 obtain ⟨ρ',hl,hI⟩:=Qw (ga:=jA 4) (F:=aaM.1) (fun i ρ=>∃ D x4,ρ=[some (jl u e l b),some (.int (r:Int)),some (.int n),some (dI D),x4]/\BkD u e l b n r i D/\D.length<=48 ^ i) ((List.range r).map fun (j:Nat)=> .int (((r - (j+1):Nat):Int))) 0
  [some (jl u e l b),some (.int (r:Int)),some (.int n),some (dI [(n,0)]),none] ⟨_,_,rfl,aor n r,by simp⟩ (fun j d ρ hd hi=>by
   obtain ⟨hj,rfl⟩:=adm hd
   obtain ⟨D,x4,rfl,hD,hlen⟩:=hi
   rw [Nat.zero_add] at hD hlen
   have g:=aki h (r - (j+1)) (by omega) D (amw h (j:=j) (by omega) hlen)
   exact ⟨_,_,rfl,amx g,_,_,rfl,by rw [Nat.zero_add]; exact aos h hj hD,by rw [Nat.zero_add]; exact agK h hlen (aie ..)⟩)
 obtain ⟨D,x4,rfl,hD,hlen⟩:=hI
 rw [List.length_map,List.length_range,Nat.zero_add] at hD
 refine ⟨j7 D 0,jY rfl ?_,aqn h1 hD⟩
 have s1:abY (.int (r:Int)) (.int 1)=some (.int ((r:Int) - 1)):=rfl
 have ng:ajN (.int 1)=some (.int (-1)):=rfl
 have rg:=abz h1 h3
 have g1:=aot D 0
 show ac8.1 [some (jl u e l b),some (.int (r:Int)),some (.int n),none,none]=_
 generalize ((List.range r).map fun (j:Nat)=>PyData.int (((r - (j+1):Nat):Int)))=R at*
 generalize jl u e l b=m at*
 generalize (r:Int)=rr at*
 simp only [ac8]
 refine (jz (ρ1:=[some m,some (.int rr),some (.int n),none,none]) ?_).trans ?_
 ·simp only [Jr,jB,jk,ju,lkp,zzA,zzB,zzC,zzD,zzE,ga]
 refine (jz (ρ1:=[some m,some (.int rr),some (.int n),some (dI [(n,0)]),none]) ?_).trans ?_
 ·rfl
 refine (jz (ρ1:=[some m,some (.int rr),some (.int n),some (dI D),x4]) ?_).trans ?_
 ·simp only [zR,jk,ju,op2,lkp,cst,zzA,zzB,zzC,zzD,zzE,s1,ng,rg]
  exact hl
 simp only [jI,qG,op2,lkp,cst,zzA,zzB,zzC,zzD,zzE,g1]
theorem amy {n:Nat} (hn:n<=1000):acE [.int (n:Int)]=some (zQ 0 n):=by
 have:=acl (j:=(n:Int)) (by omega) (by omega)
 rw [show ((n:Int)).toNat=n by omega] at this
 exact this
theorem adn (P:Int->Prop) (h0:∀ v,P v->0<=v):∃ d,JS d P:=by
 by_cases hx:∃ v,P v
 ·obtain ⟨v,hv⟩:=hx
  have:∀ (k:Nat) (v:Int),v=(k:Int)->P v->∃ d,JS d P:=by
   intro k
   induction k using Nat.strongRecOn with
   | _ k ih=>
    intro v hk hv
    by_cases hs:∃ w,P w/\w < v
    ·obtain ⟨w,hw,hlt⟩:=hs
     have:=h0 w hw
     exact ih w.toNat (by omega) w (by omega) hw
    ·exact ⟨some v,fun w e=>by cases e; exact hv,fun w hw=>⟨v,rfl,Int.not_lt.mp fun z=>hs ⟨w,hw,z⟩⟩⟩
  exact this v.toNat v (by have:=h0 v hv; omega) hv
 ·exact ⟨none,(fun v e=>by cases e),(fun v hv=>absurd ⟨v,hv⟩ hx)⟩
theorem apg {r:Nat}{n v:Int} (h:Sp u e l b r n v):0<=v:=by
 obtain ⟨t,k1,h2,k2,h4⟩:=h
 rw [←h4]
 clear h4 k1 k2
 revert h2
 induction t with
 | nil=>intro _; simp [bds]
 | cons p t ih=>
  intro h2
  rw [List.all_cons,Bool.and_eq_true] at h2
  have:=ih h2.2
  obtain ⟨q1,q2,q3,q4⟩:=qA h2.1
  rw [aa3]
  unfold bd
  omega
noncomputable def LB (u e l b:Int) (r:Nat) (n:Int):Option Int:=Classical.choose (adn (Sp u e l b r n) fun _ h=>apg h)
theorem ado (u e l b:Int) (r:Nat) (n:Int):JS (LB u e l b r n) (Sp u e l b r n):=Classical.choose_spec (adn (Sp u e l b r n) fun _ h=>apg h)
theorem akk (H:zN=true) (h:okN u e l b=true) {r:Nat} (h1:1<=r) (h3:r<=3) {n:Int} (h0:0<=n) (hn:n<=99999):Zl [jl u e l b,.int (r:Int),.int n]=some (ofO (LB u e l b r n)):=by
 obtain ⟨d,g,hd⟩:=akj H h h1 h3 h0 hn
 rw [g,hd.uniq (ado u e l b r n)]
end
end Rods
namespace Rods
open PySem L2 BX
open PyProof.Rows hiding St
noncomputable def qB (kv:KI) (k c:Int):KI:=aaZ kv k (qu kv k+c)
noncomputable abbrev Qx (m A W:Option PyData) (acc:KI) (n:Int) (R:Option PyData) (k:Option PyData):Rho:=[m,A,W,some (dI acc),some (.int n),R,k]
theorem aou {m A R:Option PyData}{r:List (PyData × PyData)}{acc:KI}{n k c:Int} (hc:zb r n=some (.int c)) (hl:acc.length < 1000000):
  acd.1 (Qx m A (some (.dict ((.none,.none)::r))) acc n R (some (.int k)))=some (.nx (Qx m A (some (.dict ((.none,.none)::r))) (qB acc k c) n R (some (.int k)))):=by
 have hle:(enc acc).length < 1000000:=by simpa [enc] using hl
 have g2:abL (dI acc) (.int k) (.int 0)=some (.int (qu acc k)):=by
  show some ((zb (enc acc) k).getD (.int 0))=_
  rw [Zq]
  unfold qu
  cases j7 acc k <;> rfl
 have g1:af7 (.dict ((.none,.none)::r)) (.int n)=some (.int c):=hc
 have fv:brw (some 3) (op2 qV (Qk (lkp 3) (lkp 6) (cst (.int 0))) (op2 af7 (lkp 2) (lkp 4))) (Qx m A (some (.dict ((.none,.none)::r))) acc n R (some (.int k)))=some (.int (qu acc k+c)):=by
  simp only [brw,hid,op2,Qk,lkp,cst,zzF,zzG,zzA,zzB,zzC,Option.join_none,zzH,zzD,g1,g2,add_int]
  rfl
 have fk:brw (some 3) (lkp 6) (Qx m A (some (.dict ((.none,.none)::r))) acc n R (some (.int k)))=some (.int k):=by
  simp only [brw,hid,lkp,zzF,zzG,zzA,zzB,zzC]
 have pt:ahL (some (dI acc)) (some (.int (qu acc k+c))) (some (.int k))=some (dI (qB acc k c)):=by
  show (if (enc acc).length < 1000000 then some (PyData.dict ((.none,.none)::acR (enc acc) k (.int (qu acc k+c)))) else none)=_
  rw [if_pos hle,agF]
  rfl
 have l3:lkp 3 (Qx m A (some (.dict ((.none,.none)::r))) acc n R (some (.int k)))=some (dI acc):=rfl
 simp only [acd,jI,ahM,l3,fv,fk,pt,zzE,zzD,qq,zzF,zzG]
theorem aeo (kv:KI) (k c:Int):(qB kv k c).length<=kv.length+1:=agG _ _ _
theorem adp (c:Int):∀ (ks:List Int) (acc:KI),(ks.foldl (fun a k=>qB a k c) acc).length<=acc.length+ks.length
 | [],acc=>by simp
 | k::ks,acc=>by
  have h1:=adp c ks (qB acc k c)
  have h2:=aeo acc k c
  rw [List.foldl_cons,List.length_cons]
  omega
theorem aep {m A:Option PyData}{r:List (PyData × PyData)}{n c:Int} (hc:zb r n=some (.int c)) (e b:Int) (nn:Int):∀ (rs:List PyData) (acc:KI) (x5 x6:Option PyData),acc.length+rs.length < 1000000->
  ∃ y5 y6,jO (Q4 2 (j4 (jA 5) (j4 (jA 6) Js))) acd.1 (rs.map (abP e b nn)) (Qx m A (some (.dict ((.none,.none)::r))) acc n x5 x6)=
   some (.nx (Qx m A (some (.dict ((.none,.none)::r))) ((rs.map fun x=>zc e nn x / b).foldl (fun a k=>qB a k c) acc) n y5 y6))
 | [],acc,x5,x6,_=>⟨x5,x6,rfl⟩
 | x::rs,acc,x5,x6,hl=>by
  have hl':acc.length+(rs.length+1) < 1000000:=hl
  have h2:=aeo acc (zc e nn x / b) c
  obtain ⟨y5,y6,ih⟩:=aep (m:=m) (A:=A) hc e b nn rs (qB acc (zc e nn x / b) c) (some x) (some (.int (zc e nn x / b))) (by omega)
  refine ⟨y5,y6,?_⟩
  have s:=aou (m:=m) (A:=A) (R:=some x) (acc:=acc) (k:=zc e nn x / b) hc (by omega)
  have ga:Q4 2 (j4 (jA 5) (j4 (jA 6) Js)) (abP e b nn x) (Qx m A (some (.dict ((.none,.none)::r))) acc n x5 x6)=some (Qx m A (some (.dict ((.none,.none)::r))) acc n (some x) (some (.int (zc e nn x / b)))):=rfl
  rw [List.map_cons,jO,ga,zzD,s,zzD]
  exact ih
noncomputable def qT (u e l b:Int) (a:Nat) (n:Int):List Int:=((jy u l).filter (okL e b (qh u e l b a) n)).map fun x=>zc e n x / b
noncomputable def longF (u e l b:Int) (a:Nat) (kv:KI):KI:=kv.foldl (fun acc p=>(qT u e l b a p.1).foldl (fun x k=>qB x k (qu kv p.1)) acc) []
theorem amz {u e l b:Int} (h:okN u e l b=true) (a:Nat) (ha:a < 4) {r:List (PyData × PyData)}{n c:Int} (hc:zb r n=some (.int c)) {acc:KI} (hacc:acc.length+(jy u l).length < 1000000) {x5 x6:Option PyData}:
  ∃ y5 y6,JC.1 (Qx (some (jl u e l b)) (some (.int (a:Int))) (some (.dict ((.none,.none)::r))) acc n x5 x6)=
   some (.nx (Qx (some (jl u e l b)) (some (.int (a:Int))) (some (.dict ((.none,.none)::r))) ((qT u e l b a n).foldl (fun x k=>qB x k c) acc) n y5 y6)):=by
 have h1:=agE (e:=e) (n:=n) h a ha
 have hfl:((jy u l).filter (okL e b (qh u e l b a) n)).length<=(jy u l).length:=List.length_filter_le _ _
 obtain ⟨y5,y6,lp⟩:=aep (m:=some (jl u e l b)) (A:=some (.int (a:Int))) hc e b n ((jy u l).filter (okL e b (qh u e l b a) n)) acc x5 x6 (by omega)
 refine ⟨y5,y6,?_⟩
 simp only [JC]
 refine (jz (ρ1:=Qx (some (jl u e l b)) (some (.int (a:Int))) (some (.dict ((.none,.none)::r))) ((qT u e l b a n).foldl (fun x k=>qB x k c) acc) n y5 y6) ?_).trans rfl
 simp only [zR,itL,JW,jB,jk,ju,lkp,hid,Qx,zzF,zzG,zzA,zzB,zzC,zzD,zzE,h1]
 exact lp
theorem agL (u e l b:Int) (a:Nat) (kv:KI) (c:Int->Int):∀ (ps:KI) (acc:KI),(ps.foldl (fun acc p=>(qT u e l b a p.1).foldl (fun x k=>qB x k (c p.1)) acc) acc).length<=acc.length+ps.length*(jy u l).length
 | [],acc=>by simp
 | p::ps,acc=>by
  rw [List.foldl_cons]
  have h1:=agL u e l b a kv c ps ((qT u e l b a p.1).foldl (fun x k=>qB x k (c p.1)) acc)
  have h2:=adp (c p.1) (qT u e l b a p.1) acc
  have h3:(qT u e l b a p.1).length<=(jy u l).length:=by unfold qT; rw [List.length_map]; exact List.length_filter_le _ _
  have h4:(ps.length+1)*(jy u l).length=ps.length*(jy u l).length+(jy u l).length:=by rw [Nat.succ_mul]
  rw [List.length_cons,h4]
  omega
theorem abQ {u e l b:Int} (h:okN u e l b=true) (a:Nat) (ha:a < 4) (kv:KI):∀ (ps:KI) (acc:KI) (x4 x5 x6:Option PyData),(∀ p ∈ ps,p ∈ kv)->acc.length+(ps.length+1)*(jy u l).length < 1000000->
  ∃ y4 y5 y6,jO (jA 4) JC.1 (ps.map fun p=> .int p.1) [some (jl u e l b),some (.int (a:Int)),some (dI kv),some (dI acc),x4,x5,x6]=
   some (.nx [some (jl u e l b),some (.int (a:Int)),some (dI kv),some (dI (ps.foldl (fun acc p=>(qT u e l b a p.1).foldl (fun x k=>qB x k (qu kv p.1)) acc) acc)),y4,y5,y6])
 | [],acc,x4,x5,x6,_,_=>⟨x4,x5,x6,rfl⟩
 | p::ps,acc,x4,x5,x6,hp,hl2=>by
  have e4:(ps.length+1+1)*(jy u l).length=(ps.length+1)*(jy u l).length+(jy u l).length:=by rw [Nat.succ_mul]
  have hl3:acc.length+(ps.length+1+1)*(jy u l).length < 1000000:=hl2
  obtain ⟨c,hc⟩:=afA (hp p List.mem_cons_self)
  have hv:zb (enc kv) p.1=some (.int (qu kv p.1)):=by rw [Zq,hc]; unfold qu; rw [hc]; rfl
  obtain ⟨y5,y6,s⟩:=amz (e:=e) h a ha (r:=enc kv) (n:=p.1) hv (acc:=acc) (x5:=x5) (x6:=x6) (by
   have:(jy u l).length<=(ps.length+1)*(jy u l).length:=Nat.le_mul_of_pos_left _ (by omega)
   omega)
  have h2:=adp (qu kv p.1) (qT u e l b a p.1) acc
  have h3:(qT u e l b a p.1).length<=(jy u l).length:=by unfold qT; rw [List.length_map]; exact List.length_filter_le _ _
  obtain ⟨z4,z5,z6,ih⟩:=abQ (e:=e) h a ha kv ps ((qT u e l b a p.1).foldl (fun x k=>qB x k (qu kv p.1)) acc) (some (.int p.1)) y5 y6 (fun q hq=>hp q (List.mem_cons_of_mem _ hq)) (by omega)
  refine ⟨z4,z5,z6,?_⟩
  rw [List.map_cons,jO]
  simp only [jA,zzF,zzG,zzD]
  have s':JC.1 [some (jl u e l b),some (.int (a:Int)),some (dI kv),some (dI acc),some (.int p.1),x5,x6]=_:=s
  rw [s',zzD]
  exact ih
theorem aif {u e l b:Int} (h:okN u e l b=true) (a:Nat) (ha:a < 4) (kv:KI) (hk:(kv.length+1)*(jy u l).length < 1000000):
  acf [jl u e l b,.int (a:Int),dI kv]=some (dI (longF u e l b a kv)):=by
 refine jY rfl ?_
 obtain ⟨y4,y5,y6,lp⟩:=abQ (e:=e) h a ha kv kv [] none none none (fun _ h=>h) (by simpa using hk)
 show ace.1 [some (jl u e l b),some (.int (a:Int)),some (dI kv),none,none,none,none]=_
 have pr:(BX.zy (dI kv)).map (fun r=>r.map (·.1))=some (kv.map fun p=>PyData.int p.1):=by
  show some ((enc kv).map (·.1))=_
  simp [enc,List.map_map,Function.comp_def]
 have q:jI (zR (fun ρ=>itD (lkp 2) (hid (some 3) ρ)) (jA 4) JC.1) (jI (qG (lkp 3)) qq) [some (jl u e l b),some (.int (a:Int)),some (dI kv),some (dI []),none,none,none]=some (.rt (dI (longF u e l b a kv))):=by
  refine (jz (ρ1:=[some (jl u e l b),some (.int (a:Int)),some (dI kv),some (dI (longF u e l b a kv)),y4,y5,y6]) ?_).trans rfl
  simp only [zR,itD,lkp,hid,zzF,zzG,zzA,zzB,zzC,zzD,pr]
  exact lp
 simp only [ace,aag,cst,zzD,List.length_cons,List.length_nil,zzF,zzG]
 rw [if_pos (by decide)]
 have q':jI (zR (fun ρ=>itD (lkp 2) (hid (some 3) ρ)) (jA 4) JC.1) (jI (qG (lkp 3)) qq) [some (jl u e l b),some (.int (a:Int)),some (dI kv),some (.dict [(.none,.none)]),none,none,none]=some (.rt (dI (longF u e l b a kv))):=q
 rw [q']
 rfl
theorem Z1 (p:Int × Int) (kv:KI) (x:Int):j7 (p::kv) x=if p.1=x then some p.2 else j7 kv x:=by
 by_cases h:p.1=x <;> simp [j7,h,List.find?_cons]
theorem aeq {kv:KI}{k:Int} (h:¬ kv.any (fun p=>decide (p.1=k))=true):j7 kv k=none:=by
 have:kv.find? (fun p=>decide (p.1=k))=none:=by
  rw [List.find?_eq_none]
  intro p hp z
  exact h (List.any_eq_true.mpr ⟨p,hp,z⟩)
 simp [j7,this]
noncomputable def ndK (kv:KI):Prop:=(kv.map (·.1)).Nodup
theorem aig {kv:KI}{k v:Int} (h:ndK kv):ndK (aaZ kv k v):=by
 unfold aaZ
 by_cases c:kv.any (fun p=>decide (p.1=k))=true
 ·rw [if_pos c]
  unfold ndK at h ⊢
  have:(kv.map fun p=>if p.1=k then (p.1,v) else p).map (·.1)=kv.map (·.1):=by
   rw [List.map_map]
   apply List.map_congr_left
   intro p _
   by_cases q:p.1=k <;> simp [q]
  rw [this]; exact h
 ·rw [if_neg c]
  unfold ndK at h ⊢
  rw [List.map_append,List.nodup_append]
  refine ⟨h,by simp,?_⟩
  intro x hx y hy
  have hy':y=k:=by simpa using hy
  subst hy'
  intro z
  subst z
  obtain ⟨p,hp,e⟩:=List.mem_map.mp hx
  exact c (List.any_eq_true.mpr ⟨p,hp,by simpa using e⟩)
theorem ajc (c:Int):∀ (ks:List Int) (acc:KI),ndK acc->ndK (ks.foldl (fun a k=>qB a k c) acc)
 | [],acc,h=>h
 | k::ks,acc,h=>ajc c ks _ (aig h)
theorem agM:∀ {kv:KI}{p:Int × Int},ndK kv->p ∈ kv->qu kv p.1=p.2
 | [],p,_,h=>by simp at h
 | q::kv,p,hn,h=>by
  unfold ndK at hn
  rw [List.map_cons,List.nodup_cons] at hn
  unfold qu
  rw [Z1]
  rcases List.mem_cons.mp h with rfl | h
  ·simp
  ·have:¬ q.1=p.1:=fun z=>hn.1 (List.mem_map.mpr ⟨p,h,z.symm⟩)
   rw [if_neg this]
   exact agM hn.2 h
noncomputable def smK (kv:KI) (f:Int->Int):Int:=(kv.map fun p=>p.2*f p.1).sum
theorem ajd (k v:Int) (f:Int->Int):∀ kv:KI,ndK kv->kv.any (fun p=>decide (p.1=k))=true->smK (kv.map fun p=>if p.1=k then (p.1,v) else p) f=smK kv f+(v - qu kv k)*f k
 | [],_,h=>by simp at h
 | p::kv,hn,h=>by
  unfold ndK at hn
  rw [List.map_cons,List.nodup_cons] at hn
  by_cases h1:p.1=k
  ·have hid:kv.map (fun p=>if p.1=k then (p.1,v) else p)=kv:=by
    conv=>rhs; rw [←List.map_id kv]
    apply List.map_congr_left
    intro q hq
    have:¬ q.1=k:=fun z=>hn.1 (List.mem_map.mpr ⟨q,hq,z.trans h1.symm⟩)
    simp [this]
   rw [List.map_cons,hid]
   have g:qu (p::kv) k=p.2:=by unfold qu; rw [Z1,if_pos h1]; rfl
   rw [g]
   simp only [h1,zzM,smK,List.map_cons,List.sum_cons,Int.sub_mul]
   omega
  ·have c:kv.any (fun p=>decide (p.1=k))=true:=by simpa [h1] using h
   have ih:=ajd k v f kv hn.2 c
   have g:qu (p::kv) k=qu kv k:=by unfold qu; rw [Z1,if_neg h1]
   rw [List.map_cons,if_neg h1,g]
   simp only [smK,List.map_cons,List.sum_cons] at ih ⊢
   rw [ih]
   omega
theorem aje {kv:KI}{k c:Int}{f:Int->Int} (h:ndK kv):smK (qB kv k c) f=smK kv f+c*f k:=by
 unfold qB aaZ
 by_cases q:kv.any (fun p=>decide (p.1=k))=true
 ·rw [if_pos q,ajd k _ f kv h q]
  have:qu kv k+c - qu kv k=c:=by omega
  rw [this]
 ·rw [if_neg q]
  have g:qu kv k=0:=by unfold qu; rw [aeq q]; rfl
  rw [g]
  simp [smK]
theorem agN (c:Int) (f:Int->Int):∀ (ks:List Int) (acc:KI),ndK acc->smK (ks.foldl (fun a k=>qB a k c) acc) f=smK acc f+c*(ks.map f).sum
 | [],acc,_=>by simp
 | k::ks,acc,h=>by
  rw [List.foldl_cons,agN c f ks (qB acc k c) (aig h),aje h,List.map_cons,List.sum_cons,Int.mul_add]
  omega
theorem QS:∀ {xs:List Int},(∀ x ∈ xs,0<=x)->0<=xs.sum
 | [],_=>by simp
 | x::xs,h=>by
  have:=QS (xs:=xs) fun y hy=>h y (List.mem_cons_of_mem _ hy)
  have:=h x List.mem_cons_self
  rw [List.sum_cons]; omega
theorem amA:∀ {xs:List Int}{y:Int},(∀ x ∈ xs,0<=x)->y ∈ xs->y<=xs.sum
 | [],y,_,h=>by simp at h
 | x::xs,y,h,hy=>by
  have h1:=QS (xs:=xs) fun z hz=>h z (List.mem_cons_of_mem _ hz)
  rw [List.sum_cons]
  rcases List.mem_cons.mp hy with rfl | hy
  ·omega
  ·have h2:=amA (xs:=xs) (fun z hz=>h z (List.mem_cons_of_mem _ hz)) hy
   have:=h x List.mem_cons_self
   omega
theorem adq (p:PyData->Bool) (h:PyData->Int):∀ rs:List PyData,((rs.filter p).map h).sum=(rs.map fun r=>if p r=true then h r else 0).sum
 | []=>rfl
 | r::rs=>by
  rw [List.map_cons,List.sum_cons,←adq p h rs]
  by_cases c:p r=true
  ·rw [List.filter_cons_of_pos c,if_pos c,List.map_cons,List.sum_cons]
  ·rw [List.filter_cons_of_neg c,if_neg c]; omega
end Rods
namespace Rods
open PySem L2 BX
open PyProof.Rows hiding St
section
variable {u e l b:Int}
noncomputable def CN (u e l b:Int):Nat->Int->Int
 | 0,n=>if n=0 then 1 else 0
 | r+1,n=>((jy u l).map fun x=>if (n - jp e x) % b=0/\0<=n - jp e x then CN u e l b r ((n - jp e x) / b) else 0).sum
theorem aer (f:PyData->Int):∀ ks:List PyData,(∀ k ∈ ks,f k=0)->(ks.map f).sum=0
 | [],_=>rfl
 | k::ks,h=>by rw [List.map_cons,List.sum_cons,h k List.mem_cons_self,aer f ks fun x hx=>h x (List.mem_cons_of_mem _ hx)]; rfl
theorem aes (h:okN u e l b=true) {x:PyData} (hx:x ∈ jy u l):0<=jp e x/\jp e x<=u*e+l:=by
 obtain ⟨a1,a2,a3,a4,a5,a6,a7,a8,a9,a10⟩:=jF h
 rw [aa0] at hx
 obtain ⟨p,hp,rfl⟩:=List.mem_map.mp hx
 have ok:=agH hp
 obtain ⟨q1,q2,q3,q4⟩:=qA ok
 have w0:=aej a3 ok
 refine ⟨w0,?_⟩
 have:=Int.mul_le_mul_of_nonneg_right q2 (show 0<=e by omega)
 show p.1*e+p.2<=u*e+l
 omega
theorem ajf (h:okN u e l b=true):∀ (r:Nat) (k:Int),qh u e l b r < k->CN u e l b r k=0
 | 0,k,hk=>by
  have:qh u e l b 0=0:=rfl
  show (if k=0 then (1:Int) else 0)=0
  rw [if_neg (by omega)]
 | r+1,k,hk=>by
  obtain ⟨a1,a2,a3,a4,a5,a6,a7,a8,a9,a10⟩:=jF h
  refine aer _ _ fun x hx=>?_
  obtain ⟨w0,w1⟩:=aes h hx
  by_cases hc:(k - jp e x) % b=0/\0<=k - jp e x
  ·rw [if_pos hc]
   refine ajf h r _ ?_
   rw [aap] at hk
   have e1:wt e (u,l)=u*e+l:=rfl
   rw [e1] at hk
   have hd:=Int.mul_ediv_add_emod (k - jp e x) b
   rw [hc.1,Int.mul_comm] at hd
   exact Int.lt_of_mul_lt_mul_right (show qh u e l b r*b < (k - jp e x) / b*b by omega) (by omega)
  ·rw [if_neg hc]
theorem akl (h:okN u e l b=true) (a:Nat) (n:Int):((qT u e l b a n).map (CN u e l b a)).sum=CN u e l b (a+1) n:=by
 obtain ⟨a1,a2,a3,a4,a5,a6,a7,a8,a9,a10⟩:=jF h
 unfold qT
 rw [List.map_map,adq]
 show _=((jy u l).map fun x=>if (n - jp e x) % b=0/\0<=n - jp e x then CN u e l b a ((n - jp e x) / b) else 0).sum
 congr 1
 refine List.map_congr_left fun x hx=>?_
 by_cases hc:(n - jp e x) % b=0/\0<=n - jp e x
 ·rw [if_pos hc]
  by_cases hM:n - jp e x<=b*qh u e l b a
  ·have ok:okL e b (qh u e l b a) n x=true:=by
    simp only [okL,zc,Bool.and_eq_true]
    exact ⟨decide_eq_true hc.1,decide_eq_true hc.2,decide_eq_true hM⟩
   rw [if_pos ok]; rfl
  ·have ok:¬ okL e b (qh u e l b a) n x=true:=by
    simp only [okL,zc,Bool.and_eq_true]
    exact fun z=>hM (of_decide_eq_true z.2.2)
   rw [if_neg ok]
   refine (ajf h a _ ?_).symm
   have hd:=Int.mul_ediv_add_emod (n - jp e x) b
   rw [hc.1] at hd
   exact Int.lt_of_mul_lt_mul_left (show b*qh u e l b a < b*((n - jp e x) / b) by omega) (by omega)
 ·have ok:¬ okL e b (qh u e l b a) n x=true:=by
   simp only [okL,zc,Bool.and_eq_true]
   exact fun z=>hc ⟨of_decide_eq_true z.1,of_decide_eq_true z.2.1⟩
  rw [if_neg ok,if_neg hc]
theorem agO (a:Nat) (g f:Int->Int):∀ (ps acc:KI),ndK acc->ndK (ps.foldl (fun acc p=>(qT u e l b a p.1).foldl (fun x k=>qB x k (g p.1)) acc) acc)/\smK (ps.foldl (fun acc p=>(qT u e l b a p.1).foldl (fun x k=>qB x k (g p.1)) acc) acc) f=smK acc f+(ps.map fun p=>g p.1*((qT u e l b a p.1).map f).sum).sum
 | [],acc,hn=>⟨hn,by simp⟩
 | p::ps,acc,hn=>by
  obtain ⟨h1,h2⟩:=agO a g f ps ((qT u e l b a p.1).foldl (fun x k=>qB x k (g p.1)) acc) (ajc _ _ _ hn)
  refine ⟨h1,?_⟩
  rw [List.foldl_cons,h2,agN _ _ _ _ hn,List.map_cons,List.sum_cons]
  omega
theorem agP (h:okN u e l b=true) (a:Nat) {kv:KI} (hn:ndK kv):ndK (longF u e l b a kv)/\smK (longF u e l b a kv) (CN u e l b a)=smK kv (CN u e l b (a+1)):=by
 obtain ⟨h1,h2⟩:=agO (u:=u) (e:=e) (l:=l) (b:=b) a (qu kv) (CN u e l b a) kv [] (by simp [ndK])
 refine ⟨h1,?_⟩
 show smK (kv.foldl _ []) _=_
 rw [h2]
 have e0:smK [] (CN u e l b a)=0:=rfl
 rw [e0,Int.zero_add]
 unfold smK
 congr 1
 refine List.map_congr_left fun p hp=>?_
 rw [akl h,agM hn hp]
theorem afD:∀ {kv:KI},ndK kv->smK kv (CN u e l b 0)=qu kv 0
 | [],_=>rfl
 | p::kv,hn=>by
  have hn':ndK kv:=by unfold ndK at hn ⊢; rw [List.map_cons] at hn; exact (List.nodup_cons.mp hn).2
  have hne:p.1 ∉ kv.map (·.1):=by unfold ndK at hn; rw [List.map_cons] at hn; exact (List.nodup_cons.mp hn).1
  have ih:=afD hn'
  have e1:smK (p::kv) (CN u e l b 0)=p.2*(if p.1=0 then 1 else 0)+smK kv (CN u e l b 0):=by
   unfold smK
   rw [List.map_cons,List.sum_cons]
   rfl
  rw [e1,ih]
  unfold qu
  rw [Z1]
  by_cases h0:p.1=0
  ·rw [if_pos h0,if_pos h0]
   have:j7 kv 0=none:=aeq fun z=>by
    obtain ⟨q,hq,hq2⟩:=List.any_eq_true.mp z
    exact hne (List.mem_map.mpr ⟨q,hq,by rw [h0]; simpa using hq2⟩)
   rw [this]
   simp
  ·rw [if_neg h0,if_neg h0]
   simp
theorem aqo {kv kv':KI}{a:Nat}{R N:Option PyData} (g:acf [jl u e l b,.int (a:Int),dI kv]=some (dI kv')):ada.1 [some (jl u e l b),R,N,some (dI kv),some (.int (a:Int))]=some (.nx [some (jl u e l b),R,N,some (dI kv'),some (.int (a:Int))]):=by
 simp only [ada,jI,qU,jB,jk,ju,lkp,jA,zzA,zzB,zzC,zzD,zzE,g,zzF,zzG,qq]
theorem amB {m:PyData}{rr n s:Int}{R:List PyData}{D:KI}{x4:Option PyData} (ga:ql [m,.int rr,.int n]=some .none) (s1:abY (.int rr) (.int 1)=some (.int s)) (rg:ajW [.int s,.int (-1),.int (-1)]=some R) (hl:jO (jA 4) ada.1 R [some m,some (.int rr),some (.int n),some (dI [(n,1)]),none]=some (.nx [some m,some (.int rr),some (.int n),some (dI D),x4])):
  al5.1 [some m,some (.int rr),some (.int n),none,none]=some (.rt (.int (qu D 0))):=by
 have ng:ajN (.int 1)=some (.int (-1)):=rfl
 have g2:=ai9 D 0 0
 simp only [al5]
 refine (jz (ρ1:=[some m,some (.int rr),some (.int n),none,none]) ?_).trans ?_
 ·simp only [Jr,jB,jk,ju,lkp,zzA,zzB,zzC,zzD,zzE,ga]
 refine (jz (ρ1:=[some m,some (.int rr),some (.int n),some (dI [(n,1)]),none]) ?_).trans ?_
 ·rfl
 refine (jz (ρ1:=[some m,some (.int rr),some (.int n),some (dI D),x4]) ?_).trans ?_
 ·simp only [zR,jk,ju,op2,lkp,cst,zzA,zzB,zzC,zzD,zzE,s1,ng,rg]
  exact hl
 simp only [jI,qG,Qk,lkp,cst,zzA,zzB,zzC,zzD,zzE,g2]
 rfl
theorem akm (h:okN u e l b=true) (a:Nat) (kv:KI):(longF u e l b a kv).length<=kv.length*(rp u l).length:=by
 have:=agL u e l b a kv (qu kv) kv []
 rw [List.length_nil,Nat.zero_add,←aid] at this
 exact this
theorem aov (H:zN=true) (h:okN u e l b=true) {r:Nat} (h1:1<=r) (h3:r<=3) {n:Int} (h0:0<=n) (hn:n<=99999):ah4 [jl u e l b,.int (r:Int),.int n]=some (.int (CN u e l b r n)):=by
 have ga:=Z0 H h (r:=(r:Int)) (n:=n) (by omega) (by omega) h0 hn
 obtain ⟨ρ',hl,hI⟩:=Qw (ga:=jA 4) (F:=ada.1) (fun i ρ=>∃ D x4,ρ=[some (jl u e l b),some (.int (r:Int)),some (.int n),some (dI D),x4]/\ndK D/\smK D (CN u e l b (r - i))=CN u e l b r n/\D.length<=48 ^ i) ((List.range r).map fun (j:Nat)=> .int (((r - (j+1):Nat):Int))) 0
  [some (jl u e l b),some (.int (r:Int)),some (.int n),some (dI [(n,1)]),none] ⟨_,_,rfl,by simp [ndK],by simp [smK],by simp⟩ (fun j d ρ hd hi=>by
   obtain ⟨hj,rfl⟩:=adm hd
   obtain ⟨D,x4,rfl,hD,hS,hlen⟩:=hi
   rw [Nat.zero_add] at hS hlen
   have hk:=amw h (j:=j) (by omega) hlen
   rw [aid] at hk
   have g:=aif h (r - (j+1)) (by omega) D hk
   obtain ⟨s1,s2⟩:=agP h (r - (j+1)) hD
   exact ⟨_,_,rfl,aqo g,_,_,rfl,s1,by rw [Nat.zero_add,s2,show r - (j+1)+1=r - j by omega]; exact hS,by rw [Nat.zero_add]; exact agK h hlen (akm h _ _)⟩)
 obtain ⟨D,x4,rfl,hD,hS,hlen⟩:=hI
 rw [List.length_map,List.length_range,Nat.zero_add,Nat.sub_self,afD hD] at hS
 rw [←hS]
 exact jY rfl (amB ga rfl (abz h1 h3) hl)
end
end Rods
namespace Rods
open PySem L2 BX
open PyProof.Rows hiding St
theorem amC {u e l b:Int} (h:okN u e l b=true):0<=u*e+l/\u*e+l<=26:=by
 obtain ⟨a1,a2,a3,a4,a5,a6,a7,a8,a9,a10⟩:=jF h
 have h1:0<=u*e:=Int.mul_nonneg a1 (by omega)
 have h2:u*e<=3*5:=Int.mul_le_mul (by omega) (by omega) (by omega) (by omega)
 omega
theorem ads (ns:List Int):zp (ns.map PyData.int)=some ns:=by
 have:=adg (fun x:Int=>x) ns
 simpa using this
end Rods
namespace Rods
open PySem L2 BX
open PyProof.Rows hiding St
section
variable {u e l b:Int}{ps qs:List (Int × Int)}
theorem afE {xs ys:List PyData} (hx:xs ≠ [] ∨ True) (hl:xs.length+ys.length < 10000):qV (.tuple xs) (.tuple ys)=some (.tuple (xs++ys)):=by
 cases xs with
 | nil=>rfl
 | cons x xs=>
  have hf:few ((x::xs)++ys)=true:=qN (by rw [List.length_append]; exact hl)
  show (if few ((x::xs)++ys)=true then some (PyData.tuple ((x::xs)++ys)) else none)=_
  rw [if_pos hf]
theorem amD (i j:Int):dNe (.int i) (.int j)=some (.bool (!decide (i=j))):=by
 have:(i == j)=decide (i=j):=rfl
 simp only [dNe,aaW,afv,and_self,zzM,this]
theorem aa4 {N:List Str}{n:Nat}{F:Rho->Option Str}{ds:List PyData} (hl:ds.length=n):JM N n F ds=F (jE N ds):=by
 unfold JM
 rw [if_pos hl]
end
end Rods
namespace Rods
open PySem L2 BX
open PyProof.Rows hiding St
noncomputable def whB (a b:Int):PyData->Bool
 | .int i=>decide (a<=i) && decide (i<=b)
 | _=>false
theorem abR (d:PyData) (hd:noD d=true) (a b:Int):qe [d,.int a,.int b]=some (.bool (whB a b d)):=by
 cases d with
 | int i=>exact qf i a b
 | dict k=>simp [noD] at hd
 | _=>simp [qe,jw,aaH,jE,jI,ifS,orB,tst,lkp,ab0,tyn,asB,Jp,chn,Qg,qG,qq,whB,cst]
theorem akn {d:PyData} (h:qx [d]=some (.bool false)):J1 [d]=none:=by
 simp [J1,jw,afh,jE,jI,ifS,Jp,tst,asB,jB,jk,ju,lkp,h,ahy]
theorem ako {d:PyData} (h:qx [d]=some (.bool false)):aal [d]=some ("NoManner":Str):=by
 refine (aa4 rfl).trans ?_
 show abp.1 [some d]=_
 simp [abp,ifX,Jp,tst,asB,jB,jk,ju,lkp,h]
theorem abA {d:PyData} (h:qx [d]=some (.bool true)):aal [d]=none:=by
 refine (aa4 rfl).trans ?_
 show abp.1 [some d]=_
 simp [abp,ifX,Jp,tst,asB,jB,jk,ju,lkp,h,ahS]
theorem asj {i j:Int} (h:-1000<=i/\i<=1000):Ju (.int i) (.int j)=some (.int (i*j)):=by
 show (if (-(2 ^ 64) < i/\i < 2 ^ 64) ∨ (-(2 ^ 64) < j/\j < 2 ^ 64) then some (PyData.int (i*j)) else none)=_
 rw [if_pos (.inl ⟨by omega,by omega⟩)]
theorem arC {i j:Int} (h:-1000<=j/\j<=1000):Ju (.int i) (.int j)=some (.int (i*j)):=by
 show (if (-(2 ^ 64) < i/\i < 2 ^ 64) ∨ (-(2 ^ 64) < j/\j < 2 ^ 64) then some (PyData.int (i*j)) else none)=_
 rw [if_pos (.inr ⟨by omega,by omega⟩)]
end Rods
namespace Rods
open PySem L2 BX
open PyProof.Rows hiding St
section
variable {u e l b:Int}
theorem abS (h:okN u e l b=true) {S:PyData}:∀ (qs:List (Int × Int)) (acc:Int) (x y:Option PyData),
  ∃ x' y',jO (Q4 2 (j4 (jA 3) (j4 (jA 4) Js))) aaS.1 (qs.map pr) [some (jl u e l b),some S,some (.int acc),x,y]=some (.nx [some (jl u e l b),some S,some (.int (qs.foldl (fun n p=>n*b+wt e p) acc)),x',y'])
 | [],acc,x,y=>⟨x,y,rfl⟩
 | q::qs,acc,x,y=>by
  obtain ⟨a1,a2,a3,a4,a5,a6,a7,a8,a9,a10⟩:=jF h
  have m1:Ju (.int b) (.int acc)=some (.int (b*acc)):=asj (by omega)
  have m2:Ju (.int q.1) (.int e)=some (.int (q.1*e)):=arC (by omega)
  have step:aaS.1 [some (jl u e l b),some S,some (.int acc),some (.int q.1),some (.int q.2)]=some (.nx [some (jl u e l b),some S,some (.int (acc*b+wt e q)),some (.int q.1),some (.int q.2)]):=by
   have:acc*b+wt e q=b*acc+q.1*e+q.2:=by unfold wt; rw [Int.mul_comm acc b]; omega
   rw [this]
   simp only [aaS,jI,qU,op2,lkp,cst,jA,zzA,zzB,zzC,zzD,zzE,ix3,ix1,m1,m2,add_int,zzF,zzG,qq]
  obtain ⟨x',y',hy⟩:=abS h (S:=S) qs (acc*b+wt e q) (some (.int q.1)) (some (.int q.2))
  refine ⟨x',y',?_⟩
  rw [List.map_cons]
  have ga:Q4 2 (j4 (jA 3) (j4 (jA 4) Js)) (pr q) [some (jl u e l b),some S,some (.int acc),x,y]=some [some (jl u e l b),some S,some (.int acc),some (.int q.1),some (.int q.2)]:=rfl
  simp only [jO,ga,zzD,step]
  exact hy
theorem adt (h:okN u e l b=true) (ps:List (Int × Int)):QN [jl u e l b,jH ps]=some (.int (val b e ps)):=by
 obtain ⟨x',y',hy⟩:=abS h (S:=jH ps) ps 0 none none
 refine jY rfl ?_
 show acj.1 [some (jl u e l b),some (jH ps),none,none,none]=_
 simp only [acj]
 refine (jz (ρ1:=[some (jl u e l b),some (jH ps),some (.int 0),none,none]) rfl).trans ?_
 refine (jz (ρ1:=[some (jl u e l b),some (jH ps),some (.int (val b e ps)),x',y']) ?_).trans rfl
 show (itS (lkp 1) _).bind _=_
 rw [show itS (lkp 1) [some (jl u e l b),some (jH ps),some (.int 0),none,none]=some (ps.map pr) from rfl]
 exact hy
theorem aow (i n:Nat):(zQ 0 n).map (fun d=>PyData.tuple [.int (i:Int),d])=qL i n:=by
 simp [zQ,qL]
theorem abB (hu:0<=u) (hu':u < 50) (hl:0<=l) (hl':l < 50):aan [jl u e l b]=some (.list (jy u l)):=by
 have r1:acE [.int (u+1)]=some (zQ 0 (u+1).toNat):=acl (by omega) (by omega)
 have r2:acE [.int (l+1)]=some (zQ 0 (l+1).toNat):=acl (by omega) (by omega)
 have f2:few (zQ 0 (l+1).toNat)=true:=qN (by simp [zQ]; omega)
 obtain ⟨ρ',hl1,hI⟩:=Qw (ga:=jA 2) (F:=afs.1) (fun i ρ=>i<=(u+1).toNat->∃ x,ρ=[some (jl u e l b),some (.list (qZ i (l+1).toNat)),x]) (zQ 0 (u+1).toNat) 0 [some (jl u e l b),some (.list []),none] (fun _=>⟨none,rfl⟩) (fun j d ρ hd hi=>by
  obtain ⟨hj,rfl⟩:=agJ hd
  rw [Nat.zero_add] at hi ⊢
  obtain ⟨x,rfl⟩:=hi (by omega)
  have cm:jS (jA 0) zW (zG (jk (lkp 1) (jk (lkp 0) ju))) (zQ 0 (l+1).toNat) [none,some (.int (j:Int))]=some (qL j (l+1).toNat):=by
   rw [Zz (fun d=>PyData.tuple [.int (j:Int),d]),aow]
   intro d hd
   have f1:few [PyData.int (j:Int),d]=true:=qN (by simp)
   simp only [zG,jk,ju,lkp,zzG,zzA,zzB,zzC,zzD,zzE,f1,zzM]
  have ad:qV (.list (qZ j (l+1).toNat)) (.list (qL j (l+1).toNat))=some (.list (qZ (j+1) (l+1).toNat)):=by
   rw [QL]
   show (if few (qZ j (l+1).toNat++qL j (l+1).toNat)=true then some (PyData.list (qZ j (l+1).toNat++qL j (l+1).toNat)) else none)=_
   rw [if_pos]
   refine qN ?_
   rw [List.length_append,Qo,aff]
   have:j*(l+1).toNat<=50*50:=Nat.mul_le_mul (by omega) (by omega)
   omega
  refine ⟨_,_,rfl,?_,fun _=>⟨some (.int (j:Int)),rfl⟩⟩
  simp only [afs,jI,qU,op2,j9,lkp,cst,jk,ju,jA,JH,List.map_cons,List.map_nil,zzA,zzB,zzC,zzD,zzH,zzE,ix2,add_int,r2,f2,zzM,cm,ad,zzF,zzG,qq])
 rw [adl,Nat.zero_add] at hI
 obtain ⟨x,rfl⟩:=hI (Nat.le_refl _)
 refine jY rfl ?_
 show aft.1 [some (jl u e l b),none,none]=_
 simp only [aft]
 refine (jz (ρ1:=[some (jl u e l b),some (.list []),none]) rfl).trans ?_
 refine (jz (ρ1:=[some (jl u e l b),some (.list (qZ (u+1).toNat (l+1).toNat)),x]) ?_).trans rfl
 simp only [zR,jk,ju,op2,lkp,cst,zzA,zzB,zzC,zzD,zzE,ix0,add_int,r1]
 exact hl1
theorem aa5 {ft:Rho->Option Bool}{fe:Rho->Option PyData} (t:Int × Int->Bool) (g:Int × Int->PyData) {τ:Rho} (h1:∀ p,ft (some (pr p)::τ)=some (t p)) (h2:∀ p,fe (some (pr p)::τ)=some (g p)):∀ (ps:List (Int × Int)) (x:Option PyData),jS (jA 0) ft fe (ps.map pr) (x::τ)=some ((ps.filter t).map g)
 | [],x=>rfl
 | p::ps,x=>by
  have ih:=aa5 t g h1 h2 ps (some (pr p))
  simp only [List.map_cons,jS,jA,zzD,zzG,h1,h2,ih]
  by_cases hp:t p=true
  ·simp [hp,List.filter_cons]
  ·simp [hp,List.filter_cons]
end
end Rods
namespace Rods
open PySem L2 BX
open PyProof.Rows hiding St
theorem qi {N:List Str}{n:Nat}{F:Rho->Option Str}{ds:List PyData}{c:Option Str} (hl:ds.length=n) (h:F (jE N ds)=c):JM N n F ds=c:=(aa4 hl).trans h
theorem ajg {N:List Str}{n:Nat}{B:Rho->Option Out}{ds:List PyData} (hl:ds.length=n) (h:B (jE N ds)=none):jw N n B ds=none:=by
 unfold jw; rw [if_pos hl,h]
end Rods
namespace Rods
open PySem L2 BX
open PyProof.Rows hiding St
section
variable {u e l b:Int}{ps qs:List (Int × Int)}
theorem aih (h:okN u e l b=true) {r:Nat}{n:Int} (h1:1<=r) (h4:r<=4) (h0:0<=n) (hn:b ^ r<=n):aca [jl u e l b,.int (r:Int),.int n]=none:=by
 obtain ⟨a1,a2,a3,a4,a5,a6,a7,a8,a9,a10⟩:=jF h
 have hb:0 < b:=by omega
 have hd:=afy (n:=n) hb a9 h1 h4
 obtain ⟨k,rfl⟩:∃ k,r=k+1:=⟨r - 1,by omega⟩
 obtain ⟨x,xs,hx,_,hx2⟩:=aaY hb k n h0
 have hi:=amo h4 hx
 have hc:Qg (fun i j=>decide (j<=i)) (.int x) (.int b)=some (.bool true):=by
  show some (PyData.bool (decide (b<=x)))=_
  rw [decide_eq_true (hx2 hn)]
 generalize hr:((k+1:Nat):Int)=rr at hd ⊢
 refine ajg rfl ?_
 show ZP.1 [some (jl u e l b),some (.int rr),some (.int n),none]=none
 dsimp? [ZP,ix3,hd,hi,hc]
end
end Rods
namespace Rods
open PySem L2 BX
open PyProof.Rows hiding St
theorem aqp {d:PyData} (hd:noD d=true) (w:whB 0 99999 d=false):zC [d]=none/\aaQ [d]=some ("NoNumber":Str):=by
 have gw:=abR d hd 0 99999
 rw [w] at gw
 constructor
 ·simp [zC,jw,aaJ,jE,jI,ifS,Jp,tst,asB,cst,jB,jk,ju,lkp,gw,ahy]
 ·refine qi rfl ?_
  show ZS.1 [some d]=_
  simp [ZS,orX,ifX,Jp,tst,asB,cst,jB,jk,ju,lkp,gw]
theorem aqq {i:Int} (h:0<=i/\i<=99999):zC [.int i]=some .none/\aaQ [.int i]=none:=by
 have gw:=qf i 0 99999
 rw [decide_eq_true h.1,decide_eq_true h.2] at gw
 constructor
 ·simp [zC,jw,aaJ,jE,jI,ifS,Jp,tst,asB,cst,jB,jk,ju,lkp,gw,qq]
 ·refine qi rfl ?_
  show ZS.1 [some (.int i)]=_
  simp [ZS,orX,ifX,Jp,tst,asB,cst,jB,jk,ju,lkp,gw,ahS]
theorem aox {d:PyData} (hd:noD d=true) (w:whB 1 4 d=false):qy [d]=none/\Qt [d]=some ("NoNumber":Str):=by
 have gw:=abR d hd 1 4
 rw [w] at gw
 constructor
 ·simp [qy,jw,Zi,jE,jI,ifS,Jp,tst,asB,cst,jB,jk,ju,lkp,gw,ahy]
 ·refine qi rfl ?_
  show Qs.1 [some d]=_
  simp [Qs,orX,ifX,Jp,tst,asB,cst,jB,jk,ju,lkp,gw]
theorem ajh {i:Int} (h:1<=i/\i<=4):qy [.int i]=some .none/\Qt [.int i]=none:=by
 have gw:=qf i 1 4
 rw [decide_eq_true h.1,decide_eq_true h.2] at gw
 constructor
 ·simp [qy,jw,Zi,jE,jI,ifS,Jp,tst,asB,cst,jB,jk,ju,lkp,gw,qq]
 ·refine qi rfl ?_
  show Qs.1 [some (.int i)]=_
  simp [Qs,orX,ifX,Jp,tst,asB,cst,jB,jk,ju,lkp,gw,ahS]
theorem aqr {ds:List PyData} (h:ds.length < 50):few ds=true:=qN (by omega)
theorem fw1 {a:PyData}:few [a]=true:=aqr (by simp)
theorem fw4 {a b c d:PyData}:few [a,b,c,d]=true:=aqr (by simp)
noncomputable def shl (n:Nat) (d:PyData):Prop:=d.canLay0=true/\d.depth<=n
theorem aco {ds:List PyData}:PyData.canLayAll0 ds=true ↔ ∀ d ∈ ds,d.canLay0=true:=by
 induction ds with
 | nil=>simp [PyData.canLayAll0]
 | cons x xs ih=>simp [PyData.canLayAll0,ih]
theorem acp {ds:List PyData}{n:Nat}:PyData.depthAll ds<=n ↔ ∀ d ∈ ds,d.depth<=n:=by
 induction ds with
 | nil=>simp [PyData.depthAll]
 | cons x xs ih=>simp only [PyData.depthAll,List.mem_cons,forall_eq_or_imp,←ih]; omega
theorem aji {n:Nat}{ds:List PyData}:shl (n+1) (.tuple ds) ↔ ∀ d ∈ ds,shl n d:=by
 constructor
 ·rintro ⟨h1,h2⟩ d hd
  refine ⟨aco.mp (by simpa [PyData.canLay0] using h1) d hd,acp.mp ?_ d hd⟩
  simp only [PyData.depth] at h2; omega
 ·intro h
  refine ⟨by simp only [PyData.canLay0]; exact aco.mpr fun d hd=>(h d hd).1,?_⟩
  have:=acp.mpr fun d hd=>(h d hd).2
  simp only [PyData.depth]; omega
theorem aoy {n:Nat}{ds:List PyData}:shl (n+1) (.list ds) ↔ ∀ d ∈ ds,shl n d:=by
 constructor
 ·rintro ⟨h1,h2⟩ d hd
  refine ⟨aco.mp (by simpa [PyData.canLay0] using h1) d hd,acp.mp ?_ d hd⟩
  simp only [PyData.depth] at h2; omega
 ·intro h
  refine ⟨by simp only [PyData.canLay0]; exact aco.mpr fun d hd=>(h d hd).1,?_⟩
  have:=acp.mpr fun d hd=>(h d hd).2
  simp only [PyData.depth]; omega
theorem aqs {n:Nat}{d:PyData} (h:shl n d) (hn:n < 30):okD d=true:=by
 unfold okD
 rw [h.1,decide_eq_true (show d.depth < 30 by have:=h.2; omega)]; rfl
theorem aoz (i:Int):shl 1 (.int i):=⟨rfl,by simp [PyData.depth]⟩
theorem aqt (p:Int × Int):shl 2 (pr p):=aji.mpr fun d hd=>by
 simp only [List.mem_cons,List.not_mem_nil,or_false] at hd
 rcases hd with rfl | rfl <;> exact aoz _
theorem aoA (ps:List (Int × Int)):shl 3 (jH ps):=aji.mpr fun d hd=>by
 obtain ⟨p,_,rfl⟩:=List.mem_map.mp hd
 exact aqt p
theorem aqu {ds:List PyData}{k:Int} (h0:0<=k) (hk:k < ds.length) (hl:ds.length < 9999):∃ v,dIx (.list ds) (.int k)=some v/\v ∈ ds:=by
 have hlt:k.toNat < ds.length:=by omega
 refine ⟨ds[k.toNat],?_,List.getElem_mem _⟩
 have e1:ixN ds.length k=some k.toNat:=ah7 h0 hlt
 show (if ds.length < 1000000 then atI ds k else none)=_
 rw [if_pos (by omega)]
 unfold atI
 rw [e1]
 show ds[k.toNat]?=_
 rw [List.getElem?_eq_getElem hlt]
noncomputable abbrev SL:=List (List (Int × Int))
noncomputable abbrev KL:=List (Int × SL)
noncomputable def eS (ss:SL):PyData:= .list (ss.map jH)
noncomputable def Qb (kv:KL):List (PyData × PyData):=kv.map fun p=>(.int p.1,eS p.2)
noncomputable def dL (kv:KL):PyData:= .dict ((.none,.none)::Qb kv)
noncomputable def zd (kv:KL) (k:Int):Option SL:=(kv.find? fun p=>decide (p.1=k)).map (·.2)
noncomputable def jU (kv:KL) (k:Int):SL:=(zd kv k).getD []
noncomputable def afF (kv:KL) (k:Int) (v:SL):KL:=if kv.any (fun p=>decide (p.1=k))=true then kv.map (fun p=>if p.1=k then (p.1,v) else p) else kv++[(k,v)]
theorem abC (kv:KL) (k:Int):zb (Qb kv) k=(zd kv k).map eS:=by
 induction kv with
 | nil=>rfl
 | cons p kv ih=>
  by_cases h:p.1=k
  ·simp [zb,Qb,zd,isI,h]
  ·have e1:zb (Qb (p::kv)) k=zb (Qb kv) k:=by simp [zb,Qb,isI,h,List.find?_cons]
   have e2:zd (p::kv) k=zd kv k:=by simp [zd,h,List.find?_cons]
   rw [e1,e2,ih]
theorem akp (kv:KL) (k:Int) (v:SL):acR (Qb kv) k (eS v)=Qb (afF kv k v):=by
 have h1:(Qb kv).any (fun p=>isI k p.1)=kv.any fun p=>decide (p.1=k):=by simp [Qb,List.any_map,Function.comp_def,isI]
 unfold acR afF
 rw [h1]
 by_cases c:kv.any (fun p=>decide (p.1=k))=true
 ·rw [if_pos c,if_pos c]
  simp only [Qb,List.map_map]
  apply List.map_congr_left
  intro p _
  by_cases h:p.1=k <;> simp [isI,h]
 ·rw [if_neg c,if_neg c]
  simp [Qb]
theorem qY (p:Int × SL) (kv:KL) (x:Int):zd (p::kv) x=if p.1=x then some p.2 else zd kv x:=by
 by_cases h:p.1=x <;> simp [zd,List.find?_cons,h]
theorem agQ (k:Int) (v:SL) (x:Int):∀ kv:KL,zd (kv.map fun p=>if p.1=k then (p.1,v) else p) x=if x=k then (if kv.any (fun p=>decide (p.1=k))=true then some v else none) else zd kv x
 | []=>by simp [zd]
 | p::kv=>by
  rw [List.map_cons,qY,qY,agQ k v x kv]
  by_cases hp:p.1=k
  ·by_cases hx:x=k
   ·subst hx; simp [hp]
   ·have hkx:¬ k=x:=fun z=>hx z.symm
    simp [hp,hx,hkx]
  ·by_cases hx:x=k
   ·subst hx; rw [List.any_cons,decide_eq_false hp,Bool.false_or]; simp [hp]
   ·by_cases hq:p.1=x <;> simp [hp,hx,hq]
theorem agR (k:Int) (v:SL) (x:Int):∀ kv:KL,zd (kv++[(k,v)]) x=if kv.any (fun p=>decide (p.1=x))=true then zd kv x else if k=x then some v else none
 | []=>by rw [List.nil_append,qY]; simp [zd]
 | p::kv=>by
  rw [List.cons_append,qY,qY,agR k v x kv]
  by_cases hp:p.1=x
  ·simp [hp]
  ·rw [List.any_cons,decide_eq_false hp,Bool.false_or,if_neg hp,if_neg hp]
theorem amE (kv:KL) (k:Int) (v:SL) (x:Int):zd (afF kv k v) x=if x=k then some v else zd kv x:=by
 unfold afF
 by_cases c:kv.any (fun p=>decide (p.1=k))=true
 ·rw [if_pos c,agQ,if_pos c]
 ·rw [if_neg c,agR]
  by_cases hx:x=k
  ·subst hx
   rw [if_neg c,if_pos rfl,if_pos rfl]
  ·have hkx:¬ k=x:=fun z=>hx z.symm
   rw [if_neg hx,if_neg hkx]
   by_cases c':kv.any (fun p=>decide (p.1=x))=true
   ·rw [if_pos c']
   ·rw [if_neg c']
    unfold zd
    rw [List.find?_eq_none.mpr fun p hp=>by
     have:=fun z=>c' (List.any_eq_true.mpr ⟨p,hp,z⟩)
     exact this]
    rfl
theorem amF (kv:KL) (k:Int) (v:SL) (x:Int):jU (afF kv k v) x=if x=k then v else jU kv x:=by
 unfold jU
 rw [amE]
 by_cases h:x=k
 ·rw [if_pos h,if_pos h]; rfl
 ·rw [if_neg h,if_neg h]
noncomputable def j8 (kv:KL):KI:=kv.map fun p=>(p.1,(p.2.length:Int))
theorem amG (kv:KL) (k:Int):j7 (j8 kv) k=(zd kv k).map fun s=>(s.length:Int):=by
 induction kv with
 | nil=>rfl
 | cons p kv ih=>
  have:j7 (j8 (p::kv)) k=if p.1=k then some (p.2.length:Int) else j7 (j8 kv) k:=zV (p.1,(p.2.length:Int)) (j8 kv) k
  rw [this,qY,ih]
  by_cases h:p.1=k
  ·rw [if_pos h,if_pos h]; rfl
  ·rw [if_neg h,if_neg h]
theorem adu (kv:KL) (k:Int):qu (j8 kv) k=((jU kv k).length:Int):=by
 unfold qu jU
 rw [amG]
 cases zd kv k <;> rfl
theorem amH (kv:KL) (k:Int) (v:SL):j8 (afF kv k v)=aaZ (j8 kv) k (v.length:Int):=by
 have h1:(j8 kv).any (fun p=>decide (p.1=k))=kv.any fun p=>decide (p.1=k):=by simp [j8,List.any_map,Function.comp_def]
 unfold afF aaZ
 rw [h1]
 by_cases c:kv.any (fun p=>decide (p.1=k))=true
 ·rw [if_pos c,if_pos c]
  simp only [j8,List.map_map]
  apply List.map_congr_left
  intro p _
  by_cases h:p.1=k <;> simp [h]
 ·rw [if_neg c,if_neg c]
  simp [j8]
noncomputable def pls (acc:KL) (q:(Int × Int) × Int) (ts:SL):KL:=afF acc q.2 (jU acc q.2++ts.map (q.1::·))
theorem agS (acc:KL) (q:(Int × Int) × Int) (ts:SL):j8 (pls acc q ts)=qB (j8 acc) q.2 (ts.length:Int):=by
 unfold pls qB
 rw [amH,adu,List.length_append,List.length_map]
 congr 1
theorem adv (acc:KL) (q:(Int × Int) × Int) (ts:SL) (x:Int):jU (pls acc q ts) x=if x=q.2 then jU acc x++ts.map (q.1::·) else jU acc x:=by
 unfold pls
 rw [amF]
 by_cases h:x=q.2
 ·rw [if_pos h,if_pos h,h]
 ·rw [if_neg h,if_neg h]
noncomputable def TT (kv:KL):Int:=smK (j8 kv) fun _=>1
theorem aqv {acc:KL} (hn:ndK (j8 acc)) (q:(Int × Int) × Int) (ts:SL):ndK (j8 (pls acc q ts))/\TT (pls acc q ts)=TT acc+(ts.length:Int):=by
 unfold TT
 rw [agS]
 refine ⟨aig hn,?_⟩
 rw [aje hn]
 omega
theorem aoB (kv:KL) (k:Int):((jU kv k).length:Int)<=TT kv:=by
 have nn:∀ x ∈ (j8 kv).map (fun p=>p.2*1),(0:Int)<=x:=fun x hx=>by
  obtain ⟨p,hp,rfl⟩:=List.mem_map.mp hx
  obtain ⟨q,_,rfl⟩:=List.mem_map.mp hp
  show (0:Int)<=(q.2.length:Int)*1
  omega
 unfold jU zd
 cases hq:kv.find? fun p=>decide (p.1=k) with
 | none=>
  show ((0:Nat):Int)<=_
  exact QS nn
 | some p=>
  have hp:=List.mem_of_find?_eq_some hq
  show (p.2.length:Int)<=_
  exact amA nn (List.mem_map.mpr ⟨(p.1,(p.2.length:Int)),List.mem_map.mpr ⟨p,hp,rfl⟩,by simp⟩)
theorem akq (s:List (Int × Int)):noD (jH s)=true:=by
 show noDs (s.map pr)=true
 induction s with
 | nil=>rfl
 | cons p s ih=>simp only [List.map_cons,noDs,ih,Bool.and_true]; rfl
theorem adw {ds:List PyData} (h:ds.length < 1000000):few ds=true:=decide_eq_true h
theorem aqw (ss:SL):noD (eS ss)=true:=by
 show noDs (ss.map jH)=true
 induction ss with
 | nil=>rfl
 | cons s ss ih=>simp only [List.map_cons,noDs,akq s,ih,Bool.and_self]
theorem aet (p:Int × Int):∀ (ts:SL) (x:Option PyData),(∀ t ∈ ts,t.length<=4)->jS (jA 0) zW (op2 qV (zG (jk (lkp 1) ju)) (lkp 0)) (ts.map jH) [x,some (pr p)]=some ((ts.map (p::·)).map jH)
 | [],x,_=>rfl
 | t::ts,x,h=>by
  have ih:=aet p ts (some (jH t)) fun c hc=>h c (List.mem_cons_of_mem _ hc)
  have ad:qV (.tuple [pr p]) (jH t)=some (jH (p::t)):=afE (.inr trivial) (by have:=h t List.mem_cons_self; rw [List.length_map]; simp; omega)
  dsimp? [List.map_cons,jS,zW,fw1,ad]
  first | rw [ih] | (simp only [jI,ifS,ifD,ifX,adH,orB,Jp,tst,op2,chn,jB,zG,JV,jk,ju,lkp,cst,qG,Jr,qU,jA,qq,nxX,orX,ahS,ahy,asB,zzA,zzB,zzC,zzD,zzH,zzE,zzI,zzF,zzG,zzJ,zzK,zzL,zzM,zzN] at ih; rw [ih])
  rfl
theorem aoC {m A:Option PyData}{D acc:KL}{n k:Int}{p:Int × Int}{ts:SL} (hD:zd D n=some ts) (ht:∀ t ∈ ts,t.length<=4) (hl:acc.length < 900000) (hs:ts.length+(jU acc k).length < 900000):Jf.1 [m,A,some (dL D),some (dL acc),some (.int n),some (pr p),some (.int k)]=some (.nx [m,A,some (dL D),some (dL (pls acc (p,k) ts)),some (.int n),some (pr p),some (.int k)]):=by
 have g1:af7 (dL D) (.int n)=some (eS ts):=by
  show zb (Qb D) n=_
  rw [abC,hD]; rfl
 have g2:abL (dL acc) (.int k) (.list [])=some (eS (jU acc k)):=by
  show some ((zb (Qb acc) k).getD (.list []))=_
  rw [abC]
  unfold jU
  cases zd acc k <;> rfl
 have cp:=aet p ts none ht
 have it:items (eS ts)=some (ts.map jH):=rfl
 have fe:few (ts.map jH)=true:=decide_eq_true (by rw [List.length_map]; omega)
 have ad:qV (eS (jU acc k)) (.list ((ts.map (p::·)).map jH))=some (eS (jU acc k++ts.map (p::·))):=by
  show (if few ((jU acc k).map jH++(ts.map (p::·)).map jH)=true then some (PyData.list ((jU acc k).map jH++(ts.map (p::·)).map jH)) else none)=_
  rw [if_pos (adw (by rw [List.length_append,List.length_map,List.length_map,List.length_map]; omega)),←List.map_append]
  rfl
 have nd:=aqw (jU acc k++ts.map (p::·))
 have pt:ahL (some (dL acc)) (some (eS (jU acc k++ts.map (p::·)))) (some (.int k))=some (dL (pls acc (p,k) ts)):=by
  have hle:(Qb acc).length < 1000000:=by simp only [Qb,List.length_map]; omega
  show (if (Qb acc).length < 1000000 then some (PyData.dict ((.none,.none)::acR (Qb acc) k (eS (jU acc k++ts.map (p::·))))) else none)=_
  rw [if_pos hle,akp]
  rfl
 have dd:∀ d,okB (dL acc) d=noD d:=fun _=>rfl
 generalize pls acc (p,k) ts=acc' at*
 generalize eS (jU acc k++ts.map (p::·))=V at*
 generalize eS (jU acc k)=V1 at*
 generalize (ts.map (p::·)).map jH=V2 at*
 generalize ts.map jH=V3 at*
 generalize eS ts=V4 at*
 generalize dL acc=DA at*
 generalize dL D=DD at*
 simp only [Jf]
 refine (jz (ρ1:=[m,A,some DD,some (dL acc'),some (.int n),some (pr p),some (.int k)]) ?_).trans rfl
 try simp only [jI,ifS,ifD,ifX,adH,orB,Jp,tst,op2,chn,jB,zG,JV,jk,ju,lkp,cst,qG,Jr,qU,jA,qq,nxX,orX,ahS,ahy,asB,zzA,zzB,zzC,zzD,zzH,zzE,zzI,zzF,zzG,zzJ,zzK,zzL,zzM,zzN] at cp
 dsimp? [ahM,brw,hid,Qk,j9,itS,JH,List.map_cons,List.map_nil,Option.join_none,g1,g2,it,fe,QQ,cp,ad,dd,nd,pt]
theorem aoD (acc:KL) (q:(Int × Int) × Int) (ts:SL):(pls acc q ts).length<=acc.length+1:=by
 unfold pls afF
 split <;> simp
noncomputable def plf (ts:SL) (qs:List ((Int × Int) × Int)) (acc:KL):KL:=qs.foldl (fun a q=>pls a q ts) acc
theorem akr {m A:Option PyData}{D:KL}{n:Int}{ts:SL} (hD:zd D n=some ts) (ht:∀ t ∈ ts,t.length<=4) (qs:List ((Int × Int) × Int)):∀ (acc:KL) (x5 x6:Option PyData),ndK (j8 acc)->acc.length+qs.length < 900000->TT acc+(qs.length+1:Nat)*(ts.length:Int) < 900000->
  ∃ y5 y6,jO (Q4 2 (j4 (jA 5) (j4 (jA 6) Js))) Jf.1 (qs.map ams) [m,A,some (dL D),some (dL acc),some (.int n),x5,x6]=some (.nx [m,A,some (dL D),some (dL (plf ts qs acc)),some (.int n),y5,y6])/\ndK (j8 (plf ts qs acc))/\TT (plf ts qs acc)=TT acc+qs.length*(ts.length:Int)/\(plf ts qs acc).length<=acc.length+qs.length:=by
 induction qs with
 | nil=>exact fun acc x5 x6 hn _ _=>⟨x5,x6,rfl,hn,by simp [plf],by simp [plf]⟩
 | cons q qs ih=>
  intro acc x5 x6 hn hl hT
  rw [List.length_cons] at hl hT
  obtain ⟨n1,t1⟩:=aqv hn q ts
  have l1:=aoD acc q ts
  have gl:=aoB acc q.2
  have e1:((qs.length+1+1:Nat):Int)*(ts.length:Int)=((qs.length+1:Nat):Int)*(ts.length:Int)+(ts.length:Int):=by
   rw [show ((qs.length+1+1:Nat):Int)=((qs.length+1:Nat):Int)+1 by omega,Int.add_mul,Int.one_mul]
  have e2:((qs.length+1:Nat):Int)*(ts.length:Int)=(qs.length:Int)*(ts.length:Int)+(ts.length:Int):=by
   rw [show ((qs.length+1:Nat):Int)=(qs.length:Int)+1 by omega,Int.add_mul,Int.one_mul]
  have p0:0<=((qs.length+1:Nat):Int)*(ts.length:Int):=Int.mul_nonneg (by omega) (by omega)
  have s:=aoC (m:=m) (A:=A) (D:=D) (n:=n) (k:=q.2) (p:=q.1) hD ht (acc:=acc) (by omega) (by omega)
  obtain ⟨y5,y6,lp,a1,a2,a3⟩:=ih (pls acc q ts) (some (pr q.1)) (some (.int q.2)) n1 (by omega) (by rw [t1]; omega)
  refine ⟨y5,y6,?_,a1,?_,?_⟩
  ·rw [List.map_cons]
   have ga:Q4 2 (j4 (jA 5) (j4 (jA 6) Js)) (ams q) [m,A,some (dL D),some (dL acc),some (.int n),x5,x6]=some [m,A,some (dL D),some (dL acc),some (.int n),some (pr q.1),some (.int q.2)]:=rfl
   rw [jO,ga,zzD,s,zzD]
   exact lp
  ·show TT (plf ts qs (pls acc q ts))=_
   rw [a2,t1,List.length_cons,e2]; omega
  ·show (plf ts qs (pls acc q ts)).length<=_
   rw [List.length_cons]; omega
end Rods
namespace Rods
open PySem L2 BX
open PyProof.Rows hiding St
section
variable {u e l b:Int}
theorem amI (h:okN u e l b=true) (a:Nat) (ha:a < 4) {D acc:KL}{n:Int}{ts:SL} (hD:zd D n=some ts) (ht:∀ t ∈ ts,t.length<=4) (hn:ndK (j8 acc)) (hl:acc.length+48 < 900000) (hT:TT acc+49*(ts.length:Int) < 900000) {x5 x6:Option PyData}:
  ∃ y5 y6,zD.1 [some (jl u e l b),some (.int (a:Int)),some (dL D),some (dL acc),some (.int n),x5,x6]=some (.nx [some (jl u e l b),some (.int (a:Int)),some (dL D),some (dL (plf ts (lps u e l b a n) acc)),some (.int n),y5,y6])/\ndK (j8 (plf ts (lps u e l b a n) acc))/\TT (plf ts (lps u e l b a n) acc)<=TT acc+48*(ts.length:Int)/\(plf ts (lps u e l b a n) acc).length<=acc.length+48:=by
 have h1:=aem (n:=n) h a ha
 have hq:(lps u e l b a n).length<=48:=Nat.le_trans (afC u e l b a n) (aao h)
 have m1:((lps u e l b a n).length:Int)*(ts.length:Int)<=48*(ts.length:Int):=Int.mul_le_mul_of_nonneg_right (by omega) (by omega)
 obtain ⟨y5,y6,lp,b1,b2,b3⟩:=akr (m:=some (jl u e l b)) (A:=some (.int (a:Int))) hD ht (lps u e l b a n) acc x5 x6 hn (by omega) (by
  rw [show (((lps u e l b a n).length+1:Nat):Int)=((lps u e l b a n).length:Int)+1 by omega,Int.add_mul,Int.one_mul]; omega)
 refine ⟨y5,y6,?_,b1,by omega,by omega⟩
 generalize plf ts (lps u e l b a n) acc=acc' at*
 simp only [zD]
 refine (jz (ρ1:=[some (jl u e l b),some (.int (a:Int)),some (dL D),some (dL acc'),some (.int n),y5,y6]) ?_).trans rfl
 generalize dL D=DD at*
 dsimp? [zR,itS,hid,h1]
 exact lp
noncomputable def zm (u e l b:Int) (a:Nat) (D:KL) (ps acc:KL):KL:=ps.foldl (fun acc p=>plf (jU D p.1) (lps u e l b a p.1) acc) acc
noncomputable def sz (ps:KL):Int:=(ps.map fun p=>(p.2.length:Int)).sum
theorem aks (h:okN u e l b=true) (a:Nat) (ha:a < 4) (D:KL) (ps:KL):∀ (acc:KL) (x4 x5 x6:Option PyData),(∀ p ∈ ps,zd D p.1=some p.2/\∀ t ∈ p.2,t.length<=4)->ndK (j8 acc)->acc.length+48*(ps.length+1) < 900000->TT acc+49*sz ps < 900000->
  ∃ y4 y5 y6,jO (jA 4) zD.1 (ps.map fun p=> .int p.1) [some (jl u e l b),some (.int (a:Int)),some (dL D),some (dL acc),x4,x5,x6]=some (.nx [some (jl u e l b),some (.int (a:Int)),some (dL D),some (dL (zm u e l b a D ps acc)),y4,y5,y6])/\ndK (j8 (zm u e l b a D ps acc))/\TT (zm u e l b a D ps acc)<=TT acc+48*sz ps/\(zm u e l b a D ps acc).length<=acc.length+48*ps.length:=by
 induction ps with
 | nil=>exact fun acc x4 x5 x6 _ hn _ _=>⟨x4,x5,x6,rfl,hn,by simp [zm,sz],by simp [zm]⟩
 | cons p ps ih=>
  intro acc x4 x5 x6 hp hn hl hT
  have s0:sz (p::ps)=(p.2.length:Int)+sz ps:=by simp [sz]
  have s1:0<=sz ps:=QS fun x hx=>by obtain ⟨q,_,rfl⟩:=List.mem_map.mp hx; omega
  rw [List.length_cons] at hl
  rw [s0] at hT
  obtain ⟨f1,f2⟩:=hp p List.mem_cons_self
  have gg:jU D p.1=p.2:=by unfold jU; rw [f1]; rfl
  obtain ⟨y5,y6,st,c1,c2,c3⟩:=amI h a ha f1 f2 hn (by omega) (by omega) (x5:=x5) (x6:=x6)
  obtain ⟨z4,z5,z6,lp,d1,d2,d3⟩:=ih (plf p.2 (lps u e l b a p.1) acc) (some (.int p.1)) y5 y6 (fun q hq=>hp q (List.mem_cons_of_mem _ hq)) c1 (by omega) (by omega)
  have eL:zm u e l b a D (p::ps) acc=zm u e l b a D ps (plf p.2 (lps u e l b a p.1) acc):=by
   show zm u e l b a D ps (plf (jU D p.1) (lps u e l b a p.1) acc)=_
   rw [gg]
  rw [eL,s0,List.length_cons]
  refine ⟨z4,z5,z6,?_,d1,by omega,by omega⟩
  rw [List.map_cons,jO]
  simp only [jA,zzF,zzG,zzD]
  rw [st,zzD]
  exact lp
end
end Rods
namespace Rods
open PySem L2 BX
open PyProof.Rows hiding St
theorem ajj {ts:SL}{x:Int}{t:List (Int × Int)} (qs:List ((Int × Int) × Int)):∀ acc:KL,t ∈ jU (plf ts qs acc) x ↔ t ∈ jU acc x ∨ ∃ q ∈ qs,q.2=x/\∃ t' ∈ ts,t=q.1::t':=by
 induction qs with
 | nil=>exact fun acc=>⟨.inl,fun h=>h.elim id fun ⟨q,hq,_⟩=>nomatch hq⟩
 | cons q qs ih=>
  intro acc
  show t ∈ jU (plf ts qs (pls acc q ts)) x ↔ _
  rw [ih,adv]
  constructor
  ·rintro (h | ⟨q',h1,h2⟩)
   ·by_cases hx:x=q.2
    ·rw [if_pos hx] at h
     rcases List.mem_append.mp h with z | z
     ·exact .inl z
     ·obtain ⟨t',h3,rfl⟩:=List.mem_map.mp z
      exact .inr ⟨q,List.mem_cons_self,hx.symm,t',h3,rfl⟩
    ·rw [if_neg hx] at h; exact .inl h
   ·exact .inr ⟨q',List.mem_cons_of_mem _ h1,h2⟩
  ·rintro (h | ⟨q',h1,h2,t',h3,rfl⟩)
   ·left
    by_cases hx:x=q.2
    ·rw [if_pos hx]; exact List.mem_append_left _ h
    ·rw [if_neg hx]; exact h
   ·rcases List.mem_cons.mp h1 with rfl | z
    ·left
     rw [if_pos h2.symm]
     exact List.mem_append_right _ (List.mem_map.mpr ⟨t',h3,rfl⟩)
    ·exact .inr ⟨q',z,h2,t',h3,rfl⟩
end Rods
namespace Rods
open PySem L2 BX
open PyProof.Rows hiding St
section
variable {u e l b:Int}
theorem akt {a:Nat}{D:KL}{x:Int}{t:List (Int × Int)} (ps:KL):∀ acc:KL,t ∈ jU (zm u e l b a D ps acc) x ↔ t ∈ jU acc x ∨ ∃ p ∈ ps,∃ q ∈ lps u e l b a p.1,q.2=x/\∃ t' ∈ jU D p.1,t=q.1::t':=by
 induction ps with
 | nil=>exact fun acc=>⟨.inl,fun h=>h.elim id fun ⟨q,hq,_⟩=>nomatch hq⟩
 | cons p ps ih=>
  intro acc
  show t ∈ jU (zm u e l b a D ps (plf (jU D p.1) (lps u e l b a p.1) acc)) x ↔ _
  rw [ih,ajj]
  constructor
  ·rintro ((h | h) | ⟨p',h1,h2⟩)
   ·exact .inl h
   ·exact .inr ⟨p,List.mem_cons_self,h⟩
   ·exact .inr ⟨p',List.mem_cons_of_mem _ h1,h2⟩
  ·rintro (h | ⟨p',h1,h2⟩)
   ·exact .inl (.inl h)
   ·rcases List.mem_cons.mp h1 with rfl | z
    ·exact .inl (.inr h2)
    ·exact .inr ⟨p',z,h2⟩
theorem aku (a:Nat) (n:Int):qT u e l b a n=(lps u e l b a n).map (·.2):=by
 unfold qT lps
 rw [aa0,List.filter_map,List.map_map,List.map_map]
 rfl
theorem amJ (ts:SL) (qs:List ((Int × Int) × Int)):∀ acc:KL,j8 (plf ts qs acc)=(qs.map (·.2)).foldl (fun x k=>qB x k (ts.length:Int)) (j8 acc):=by
 induction qs with
 | nil=>exact fun acc=>rfl
 | cons q qs ih=>
  intro acc
  show j8 (plf ts qs (pls acc q ts))=_
  rw [ih,agS]; rfl
theorem aii (a:Nat) (D:KL) (ps:KL):∀ acc:KL,j8 (zm u e l b a D ps acc)=(j8 ps).foldl (fun acc p=>(qT u e l b a p.1).foldl (fun x k=>qB x k (qu (j8 D) p.1)) acc) (j8 acc):=by
 induction ps with
 | nil=>exact fun acc=>rfl
 | cons p ps ih=>
  intro acc
  show j8 (zm u e l b a D ps (plf (jU D p.1) (lps u e l b a p.1) acc))=_
  rw [ih,amJ]
  show _=(j8 ps).foldl _ ((qT u e l b a p.1).foldl (fun x k=>qB x k (qu (j8 D) p.1)) (j8 acc))
  rw [aku,adu]
theorem akv (a:Nat) (D:KL):j8 (zm u e l b a D D [])=longF u e l b a (j8 D):=aii a D D []
theorem afG:∀ {D:KL}{p:Int × SL},ndK (j8 D)->p ∈ D->zd D p.1=some p.2
 | [],p,_,h=>nomatch h
 | q::D,p,hn,h=>by
  have hn':q.1 ∉ (j8 D).map (·.1)/\((j8 D).map (·.1)).Nodup:=by
   have:((q.1,(q.2.length:Int))::j8 D).map (·.1)=q.1::(j8 D).map (·.1):=rfl
   unfold ndK at hn
   exact List.nodup_cons.mp hn
  rw [qY]
  rcases List.mem_cons.mp h with rfl | z
  ·rw [if_pos rfl]
  ·have:¬ q.1=p.1:=fun e=>hn'.1 (by
    rw [e]
    exact List.mem_map.mpr ⟨(p.1,(p.2.length:Int)),List.mem_map.mpr ⟨p,z,rfl⟩,rfl⟩)
   rw [if_neg this]
   exact afG hn'.2 z
theorem amK {D:KL}{k:Int}{t:List (Int × Int)} (h:t ∈ jU D k):∃ p ∈ D,p.1=k:=by
 unfold jU zd at h
 cases hq:D.find? fun p=>decide (p.1=k) with
 | none=>rw [hq] at h; exact absurd h (by simp)
 | some p=>exact ⟨p,List.mem_of_find?_eq_some hq,by simpa using List.find?_some hq⟩
noncomputable def MkD (u e l b N:Int) (r j:Nat) (D:KL):Prop:=∀ k t,t ∈ jU D k ↔ (j=0 ∨ (0<=k/\k<=qh u e l b (r - j)))/\t.length=j/\t.all (okP u l)=true/\k*b ^ j+val b e t=N
theorem aoE (N:Int) (r:Nat):MkD u e l b N r 0 [(N,[[]])]:=fun k t=>by
 have:jU [(N,[[]])] k=if N=k then [[]] else []:=by
  unfold jU
  rw [qY]
  by_cases h:N=k
  ·rw [if_pos h,if_pos h]; rfl
  ·rw [if_neg h,if_neg h]; rfl
 rw [this]
 constructor
 ·intro h
  by_cases hk:N=k
  ·rw [if_pos hk] at h
   rw [List.mem_singleton.mp h]
   exact ⟨.inl rfl,rfl,rfl,by subst hk; simp [val]⟩
  ·rw [if_neg hk] at h; exact absurd h (by simp)
 ·rintro ⟨_,h1,h2,h3⟩
  have:t=[]:=List.eq_nil_of_length_eq_zero h1
  subst this
  have:N=k:=by simp [val] at h3; omega
  rw [if_pos this]
  exact List.mem_singleton.mpr rfl
theorem aoF (h:okN u e l b=true) {N:Int}{r j:Nat} (hj:j < r) {D:KL} (H:MkD u e l b N r j D):MkD u e l b N r (j+1) (zm u e l b (r - (j+1)) D D []):=fun k t=>by
 obtain ⟨a1,a2,a3,a4,a5,a6,a7,a8,a9,a10⟩:=jF h
 have hb:0 < b:=by omega
 rw [akt]
 constructor
 ·rintro (z | ⟨q,hq,x,hx,hk,t',ht,rfl⟩)
  ·exact absurd z (by simp [jU,zd])
  ·obtain ⟨p,hp,rfl⟩:=List.mem_map.mp hx
   obtain ⟨hp1,hp2⟩:=List.mem_filter.mp hp
   simp only [okQ,Bool.and_eq_true,decide_eq_true_eq] at hp2
   obtain ⟨o1,o2,o3⟩:=hp2
   obtain ⟨_,t1,t2,t3⟩:=(H _ _).mp ht
   have hd:=Int.mul_ediv_add_emod (q.1 - wt e p) b
   have hk':(q.1 - wt e p) / b=k:=hk
   rw [o1,hk',Int.mul_comm] at hd
   have e1:k*b+wt e p=q.1:=by omega
   refine ⟨.inr ⟨?_,?_⟩,by rw [List.length_cons,t1],by rw [List.all_cons,agH hp1,t2]; rfl,?_⟩
   ·rw [←hk']; exact Int.ediv_nonneg o2 (by omega)
   ·rw [←hk']
    exact Int.le_of_lt_add_one (Int.ediv_lt_of_lt_mul hb (by
     have:(qh u e l b (r - (j+1))+1)*b=b*qh u e l b (r - (j+1))+b:=by rw [Int.add_mul,Int.mul_comm]; omega
     omega))
   ·show k*b ^ (j+1)+val b e (p::t')=N
    rw [aa2,t1,←t3,←e1,Int.add_mul,Int.pow_succ,Int.mul_comm (b ^ j) b,←Int.mul_assoc]
    omega
 ·rintro ⟨hk,t1,t2,t3⟩
  right
  obtain ⟨h0,h1⟩:=hk.resolve_left (by omega)
  cases t with
  | nil=>cases t1
  | cons p t=>
   rw [List.all_cons,Bool.and_eq_true] at t2
   have t1':t.length=j:=by simpa using t1
   have w0:=aej a3 t2.1
   obtain ⟨q1,q2,q3,q4⟩:=qA t2.1
   have w1:wt e p<=wt e (u,l):=by
    have:=Int.mul_le_mul_of_nonneg_right q2 (show 0<=e by omega)
    unfold wt; show p.1*e+p.2<=u*e+l; omega
   have hr:r - j=(r - (j+1))+1:=by omega
   have hm:=aap (u:=u) (e:=e) (l:=l) (b:=b) (r - (j+1))
   have hkb:k*b<=qh u e l b (r - (j+1))*b:=Int.mul_le_mul_of_nonneg_right h1 (by omega)
   have hkb0:0<=k*b:=Int.mul_nonneg h0 (by omega)
   have ht:t ∈ jU D (k*b+wt e p):=(H _ _).mpr ⟨.inr ⟨by omega,by rw [hr,hm]; omega⟩,t1',t2.2,by
    rw [aa2,t1',Int.pow_succ,Int.mul_comm (b ^ j) b,←Int.mul_assoc] at t3
    rw [Int.add_mul]; omega⟩
   obtain ⟨q,hq,hq1⟩:=amK ht
   have e1:q.1 - wt e p=k*b:=by omega
   refine ⟨q,hq,(p,k),List.mem_map.mpr ⟨p,List.mem_filter.mpr ⟨afB t2.1,?_⟩,?_⟩,rfl,t,by rw [hq1]; exact ht,rfl⟩
   ·simp only [okQ,Bool.and_eq_true,decide_eq_true_eq]
    rw [e1]
    refine ⟨Int.mul_emod_left _ _,Int.mul_nonneg h0 (by omega),?_⟩
    rw [Int.mul_comm]
    exact Int.mul_le_mul_of_nonneg_left h1 (by omega)
   ·rw [e1,Int.mul_ediv_cancel _ (by omega)]
theorem aph (D:KL):TT D=sz D:=by
 unfold TT smK sz j8
 rw [List.map_map]
 congr 1
 exact List.map_congr_left fun p _=>by simp
theorem aoG (kv:KL):(BX.zy (dL kv)).map (fun r=>r.map (·.1))=some (kv.map fun p=>PyData.int p.1):=by
 show some ((Qb kv).map (·.1))=_
 simp [Qb,List.map_map,Function.comp_def]
theorem akw {M A DD D':PyData}{ks:List PyData}{y4 y5 y6:Option PyData} (kk:(BX.zy DD).map (fun r=>r.map (·.1))=some ks) (lp:jO (jA 4) zD.1 ks [some M,some A,some DD,some (.dict [(.none,.none)]),none,none,none]=some (.nx [some M,some A,some DD,some D',y4,y5,y6])):zU [M,A,DD]=some D':=by
 refine jY rfl ?_
 show JQ.1 [some M,some A,some DD,none,none,none,none]=_
 simp only [JQ]
 have key:∀ {Y:Rho->Option Out} {d:PyData},Y [some M,some A,some DD,some (.dict [(.none,.none)]),none,none,none]=some (.rt d)->aag 3 (cst (.dict [(.none,.none)])) Y [some M,some A,some DD,none,none,none,none]=some (.rt d):=fun {Y d} hy=>by
  have l8:3 < [some M,some A,some DD,none,none,none,none].length:=by simp
  dsimp? [aag,hy]
  rw [if_pos l8]
 refine key ?_
 refine (jz (ρ1:=[some M,some A,some DD,some D',y4,y5,y6]) ?_).trans ?_
 ·dsimp? [zR,itD,hid,kk]
  exact lp
 dsimp? [zzA]
theorem adx (h:okN u e l b=true) (a:Nat) (ha:a < 4) {D:KL} (hn:ndK (j8 D)) (ht:∀ p ∈ D,∀ t ∈ p.2,t.length<=4) (hl:48*(D.length+1) < 900000) (hT:49*TT D < 900000):
  zU [jl u e l b,.int (a:Int),dL D]=some (dL (zm u e l b a D D []))/\ndK (j8 (zm u e l b a D D []))/\TT (zm u e l b a D D [])<=48*TT D/\(zm u e l b a D D []).length<=48*D.length:=by
 rw [aph D] at hT
 have t0:TT []=0:=rfl
 obtain ⟨y4,y5,y6,lp,b1,b2,b3⟩:=aks h a ha D D [] none none none (fun p hp=>⟨afG hn hp,ht p hp⟩) (by simp [ndK,j8]) (by simpa using hl) (by rw [t0]; omega)
 refine ⟨akw (aoG D) lp,b1,by rw [aph D]; omega,by simpa using b3⟩
end
end Rods
namespace Rods
open PySem L2 BX
open PyProof.Rows hiding St
theorem akx {M R N D0 D' X Y:PyData}{RR:List PyData}{rr n:Int}{x4:Option PyData} (hR:R= .int rr) (hN:N= .int n) (ga:ql [M,R,N]=some .none) (d0:PyData.dict [(.none,.none),(.int n,.list [.tuple []])]=D0) (rg:ajW [.int (rr - 1),.int (-1),.int (-1)]=some RR)
  (lp:jO (jA 4) zl.1 RR [some M,some R,some N,some D0,none]=some (.nx [some M,some R,some N,some D',x4])) (g2:abL D' (.int 0) (.list [])=some X) (so:afd [X]=some Y):qp [M,R,N]=some Y:=by
 subst hR hN
 have s1:abY (.int rr) (.int 1)=some (.int (rr - 1)):=rfl
 have ng:ajN (.int 1)=some (.int (-1)):=rfl
 refine jY rfl ?_
 show zE.1 [some M,some (.int rr),some (.int n),none,none]=_
 simp only [zE]
 refine (jz (ρ1:=[some M,some (.int rr),some (.int n),none,none]) ?_).trans ?_
 ·dsimp? [ga]
 refine (jz (ρ1:=[some M,some (.int rr),some (.int n),some D0,none]) ?_).trans ?_
 ·dsimp? [ajU,d0]
 refine (jz (ρ1:=[some M,some (.int rr),some (.int n),some D',x4]) ?_).trans ?_
 ·dsimp? [zR,s1,ng,rg]
  exact lp
 dsimp? [Qk,QQ,g2,so]
theorem aoH {M A R N DD D':PyData} (g:zU [M,A,DD]=some D'):zl.1 [some M,some R,some N,some DD,some A]=some (.nx [some M,some R,some N,some D',some A]):=by
 dsimp? [zl,g]
end Rods
namespace Rods
open PySem L2 BX
open PyProof.Rows hiding St
section
variable {u e l b:Int}
theorem aij (h:okN u e l b=true) {r:Nat} (h1:1<=r) {t:List (Int × Int)} (hl:t.length=r) (hp:t.all (okP u l)=true):inS r t=true:=by
 obtain ⟨a1,a2,a3,a4,a5,a6,a7,a8,a9,a10⟩:=jF h
 simp only [inS,Bool.and_eq_true,decide_eq_true_eq]
 refine ⟨⟨hl,h1⟩,List.all_eq_true.mpr fun p hpp=>?_⟩
 obtain ⟨q1,q2,q3,q4⟩:=qA (List.all_eq_true.mp hp p hpp)
 simp only [inP,Bool.and_eq_true,decide_eq_true_eq]
 omega
theorem sort_ok {r:Nat} (L:SL) (hL:∀ t ∈ L,inS r t=true) (h64:L.length < 64):afd [eS L]=some (eS (Qm jN L)):=by
 have e1:L.map jH=L.map Zh:=rfl
 show (Jy (L.map jH)).bind _=_
 rw [e1,aea,zzD]
 have ok:alZ L=true:=by
  unfold alZ
  rw [decide_eq_true h64,Bool.true_and]
  refine List.all_eq_true.mpr fun t ht=>?_
  cases L with
  | nil=>exact nomatch ht
  | cons x L=>
   have hx:=hL x List.mem_cons_self
   have hxl:x.length=r:=by simp only [inS,Bool.and_eq_true,decide_eq_true_eq] at hx; exact hx.1.1
   show inS x.length t=true
   rw [hxl]
   exact hL t ht
 rw [if_pos ok]
 rfl
end
end Rods
namespace Rods
open PySem L2 BX
open PyProof.Rows hiding St
theorem aeu:∀ (ns:List Int) (a:Int),let m:=ns.foldl (fun a b=>if decide (b < a)=true then b else a) a; (m=a ∨ m ∈ ns)/\m<=a/\∀ x ∈ ns,m<=x
 | [],a=>⟨.inl rfl,Int.le_refl _,fun _ h=>nomatch h⟩
 | n::ns,a=>by
  obtain ⟨h1,h2,h3⟩:=aeu ns (if decide (n < a)=true then n else a)
  simp only [List.foldl_cons]
  by_cases c:n < a
  ·rw [if_pos (decide_eq_true c)] at h1 h2 h3 ⊢
   refine ⟨.inr ?_,by omega,fun x hx=>?_⟩
   ·rcases h1 with z | z
    ·rw [z]; exact List.mem_cons_self
    ·exact List.mem_cons_of_mem _ z
   ·rcases List.mem_cons.mp hx with rfl | z
    ·exact h2
    ·exact h3 x z
  ·rw [if_neg (by simpa using c)] at h1 h2 h3 ⊢
   refine ⟨?_,h2,fun x hx=>?_⟩
   ·rcases h1 with z | z
    ·exact .inl z
    ·exact .inr (List.mem_cons_of_mem _ z)
   ·rcases List.mem_cons.mp hx with rfl | z
    ·omega
    ·exact h3 x z
theorem amL {ns:List Int}{v:Int} (h1:v ∈ ns) (h2:∀ x ∈ ns,v<=x):ad4 (fun i j=>decide (i < j)) [.list (ns.map .int)]=some (.int v):=by
 show (zp (ns.map PyData.int)).bind _=_
 rw [ads,zzD]
 cases ns with
 | nil=>exact nomatch h1
 | cons n ns=>
  obtain ⟨k1,k2,k3⟩:=aeu ns n
  show (some (PyData.int (ns.foldl (fun a b=>if decide (b < a)=true then b else a) n)))=_
  generalize ns.foldl (fun a b=>if decide (b < a)=true then b else a) n=m at*
  have a1:m<=v:=by
   rcases List.mem_cons.mp h1 with rfl | z
   ·exact k2
   ·exact k3 v z
  have a2:v<=m:=by
   rcases k1 with z | z
   ·rw [z]; exact h2 n List.mem_cons_self
   ·exact h2 m (List.mem_cons_of_mem _ z)
  rw [show m=v by omega]
theorem aqx {α:Type}{l1 l2:List α} (h1:l1.Nodup) (h2:l2.Nodup) (h:∀ a ∈ l1,a ∉ l2):(l1++l2).Nodup:=
 List.pairwise_append.mpr ⟨h1,h2,fun a ha b hb e=>h a ha (e ▸ hb)⟩
theorem aqy {ts:SL} (hts:ts.Nodup) (qs:List ((Int × Int) × Int)):∀ acc:KL,qs.Nodup->(∀ x,(jU acc x).Nodup)->(∀ q ∈ qs,∀ t' ∈ ts,q.1::t' ∉ jU acc q.2)->∀ x,(jU (plf ts qs acc) x).Nodup:=by
 induction qs with
 | nil=>exact fun acc _ h _ x=>h x
 | cons q qs ih=>
  intro acc hq h hn x
  obtain ⟨q1,q2⟩:=List.nodup_cons.mp hq
  refine ih (pls acc q ts) q2 (fun x=>?_) (fun q' hq' t' ht' hm=>?_) x
  ·rw [adv]
   by_cases hx:x=q.2
   ·rw [if_pos hx]
    refine aqx (h x) (List.pairwise_map.mpr (List.Pairwise.imp (fun hne e=>hne (List.cons.inj e).2) hts)) fun a ha hb=>?_
    obtain ⟨t',ht',rfl⟩:=List.mem_map.mp hb
    exact hn q List.mem_cons_self t' ht' (hx ▸ ha)
   ·rw [if_neg hx]; exact h x
  ·rw [adv] at hm
   by_cases hx:q'.2=q.2
   ·rw [if_pos hx] at hm
    rcases List.mem_append.mp hm with z | z
    ·exact hn q' (List.mem_cons_of_mem _ hq') t' ht' z
    ·obtain ⟨t'',_,e⟩:=List.mem_map.mp z
     have e1:q.1=q'.1:=(List.cons.inj e).1
     have:q=q':=by
      obtain ⟨a,b⟩:=q
      obtain ⟨c,d⟩:=q'
      simp only at e1 hx
      rw [e1,hx]
     exact q1 (this ▸ hq')
   ·rw [if_neg hx] at hm
    exact hn q' (List.mem_cons_of_mem _ hq') t' ht' hm
noncomputable def api:Bool:=(List.range 4).all fun u=>(List.range 13).all fun l=>decide ((rp (u:Int) (l:Int)).Nodup)
theorem aik:api=true:=by decide +kernel
end Rods
namespace Rods
open PySem L2 BX
open PyProof.Rows hiding St
section
variable {u e l b:Int}
theorem arD (h:okN u e l b=true):(rp u l).Nodup:=by
 obtain ⟨a1,a2,a3,a4,a5,a6,a7,a8,a9,a10⟩:=jF h
 have k:=aik
 unfold api at k
 have k1:=of_decide_eq_true (List.all_eq_true.mp (List.all_eq_true.mp k u.toNat (List.mem_range.mpr (by omega))) l.toNat (List.mem_range.mpr (by omega)))
 rw [show ((u.toNat:Nat):Int)=u by omega,show ((l.toNat:Nat):Int)=l by omega] at k1
 exact k1
theorem aqz (h:okN u e l b=true) (a:Nat) (n:Int):(lps u e l b a n).Nodup:=by
 unfold lps
 refine List.pairwise_map.mpr (List.Pairwise.imp (fun hne e=>hne (congrArg Prod.fst e)) ((arD h).filter _))
theorem amM (h:okN u e l b=true) {a:Nat}{D:KL} (ps:KL):∀ acc done:KL,(∀ x,(jU acc x).Nodup)->(∀ x t,t ∈ jU acc x->∃ p ∈ done,∃ q ∈ lps u e l b a p.1,q.2=x/\∃ t',t=q.1::t')->((done++ps).map (·.1)).Nodup->(∀ p ∈ ps,(jU D p.1).Nodup)->∀ x,(jU (zm u e l b a D ps acc) x).Nodup:=by
 obtain ⟨a1,a2,a3,a4,a5,a6,a7,a8,a9,a10⟩:=jF h
 induction ps with
 | nil=>exact fun acc done h1 _ _ _ x=>h1 x
 | cons p ps ih=>
  intro acc done h1 h2 h3 h4 x
  have key:∀ q ∈ lps u e l b a p.1,∀ n q',q' ∈ lps u e l b a n->q'.1=q.1->q'.2=q.2->n=p.1:=fun q hq n q' hq' e1 e2=>by
   obtain ⟨y,hy,rfl⟩:=List.mem_map.mp hq
   obtain ⟨y',hy',rfl⟩:=List.mem_map.mp hq'
   have o1:=(List.mem_filter.mp hy).2
   have o2:=(List.mem_filter.mp hy').2
   simp only [okQ,Bool.and_eq_true,decide_eq_true_eq] at o1 o2
   have d1:=Int.mul_ediv_add_emod (p.1 - wt e y) b
   have d2:=Int.mul_ediv_add_emod (n - wt e y') b
   rw [o1.1] at d1
   rw [o2.1] at d2
   have e1:y'=y:=e1
   have e2:(n - wt e y') / b=(p.1 - wt e y) / b:=e2
   rw [e1] at d2 e2
   rw [e2] at d2
   omega
  refine ih (plf (jU D p.1) (lps u e l b a p.1) acc) (done++[p]) (aqy (h4 p List.mem_cons_self) _ acc (aqz h a p.1) h1 fun q hq t' ht' hm=>?_) (fun x t ht=>?_) (by rw [List.append_assoc]; exact h3) (fun p' hp'=>h4 p' (List.mem_cons_of_mem _ hp')) x
  ·obtain ⟨p',hp',q',hq',e1,t'',e2⟩:=h2 _ _ hm
   have:p'.1=p.1:=key q hq p'.1 q' hq' (List.cons.inj e2).1.symm e1
   rw [List.map_append,List.map_cons] at h3
   exact (List.pairwise_append.mp h3).2.2 p'.1 (List.mem_map.mpr ⟨p',hp',rfl⟩) p.1 List.mem_cons_self this
  ·rcases (ajj (lps u e l b a p.1) acc).mp ht with z | ⟨q,hq,e1,t',_,e2⟩
   ·obtain ⟨p',hp',r⟩:=h2 x t z
    exact ⟨p',List.mem_append_left _ hp',r⟩
   ·exact ⟨p,List.mem_append_right _ List.mem_cons_self,q,hq,e1,t',e2⟩
theorem aoI (h:okN u e l b=true) {a:Nat}{D:KL} (hn:ndK (j8 D)) (hD:∀ x,(jU D x).Nodup):∀ x,(jU (zm u e l b a D D []) x).Nodup:=
 amM h D [] [] (fun x=>by simp [jU,zd]) (fun x t ht=>by simp [jU,zd] at ht) (by
  have:(j8 D).map (·.1)=D.map (·.1):=by simp [j8,List.map_map,Function.comp_def]
  unfold ndK at hn
  rw [this] at hn
  simpa using hn) fun p _=>hD p.1
theorem ail (H:zN=true) (h:okN u e l b=true) {r:Nat} (h1:1<=r) (h3:r<=3) {n:Int} (h0:0<=n) (hn:n<=99999) (hC:CN u e l b r n < 64):∃ L:SL,qp [jl u e l b,.int (r:Int),.int n]=some (eS L)/\(∀ t,t ∈ L ↔ t.length=r/\t.all (okP u l)=true/\val b e t=n)/\(L.length:Int)=CN u e l b r n/\L.Nodup/\L.Pairwise (fun a b=>jN a<=jN b):=by
 have ga:=Z0 H h (r:=(r:Int)) (n:=n) (by omega) (by omega) h0 hn
 have p48:∀ j:Nat,j<=2->(48:Nat) ^ j<=2304:=fun j hj=>by
  rcases (show j=0 ∨ j=1 ∨ j=2 by omega) with rfl | rfl | rfl <;> decide
 obtain ⟨ρ',hl,hI⟩:=Qw (ga:=jA 4) (F:=zl.1) (fun i ρ=>∃ D x4,ρ=[some (jl u e l b),some (.int (r:Int)),some (.int n),some (dL D),x4]/\ndK (j8 D)/\MkD u e l b n r i D/\TT D<=((48 ^ i:Nat):Int)/\D.length<=48 ^ i/\smK (j8 D) (CN u e l b (r - i))=CN u e l b r n/\∀ x,(jU D x).Nodup) ((List.range r).map fun (j:Nat)=> .int (((r - (j+1):Nat):Int))) 0
  [some (jl u e l b),some (.int (r:Int)),some (.int n),some (dL [(n,[[]])]),none] ⟨_,_,rfl,by simp [ndK,j8],aoE n r,by simp [TT,smK,j8],by simp,by simp [smK,j8],fun x=>by
   unfold jU
   rw [qY]
   by_cases hx:n=x
   ·rw [if_pos hx]; simp
   ·rw [if_neg hx]; simp [zd]⟩ (fun j d ρ hd hi=>by
   obtain ⟨hj,rfl⟩:=adm hd
   obtain ⟨D,x4,rfl,i1,i2,i3,i4,i5,i6⟩:=hi
   rw [Nat.zero_add] at i2 i3 i4 i5
   have pj:=p48 j (by omega)
   have ht:∀ p ∈ D,∀ t ∈ p.2,t.length<=4:=fun p hp t htt=>by
    have:=afG i1 hp
    have gg:jU D p.1=p.2:=by unfold jU; rw [this]; rfl
    have:=(i2 p.1 t).mp (by rw [gg]; exact htt)
    omega
   obtain ⟨g,n1,t1,l1⟩:=adx h (r - (j+1)) (by omega) i1 ht (by omega) (by omega)
   have s2:=(agP h (r - (j+1)) i1).2
   rw [←akv] at s2
   have ps:(48:Nat) ^ (j+1)=48*48 ^ j:=by rw [Nat.pow_succ,Nat.mul_comm]
   refine ⟨_,_,rfl,aoH g,_,_,rfl,n1,by rw [Nat.zero_add]; exact aoF h hj i2,?_,?_,?_,aoI h i1 i6⟩
   ·rw [Nat.zero_add,ps]; omega
   ·rw [Nat.zero_add,ps]; omega
   ·rw [Nat.zero_add,s2,show r - (j+1)+1=r - j by omega]; exact i5)
 obtain ⟨D,x4,rfl,i1,i2,i3,i4,i5,i6⟩:=hI
 rw [List.length_map,List.length_range,Nat.zero_add] at i2
 rw [List.length_map,List.length_range,Nat.zero_add,Nat.sub_self,afD i1,adu] at i5
 have mem:∀ t,t ∈ jU D 0 ↔ t.length=r/\t.all (okP u l)=true/\val b e t=n:=fun t=>by
  rw [i2 0 t]
  constructor
  ·rintro ⟨_,k1,k2,k3⟩
   rw [Int.zero_mul] at k3
   exact ⟨k1,k2,by omega⟩
  ·rintro ⟨k1,k2,k3⟩
   exact ⟨.inr ⟨Int.le_refl _,by rw [Nat.sub_self]; exact Int.le_refl _⟩,k1,k2,by rw [Int.zero_mul]; omega⟩
 have so:=sort_ok (r:=r) (jU D 0) (fun t ht=>by obtain ⟨k1,k2,_⟩:=(mem t).mp ht; exact aij h h1 k1 k2) (by omega)
 have g2:abL (dL D) (.int 0) (.list [])=some (eS (jU D 0)):=by
  show some ((zb (Qb D) 0).getD (.list []))=_
  rw [abC]
  unfold jU
  cases zd D 0 <;> rfl
 refine ⟨Qm jN (jU D 0),akx rfl rfl ga rfl (abz h1 h3) hl g2 so,fun t=>?_,?_,(zo jN (jU D 0)).nodup_iff.mpr (i6 0),zz jN (jU D 0)⟩
 ·rw [←mem t]; exact (zo jN (jU D 0)).mem_iff
 ·rw [(zo jN (jU D 0)).length_eq]; exact i5
end
end Rods
namespace Rods
open PySem L2 BX
open PyProof.Rows hiding St
noncomputable def apj:Bool:=(List.range 4).all fun u=>(List.range 13).all fun l=>decide (20<=(u+1)*(l+1)) || (List.range 6).all fun e=>e == 0 || (List.range 17).all fun b=>decide (b < 2) || (List.range b).all fun c=>decide ((u+1)*((jy (u:Int) (l:Int)).filter fun x=>decide (((c:Int) - jp (e:Int) x) % (b:Int)=0)).length < 64)
theorem aim:apj=true:=by decide +kernel
noncomputable def arE:Bool:=(List.range 4).all fun u=>(List.range 12).all fun l=>(List.range 6).all fun e=>e == 0 || (List.range 27).all fun k=>decide (cnt (u:Int) (e:Int) (l:Int) (k:Int)<=(u:Int)+1)
theorem aky:arE=true:=by decide +kernel
theorem ain (f g:PyData->Int):∀ rs:List PyData,(∀ x ∈ rs,f x<=g x)->(rs.map f).sum<=(rs.map g).sum
 | [],_=>Int.le_refl _
 | x::rs,h=>by
  have a:=h x List.mem_cons_self
  have c:=ain f g rs fun y hy=>h y (List.mem_cons_of_mem _ hy)
  simp only [List.map_cons,List.sum_cons]
  omega
theorem afH (k:Int) (p:PyData->Bool):∀ rs:List PyData,(rs.map fun x=>if p x=true then k else 0).sum=k*((rs.filter p).length:Int)
 | []=>by simp
 | x::rs=>by
  rw [List.map_cons,List.sum_cons,afH k p rs]
  by_cases h:p x=true
  ·rw [if_pos h,List.filter_cons_of_pos h,List.length_cons,Int.natCast_add,Int.mul_add]; omega
  ·rw [if_neg h,List.filter_cons_of_neg h]; omega
end Rods
namespace Rods
open PySem L2 BX
open PyProof.Rows hiding St
section
variable {u e l b:Int}
theorem aev (h:okN u e l b=true) (m:Int):CN u e l b 1 m<=u+1:=by
 obtain ⟨a1,a2,a3,a4,a5,a6,a7,a8,a9,a10⟩:=jF h
 have bm:=amC h
 have s1:CN u e l b 1 m<=cnt u e l m:=by
  show ((jy u l).map fun x=>if (m - jp e x) % b=0/\0<=m - jp e x then (if (m - jp e x) / b=0 then (1:Int) else 0) else 0).sum<=_
  have q:=afH 1 (fun x=>jp e x == m) (jy u l)
  rw [Int.one_mul] at q
  refine Int.le_trans (ain _ (fun x=>if (jp e x == m)=true then (1:Int) else 0) (jy u l) fun x _=>?_) (Int.le_of_eq q)
  by_cases c:(m - jp e x) % b=0/\0<=m - jp e x
  ·rw [if_pos c]
   by_cases d:(m - jp e x) / b=0
   ·have:=Int.mul_ediv_add_emod (m - jp e x) b
    rw [d,c.1] at this
    have e1:jp e x=m:=by omega
    rw [if_pos d,if_pos (by simpa using e1)]
    exact Int.le_refl _
   ·rw [if_neg d]; split <;> omega
  ·rw [if_neg c]; split <;> omega
 by_cases hm:0<=m/\m<=26
 ·have k:=aky
  unfold arE at k
  have k1:=List.all_eq_true.mp (List.all_eq_true.mp (List.all_eq_true.mp k u.toNat (List.mem_range.mpr (by omega))) l.toNat (List.mem_range.mpr (by omega))) e.toNat (List.mem_range.mpr (by omega))
  rw [Bool.or_eq_true] at k1
  rcases k1 with z | z
  ·have:e.toNat=0:=by simpa using z
   omega
  ·have k2:=of_decide_eq_true (List.all_eq_true.mp z m.toNat (List.mem_range.mpr (by omega)))
   rw [show ((u.toNat:Nat):Int)=u by omega,show ((e.toNat:Nat):Int)=e by omega,show ((l.toNat:Nat):Int)=l by omega,show ((m.toNat:Nat):Int)=m by omega] at k2
   omega
 ·have:cnt u e l m=0:=by
   unfold cnt
   rw [List.filter_eq_nil_iff.mpr fun x hx=>by
    have:=aes h hx
    simp
    omega]
   rfl
  omega
theorem akz (h:okN u e l b=true) (hs:(u+1)*(l+1) < 20) (n:Int):CN u e l b 2 n < 64:=by
 obtain ⟨a1,a2,a3,a4,a5,a6,a7,a8,a9,a10⟩:=jF h
 have s1:CN u e l b 2 n<=(u+1)*(((jy u l).filter fun x=>decide ((n - jp e x) % b=0)).length:Int):=by
  show ((jy u l).map fun x=>if (n - jp e x) % b=0/\0<=n - jp e x then CN u e l b 1 ((n - jp e x) / b) else 0).sum<=_
  rw [←afH (u+1) (fun x=>decide ((n - jp e x) % b=0)) (jy u l)]
  refine ain _ _ (jy u l) fun x _=>?_
  by_cases c:(n - jp e x) % b=0
  ·rw [if_pos (decide_eq_true c)]
   by_cases d:0<=n - jp e x
   ·rw [if_pos ⟨c,d⟩]; exact aev h _
   ·rw [if_neg fun z=>d z.2]; omega
  ·rw [if_neg fun z=>c z.1,if_neg (by simpa using c)]
   exact Int.le_refl _
 have c0:0<=n % b:=Int.emod_nonneg _ (by omega)
 have c1:n % b < b:=Int.emod_lt_of_pos _ (by omega)
 have k:=aim
 unfold apj at k
 have k1:=List.all_eq_true.mp (List.all_eq_true.mp k u.toNat (List.mem_range.mpr (by omega))) l.toNat (List.mem_range.mpr (by omega))
 rw [Bool.or_eq_true] at k1
 rcases k1 with z | z
 ·have z:=of_decide_eq_true z
  have:((20:Nat):Int)<=(((u.toNat+1)*(l.toNat+1):Nat):Int):=by exact_mod_cast z
  rw [Int.natCast_mul,Int.natCast_add,Int.natCast_add,show ((u.toNat:Nat):Int)=u by omega,show ((l.toNat:Nat):Int)=l by omega] at this
  exact absurd this (by have e:(((1:Nat)):Int)=1:=rfl; rw [e]; omega)
 ·have k2:=List.all_eq_true.mp z e.toNat (List.mem_range.mpr (by omega))
  rw [Bool.or_eq_true] at k2
  rcases k2 with z | z
  ·have:e.toNat=0:=by simpa using z
   omega
  ·have k3:=List.all_eq_true.mp z b.toNat (List.mem_range.mpr (by omega))
   rw [Bool.or_eq_true] at k3
   rcases k3 with z | z
   ·have:=of_decide_eq_true z
    omega
   ·have k4:=of_decide_eq_true (List.all_eq_true.mp z (n % b).toNat (List.mem_range.mpr (by omega)))
    rw [show ((u.toNat:Nat):Int)=u by omega,show ((e.toNat:Nat):Int)=e by omega,show ((l.toNat:Nat):Int)=l by omega,show ((b.toNat:Nat):Int)=b by omega,show (((n % b).toNat:Nat):Int)=n % b by omega] at k4
    have ef:((jy u l).filter fun x=>decide ((n % b - jp e x) % b=0))=((jy u l).filter fun x=>decide ((n - jp e x) % b=0)):=by
     congr 1
     funext x
     rw [Int.sub_emod (n % b),Int.emod_emod,←Int.sub_emod]
    rw [ef] at k4
    have k5:(((u.toNat+1)*((jy u l).filter fun x=>decide ((n - jp e x) % b=0)).length:Nat):Int) < 64:=by exact_mod_cast k4
    rw [Int.natCast_mul,Int.natCast_add,show ((u.toNat:Nat):Int)=u by omega] at k5
    have e1:(((1:Nat)):Int)=1:=rfl
    rw [e1] at k5
    omega
end
noncomputable abbrev rfd (i:Int):PyData:= .tuple [.str "refused",.int i]
theorem afI:qJ [Jb "NoManner"]=some (rfd 0):=by kernel_rfl
theorem afJ:("NoManner":Str) ∈ qR:=by decide
theorem aa6:qJ [Jb "NoNumber"]=some (rfd 2):=by kernel_rfl
theorem aa7:("NoNumber":Str) ∈ qR:=by decide
theorem afK:qJ [Jb "TooGreat"]=some (rfd 4):=by kernel_rfl
theorem afL:("TooGreat":Str) ∈ qR:=by decide
theorem JT {α:Type} (x:Unit->Option α):(none:Option α).orElse x=x ():=rfl
theorem JU {α:Type} (a:α) (x:Unit->Option α):(some a).orElse x=some a:=rfl
theorem agT:dIx (.list [fnD "all_settings",fnD "how_many",fnD "least_beads",fnD "plain_setting"]) (.int 0)=some (fnD "all_settings"):=rfl
theorem agU:zr "all_settings" (fnD "how_many")=false:=by decide
theorem agV:zr "all_settings" (fnD "least_beads")=false:=by decide
theorem agW:zr "all_settings" (fnD "plain_setting")=false:=by decide
theorem agX:dIx (.list [fnD "all_settings",fnD "how_many",fnD "least_beads",fnD "plain_setting"]) (.int 1)=some (fnD "how_many"):=rfl
theorem agY:zr "how_many" (fnD "all_settings")=false:=by decide
theorem agZ:zr "how_many" (fnD "least_beads")=false:=by decide
theorem ag0:zr "how_many" (fnD "plain_setting")=false:=by decide
theorem ag1:dIx (.list [fnD "all_settings",fnD "how_many",fnD "least_beads",fnD "plain_setting"]) (.int 2)=some (fnD "least_beads"):=rfl
theorem ag2:zr "least_beads" (fnD "all_settings")=false:=by decide
theorem ag3:zr "least_beads" (fnD "how_many")=false:=by decide
theorem ag4:zr "least_beads" (fnD "plain_setting")=false:=by decide
theorem ag5:dIx (.list [fnD "all_settings",fnD "how_many",fnD "least_beads",fnD "plain_setting"]) (.int 3)=some (fnD "plain_setting"):=rfl
theorem ag6:zr "plain_setting" (fnD "all_settings")=false:=by decide
theorem ag7:zr "plain_setting" (fnD "how_many")=false:=by decide
theorem ag8:zr "plain_setting" (fnD "least_beads")=false:=by decide
theorem arF {m r n d:PyData} (g:qp [m,r,n]=some d):jM [.int 0,m,r,n]=some d:=by
 refine jY rfl ?_
 show qM.1 [some (.int 0),some m,some r,some n,none]=_
 dsimp? [qM,Zf,agT,agX,ag1,ag5,agU,agV,agW,agY,agZ,ag0,ag2,ag3,ag4,ag6,ag7,ag8,qQ,JT,JU,orD,abh,Qn,fw4,g]
theorem aqA {m r n d:PyData}{c:Str} (g:qp [m,r,n]=none) (x:Jh [m,r,n]=some c) (hc:c ∈ qR) (hr:qJ [Jb c]=some d):jM [.int 0,m,r,n]=some d:=by
 refine jY rfl ?_
 show qM.1 [some (.int 0),some m,some r,some n,none]=_
 have hb:lkp 4 ((Z6 5).set 4 (some (Jb c)))=some (Jb c):=rfl
 unfold lkp at hb
 dsimp? [qM,Zf,agT,agX,ag1,ag5,agU,agV,agW,agY,agZ,ag0,ag2,ag3,ag4,ag6,ag7,ag8,qQ,JT,JU,orD,abh,Qn,fw4,g,x,hc,hb,hr]
theorem arG {m r n d:PyData} (g:ah4 [m,r,n]=some d):jM [.int 1,m,r,n]=some d:=by
 refine jY rfl ?_
 show qM.1 [some (.int 1),some m,some r,some n,none]=_
 dsimp? [qM,Zf,agT,agX,ag1,ag5,agU,agV,agW,agY,agZ,ag0,ag2,ag3,ag4,ag6,ag7,ag8,qQ,JT,JU,orD,abh,Qn,fw4,g]
theorem aqB {m r n d:PyData}{c:Str} (g:ah4 [m,r,n]=none) (x:aod [m,r,n]=some c) (hc:c ∈ qR) (hr:qJ [Jb c]=some d):jM [.int 1,m,r,n]=some d:=by
 refine jY rfl ?_
 show qM.1 [some (.int 1),some m,some r,some n,none]=_
 have hb:lkp 4 ((Z6 5).set 4 (some (Jb c)))=some (Jb c):=rfl
 unfold lkp at hb
 dsimp? [qM,Zf,agT,agX,ag1,ag5,agU,agV,agW,agY,agZ,ag0,ag2,ag3,ag4,ag6,ag7,ag8,qQ,JT,JU,orD,abh,Qn,fw4,g,x,hc,hb,hr]
theorem arH {m r n d:PyData} (g:Zl [m,r,n]=some d):jM [.int 2,m,r,n]=some d:=by
 refine jY rfl ?_
 show qM.1 [some (.int 2),some m,some r,some n,none]=_
 dsimp? [qM,Zf,agT,agX,ag1,ag5,agU,agV,agW,agY,agZ,ag0,ag2,ag3,ag4,ag6,ag7,ag8,qQ,JT,JU,orD,abh,Qn,fw4,g]
theorem aqC {m r n d:PyData}{c:Str} (g:Zl [m,r,n]=none) (x:afr [m,r,n]=some c) (hc:c ∈ qR) (hr:qJ [Jb c]=some d):jM [.int 2,m,r,n]=some d:=by
 refine jY rfl ?_
 show qM.1 [some (.int 2),some m,some r,some n,none]=_
 have hb:lkp 4 ((Z6 5).set 4 (some (Jb c)))=some (Jb c):=rfl
 unfold lkp at hb
 dsimp? [qM,Zf,agT,agX,ag1,ag5,agU,agV,agW,agY,agZ,ag0,ag2,ag3,ag4,ag6,ag7,ag8,qQ,JT,JU,orD,abh,Qn,fw4,g,x,hc,hb,hr]
theorem arI {m r n d:PyData} (g:Je [m,r,n]=some d):jM [.int 3,m,r,n]=some d:=by
 refine jY rfl ?_
 show qM.1 [some (.int 3),some m,some r,some n,none]=_
 dsimp? [qM,Zf,agT,agX,ag1,ag5,agU,agV,agW,agY,agZ,ag0,ag2,ag3,ag4,ag6,ag7,ag8,qQ,JT,JU,orD,abh,Qn,fw4,g]
theorem amN {m r n d:PyData}{c:Str} (g:Je [m,r,n]=none) (x:aaR [m,r,n]=some c) (hc:c ∈ qR) (hr:qJ [Jb c]=some d):jM [.int 3,m,r,n]=some d:=by
 refine jY rfl ?_
 show qM.1 [some (.int 3),some m,some r,some n,none]=_
 have hb:lkp 4 ((Z6 5).set 4 (some (Jb c)))=some (Jb c):=rfl
 unfold lkp at hb
 dsimp? [qM,Zf,agT,agX,ag1,ag5,agU,agV,agW,agY,agZ,ag0,ag2,ag3,ag4,ag6,ag7,ag8,qQ,JT,JU,orD,abh,Qn,fw4,g,x,hc,hb,hr]
section
variable {m r n:PyData}{c:Str}
theorem aqD (g:ql [m,r,n]=none) (x:zF [m,r,n]=some c):qp [m,r,n]=none/\Jh [m,r,n]=some c:=by
 constructor
 ·simp [qp,jw,zE,jE,jI,Jr,jB,jk,ju,lkp,g]
 ·refine qi rfl ?_
  show Jg.1 [some m,some r,some n,none,none]=_
  simp [Jg,orX,jB,jk,ju,lkp,x]
theorem arJ (g:ql [m,r,n]=none) (x:zF [m,r,n]=some c):ah4 [m,r,n]=none/\aod [m,r,n]=some c:=by
 constructor
 ·simp [ah4,jw,al5,jE,jI,Jr,jB,jk,ju,lkp,g]
 ·refine qi rfl ?_
  show aoc.1 [some m,some r,some n,none,none]=_
  simp [aoc,orX,jB,jk,ju,lkp,x]
theorem aoJ (g:ql [m,r,n]=none) (x:zF [m,r,n]=some c):Zl [m,r,n]=none/\afr [m,r,n]=some c:=by
 constructor
 ·simp [Zl,jw,ac8,jE,jI,Jr,jB,jk,ju,lkp,g]
 ·refine qi rfl ?_
  show afq.1 [some m,some r,some n,none,none]=_
  simp [afq,orX,jB,jk,ju,lkp,x]
theorem aoK (g:ql [m,r,n]=none) (x:zF [m,r,n]=some c):Je [m,r,n]=none/\aaR [m,r,n]=some c:=by
 constructor
 ·simp [Je,jw,ZQ,jE,jI,Jr,jB,jk,ju,lkp,g]
 ·refine qi rfl ?_
  show ZT.1 [some m,some r,some n]=_
  simp [ZT,orX,jB,jk,ju,lkp,x]
end
section
variable {m r n:PyData}{c:Str}
theorem aoL (g:J1 [m]=none) (x:aal [m]=some c):ql [m,r,n]=none/\zF [m,r,n]=some c:=by
 constructor
 ·simp [ql,jw,aai,jE,jI,Jr,jB,jk,ju,lkp,g]
 ·refine qi rfl ?_
  show J9.1 [some m,some r,some n]=_
  simp [J9,orX,nxX,Jr,jB,jk,ju,lkp,g,x]
theorem aoM (g:J1 [m]=some .none) (x:aal [m]=none) (g2:qy [r]=none) (x2:Qt [r]=some c):ql [m,r,n]=none/\zF [m,r,n]=some c:=by
 constructor
 ·simp [ql,jw,aai,jE,jI,Jr,jB,jk,ju,lkp,g,g2]
 ·refine qi rfl ?_
  show J9.1 [some m,some r,some n]=_
  simp [J9,orX,nxX,Jr,jB,jk,ju,lkp,g,x,g2,x2]
theorem aoN (g:J1 [m]=some .none) (x:aal [m]=none) (g2:qy [r]=some .none) (x2:Qt [r]=none) (g3:zC [n]=none) (x3:aaQ [n]=some c):ql [m,r,n]=none/\zF [m,r,n]=some c:=by
 constructor
 ·simp [ql,jw,aai,jE,jI,Jr,jB,jk,ju,lkp,g,g2,g3]
 ·refine qi rfl ?_
  show J9.1 [some m,some r,some n]=_
  simp [J9,orX,nxX,Jr,jB,jk,ju,lkp,g,x,g2,x2,g3,x3]
theorem aio {i:Int} (g:ql [m,r,n]=none) (x:zF [m,r,n]=some c) (hc:c ∈ qR) (hr:qJ [Jb c]=some (rfd i)):jM [.int 0,m,r,n]=some (rfd i)/\jM [.int 1,m,r,n]=some (rfd i)/\jM [.int 2,m,r,n]=some (rfd i)/\jM [.int 3,m,r,n]=some (rfd i):=by
 obtain ⟨a1,a2⟩:=aqD g x
 obtain ⟨b1,b2⟩:=arJ g x
 obtain ⟨c1,c2⟩:=aoJ g x
 obtain ⟨d1,d2⟩:=aoK g x
 exact ⟨aqA a1 a2 hc hr,aqB b1 b2 hc hr,aqC c1 c2 hc hr,amN d1 d2 hc hr⟩
end
section
variable {u e l b:Int}{ps qs:List (Int × Int)}
theorem aqE (h:okN u e l b=true) (hp:ps.all (okP u l)=true):val b e ps+2<=2*16 ^ ps.length:=by
 obtain ⟨a1,a2,a3,a4,a5,a6,a7,a8,a9,a10⟩:=jF h
 have key:∀ (ps:List (Int × Int)) (acc:Int),ps.all (okP u l)=true->0<=acc->ps.foldl (fun n p=>n*b+wt e p) acc+2<=(acc+2)*16 ^ ps.length:=by
  intro ps
  induction ps with
  | nil=>intro acc _ h; simp
  | cons p ps ih=>
   intro acc hp h0
   rw [List.all_cons,Bool.and_eq_true] at hp
   have w0:=aej a3 hp.1
   have w1:=amm a3 a4 a2 a7 hp.1
   have ha:0<=acc*b:=Int.mul_nonneg h0 (by omega)
   have hb2:acc*b<=acc*16:=Int.mul_le_mul_of_nonneg_left a9 h0
   refine Int.le_trans (ih (acc*b+wt e p) hp.2 (by omega)) ?_
   rw [List.length_cons,Int.pow_succ,Int.mul_comm (16 ^ ps.length) 16,←Int.mul_assoc]
   exact Int.mul_le_mul_of_nonneg_right (by omega) (Int.le_of_lt (abw (by decide) _))
 have:=key ps 0 hp (by omega)
 simpa [val] using this
theorem aip (h:okN u e l b=true) {r:Nat}{n:Int} (h1:1<=r) (h4:r<=4) (h0:0<=n) (hn:b ^ r<=n):afp [jl u e l b,.int (r:Int),.int n]=some ("TooGreat":Str):=by
 obtain ⟨a1,a2,a3,a4,a5,a6,a7,a8,a9,a10⟩:=jF h
 have hb:0 < b:=by omega
 have hd:=afy (n:=n) hb a9 h1 h4
 obtain ⟨k,rfl⟩:∃ k,r=k+1:=⟨r - 1,by omega⟩
 obtain ⟨x,xs,hx,_,hx2⟩:=aaY hb k n h0
 have hi:=amo h4 hx
 have hc:Qg (fun i j=>decide (j<=i)) (.int x) (.int b)=some (.bool true):=by
  show some (PyData.bool (decide (b<=x)))=_
  rw [decide_eq_true (hx2 hn)]
 generalize hr:((k+1:Nat):Int)=rr at hd ⊢
 refine (aa4 rfl).trans ?_
 show ach.1 [some (jl u e l b),some (.int rr),some (.int n),none]=_
 simp only [ach,nxX,qU,jB,jk,ju,op2,lkp,cst,jA,zzA,zzB,zzC,zzD,zzE,ix3,hd,zzF,zzG,ifX,tst,hi,hc,asB,zzM]
end
end Rods
namespace Rods
open PySem L2 BX
open PyProof.Rows hiding St
theorem aoO (x:PyData) (xs:List PyData) (h:xs.length < 9999):dIx (.list (x::xs)) (.int 0)=some x:=by
 have e1:ixN (xs.length+1) 0=some 0:=ah7 (by omega) (by omega)
 simp only [dIx,atI,List.length_cons,e1]
 rw [if_pos (by omega)]
 rfl
noncomputable def bdP (p:Int × Int):Int:=p.1+p.2
noncomputable abbrev JF (p:Int × Int):aaB:=(bdP p,p)
noncomputable def QT:Int × Int->List (Int × Int)->Int × Int
 | p,[]=>p
 | p,x::r=>if bdP x < bdP p then QT x r else QT p r
theorem ady {kf:PyData->Int} (hk:∀ p,kf (pr p)=bdP p):∀ (r:List (Int × Int)) (p:Int × Int),Qi kf (pr p) (r.map pr)=pr (QT p r)
 | [],p=>rfl
 | x::r,p=>by
  rw [List.map_cons]
  unfold Qi QT
  rw [hk,hk]
  split
  ·exact ady hk r x
  ·exact ady hk r p
noncomputable def aiq (p q:Int × Int):Prop:=p.1 < q.1 ∨ (p.1=q.1/\p.2 < q.2)
theorem abD:∀ (r:List (Int × Int)) (p:Int × Int),(∀ y ∈ p::r,inT (JF y)=true)->(p::r).Pairwise aiq->(QT p r ∈ p::r)/\∀ y ∈ p::r,qk (JF (QT p r))<=qk (JF y)
 | [],p,_,_=>⟨List.mem_cons_self,fun y hy=>by rw [List.mem_singleton.mp hy]; exact Int.le_refl _⟩
 | x::r,p,hB,hs=>by
  have hp:=hB p List.mem_cons_self
  have hx:=hB x (List.mem_cons_of_mem _ List.mem_cons_self)
  have s1:=List.pairwise_cons.mp hs
  have hpx:=s1.1 x List.mem_cons_self
  simp only [inT,inB,JF,Bool.and_eq_true,decide_eq_true_eq] at hp hx
  unfold QT
  split
  ·rename_i hlt
   obtain ⟨m1,m2⟩:=abD r x (fun y hy=>hB y (List.mem_cons_of_mem _ hy)) s1.2
   refine ⟨List.mem_cons_of_mem _ m1,fun y hy=>?_⟩
   rcases List.mem_cons.mp hy with rfl | hy
   ·refine Int.le_trans (m2 x List.mem_cons_self) ?_
    simp only [qk,JF]
    omega
   ·exact m2 y hy
  ·rename_i hge
   have s2:(p::r).Pairwise aiq:=List.pairwise_cons.mpr ⟨fun y hy=>s1.1 y (List.mem_cons_of_mem _ hy),(List.pairwise_cons.mp s1.2).2⟩
   obtain ⟨m1,m2⟩:=abD r p (fun y hy=>hB y (by rcases List.mem_cons.mp hy with rfl | q; exact List.mem_cons_self; exact List.mem_cons_of_mem _ (List.mem_cons_of_mem _ q))) s2
   refine ⟨by rcases List.mem_cons.mp m1 with q | q; rw [q]; exact List.mem_cons_self; exact List.mem_cons_of_mem _ (List.mem_cons_of_mem _ q),fun y hy=>?_⟩
   rcases List.mem_cons.mp hy with rfl | hy
   ·exact m2 _ List.mem_cons_self
   ·rcases List.mem_cons.mp hy with rfl | hy
    ·refine Int.le_trans (m2 p List.mem_cons_self) ?_
     simp only [qk,JF]
     rcases hpx with q | ⟨q1,q2⟩ <;> omega
    ·exact m2 y (List.mem_cons_of_mem _ hy)
theorem akA {p:Int × Int}{r:List (Int × Int)} (hB:∀ y ∈ p::r,inT (JF y)=true) (hs:(p::r).Pairwise aiq):∃ j5,Qm qk ((p::r).map JF)=JF (QT p r)::j5/\j5.length=r.length:=by
 obtain ⟨m1,m2⟩:=abD r p hB hs
 have pm:=zo qk ((p::r).map JF)
 have so:=zz qk ((p::r).map JF)
 cases hq:Qm qk ((p::r).map JF) with
 | nil=>rw [hq] at pm; have:=pm.length_eq; simp at this
 | cons t ts=>
  rw [hq] at pm so
  refine ⟨ts,?_⟩
  have ht:t ∈ (p::r).map JF:=pm.mem_iff.mp List.mem_cons_self
  obtain ⟨y,hy,rfl⟩:=List.mem_map.mp ht
  have hm:JF (QT p r) ∈ JF y::ts:=pm.mem_iff.mpr (List.mem_map.mpr ⟨_,m1,rfl⟩)
  have le1:qk (JF y)<=qk (JF (QT p r)):=by
   rcases List.mem_cons.mp hm with q | q
   ·rw [q]; exact Int.le_refl _
   ·exact (List.pairwise_cons.mp so).1 _ q
  have:=ad9 (hB y hy) (hB _ m1) (Int.le_antisymm le1 (m2 y hy))
  rw [this]
  refine ⟨rfl,?_⟩
  have:=pm.length_eq
  simpa using this
noncomputable def ag9 (i m:Nat):List (Int × Int):=(List.range m).map fun (j:Nat)=>((i:Int),(j:Int))
noncomputable def Qy (n m:Nat):List (Int × Int):=(List.range n).flatMap fun (i:Nat)=>ag9 i m
theorem adz (n m:Nat):qZ n m=(Qy n m).map pr:=by
 unfold qZ Qy
 rw [List.map_flatMap]
 congr 1
 funext i
 simp [qL,ag9,pr]
theorem aew {n m:Nat}{p:Int × Int} (h:p ∈ Qy n m):0<=p.1/\p.1 < n/\0<=p.2/\p.2 < m:=by
 obtain ⟨i,hi,hp⟩:=List.mem_flatMap.mp h
 obtain ⟨j,hj,rfl⟩:=List.mem_map.mp hp
 have:=List.mem_range.mp hi
 have:=List.mem_range.mp hj
 simp only
 omega
theorem aha (i:Nat):∀ m,(ag9 i m).Pairwise aiq
 | 0=>by simp [ag9]
 | m+1=>by
  have:ag9 i (m+1)=ag9 i m++[((i:Int),(m:Int))]:=by simp [ag9,List.range_succ]
  rw [this]
  refine List.pairwise_append.mpr ⟨aha i m,List.pairwise_singleton _ _,fun a ha c hc=>?_⟩
  rw [List.mem_singleton.mp hc]
  obtain ⟨j,hj,rfl⟩:=List.mem_map.mp ha
  have:=List.mem_range.mp hj
  exact .inr ⟨rfl,by simp only; omega⟩
theorem abE (m:Nat):∀ n,(Qy n m).Pairwise aiq
 | 0=>by simp [Qy]
 | n+1=>by
  have:Qy (n+1) m=Qy n m++ag9 n m:=by simp [Qy,List.range_succ]
  rw [this]
  refine List.pairwise_append.mpr ⟨abE m n,aha n m,fun a ha c hc=>?_⟩
  have h1:=aew ha
  obtain ⟨j,hj,rfl⟩:=List.mem_map.mp hc
  exact .inl (by simp only; omega)
end Rods
namespace Rods
open PySem L2 BX
open PyProof.Rows hiding St
section
variable {u e l b:Int}
noncomputable def j0 (u e l w:Int):List (Int × Int):=(Qy (u+1).toNat (l+1).toNat).filter fun p=>wt e p == w
theorem adA (w:Int):zJ u e l w=(j0 u e l w).map pr:=by
 unfold zJ j0 jy
 rw [adz,List.filter_map]
 rfl
theorem amO (p:Int × Int):Qj qr (pr p)=bdP p:=by
 unfold Qj pr
 rw [ZX]; rfl
theorem afM (hu:0<=u) (hu':u < 100) (hl:0<=l) (hl':l < 100) {d:Int}{p:Int × Int}{r:List (Int × Int)} (hw:j0 u e l d=p::r):JO [jl u e l b,.int d]=some (pr (QT p r)):=by
 have h1:=aaX (e:=e) (b:=b) (w:=d) hu hu' hl hl'
 have hk:aac qr (zJ u e l d)=true:=by
  rw [adA]
  refine List.all_eq_true.mpr fun x hx=>?_
  obtain ⟨y,_,rfl⟩:=List.mem_map.mp hx
  unfold pr
  rw [ZX]; rfl
 have hm:aad qr (.list (zJ u e l d))=some (pr (QT p r)):=by
  show (if aac qr (zJ u e l d)=true then some (acJ (Qj qr) none (zJ u e l d)) else none)=_
  rw [if_pos hk,adA,hw,List.map_cons]
  show some (Qi (Qj qr) (pr p) (r.map pr))=_
  rw [ady amO]
 simp [JO,jw,ab9,jE,jI,jB,jk,ju,lkp,qG,h1,hm]
theorem amP (p:Int × Int):Q6 [pr p]=some (.int (bdP p)):=by
 show some (PyData.int ([p.1,p.2].sum))=_
 simp [bdP]
theorem asl (p:Int × Int):dIx (pr p) (.int 0)=some (.int p.1):=rfl
theorem asm (p:Int × Int):dIx (pr p) (.int 1)=some (.int p.2):=rfl
theorem asn (x y:PyData):few [x,y]=true:=qN (by simp)
noncomputable def adL (p:Int × Int):PyData:= .tuple [.int (bdP p),pr p]
theorem amQ:jy u l=(Qy (u+1).toNat (l+1).toNat).map pr:=adz _ _
theorem amR (hu:u<=3) (hl:l<=11) (d:Int):(j0 u e l d).length<=48:=by
 have h1:(j0 u e l d).length<=(Qy (u+1).toNat (l+1).toNat).length:=List.length_filter_le _ _
 have h2:(Qy (u+1).toNat (l+1).toNat).length=(u+1).toNat*(l+1).toNat:=by
  rw [←List.length_map (f:=pr),←adz,Qo]
 have h3:(u+1).toNat*(l+1).toNat<=4*12:=Nat.mul_le_mul (by omega) (by omega)
 omega
theorem aoP (hu:u<=3) (hl:l<=11) {d:Int}{p:Int × Int}{r:List (Int × Int)} (hw:j0 u e l d=p::r):∃ j5,ac1 [.list ((j0 u e l d).map adL)]=some (.list (adL (QT p r)::j5))/\j5.length < 100:=by
 have mem:∀ y ∈ j0 u e l d,0<=y.1/\y.1 < ((u+1).toNat:Int)/\0<=y.2/\y.2 < ((l+1).toNat:Int):=fun y hy=>aew (List.mem_filter.mp hy).1
 have hB:∀ y ∈ p::r,inT (JF y)=true:=fun y hy=>by
  have:=mem y (by rw [hw]; exact hy)
  simp only [inT,inB,JF,Bool.and_eq_true,decide_eq_true_eq]
  omega
 have hs:(p::r).Pairwise aiq:=by
  rw [←hw]
  exact (abE _ _).filter _
 obtain ⟨j5,hsort,hrl⟩:=akA hB hs
 have hlen:=amR (e:=e) hu hl d
 have tr:zX ((j0 u e l d).map adL)=some ((j0 u e l d).map JF):=by
  have:=ad8 ((j0 u e l d).map JF)
  rw [List.map_map] at this
  exact this
 refine ⟨j5.map Z7,?_,by rw [List.length_map,hrl]; rw [hw,List.length_cons] at hlen; omega⟩
 show (zX _).bind _=_
 rw [tr,zzD]
 have c1:(decide (((j0 u e l d).map JF).length < 64) && ((j0 u e l d).map JF).all inT)=true:=by
  rw [Bool.and_eq_true]
  refine ⟨decide_eq_true (by rw [List.length_map]; omega),List.all_eq_true.mpr fun t ht=>?_⟩
  obtain ⟨y,hy,rfl⟩:=List.mem_map.mp ht
  exact hB y (by rw [←hw]; exact hy)
 rw [if_pos c1,hw,hsort]
 rfl
theorem arK (H:zN=true) (h:okN u e l b=true) {d:Int} (h0:0<=d) (hd:d < b):∃ p r,j0 u e l d=p::r:=by
 have any:=ah9 H h h0 hd
 cases hq:j0 u e l d with
 | nil=>
  obtain ⟨r,h1,h2⟩:=List.any_eq_true.mp any
  have:r ∈ zJ u e l d:=List.mem_filter.mpr ⟨h1,h2⟩
  rw [adA,hq] at this
  cases this
 | cons p r=>exact ⟨p,r,rfl⟩
theorem aoQ (h:okN u e l b=true) {d:Int}{p:Int × Int}{r:List (Int × Int)} (hw:j0 u e l d=p::r):fpr (jl u e l b) d=QT p r:=by
 obtain ⟨a1,a2,a3,a4,a5,a6,a7,a8,a9,a10⟩:=jF h
 have gf:=afM (e:=e) (b:=b) a1 (show u < 100 by omega) (show 0<=l by omega) (show l < 100 by omega) hw
 unfold fpr
 rw [gf]
 rfl
noncomputable def dgm (b:Int):Nat->Int->List Int
 | 0,_=>[]
 | k+1,n=>dgm b k (n / b)++[n % b]
theorem ajk {b:Int} (hb:0 < b):∀ (r:Nat) (n:Int),1<=r->0<=n->n < b ^ r->dgm b r n=dgl b r n
 | 0,n,h1,_,_=>by omega
 | 1,n,_,h0,hn=>by
  rw [pw1] at hn
  show []++[n % b]=[n]
  rw [Int.emod_eq_of_lt h0 hn]; rfl
 | k+2,n,_,h0,hn=>by
  show dgm b (k+1) (n / b)++[n % b]=dgl b (k+1) (n / b)++[n % b]
  rw [ajk hb (k+1) (n / b) (by omega) (Int.ediv_nonneg h0 (by omega)) (abx hb hn)]
theorem aqF {b n:Int} (hb:0 < b) (r:Nat) (h0:0<=n):n / b ^ r=0 ↔ n < b ^ r:=by
 have hp:=abw hb r
 constructor
 ·intro hz
  exact Int.lt_of_not_ge fun hge=>by
   have:1<=n / b ^ r:=Int.le_ediv_of_mul_le hp (by omega)
   omega
 ·intro hlt
  exact Int.ediv_eq_zero_of_lt h0 hlt
end
section
variable {u e l b:Int}
theorem aoR (hb:2<=b/\b<=16) (he:1<=e/\e<=5) {n:Int} (p:Int × Int):tst (op2 dEq (op2 qV (op2 Ju (op2 dIx (lkp 0) (cst (.int 0))) (op2 dIx (lkp 2) (cst (.int 1)))) (op2 dIx (lkp 0) (cst (.int 1)))) (op2 aeR (lkp 1) (op2 dIx (lkp 2) (cst (.int 3))))) [some (pr p),some (.int n),some (jl u e l b)]=some (wt e p == n % b):=by
 have m1:Ju (.int p.1) (.int e)=some (.int (p.1*e)):=arC (by omega)
 have dq:dEq (.int (p.1*e+p.2)) (.int (n % b))=some (.bool (decide (p.1*e+p.2=n % b))):=acn _ _
 have hm:aeR (.int n) (.int b)=some (.int (n % b)):=QR (by omega)
 simp only [tst,op2,lkp,cst,zzA,zzB,zzC,zzD,zzE,asl,asm,ix1,ix3,m1,add_int,hm,dq,asB]
 rw [Bool.beq_eq_decide_eq]; rfl
theorem aoS (h:okN u e l b=true) {n:Int}{R F k x:Option PyData}:qU (j9 (itS (jB aan (jk (lkp 0) ju))) [none,some 2,some 0] (jA 0) (tst (op2 dEq (op2 qV (op2 Ju (op2 dIx (lkp 0) (cst (.int 0))) (op2 dIx (lkp 2) (cst (.int 1)))) (op2 dIx (lkp 0) (cst (.int 1)))) (op2 aeR (lkp 1) (op2 dIx (lkp 2) (cst (.int 3)))))) (lkp 0)) (jA 5) [some (jl u e l b),R,some (.int n),F,k,x]=some (.nx [some (jl u e l b),R,some (.int n),F,k,some (.list ((j0 u e l (n % b)).map pr))]):=by
 obtain ⟨a1,a2,a3,a4,a5,a6,a7,a8,a9,a10⟩:=jF h
 have lr:=abB (e:=e) (b:=b) a1 (show u < 50 by omega) (show 0<=l by omega) (show l < 50 by omega)
 have fw:=Zp (u:=u) (l:=l) (by omega) (by omega)
 have cp:=aa5 (τ:=[some (.int n),some (jl u e l b)]) (fun p=>wt e p == n % b) pr (fun p=>aoR (u:=u) (l:=l) (b:=b) ⟨a8,a9⟩ ⟨a3,a4⟩ p) (fe:=lkp 0) (fun p=>rfl) (Qy (u+1).toNat (l+1).toNat) none
 rw [←amQ] at cp
 simp only [qU,j9,itS,items,jB,jk,ju,lkp,zzA,zzB,zzC,zzD,zzE,lr,fw,zzM,JH,List.map_cons,List.map_nil,zzH,jA,zzG,zzF]
 rw [cp]
 rfl
theorem amS (ps:List (Int × Int)):jS (jA 0) zW (zG (jk (jB Q6 (jk (lkp 0) ju)) (jk (lkp 0) ju))) (ps.map pr) [none]=some (ps.map adL):=by
 have:=aa5 (τ:=[]) (fun _=>true) adL (ft:=zW) (fe:=zG (jk (jB Q6 (jk (lkp 0) ju)) (jk (lkp 0) ju))) (fun p=>rfl) (fun p=>by
  simp only [zG,jB,jk,ju,lkp,zzA,zzB,zzC,zzD,zzE,amP,asn,zzM]
  rfl) ps none
 rw [this,List.filter_eq_self.mpr fun _ _=>rfl]
theorem aoT (H:zN=true) (h:okN u e l b=true) {d:Int} (h0:0<=d) (hd:d < b) {m R n F k:Option PyData}:zG (jk (op2 dIx (op2 dIx (jB ac1 (jk (j9 (itS (lkp 5)) [none] (jA 0) zW (zG (jk (jB Q6 (jk (lkp 0) ju)) (jk (lkp 0) ju)))) ju)) (cst (.int 0))) (cst (.int 1))) ju) [m,R,n,F,k,some (.list ((j0 u e l d).map pr))]=some (.tuple [pr (fpr (jl u e l b) d)]):=by
 obtain ⟨a1,a2,a3,a4,a5,a6,a7,a8,a9,a10⟩:=jF h
 obtain ⟨p,r,hw⟩:=arK H h h0 hd
 obtain ⟨j5,so,hr⟩:=aoP (u:=u) (e:=e) (l:=l) a2 a7 hw
 have hd0:=aoO (adL (QT p r)) j5 (by omega)
 have hd1:dIx (adL (QT p r)) (.int 1)=some (pr (QT p r)):=rfl
 rw [aoQ h hw]
 have tc:=amS (j0 u e l d)
 have f48:few ((j0 u e l d).map pr)=true:=qN (by rw [List.length_map]; have:=amR (e:=e) a2 a7 d; omega)
 have f1:few [pr (QT p r)]=true:=qN (by simp)
 have it:items (.list ((j0 u e l d).map pr))=some ((j0 u e l d).map pr):=rfl
 have e5:j9 (itS (lkp 5)) [none] (jA 0) zW (zG (jk (jB Q6 (jk (lkp 0) ju)) (jk (lkp 0) ju))) [m,R,n,F,k,some (.list ((j0 u e l d).map pr))]=some (.list ((j0 u e l d).map adL)):=by
  simp only [j9,itS,lkp,zzA,zzB,zzC,zzD,it,f48,zzM,JH,List.map_cons,List.map_nil,zzH]
  rw [tc]
  rfl
 generalize PyData.list ((j0 u e l d).map adL)=L at*
 generalize PyData.list (adL (QT p r)::j5)=M at*
 generalize j9 (itS (lkp 5)) [none] (jA 0) zW (zG (jk (jB Q6 (jk (lkp 0) ju)) (jk (lkp 0) ju)))=CC at*
 simp only [zG,op2,jB,jk,ju,cst,zzD,zzE,e5,so,hd0,hd1,f1,zzM]
theorem ahb (H:zN=true) (h:okN u e l b=true) {R k x:Option PyData}{n:Int}{acc:List (Int × Int)} (hl:acc.length < 1000):∃ x',Zn.1 [some (jl u e l b),R,some (.int n),some (jH acc),k,x]=some (.nx [some (jl u e l b),R,some (.int (n / b)),some (jH (fpr (jl u e l b) (n % b)::acc)),k,x']):=by
 obtain ⟨a1,a2,a3,a4,a5,a6,a7,a8,a9,a10⟩:=jF h
 have hf:acG (.int n) (.int b)=some (.int (n / b)):=JE (by omega) (by omega)
 have ad:qV (.tuple [pr (fpr (jl u e l b) (n % b))]) (jH acc)=some (jH (fpr (jl u e l b) (n % b)::acc)):=by
  have:=afE (xs:=[pr (fpr (jl u e l b) (n % b))]) (ys:=acc.map pr) (.inr trivial) (by rw [List.length_map]; simp; omega)
  exact this
 have hh:=aoT H h (d:=n % b) (Int.emod_nonneg _ (by omega)) (Int.emod_lt_of_pos _ (by omega)) (m:=some (jl u e l b)) (R:=R) (n:=some (.int n)) (F:=some (jH acc)) (k:=k)
 refine ⟨some (.list ((j0 u e l (n % b)).map pr)),?_⟩
 simp only [Zn]
 refine (jz (aoS h)).trans ?_
 refine (jz (ρ1:=[some (jl u e l b),R,some (.int n),some (jH (fpr (jl u e l b) (n % b)::acc)),k,some (.list ((j0 u e l (n % b)).map pr))]) ?_).trans ?_
 ·show ((op2 qV _ (lkp 3) _).bind _)=_
  have:op2 qV (zG (jk (op2 dIx (op2 dIx (jB ac1 (jk (j9 (itS (lkp 5)) [none] (jA 0) zW (zG (jk (jB Q6 (jk (lkp 0) ju)) (jk (lkp 0) ju)))) ju)) (cst (.int 0))) (cst (.int 1))) ju)) (lkp 3) [some (jl u e l b),R,some (.int n),some (jH acc),k,some (.list ((j0 u e l (n % b)).map pr))]=some (jH (fpr (jl u e l b) (n % b)::acc)):=by
   show Option.bind _ _=_
   rw [hh]
   simp only [lkp,zzA,zzB,zzC,zzD]
   exact ad
  rw [this]
  rfl
 dsimp? [ix3,hf]
theorem ahc (H:zN=true) (h:okN u e l b=true) {R:Option PyData} (ds:List PyData):∀ (n:Int) (acc:List (Int × Int)) (k x:Option PyData),acc.length+ds.length < 1000->
  ∃ k' x',jO (jA 4) Zn.1 ds [some (jl u e l b),R,some (.int n),some (jH acc),k,x]=some (.nx [some (jl u e l b),R,some (.int (n / b ^ ds.length)),some (jH ((dgm b ds.length n).map (fpr (jl u e l b))++acc)),k',x']):=by
 obtain ⟨a1,a2,a3,a4,a5,a6,a7,a8,a9,a10⟩:=jF h
 induction ds with
 | nil=>
  intro n acc k x _
  have:n / b ^ ([]:List PyData).length=n:=by simp
  exact ⟨k,x,by rw [this]; rfl⟩
 | cons d ds ih=>
  intro n acc k x hl
  rw [List.length_cons] at hl
  obtain ⟨x1,st⟩:=ahb H h (R:=R) (k:=some d) (x:=x) (n:=n) (acc:=acc) (by omega)
  obtain ⟨k',x',hx⟩:=ih (n / b) (fpr (jl u e l b) (n % b)::acc) (some d) x1 (by rw [List.length_cons]; omega)
  refine ⟨k',x',?_⟩
  have ga:jA 4 d [some (jl u e l b),R,some (.int n),some (jH acc),k,x]=some [some (jl u e l b),R,some (.int n),some (jH acc),some d,x]:=rfl
  have e1:n / b ^ (d::ds).length=n / b / b ^ ds.length:=by
   rw [List.length_cons,Int.pow_succ,Int.mul_comm,Int.ediv_ediv_of_nonneg (by omega)]
  have e2:(dgm b (d::ds).length n).map (fpr (jl u e l b))++acc=(dgm b ds.length (n / b)).map (fpr (jl u e l b))++fpr (jl u e l b) (n % b)::acc:=by
   rw [List.length_cons,dgm,List.map_append,List.append_assoc]; rfl
  rw [e1,e2]
  simp only [jO,ga,zzD,st]
  exact hx
noncomputable def lpl (m:PyData) (b:Int) (r:Nat) (n:Int):PyData:=if n < b ^ r then jH (pln m b r n) else rfd 4
theorem ahd {m S D:PyData}{r n k:Int}{RR:List PyData}{y4 y5:Option PyData}{c:Bool} (rg:acE [.int r]=some RR) (hx:jO (jA 4) Zn.1 RR [some m,some (.int r),some (.int n),some (.tuple []),none,none]=some (.nx [some m,some (.int r),some (.int k),some S,y4,y5])) (dq:dEq (.int k) (.int 0)=some (.bool c)) (hD:(if c=true then S else rfd 4)=D):ZW [m,.int r,.int n]=some D:=by
 refine jY rfl ?_
 show ack.1 [some m,some (.int r),some (.int n),none,none,none]=_
 simp only [ack]
 refine (jz (ρ1:=[some m,some (.int r),some (.int n),some (.tuple []),none,none]) rfl).trans ?_
 refine (jz (ρ1:=[some m,some (.int r),some (.int k),some S,y4,y5]) ?_).trans ?_
 ·dsimp? [zR,rg]
  exact hx
 rw [←hD]
 cases c <;> dsimp? [dq]
theorem adB (H:zN=true) (h:okN u e l b=true) {r:Nat}{n:Int} (h1:1<=r) (h4:r<=4) (h0:0<=n):ZW [jl u e l b,.int (r:Int),.int n]=some (lpl (jl u e l b) b r n):=by
 obtain ⟨a1,a2,a3,a4,a5,a6,a7,a8,a9,a10⟩:=jF h
 have hb:0 < b:=by omega
 have hlen:(zQ 0 r).length=r:=adl r
 obtain ⟨k',x',hx⟩:=ahc H h (R:=some (.int (r:Int))) (zQ 0 r) n [] none none (by rw [hlen,List.length_nil]; omega)
 rw [hlen,List.append_nil] at hx
 have dq:dEq (.int (n / b ^ r)) (.int 0)=some (.bool (decide (n < b ^ r))):=by
  rw [acn,decide_eq_decide.mpr (aqF hb r h0)]
 refine ahd (amy (show r<=1000 by omega)) hx dq ?_
 unfold lpl
 by_cases hlt:n < b ^ r
 ·rw [if_pos hlt,decide_eq_true hlt,if_pos rfl,pln,ajk hb r n h1 h0 hlt]
 ·rw [if_neg hlt,decide_eq_false hlt,if_neg Bool.false_ne_true]
theorem akB (H:zN=true) (h:okN u e l b=true) {r:Nat}{n:Int} (h1:1<=r) (h4:r<=4) (h0:0<=n) (h9:n<=99999) (hn:b ^ r<=n):Je [jl u e l b,.int (r:Int),.int n]=none/\aaR [jl u e l b,.int (r:Int),.int n]=some ("TooGreat":Str):=by
 have g:=aih h h1 h4 h0 hn
 have x:=aip h h1 h4 h0 hn
 have ga:=Z0 H h (r:=(r:Int)) (n:=n) (by omega) (by omega) h0 h9
 have hM:=amn H h
 have ta:zF [jl u e l b,.int (r:Int),.int n]=none:=by
  obtain ⟨q1,q2⟩:=ajh (i:=(r:Int)) (by omega)
  obtain ⟨q3,q4⟩:=aqq (i:=n) ⟨h0,h9⟩
  have q5:=Qv hM
  have q6:=abA hM
  generalize jl u e l b=M at*
  generalize PyData.int (r:Int)=Rr at*
  generalize PyData.int n=Nn at*
  refine qi rfl ?_
  show J9.1 [some M,some Rr,some Nn]=_
  simp [J9,orX,nxX,Jr,jB,jk,ju,lkp,q1,q2,q3,q4,q5,q6]
 generalize jl u e l b=M at*
 generalize PyData.int (r:Int)=Rr at*
 generalize PyData.int n=Nn at*
 constructor
 ·refine ajg rfl ?_
  show ZQ.1 [some M,some Rr,some Nn]=none
  dsimp? [ZQ,ga,g]
 ·refine qi rfl ?_
  show ZT.1 [some M,some Rr,some Nn]=_
  simp [ZT,orX,nxX,Jr,jB,jk,ju,lkp,ga,ta,x]
theorem aex (H:zN=true) (h:okN u e l b=true) {r:Nat}{n:Int} (h1:1<=r) (h4:r<=4) (h0:0<=n) (h9:n<=99999):jM [.int 3,jl u e l b,.int (r:Int),.int n]=some (lpl (jl u e l b) b r n):=by
 unfold lpl
 by_cases hlt:n < b ^ r
 ·rw [if_pos hlt]; exact arI (aib H h h1 h4 h0 hlt)
 ·rw [if_neg hlt]
  obtain ⟨g,x⟩:=akB H h h1 h4 h0 h9 (by omega)
  exact amN g x afL afK
theorem amT (m:PyData) (b:Int) (r:Nat) (n:Int):dNe (lpl m b r n) (lpl m b r n)=some (.bool false):=by
 unfold lpl
 split
 ·rw [aoi]; simp
 ·kernel_rfl
end
noncomputable def Ja (R:List (Int × Int)) (A:SL):SL:=A.flatMap fun s=>R.map fun p=>s++[p]
noncomputable def Zs (u l:Int):Nat->SL
 | 0=>[[]]
 | k+1=>Ja (rp u l) (Zs u l k)
theorem ahe (R:List (Int × Int)):∀ A:SL,(Ja R A).length=A.length*R.length
 | []=>by simp [Ja]
 | s::A=>by
  have:=ahe R A
  unfold Ja at*
  rw [List.flatMap_cons,List.length_append,this,List.length_map,List.length_cons,Nat.succ_mul]
  omega
theorem amU (s:List (Int × Int)) (p:Int × Int) (hl:s.length < 100):qV (jH s) (.tuple [pr p])=some (jH (s++[p])):=by
 have:=afE (xs:=s.map pr) (ys:=[pr p]) (.inr trivial) (by rw [List.length_map]; simp; omega)
 unfold jH
 rw [List.map_append]
 exact this
theorem amV (s:List (Int × Int)) (hl:s.length < 100) (R:List (Int × Int)):jS (jA 0) zW (op2 qV (lkp 1) (zG (jk (lkp 0) ju))) (R.map pr) [none,some (jH s)]=some ((R.map fun p=>s++[p]).map jH):=by
 have:=aa5 (τ:=[some (jH s)]) (fun _=>true) (fun p=>jH (s++[p])) (ft:=zW) (fe:=op2 qV (lkp 1) (zG (jk (lkp 0) ju))) (fun p=>rfl) (fun p=>by
  have f1:few [pr p]=true:=qN (by simp)
  dsimp? [f1,amU s p hl]) R none
 rw [this,List.filter_eq_self.mpr fun _ _=>rfl,List.map_map]
 rfl
theorem ajl {xs ys:List PyData} (h:xs.length+ys.length < 100000):qV (.list xs) (.list ys)=some (.list (xs++ys)):=by
 show (if few (xs++ys)=true then some (PyData.list (xs++ys)) else none)=_
 rw [if_pos (adw (by rw [List.length_append]; omega))]
section
variable {u e l b:Int}
theorem aoU (h:okN u e l b=true) {R F k:Option PyData}{acc:SL}{s:List (Int × Int)} (hs:s.length < 100) (ha:acc.length < 90000):afu.1 [some (jl u e l b),R,F,k,some (eS acc),some (jH s)]=some (.nx [some (jl u e l b),R,F,k,some (eS (acc++(rp u l).map fun p=>s++[p])),some (jH s)]):=by
 obtain ⟨a1,a2,a3,a4,a5,a6,a7,a8,a9,a10⟩:=jF h
 have lr:=abB (e:=e) (b:=b) a1 (show u < 50 by omega) (show 0<=l by omega) (show l < 50 by omega)
 have fw:=Zp (u:=u) (l:=l) (by omega) (by omega)
 rw [aa0] at lr fw
 have rc:=amV s hs (rp u l)
 have h48:=aao h
 have ad:qV (eS acc) (.list (((rp u l).map fun p=>s++[p]).map jH))=some (eS (acc++(rp u l).map fun p=>s++[p])):=by
  unfold eS
  rw [List.map_append]
  exact ajl (by simp only [List.length_map]; omega)
 generalize jl u e l b=M at*
 generalize jH s=S at*
 generalize eS acc=AC at*
 dsimp? [afu,j9,itS,items,JH,List.map_cons,List.map_nil,lr,fw,rc,ad]
theorem akC (h:okN u e l b=true) {R F k:Option PyData} (A:SL):∀ (acc:SL) (x:Option PyData),(∀ s ∈ A,s.length < 100)->acc.length+A.length*(rp u l).length < 90000->∃ y,jO (jA 5) afu.1 (A.map jH) [some (jl u e l b),R,F,k,some (eS acc),x]=some (.nx [some (jl u e l b),R,F,k,some (eS (acc++Ja (rp u l) A)),y]):=by
 induction A with
 | nil=>intro acc x _ _; exact ⟨x,by simp [jO,Ja]⟩
 | cons s A ih=>
  intro acc x hA hl
  rw [List.length_cons,Nat.succ_mul] at hl
  obtain ⟨y,hy⟩:=ih (acc++(rp u l).map fun p=>s++[p]) (some (jH s)) (fun t ht=>hA t (List.mem_cons_of_mem _ ht)) (by rw [List.length_append,List.length_map]; omega)
  refine ⟨y,?_⟩
  have st:=aoU h (R:=R) (F:=F) (k:=k) (acc:=acc) (hA s List.mem_cons_self) (by omega)
  have ga:jA 5 (jH s) [some (jl u e l b),R,F,k,some (eS acc),x]=some [some (jl u e l b),R,F,k,some (eS acc),some (jH s)]:=rfl
  rw [List.map_cons]
  simp only [jO,ga,zzD,st]
  rw [hy]
  simp [Ja]
theorem Zt:∀ (k:Nat) (t:List (Int × Int)),t ∈ Zs u l k ↔ t.length=k/\t.all (okP u l)=true
 | 0,t=>by
  constructor
  ·intro ht
   rw [List.mem_singleton.mp ht]; exact ⟨rfl,rfl⟩
  ·rintro ⟨h1,_⟩
   rw [List.eq_nil_of_length_eq_zero h1]; exact List.mem_singleton.mpr rfl
 | k+1,t=>by
  show t ∈ Ja (rp u l) (Zs u l k) ↔ _
  unfold Ja
  rw [List.mem_flatMap]
  constructor
  ·rintro ⟨s,hs,ht⟩
   obtain ⟨p,hp,rfl⟩:=List.mem_map.mp ht
   obtain ⟨k1,k2⟩:=(Zt k s).mp hs
   refine ⟨by rw [List.length_append,k1]; rfl,?_⟩
   rw [List.all_append,k2]
   simp [agH hp]
  ·rintro ⟨h1,h2⟩
   have hne:t ≠ []:=fun z=>by rw [z] at h1; cases h1
   have e:=(List.dropLast_concat_getLast hne).symm
   rw [e,List.all_append,Bool.and_eq_true] at h2
   refine ⟨t.dropLast,(Zt k _).mpr ⟨by rw [List.length_dropLast,h1]; omega,h2.1⟩,List.mem_map.mpr ⟨t.getLast hne,afB (by simpa using h2.2),e.symm⟩⟩
theorem ahf (k:Nat):(Zs u l k).length=(rp u l).length ^ k:=by
 induction k with
 | zero=>rfl
 | succ k ih=>show (Ja (rp u l) (Zs u l k)).length=_; rw [ahe,ih,Nat.pow_succ]
theorem amW (h:okN u e l b=true) {R x4 x5:Option PyData}{k:PyData}{A:SL} (hA:∀ s ∈ A,s.length < 100) (hl:A.length*48 < 90000):∃ y4 y5,ade.1 [some (jl u e l b),R,some (eS A),some k,x4,x5]=some (.nx [some (jl u e l b),R,some (eS (Ja (rp u l) A)),some k,y4,y5]):=by
 have h48:=aao h
 have hm:A.length*(rp u l).length<=A.length*48:=Nat.mul_le_mul_left _ h48
 obtain ⟨y,hy⟩:=akC h (R:=R) (F:=some (eS A)) (k:=some k) A [] x5 hA (by simp; omega)
 rw [List.nil_append] at hy
 refine ⟨some (eS (Ja (rp u l) A)),y,?_⟩
 have it:items (eS A)=some (A.map jH):=rfl
 have n0:(PyData.list [])=eS []:=rfl
 simp only [ade]
 refine (jz (ρ1:=[some (jl u e l b),R,some (eS A),some k,some (eS []),x5]) rfl).trans ?_
 refine (jz (ρ1:=[some (jl u e l b),R,some (eS A),some k,some (eS (Ja (rp u l) A)),y]) ?_).trans ?_
 ·generalize jl u e l b=M at*
  generalize hq:eS A=Q at*
  dsimp? [zR,itS,it]
  exact hy
 generalize jl u e l b=M at*
 generalize eS (Ja (rp u l) A)=Q at*
 generalize eS A=Q2 at*
 dsimp? [zzA]
theorem akD {M Q:PyData}{rr:Int}{RR:List PyData}{y3 y4 y5:Option PyData} (rg:acE [.int rr]=some RR) (lp:jO (jA 3) ade.1 RR [some M,some (.int rr),some (.list [.tuple []]),none,none,none]=some (.nx [some M,some (.int rr),some Q,y3,y4,y5])):agv [M,.int rr]=some Q:=by
 refine jY rfl ?_
 show ai2.1 [some M,some (.int rr),none,none,none,none]=_
 simp only [ai2]
 refine (jz (ρ1:=[some M,some (.int rr),some (.list [.tuple []]),none,none,none]) rfl).trans ?_
 refine (jz (ρ1:=[some M,some (.int rr),some Q,y3,y4,y5]) ?_).trans ?_
 ·dsimp? [zR,rg]
  exact lp
 dsimp? [zzA]
theorem aoV (h:okN u e l b=true) (j:Nat) (hj:j < 2):(Zs u l j).length*48 < 90000:=by
 have h48:=aao h
 rw [ahf]
 generalize (rp u l).length=k at*
 rcases (show j=0 ∨ j=1 by omega) with rfl | rfl
 ·rw [Nat.pow_zero]; omega
 ·rw [Nat.pow_one]; omega
theorem amX (h:okN u e l b=true) {r:Nat} (hr:r<=2):agv [jl u e l b,.int (r:Int)]=some (eS (Zs u l r)):=by
 obtain ⟨ρ',lp,y3,y4,y5,e'⟩:=Qw (ga:=jA 3) (F:=ade.1) (fun i ρ=>∃ y3 y4 y5,ρ=[some (jl u e l b),some (.int (r:Int)),some (eS (Zs u l i)),y3,y4,y5]) (zQ 0 r) 0
  [some (jl u e l b),some (.int (r:Int)),some (.list [.tuple []]),none,none,none] ⟨none,none,none,rfl⟩ (fun j d ρ hd hi=>by
   obtain ⟨hj,rfl⟩:=agJ hd
   obtain ⟨x3,x4,x5,rfl⟩:=hi
   rw [Nat.zero_add]
   obtain ⟨y4,y5,st⟩:=amW h (R:=some (.int (r:Int))) (x4:=x4) (x5:=x5) (k:= .int (j:Int)) (A:=Zs u l j) (fun s hs=>by have:=((Zt j s).mp hs).1; omega) (aoV h j (by omega))
   exact ⟨_,_,rfl,st,_,_,_,rfl⟩)
 rw [adl,Nat.zero_add] at e'
 subst e'
 exact akD (amy (by omega)) lp
theorem JG (p:Int × Int):∀ s:List (Int × Int),jN (s++[p])=jN s*1000000+(p.1*1000+p.2)
 | []=>by simp [jN]
 | q::s=>by
  have ih:=JG p s
  rw [List.cons_append]
  simp only [jN,ih,List.length_append,List.length_singleton,Int.pow_succ]
  generalize q.1*1000+q.2=A
  generalize (1000000:Int) ^ s.length=P
  rw [Int.add_mul,Int.mul_assoc]
  omega
theorem aqG (u l:Int):(rp u l).Pairwise aiq:=abE _ _
theorem ajm (h:okN u e l b=true):∀ k:Nat,(Zs u l k).Pairwise fun a b=>jN a < jN b
 | 0=>List.pairwise_singleton _ _
 | k+1=>by
  obtain ⟨a1,a2,a3,a4,a5,a6,a7,a8,a9,a10⟩:=jF h
  have ih:=ajm h k
  show (Ja (rp u l) (Zs u l k)).Pairwise _
  unfold Ja
  have bd:∀ p ∈ rp u l,0<=p.1/\p.1<=3/\0<=p.2/\p.2<=11:=fun p hp=>by
   obtain ⟨q1,q2,q3,q4⟩:=qA (agH hp); omega
  refine List.pairwise_flatMap.mpr ⟨fun s _=>?_,?_⟩
  ·refine List.pairwise_map.mpr ?_
   refine List.Pairwise.imp_of_mem (fun {p q} hp hq hl=>?_) (aqG u l)
   rw [JG,JG]
   have:=bd p hp
   have:=bd q hq
   rcases hl with z | ⟨z1,z2⟩ <;> omega
  ·refine List.Pairwise.imp (fun {s t} hst x hx y hy=>?_) ih
   obtain ⟨p,hp,rfl⟩:=List.mem_map.mp hx
   obtain ⟨q,hq,rfl⟩:=List.mem_map.mp hy
   rw [JG,JG]
   have:=bd p hp
   have:=bd q hq
   omega
end
theorem ajn (f:List (Int × Int)->Int):∀ (A B:SL),A.Pairwise (fun a b=>f a < f b)->B.Pairwise (fun a b=>f a < f b)->(∀ x,x ∈ A ↔ x ∈ B)->A=B
 | [],[],_,_,_=>rfl
 | [],b::B,_,_,h=>nomatch (h b).mpr List.mem_cons_self
 | a::A,[],_,_,h=>nomatch (h a).mp List.mem_cons_self
 | a::A,b::B,h1,h2,h=>by
  obtain ⟨p1,p2⟩:=List.pairwise_cons.mp h1
  obtain ⟨q1,q2⟩:=List.pairwise_cons.mp h2
  have e:a=b:=by
   rcases List.mem_cons.mp ((h a).mp List.mem_cons_self) with z | z
   ·exact z
   ·rcases List.mem_cons.mp ((h b).mpr List.mem_cons_self) with w | w
    ·exact w.symm
    ·have:=q1 a z; have:=p1 b w; omega
  subst e
  rw [ajn f A B p2 q2 fun x=>?_]
  constructor
  ·intro hx
   rcases List.mem_cons.mp ((h x).mp (List.mem_cons_of_mem _ hx)) with z | z
   ·have:=p1 x hx; rw [z] at this; omega
   ·exact z
  ·intro hx
   rcases List.mem_cons.mp ((h x).mpr (List.mem_cons_of_mem _ hx)) with z | z
   ·have:=q1 x hx; rw [z] at this; omega
   ·exact z
theorem abT:∀ (A B:SL),PyData.eqvAll (A.map jH) (B.map jH)=decide (A=B)
 | [],[]=>by simp [PyData.eqvAll]
 | [],b::B=>by simp [PyData.eqvAll]
 | a::A,[]=>by simp [PyData.eqvAll]
 | a::A,b::B=>by
  simp only [List.map_cons,PyData.eqvAll,agC,abT A B]
  by_cases h:a=b <;> by_cases h':A=B <;> simp [h,h']
theorem afN (A:SL):okD (eS A)=true:=aqs (n:=4) (aoy.mpr fun d hd=>by obtain ⟨t,_,rfl⟩:=List.mem_map.mp hd; exact aoA t) (by omega)
theorem amY (A B:SL):PyData.eqv (eS A) (eS B)=decide (A=B):=by
 unfold eS PyData.eqv
 exact abT A B
theorem apk (A B:SL):dNe (eS A) (eS B)=some (.bool (!decide (A=B))):=by
 show (if okD (eS A)=true/\okD (eS B)=true then some (PyData.bool (!PyData.eqv (eS A) (eS B))) else none)=_
 rw [if_pos ⟨afN A,afN B⟩,amY]
theorem arL (A B:SL):dEq (eS A) (eS B)=some (.bool (decide (A=B))):=by
 show (if okD (eS A)=true/\okD (eS B)=true then some (PyData.bool (PyData.eqv (eS A) (eS B))) else none)=_
 rw [if_pos ⟨afN A,afN B⟩,amY]
theorem fw5 {a b c d e:PyData}:few [a,b,c,d,e]=true:=aqr (by simp)
theorem rg4:acE [.int 4]=some [.int 0,.int 1,.int 2,.int 3]:=by kernel_rfl
theorem arM:aiS (.list [.tuple [.str "refused",.int 2]]) (.int 4)=some (.list [rfd 2,rfd 2,rfd 2,rfd 2]):=by kernel_rfl
theorem aso:aiS (.list [.tuple [.str "refused",.int 0]]) (.int 4)=some (.list [rfd 0,rfd 0,rfd 0,rfd 0]):=by kernel_rfl
theorem arN:dNe (.list [rfd 2,rfd 2,rfd 2,rfd 2]) (.list [rfd 2,rfd 2,rfd 2,rfd 2])=some (.bool false):=by kernel_rfl
theorem asp:dEq (.list [rfd 0,rfd 0,rfd 0,rfd 0]) (.list [rfd 0,rfd 0,rfd 0,rfd 0])=some (.bool true):=by kernel_rfl
theorem amZ {S M ML RL ROWS T P1 P2 LBd SM ODD BAD:PyData}{rs due sums:List PyData}{k w rr k2 q2 v q3 off n c mm q4 q5:Int}{B1 B2:Bool}
  (d0:ZR [S,.int 0]=some M) (lr:aan [M]=some RL) (ln:abZ [RL]=some (.int k)) (di:afa [.bool (decide (k < 20))]=some (.int w)) (d1:JD [S,.int 10,.int (1+w)]=some (.int (rr - 1)))
  (la:agv [M,.int rr]=some ROWS) (ln2:abZ [ROWS]=some (.int k2)) (d2:JD [S,.int 11,.int k2]=some (.int q2)) (ix:dIx ROWS (.int q2)=some T) (lv:QN [M,T]=some (.int v)) (d3:JD [S,.int 12,.int 4]=some (.int q3)) (ix3:dIx (.list [.int 0,.int 0,.int 1,.int 40]) (.int q3)=some (.int off)) (hn:v+off=n)
  (it:items ROWS=some rs) (fr:few rs=true) (cp:jS (jA 0) (tst (op2 dEq (jB QN (jk (lkp 2) (jk (lkp 0) ju))) (lkp 1))) (lkp 0) rs [none,some (.int n),some M]=some due) (fd:few due=true) (t0:jM [.int 0,M,.int rr,.int n]=some (.list due)) (ne0:dNe (.list due) (.list due)=some (.bool false)) (t1:jM [.int 1,M,.int rr,.int n]=some (.int c)) (lnd:abZ [.list due]=some (.int c))
  (cs:jS (jA 0) zW (jB Q6 (jk (j9 (itS (lkp 0)) [none] (jA 0) zW (jB Q6 (jk (lkp 0) ju))) ju)) due [none]=some sums) (fs:few sums=true) (t2:jM [.int 2,M,.int rr,.int n]=some LBd) (ad:qV (.list sums) (.list [.int 999])=some SM) (mn:ad4 (fun i j=>decide (i < j)) [SM]=some (.int mm)) (nb:dNe LBd (.int mm)=some (.bool B1)) (nd:dNe (.list due) (.list [])=some (.bool B2)) (hB:B1=true->B2=false) (eq:dEq (.list due) (.list [])=some (.bool (!B2))) (nn:B2=false->aiR LBd .none=some (.bool false))
  (t3:jM [.int 3,M,.int rr,.int n]=some P1) (p1:ZW [M,.int rr,.int n]=some P1) (np1:dNe P1 P1=some (.bool false)) (t4:jM [.int 3,M,.int 4,.int n]=some P2) (p2:ZW [M,.int 4,.int n]=some P2) (np2:dNe P2 P2=some (.bool false))
  (d4:JD [S,.int 13,.int 5]=some (.int q4)) (ix4:dIx (.list [.int (-1),.int 100000,.none,.bool true,.str "7"]) (.int q4)=some ODD) (d5:JD [S,.int 14,.int 5]=some (.int q5)) (ix5:dIx (.list [.int 0,.int 5,.none,.bool true,.str "1"]) (.int q5)=some BAD)
  (o:jM [.int 0,M,.int rr,ODD]=some (rfd 2)/\jM [.int 1,M,.int rr,ODD]=some (rfd 2)/\jM [.int 2,M,.int rr,ODD]=some (rfd 2)/\jM [.int 3,M,.int rr,ODD]=some (rfd 2))
  (bb:jM [.int 0,M,BAD,.int n]=some (rfd 2)/\jM [.int 1,M,BAD,.int n]=some (rfd 2)/\jM [.int 2,M,BAD,.int n]=some (rfd 2)/\jM [.int 3,M,BAD,.int n]=some (rfd 2))
  (ml:ae1 [M]=some ML) (mm0:jM [.int 0,ML,BAD,ODD]=some (rfd 0)/\jM [.int 1,ML,BAD,ODD]=some (rfd 0)/\jM [.int 2,ML,BAD,ODD]=some (rfd 0)/\jM [.int 3,ML,BAD,ODD]=some (rfd 0)):
  amf.1 [some S,none,none,none,none,none,none,none,none]=some (.rt (.bool true)):=by
 have lt:Qg (fun i j=>decide (i < j)) (.int k) (.int 20)=some (.bool (decide (k < 20))):=rfl
 have a1:qV (.int 1) (.int w)=some (.int (1+w)):=rfl
 have a2:qV (.int 1) (.int (rr - 1))=some (.int rr):=by show some (PyData.int (1+(rr - 1)))=_; rw [show 1+(rr - 1)=rr by omega]
 have a3:qV (.int v) (.int off)=some (.int n):=by show some (PyData.int (v+off))=_; rw [hn]
 have nc:dNe (.int c) (.int c)=some (.bool false):=by rw [amD]; simp
 have ng:ajN (.int 1)=some (.int (-1)):=rfl
 obtain ⟨o0,o1,o2,o3⟩:=o
 obtain ⟨b0,b1,b2,b3⟩:=bb
 obtain ⟨m0,m1,m2,m3⟩:=mm0
 simp only [amf]
 refine (jz (ρ1:=[some S,some (M),none,none,none,none,none,none,none]) ?_).trans ?_
 ·dsimp? [d0]
 refine (jz (ρ1:=[some S,some (M),some (.int rr),none,none,none,none,none,none]) ?_).trans ?_
 ·dsimp? [lr,ln,lt,di,a1,d1,a2]
 refine (jz (ρ1:=[some S,some (M),some (.int rr),some (ROWS),none,none,none,none,none]) ?_).trans ?_
 ·dsimp? [la]
 refine (jz (ρ1:=[some S,some (M),some (.int rr),some (ROWS),some (.int n),none,none,none,none]) ?_).trans ?_
 ·dsimp? [ln2,d2,ix,lv,d3,ix3,a3]
 refine (jz (ρ1:=[some S,some (M),some (.int rr),some (ROWS),some (.int n),some (.list due),none,none,none]) ?_).trans ?_
 ·dsimp? [j9,itS,JH,List.map_cons,List.map_nil,it,fr,cp,fd]
 refine (jz (ρ1:=[some S,some (M),some (.int rr),some (ROWS),some (.int n),some (.list due),none,none,none]) ?_).trans ?_
 ·dsimp? [t0,ne0,t1,lnd,nc]
 refine (jz (ρ1:=[some S,some (M),some (.int rr),some (ROWS),some (.int n),some (.list due),some (.list sums),none,none]) ?_).trans ?_
 ·have it2:items (.list due)=some due:=rfl
  dsimp? [j9,itS,JH,List.map_cons,List.map_nil,it2,fd,cs,fs]
 refine (jz (ρ1:=[some S,some (M),some (.int rr),some (ROWS),some (.int n),some (.list due),some (.list sums),none,none]) ?_).trans ?_
 ·cases B1 with
  | false=>dsimp? [t2,ad,mn,nb]
  | true=>
   rw [hB rfl] at nd
   dsimp? [QQ,t2,ad,mn,nb,nd]
 refine (jz (ρ1:=[some S,some (M),some (.int rr),some (ROWS),some (.int n),some (.list due),some (.list sums),none,none]) ?_).trans ?_
 ·cases B2 with
  | true=>dsimp? [QQ,eq]
  | false=>
   have nn:=nn rfl
   dsimp? [QQ,eq,t2,nn]
 refine (jz (ρ1:=[some S,some (M),some (.int rr),some (ROWS),some (.int n),some (.list due),some (.list sums),none,none]) ?_).trans ?_
 ·dsimp? [t3,p1,np1]
 refine (jz (ρ1:=[some S,some (M),some (.int rr),some (ROWS),some (.int n),some (.list due),some (.list sums),none,none]) ?_).trans ?_
 ·dsimp? [t4,p2,np2]
 refine (jz (ρ1:=[some S,some (M),some (.int rr),some (ROWS),some (.int n),some (.list due),some (.list sums),some (ODD),none]) ?_).trans ?_
 ·dsimp? [ng,fw5,d4,ix4]
 refine (jz (ρ1:=[some S,some (M),some (.int rr),some (ROWS),some (.int n),some (.list due),some (.list sums),some (ODD),some (BAD)]) ?_).trans ?_
 ·dsimp? [d5,ix5]
 refine (jz (ρ1:=[some S,some (M),some (.int rr),some (ROWS),some (.int n),some (.list due),some (.list sums),some (ODD),some (BAD)]) ?_).trans ?_
 ·dsimp? [j9,jS,zW,JH,List.map_cons,List.map_nil,rg4,fw4,o0,o1,o2,o3,arM,arN]
 refine (jz (ρ1:=[some S,some (M),some (.int rr),some (ROWS),some (.int n),some (.list due),some (.list sums),some (ODD),some (BAD)]) ?_).trans ?_
 ·dsimp? [j9,jS,zW,JH,List.map_cons,List.map_nil,rg4,fw4,b0,b1,b2,b3,arM,arN]
 dsimp? [j9,jS,zW,JH,List.map_cons,List.map_nil,rg4,fw4,ml,m0,m1,m2,m3,aso,asp]
section
variable {u e l b:Int}
theorem am0 (h:okN u e l b=true) {n:Int} (A:SL):jS (jA 0) (tst (op2 dEq (jB QN (jk (lkp 2) (jk (lkp 0) ju))) (lkp 1))) (lkp 0) (A.map jH) [none,some (.int n),some (jl u e l b)]=some ((A.filter fun t=>decide (val b e t=n)).map jH):=by
 have q:∀ (A:SL) (x:Option PyData),jS (jA 0) (tst (op2 dEq (jB QN (jk (lkp 2) (jk (lkp 0) ju))) (lkp 1))) (lkp 0) (A.map jH) [x,some (.int n),some (jl u e l b)]=some ((A.filter fun t=>decide (val b e t=n)).map jH):=by
  intro A
  induction A with
  | nil=>intro x; rfl
  | cons t A ih=>
   intro x
   have g:=adt h t
   have ih:=ih (some (jH t))
   have dq:=acn (val b e t) n
   rw [List.map_cons]
   generalize hM:jl u e l b=M at*
   generalize hT:jH t=Z at*
   dsimp? [jS,g,dq,ih]
   by_cases hp:val b e t=n
   ·simp [hp,List.filter_cons,hT]
   ·simp [hp,List.filter_cons]
 exact q A none
theorem ahg (s:List (Int × Int)):∀ x:Option PyData,jS (jA 0) zW (jB Q6 (jk (lkp 0) ju)) (s.map pr) [x]=some (s.map fun p=> .int (bdP p)):=by
 induction s with
 | nil=>intro x; rfl
 | cons p s ih=>
  intro x
  have ih:=ih (some (pr p))
  have g:=amP p
  rw [List.map_cons]
  generalize pr p=Z at*
  dsimp? [jS,zW,g,ih,List.map_cons]
theorem am1 (ns:List Int):Q6 [.list (ns.map .int)]=some (.int ns.sum):=by
 show (zp (ns.map PyData.int)).map _=_
 rw [ads]
 rfl
theorem am2 (A:SL) (hA:∀ t ∈ A,t.length < 100):jS (jA 0) zW (jB Q6 (jk (j9 (itS (lkp 0)) [none] (jA 0) zW (jB Q6 (jk (lkp 0) ju))) ju)) (A.map jH) [none]=some ((A.map bds).map .int):=by
 have q:∀ (A:SL),(∀ t ∈ A,t.length < 100)->∀ (x:Option PyData),jS (jA 0) zW (jB Q6 (jk (j9 (itS (lkp 0)) [none] (jA 0) zW (jB Q6 (jk (lkp 0) ju))) ju)) (A.map jH) [x]=some ((A.map bds).map .int):=by
  intro A
  induction A with
  | nil=>intro _ x; rfl
  | cons t A ih=>
   intro hA x
   have ih:=ih (fun s hs=>hA s (List.mem_cons_of_mem _ hs)) (some (jH t))
   have g:=ahg t none
   have sm:=am1 (t.map bdP)
   have it:items (jH t)=some (t.map pr):=rfl
   have hb:(t.map bdP).sum=bds t:=rfl
   rw [hb,List.map_map] at sm
   have f1:few (t.map pr)=true:=qN (by rw [List.length_map]; have:=hA t List.mem_cons_self; omega)
   have f2:few (t.map fun p=>PyData.int (bdP p))=true:=qN (by rw [List.length_map]; have:=hA t List.mem_cons_self; omega)
   have e2:(PyData.int ∘ bdP)=fun p=>PyData.int (bdP p):=rfl
   rw [e2] at sm
   rw [List.map_cons,List.map_cons,List.map_cons]
   generalize jH t=Z at*
   generalize (t.map fun p=>PyData.int (bdP p))=ZZ at*
   dsimp? [jS,zW,j9,itS,JH,List.map_cons,List.map_nil,it,f1,f2,g,sm,ih]
 exact q A hA none
end
theorem afO (ds:List PyData):abZ [.list ds]=some (.int (ds.length:Int)):=rfl
section
variable {u e l b:Int}
theorem am3 (h:okN u e l b=true):∀ t:List (Int × Int),t.all (okP u l)=true->bds t<=14*(t.length:Int)
 | [],_=>by simp [bds]
 | p::t,hp=>by
  obtain ⟨a1,a2,a3,a4,a5,a6,a7,a8,a9,a10⟩:=jF h
  rw [List.all_cons,Bool.and_eq_true] at hp
  have ih:=am3 h t hp.2
  obtain ⟨q1,q2,q3,q4⟩:=qA hp.1
  rw [aa3,List.length_cons]
  unfold bd
  omega
theorem aqH (H:zN=true) (h:okN u e l b=true) {d n:PyData} (hd:noD d=true) (w:whB 1 4 d=false):
  jM [.int 0,jl u e l b,d,n]=some (rfd 2)/\jM [.int 1,jl u e l b,d,n]=some (rfd 2)/\jM [.int 2,jl u e l b,d,n]=some (rfd 2)/\jM [.int 3,jl u e l b,d,n]=some (rfd 2):=by
 have hM:=amn H h
 obtain ⟨g,x⟩:=aox hd w
 obtain ⟨g2,x2⟩:=aoM (n:=n) (Qv hM) (abA hM) g x
 exact aio g2 x2 aa7 aa6
theorem aqI (H:zN=true) (h:okN u e l b=true) {r:Int} (hr:1<=r/\r<=4) {d:PyData} (hd:noD d=true) (w:whB 0 99999 d=false):
  jM [.int 0,jl u e l b,.int r,d]=some (rfd 2)/\jM [.int 1,jl u e l b,.int r,d]=some (rfd 2)/\jM [.int 2,jl u e l b,.int r,d]=some (rfd 2)/\jM [.int 3,jl u e l b,.int r,d]=some (rfd 2):=by
 have hM:=amn H h
 obtain ⟨g,x⟩:=aqp hd w
 obtain ⟨g1,x1⟩:=ajh (i:=r) hr
 obtain ⟨g2,x2⟩:=aoN (Qv hM) (abA hM) g1 x1 g x
 exact aio g2 x2 aa7 aa6
theorem aoW (u e l b:Int) (r n:PyData):jM [.int 0,.list [.int u,.int e,.int l,.int b],r,n]=some (rfd 0)/\jM [.int 1,.list [.int u,.int e,.int l,.int b],r,n]=some (rfd 0)/\jM [.int 2,.list [.int u,.int e,.int l,.int b],r,n]=some (rfd 0)/\jM [.int 3,.list [.int u,.int e,.int l,.int b],r,n]=some (rfd 0):=by
 have hM:qx [.list [.int u,.int e,.int l,.int b]]=some (.bool false):=rfl
 obtain ⟨g2,x2⟩:=aoL (r:=r) (n:=n) (akn hM) (ako hM)
 exact aio g2 x2 afJ afI
theorem aoX (q:Int) (h0:0<=q) (h5:q < 5):∃ d,dIx (.list [.int (-1),.int 100000,.none,.bool true,.str "7"]) (.int q)=some d/\noD d=true/\whB 0 99999 d=false:=by
 rcases (show q=0 ∨ q=1 ∨ q=2 ∨ q=3 ∨ q=4 by omega) with rfl | rfl | rfl | rfl | rfl
 ·exact ⟨_,rfl,rfl,rfl⟩
 ·exact ⟨_,rfl,rfl,rfl⟩
 ·exact ⟨_,rfl,rfl,rfl⟩
 ·exact ⟨_,rfl,rfl,rfl⟩
 ·exact ⟨_,rfl,rfl,rfl⟩
theorem aoY (q:Int) (h0:0<=q) (h5:q < 5):∃ d,dIx (.list [.int 0,.int 5,.none,.bool true,.str "1"]) (.int q)=some d/\noD d=true/\whB 1 4 d=false:=by
 rcases (show q=0 ∨ q=1 ∨ q=2 ∨ q=3 ∨ q=4 by omega) with rfl | rfl | rfl | rfl | rfl
 ·exact ⟨_,rfl,rfl,rfl⟩
 ·exact ⟨_,rfl,rfl,rfl⟩
 ·exact ⟨_,rfl,rfl,rfl⟩
 ·exact ⟨_,rfl,rfl,rfl⟩
 ·exact ⟨_,rfl,rfl,rfl⟩
theorem aoZ (q:Int) (h0:0<=q) (h5:q < 4):∃ d:Int,dIx (.list [.int 0,.int 0,.int 1,.int 40]) (.int q)=some (.int d)/\0<=d/\d<=40:=by
 rcases (show q=0 ∨ q=1 ∨ q=2 ∨ q=3 by omega) with rfl | rfl | rfl | rfl
 ·exact ⟨_,rfl,by decide,by decide⟩
 ·exact ⟨_,rfl,by decide,by decide⟩
 ·exact ⟨_,rfl,by decide,by decide⟩
 ·exact ⟨_,rfl,by decide,by decide⟩
theorem aqJ (h:okN u e l b=true) {r:Nat} (hr:1<=r) {n:Int}{L:SL} (mem:∀ t,t ∈ L ↔ t.length=r/\t.all (okP u l)=true/\val b e t=n) (nd:L.Nodup) (so:L.Pairwise (fun a b=>jN a<=jN b)):(Zs u l r).filter (fun t=>decide (val b e t=n))=L:=by
 refine ajn jN _ L ((ajm h r).filter _) ?_ fun t=>?_
 ·refine List.Pairwise.imp_of_mem (fun {s t} hs ht z=>?_) (so.and nd)
  obtain ⟨k1,k2,_⟩:=(mem s).mp hs
  obtain ⟨m1,m2,_⟩:=(mem t).mp ht
  have i1:=aij h hr k1 k2
  have i2:=aij h hr m1 m2
  simp only [inS,Bool.and_eq_true,decide_eq_true_eq] at i1 i2
  rcases Int.lt_or_le (jN s) (jN t) with w | w
  ·exact w
  ·exact absurd (abi (by omega) i1.2 i2.2 (Int.le_antisymm z.1 w)) z.2
 ·rw [List.mem_filter,Zt,mem t]
  simp [and_assoc]
end
theorem akE (H:zN=true) (ns:List Int) (hn:ns.length < 1000000):aof [scr ns]=some (.bool true):=by
 obtain ⟨u,e,l,b,d0,om⟩:=ah8 ns hn 0 (by omega)
 have h:=aog om
 obtain ⟨a1,a2,a3,a4,a5,a6,a7,a8,a9,a10⟩:=jF h
 have lr:=abB (e:=e) (b:=b) a1 (show u < 50 by omega) (show 0<=l by omega) (show l < 50 by omega)
 have hk:((jy u l).length:Int)=(u+1)*(l+1):=by
  unfold jy
  rw [Qo,Int.natCast_mul,show (((u+1).toNat:Nat):Int)=u+1 by omega,show (((l+1).toNat:Nat):Int)=l+1 by omega]
 have hw:∃ w:Int,afa [.bool (decide (((jy u l).length:Int) < 20))]=some (.int w)/\0<=w/\w<=1/\(w=1->(u+1)*(l+1) < 20):=by
  rw [hk]
  by_cases c:(u+1)*(l+1) < 20
  ·exact ⟨1,by rw [decide_eq_true c]; rfl,by omega,by omega,fun _=>c⟩
  ·exact ⟨0,by rw [decide_eq_false c]; rfl,by omega,by omega,fun z=>by omega⟩
 obtain ⟨w,di,w0,w1,w2⟩:=hw
 obtain ⟨q1,d1,q10,q11⟩:=qK ns hn 10 (1+w) (by omega) (by omega)
 obtain ⟨r,hr⟩:∃ r:Nat,(r:Int)=q1+1:=⟨(q1+1).toNat,by omega⟩
 have r1:1<=r:=by omega
 have r2:r<=2:=by omega
 have la:=amX h r2
 have h48:=aao h
 have hpos:1<=(rp u l).length:=by
  have:((0:Int),(0:Int)) ∈ rp u l:=afB (by simp [okP]; omega)
  exact List.length_pos_of_mem this
 have hal:(Zs u l r).length < 9000/\1<=(Zs u l r).length:=by
  rw [ahf]
  rcases (show r=1 ∨ r=2 by omega) with rfl | rfl
  ·rw [Nat.pow_one]; omega
  ·rw [Nat.pow_two]
   have:(rp u l).length*(rp u l).length<=48*48:=Nat.mul_le_mul h48 h48
   have:1*1<=(rp u l).length*(rp u l).length:=Nat.mul_le_mul hpos hpos
   omega
 obtain ⟨q2,d2,q20,q21⟩:=qK ns hn 11 (((Zs u l r).map jH).length:Int) (by omega) (by rw [List.length_map]; omega)
 obtain ⟨T,ix,hT⟩:=aqu (ds:=(Zs u l r).map jH) q20 q21 (by rw [List.length_map]; omega)
 obtain ⟨t,ht,rfl⟩:=List.mem_map.mp hT
 obtain ⟨tl,tp⟩:=(Zt r t).mp ht
 obtain ⟨q3,d3,q30,q31⟩:=qK ns hn 12 4 (by omega) (by omega)
 obtain ⟨off,ix3,o0,o1⟩:=aoZ q3 q30 q31
 have v0:=aqk (e:=e) h tp
 have vb:=aqE (e:=e) h tp
 have p16:(2:Int)*16 ^ t.length<=512:=by
  rw [tl]
  rcases (show r=1 ∨ r=2 by omega) with rfl | rfl <;> decide
 obtain ⟨n,hnv⟩:∃ n,val b e t+off=n:=⟨_,rfl⟩
 have n0:0<=n:=by omega
 have n9:n<=99999:=by omega
 have hC:CN u e l b r n < 64:=by
  rcases (show r=1 ∨ r=2 by omega) with z | z
  ·rw [z]; have:=aev (e:=e) h n; omega
  ·rw [z]; exact akz h (w2 (by omega)) n
 obtain ⟨L,gA,mem,len,nd,so⟩:=ail H h r1 (by omega) n0 n9 hC
 have de:=aqJ h r1 mem nd so
 have L64:L.length < 64:=by omega
 have cp:=am0 h (n:=n) (Zs u l r)
 rw [de] at cp
 have cs:=am2 L fun s hs=>by have:=((mem s).mp hs).1; omega
 obtain ⟨q4,d4,q40,q41⟩:=qK ns hn 13 5 (by omega) (by omega)
 obtain ⟨ODD,ix4,od1,od2⟩:=aoX q4 q40 q41
 obtain ⟨q5,d5,q50,q51⟩:=qK ns hn 14 5 (by omega) (by omega)
 obtain ⟨BAD,ix5,ba1,ba2⟩:=aoY q5 q50 q51
 have t0:=arF gA
 have t1:=arG (aov H h r1 (by omega) n0 n9)
 have t2:=arH (akk H h r1 (by omega) n0 n9)
 have lnd:abZ [.list (L.map jH)]=some (.int (CN u e l b r n)):=by rw [afO,List.length_map,len]
 have ad:qV (.list ((L.map bds).map .int)) (.list [.int 999])=some (.list ((L.map bds++[999]).map .int)):=by
  rw [List.map_append]
  exact ajl (by simp only [List.length_map]; simp; omega)
 have hmin:∃ (mm:Int) (B1 B2:Bool),ad4 (fun i j=>decide (i < j)) [.list ((L.map bds++[999]).map .int)]=some (.int mm)/\dNe (ofO (LB u e l b r n)) (.int mm)=some (.bool B1)/\dNe (eS L) (eS [])=some (.bool B2)/\(B1=true->B2=false)/\dEq (eS L) (eS [])=some (.bool (!B2))/\(B2=false->aiR (ofO (LB u e l b r n)) .none=some (.bool false)):=by
  rw [apk,arL]
  by_cases hL:L=[]
  ·have hLB:LB u e l b r n=none:=by
    cases hv:LB u e l b r n with
    | none=>rfl
    | some v=>
     obtain ⟨s,s1,s2,s3,_⟩:=(ado u e l b r n).1 v hv
     have:=(mem s).mpr ⟨s1,s2,s3⟩
     rw [hL] at this
     cases this
   refine ⟨999,true,false,?_,?_,by rw [decide_eq_true hL]; rfl,fun _=>rfl,by rw [decide_eq_true hL]; rfl,fun _=>by rw [hLB]; rfl⟩
   ·rw [hL]; rfl
   ·rw [hLB]; kernel_rfl
  ·obtain ⟨s,hs⟩:=List.exists_mem_of_ne_nil L hL
   obtain ⟨k1,k2,k3⟩:=(mem s).mp hs
   obtain ⟨v,hv,_⟩:=(ado u e l b r n).2 (bds s) ⟨s,k1,k2,k3,rfl⟩
   refine ⟨v,false,true,?_,?_,by rw [decide_eq_false hL]; rfl,fun z=>(by cases z),by rw [decide_eq_false hL]; rfl,fun z=>by cases z⟩
   ·obtain ⟨s',s1,s2,s3,s4⟩:=(ado u e l b r n).1 v hv
    refine amL (List.mem_append_left _ (List.mem_map.mpr ⟨s',(mem s').mpr ⟨s1,s2,s3⟩,s4⟩)) fun x hx=>?_
    rcases List.mem_append.mp hx with z | z
    ·obtain ⟨y,hy,rfl⟩:=List.mem_map.mp z
     obtain ⟨y1,y2,y3⟩:=(mem y).mp hy
     obtain ⟨m,hm,hle⟩:=(ado u e l b r n).2 (bds y) ⟨y,y1,y2,y3,rfl⟩
     rw [hv] at hm
     cases hm
     exact hle
    ·rw [List.mem_singleton.mp z]
     have:=am3 h s' s2
     omega
   ·rw [hv]
    show dNe (.int v) (.int v)=_
    rw [amD]; simp
 obtain ⟨mm,B1,B2,mn,nb,ndd,hB,eq,nn⟩:=hmin
 refine jY rfl ?_
 show amf.1 [some (scr ns),none,none,none,none,none,none,none,none]=_
 rw [show q1=(r:Int) - 1 by omega] at d1
 exact amZ d0 lr (afO _) di d1 la (afO _) d2 ix (adt h t) d3 ix3 hnv rfl (adw (by rw [List.length_map]; omega)) cp (adw (by rw [List.length_map]; omega)) t0 (by have:=apk L L; rw [decide_eq_true rfl] at this; exact this) t1 lnd cs (adw (by simp only [List.length_map]; omega)) t2 ad mn nb ndd hB eq nn
  (aex H h r1 (by omega) n0 n9) (adB H h r1 (by omega) n0) (amT _ _ _ _) (aex H h (r:=4) (by omega) (by omega) n0 n9) (adB H h (r:=4) (by omega) (by omega) n0) (amT _ _ _ _)
  d4 ix4 d5 ix5 (aqI H h ⟨by omega,by omega⟩ od1 od2) (aqH H h ba1 ba2) rfl (aoW u e l b _ _)
end Rods
end
section
namespace BX
open PySem L2
open PyProof.Rows hiding St
theorem jW.thr {P:Program}{w:World}{K:PySem.W.Frag}{mg:Str->Option Value}{base h:Heap}{x:Str}{st:Stmt}{ps:List Str}{k n:Nat}{g:List PyData->Option Str} (T:jW K x st) (X:K.In h) (G:h.Ns mainGlobals mg)
  (pa:jt x st ps) (ok:∀ f fd,Fun K x x st f fd->FnOk P w K mg base (CXt P w) k f fd ps (ajY K mg n g)):Jd P w K mg base x ps k n g:=by
 obtain ⟨f,oc,od,an,kV,doc,pm,cdv,ct,osl,a,l,c,kp⟩:=T
 have F1:=aeK (st:=st) l c kp
 exact ⟨f,_,ok f _ F1,PySem.W.mg_of X G a,kp,F1.binds pa⟩
theorem jW.hdl {P:Program}{w:World}{K:PySem.W.Frag}{mg:Str->Option Value}{base h:Heap}{x:Str}{st:Stmt}{ps:List Str}{k n:Nat}{g:List PyData->Option PyData} (T:jW K x st) (X:K.In h) (G:h.Ns mainGlobals mg)
  (pa:jt x st ps) (ok:∀ f fd,Fun K x x st f fd->FnH P w K mg base k f fd ps (Pur K n g)):ab7 P w K mg base x ps k n g:=by
 obtain ⟨f,oc,od,an,kV,doc,pm,cdv,ct,osl,a,l,c,kp⟩:=T
 have F1:=aeK (st:=st) l c kp
 exact ⟨f,_,ok f _ F1,PySem.W.mg_of X G a,kp,F1.binds pa⟩
end BX
namespace Rods
open PySem L2 BX
open PyProof.Rows hiding St
structure Tops (K:PySem.W.Frag):Prop where
 isWhole:jW K "is_whole" aaF
 rodWorth:jW K "rod_worth" ZE
 beads:jW K "beads" afe
 allRods:jW K "all_rods" aaG
 hasAll:jW K "has_all_digits" ZF
 isManner:jW K "is_manner" ZG
 check:jW K "check_manner" ac5
 rodsWith:jW K "rods_with" Qp
 fewest:jW K "fewest_beads" ab8
 chkRods:jW K "check_rods" Jz
 chkNum:jW K "check_number" zB
 asked:jW K "check_asked" zT
 num:jW K "number_on" Jj
 full:jW K "full_rods" ZI
 last:jW K "last_rods" Jk
 digits:jW K "digits_by_rods" ZM
 plainR:jW K "plain_rods" ZL
 plainS:jW K "plain_setting" aaK
 longF:jW K "longer_fewest" Zj
 least:jW K "least_beads" aaj
 cell:jW K "_law_cell" ai0
 drawn:jW K "_law_drawn" afn
 manner:jW K "_law_manner" acb
 longer:jW K "longer_ways" JP
 how:jW K "how_many" JB
 LongerEnds:jW K "longer_ends" qo
 AllSettings:jW K "all_settings" qF
 LValue:jW K "_law_value" ZU
 LRods:jW K "_law_rods" aam
 LAll:jW K "_law_all" aaU
 LRefused:jW K "_law_refused" Jm
 LTold:jW K "_law_told" abr
 LPlain:jW K "_law_plain" JR
 law:jW K "law" adf
structure Consts (K:PySem.W.Frag) (mg:Str->Option Value):Prop where
 b:Bare mg
 least:GC K mg "LEAST_PARTS" (.tuple [.int 0,.int 1,.int 0,.int 2])
 most:GC K mg "MOST_PARTS" (.tuple [.int 3,.int 16,.int 12,.int 16])
 mostRods:GC K mg "MOST_RODS" (.int 4)
 mostNumber:GC K mg "MOST_NUMBER" (.int 99999)
 errT:ErrT K mg "BeadError" qR
theorem air:jt "is_whole" aaF ["thing","least","most"]:=fun _ _ _ _ _ _ us hl=>by obtain ⟨v0,v1,v2,rfl⟩:=aaa us hl; rfl
theorem ahh:jt "rod_worth" ZE ["manner","rod"]:=fun _ _ _ _ _ _ us hl=>by obtain ⟨v0,v1,rfl⟩:=adE us hl; rfl
theorem am4:jt "beads" afe ["rod"]:=fun _ _ _ _ _ _ us hl=>by obtain ⟨v0,rfl⟩:=adD us hl; rfl
theorem ais:jt "all_rods" aaG ["manner"]:=fun _ _ _ _ _ _ us hl=>by obtain ⟨v0,rfl⟩:=adD us hl; rfl
theorem akF:jt "has_all_digits" ZF ["manner"]:=fun _ _ _ _ _ _ us hl=>by obtain ⟨v0,rfl⟩:=adD us hl; rfl
theorem ahi:jt "is_manner" ZG ["thing"]:=fun _ _ _ _ _ _ us hl=>by obtain ⟨v0,rfl⟩:=adD us hl; rfl
theorem ahj:jt "check_manner" ac5 ["thing"]:=fun _ _ _ _ _ _ us hl=>by obtain ⟨v0,rfl⟩:=adD us hl; rfl
theorem ahk:jt "rods_with" Qp ["manner","worth"]:=fun _ _ _ _ _ _ us hl=>by obtain ⟨v0,v1,rfl⟩:=adE us hl; rfl
theorem akG:jt "fewest_beads" ab8 ["manner","worth"]:=fun _ _ _ _ _ _ us hl=>by obtain ⟨v0,v1,rfl⟩:=adE us hl; rfl
theorem adC:jt "check_rods" Jz ["rods"]:=fun _ _ _ _ _ _ us hl=>by obtain ⟨v0,rfl⟩:=adD us hl; rfl
theorem aey:jt "check_number" zB ["number"]:=fun _ _ _ _ _ _ us hl=>by obtain ⟨v0,rfl⟩:=adD us hl; rfl
theorem ahl:jt "check_asked" zT ["manner","rods","number"]:=fun _ _ _ _ _ _ us hl=>by obtain ⟨v0,v1,v2,rfl⟩:=aaa us hl; rfl
theorem aqK:jt "number_on" Jj ["manner","setting"]:=fun _ _ _ _ _ _ us hl=>by obtain ⟨v0,v1,rfl⟩:=adE us hl; rfl
theorem ao0:jt "full_rods" ZI ["manner","rods"]:=fun _ _ _ _ _ _ us hl=>by obtain ⟨v0,v1,rfl⟩:=adE us hl; rfl
theorem ao1:jt "last_rods" Jk ["manner","ahead","number"]:=fun _ _ _ _ _ _ us hl=>by obtain ⟨v0,v1,v2,rfl⟩:=aaa us hl; rfl
theorem akH:jt "digits_by_rods" ZM ["base","rods","number"]:=fun _ _ _ _ _ _ us hl=>by obtain ⟨v0,v1,v2,rfl⟩:=aaa us hl; rfl
theorem aez:jt "plain_rods" ZL ["manner","rods","number"]:=fun _ _ _ _ _ _ us hl=>by obtain ⟨v0,v1,v2,rfl⟩:=aaa us hl; rfl
theorem aeA:jt "plain_setting" aaK ["manner","rods","number"]:=fun _ _ _ _ _ _ us hl=>by obtain ⟨v0,v1,v2,rfl⟩:=aaa us hl; rfl
theorem am5:jt "longer_fewest" Zj ["manner","ahead","fewest"]:=fun _ _ _ _ _ _ us hl=>by obtain ⟨v0,v1,v2,rfl⟩:=aaa us hl; rfl
theorem ahm:jt "least_beads" aaj ["manner","rods","number"]:=fun _ _ _ _ _ _ us hl=>by obtain ⟨v0,v1,v2,rfl⟩:=aaa us hl; rfl
theorem ao2:jt "_law_cell" ai0 ["_law_script","_law_k"]:=fun _ _ _ _ _ _ us hl=>by obtain ⟨v0,v1,rfl⟩:=adE us hl; rfl
theorem am6:jt "_law_drawn" afn ["_law_script","_law_k","_law_many"]:=fun _ _ _ _ _ _ us hl=>by obtain ⟨v0,v1,v2,rfl⟩:=aaa us hl; rfl
theorem akI:jt "_law_manner" acb ["_law_script","_law_at"]:=fun _ _ _ _ _ _ us hl=>by obtain ⟨v0,v1,rfl⟩:=adE us hl; rfl
theorem akJ:jt "longer_ways" JP ["manner","ahead","ways"]:=fun _ _ _ _ _ _ us hl=>by obtain ⟨v0,v1,v2,rfl⟩:=aaa us hl; rfl
theorem am7:jt "how_many" JB ["manner","rods","number"]:=fun _ _ _ _ _ _ us hl=>by obtain ⟨v0,v1,v2,rfl⟩:=aaa us hl; rfl
theorem adM:jt "longer_ends" qo ["manner","ahead","ends"]:=fun _ _ _ _ _ _ us hl=>by obtain ⟨v0,v1,v2,rfl⟩:=aaa us hl; rfl
theorem Zu:jt "all_settings" qF ["manner","rods","number"]:=fun _ _ _ _ _ _ us hl=>by obtain ⟨v0,v1,v2,rfl⟩:=aaa us hl; rfl
theorem akK:jt "_law_value" ZU ["_law_manner_here","_law_setting_here"]:=fun _ _ _ _ _ _ us hl=>by obtain ⟨v0,v1,rfl⟩:=adE us hl; rfl
theorem am8:jt "_law_rods" aam ["_law_manner_here"]:=fun _ _ _ _ _ _ us hl=>by obtain ⟨v0,rfl⟩:=adD us hl; rfl
theorem ao3:jt "_law_all" aaU ["_law_manner_here","_law_rods_here"]:=fun _ _ _ _ _ _ us hl=>by obtain ⟨v0,v1,rfl⟩:=adE us hl; rfl
theorem ahn:jt "_law_refused" Jm ["_law_e"]:=fun _ _ _ _ _ _ us hl=>by obtain ⟨v0,rfl⟩:=adD us hl; rfl
theorem am9:jt "_law_told" abr ["_law_way","_law_manner_here","_law_rods_here","_law_number"]:=fun _ _ _ _ _ _ us hl=>by obtain ⟨v0,v1,v2,v3,rfl⟩:=ar3 us hl; rfl
theorem akL:jt "_law_plain" JR ["_law_manner_here","_law_rods_here","_law_number"]:=fun _ _ _ _ _ _ us hl=>by obtain ⟨v0,v1,v2,rfl⟩:=aaa us hl; rfl
theorem asq (HT:zN=true) {P:Program}{w:World}{K:PySem.W.Frag}{h:Heap}{mg:Str->Option Value}{base:Heap} (X:K.In h) (G:h.Ns mainGlobals mg) (T:Tops K) (C:Consts K mg):CLaw P w K mg base:=by
 have c_isWhole:jm P w K mg base "is_whole" ["thing","least","most"] 1 3 qe:=T.isWhole.callee X G air fun f fd F=>jR F ah1 fun cdv A outer s H E hr=>aaH.2 P w K mg base f cdv A outer s H E C.b hr
 have c_rodWorth:jm P w K mg base "rod_worth" ["manner","rod"] 1 2 qI:=T.rodWorth.callee X G ahh fun f fd F=>jR F ago fun cdv A outer s H E hr=>abj.2 P w K mg base f cdv A outer s H E trivial hr
 have c_beads:jm P w K mg base "beads" ["rod"] 1 1 qr:=T.beads.callee X G am4 fun f fd F=>jR F al2 fun cdv A outer s H E hr=>ah2.2 P w K mg base f cdv A outer s H E trivial hr
 have c_allRods:jm P w K mg base "all_rods" ["manner"] 1 1 zA:=T.allRods.callee X G ais fun f fd F=>ah3 F C.b
 have c_hasAll:jm P w K mg base "has_all_digits" ["manner"] 2 1 aaI:=T.hasAll.callee X G akF fun f fd F=>jR F aec fun cdv A outer s H E hr=>afg.2 P w K mg base f cdv A outer s H E ⟨C.b,c_allRods,c_rodWorth⟩ hr
 have c_isManner:jm P w K mg base "is_manner" ["thing"] 3 1 qx:=T.isManner.callee X G ahi fun f fd F=>jR F JN fun cdv A outer s H E hr=>abk.2 P w K mg base f cdv A outer s H E ⟨C.b,C.least,C.most,c_isWhole,c_hasAll⟩ hr
 have c_check:jm P w K mg base "check_manner" ["thing"] 4 1 J1:=T.check.callee X G ahj fun f fd F=>jR F agr fun cdv A outer s H E hr=>afh.2 P w K mg base f cdv A outer s H E ⟨c_isManner⟩ hr
 have c_rodsWith:jm P w K mg base "rods_with" ["manner","worth"] 2 2 ZH:=T.rodsWith.callee X G ahk fun f fd F=>jR F ags fun cdv A outer s H E hr=>abl.2 P w K mg base f cdv A outer s H E ⟨c_allRods,c_rodWorth⟩ hr
 have c_fewest:jm P w K mg base "fewest_beads" ["manner","worth"] 3 2 JO:=T.fewest.callee X G akG fun f fd F=>jR F akc fun cdv A outer s H E hr=>ab9.2 P w K mg base f cdv A outer s H E ⟨C.b,c_rodsWith,c_beads⟩ hr
 have c_chkRods:jm P w K mg base "check_rods" ["rods"] 2 1 qy:=T.chkRods.callee X G adC fun f fd F=>jR F ac6 fun cdv A outer s H E hr=>Zi.2 P w K mg base f cdv A outer s H E ⟨c_isWhole,C.mostRods⟩ hr
 have c_chkNum:jm P w K mg base "check_number" ["number"] 2 1 zC:=T.chkNum.callee X G aey fun f fd F=>jR F aee fun cdv A outer s H E hr=>aaJ.2 P w K mg base f cdv A outer s H E ⟨c_isWhole,C.mostNumber⟩ hr
 have c_asked:jm P w K mg base "check_asked" ["manner","rods","number"] 5 3 ql:=T.asked.callee X G ahl fun f fd F=>jR F agt fun cdv A outer s H E hr=>aai.2 P w K mg base f cdv A outer s H E ⟨c_check,c_chkRods,c_chkNum⟩ hr
 have c_num:jm P w K mg base "number_on" ["manner","setting"] 2 2 an6:=T.num.callee X G aqK fun f fd F=>jR F afi fun cdv A outer s H E hr=>an5.2 P w K mg base f cdv A outer s H E ⟨c_rodWorth⟩ hr
 have c_full:jm P w K mg base "full_rods" ["manner","rods"] 1 2 al3:=T.full.callee X G ao0 fun f fd F=>jR F an7 fun cdv A outer s H E hr=>aiX.2 P w K mg base f cdv A outer s H E trivial hr
 have c_last:jm P w K mg base "last_rods" ["manner","ahead","number"] 3 3 aed:=T.last.callee X G ao1 fun f fd F=>jR F ZJ fun cdv A outer s H E hr=>aiZ.2 P w K mg base f cdv A outer s H E ⟨c_allRods,c_rodWorth,c_num,c_full⟩ hr
 have c_digits:jm P w K mg base "digits_by_rods" ["base","rods","number"] 1 3 al4:=T.digits.callee X G akH fun f fd F=>jR F afm fun cdv A outer s H E hr=>an9.2 P w K mg base f cdv A outer s H E C.b hr
 have c_plainR:jm P w K mg base "plain_rods" ["manner","rods","number"] 4 3 aca:=T.plainR.callee X G aez fun f fd F=>jR F ZO fun cdv A outer s H E hr=>ZP.2 P w K mg base f cdv A outer s H E ⟨C.b,c_digits,c_fewest⟩ hr
 have c_plainS:jm P w K mg base "plain_setting" ["manner","rods","number"] 6 3 Je:=T.plainS.callee X G aeA fun f fd F=>jR F aef fun cdv A outer s H E hr=>ZQ.2 P w K mg base f cdv A outer s H E ⟨c_asked,c_plainR⟩ hr
 have g_plainS:GC K mg "plain_setting" (fnD "plain_setting"):=by
  obtain ⟨f,oc,od,an,kV,doc,pm,cdv,ct,osl,a,_⟩:=T.plainS
  exact ⟨.ref f,.ref f,PySem.W.mg_of X G a,rfl,fun H=>⟨f,rfl,.inr (.inr (.inl ⟨_,rfl,a⟩))⟩⟩
 have c_longF:jm P w K mg base "longer_fewest" ["manner","ahead","fewest"] 4 3 afl:=T.longF.callee X G am5 fun f fd F=>jR F Qq fun cdv A outer s H E hr=>afk.2 P w K mg base f cdv A outer s H E ⟨C.b,c_last,c_beads⟩ hr
 have c_least:jm P w K mg base "least_beads" ["manner","rods","number"] 6 3 Zl:=T.least.callee X G ahm fun f fd F=>jR F Zk fun cdv A outer s H E hr=>ac8.2 P w K mg base f cdv A outer s H E ⟨C.b,c_asked,c_longF⟩ hr
 have g_least:GC K mg "least_beads" (fnD "least_beads"):=by
  obtain ⟨f,oc,od,an,kV,doc,pm,cdv,ct,osl,a,_⟩:=T.least
  exact ⟨.ref f,.ref f,PySem.W.mg_of X G a,rfl,fun H=>⟨f,rfl,.inr (.inr (.inl ⟨_,rfl,a⟩))⟩⟩
 have c_cell:jm P w K mg base "_law_cell" ["_law_script","_law_k"] 1 2 agu:=T.cell.callee X G ao2 fun f fd F=>jR F aoa fun cdv A outer s H E hr=>ai1.2 P w K mg base f cdv A outer s H E C.b hr
 have c_drawn:jm P w K mg base "_law_drawn" ["_law_script","_law_k","_law_many"] 2 3 JD:=T.drawn.callee X G am6 fun f fd F=>jR F adb fun cdv A outer s H E hr=>ah5.2 P w K mg base f cdv A outer s H E ⟨c_cell⟩ hr
 have c_manner:jm P w K mg base "_law_manner" ["_law_script","_law_at"] 3 2 ZR:=T.manner.callee X G akI fun f fd F=>jR F zM fun cdv A outer s H E hr=>acg.2 P w K mg base f cdv A outer s H E ⟨C.b,c_drawn⟩ hr
 have c_longer:jm P w K mg base "longer_ways" ["manner","ahead","ways"] 4 3 acf:=T.longer.callee X G akJ fun f fd F=>jR F Qr fun cdv A outer s H E hr=>ace.2 P w K mg base f cdv A outer s H E ⟨c_last⟩ hr
 have c_how:jm P w K mg base "how_many" ["manner","rods","number"] 6 3 ah4:=T.how.callee X G am7 fun f fd F=>jR F ac9 fun cdv A outer s H E hr=>al5.2 P w K mg base f cdv A outer s H E ⟨C.b,c_asked,c_longer⟩ hr
 have g_how:GC K mg "how_many" (fnD "how_many"):=by
  obtain ⟨f,oc,od,an,kV,doc,pm,cdv,ct,osl,a,_⟩:=T.how
  exact ⟨.ref f,.ref f,PySem.W.mg_of X G a,rfl,fun H=>⟨f,rfl,.inr (.inr (.inl ⟨_,rfl,a⟩))⟩⟩
 have x_check:Jd P w K mg base "check_manner" ["thing"] 4 1 aal:=T.check.thr X G ahj fun f fd F=>QH F agr fun cdv A outer s H E hr=>abp.2 P w K mg base f cdv A outer s H E ⟨c_isManner,(C.errT.err (by decide))⟩ hr
 have x_chkRods:Jd P w K mg base "check_rods" ["rods"] 2 1 Qt:=T.chkRods.thr X G adC fun f fd F=>QH F ac6 fun cdv A outer s H E hr=>Qs.2 P w K mg base f cdv A outer s H E ⟨c_isWhole,C.mostRods,(C.errT.err (by decide))⟩ hr
 have x_chkNum:Jd P w K mg base "check_number" ["number"] 2 1 aaQ:=T.chkNum.thr X G aey fun f fd F=>QH F aee fun cdv A outer s H E hr=>ZS.2 P w K mg base f cdv A outer s H E ⟨c_isWhole,C.mostNumber,(C.errT.err (by decide))⟩ hr
 have x_asked:Jd P w K mg base "check_asked" ["manner","rods","number"] 5 3 zF:=T.asked.thr X G ahl fun f fd F=>QH F agt fun cdv A outer s H E hr=>J9.2 P w K mg base f cdv A outer s H E ⟨c_chkRods,c_check,x_check,x_chkRods,x_chkNum⟩ hr
 have x_plainR:Jd P w K mg base "plain_rods" ["manner","rods","number"] 4 3 afp:=T.plainR.thr X G aez fun f fd F=>QH F ZO fun cdv A outer s H E hr=>ach.2 P w K mg base f cdv A outer s H E ⟨c_digits,(C.errT.err (by decide))⟩ hr
 have x_plainS:Jd P w K mg base "plain_setting" ["manner","rods","number"] 6 3 aaR:=T.plainS.thr X G aeA fun f fd F=>QH F aef fun cdv A outer s H E hr=>ZT.2 P w K mg base f cdv A outer s H E ⟨c_asked,x_asked,x_plainR⟩ hr
 have x_how:Jd P w K mg base "how_many" ["manner","rods","number"] 6 3 aod:=T.how.thr X G am7 fun f fd F=>QH F ac9 fun cdv A outer s H E hr=>aoc.2 P w K mg base f cdv A outer s H E ⟨x_asked⟩ hr
 have x_least:Jd P w K mg base "least_beads" ["manner","rods","number"] 6 3 afr:=T.least.thr X G ahm fun f fd F=>QH F Zk fun cdv A outer s H E hr=>afq.2 P w K mg base f cdv A outer s H E ⟨x_asked⟩ hr
 have c_LongerEnds:jm P w K mg base "longer_ends" ["manner","ahead","ends"] 4 3 zU:=T.LongerEnds.callee X G adM fun f fd F=>jR F zk fun cdv A outer s H E hr=>JQ.2 P w K mg base f cdv A outer s H E ⟨c_last⟩ hr
 have c_AllSettings:jm P w K mg base "all_settings" ["manner","rods","number"] 6 3 qp:=T.AllSettings.callee X G Zu fun f fd F=>jR F qS fun cdv A outer s H E hr=>zE.2 P w K mg base f cdv A outer s H E ⟨C.b,c_asked,c_LongerEnds⟩ hr
 have g_AllSettings:GC K mg "all_settings" (fnD "all_settings"):=by
  obtain ⟨f,oc,od,an,kV,doc,pm,cdv,ct,osl,a,_⟩:=T.AllSettings
  exact ⟨.ref f,.ref f,PySem.W.mg_of X G a,rfl,fun H=>⟨f,rfl,.inr (.inr (.inl ⟨_,rfl,a⟩))⟩⟩
 have x_AllSettings:Jd P w K mg base "all_settings" ["manner","rods","number"] 6 3 Jh:=T.AllSettings.thr X G Zu fun f fd F=>QH F qS fun cdv A outer s H E hr=>Jg.2 P w K mg base f cdv A outer s H E ⟨x_asked⟩ hr
 have c_LValue:jm P w K mg base "_law_value" ["_law_manner_here","_law_setting_here"] 1 2 QN:=T.LValue.callee X G akK fun f fd F=>jR F Qu fun cdv A outer s H E hr=>acj.2 P w K mg base f cdv A outer s H E ⟨trivial⟩ hr
 have c_LRods:jm P w K mg base "_law_rods" ["_law_manner_here"] 1 1 aan:=T.LRods.callee X G am8 fun f fd F=>jR F aaT fun cdv A outer s H E hr=>aft.2 P w K mg base f cdv A outer s H E ⟨C.b⟩ hr
 have c_LAll:jm P w K mg base "_law_all" ["_law_manner_here","_law_rods_here"] 2 2 agv:=T.LAll.callee X G ao3 fun f fd F=>jR F QO fun cdv A outer s H E hr=>ai2.2 P w K mg base f cdv A outer s H E ⟨C.b,c_LRods⟩ hr
 have h_LRefused:ab7 P w K mg base "_law_refused" ["_law_e"] 1 1 qJ:=T.LRefused.hdl X G ahn fun f fd F=>asg F Zm fun cdv A outer s H E hr=>aeh.2 P w K mg base f cdv A outer s H E ⟨C.b,C.errT⟩ hr
 have c_LTold:jm P w K mg base "_law_told" ["_law_way","_law_manner_here","_law_rods_here","_law_number"] 7 4 jM:=T.LTold.callee X G am9 fun f fd F=>alP F agw fun cdv A outer s H E hr=>qM.2 P w K mg base f cdv A outer s H E ⟨c_AllSettings,c_how,c_least,c_plainS,g_AllSettings,g_how,g_least,g_plainS,x_AllSettings,x_how,x_least,x_plainS,h_LRefused,C.errT⟩ hr
 have c_LPlain:jm P w K mg base "_law_plain" ["_law_manner_here","_law_rods_here","_law_number"] 2 3 ZW:=T.LPlain.callee X G akL fun f fd F=>jR F Jn fun cdv A outer s H E hr=>ack.2 P w K mg base f cdv A outer s H E ⟨C.b,c_LRods⟩ hr
 exact ⟨C.b,c_manner,c_drawn,c_LRods,c_LAll,c_LValue,c_LTold,c_LPlain⟩
theorem aqL (HT:zN=true) {P:Program}{w:World}{K:PySem.W.Frag}{h:Heap}{mg:Str->Option Value}{fa:Addr} (X:K.In h) (G:h.Ns mainGlobals mg) (hfa:mg "law"=some (.ref fa)) (T:Tops K) (C:Consts K mg):
  ∃ fd:FuncData,(∀ (s:Shared) (v:Value),BindsTo s fd ⟨[v],[]⟩ [("_law_script",v)])/\∀ base:Heap,K.In base->base.Ns mainGlobals mg->FnOk P w K mg base CX0 8 fa fd ["_law_script"] (Pur K 1 aof):=by
 have Q:∀ base:Heap,CLaw P w K mg base:=fun base=>asq HT X G T C
 obtain ⟨f,oc,od,an,kV,doc,pm,cdv,ct,osl,a,l,c,kp⟩:=T.law
 have e:=hfa.symm.trans (PySem.W.mg_of X G a)
 cases e
 have F1:=aeK (st:=adf) l c kp
 exact ⟨_,fun s v=> .of_eq rfl,fun base _ _=>jR F1 QP fun cdv A outer s H E hr=>amf.2 P w K mg base fa cdv A outer s H E (Q base) hr⟩
theorem arO (HT:zN=true) (K:PySem.W.Frag) (H:Hp) (a:Addr) (ns:List Int) (hl:ns.length<=63) (hS:SqL K H a (ns.map V.int)):Pur K 1 aof [.ref a] H (fun v _=>v= .bl true) fun _ _ _=>False:=
 ⟨[scr ns],.bool true,rfl,⟨_,_,rfl,⟨a,rfl,.inl ⟨ns,hS,rfl⟩⟩,rfl⟩,akE HT ns (by omega),fun v H' _ r=>r⟩
theorem asr (HT:zN=true) {l:PySem.W.OpenLaw}{q:Program}{loose:List Str}{XP:(Str->Option Value)->Heap->Prop}{YP:World->Heap->Prop}{d:DefRec}{K:Params->PySem.W.Frag} (hn:l.most=some 63) (hdf:d.params.defaults=[])
  (hY:∀ (w:World) (h:Heap),YP w h->(K w.params).In h) (hnm:d.name="law")
  (F:∀ (w:World) (mg:Str->Option Value) (h:Heap),(K w.params).In h->h.Ns mainGlobals mg->Tops (K w.params)/\Consts (K w.params) mg):
  PySem.W.WalkO q loose XP YP l.row.toRowW d [] (fun f vs=>PySem.call f vs):=
 L2.ano (n:=63) (k:=8) (x:="_law_script") (CX:=fun _=>CX0) (sp:=fun w=>Pur (K w.params) 1 aof) hn (by decide) hdf ⟨rfl,by decide,by decide⟩ hY (fun w mg fa h KX G hm=>by
  obtain ⟨T,C⟩:=F w mg h KX G
  rw [hnm] at hm
  exact aqL HT KX G hm T C) (fun w H a ns hl _ hS=>arO HT (K w.params) H a ns hl hS) fun _ _ _ _ _ z=>z
theorem ao4 {K:PySem.W.Frag}{mg:Str->Option Value}{h:Heap} (X:K.In h) (G:h.Ns mainGlobals mg) (z1:PySem.W.nsIn K mainGlobals "isinstance"=some none) (z2:PySem.W.nsIn K mainGlobals "bool"=some none) (z3:PySem.W.nsIn K mainGlobals "int"=some none) (z4:PySem.W.nsIn K mainGlobals "tuple"=some none) (z5:PySem.W.nsIn K mainGlobals "zip"=some none) (z6:PySem.W.nsIn K mainGlobals "range"=some none) (z7:PySem.W.nsIn K mainGlobals "all"=some none) (z8:PySem.W.nsIn K mainGlobals "len"=some none) (z9:PySem.W.nsIn K mainGlobals "max"=some none) (z10:PySem.W.nsIn K mainGlobals "min"=some none) (z11:PySem.W.nsIn K mainGlobals "sum"=some none) (z12:PySem.W.nsIn K mainGlobals "sorted"=some none) (z13:PySem.W.nsIn K mainGlobals "abs"=some none) (z14:PySem.W.nsIn K mainGlobals "list"=some none) (z15:PySem.W.nsIn K mainGlobals "enumerate"=some none) (z16:PySem.W.nsIn K mainGlobals "ValueError"=some none) (z17:PySem.W.nsIn K mainGlobals "str"=some none) (z18:PySem.W.nsIn K mainGlobals "set"=some none) (z19:PySem.W.nsIn K mainGlobals "dict"=some none):Bare mg:=
 have f:∀ {x:Str},PySem.W.nsIn K mainGlobals x=some none->mg x=none:=fun z=>PySem.W.mg_none_of X G z
 ⟨f z1,f z2,f z3,f z4,f z5,f z6,f z7,f z8,f z9,f z10,f z11,f z12,f z13,f z14,f z15,f z16,f z17,f z18,f z19⟩
theorem gc4 {K:PySem.W.Frag}{mg:Str->Option Value}{h:Heap}{x:Str}{a:Addr}{od:Option Addr}{n:Nat}{osl:Array (Option Value)}{i1 i2 i3 i4:Int}{t1 t2 t3 t4:Tok} (X:K.In h) (G:h.Ns mainGlobals mg) (e:PySem.W.nsIn K mainGlobals x=some (some (.ref a)))
  (l:K.lookup a=some ⟨.type "tuple",od,.seq #[.int i1 t1,.int i2 t2,.int i3 t3,.int i4 t4] n,osl⟩):GC K mg x (.tuple [.int i1,.int i2,.int i3,.int i4]):=
 alx X G e l rfl ⟨_,_,[.int i1,.int i2,.int i3,.int i4],rfl,(by show 4<=sizeLine; rw [sizeLine_eq]; decide),.cons ⟨_,rfl⟩ (.cons ⟨_,rfl⟩ (.cons ⟨_,rfl⟩ (.cons ⟨_,rfl⟩ .nil))),fun H=>⟨_,_,rfl,rfl,_,_,rfl,rfl,_,_,rfl,rfl,_,_,rfl,rfl,rfl⟩⟩
theorem gcI {K:PySem.W.Frag}{mg:Str->Option Value}{h:Heap}{x:Str}{i:Int}{t:Tok} (X:K.In h) (G:h.Ns mainGlobals mg) (e:PySem.W.nsIn K mainGlobals x=some (some (.int i t))):GC K mg x (.int i):=
 ⟨.int i,_,PySem.W.mg_of X G e,⟨t,rfl⟩,fun H=>rfl⟩
theorem ao5 {K:PySem.W.Frag}{mg:Str->Option Value}{h:Heap}{y:Str}{cs:List Str} (X:K.In h) (G:h.Ns mainGlobals mg) (q:ae7 K y cs=true):ErrT K mg y cs:=
 ⟨q,fun c C e=>PySem.W.mg_of X G (aiV e)⟩
end Rods
def PySem.W.Fast.tw2623950936291207237:Unit:=()
def PySem.W.Fast.tw740253785555513366:Unit:=()
def PySem.W.Fast.tw15808346512118821626:Unit:=()
def PySem.W.Fast.tw9408696350290003131:Unit:=()
def PySem.W.Fast.tw828468190430952083:Unit:=()
def PySem.W.Fast.tw7076143894637130750:Unit:=()
def PySem.W.Fast.tw11487048454211558805:Unit:=()
open PySem PySem.W PyProof.Rows
set_option maxRecDepth 100000 in
set_option maxHeartbeats 0 in
theorem PySem.Challenge.cw_beadrods_k11_all_settings_holds : PySem.Challenge.rw_beadrods_k11_all_settings.Holds := by
  w_on; o_law; k_head; (case hw => w_witness2)
  k_fill
  refine Rods.asr Rods.allN_true (l := PySem.Challenge.rw_beadrods_k11_all_settings) rfl rfl (fun w h Y => PySem.W.kIn_of Y) rfl ?F
  case F =>
    intro w mg h KX G
    refine ⟨⟨?f1, ?f2, ?f3, ?f4, ?f5, ?f6, ?f7, ?f8, ?f9, ?f10, ?f11, ?f12, ?f13, ?f14, ?f15, ?f16, ?f17, ?f18, ?f19, ?f20, ?f21, ?f22, ?f23, ?f24, ?f25, ?f26, ?f27, ?f28, ?f29, ?f30, ?f31, ?f32, ?f33, ?f34⟩, ⟨?b, ?c1, ?c2, ?c3, ?c4, ?et⟩⟩
    case b => refine' Rods.ao4 KX G ?_ ?_ ?_ ?_ ?_ ?_ ?_ ?_ ?_ ?_ ?_ ?_ ?_ ?_ ?_ ?_ ?_ ?_ ?_ <;> k_is
    case c1 =>
      refine' Rods.gc4 KX G ?a ?l
      (case a => k_is); (case l => k_is)
    case c2 =>
      refine' Rods.gc4 KX G ?a ?l
      (case a => k_is); (case l => k_is)
    case c3 =>
      refine' Rods.gcI KX G ?a
      (case a => k_is)
    case c4 =>
      refine' Rods.gcI KX G ?a
      (case a => k_is)
    case et => exact Rods.ao5 KX G (by kernel_rfl)
    all_goals
      refine' BX.alw ?a ?l ?c ?k
      (case a => k_is); (case l => k_is); (case c => k_is); (case k => k_is)
#print axioms PySem.Challenge.cw_beadrods_k11_all_settings_holds
end
