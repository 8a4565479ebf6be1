import PyProof.Rows.All
import Wide.All
import OpenK.AllK
import Wide.FinOn
import Lean
import PyProof.EqAt
import PyProof.EqKinds
import PyProof.TupleCall
import PyProof.DictWalks
import PyProof.ListMulRoad
import PyProof.Rows.Range3
import PyProof.StationsW
import OpenK.KOwn
import PyProof.ExcBaseAll.ValueError
import PyProof.MaxThree
import KE.KIsAll
import KE.KIsNot
import PyProof.RulesAs
import PyProof.ExcArgsOwn
import PyProof.ExcAttrAll.ValueError
import KE.KRevSl
import PySem.Challenge.RW_beadrods_k24_whole_nearest
set_option Elab.async false
set_option linter.all false
set_option maxRecDepth 100000
set_option maxHeartbeats 4000000
abbrev Fg:=PySem.W.Frag
abbrev SV:=PySem.Str->Option PySem.Value
abbrev OP:=Option PySem.PyData
abbrev LP:=List PySem.PyData
abbrev SP0:=PySem.Shared->Prop
theorem zzA {α : Type _} {a : α} {l : List α} : (a :: l)[0]? = some a := rfl
theorem zzB {α : Type _} {a : α} {i : Nat} {l : List α} : (a :: l)[i + 1]? = l[i]? := rfl
theorem zzC {α : Type _} {o : Option α} : (some o).join = o := rfl
theorem zzD {α β : Type _} (a : α) (f : α → Option β) : (some a).bind f = f a := rfl
theorem zzE {α β : Type _} (a : α) (f : α → β) : Option.map f (some a) = some (f a) := rfl
theorem zzF {α : Type _} {x : α} {xs : List α} {i : Nat} {a : α} : (x :: xs).set (i + 1) a = x :: xs.set i a := rfl
theorem zzG {α : Type _} {x : α} {xs : List α} {a : α} : (x :: xs).set 0 a = a :: xs := rfl
theorem zzH {α β : Type _} (f : α → Option β) : (none : Option α).bind f = none := rfl
theorem zzI {α β : Type _} (f : α → β) : Option.map f (none : Option α) = none := rfl
theorem zzJ : (!true) = false := rfl
theorem zzK : (!false) = true := rfl
theorem zzL : (false = true) = False := Bool.false_eq_true
theorem zzM {α : Sort _} {x : Decidable True} (a b : α) : ite True a b = a := if_true a b
theorem zzN {α : Sort _} {x : Decidable False} (a b : α) : ite False a b = b := if_false a b
section
namespace L2
open PySem PySem.Spec PyProof.Rows
noncomputable abbrev Key:=Sum Int Str
noncomputable def aby:Key->Value->Bool
 | .inl k,v=>Value.isInt k v
 | .inr x,v=>Value.isStrOf x v
noncomputable def aqY (w:World):Key->Int
 | .inl k=>hashInt k
 | .inr x=>hashStr w x
theorem qg:∀ {k:Key}{v:Value},aby k v=true->(∃ i t,k=Sum.inl i/\v=Value.int i t) ∨ (∃ x t,k=Sum.inr x/\v=Value.str x t)
 | .inl i,v,h=>by
  obtain ⟨t,e⟩:=Value.isInt_shape (k:=i) (v:=v) h
  exact .inl ⟨i,t,rfl,e⟩
 | .inr x,v,h=>by
  obtain ⟨t,e⟩:=Value.isStrOf_shape (x:=x) (v:=v) h
  exact .inr ⟨x,t,rfl,e⟩
theorem ain (i:Int) (t:Tok):aby (.inl i) (.int i t)=true:=by simp [aby,Value.isInt]
theorem aio (x:Str) (t:Tok):aby (.inr x) (.str x t)=true:=by simp [aby,Value.isStrOf]
theorem aod (a b:Int):decide ((Sum.inl a:Key)=Sum.inl b)=(a == b):=by
 by_cases e:a=b
 ·subst e; simp
 ·have h:¬ (Sum.inl a:Key)=Sum.inl b:=fun q=>e (Sum.inl.inj q)
  rw [decide_eq_false h]
  exact (beq_eq_false_iff_ne.mpr e).symm
theorem aoe (a b:Str):decide ((Sum.inr a:Key)=Sum.inr b)=decide (a=b):=by
 by_cases e:a=b
 ·subst e; simp
 ·have h:¬ (Sum.inr a:Key)=Sum.inr b:=fun q=>e (Sum.inr.inj q)
  rw [decide_eq_false h,decide_eq_false e]
theorem aof (a:Int) (b:Str):decide ((Sum.inl a:Key)=Sum.inr b)=false:=decide_eq_false (fun q=>nomatch q)
theorem aog (a:Str) (b:Int):decide ((Sum.inr a:Key)=Sum.inl b)=false:=decide_eq_false (fun q=>nomatch q)
noncomputable def j5 (prog:Program) (w:World):PySem.KeyKind prog w Key where
 is:=aby
 hash:=aqY w
 inj:=fun v a b ha hb=>by
  rcases qg ha with ⟨i,t,rfl,rfl⟩ | ⟨x,t,rfl,rfl⟩
  ·rcases qg hb with ⟨j,u,rfl,e⟩ | ⟨y,u,rfl,e⟩
   ·injection e with e1 _; rw [e1]
   ·exact nomatch e
  ·rcases qg hb with ⟨j,u,rfl,e⟩ | ⟨y,u,rfl,e⟩
   ·exact nomatch e
   ·injection e with e1 _; rw [e1]
 byValue:=fun k v h=>by
  rcases qg h with ⟨i,t,rfl,rfl⟩ | ⟨x,t,rfl,rfl⟩ <;> rfl
 pyHash:=fun hv h=>by
  rcases qg hv with ⟨i,t,rfl,rfl⟩ | ⟨x,t,rfl,rfl⟩
  ·exact wpAny_pyHash_int h
  ·exact wpAny_pyHash_str h
 eqBool:=fun hu hv h=>by
  rcases qg hu with ⟨i,t,rfl,rfl⟩ | ⟨x,t,rfl,rfl⟩
  ·rcases qg hv with ⟨j,u,rfl,rfl⟩ | ⟨y,u,rfl,rfl⟩
   ·rw [aod] at h; exact wpAny_eqBool_int h
   ·rw [aof] at h; exact SeqAt.EqAt.int_str i t y u _ _ _ _ h
  ·rcases qg hv with ⟨j,u,rfl,rfl⟩ | ⟨y,u,rfl,rfl⟩
   ·rw [aog] at h; exact SeqAt.EqAt.str_int x t j u _ _ _ _ h
   ·rw [aoe] at h; exact wpAny_eqBool_str h
 «strs»:=fun k x t v h=>by
  rcases qg h with ⟨i,u,rfl,e⟩ | ⟨y,u,rfl,e⟩
  ·exact nomatch e
  ·injection e with e1 _
   subst e1
   cases v <;> rfl
theorem aeP (prog:Program) (w:World) (i:Int) (t:Tok):(j5 prog w).is (.inl i) (.int i t)=true:=ain i t
theorem aeQ (prog:Program) (w:World) (x:Str) (t:Tok):(j5 prog w).is (.inr x) (.str x t)=true:=aio x t
inductive V where
 | non | bl (b:Bool) | int (i:Int) | str (x:Str) | byt (b:Array UInt8) | flt (b:UInt64) | ref (a:Addr) | ty (n:String)
 deriving DecidableEq
noncomputable def jK:V->Value->Prop
 | .non,u=>u=Value.none
 | .bl b,u=>u=Value.bool b
 | .int i,u=>∃ t,u=Value.int i t
 | .str x,u=>∃ t,u=Value.str x t
 | .byt b,u=>∃ t,u=Value.bytes b t
 | .flt b,u=>∃ t,u=Value.float b t
 | .ref a,u=>u=Value.ref a
 | .ty n,u=>u=Value.type n
noncomputable abbrev jG:List V->List Value->Prop:=Paired jK
theorem jG.length {xs:List V}{us:List Value} (r:jG xs us):xs.length=us.length:=Paired.length r
theorem jG.get:∀ {xs:List V}{us:List Value}{i:Nat}{x:V},jG xs us->xs[i]?=some x->∃ u,us[i]?=some u/\jK x u
 | _,_,_,_,.nil,e=>by simp at e
 | _,_,0,_,.cons r _,e=>by simp at e; subst e; exact ⟨_,rfl,r⟩
 | _,_,i+1,x,.cons _ t,e=>by
  obtain ⟨u,h1,h2⟩:=jG.get (i:=i) (x:=x) t (by simpa using e)
  exact ⟨u,by simpa using h1,h2⟩
theorem jG.set {x:V}{u:Value} (r:jK x u):∀ {xs:List V}{us:List Value} (i:Nat),jG xs us->jG (xs.set i x) (us.set i u)
 | _,_,_,.nil=> .nil
 | _,_,0,.cons _ t=> .cons r t
 | _,_,i+1,.cons q t=> .cons q (jG.set r i t)
theorem jG.append:∀ {xs ys:List V}{us ws:List Value},jG xs us->jG ys ws->jG (xs++ys) (us++ws)
 | _,_,_,_,.nil,s=>s
 | _,_,_,_,.cons r t,s=> .cons r (jG.append t s)
theorem jG.take:∀ {xs:List V}{us:List Value} (n:Nat),jG xs us->jG (xs.take n) (us.take n)
 | _,_,0,_=> .nil
 | _,_,_+1,.nil=> .nil
 | _,_,n+1,.cons r t=> .cons r (jG.take n t)
theorem jG.drop:∀ {xs:List V}{us:List Value} (n:Nat),jG xs us->jG (xs.drop n) (us.drop n)
 | _,_,0,r=>r
 | _,_,_+1,.nil=> .nil
 | _,_,n+1,.cons _ t=>jG.drop n t
noncomputable def abd:Option V->Option Value->Prop
 | some v,some u=>jK v u
 | none,none=>True
 | _,_=>False
noncomputable def KV {κ:Type}:List (κ × V)->List (κ × Value)->Prop:=Paired fun (p:κ × V) (q:κ × Value)=>p.1=q.1/\jK p.2 q.2
noncomputable def kV:Key->V
 | .inl i=> .int i
 | .inr x=> .str x
inductive HO where
 | lst (xs:List V)
 | tup (xs:List V)
 | dK (kvs:List (Key × V)) | dT (kvs:List (List Key × V))
 | set (S:Int->Bool) (n:Nat)
 | ins (C dx:Addr) (fs:List (Str × V))
 | own (x:Addr)
 | xd (fs:List (Str × V))
 | met (f x:Addr)
 | rng (lo hi:Int)
 | frz (o:Obj) (u:HO)
 | tbl (ps:Array Value)
 | ext (φ:Heap->Prop)
noncomputable abbrev Hp:=Addr->Option HO
noncomputable def upd (H:Hp) (a:Addr) (o:HO):Hp:=fun b=>if b=a then some o else H b
theorem jq {H:Hp}{a:Addr}{o:HO}:upd H a o a=some o:=by unfold upd; rw [if_pos rfl]
theorem jo {H:Hp}{a b:Addr}{o:HO} (h:b ≠ a):upd H a o b=H b:=by unfold upd; rw [if_neg h]
theorem Zb {H:Hp}{a:Addr}{o u:HO}:upd (upd H a o) a u=upd H a u:=by
 funext b; unfold upd; split <;> rfl
theorem apS {H:Hp}{a b:Addr}{o u:HO} (h:H a=some o) (h':H b=some u) (d:o ≠ u):a ≠ b:=by
 intro e; subst e; rw [h] at h'; exact d (Option.some.inj h')
theorem qE {H:Hp}{a b:Addr}{o:HO} (h:H a=some o) (h':H b=none):a ≠ b:=by
 intro e; subst e; rw [h] at h'; cases h'
section
variable (P:Program) (w:World)
noncomputable def qC (H:Hp) (h:Heap) (a:Addr):HO->Prop
 | .lst xs=>xs.length<=sizeLine/\∃ (its:List Value) (n:Nat),jG xs its/\h.get? a=some { cls:= .type "list",data:= .seq its.toArray n }
 | .tup xs=>xs.length<=sizeLine/\∃ its:List Value,jG xs its/\IsTup h a its.toArray
 | .dK kvs=>kvs.length<=sizeLine/\(a == sysModules)=false/\∃ vs,KV kvs vs/\h.DictOf (j5 P w) a vs
 | .dT kvs=>kvs.length<=sizeLine/\(a == sysModules)=false/\∃ xs:List (List Key × Addr × Value),
   Paired (fun (p:List Key × V) (q:List Key × Addr × Value)=>p.1=q.1/\H q.2.1=some (.tup (p.1.map kV))/\jK p.2 q.2.2) kvs xs/\
   ∃ o es ep,h.get? a=some o/\o.ExactDict/\o.data= .dict es ep/\es.toList=xs.map (entryOfKey (tupleKind (j5 P w)))/\(xs.map (·.1)).Nodup
 | .set S n=>h.SetOf (intKind P w) a S n
 | .ins C dx fs=>H dx=some (.own a)/\fs.length<=1000/\dx ≠ a/\h.get? a=some (PySem.W.instObj C dx)/\
   ∃ mA,h.Ns1 dx mA/\(∀ f,abd (fs.lookup f) (mA f))/\PySem.Within mA (fs.map (·.1))
 | .own _=>∃ o,h.get? a=some o
 | .xd fs=>∃ mA,h.Ns1 a mA/\∀ f,abd (fs.lookup f) (mA f)
 | .rng lo hi=>∃ t u v,h.get? a=some { cls:= .type "range",data:= .fields #[.int lo t,.int hi u,.int 1 v] }
 | .frz o u=>h.get? a=some o/\qC H h a u
 | .tbl ps=>h.get? a=some { cls:= .none,data:= .fields ps }
 | .met f x=>h.get? a=some (PySem.W.methodObj (.ref f) (.ref x))
 | .ext φ=>φ h/\(∃ o,h.get? a=some o)/\∀ h1 h2:Heap,φ h1->(∀ o,h1.get? a=some o->h2.get? a=some o)->φ h2
noncomputable def HOk (H:Hp) (h:Heap):Prop:=∀ a o,H a=some o->qC P w H h a o
end
section
variable {P:Program}{w:World}{H H':Hp}{h h':Heap}{a:Addr}{o:HO}
theorem qC.lt (x:qC P w H h a o):a<h.objs.size:=by
 cases o with
 | lst xs=>obtain ⟨_,_,_,_,e⟩:=x; exact Heap.lt_size e
 | tup xs=>obtain ⟨_,_,_,p⟩:=x; exact p.lt
 | dK kvs=>obtain ⟨_,_,_,_,o,_,_,e,_⟩:=x; exact Heap.lt_size e
 | dT kvs=>obtain ⟨_,_,_,_,o,_,_,e,_⟩:=x; exact Heap.lt_size e
 | set S n=>obtain ⟨o,_,_,_,e,_⟩:=x; exact Heap.lt_size e
 | ins C dx fs=>obtain ⟨_,_,_,e,_⟩:=x; exact Heap.lt_size e
 | own y=>obtain ⟨_,e⟩:=x; exact Heap.lt_size e
 | xd fs=>obtain ⟨_,⟨_,_,_,e,_⟩,_⟩:=x; exact Heap.lt_size e
 | rng lo hi=>obtain ⟨_,_,_,e⟩:=x; exact Heap.lt_size e
 | frz ob u=>obtain ⟨e,_⟩:=x; exact Heap.lt_size e
 | tbl ps=>exact Heap.lt_size (show h.get? a=some _ from x)
 | met f y=>exact Heap.lt_size (show h.get? a=some _ from x)
 | ext φ=>obtain ⟨_,⟨_,e⟩,_⟩:=x; exact Heap.lt_size e
theorem Paired.mapP {α β:Type}{F G:α->β->Prop}:∀ {l₁:List α}{l₂:List β},Paired F l₁ l₂->(∀ a b,F a b->G a b)->Paired G l₁ l₂
 | _,_,.nil,_=> .nil
 | _,_,.cons r t,f=> .cons (f _ _ r) (Paired.mapP t f)
theorem qC.stay (x:qC P w H h a o) (k:∀ b u,(b=a ∨ H b=some (.own a))->h.get? b=some u->h'.get? b=some u)
  (ho:∀ b,H b=some (.own a)->H' b=some (.own a)) (ht:∀ b xs,H b=some (.tup xs)->H' b=some (.tup xs)):qC P w H' h' a o:=by
 induction o with
 | lst xs=>obtain ⟨z,its,n,r,e⟩:=x; exact ⟨z,its,n,r,k _ _ (.inl rfl) e⟩
 | tup xs=>obtain ⟨z,its,r,ob,e,c⟩:=x; exact ⟨z,its,r,ob,k _ _ (.inl rfl) e,c⟩
 | dK kvs=>obtain ⟨z,y,vs,r,ob,es,ep,e,c⟩:=x; exact ⟨z,y,vs,r,ob,es,ep,k _ _ (.inl rfl) e,c⟩
 | dT kvs=>
  obtain ⟨z,y,xs,r,ob,es,ep,e,c⟩:=x
  exact ⟨z,y,xs,Paired.mapP r fun p q z=>⟨z.1,ht _ _ z.2.1,z.2.2⟩,ob,es,ep,k _ _ (.inl rfl) e,c⟩
 | set S n=>obtain ⟨ob,es,ep,t,e,c⟩:=x; exact ⟨ob,es,ep,t,k _ _ (.inl rfl) e,c⟩
 | ins C dx fs=>
  obtain ⟨d,z,ne,e,mA,⟨od,es,ep,e2,c⟩,r⟩:=x
  exact ⟨ho _ d,z,ne,k _ _ (.inl rfl) e,mA,⟨od,es,ep,k _ _ (.inr d) e2,c⟩,r⟩
 | own y=>obtain ⟨ob,e⟩:=x; exact ⟨ob,k _ _ (.inl rfl) e⟩
 | xd fs=>obtain ⟨mA,⟨od,es,ep,e,c⟩,r⟩:=x; exact ⟨mA,⟨od,es,ep,k _ _ (.inl rfl) e,c⟩,r⟩
 | rng lo hi=>obtain ⟨t,u,v,e⟩:=x; exact ⟨t,u,v,k _ _ (.inl rfl) e⟩
 | frz ob u ih=>obtain ⟨e,q⟩:=x; exact ⟨k _ _ (.inl rfl) e,ih q⟩
 | tbl ps=>
  have e:h.get? a=some { cls:= .none,data:= .fields ps }:=x
  show h'.get? a=some { cls:= .none,data:= .fields ps }
  exact k a _ (.inl rfl) e
 | met f y=>
  have e:h.get? a=some (PySem.W.methodObj (.ref f) (.ref y)):=x
  show h'.get? a=some (PySem.W.methodObj (.ref f) (.ref y))
  exact k a _ (.inl rfl) e
 | ext φ=>obtain ⟨p,⟨o,e⟩,st⟩:=x; exact ⟨st _ _ p fun o q=>k _ _ (.inl rfl) q,⟨o,k _ _ (.inl rfl) e⟩,st⟩
theorem HOk.lt (x:HOk P w H h) (e:H a=some o):a<h.objs.size:=(x a o e).lt
theorem HOk.fresh (x:HOk P w H h) (e:h.objs.size<=a):H a=none:=by
 cases q:H a with
 | none=>rfl
 | some u=>exact absurd (Nat.lt_of_lt_of_le (x.lt q) e) (Nat.lt_irrefl _)
theorem HOk.kept (x:HOk P w H h) (k:∀ b u,h.get? b=some u->h'.get? b=some u):HOk P w H h':=fun a o e=>
 (x a o e).stay (fun b u _ q=>k b u q) (fun _ q=>q) fun _ _ q=>q
theorem HOk.laid (x:HOk P w H h) (k:∀ b u,h.get? b=some u->h'.get? b=some u) (hp:h.objs.size<=a) (new:qC P w (upd H a o) h' a o):HOk P w (upd H a o) h':=fun b u e=>by
 have hn:=x.fresh hp
 by_cases hb:b=a
 ·subst hb; rw [jq] at e; cases e; exact new
 ·rw [jo hb] at e
  exact (x b u e).stay (fun c v _ q=>k c v q) (fun c q=>by rw [jo (qE q hn)]; exact q) fun c xs q=>by rw [jo (qE q hn)]; exact q
end
noncomputable def Rd (H:Hp) (a:Addr) (u:HO):Prop:=H a=some u ∨ ∃ o,H a=some (.frz o u)
theorem Rd.of {H:Hp}{a:Addr}{u:HO} (h:H a=some u):Rd H a u:= .inl h
theorem Rd.ok {P:Program}{w:World}{H:Hp}{h:Heap}{a:Addr}{u:HO} (r:Rd H a u) (x:HOk P w H h):qC P w H h a u:=by
 rcases r with r | ⟨o,r⟩
 ·exact x a u r
 ·obtain ⟨_,q⟩:=x a _ r
  exact q
noncomputable def Mut:Option HO->Prop
 | some (.lst _)=>True
 | some (.dK _)=>True
 | some (.dT _)=>True
 | some (.set _ _)=>True
 | some (.ins _ _ _)=>True
 | some (.ext _)=>True
 | _=>False
section
variable {P:Program}{w:World}{H:Hp}{h h':Heap}{x e:Addr}{o':HO}
theorem HOk.write (ok:HOk P w H h) (mu:Mut (H x)) (he:e=x ∨ H e=some (.own x)) (k:∀ b u,b ≠ e->h.get? b=some u->h'.get? b=some u) (heo:∃ u,h'.get? e=some u)
  (new:qC P w (upd H x o') h' x o'):HOk P w (upd H x o') h':=fun b u q=>by
 have nown:∀ c y,H c=some (.own y)->c ≠ x:=fun c y r z=>by subst z; rw [r] at mu; exact mu
 have ntup:∀ c xs,H c=some (.tup xs)->c ≠ x:=fun c xs r z=>by subst z; rw [r] at mu; exact mu
 by_cases hb:b=x
 ·subst hb; rw [jq] at q; cases q; exact new
 ·rw [jo hb] at q
  by_cases hbe:b=e
  ·have q':H b=some (.own x):=by
    rcases he with z | z
    ·exact absurd (hbe.trans z) hb
    ·rw [hbe]; exact z
   rw [q] at q'; cases q'
   obtain ⟨v,hv⟩:=heo
   exact ⟨v,by rw [hbe]; exact hv⟩
  ·refine (ok b u q).stay (fun c v hc r=>k c v ?_ r) (fun c r=>by rw [jo (nown c b r)]; exact r) fun c xs r=>by rw [jo (ntup c xs r)]; exact r
   rcases hc with rfl | hc
   ·exact hbe
   ·rintro rfl
    rcases he with z | z
    ·exact nown c b hc z
    ·rw [hc] at z; cases z; exact hb rfl
end
structure Un (fs ex:List Addr) (H H':Hp) (h h':Heap):Prop where
 keep:∀ b o,h.get? b=some o->H b=none->b ∉ fs->b ∉ ex->h'.get? b=some o
 slot:∀ b o,h.get? b=some o->H b=none->b ∈ fs->b ∉ ex->∃ sl,h'.get? b=some { o with slots:=sl }
 free:∀ b o,h.get? b=some o->H b=none->b ∉ ex->H' b=none
 there:∀ b o,h.get? b=some o->b ∉ ex->∃ o',h'.get? b=some o'
 tups:∀ b xs,H b=some (.tup xs)->H' b=some (.tup xs)
 frzs:∀ b o u,H b=some (.frz o u)->H' b=some (.frz o u)
 tbls:∀ b ps,H b=some (.tbl ps)->∃ more,H' b=some (.tbl (ps++more))
section
variable {fs fs' ex ex':List Addr}{H H1 H2:Hp}{h h1 h2 h':Heap}{a x e:Addr}{o:HO}
theorem Un.any (u:Un fs ex H H1 h h1) {b:Addr}{ob:Obj} (q:h.get? b=some ob) (n:H b=none) (hx:b ∉ ex):∃ sl,h1.get? b=some { ob with slots:=sl }:=by
 by_cases hb:b ∈ fs
 ·exact u.slot b ob q n hb hx
 ·exact ⟨ob.slots,u.keep b ob q n hb hx⟩
theorem Un.trans (a:Un fs ex H H1 h h1) (b:Un fs ex H1 H2 h1 h2):Un fs ex H H2 h h2 where
 keep:=fun c ob q n hc hx=>b.keep c ob (a.keep c ob q n hc hx) (a.free c ob q n hx) hc hx
 slot:=fun c ob q n hc hx=>by
  obtain ⟨sl,e1⟩:=a.slot c ob q n hc hx
  obtain ⟨sl',e2⟩:=b.slot c _ e1 (a.free c ob q n hx) hc hx
  exact ⟨sl',e2⟩
 free:=fun c ob q n hx=>by
  obtain ⟨o',e1⟩:=a.there c ob q hx
  exact b.free c o' e1 (a.free c ob q n hx) hx
 there:=fun c ob q hx=>by
  obtain ⟨o',e1⟩:=a.there c ob q hx
  exact b.there c o' e1 hx
 tups:=fun c xs q=>b.tups c xs (a.tups c xs q)
 frzs:=fun c ob xs q=>b.frzs c ob xs (a.frzs c ob xs q)
 tbls:=fun c ps q=>by
  obtain ⟨m1,e1⟩:=a.tbls c ps q
  obtain ⟨m2,e2⟩:=b.tbls c _ e1
  exact ⟨m1++m2,by rw [e2,Array.append_assoc]⟩
theorem Un.kept (k:∀ b u,h.get? b=some u->h'.get? b=some u):Un fs ex H H h h':=
 ⟨fun b ob q _ _ _=>k b ob q,fun b ob q _ _ _=>⟨ob.slots,k b ob q⟩,fun _ _ _ n _=>n,fun b ob q _=>⟨ob,k b ob q⟩,fun _ _ q=>q,fun _ _ _ q=>q,fun _ ps q=>⟨#[],by rw [q]; simp⟩⟩
theorem Un.refl:Un fs ex H H h h:=Un.kept fun _ _ q=>q
theorem Un.laid (k:∀ b u,h.get? b=some u->h'.get? b=some u) (hp:h.objs.size<=a) (hn:H a=none):Un fs ex H (upd H a o) h h' where
 keep:=fun b u q _ _ _=>k b u q
 slot:=fun b u q _ _ _=>⟨u.slots,k b u q⟩
 free:=fun b u q n _=>by rw [jo (Nat.ne_of_lt (Nat.lt_of_lt_of_le (Heap.lt_size q) hp))]; exact n
 there:=fun b u q _=>⟨u,k b u q⟩
 tups:=fun b xs q=>by rw [jo (qE q hn)]; exact q
 frzs:=fun b u xs q=>by rw [jo (qE q hn)]; exact q
 tbls:=fun b ps q=>⟨#[],by rw [jo (qE q hn),q]; simp⟩
theorem Un.write (mu:Mut (H x)) (he:e=x ∨ H e=some (.own x)) (k:∀ b u,b ≠ e->h.get? b=some u->h'.get? b=some u) (heo:∃ u,h'.get? e=some u):Un fs ex H (upd H x o) h h':=by
 have hx:∀ b,H b=none->b ≠ x:=fun b n z=>by subst z; rw [n] at mu; exact mu
 have hb:∀ b,H b=none->b ≠ e:=fun b n z=>by
  subst z
  rcases he with r | r
  ·exact hx b n r
  ·rw [n] at r; cases r
 have hm:∀ b u,H b=some u->¬ Mut (some u)->b ≠ x:=fun b u q nm z=>by subst z; rw [q] at mu; exact nm mu
 refine ⟨fun b u q n _ _=>k b u (hb b n) q,fun b u q n _ _=>⟨u.slots,k b u (hb b n) q⟩,fun b u q n _=>by rw [jo (hx b n)]; exact n,fun b u q _=>?_,
  fun b xs q=>by rw [jo (hm b _ q fun z=>z)]; exact q,fun b u xs q=>by rw [jo (hm b _ q fun z=>z)]; exact q,fun b ps q=>⟨#[],by rw [jo (hm b _ q fun z=>z),q]; simp⟩⟩
 by_cases hbe:b=e
 ·subst hbe; exact heo
 ·exact ⟨u,k b u hbe q⟩
theorem Un.mono (u:Un fs ex H H1 h h1) (hs:∀ b ∈ fs,b ∈ fs') (hx:∀ b ∈ ex,b ∈ ex'):Un fs' ex' H H1 h h1:=
 ⟨fun b ob q n hb he=>u.keep b ob q n (fun z=>hb (hs b z)) fun z=>he (hx b z),fun _ _ q n _ he=>u.any q n fun z=>he (hx _ z),fun b ob q n he=>u.free b ob q n fun z=>he (hx b z),fun b ob q he=>u.there b ob q fun z=>he (hx b z),u.tups,u.frzs,u.tbls⟩
end
noncomputable def trk (h:Heap) (H:Hp):List Addr:=(List.range h.objs.size).filter fun a=>(H a).isSome
noncomputable def adS (h:Heap) (H:Hp):Heap:=PySem.W.hideAll h (trk h H)
theorem aip (h:Heap) (H:Hp):(adS h H).objs.size=h.objs.size:=PySem.W.hideAll_size _ _
theorem ajJ {h:Heap}{H:Hp}{b:Addr}{o:Obj} (e:h.get? b=some o) (n:H b=none):(adS h H).get? b=some o:=
 PySem.W.hideAll_get _ e fun hm=>by
  have q:(H b).isSome=true:=(List.mem_filter.mp hm).2
  rw [n] at q; simp at q
theorem ami {h:Heap}{H:Hp}{b:Addr}{o:Obj} (e:(adS h H).get? b=some o):h.get? b=some o/\H b=none:=by
 have e':h.get? b=some o:=PySem.W.of_hideAll (trk h H) e
 refine ⟨e',?_⟩
 cases q:H b with
 | none=>rfl
 | some x=>
  have hm:b ∈ trk h H:=List.mem_filter.mpr ⟨List.mem_range.mpr (Heap.lt_size e'),by simp [q]⟩
  have z:(adS h H).get? b=none:=PySem.W.hideAll_none (trk h H) hm
  rw [z] at e; cases e
noncomputable def JI (g h:Heap) (L:Addr):List (Addr × Obj):=(List.range h.objs.size).filterMap fun a=>if a=L ∨ (g.get? a).isSome=true then none else (h.get? a).map fun o=>(a,o)
theorem aaY {g h:Heap}{L a:Addr}{o:Obj} (h1:a ≠ L) (h2:g.get? a=none) (h3:h.get? a=some o):(a,o) ∈ JI g h L:=
 List.mem_filterMap.mpr ⟨a,List.mem_range.mpr (Heap.lt_size h3),by simp [h1,h2,h3]⟩
theorem abz {g h:Heap}{L:Addr}{p:Addr × Obj} (hp:p ∈ JI g h L):p.1 ≠ L/\g.get? p.1=none/\h.get? p.1=some p.2:=by
 obtain ⟨b,_,e⟩:=List.mem_filterMap.mp hp
 split at e
 ·cases e
 ·rename_i hn
  cases q:h.get? b with
  | none=>rw [q] at e; simp at e
  | some u=>
   rw [q] at e
   simp only [zzE,Option.some.injEq] at e
   subst e
   refine ⟨fun z=>hn (.inl z),?_,q⟩
   show g.get? b=none
   cases r:g.get? b with
   | none=>rfl
   | some v=>exact (hn (.inr (by simp [r]))).elim
noncomputable def qh (g h:Heap) (L d:Addr):List (Addr × Obj):=(JI g h L).filter fun p=>decide (p.1 ≠ d)
theorem ajK {g h:Heap}{L:Addr}:News g L h (JI g h L):=fun p hp=>let ⟨a,b,c⟩:=abz hp; ⟨c,a,b⟩
structure Mod (K:Fg) (mg:SV) (base:Heap):Prop where
 kin:K.In base
 glob:base.Ns mainGlobals mg
 blt:∃ mb,base.Ns builtinsNs mb/\∀ x:Str,x ≠ "__name__"->mb x=bootBuiltins x
 nolimit:base.NoLimit
structure Cx where
 prog:Program
 w:World
 K:Fg
 mg:SV
 base:Heap
 A:Around
 N:List Str
 s₀:Shared
 H₀:Hp
 env:Env
 Ko:List Env
 stack:List Env
 ex:List Addr
 fn:Str->Bool
 calm:Bool
 pn:List (Addr × Obj)
 xe:Value->SP0
noncomputable def frs (l:List Env):List Addr:=l.filterMap (·.frame)
noncomputable abbrev Cx.fs (X:Cx):List Addr:=frs X.Ko
noncomputable def Vis (sc:Scope) (x:Str):Prop:=sc.names.lookup x=some .local ∨ sc.names.lookup x=some .cell ∨ sc.names.lookup x=some .free
noncomputable def Loc (sc:Scope) (x:Str):Prop:=sc.names.lookup x=some .local ∨ sc.names.lookup x=some .cell
noncomputable def aqZ (env:Env) (h:Heap) (m:SV) (x:Str) (u:Value):Prop:=
 (env.kindOf x=some .local/\m x=some u) ∨ ((env.kindOf x=some .cell ∨ env.kindOf x=some .free)/\∃ c,env.cells.lookup x=some c/\h.IsCell c (some u))
structure Cx.Ok (X:Cx):Prop where
 mod:Mod X.K X.mg X.base
 kind:X.env.scope.kind= .function
 glob:X.env.globals=mainGlobals
 blt:X.env.builtins=builtinsNs
 above:X.s₀.heap.objs.size<=X.env.locals
 inj:∀ x y c,X.env.cells.lookup x=some c->X.env.cells.lookup y=some c->x=y
 has:∀ x,(X.env.kindOf x=some .cell ∨ X.env.kindOf x=some .free)->∃ c,X.env.cells.lookup x=some c
 cab:∀ x c,X.fn x=true->X.env.cells.lookup x=some c->X.s₀.heap.objs.size<=c
 hd:X.calm=true->X.A.handled=none
 frames:X.A.frames=some X.stack
 stk:X.stack=X.Ko ∨ (X.stack=X.env::X.Ko/\X.env.frame=some X.env.locals)
 exf:∀ b ∈ X.ex,b ≠ X.env.locals/\∀ x c,X.env.cells.lookup x=some c->c ≠ b
 bs:∀ b o,X.base.get? b=some o->X.s₀.heap.get? b=some o/\X.H₀ b=none
 bsz:X.base.objs.size<=X.s₀.heap.objs.size
 noex:∀ b o,X.base.get? b=some o->b ∉ X.ex
 exfs:∀ b ∈ X.ex,b ∉ X.fs
 funs:X.s₀.heap.FunFrames X.base X.Ko
 frf:∀ b ∈ X.fs,X.H₀ b=none
structure Inv (X:Cx) (Kp:List (Addr × Obj)) (σ:List (Option V)) (H:Hp) (s:Shared):Prop where
 ok:X.Ok
 os:s.os=X.s₀.os
 bare:AllBare s.gens
 base:Un X.fs X.ex X.H₀ H X.s₀.heap s.heap
 loc:∃ m,s.heap.Ns X.env.locals m/\∀ (i:Nat) (x:Str) (v:V),X.N[i]?=some x->σ[i]?=some (some v)->Vis X.env.scope x->∃ u,jK v u/\aqZ X.env s.heap m x u
 cell:∀ x c,X.env.cells.lookup x=some c->∃ v,s.heap.IsCell c v
 free:H X.env.locals=none
 freeC:∀ x c,X.env.cells.lookup x=some c->H c=none
 pin:∀ p ∈ X.pn++Kp,s.heap.get? p.1=some p.2/\H p.1=none/\p.1 ≠ X.env.locals/\p.1 ∉ X.fs/\∀ v,p.2.data ≠ .cell v
 hok:HOk X.prog X.w H s.heap
 len:σ.length=X.N.length
section
variable {X:Cx}{Kp:List (Addr × Obj)}{σ:List (Option V)}{H H':Hp}{s:Shared}{h':Heap}
theorem Cx.Ok.nofr (ok:X.Ok) {b:Addr}{o:Obj} (e:X.base.get? b=some o):b ∉ X.fs:=fun hb=>by
 have:=(ok.funs.mem hb).1
 rw [e] at this; cases this
theorem Inv.bs (I:Inv X Kp σ H s):∀ b o,X.base.get? b=some o->s.heap.get? b=some o/\H b=none:=fun b o e=>
 ⟨I.base.keep b o (I.ok.bs b o e).1 (I.ok.bs b o e).2 (I.ok.nofr e) (I.ok.noex b o e),I.base.free b o (I.ok.bs b o e).1 (I.ok.bs b o e).2 (I.ok.noex b o e)⟩
theorem Inv.bk (I:Inv X Kp σ H s):∀ b o,X.base.get? b=some o->s.heap.get? b=some o:=fun b o e=>(I.bs b o e).1
theorem Inv.mod (I:Inv X Kp σ H s):Mod X.K X.mg X.base:=I.ok.mod
theorem Inv.kIn (I:Inv X Kp σ H s):X.K.In s.heap:=I.ok.mod.kin.keeps I.bk
theorem Inv.nolimit (I:Inv X Kp σ H s):s.heap.NoLimit:=I.ok.mod.nolimit.keeps I.bk
theorem Inv.fr (I:Inv X Kp σ H s):∃ m,Fr X.base X.env.locals s.heap m:=
 let ⟨m,hn,_⟩:=I.loc
 ⟨m,hn,I.bk,Nat.le_trans I.ok.bsz I.ok.above⟩
theorem Inv.lt (I:Inv X Kp σ H s):X.env.locals<s.heap.objs.size:=let ⟨_,hn,_⟩:=I.loc; hn.lt
theorem Inv.sz (I:Inv X Kp σ H s):X.s₀.heap.objs.size<=s.heap.objs.size:=Nat.le_trans I.ok.above (Nat.le_of_lt I.lt)
theorem Inv.nofs (I:Inv X Kp σ H s) {a:Addr} (h:s.heap.objs.size<=a):a ∉ X.fs:=fun hb=>by
 obtain ⟨_,o,ho,_⟩:=I.ok.funs.mem hb
 exact absurd (Nat.lt_of_lt_of_le (Heap.lt_size ho) (Nat.le_trans I.sz h)) (Nat.lt_irrefl _)
theorem Inv.cne (I:Inv X Kp σ H s):∀ x c,X.env.cells.lookup x=some c->c ≠ X.env.locals:=fun x c e z=>by
 obtain ⟨v,o,ho,hd⟩:=I.cell x c e
 obtain ⟨m,⟨o',es,ep,ho',hd',_⟩,_⟩:=I.loc
 rw [z,ho'] at ho; cases ho; rw [hd'] at hd; cases hd
theorem Inv.funs (I:Inv X Kp σ H s):s.heap.FunFrames X.base X.Ko:=by
 have all:∀ (l:List Env),(∀ b ∈ frs l,b ∈ X.fs)->X.s₀.heap.FunFrames X.base l->s.heap.FunFrames X.base l:=by
  intro l
  induction l with
  | nil=>intro _ _; trivial
  | cons env r ih=>
   intro hs hl
   obtain ⟨hk,⟨L,o,hf,hn,ho,hd⟩,hr⟩:=hl
   have hL:L ∈ X.fs:=hs L (by unfold frs; rw [List.filterMap_cons,hf]; exact List.mem_cons_self)
   obtain ⟨sl,e⟩:=I.base.slot L o ho (I.ok.frf L hL) hL fun z=>I.ok.exfs L z hL
   exact ⟨hk,⟨L,_,hf,hn,e,hd⟩,ih (fun b hb=>hs b (by unfold frs; rw [List.filterMap_cons,hf]; exact List.mem_cons_of_mem _ hb)) hr⟩
 exact all X.Ko (fun _ hb=>hb) I.ok.funs
theorem Inv.stack (I:Inv X Kp σ H s):s.heap.FunFrames X.base X.stack:=by
 rcases I.ok.stk with e | ⟨e,hf⟩
 ·rw [e]; exact I.funs
 ·rw [e]
  obtain ⟨m,hn,_⟩:=I.loc
  refine .cons (by rw [I.ok.kind]; decide) hf hn ?_ I.funs
  exact Heap.get?_none_of_le (Nat.le_trans I.ok.bsz I.ok.above)
theorem Inv.stkSub (I:Inv X Kp σ H s):∀ b ∈ frs X.stack,b ∈ X.env.locals::X.fs:=fun b hb=>by
 rcases I.ok.stk with e | ⟨e,hf⟩
 ·rw [e] at hb; exact List.mem_cons_of_mem _ hb
 ·rw [e] at hb
  unfold frs at hb
  rw [List.filterMap_cons,hf] at hb
  exact hb
theorem Inv.stkFree (I:Inv X Kp σ H s):∀ b ∈ frs X.stack,H b=none:=fun b hb=>by
 rcases List.mem_cons.mp (I.stkSub b hb) with e | hb
 ·rw [e]; exact I.free
 ·obtain ⟨_,o,ho,_⟩:=I.ok.funs.mem hb
  exact I.base.free b o ho (I.ok.frf b hb) fun z=>I.ok.exfs b z hb
theorem Inv.step {g':Array GenState}{t':Nat}{d':Drawn}{ch:List Addr} (I:Inv X Kp σ H s)
  (hch:∀ b ∈ ch,(b ∈ X.ex ∨ X.s₀.heap.objs.size<=b)/\b ≠ X.env.locals/\(∀ x c,X.env.cells.lookup x=some c->c ≠ b)/\∀ p ∈ X.pn++Kp,p.1 ≠ b)
  (keep:∀ b o,b ≠ X.env.locals->b ∉ X.fs->b ∉ ch->s.heap.get? b=some o->H b=none->h'.get? b=some o)
  (slot:∀ b o,b ≠ X.env.locals->b ∈ X.fs->b ∉ ch->s.heap.get? b=some o->H b=none->∃ sl,h'.get? b=some { o with slots:=sl }) (free:∀ b o,b ∉ ch->s.heap.get? b=some o->H b=none->H' b=none)
  (there:∀ b o,b ∉ ch->s.heap.get? b=some o->∃ o',h'.get? b=some o')
  (tups:∀ b xs,H b=some (.tup xs)->H' b=some (.tup xs)) (frzs:∀ b o u,H b=some (.frz o u)->H' b=some (.frz o u)) (tbls:∀ b ps,H b=some (.tbl ps)->∃ more,H' b=some (.tbl (ps++more)))
  (ns:∀ m,s.heap.Ns X.env.locals m->h'.Ns X.env.locals m) (hok:HOk X.prog X.w H' h') (hg:AllBare g'):
  Inv X Kp σ H' { s with heap:=h',gens:=g',drawn:=d',toks:=t' }:=by
 have neL:∀ b o,X.s₀.heap.get? b=some o->b ≠ X.env.locals:=fun b o e=>Nat.ne_of_lt (Nat.lt_of_lt_of_le (Heap.lt_size e) I.ok.above)
 have neC:∀ b o,X.s₀.heap.get? b=some o->b ∉ X.ex->b ∉ ch:=fun b o e hx hb=>by
  rcases (hch b hb).1 with z | z
  ·exact hx z
  ·exact absurd (Nat.lt_of_lt_of_le (Heap.lt_size e) z) (Nat.lt_irrefl _)
 have cellK:∀ x c,X.env.cells.lookup x=some c->∀ v,s.heap.IsCell c v->h'.IsCell c v:=fun x c e v ⟨o,ho,hd⟩=>by
  have nch:c ∉ ch:=fun z=>(hch c z).2.2.1 x c e rfl
  by_cases hc:c ∈ X.fs
  ·obtain ⟨sl,q⟩:=slot c o (I.cne x c e) hc nch ho (I.freeC x c e)
   exact ⟨_,q,hd⟩
  ·exact ⟨o,keep c o (I.cne x c e) hc nch ho (I.freeC x c e),hd⟩
 refine ⟨I.ok,I.os,hg,⟨fun b o e n hb hx=>?_,fun b o e n hb hx=>?_,fun b o e n hx=>?_,fun b o e hx=>?_,fun b xs e=>tups b xs (I.base.tups b xs e),fun b o xs e=>frzs b o xs (I.base.frzs b o xs e),fun b ps e=>?_⟩,?_,fun x c e=>?_,?_,fun x c e=>?_,fun p hp=>?_,hok,I.len⟩
 ·exact keep b o (neL b o e) hb (neC b o e hx) (I.base.keep b o e n hb hx) (I.base.free b o e n hx)
 ·obtain ⟨sl,e1⟩:=I.base.slot b o e n hb hx
  obtain ⟨sl',e2⟩:=slot b _ (neL b o e) hb (neC b o e hx) e1 (I.base.free b o e n hx)
  exact ⟨sl',e2⟩
 ·obtain ⟨o',e1⟩:=I.base.there b o e hx
  exact free b o' (neC b o e hx) e1 (I.base.free b o e n hx)
 ·obtain ⟨o',e1⟩:=I.base.there b o e hx
  exact there b o' (neC b o e hx) e1
 ·obtain ⟨m1,e1⟩:=I.base.tbls b ps e
  obtain ⟨m2,e2⟩:=tbls b _ e1
  exact ⟨m1++m2,by rw [e2,Array.append_assoc]⟩
 ·obtain ⟨m,hn,hl⟩:=I.loc
  refine ⟨m,ns m hn,fun i x v e1 e2 e3=>?_⟩
  obtain ⟨u,r,l⟩:=hl i x v e1 e2 e3
  refine ⟨u,r,?_⟩
  rcases l with l | ⟨k,c,e,z⟩
  ·exact .inl l
  ·exact .inr ⟨k,c,e,cellK x c e _ z⟩
 ·obtain ⟨v,z⟩:=I.cell x c e
  exact ⟨v,cellK x c e v z⟩
 ·obtain ⟨m,⟨o,_,_,ho,_⟩,_⟩:=I.loc
  exact free _ o (fun z=>(hch _ z).2.1 rfl) ho I.free
 ·obtain ⟨v,o,ho,hd⟩:=I.cell x c e
  exact free c o (fun z=>(hch c z).2.2.1 x c e rfl) ho (I.freeC x c e)
 ·obtain ⟨e,n,ne,nf,d⟩:=I.pin p hp
  have nch:p.1 ∉ ch:=fun z=>(hch p.1 z).2.2.2 p hp rfl
  exact ⟨keep p.1 p.2 ne nf nch e n,free p.1 p.2 nch e n,ne,nf,d⟩
theorem Inv.un {t':Nat} (I:Inv X Kp σ H s) (u:Un X.fs [] H H' s.heap h') (hok:HOk X.prog X.w H' h'):Inv X Kp σ H' { s with heap:=h',toks:=t' }:=by
 obtain ⟨m,⟨o,es,ep,ho,r⟩,_⟩:=id I.loc
 obtain ⟨sl,hL⟩:=u.any ho I.free (by simp)
 exact I.step (g':=s.gens) (d':=s.drawn) (ch:=[]) (fun _ z=>nomatch z) (fun b o _ hb _ e n=>u.keep b o e n hb (by simp)) (fun b o _ hb _ e n=>u.slot b o e n hb (by simp)) (fun b o _ e n=>u.free b o e n (by simp)) (fun b o _ e=>u.there b o e (by simp)) u.tups u.frzs u.tbls (fun m' hm=>by
  obtain ⟨o',es',ep',ho',r'⟩:=hm
  rw [ho] at ho'; cases ho'
  exact ⟨_,es',ep',hL,r'⟩) hok I.bare
theorem Inv.call {g':Array GenState}{t':Nat}{d':Drawn}{ch:List Addr} (I:Inv X Kp σ H s) (u:Un (frs X.stack) ch H H' s.heap h') (hok:HOk X.prog X.w H' h') (hg:AllBare g')
  (hch:∀ b ∈ ch,(b ∈ X.ex ∨ X.s₀.heap.objs.size<=b)/\b ≠ X.env.locals/\(∀ x c,X.env.cells.lookup x=some c->c ≠ b)/\∀ p ∈ X.pn++Kp,p.1 ≠ b):
  Inv X Kp σ H' { s with heap:=h',gens:=g',drawn:=d',toks:=t' }:=by
 obtain ⟨m,⟨o,es,ep,ho,r⟩,_⟩:=id I.loc
 obtain ⟨sl,hL⟩:=u.any ho I.free fun z=>(hch _ z).2.1 rfl
 exact I.step (ch:=ch) hch (fun b o hL hb hc e n=>u.keep b o e n (fun z=>(List.mem_cons.mp (I.stkSub b z)).elim hL hb) hc) (fun b o _ _ hc e n=>u.any e n hc) (fun b o hc e n=>u.free b o e n hc) (fun b o hc e=>u.there b o e hc) u.tups u.frzs u.tbls (fun m' hm=>by
  obtain ⟨o',es',ep',ho',r'⟩:=hm
  rw [ho] at ho'; cases ho'
  exact ⟨_,es',ep',hL,r'⟩) hok hg
theorem Inv.turned {t':Nat}{it:Addr} (I:Inv X Kp σ H s) (k:∀ b o,b ≠ it->s.heap.get? b=some o->h'.get? b=some o) (hn:H it=none) (hL:it ≠ X.env.locals)
  (h1:it ∈ X.ex ∨ X.s₀.heap.objs.size<=it) (h2:∀ x c,X.env.cells.lookup x=some c->c ≠ it) (h3:∀ p ∈ X.pn++Kp,p.1 ≠ it):Inv X Kp σ H { s with heap:=h',toks:=t' }:=by
 have nit:∀ b u,H b=some u->b ≠ it:=fun b u e z=>by rw [z,hn] at e; cases e
 refine I.step (g':=s.gens) (d':=s.drawn) (ch:=[it]) (fun b hb=>?_) (fun b o _ _ hc e _=>k b o (fun z=>hc (by simp [z])) e) (fun b o _ _ hc e _=>⟨o.slots,k b o (fun z=>hc (by simp [z])) e⟩) (fun _ _ _ _ n=>n)
  (fun b o hc e=>⟨o,k b o (fun z=>hc (by simp [z])) e⟩) (fun _ _ e=>e) (fun _ _ _ e=>e) (fun b ps e=>⟨#[],by rw [e]; simp⟩) (fun m hm=>?_) (fun b u e=>?_) I.bare
 ·have e:b=it:=by simpa using hb
  subst e
  exact ⟨h1,hL,h2,h3⟩
 ·obtain ⟨o,es,ep,ho,r⟩:=hm
  exact ⟨o,es,ep,k _ o (Ne.symm hL) ho,r⟩
 ·refine (I.hok b u e).stay (fun c v hc q=>k c v ?_ q) (fun _ q=>q) fun _ _ q=>q
  rcases hc with z | z
  ·rw [z]; exact nit b u e
  ·exact nit c _ z
theorem Inv.tok (I:Inv X Kp σ H s) (t:Nat):Inv X Kp σ H { s with toks:=t }:=I.un (h':=s.heap) (t':=t) Un.refl I.hok
theorem Inv.kept {t':Nat} (I:Inv X Kp σ H s) (k:∀ b u,s.heap.get? b=some u->h'.get? b=some u):Inv X Kp σ H { s with heap:=h',toks:=t' }:=I.un (Un.kept k) (I.hok.kept k)
theorem Inv.laid {a:Addr}{o:HO}{t':Nat} (I:Inv X Kp σ H s) (k:∀ b u,s.heap.get? b=some u->h'.get? b=some u) (hp:s.heap.objs.size<=a) (new:qC X.prog X.w (upd H a o) h' a o):
  Inv X Kp σ (upd H a o) { s with heap:=h',toks:=t' }:=I.un (Un.laid k hp (I.hok.fresh hp)) (I.hok.laid k hp new)
theorem Inv.write {x e:Addr}{o:HO}{t':Nat} (I:Inv X Kp σ H s) (mu:Mut (H x)) (he:e=x ∨ H e=some (.own x)) (k:∀ b u,b ≠ e->s.heap.get? b=some u->h'.get? b=some u) (heo:∃ u,h'.get? e=some u)
  (new:qC X.prog X.w (upd H x o) h' x o):Inv X Kp σ (upd H x o) { s with heap:=h',toks:=t' }:=I.un (Un.write mu he k heo) (I.hok.write mu he k heo new)
theorem Inv.pins_of {pins':List (Addr × Obj)} (I:Inv X Kp σ H s) (h:∀ p ∈ pins',s.heap.get? p.1=some p.2/\H p.1=none/\p.1 ≠ X.env.locals/\p.1 ∉ X.fs/\∀ v,p.2.data ≠ .cell v):Inv X pins' σ H s:=
 ⟨I.ok,I.os,I.bare,I.base,I.loc,I.cell,I.free,I.freeC,fun p hp=>(List.mem_append.mp hp).elim (fun z=>I.pin p (List.mem_append_left _ z)) (h p),I.hok,I.len⟩
theorem aeR {N:List Str} (hN:N.Nodup) {i j:Nat}{x:Str} (a:N[i]?=some x) (b:N[j]?=some x):i=j:=by
 obtain ⟨h1,e1⟩:=List.getElem?_eq_some_iff.mp a
 obtain ⟨h2,e2⟩:=List.getElem?_eq_some_iff.mp b
 exact (List.getElem_inj hN).mp (e1.trans e2.symm)
theorem ac0 {M:Model}{A:Around}{E:Value->SP0}{i:Nat}{x:Str}{v:V}{u:Value}{Q:Unit->SP0} (I:Inv X Kp σ H s) (hN:X.N.Nodup) (hi:X.N[i]?=some x) (hx:Loc X.env.scope x) (r:jK v u)
  (h:∀ s',Inv X Kp (σ.set i (some v)) H s'->(∃ a,Heap.SameBut a s.heap s'.heap/\(a=X.env.locals ∨ X.env.cells.lookup x=some a))->Q () s') (hf:X.fn x=true ∨ X.env.scope.names.lookup x=some .local:=by first | exact .inl rfl | exact .inr rfl | assumption):wpAny M A (storeName X.env x u) Q E s:=by
 obtain ⟨m,hn,hl⟩:=id I.loc
 have hcls:(X.env.scope.kind == .class || (X.env.scope.kind == .module && X.env.locals != X.env.globals))=false:=by rw [I.ok.kind]; rfl
 have hiσ:i < σ.length:=by rw [I.len]; exact (List.getElem?_eq_some_iff.mp hi).1
 have cne:=I.cne
 have tracked:∀ {a:Addr} {h':Heap},(∃ o,s.heap.get? a=some o/\H a=none)->Heap.SameBut a s.heap h'->HOk X.prog X.w H h':=fun {a h'} ha hs b ob e=>by
  obtain ⟨_,_,hfree⟩:=ha
  refine (I.hok b ob e).stay (fun c w' hc q=>(hs.2 c ?_).trans q) (fun _ q=>q) fun _ _ q=>q
  rintro rfl
  rcases hc with rfl | hc
  ·rw [hfree] at e; cases e
  ·rw [hfree] at hc; cases hc
 rcases hx with hk | hk
 ·refine wpAny_storeName_local hk hn (fun h' hn' hs=>?_) hcls
  obtain ⟨oL,_,_,hoL,_⟩:=id hn
  refine h _ ⟨I.ok,I.os,I.bare,⟨fun b o e n hb hx=>?_,fun b o e n hb hx=>?_,I.base.free,fun b o e hx=>?_,I.base.tups,I.base.frzs,I.base.tbls⟩,⟨_,hn',fun j y v' e1 e2 e3=>?_⟩,fun y c e=>?_,I.free,I.freeC,fun p hp=>?_,tracked ⟨oL,hoL,I.free⟩ hs,by simpa using I.len⟩ ⟨_,hs,.inl rfl⟩
  ·exact (hs.2 b (Nat.ne_of_lt (Nat.lt_of_lt_of_le (Heap.lt_size e) I.ok.above))).trans (I.base.keep b o e n hb hx)
  ·obtain ⟨sl,e1⟩:=I.base.slot b o e n hb hx
   exact ⟨sl,(hs.2 b (Nat.ne_of_lt (Nat.lt_of_lt_of_le (Heap.lt_size e) I.ok.above))).trans e1⟩
  ·obtain ⟨o',e1⟩:=I.base.there b o e hx
   exact ⟨o',(hs.2 b (Nat.ne_of_lt (Nat.lt_of_lt_of_le (Heap.lt_size e) I.ok.above))).trans e1⟩
  ·by_cases hj:j=i
   ·subst hj
    rw [hi] at e1; cases e1
    rw [List.getElem?_set_self hiσ] at e2
    cases e2
    exact ⟨u,r,.inl ⟨hk,by simp⟩⟩
   ·rw [List.getElem?_set_ne (Ne.symm hj)] at e2
    obtain ⟨u',r',q⟩:=hl j y v' e1 e2 e3
    refine ⟨u',r',?_⟩
    rcases q with ⟨k,e⟩ | ⟨k,c,e,z⟩
    ·refine .inl ⟨k,?_⟩
     have:y ≠ x:=fun e=>hj (aeR hN e1 (e ▸ hi))
     simp [this,e]
    ·exact .inr ⟨k,c,e,z.sameBut hs (cne y c e)⟩
  ·obtain ⟨w',z⟩:=I.cell y c e
   exact ⟨w',z.sameBut hs (cne y c e)⟩
  ·obtain ⟨e,n,ne,nf,d⟩:=I.pin p hp
   exact ⟨(hs.2 p.1 ne).trans e,n,ne,nf,d⟩
 ·have hfn:X.fn x=true:=by
   rcases hf with z | z
   ·exact z
   ·rw [z] at hk; cases hk
  obtain ⟨c,hc⟩:=I.ok.has x (.inl hk)
  obtain ⟨w',z⟩:=I.cell x c hc
  refine wpAny_storeName_cell I.ok.kind hk hc z (fun h' hc' hs=>?_)
  obtain ⟨oc,hoc,hocd⟩:=id z
  refine h { s with heap:=h' } ⟨I.ok,I.os,I.bare,⟨fun b o e n hb hx=>?_,fun b o e n hb hx=>?_,I.base.free,fun b o e hx=>?_,I.base.tups,I.base.frzs,I.base.tbls⟩,⟨m,hn.sameBut hs (Ne.symm (cne x c hc)),fun j y v' e1 e2 e3=>?_⟩,fun y c' e=>?_,I.free,I.freeC,fun p hp=>?_,tracked ⟨oc,hoc,I.freeC x c hc⟩ hs,by simpa using I.len⟩ ⟨c,hs,.inr hc⟩
  ·exact (hs.2 b (Nat.ne_of_lt (Nat.lt_of_lt_of_le (Heap.lt_size e) (I.ok.cab x c hfn hc)))).trans (I.base.keep b o e n hb hx)
  ·obtain ⟨sl,e1⟩:=I.base.slot b o e n hb hx
   exact ⟨sl,(hs.2 b (Nat.ne_of_lt (Nat.lt_of_lt_of_le (Heap.lt_size e) (I.ok.cab x c hfn hc)))).trans e1⟩
  ·obtain ⟨o',e1⟩:=I.base.there b o e hx
   exact ⟨o',(hs.2 b (Nat.ne_of_lt (Nat.lt_of_lt_of_le (Heap.lt_size e) (I.ok.cab x c hfn hc)))).trans e1⟩
  ·by_cases hj:j=i
   ·subst hj
    rw [hi] at e1; cases e1
    rw [List.getElem?_set_self hiσ] at e2
    cases e2
    exact ⟨u,r,.inr ⟨.inl hk,c,hc,hc'⟩⟩
   ·rw [List.getElem?_set_ne (Ne.symm hj)] at e2
    obtain ⟨u',r',q⟩:=hl j y v' e1 e2 e3
    refine ⟨u',r',?_⟩
    rcases q with q | ⟨k,c',e,z'⟩
    ·exact .inl q
    ·refine .inr ⟨k,c',e,z'.sameBut hs ?_⟩
     rintro rfl
     exact hj (aeR hN e1 (I.ok.inj _ _ _ e hc ▸ hi))
  ·by_cases hcc:c'=c
   ·subst hcc; exact ⟨_,hc'⟩
   ·obtain ⟨w2,z2⟩:=I.cell y c' e
    exact ⟨w2,z2.sameBut hs hcc⟩
  ·obtain ⟨e,n,ne,nf,d⟩:=I.pin p hp
   refine ⟨(hs.2 p.1 ?_).trans e,n,ne,nf,d⟩
   intro q
   rw [q,hoc] at e
   have q':oc=p.2:=Option.some.inj e
   exact d w' (by rw [←q']; exact hocd)
theorem aeS {M:Model}{A:Around}{E:Value->SP0}{i:Nat}{x:Str}{v:V}{u:Value}{Q:Unit->SP0} (I:Inv X Kp σ H s) (hN:X.N.Nodup) (hi:X.N[i]?=some x) (hx:Loc X.env.scope x) (r:jK v u)
  (h:∀ s',Inv X Kp (σ.set i (some v)) H s'->Q () s') (hf:X.fn x=true ∨ X.env.scope.names.lookup x=some .local:=by first | exact .inl rfl | exact .inr rfl | assumption):wpAny M A (storeName X.env x u) Q E s:=
 ac0 I hN hi hx r (fun s' I' _=>h s' I') hf
theorem Inv.call' {s':Shared}{ch:List Addr} (I:Inv X Kp σ H s) (ho:s'.os=s.os) (u:Un (frs X.stack) ch H H' s.heap s'.heap) (hok:HOk X.prog X.w H' s'.heap) (hg:AllBare s'.gens)
  (hch:∀ b ∈ ch,(b ∈ X.ex ∨ X.s₀.heap.objs.size<=b)/\b ≠ X.env.locals/\(∀ x c,X.env.cells.lookup x=some c->c ≠ b)/\∀ p ∈ X.pn++Kp,p.1 ≠ b):Inv X Kp σ H' s':=by
 obtain ⟨h',g',d',t',o'⟩:=s'
 have e:o'=s.os:=ho
 subst e
 exact I.call (g':=g') (t':=t') (d':=d') u hok hg hch
end
noncomputable abbrev XK:=Value->Option Addr->Hp->Prop
noncomputable abbrev St:=List (Option V)
noncomputable abbrev VK:=V->Hp->Prop
noncomputable abbrev TE:=St->Hp->VK->Prop
noncomputable abbrev TT:=St->Hp->(Bool->Hp->Prop)->Prop
noncomputable abbrev TA:=St->Hp->(List V->Hp->Prop)->Prop
structure Ends where
 nx:St->Hp->Prop
 rt:VK
 bk:St->Hp->Prop:=fun _ _=>False
 ct:St->Hp->Prop:=fun _ _=>False
noncomputable abbrev TS:=Ends->St->Hp->Prop
noncomputable def EP (X:Cx) (Kp:List (Addr × Obj)) (σ:St) (Q:VK) (u:Value) (s':Shared):Prop:=∃ v H',Inv X Kp σ H' s'/\jK v u/\Q v H'
noncomputable def TP (X:Cx) (Kp:List (Addr × Obj)) (σ:St) (Q:Bool->Hp->Prop) (b:Bool) (s':Shared):Prop:=∃ H',Inv X Kp σ H' s'/\Q b H'
noncomputable def AP (X:Cx) (Kp:List (Addr × Obj)) (σ:St) (Q:List V->Hp->Prop) (us:List Value) (s':Shared):Prop:=∃ vs H',Inv X Kp σ H' s'/\jG vs us/\Q vs H'
noncomputable def SP (X:Cx) (Kp:List (Addr × Obj)) (D:Ends) (f:Flow) (s':Shared):Prop:=
 match f with
 | .next=>∃ σ' H',Inv X Kp σ' H' s'/\D.nx σ' H'
 | .brk=>∃ σ' H',Inv X Kp σ' H' s'/\D.bk σ' H'
 | .cont=>∃ σ' H',Inv X Kp σ' H' s'/\D.ct σ' H'
 | .ret u=>∃ v σ' H',Inv X Kp σ' H' s'/\jK v u/\D.rt v H'
noncomputable def PE (X:Cx) (e:Expr) (t:TE):Prop:=
 ∀ (Kp:List (Addr × Obj)) (s:Shared) (σ:St) (H:Hp) (Q:VK),Inv X Kp σ H s->t σ H Q->wpAny (model X.prog X.w) X.A (eval e X.env) (EP X Kp σ Q) X.xe s
noncomputable def PT (X:Cx) (e:Expr) (t:TT):Prop:=
 ∀ (Kp:List (Addr × Obj)) (s:Shared) (σ:St) (H:Hp) (Q:Bool->Hp->Prop),Inv X Kp σ H s->t σ H Q->wpAny (model X.prog X.w) X.A (isTrue e X.env (eval e X.env)) (TP X Kp σ Q) X.xe s
noncomputable def PW (X:Cx) (e:Expr) (t:TT):Prop:=
 ∀ (whole:Sem Value) (Kp:List (Addr × Obj)) (s:Shared) (σ:St) (H:Hp) (Q:Bool->Hp->Prop),Inv X Kp σ H s->t σ H Q->wpAny (model X.prog X.w) X.A (isTrue e X.env whole) (TP X Kp σ Q) X.xe s
theorem PW.pt {X:Cx}{e:Expr}{t:TT} (h:PW X e t):PT X e t:=h _
noncomputable def PA (X:Cx) (es:List Expr) (t:TA):Prop:=
 ∀ (pos:Pos) (Kp:List (Addr × Obj)) (s:Shared) (σ:St) (H:Hp) (Q:List V->Hp->Prop),Inv X Kp σ H s->t σ H Q->wpAny (model X.prog X.w) X.A (spliced (backTo pos (starEach es X.env))) (AP X Kp σ Q) X.xe s
noncomputable def PS (X:Cx) (st:Stmt) (t:TS):Prop:=
 ∀ (Kp:List (Addr × Obj)) (s:Shared) (σ:St) (H:Hp) (D:Ends),Inv X Kp σ H s->t D σ H->wpAny (model X.prog X.w) X.A (exec st X.env) (SP X Kp D) X.xe s
noncomputable def PSs (X:Cx) (st:List Stmt) (t:TS):Prop:=
 ∀ (Kp:List (Addr × Obj)) (s:Shared) (σ:St) (H:Hp) (D:Ends),Inv X Kp σ H s->t D σ H->wpAny (model X.prog X.w) X.A (execs st X.env) (SP X Kp D) X.xe s
theorem thn {α:Type}{t:Sem α}{Q Q':α->SP0}{M:Model}{A:Around}{E:Value->SP0}{s:Shared} (h:wpAny M A t Q E s) (hQ:∀ a s,Q a s->Q' a s):wpAny M A t Q' E s:=wpAny_mono h hQ fun _ _ x=>x
section
variable {X:Cx}
theorem bin {a b:Expr}{ta tb:TE} (ha:PE X a ta) (hb:PE X b tb) {Kp:List (Addr × Obj)}{s:Shared}{σ:St}{H:Hp}{R:V->V->Hp->Prop} (I:Inv X Kp σ H s) (h:ta σ H fun x H1=>tb σ H1 fun y H2=>R x y H2)
  {α:Type} {Q:α->SP0} {f:Value->Value->Sem α}
  (hf:∀ v u s2 x y H2,Inv X Kp σ H2 s2->jK x v->jK y u->R x y H2->wpAny (model X.prog X.w) X.A (f v u) Q X.xe s2):
  wpAny (model X.prog X.w) X.A (eval a X.env) (fun v s₁=>wpAny (model X.prog X.w) X.A (eval b X.env) (fun u s₂=>wpAny (model X.prog X.w) X.A (f v u) Q X.xe s₂) X.xe s₁) X.xe s:=by
 refine thn (ha Kp s σ H _ I h) fun v s1 ⟨x,H1,I1,r1,q1⟩=>?_
 refine thn (hb Kp s1 σ H1 _ I1 q1) fun u s2 ⟨y,H2,I2,r2,q2⟩=>?_
 exact hf v u s2 x y H2 I2 r1 r2 q2
noncomputable def apT (i:Nat):TE:=fun σ H Q=>∃ v,σ[i]?=some (some v)/\Q v H
noncomputable def tC (v:V):TE:=fun _ H Q=>Q v H
theorem abA {i:Nat}{x:Str}{pos:Pos} (hN:X.N[i]?=some x) (hv:Vis X.env.scope x) (hd:(x == ("__debug__":Str))=false:=by decide) (hcd:(x == ("__classdict__":Str))=false:=by decide):PE X (.Name x pos) (apT i):=by
 intro Kp s σ H Q I h
 obtain ⟨v,e,h⟩:=h
 obtain ⟨m,hn,hl⟩:=I.loc
 obtain ⟨u,r,l⟩:=hl i x v hN e hv
 have fin:EP X Kp σ Q u s:=⟨v,H,I,r,h⟩
 rcases l with ⟨hk,hm⟩ | ⟨hk,c,hc,hcell⟩
 ·exact wpAny_Name (wpAny_loadName_local I.ok.kind hk hn hm fin) hd
 ·rcases hk with hk | hk
  ·exact wpAny_Name (wpAny_loadName_cell I.ok.kind hk hc hcell fin) hd
  ·exact wpAny_Name (wpAny_loadName_free I.ok.kind hk hc hcell fin hcd) hd
theorem aoh {i j pos}:PE X (.Constant (.int i) j pos) (tC (.int i)):=fun _ _ _ H _ I h=>wpAny_Constant_int ⟨.int i,H,I.tok _,⟨_,rfl⟩,h⟩
theorem apU {b j pos}:PE X (.Constant (.bool b) j pos) (tC (.bl b)):=fun _ _ _ H _ I h=>Constant_bool ⟨.bl b,H,I,rfl,h⟩
theorem aoi {j pos}:PE X (.Constant .none j pos) (tC .non):=fun _ _ _ H _ I h=>Constant_none ⟨.non,H,I,rfl,h⟩
theorem aoj {x j pos}:PE X (.Constant (.str x) j pos) (tC (.str x)):=fun _ _ _ H _ I h=>Calls.Constant_str ⟨.str x,H,I.tok _,⟨_,rfl⟩,h⟩
noncomputable def Gl (X:Cx) (x:Str):Prop:=X.env.kindOf x=some .globalImplicit
theorem ahn {E:Value->SP0}{Kp:List (Addr × Obj)}{s:Shared}{σ:St}{H:Hp}{x:Str}{u:Value}{pos:Pos}{Q:Value->SP0} (I:Inv X Kp σ H s) (hg:Gl X x) (hm:X.mg x=some u) (h:Q u s)
  (hd:(x == ("__debug__":Str))=false:=by decide):wpAny (model X.prog X.w) X.A (eval (.Name x pos) X.env) Q E s:=
 Calls.Name_function_global I.ok.kind hg (Calls.loadGlobal_global (by rw [I.ok.glob]; exact I.mod.glob.keeps I.bk) hm h) hd
theorem Zx {E:Value->SP0}{Kp:List (Addr × Obj)}{s:Shared}{σ:St}{H:Hp}{x:Str}{u:Value}{pos:Pos}{Q:Value->SP0} (I:Inv X Kp σ H s) (hg:Gl X x) (hm:X.mg x=none) (hv:bootBuiltins x=some u) (h:Q u s)
  (hn:x ≠ "__name__":=by decide) (hd:(x == ("__debug__":Str))=false:=by decide):wpAny (model X.prog X.w) X.A (eval (.Name x pos) X.env) Q E s:=by
 obtain ⟨mb,h1,h2⟩:=I.mod.blt
 exact Calls.Name_function_global I.ok.kind hg (Calls.loadGlobal_builtin (by rw [I.ok.glob]; exact I.mod.glob.keeps I.bk) hm (by rw [I.ok.blt]; exact h1.keeps I.bk) ((h2 x hn).trans hv) h) hd
theorem amj {x:Str}{v:V}{u:Value}{pos:Pos} (hg:Gl X x) (hm:X.mg x=some u) (r:jK v u) (hd:(x == ("__debug__":Str))=false:=by decide):PE X (.Name x pos) (tC v):=
 fun _ _ _ H _ I h=>ahn I hg hm ⟨v,H,I,r,h⟩ hd
theorem aho {x:Str}{v:V}{u:Value}{pos:Pos} (hg:Gl X x) (hm:X.mg x=none) (hv:bootBuiltins x=some u) (r:jK v u) (hn:x ≠ "__name__":=by decide) (hd:(x == ("__debug__":Str))=false:=by decide):PE X (.Name x pos) (tC v):=
 fun _ _ _ H _ I h=>Zx I hg hm hv ⟨v,H,I,r,h⟩ hn hd
variable {a b:Expr}{ta tb:TE}{pos:Pos}
noncomputable def PC (X:Cx) (op:CmpOp) (a b:Expr) (t:TE):Prop:=
 ∀ (Kp:List (Addr × Obj)) (s:Shared) (σ:St) (H:Hp) (Q:VK),Inv X Kp σ H s->t σ H Q->
  wpAny (model X.prog X.w) X.A (eval a X.env) (fun v s₁=>wpAny (model X.prog X.w) X.A (eval b X.env) (fun u s₂=>wpAny (model X.prog X.w) X.A (compareOp op v u) (EP X Kp σ Q) X.xe s₂) X.xe s₁) X.xe s
theorem ajL (b:Expr) {op:CmpOp} (h:op ≠ .In) (h2:op ≠ .NotIn):behindInMarks op b=false:=by
 have e1:(op == CmpOp.In)=false:=by cases op <;> first | rfl | exact absurd rfl h
 have e2:(op == CmpOp.NotIn)=false:=by cases op <;> first | rfl | exact absurd rfl h2
 cases b <;> simp [behindInMarks,e1,e2]
noncomputable def tB (t:TE):TT:=fun σ H Q=>t σ H fun x H1=>∃ c,x= .bl c/\Q c H1
theorem aok {op:CmpOp}{t:TE} (h:PC X op a b t) (h1:behindInMarks op b=false:=by first | exact ajL _ (by decide) (by decide) | rfl):PT X (.Compare a [op] [b] pos) (tB t):=by
 intro Kp s σ H Q I hw
 refine wpAny_isTrue_Compare1 (thn (h Kp s σ H _ I hw) fun v s1 h1=>thn h1 fun u s2 h2=>thn h2 fun c s3 ⟨x,H1,I1,r1,q1⟩=>?_) h1
 obtain ⟨d,rfl,q⟩:=q1
 cases r1
 exact wpAny_truthy_bool ⟨H1,I1,q⟩
theorem aol {e:Expr}{t:TE} (h:PE X e t) (he:∀ whole,isTrue e X.env whole=(do let v ←whole; standAt e.pos; holding [v] (truthy v)):=by intro _; rfl):PT X e (tB t):=by
 intro Kp s σ H Q I hw
 refine isTrue_plain (thn (h Kp s σ H _ I hw) fun v s1 ⟨x,H1,I1,r1,q1⟩=>?_) (he _)
 obtain ⟨d,rfl,q⟩:=q1
 cases r1
 exact wpAny_truthy_bool ⟨H1,I1,q⟩
variable {tA tB':TT}{qh:List Expr}
noncomputable def aq0 (t u:TT):TT:=fun σ H Q=>t σ H fun c H1=>if c=true then u σ H1 Q else Q false H1
noncomputable def tOr (t u:TT):TT:=fun σ H Q=>t σ H fun c H1=>if c=true then Q true H1 else u σ H1 Q
noncomputable def aq1 (t:TT):TT:=fun σ H Q=>t σ H fun c H1=>Q (!c) H1
theorem amk (ha:PT X a tA):PW X (.BoolOp .And [a] pos) tA:=by
 intro wh Kp s σ H Q I h
 refine isTrue_and (thn (ha Kp s σ H Q I h) fun c s1 e=>?_)
 cases c with
 | true=>exact isTrue_and_nil e
 | false=>exact e
theorem aom (ha:PT X a tA):PW X (.BoolOp .Or [a] pos) tA:=by
 intro wh Kp s σ H Q I h
 refine isTrue_or (thn (ha Kp s σ H Q I h) fun c s1 e=>?_)
 cases c with
 | false=>exact isTrue_or_nil e
 | true=>exact e
theorem aon (ha:PT X a tA) (hb:PW X (.BoolOp .And (b::qh) pos) tB'):PW X (.BoolOp .And (a::b::qh) pos) (aq0 tA tB'):=by
 intro wh Kp s σ H Q I h
 refine isTrue_and (thn (ha Kp s σ H _ I h) fun c s1 ⟨H1,I1,q1⟩=>?_)
 cases c with
 | true=>exact hb wh Kp s1 σ H1 Q I1 q1
 | false=>exact ⟨H1,I1,q1⟩
theorem apV (ha:PT X a tA) (hb:PW X (.BoolOp .Or (b::qh) pos) tB'):PW X (.BoolOp .Or (a::b::qh) pos) (tOr tA tB'):=by
 intro wh Kp s σ H Q I h
 refine isTrue_or (thn (ha Kp s σ H _ I h) fun c s1 ⟨H1,I1,q1⟩=>?_)
 cases c with
 | true=>exact ⟨H1,I1,q1⟩
 | false=>exact hb wh Kp s1 σ H1 Q I1 q1
theorem aoo (ha:PT X a tA):PT X (.UnaryOp .Not a pos) (aq1 tA):=by
 intro Kp s σ H Q I h
 exact isTrue_not (ha Kp s σ H (fun c H1=>Q (!c) H1) I h)
noncomputable def apW (ta tb:TE):TE:=fun σ H Q=>ta σ H fun x H1=>∃ c,x= .bl c/\if c=true then tb σ H1 Q else Q (.bl false) H1
noncomputable def aq2 (ta tb:TE):TE:=fun σ H Q=>ta σ H fun x H1=>∃ c,x= .bl c/\if c=true then Q (.bl true) H1 else tb σ H1 Q
theorem aop {op}{t:TE} (h:PE X a t):PE X (.BoolOp op [a] pos) t:=fun Kp s σ H Q I hw=>BoolOp_one (h Kp s σ H Q I hw)
theorem aoq (ha:PE X a ta) (hb:PE X (.BoolOp .And (b::qh) pos) tb):PE X (.BoolOp .And (a::b::qh) pos) (apW ta tb):=by
 intro Kp s σ H Q I h
 refine BoolOp_and (thn (ha Kp s σ H _ I h) fun v s1 ⟨x,H1,I1,r1,q1⟩=>?_)
 obtain ⟨c,rfl,q1⟩:=q1
 cases r1
 refine wpAny_truthy_bool ?_
 cases c with
 | true=>exact hb Kp s1 σ H1 Q I1 q1
 | false=>exact ⟨.bl false,H1,I1,rfl,q1⟩
theorem apX (ha:PE X a ta) (hb:PE X (.BoolOp .Or (b::qh) pos) tb):PE X (.BoolOp .Or (a::b::qh) pos) (aq2 ta tb):=by
 intro Kp s σ H Q I h
 refine BoolOp_or (thn (ha Kp s σ H _ I h) fun v s1 ⟨x,H1,I1,r1,q1⟩=>?_)
 obtain ⟨c,rfl,q1⟩:=q1
 cases r1
 refine wpAny_truthy_bool ?_
 cases c with
 | false=>exact hb Kp s1 σ H1 Q I1 q1
 | true=>exact ⟨.bl true,H1,I1,rfl,q1⟩
noncomputable def tIf (t:TT) (ta tb:TE):TE:=fun σ H Q=>t σ H fun c H1=>if c=true then ta σ H1 Q else tb σ H1 Q
theorem ajM {c:Expr} (hc:PT X c tA) (ha:PE X a ta) (hb:PE X b tb):PE X (.IfExp c a b pos) (tIf tA ta tb):=by
 intro Kp s σ H Q I h
 refine wpAny_IfExp (thn (hc Kp s σ H _ I h) fun d s1 ⟨H1,I1,q1⟩=>?_)
 cases d with
 | true=>exact ha Kp s1 σ H1 Q I1 q1
 | false=>exact hb Kp s1 σ H1 Q I1 q1
end
noncomputable def SqL (K:Fg) (H:Hp) (a:Addr) (xs:List V):Prop:=
 Rd H a (.lst xs) ∨
  ∃ (o:Obj) (its:Array Value) (n:Nat),K.lookup a=some o/\o.cls= .type "list"/\o.dict=none/\o.data= .seq its n/\its.size<=sizeLine/\jG xs its.toList
noncomputable def SqT (K:Fg) (H:Hp) (a:Addr) (xs:List V):Prop:=
 Rd H a (.tup xs) ∨
  ∃ (o:Obj) (its:Array Value) (n:Nat),K.lookup a=some o/\o.cls= .type "tuple"/\o.data= .seq its n/\its.size<=sizeLine/\jG xs its.toList
noncomputable def aq3:Value->Option V
 | .none=>some .non
 | .bool b=>some (.bl b)
 | .int i _=>some (.int i)
 | .str x _=>some (.str x)
 | .bytes b _=>some (.byt b)
 | .float b _=>some (.flt b)
 | .ref a=>some (.ref a)
 | .type n=>some (.ty n)
 | _=>none
theorem jK.abs {x:V}{u:Value} (r:jK x u):aq3 u=some x:=by
 cases x with
 | non=>cases r; rfl
 | bl _=>cases r; rfl
 | int _=>obtain ⟨t,rfl⟩:=r; rfl
 | str _=>obtain ⟨t,rfl⟩:=r; rfl
 | byt _=>obtain ⟨t,rfl⟩:=r; rfl
 | flt _=>obtain ⟨t,rfl⟩:=r; rfl
 | ref _=>cases r; rfl
 | ty _=>cases r; rfl
theorem jK.inj {x y:V}{u:Value} (r:jK x u) (q:jK y u):x=y:=Option.some.inj (r.abs.symm.trans q.abs)
theorem jG.inj:∀ {xs ys:List V}{us:List Value},jG xs us->jG ys us->xs=ys
 | _,_,_,.nil,.nil=>rfl
 | _,_,_,.cons r t,.cons r' t'=>by rw [r.inj r',jG.inj t t']
section
variable {X:Cx}{Kp:List (Addr × Obj)}{σ:St}{H:Hp}{s:Shared}{a:Addr}{xs ys:List V}
theorem SqL.of {K:Fg} (h:H a=some (.lst xs)):SqL K H a xs:= .inl (.inl h)
theorem SqT.of {K:Fg} (h:H a=some (.tup xs)):SqT K H a xs:= .inl (.inl h)
theorem Inv.list (I:Inv X Kp σ H s) (h:SqL X.K H a xs):∃ its:List Value,jG xs its/\PlainL s.heap a its.toArray/\xs.length<=sizeLine:=by
 rcases h with h | ⟨o,its,n,hk,hc,hd,hs,hz,r⟩
 ·obtain ⟨z,its,n,r,e⟩:=h.ok I.hok
  exact ⟨its,r,⟨_,n,e,rfl,rfl,rfl⟩,z⟩
 ·refine ⟨its.toList,r,⟨o,n,I.kIn a o hk,hc,hd,by simpa using hs⟩,?_⟩
  have e:=r.length
  simp only [Array.length_toList] at e
  omega
theorem Inv.tuple (I:Inv X Kp σ H s) (h:SqT X.K H a xs):∃ its:List Value,jG xs its/\IsTup s.heap a its.toArray/\xs.length<=sizeLine:=by
 rcases h with h | ⟨o,its,n,hk,hc,hs,hz,r⟩
 ·obtain ⟨z,its,r,p⟩:=h.ok I.hok
  exact ⟨its,r,p,z⟩
 ·refine ⟨its.toList,r,⟨o,I.kIn a o hk,hc,n,by simpa using hs⟩,?_⟩
  have e:=r.length
  simp only [Array.length_toList] at e
  omega
theorem Inv.list_inj (I:Inv X Kp σ H s) (h:SqL X.K H a xs) (h':SqL X.K H a ys):xs=ys:=by
 obtain ⟨its,r,⟨o,n,e,_,_,d⟩,_⟩:=I.list h
 obtain ⟨its',r',⟨o',n',e',_,_,d'⟩,_⟩:=I.list h'
 rw [e] at e'; cases e'
 rw [d] at d'
 injection d' with d1 _
 have:its=its':=by simpa using congrArg Array.toList d1
 subst this
 exact r.inj r'
theorem Inv.tuple_inj (I:Inv X Kp σ H s) (h:SqT X.K H a xs) (h':SqT X.K H a ys):xs=ys:=by
 obtain ⟨its,r,⟨o,e,_,n,d⟩,_⟩:=I.tuple h
 obtain ⟨its',r',⟨o',e',_,n',d'⟩,_⟩:=I.tuple h'
 rw [e] at e'; cases e'
 rw [d] at d'
 injection d' with d1 _
 have:its=its':=by simpa using congrArg Array.toList d1
 subst this
 exact r.inj r'
end
noncomputable abbrev Cx.wish (X:Cx) (E:Value->SP0):Cx:={ X with xe:=E }
noncomputable abbrev Cx.nox (X:Cx):Cx:=X.wish fun _ _=>False
theorem Cx.Ok.wish {X:Cx} (ok:X.Ok) (E:Value->SP0):(X.wish E).Ok:=
 ⟨ok.mod,ok.kind,ok.glob,ok.blt,ok.above,ok.inj,ok.has,ok.cab,ok.hd,ok.frames,ok.stk,ok.exf,ok.bs,ok.bsz,ok.noex,ok.exfs,ok.funs,ok.frf⟩
theorem Cx.Ok.unwish {X:Cx}{E:Value->SP0} (ok:(X.wish E).Ok):X.Ok:=
 ⟨ok.mod,ok.kind,ok.glob,ok.blt,ok.above,ok.inj,ok.has,ok.cab,ok.hd,ok.frames,ok.stk,ok.exf,ok.bs,ok.bsz,ok.noex,ok.exfs,ok.funs,ok.frf⟩
section
variable {X:Cx}{Kp:List (Addr × Obj)}{σ:St}{H:Hp}{s:Shared}{E:Value->SP0}
theorem Inv.wish (I:Inv X Kp σ H s) (E:Value->SP0):Inv (X.wish E) Kp σ H s:=⟨I.ok.wish E,I.os,I.bare,I.base,I.loc,I.cell,I.free,I.freeC,I.pin,I.hok,I.len⟩
theorem Inv.unwish (I:Inv (X.wish E) Kp σ H s):Inv X Kp σ H s:=⟨I.ok.unwish,I.os,I.bare,I.base,I.loc,I.cell,I.free,I.freeC,I.pin,I.hok,I.len⟩
theorem SP.unwish {D:Ends}{f:Flow}{s':Shared} (h:SP (X.wish E) Kp D f s'):SP X Kp D f s':=by
 cases f with
 | next=>obtain ⟨σ',H',I,q⟩:=h; exact ⟨σ',H',I.unwish,q⟩
 | brk=>obtain ⟨σ',H',I,q⟩:=h; exact ⟨σ',H',I.unwish,q⟩
 | cont=>obtain ⟨σ',H',I,q⟩:=h; exact ⟨σ',H',I.unwish,q⟩
 | ret u=>obtain ⟨v,σ',H',I,r,q⟩:=h; exact ⟨v,σ',H',I.unwish,r,q⟩
theorem PE.nox {e:Expr}{t:TE} (h:PE X.nox e t):PE X e t:=fun Kp s σ H Q I hw=>
 wpAny_mono (h Kp s σ H Q (I.wish _) hw) (fun _ _ ⟨v,H',I',r,q⟩=>⟨v,H',I'.unwish,r,q⟩) fun _ _ z=>False.elim z
theorem PT.nox {e:Expr}{t:TT} (h:PT X.nox e t):PT X e t:=fun Kp s σ H Q I hw=>
 wpAny_mono (h Kp s σ H Q (I.wish _) hw) (fun _ _ ⟨H',I',q⟩=>⟨H',I'.unwish,q⟩) fun _ _ z=>False.elim z
theorem PSs.nox {st:List Stmt}{t:TS} (h:PSs X.nox st t):PSs X st t:=fun Kp s σ H D I hw=>
 wpAny_mono (h Kp s σ H D (I.wish _) hw) (fun _ _ q=>q.unwish) fun _ _ z=>False.elim z
end
section
variable {X:Cx}{st:Stmt}{qh:List Stmt}{t u:TS}{e:Expr}{te:TE}{pos:Pos}
noncomputable def apY:TS:=fun D σ H=>D.nx σ H
noncomputable def aq4 (t u:TS):TS:=fun D σ H=>t { D with nx:=u D } σ H
theorem ahp:PSs X [] apY:=fun _ _ σ H _ I h=>wpAny_execs_nil ⟨σ,H,I,h⟩
theorem QF (h1:PS X st t) (h2:PSs X qh u):PSs X (st::qh) (aq4 t u):=by
 intro Kp s σ H D I h
 refine wpAny_execs_cons (thn (h1 Kp s σ H { D with nx:=u D } I h) fun f s1 q=>?_)
 cases f with
 | next=>
  obtain ⟨σ',H',I',q⟩:=q
  exact h2 Kp s1 σ' H' D I' q
 | ret v=>exact q
 | brk=>exact q
 | cont=>exact q
theorem adT (h1:PS X st t):PSs X [st] t:=by
 intro Kp s σ H D I h
 refine wpAny_execs_cons (thn (h1 Kp s σ H D I h) fun f s1 q=>?_)
 cases f with
 | next=>exact wpAny_execs_nil q
 | ret v=>exact q
 | brk=>exact q
 | cont=>exact q
theorem Inv.quiet {Kp:List (Addr × Obj)}{σ:St}{H:Hp}{s:Shared} (I:Inv X Kp σ H s):interactive X.env=false:=by simp [interactive,I.ok.kind]
noncomputable def apZ (te:TE):TS:=fun D σ H=>te σ H fun _ H1=>D.nx σ H1
theorem adU (he:PE X e te) (hs:swapsWith e none pos.line X.env=pure false:=by rfl):PS X (.Expr e pos) (apZ te):=by
 intro Kp s σ H D I h
 exact wpAny_Expr_any (thn (he Kp s σ H _ I h) fun v s1 ⟨x,H1,I1,r1,q1⟩=>⟨σ,H1,I1,q1⟩) I.quiet hs
noncomputable def aq5 (te:TE):TS:=fun D σ H=>te σ H D.rt
theorem af7 (he:PE X e te):PS X (.Return (some e) pos) (aq5 te):=by
 intro Kp s σ H D I h
 exact wpAny_Return_some (thn (he Kp s σ H _ I h) fun v s1 ⟨x,H1,I1,r1,q1⟩=>⟨x,σ,H1,I1,r1,q1⟩)
noncomputable def aq6 (c:TT) (t u:TS):TS:=fun D σ H=>c σ H fun b H1=>if b=true then t D σ H1 else u D σ H1
theorem anU {c:Expr}{a b:List Stmt}{tc:TT} (hc:PT X c tc) (ha:PSs X a t) (hb:PSs X b u):PS X (.If c a b pos) (aq6 tc t u):=by
 intro Kp s σ H D I h
 refine wpAny_If (thn (hc Kp s σ H _ I h) fun d s1 ⟨H1,I1,q1⟩=>?_)
 cases d with
 | true=>exact ha Kp s1 σ H1 D I1 q1
 | false=>exact hb Kp s1 σ H1 D I1 q1
noncomputable def ajN:TS:=fun _ _ _=>False
theorem ajO:PS X st ajN:=fun _ _ _ _ _ _ h=>h.elim
theorem aiq {sts:List Stmt}:PSs X sts ajN:=fun _ _ _ _ _ _ h=>h.elim
end
noncomputable abbrev TG:=V->St->Hp->(St->Hp->Prop)->Prop
noncomputable abbrev TGs:=List V->St->Hp->(St->Hp->Prop)->Prop
noncomputable def PG (X:Cx) (target:Expr) (t:TG):Prop:=
 ∀ (Kp:List (Addr × Obj)) (s:Shared) (σ:St) (H:Hp) (v:V) (u:Value) (Q:St->Hp->Prop),Inv X Kp σ H s->jK v u->t v σ H Q->
  wpAny (model X.prog X.w) X.A (assign target X.env u) (fun _ s'=>∃ σ' H',Inv X Kp σ' H' s'/\Q σ' H') X.xe s
noncomputable def PGs (X:Cx) (ts:List Expr) (t:TGs):Prop:=
 ∀ (Kp:List (Addr × Obj)) (s:Shared) (σ:St) (H:Hp) (vs:List V) (us:List Value) (Q:St->Hp->Prop),Inv X Kp σ H s->jG vs us->t vs σ H Q->
  wpAny (model X.prog X.w) X.A (assignInOrder ((assignEach ts X.env).map (·.2)) us) (fun _ s'=>∃ σ' H',Inv X Kp σ' H' s'/\Q σ' H') X.xe s
noncomputable abbrev aor:=V->V->V->Hp->(Hp->Prop)->Prop
noncomputable def ap0 (X:Cx) (t:aor):Prop:=
 ∀ (Kp:List (Addr × Obj)) (s:Shared) (σ:St) (H:Hp) (o i v:V) (ov iv u:Value) (Q:Hp->Prop),Inv X Kp σ H s->jK o ov->jK i iv->jK v u->t o i v H Q->
  wpAny (model X.prog X.w) X.A (setItem ov iv u) (fun _ s'=>∃ H',Inv X Kp σ H' s'/\Q H') X.xe s
section
variable {X:Cx}{pos:Pos}
noncomputable def ajP (i:Nat):TG:=fun v σ H Q=>Q (σ.set i (some v)) H
theorem ZM {i:Nat}{x:Str} (hN:X.N.Nodup) (hi:X.N[i]?=some x) (hx:Loc X.env.scope x) (hf:X.fn x=true ∨ X.env.scope.names.lookup x=some .local:=by first | exact .inl rfl | exact .inr rfl | assumption):PG X (.Name x pos) (ajP i):=by
 intro Kp s σ H v u Q I r h
 exact wpAny_assign_Name (aeS I hN hi hx r (fun s' I'=>⟨_,H,I',h⟩) hf)
noncomputable def aq7:TGs:=fun vs σ H Q=>vs=[]/\Q σ H
noncomputable def ap1 (t:TG) (u:TGs):TGs:=fun vs σ H Q=>∃ v r,vs=v::r/\t v σ H fun σ' H'=>u r σ' H' Q
theorem ahq:PGs X [] aq7:=by
 intro Kp s σ H vs us Q I r h
 obtain ⟨e,h⟩:=h
 subst e
 cases r
 exact assignInOrder_nil ⟨σ,H,I,h⟩
theorem aeT {e:Expr}{es:List Expr}{t:TG}{u:TGs} (h1:PG X e t) (h2:PGs X es u)
  (hs:(assignEach (e::es) X.env).map (·.2)=assign e X.env::(assignEach es X.env).map (·.2):=by rfl):PGs X (e::es) (ap1 t u):=by
 intro Kp s σ H vs us Q I r h
 obtain ⟨v,vr,e1,h⟩:=h
 subst e1
 cases r with
 | cons r rr=>
  rw [hs]
  refine assignInOrder_cons (thn (h1 Kp s σ H _ _ _ I r h) fun _ s1 ⟨σ1,H1,I1,q1⟩=>?_)
  exact h2 Kp s1 σ1 H1 _ _ Q I1 rr q1
noncomputable def aq8 (K:Fg) (n:Nat) (t:TGs):TG:=fun v σ H Q=>∃ a xs,v= .ref a/\SqT K H a xs/\xs.length=n/\t xs σ H Q
theorem ajQ {es:List Expr}{k:Nat}{t:TGs}{n:Nat} (hc:X.calm=true) (h:PGs X es t)
  (hn:(assignEach es X.env).length=n:=by rfl) (hst:(assignEach es X.env).findIdx? (·.1)=none:=by rfl):PG X (.Tuple es k pos) (aq8 X.K n t):=by
 intro Kp s σ H v u Q I r hw
 obtain ⟨a,xs,e1,hq,hl,hw⟩:=hw
 subst e1
 cases r
 obtain ⟨its,rv,ht,hz⟩:=I.tuple hq
 refine assign_Tuple_tuple (I.ok.hd hc) ht (by simp [hn,←hl,rv.length]) hst fun h' hx=>?_
 have I1:Inv X Kp σ H { s with heap:=h' }:=I.kept (t':=s.toks) fun b o e=>hx b o (Nat.ne_of_lt (Heap.lt_size e)) e
 exact h Kp _ σ H xs _ Q I1 (by simpa using rv) hw
noncomputable def aq9 (to ti:TE) (t:aor):TG:=fun v σ H Q=>to σ H fun o H1=>ti σ H1 fun i H2=>t o i v H2 fun H3=>Q σ H3
theorem aos {o i:Expr}{to ti:TE}{t:aor} (ho:PE X o to) (hi:PE X i ti) (hs:ap0 X t)
  (ha:∀ v,assign (.Subscript o i pos) X.env v=(do
   let ov ←holding [v] (eval o X.env)
   let iv ←holding [v,ov] (eval i X.env)
   standAt pos
   holding [v,ov,iv] (setItem ov iv v)
   release [v,ov,iv] []):=by intro _; rfl):PG X (.Subscript o i pos) (aq9 to ti t):=by
 intro Kp s σ H v u Q I r h
 rw [ha]
 refine wpAny_bind (wpAny_holding (thn (ho Kp s σ H _ I h) fun ov s1 ⟨x,H1,I1,r1,q1⟩=>?_))
 refine wpAny_bind (wpAny_holding (thn (hi Kp s1 σ H1 _ I1 q1) fun iv s2 ⟨y,H2,I2,r2,q2⟩=>?_))
 refine wpAny_bind (wpAny_standAt (wpAny_bind (wpAny_holding (thn (hs Kp s2 σ H2 x y v ov iv u _ I2 r1 r2 r q2) fun _ s3 ⟨H3,I3,q3⟩=>?_))))
 exact wpAny_release ⟨σ,H3,I3,q3⟩
noncomputable def aot (te:TE) (g:TG):TS:=fun D σ H=>te σ H fun x H1=>g x σ H1 D.nx
theorem aou {tg e:Expr}{te:TE}{g:TG} (he:PE X e te) (hg:PG X tg g) (hs:swapsWithSole [tg] e pos.line X.env=pure false:=by rfl) (hw:swappedStores [tg] e X.env=pure none:=by rfl)
  (h1:(assignEach [tg] X.env).map (·.2)=[assign tg X.env]:=by rfl):PS X (.Assign [tg] e pos) (aot te g):=by
 intro Kp s σ H D I h
 refine wpAny_Assign_stores (thn (he Kp s σ H _ I h) fun v s1 ⟨x,H1,I1,r1,q1⟩=>?_) hs hw
 rw [h1]
 exact thn (hg Kp s1 σ H1 x v _ I1 r1 q1) fun _ s2 q=>q
theorem adV {i:Nat}{x:Str}{e:Expr}{te:TE}{pos':Pos} (hN:X.N.Nodup) (hi:X.N[i]?=some x) (hx:Loc X.env.scope x) (he:PE X e te) (hs:swapsWith e (some (.Name x pos')) pos.line X.env=pure false:=by rfl) (hf:X.fn x=true ∨ X.env.scope.names.lookup x=some .local:=by first | exact .inl rfl | exact .inr rfl | assumption):
  PS X (.Assign [.Name x pos'] e pos) (aot te (ajP i)):=by
 intro Kp s σ H D I h
 refine wpAny_Assign_Name (thn (he Kp s σ H _ I h) fun v s1 ⟨y,H1,I1,r1,q1⟩=>?_) hs
 exact aeS I1 hN hi hx r1 (fun s2 I2=>⟨_,H1,I2,q1⟩) hf
end
section
variable {X:Cx}{pos:Pos}
end
structure It where
 go:Nat->Hp->Prop
 yld:Nat->Hp->V->Hp->Prop
 stop:Nat->Hp->Prop
noncomputable def aeU (X:Cx) (Kp:List (Addr × Obj)) (H:Hp) (b:Addr):Prop:=
 H b=none/\b ≠ X.env.locals/\b ∉ X.fs/\(b ∈ X.ex ∨ X.s₀.heap.objs.size<=b)/\(∀ x c,X.env.cells.lookup x=some c->c ≠ b)/\∀ p ∈ X.pn++Kp,p.1 ≠ b
theorem Inv.fpOk {X:Cx}{Kp:List (Addr × Obj)}{σ:St}{H H':Hp}{s:Shared}{b:Addr} (I:Inv X Kp σ H s) (hb:s.heap.objs.size<=b) (hn:H' b=none):aeU X Kp H' b:=by
 refine ⟨hn,Nat.ne_of_gt (Nat.lt_of_lt_of_le I.lt hb),I.nofs hb,.inr (Nat.le_trans I.sz hb),fun x c e z=>?_,fun p hp z=>?_⟩
 ·obtain ⟨v,q⟩:=I.cell x c e
  exact absurd (Nat.lt_of_lt_of_le q.lt (by rw [z]; exact hb)) (Nat.lt_irrefl _)
 ·exact absurd (Nat.lt_of_lt_of_le (Heap.lt_size (I.pin p hp).1) (by rw [z]; exact hb)) (Nat.lt_irrefl _)
structure Turn (P:Program) (w:World) (K:Fg) (tg:Expr) (J:It) (fp:List Addr) (it:Addr) (tn:Nat->Heap->Prop):Prop where
 mem:it ∈ fp
 obj:∀ i h,tn i h->∀ b ∈ fp,∃ o,h.get? b=some o/\∀ v,o.data ≠ .cell v
 keep:∀ i h h',tn i h->(∀ b ∈ fp,∀ o,h.get? b=some o->h'.get? b=some o)->tn i h'
 item:∀ (X:Cx),X.prog=P->X.w=w->X.K=K->X.calm=true->∀ (i:Nat) (Kp:List (Addr × Obj)) (s:Shared) (σ:St) (H:Hp) (E:Value->SP0),Inv X Kp σ H s->(∀ b ∈ fp,aeU X Kp H b)->tn i s.heap->J.go i H->
  wpAny (model P w) X.A (pyNext (.ref it)) (fun r s1=>∃ u,r=some u/\
   wpAny (model P w) X.A (letOwnedTupleGo tg (.ref it) u) (fun _ s2=>∃ x H',Inv X Kp σ H' s2/\jK x u/\J.yld i H x H'/\tn (i+1) s2.heap/\∀ b ∈ fp,H' b=none) E s1) E s
 done:∀ (X:Cx),X.prog=P->X.w=w->X.K=K->X.calm=true->∀ (i:Nat) (Kp:List (Addr × Obj)) (s:Shared) (σ:St) (H:Hp) (E:Value->SP0),Inv X Kp σ H s->(∀ b ∈ fp,aeU X Kp H b)->tn i s.heap->J.stop i H->
  wpAny (model P w) X.A (pyNext (.ref it)) (fun r s1=>r=none/\Inv X Kp σ H s1) E s
 self:∀ (A:Around) (i:Nat) (s:Shared) (Q:Value->SP0) (E:Value->SP0),tn i s.heap->Q (.ref it) s->wpAny (model P w) A (pyIter (.ref it)) Q E s
noncomputable abbrev TI:=St->Hp->(It->Hp->Prop)->Prop
noncomputable def PIE (X:Cx) (Kp:List (Addr × Obj)) (σ:St) (tg:Expr) (R:It->Hp->Prop) (itv:Value) (s2:Shared):Prop:=
 ∃ (it:Addr) (fp:List Addr) (tn:Nat->Heap->Prop) (J:It) (H':Hp),itv= .ref it/\Inv X Kp σ H' s2/\Turn X.prog X.w X.K tg J fp it tn/\tn 0 s2.heap/\(∀ b ∈ fp,aeU X Kp H' b)/\R J H'
noncomputable def PI (X:Cx) (tg iter:Expr) (wi:TI):Prop:=
 ∀ (Kp:List (Addr × Obj)) (s:Shared) (σ:St) (H:Hp) (R:It->Hp->Prop),Inv X Kp σ H s->wi σ H R->
  wpAny (model X.prog X.w) X.A (eval iter X.env) (fun v s1=>wpAny (model X.prog X.w) X.A (pyIter v) (PIE X Kp σ tg R) X.xe s1) X.xe s
theorem aeV {M : Model} {A : Around} {E : Value -> Shared -> Prop} {s : Shared} {tg : Expr} {it : Addr} {u : Value} {o : Obj} {n : String} {vs : Array Value} {Q : Unit -> Shared -> Prop} (ho : s.heap.get? it = some o) (hc : o.cls = .type n) (hd : o.data = .fields vs)
    (hn : ["enumerate", "zip", "dict_itemiterator", "dict_reverseitemiterator", "odict_iterator", "itertools.zip_longest", "itertools.pairwise"].contains n = false) (hQ : Q () s) : wpAny M A (letOwnedTupleGo tg (.ref it) u) Q E s := by
  unfold letOwnedTupleGo
  cases tg <;> first
    | exact wpAny_pure hQ
    | (cases u <;> first
        | exact wpAny_pure hQ
        | (refine wpAny_bind (wpAny_load ho ?_)
           rw [hc, hd]
           show wpAny M A (if (["enumerate", "zip", "dict_itemiterator", "dict_reverseitemiterator", "odict_iterator", "itertools.zip_longest", "itertools.pairwise"].contains n && vs[0]? == some (rawInt _)) = true then _ else _) Q E s
           rw [if_neg (by intro h; rw [hn, Bool.false_and] at h; cases h)]
           exact wpAny_pure hQ))
noncomputable def Itl (K:Fg) (a:Addr):It:=
 ⟨fun i H=>∃ xs x,SqL K H a xs/\xs[i]?=some x,fun i H x H'=>H'=H/\∀ xs,SqL K H a xs->xs[i]?=some x,fun i H=>∃ xs,SqL K H a xs/\xs.length<=i⟩
noncomputable def Itt (K:Fg) (a:Addr):It:=
 ⟨fun i H=>∃ xs x,SqT K H a xs/\xs[i]?=some x,fun i H x H'=>H'=H/\∀ xs,SqT K H a xs->xs[i]?=some x,fun i H=>∃ xs,SqT K H a xs/\xs.length<=i⟩
noncomputable def Itr (lo:Int) (n:Nat):It:=⟨fun i _=>i<n,fun i H x H'=>H'=H/\x= .int (lo+i),fun i _=>n<=i⟩
theorem air {P:Program}{w:World}{K:Fg}{tg:Expr} (a it:Addr):Turn P w K tg (Itl K a) [it] it (fun i h=>h.IsListIter it a i) where
 mem:=by simp
 obj:=fun i h st b hb=>by
  have e:b=it:=by simpa using hb
  subst e
  obtain ⟨o,e,c,d⟩:=st
  exact ⟨o,e,fun v z=>by rw [d] at z; cases z⟩
 keep:=fun i h h' st k=>st.at fun o e=>k it (by simp) o e
 item:=by
  intro X hP hw hK hc i Kp s σ H E I hf st hg
  subst hP hw hK
  obtain ⟨xs,x,hq,hx⟩:=hg
  obtain ⟨its,rv,p,hz⟩:=I.list hq
  obtain ⟨u,hu,ru⟩:=rv.get hx
  obtain ⟨f0,f1,f2,f3,f4,f5⟩:=hf it (by simp)
  refine wpAny_pyNext_list_item st p.isList (x:=u) (by simpa using hu) fun h' st' sb=>?_
  have I1:Inv X Kp σ H { s with heap:=h' }:=I.turned (t':=s.toks) (fun b o hb e=>(sb.2 b hb).trans e) f0 f1 f3 f4 f5
  obtain ⟨o,e,c,d⟩:=id st'
  exact ⟨u,rfl,aeV (s:={ s with heap:=h' }) e c d (by decide) ⟨x,H,I1,ru,⟨rfl,fun ys hy=>by rw [I.list_inj hy hq]; exact hx⟩,st',fun b hb=>(hf b hb).1⟩⟩
 done:=by
  intro X hP hw hK hc i Kp s σ H E I hf st hg
  subst hP hw hK
  obtain ⟨xs,hq,hx⟩:=hg
  obtain ⟨its,rv,p,hz⟩:=I.list hq
  obtain ⟨f0,f1,f2,f3,f4,f5⟩:=hf it (by simp)
  have hl:=rv.length
  exact wpAny_pyNext_list_end (I.ok.hd hc) st p.isList (by simp; omega) fun h' eb=>⟨rfl,I.turned (t':=s.toks) (fun b o hb e=>eb b o hb e) f0 f1 f3 f4 f5⟩
 self:=fun _ _ _ _ _ st h=>wpAny_pyIter_listiter st h
theorem af8 {P:Program}{w:World}{K:Fg}{tg:Expr} (a it:Addr):Turn P w K tg (Itt K a) [it] it (fun i h=>h.IsTupleIter it a i) where
 mem:=by simp
 obj:=fun i h st b hb=>by
  have e:b=it:=by simpa using hb
  subst e
  obtain ⟨o,e,c,d⟩:=st
  exact ⟨o,e,fun v z=>by rw [d] at z; cases z⟩
 keep:=fun i h h' st k=>st.at fun o e=>k it (by simp) o e
 item:=by
  intro X hP hw hK hc i Kp s σ H E I hf st hg
  subst hP hw hK
  obtain ⟨xs,x,hq,hx⟩:=hg
  obtain ⟨its,rv,p,hz⟩:=I.tuple hq
  obtain ⟨u,hu,ru⟩:=rv.get hx
  obtain ⟨f0,f1,f2,f3,f4,f5⟩:=hf it (by simp)
  refine wpAny_pyNext_tuple_item st (show s.heap.IsTuple a its.toArray from p) (x:=u) (by simpa using hu) fun h' st' sb=>?_
  have I1:Inv X Kp σ H { s with heap:=h' }:=I.turned (t':=s.toks) (fun b o hb e=>(sb.2 b hb).trans e) f0 f1 f3 f4 f5
  obtain ⟨o,e,c,d⟩:=id st'
  exact ⟨u,rfl,aeV (s:={ s with heap:=h' }) e c d (by decide) ⟨x,H,I1,ru,⟨rfl,fun ys hy=>by rw [I.tuple_inj hy hq]; exact hx⟩,st',fun b hb=>(hf b hb).1⟩⟩
 done:=by
  intro X hP hw hK hc i Kp s σ H E I hf st hg
  subst hP hw hK
  obtain ⟨xs,hq,hx⟩:=hg
  obtain ⟨its,rv,p,hz⟩:=I.tuple hq
  obtain ⟨f0,f1,f2,f3,f4,f5⟩:=hf it (by simp)
  have hl:=rv.length
  exact wpAny_pyNext_tuple_end (I.ok.hd hc) st (show s.heap.IsTuple a its.toArray from p) (by simp; omega) fun h' eb=>⟨rfl,I.turned (t':=s.toks) (fun b o hb e=>eb b o hb e) f0 f1 f3 f4 f5⟩
 self:=fun _ _ _ _ _ st h=>wpAny_pyIter_tupleiter st h
theorem af9 {P:Program}{w:World}{K:Fg}{tg:Expr} (it:Addr) (lo:Int) (n:Nat):Turn P w K tg (Itr lo n) [it] it (fun i h=>IsRangeIter h it (lo+(i:Nat)*1) ((n:Int) - (i:Nat)) 1) where
 mem:=by simp
 obj:=fun i h st b hb=>by
  have e:b=it:=by simpa using hb
  subst e
  exact ⟨_,st,fun v z=>by
   have z':Data.fields _=Data.cell v:=z
   cases z'⟩
 keep:=fun i h h' st k=>k it (by simp) _ st
 item:=by
  intro X hP hw hK hc i Kp s σ H E I hf st hg
  subst hP hw hK
  obtain ⟨f0,f1,f2,f3,f4,f5⟩:=hf it (by simp)
  have W:=Walks.range (prog:=X.prog) (w:=X.w) (I.ok.hd hc) it lo 1 n
  refine W.item i s _ _ hg st fun v h' tk hv st' kk=>?_
  obtain ⟨t,rfl⟩:=hv
  have I1:Inv X Kp σ H { s with heap:=h',toks:=tk }:=I.turned (fun b o hb e=>kk b o (by simpa using hb) e) f0 f1 f3 f4 f5
  refine ⟨_,rfl,aeV (s:={ s with heap:=h',toks:=tk }) (n:="range_iterator") st' rfl rfl (by decide) ⟨.int (lo+i),H,I1,⟨t,?_⟩,⟨rfl,rfl⟩,st',fun b hb=>(hf b hb).1⟩⟩
  rw [Int.mul_one]
 done:=by
  intro X hP hw hK hc i Kp s σ H E I hf st hg
  subst hP hw hK
  obtain ⟨f0,f1,f2,f3,f4,f5⟩:=hf it (by simp)
  exact wpAny_pyNext_range_end (I.ok.hd hc) st (by have:n<=i:=hg; omega) fun h' eb=>⟨rfl,I.turned (t':=s.toks) (fun b o hb e=>eb b o hb e) f0 f1 f3 f4 f5⟩
 self:=fun _ _ _ _ _ st h=>wpAny_pyIter_rangeiter st h
section
variable {X:Cx}{tg:Expr}
noncomputable def ap2 (K:Fg) (tl:TE):TI:=fun σ H R=>tl σ H fun x H1=>∃ a,x= .ref a/\(∃ xs,SqL K H1 a xs)/\R (Itl K a) H1
noncomputable def ara (K:Fg) (tl:TE):TI:=fun σ H R=>tl σ H fun x H1=>∃ a,x= .ref a/\(∃ xs,SqT K H1 a xs)/\R (Itt K a) H1
theorem aml {l:Expr}{tl:TE} (hl:PE X l tl):PI X tg l (ap2 X.K tl):=by
 intro Kp s σ H R I h
 refine thn (hl Kp s σ H _ I h) fun v s1 ⟨x,H1,I1,r1,q1⟩=>?_
 obtain ⟨a,e,⟨xs,hq⟩,q⟩:=q1
 subst e
 cases r1
 obtain ⟨its,rv,p,hz⟩:=I1.list hq
 refine wpAny_pyIter_list p.isList ?_
 refine ⟨s1.heap.objs.size,[s1.heap.objs.size],_,_,H1,rfl,I1.kept (t':=s1.toks) fun b o e=>Heap.get?_push_of_some _ e,air a _,⟨_,Heap.get?_push_size _ rfl,rfl,rfl⟩,fun b hb=>?_,q⟩
 have e:b=s1.heap.objs.size:=by simpa using hb
 subst e
 exact I1.fpOk (Nat.le_refl _) (I1.hok.fresh (Nat.le_refl _))
theorem aov {l:Expr}{tl:TE} (hl:PE X l tl):PI X tg l (ara X.K tl):=by
 intro Kp s σ H R I h
 refine thn (hl Kp s σ H _ I h) fun v s1 ⟨x,H1,I1,r1,q1⟩=>?_
 obtain ⟨a,e,⟨xs,hq⟩,q⟩:=q1
 subst e
 cases r1
 obtain ⟨its,rv,p,hz⟩:=I1.tuple hq
 refine wpAny_pyIter_tuple (show s1.heap.IsTuple a its.toArray from p) ?_
 refine ⟨s1.heap.objs.size,[s1.heap.objs.size],_,_,H1,rfl,I1.kept (t':=s1.toks) fun b o e=>Heap.get?_push_of_some _ e,af8 a _,⟨_,Heap.get?_push_size _ rfl,rfl,rfl⟩,fun b hb=>?_,q⟩
 have e:b=s1.heap.objs.size:=by simpa using hb
 subst e
 exact I1.fpOk (Nat.le_refl _) (I1.hok.fresh (Nat.le_refl _))
theorem ajR {Kp:List (Addr × Obj)}{σ:St}{H:Hp}{s:Shared}{R:It->Hp->Prop}{E:Value->SP0}{lo hi:Int}{t u v:Tok}{tk:Nat} (I:Inv X Kp σ H s) (h1:-(2 ^ 62)<=lo) (h2:lo<2 ^ 62) (h3:-(2 ^ 62)<=hi) (h4:hi<2 ^ 62)
  (q:R (Itr lo (hi - lo).toNat) H):wpAny (model X.prog X.w) X.A (pyIter (.ref s.heap.objs.size)) (PIE X Kp σ tg R) E { s with heap:=s.heap.push { cls:= .type "range",data:= .fields #[.int lo t,.int hi u,.int 1 v] },toks:=tk }:=by
 refine wpAny_pyIter_range (IsRange.new ..) (small_one h1 h2 h3 h4) ?_
 have I1:Inv X Kp σ H { s with heap:=s.heap.push { cls:= .type "range",data:= .fields #[.int lo t,.int hi u,.int 1 v] },toks:=tk }:=I.kept fun b o e=>Heap.get?_push_of_some _ e
 refine ⟨(s.heap.push { cls:= .type "range",data:= .fields #[.int lo t,.int hi u,.int 1 v] }).objs.size,[(s.heap.push { cls:= .type "range",data:= .fields #[.int lo t,.int hi u,.int 1 v] }).objs.size],_,_,H,rfl,
  I1.kept (t':=tk) fun b o e=>Heap.get?_push_of_some _ e,af9 _ lo (hi - lo).toNat,?_,fun b hb=>?_,q⟩
 ·have e1:lo+((0:Nat):Int)*1=lo:=by simp
  have e2:(((hi - lo).toNat:Nat):Int) - ((0:Nat):Int)=Builtin.Range.rangeSize lo hi 1:=by rw [rangeSize_one]; split <;> omega
  show IsRangeIter _ _ (lo+((0:Nat):Int)*1) ((((hi - lo).toNat:Nat):Int) - ((0:Nat):Int)) 1
  rw [e1,e2]
  exact Heap.get?_push_size _ rfl
 ·have e:b=(s.heap.push { cls:= .type "range",data:= .fields #[.int lo t,.int hi u,.int 1 v] }).objs.size:=by simpa using hb
  subst e
  exact I1.fpOk (Nat.le_refl _) (I1.hok.fresh (Nat.le_refl _))
noncomputable def ap3 (ta:TA):TI:=fun σ H R=>ta σ H fun vs H1=>∃ j:Int,vs=[.int j]/\-(2 ^ 62)<=j/\j<2 ^ 62/\R (Itr 0 j.toNat) H1
theorem aar {a:Expr}{ta:TA}{p pos:Pos} (hg:Gl X "range") (hm:X.mg "range"=none) (ha:PA X [a] ta) (hs:starEach [a] X.env=[(false,eval a X.env)]:=by rfl):PI X tg (.Call (.Name "range" p) [a] [] pos) (ap3 ta):=by
 intro Kp s σ H R I h
 refine Call_ (Zx I hg hm boot_range (PyProof.Rows.callWith_type1 (thn (ha pos Kp s σ H _ I h) fun us s1 ⟨vs,H1,I1,r1,q1⟩=>?_) hs rfl))
 obtain ⟨j,e,q1,q2,q⟩:=q1
 subst e
 cases r1 with
 | cons r rr=>
  cases rr
  obtain ⟨t,rfl⟩:=r
  exact call_range_1 (ajR I1 (by omega) (by omega) q1 q2 (by simpa using q))
noncomputable def arb (wi:TI) (g:TG) (tb:TS):TS:=fun D σ H=>wi σ H fun J H1=>∃ W:Nat->Nat->St->Hp->Prop,(∃ m,W 0 m σ H1)/\∀ i m σ H,W i m σ H->
 (J.stop i H/\D.nx σ H) ∨ (J.go i H/\∃ N:St->Hp->Prop,(∀ σ' H',N σ' H'->∃ m',m' < m/\W (i+1) m' σ' H')/\∀ x H',J.yld i H x H'->g x σ H' fun σ2 H2=>tb { D with nx:=N,ct:=N,bk:=D.nx } σ2 H2)
noncomputable def aas (fp:List Addr) (h:Heap):List (Addr × Obj):=fp.filterMap fun b=>(h.get? b).map fun o=>(b,o)
theorem zy {fp:List Addr}{h:Heap}{b:Addr}{o:Obj} (hb:b ∈ fp) (e:h.get? b=some o):(b,o) ∈ aas fp h:=List.mem_filterMap.mpr ⟨b,hb,by rw [e]; rfl⟩
theorem ais {fp:List Addr}{h:Heap}{p:Addr × Obj} (hp:p ∈ aas fp h):p.1 ∈ fp/\h.get? p.1=some p.2:=by
 obtain ⟨b,hb,e⟩:=List.mem_filterMap.mp hp
 cases q:h.get? b with
 | none=>rw [q] at e; cases e
 | some o=>
  rw [q] at e
  have e':(b,o)=p:=Option.some.inj e
  subst e'
  exact ⟨hb,q⟩
theorem Inv.pinned {Kp:List (Addr × Obj)}{σ:St}{H:Hp}{s:Shared}{fp:List Addr} (I:Inv X Kp σ H s) (hf:∀ b ∈ fp,aeU X Kp H b) (ho:∀ b ∈ fp,∃ o,s.heap.get? b=some o/\∀ v,o.data ≠ .cell v):Inv X (Kp++aas fp s.heap) σ H s:=
 I.pins_of fun p hp=>(List.mem_append.mp hp).elim (fun z=>I.pin p (List.mem_append_right _ z)) fun z=>by
  obtain ⟨hb,e⟩:=ais z
  obtain ⟨f0,f1,f2,_⟩:=hf p.1 hb
  obtain ⟨o,e',d⟩:=ho p.1 hb
  rw [e] at e'; cases e'
  exact ⟨e,f0,f1,f2,d⟩
theorem Inv.unpinned {Kp pl:List (Addr × Obj)}{σ:St}{H:Hp}{s:Shared} (I:Inv X (Kp++pl) σ H s):Inv X Kp σ H s:=I.pins_of fun p hp=>I.pin p (List.mem_append_right _ (List.mem_append_left _ hp))
theorem adW {iter:Expr}{body:List Stmt}{wi:TI}{g:TG}{tb:TS}{pos:Pos} (hp:PassesOwn (model X.prog X.w) X.A X.env X.xe) (hc:X.calm=true) (hi:PI X tg iter wi) (hg:PG X tg g) (hb:PSs X body tb)
  (hs:∀ x,foldedSetIterable iter X.env x=pure x:=by intro _; rfl):PS X (.For tg iter body [] pos) (arb wi g tb):=by
 intro Kp s σ H D I h
 refine wpAny_For (thn (hi Kp s σ H _ I h) fun v s1 h1=>thn h1 fun itv s2 h2=>?_) hs
 obtain ⟨it,fp,tn,J,H2,e,I2,T,st2,f2,W,⟨m0,w0⟩,turn⟩:=h2
 subst e
 have stat:∀ {H':Hp},(∀ b ∈ fp,H' b=none)->∀ b ∈ fp,aeU X Kp H' b:=fun hn b hb=>⟨hn b hb,(f2 b hb).2⟩
 refine codeAny_forLoop_any (fun n s'=>∃ i σ' H',Inv X Kp σ' H' s'/\tn i s'.heap/\(∀ b ∈ fp,H' b=none)/\W i n σ' H') ?_ m0 ⟨0,σ,H2,I2,st2,fun b hb=>(f2 b hb).1,w0⟩
 rintro n s3 ⟨i,σ3,H3,I3,st3,fr3,w3⟩
 rcases turn i n σ3 H3 w3 with ⟨stop,qn⟩ | ⟨go,N,hN,step⟩
 ·refine wpAny_passesOwn hp (thn (T.done X rfl rfl rfl hc i Kp s3 σ3 H3 X.xe I3 (stat fr3) st3 stop) fun r s4 ⟨hr,I4⟩=>?_)
  subst hr
  exact wpAny_execs_nil ⟨σ3,H3,I4,qn⟩
 ·refine wpAny_passesOwn hp (thn (T.item X rfl rfl rfl hc i Kp s3 σ3 H3 X.xe I3 (stat fr3) st3 go) fun r s4 ⟨u,hr,h4⟩=>?_)
  subst hr
  refine wpAny_passesOwn hp (thn h4 fun _ s5 ⟨x,H5,I5,r5,y5,st5,fr5⟩=>?_)
  have I5':=I5.pinned (stat fr5) (T.obj _ _ st5)
  refine wpAny_passesOwn hp (thn (hg _ s5 σ3 H5 x u _ I5' r5 (step x H5 y5)) fun _ s6 ⟨σ6,H6,I6,q6⟩=>?_)
  refine wpAny_passesOwn hp (thn (hb _ s6 σ6 H6 _ I6 q6) fun f s7 q7=>?_)
  have again:∀ {σ7:St} {H7:Hp},Inv X (Kp++aas fp s5.heap) σ7 H7 s7->N σ7 H7->∃ m,m<n/\∃ i σ' H',Inv X Kp σ' H' s7/\tn i s7.heap/\(∀ b ∈ fp,H' b=none)/\W i m σ' H':=fun {σ7 H7} I7 n7=>by
   obtain ⟨m',hm,w7⟩:=hN σ7 H7 n7
   refine ⟨m',hm,i+1,σ7,H7,I7.unpinned,T.keep _ _ _ st5 fun b hb o e=>(I7.pin (b,o) (List.mem_append_right _ (List.mem_append_right _ (zy hb e)))).1,fun b hb=>?_,w7⟩
   obtain ⟨o,e,d⟩:=T.obj _ _ st5 b hb
   exact (I7.pin (b,o) (List.mem_append_right _ (List.mem_append_right _ (zy hb e)))).2.1
  cases f with
  | next=>obtain ⟨σ7,H7,I7,n7⟩:=q7; exact again I7 n7
  | cont=>obtain ⟨σ7,H7,I7,n7⟩:=q7; exact again I7 n7
  | brk=>obtain ⟨σ7,H7,I7,q7⟩:=q7; exact ⟨σ7,H7,I7.unpinned,q7⟩
  | ret v=>obtain ⟨x7,σ7,H7,I7,r7,q7⟩:=q7; exact ⟨x7,σ7,H7,I7.unpinned,r7,q7⟩
end
theorem ac1 {lo:Int}{n:Nat}{g:TG}{tb:TS}{D:Ends}{σ:St}{H:Hp} (Pv:Nat->St->Hp->Prop) (h0:Pv 0 σ H)
  (hs:∀ i σ H,i<n->Pv i σ H->g (.int (lo+i)) σ H fun σ2 H2=>tb { D with nx:=Pv (i+1),ct:=Pv (i+1),bk:=D.nx } σ2 H2) (hd:∀ σ H,Pv n σ H->D.nx σ H):
  ∃ W:Nat->Nat->St->Hp->Prop,(∃ m,W 0 m σ H)/\∀ i m σ H,W i m σ H->
   ((Itr lo n).stop i H/\D.nx σ H) ∨ ((Itr lo n).go i H/\∃ N:St->Hp->Prop,(∀ σ' H',N σ' H'->∃ m',m' < m/\W (i+1) m' σ' H')/\∀ x H',(Itr lo n).yld i H x H'->g x σ H' fun σ2 H2=>tb { D with nx:=N,ct:=N,bk:=D.nx } σ2 H2):=by
 refine ⟨fun i m σ H=>m=n - i/\i<=n/\Pv i σ H,⟨n,by simp,Nat.zero_le _,h0⟩,?_⟩
 rintro i m σ H ⟨rfl,hi,p⟩
 by_cases hlt:i<n
 ·refine .inr ⟨hlt,Pv (i+1),fun σ' H' p'=>⟨n - (i+1),by omega,rfl,hlt,p'⟩,fun x H' y=>?_⟩
  obtain ⟨e,y⟩:=y
  subst e y
  exact hs i σ _ hlt p
 ·have e:i=n:=by omega
  subst e
  exact .inl ⟨Nat.le_refl _,hd σ H p⟩
noncomputable abbrev R2:=V->V->Hp->VK->Prop
noncomputable def OpR (X:Cx) (f:Value->Value->Sem Value) (r:R2):Prop:=
 ∀ (Kp:List (Addr × Obj)) (s:Shared) (σ:St) (H:Hp) (x y:V) (v u:Value) (Q:VK),Inv X Kp σ H s->jK x v->jK y u->r x y H Q->
  wpAny (model X.prog X.w) X.A (f v u) (EP X Kp σ Q) X.xe s
noncomputable def UnR (X:Cx) (f:Value->Sem Value) (r:V->Hp->VK->Prop):Prop:=
 ∀ (Kp:List (Addr × Obj)) (s:Shared) (σ:St) (H:Hp) (x:V) (v:Value) (Q:VK),Inv X Kp σ H s->jK x v->r x H Q->
  wpAny (model X.prog X.w) X.A (f v) (EP X Kp σ Q) X.xe s
noncomputable def zX (X:Cx) (f:Value) (r:List V->Hp->VK->Prop):Prop:=
 ∀ (Kp:List (Addr × Obj)) (s:Shared) (σ:St) (H:Hp) (xs:List V) (us:List Value) (Q:VK),Inv X Kp σ H s->jG xs us->r xs H Q->
  wpAny (model X.prog X.w) X.A (call f us) (EP X Kp σ Q) X.xe s
noncomputable def tOp (r:R2) (ta tb:TE):TE:=fun σ H Q=>ta σ H fun x H1=>tb σ H1 fun y H2=>r x y H2 Q
noncomputable def tUn (r:V->Hp->VK->Prop) (ta:TE):TE:=fun σ H Q=>ta σ H fun x H1=>r x H1 Q
noncomputable def rI (C:Int->Int->Prop) (g:Int->Int->V):R2:=fun x y H Q=>∃ i j,x= .int i/\y= .int j/\C i j/\Q (g i j) H
noncomputable def rI0 (g:Int->Int->V):R2:=fun x y H Q=>∃ i j,x= .int i/\y= .int j/\Q (g i j) H
noncomputable def rU (g:Int->V):V->Hp->VK->Prop:=fun x H Q=>∃ i,x= .int i/\Q (g i) H
section
variable {X:Cx}{a b c:Expr}{ta tb tc:TE}{pos:Pos}
theorem aow (ha:PE X a ta) (hb:PE X b tb) {Kp:List (Addr × Obj)}{s:Shared}{σ:St}{H:Hp}{R:V->V->Hp->Prop} (I:Inv X Kp σ H s)
  (h:ta σ H fun x H1=>tb σ H1 fun y H2=>R x y H2) {Q:Value->SP0} {f:Value->Value->Sem Value}
  (hf:∀ v u s2 x y H2,Inv X Kp σ H2 s2->jK x v->jK y u->R x y H2->wpAny (model X.prog X.w) X.A (f v u) Q X.xe s2):
  wpAny (model X.prog X.w) X.A (eval a X.env) (fun v s₁=>wpAny (model X.prog X.w) X.A (eval b X.env) (fun u s₂=>wpAny (model X.prog X.w) X.A (f v u) Q X.xe s₂) X.xe s₁) X.xe s:=by
 refine thn (ha Kp s σ H _ I h) fun v s1 ⟨x,H1,I1,r1,q1⟩=>?_
 refine thn (hb Kp s1 σ H1 _ I1 q1) fun u s2 ⟨y,H2,I2,r2,q2⟩=>?_
 exact hf v u s2 x y H2 I2 r1 r2 q2
theorem ap4 {op:Operator}{r:R2} (ho:OpR X (binaryOp op) r) (ha:PE X a ta) (hb:PE X b tb):PE X (.BinOp a op b pos) (tOp r ta tb):=by
 intro Kp s σ H Q I h
 exact wpAny_BinOp (aow ha hb I h fun v u s2 x y H2 I2 rx ry q=>ho Kp s2 σ H2 x y v u Q I2 rx ry q)
theorem ap5 {op:UnaryOp}{r:V->Hp->VK->Prop} (ho:UnR X (unaryOp op) r) (ha:PE X a ta):PE X (.UnaryOp op a pos) (tUn r ta):=by
 intro Kp s σ H Q I h
 exact UnaryOp_ (thn (ha Kp s σ H _ I h) fun v s1 ⟨x,H1,I1,r1,q1⟩=>ho Kp s1 σ H1 x v Q I1 r1 q1)
theorem opI {f:Value->Value->Sem Value}{C:Int->Int->Prop}{g:Int->Int->Int}
  (rule:∀ (i j:Int) (t u:Tok) (s:Shared) (Q:Value->SP0) (E:Value->SP0),C i j->Q (.int (g i j) s.toks) { s with toks:=s.toks+1 }->wpAny (model X.prog X.w) X.A (f (.int i t) (.int j u)) Q E s):
  OpR X f (rI C fun i j=> .int (g i j)):=by
 intro Kp s σ H x y v u Q I rx ry h
 obtain ⟨i,j,rfl,rfl,hc,q⟩:=h
 obtain ⟨t,rfl⟩:=rx
 obtain ⟨t',rfl⟩:=ry
 exact rule i j t t' s _ _ hc ⟨.int (g i j),H,I.tok _,⟨_,rfl⟩,q⟩
theorem ap6 {f:Value->Value->Sem Value}{g:Int->Int->Int}
  (rule:∀ (i j:Int) (t u:Tok) (s:Shared) (Q:Value->SP0) (E:Value->SP0),Q (.int (g i j) s.toks) { s with toks:=s.toks+1 }->wpAny (model X.prog X.w) X.A (f (.int i t) (.int j u)) Q E s):
  OpR X f (rI0 fun i j=> .int (g i j)):=by
 intro Kp s σ H x y v u Q I rx ry h
 obtain ⟨i,j,rfl,rfl,q⟩:=h
 obtain ⟨t,rfl⟩:=rx
 obtain ⟨t',rfl⟩:=ry
 exact rule i j t t' s _ _ ⟨.int (g i j),H,I.tok _,⟨_,rfl⟩,q⟩
theorem aox {f:Value->Value->Sem Value}{g:Int->Int->Bool}
  (rule:∀ (i j:Int) (t u:Tok) (s:Shared) (Q:Value->SP0) (E:Value->SP0),Q (.bool (g i j)) s->wpAny (model X.prog X.w) X.A (f (.int i t) (.int j u)) Q E s):
  OpR X f (rI0 fun i j=> .bl (g i j)):=by
 intro Kp s σ H x y v u Q I rx ry h
 obtain ⟨i,j,rfl,rfl,q⟩:=h
 obtain ⟨t,rfl⟩:=rx
 obtain ⟨t',rfl⟩:=ry
 exact rule i j t t' s _ _ ⟨.bl (g i j),H,I,rfl,q⟩
noncomputable def arc (i j:Int):Prop:=0<j/\j<1073741824
noncomputable def aoy (i j:Int):Prop:=(-(2 ^ 64)<i/\i<2 ^ 64) ∨ (-(2 ^ 64)<j/\j<2 ^ 64)
theorem aoy.ok {i j:Int} (h:aoy i j):IntMulOk i j:=by
 rcases h with ⟨h1,h2⟩ | ⟨h1,h2⟩
 ·exact .of_left (intBits_le_64 h1 h2)
 ·exact .of_right (intBits_le_64 h1 h2)
theorem aoz:OpR X (binaryOp .Add) (rI0 fun i j=> .int (i+j)):=ap6 fun _ _ _ _ _ _ _ q=>add_int q
theorem aoA:OpR X (binaryOp .Sub) (rI0 fun i j=> .int (i - j)):=ap6 fun _ _ _ _ _ _ _ q=>sub_int q
theorem aoB:OpR X (binaryOp .Mult) (rI aoy fun i j=> .int (i*j)):=opI fun _ _ _ _ _ _ _ hc q=>mul_int q hc.ok
theorem amm:OpR X (binaryOp .FloorDiv) (rI arc fun i j=> .int (i / j)):=opI fun i j _ _ _ _ _ hc q=>by
 have h1:(0:Int)<j:=hc.1
 have h2:j<1073741824:=hc.2
 exact floordiv_int (by omega) (by rw [Int.fdiv_eq_ediv_of_nonneg i (by omega)]; exact q) (.inl (PyProof.noPylong_small (by omega)))
theorem aoC:OpR X (binaryOp .Mod) (rI (fun _ j=>0<j) fun i j=> .int (i % j)):=opI fun i j _ _ _ _ _ hc q=>by
 have h1:(0:Int)<j:=hc
 exact mod_int' (by omega) (by rw [Int.fmod_eq_emod_of_nonneg i (by omega)]; exact q)
theorem unI {f:Value->Sem Value}{g:Int->Int}
  (rule:∀ (i:Int) (t:Tok) (s:Shared) (Q:Value->SP0) (E:Value->SP0),Q (.int (g i) s.toks) { s with toks:=s.toks+1 }->wpAny (model X.prog X.w) X.A (f (.int i t)) Q E s):
  UnR X f (rU fun i=> .int (g i)):=by
 intro Kp s σ H x v Q I rx h
 obtain ⟨i,rfl,q⟩:=h
 obtain ⟨t,rfl⟩:=rx
 exact rule i t s _ _ ⟨.int (g i),H,I.tok _,⟨_,rfl⟩,q⟩
theorem aoD:UnR X (unaryOp .USub) (rU fun i=> .int (-i)):=unI fun _ _ _ _ _ q=>neg_int q
end
section
variable {X:Cx}{a b c:Expr}{ta tb tc:TE}{pos:Pos}
theorem ajS {Kp:List (Addr × Obj)}{σ:St}{H:Hp}{s:Shared}{Q:VK}{k k':Bool} (I:Inv X Kp σ H s) (q:Q (.bl k) H) (e:k=k'):EP X Kp σ Q (.bool k') s:=by
 subst e
 exact ⟨.bl k,H,I,rfl,q⟩
theorem ap7:OpR X (compareOp .Lt) (rI0 fun i j=> .bl (decide (i<j))):=aox fun _ _ _ _ _ _ _ q=>lt_int q
theorem ap8:OpR X (compareOp .LtE) (rI0 fun i j=> .bl (decide (i<=j))):=aox fun _ _ _ _ _ _ _ q=>le_int q
theorem ap9:OpR X (compareOp .Gt) (rI0 fun i j=> .bl (decide (j<i))):=aox fun _ _ _ _ _ _ _ q=>gt_int q
theorem aoE:OpR X (compareOp .Is) (fun x y H Q=>y= .non/\Q (.bl (decide (x= .non))) H):=by
 intro Kp s σ H x y v u Q I rx ry h
 obtain ⟨rfl,q⟩:=h
 cases ry
 refine is_none_gen (ajS I q ?_)
 cases x <;> first
  | (cases rx; rfl)
  | (obtain ⟨t,rfl⟩:=rx; rfl)
theorem amn:OpR X (compareOp .IsNot) (fun x y H Q=>y= .non/\Q (.bl (!decide (x= .non))) H):=by
 intro Kp s σ H x y v u Q I rx ry h
 obtain ⟨rfl,q⟩:=h
 cases ry
 refine isnot_none_gen (ajS I q ?_)
 cases x <;> first
  | (cases rx; rfl)
  | (obtain ⟨t,rfl⟩:=rx; rfl)
theorem OpR.or {f:Value->Value->Sem Value}{r r':R2} (h:OpR X f r) (h':OpR X f r'):OpR X f (fun x y H Q=>r x y H Q ∨ r' x y H Q):=by
 intro Kp s σ H x y v u Q I rx ry q
 rcases q with q | q
 ·exact h Kp s σ H x y v u Q I rx ry q
 ·exact h' Kp s σ H x y v u Q I rx ry q
theorem aga (b:Expr) {op:CmpOp} (h:op ≠ .In:=by decide) (h2:op ≠ .NotIn:=by decide):behindInMarks op b=false:=by
 have e1:(op == CmpOp.In)=false:=by cases op <;> first | rfl | exact absurd rfl h
 have e2:(op == CmpOp.NotIn)=false:=by cases op <;> first | rfl | exact absurd rfl h2
 cases b <;> simp [behindInMarks,e1,e2]
theorem amo {op:CmpOp}{r:R2} (ho:OpR X (compareOp op) r) (ha:PE X a ta) (hb:PE X b tb) (hm:behindInMarks op b=false):PE X (.Compare a [op] [b] pos) (tOp r ta tb):=by
 intro Kp s σ H Q I h
 exact wpAny_Compare1 (aow ha hb I h fun v u s2 x y H2 I2 rx ry q=>ho Kp s2 σ H2 x y v u Q I2 rx ry q) hm
noncomputable def anV (t:TE):TT:=fun σ H Q=>t σ H fun x H'=>∃ k,x= .bl k/\Q k H'
theorem amp {op:CmpOp}{r:R2} (ho:OpR X (compareOp op) r) (ha:PE X a ta) (hb:PE X b tb) (hm:behindInMarks op b=false):PT X (.Compare a [op] [b] pos) (anV (tOp r ta tb)):=by
 intro Kp s σ H Q I h
 refine wpAny_isTrue_Compare1 (thn (ha Kp s σ H _ I h) fun v s1 ⟨x,H1,I1,r1,q1⟩=>thn (hb Kp s1 σ H1 _ I1 q1) fun u s2 ⟨y,H2,I2,r2,q2⟩=>
  thn (ho Kp s2 σ H2 x y v u _ I2 r1 r2 q2) fun c s3 ⟨z,H3,I3,r3,k,e,q3⟩=>?_) hm
 subst e
 cases r3
 exact wpAny_truthy_bool ⟨H3,I3,q3⟩
noncomputable def agb (r r':R2) (ta tb tc:TE):TE:=fun σ H Q=>ta σ H fun x H1=>tb σ H1 fun y H2=>r x y H2 fun z H3=>∃ k,z= .bl k/\
 (if k=true then tc σ H3 fun w' H4=>r' y w' H4 Q else Q (.bl false) H3)
theorem ajT {op op':CmpOp}{r r':R2} (ho:OpR X (compareOp op) r) (ho':OpR X (compareOp op') r') (ha:PE X a ta) (hb:PE X b tb) (hc:PE X c tc)
  (hm:lastMarks [op,op'] [b,c]=false:=by with_unfolding_all rfl):PE X (.Compare a [op,op'] [b,c] pos) (agb r r' ta tb tc):=by
 intro Kp s σ H Q I h
 refine Compare_chain (thn (ha Kp s σ H _ I h) fun v s1 ⟨x,H1,I1,r1,q1⟩=>chain_link (thn (hb Kp s1 σ H1 _ I1 q1) fun u s2 ⟨y,H2,I2,r2,q2⟩=>
  thn (ho Kp s2 σ H2 x y v u _ I2 r1 r2 q2) fun d s3 ⟨z,H3,I3,r3,k,e,q3⟩=>?_)) hm
 subst e
 cases r3
 refine wpAny_truthy_bool ?_
 cases k with
 | false=>exact ite_ff ⟨.bl false,H3,I3,rfl,q3⟩
 | true=>exact ite_tt (chain_last (thn (hc Kp s3 σ H3 _ I3 q3) fun w' s4 ⟨z',H4,I4,r4,q4⟩=>ho' Kp s4 σ H4 y z' u w' Q I4 r2 r4 q4))
theorem ajU {op op':CmpOp}{r r':R2} (ho:OpR X (compareOp op) r) (ho':OpR X (compareOp op') r') (ha:PE X a ta) (hb:PE X b tb) (hc:PE X c tc)
  (hm:lastMarks [op,op'] [b,c]=false:=by with_unfolding_all rfl):PT X (.Compare a [op,op'] [b,c] pos) (anV (agb r r' ta tb tc)):=by
 intro Kp s σ H Q I h
 refine isTrue_chain (thn (ha Kp s σ H _ I h) fun v s1 ⟨x,H1,I1,r1,q1⟩=>test_link (thn (hb Kp s1 σ H1 _ I1 q1) fun u s2 ⟨y,H2,I2,r2,q2⟩=>
  thn (ho Kp s2 σ H2 x y v u _ I2 r1 r2 q2) fun d s3 ⟨z,H3,I3,r3,k,e,q3⟩=>?_)) hm
 subst e
 cases r3
 refine wpAny_truthy_bool ?_
 cases k with
 | false=>
  obtain ⟨k',e',q'⟩:=q3
  cases e'
  exact ite_ff ⟨H3,I3,q'⟩
 | true=>
  refine ite_tt (test_last (thn (hc Kp s3 σ H3 _ I3 q3) fun w' s4 ⟨z',H4,I4,r4,q4⟩=>thn (ho' Kp s4 σ H4 y z' u w' _ I4 r2 r4 q4) fun d' s5 ⟨z2,H5,I5,r5,k2,e2,q5⟩=>?_))
  subst e2
  cases r5
  exact wpAny_truthy_bool ⟨H5,I5,q5⟩
theorem agc:(sizeLine:Nat)<2 ^ 63:=by rw [sizeLine_eq]; decide
theorem ac2 {x:V}{us:List Value} (r:jG [x] us):∃ u,us=[u]/\jK x u:=by
 cases r with
 | cons r1 r2=>cases r2; exact ⟨_,rfl,r1⟩
theorem ajV {x y:V}{us:List Value} (r:jG [x,y] us):∃ u w',us=[u,w']/\jK x u/\jK y w':=by
 cases r with
 | cons r1 r2=>
  cases r2 with
  | cons r3 r4=>cases r4; exact ⟨_,_,rfl,r1,r3⟩
theorem ajW:zX X (.builtin "abs") (fun xs H Q=>∃ i,xs=[.int i]/\Q (.int (if i<0 then -i else i)) H):=by
 intro Kp s σ H xs us Q I r h
 obtain ⟨i,rfl,q⟩:=h
 obtain ⟨u,rfl,t,rfl⟩:=ac2 r
 exact call_abs_int fun u tk=>⟨.int (if i<0 then -i else i),H,I.tok _,⟨_,rfl⟩,q⟩
theorem ait (hc:X.calm=true):zX X (.builtin "max") (fun xs H Q=>∃ i j,xs=[.int i,.int j]/\Q (.int (if j > i then j else i)) H):=by
 intro Kp s σ H xs us Q I r h
 obtain ⟨i,j,rfl,q⟩:=h
 obtain ⟨u,w',rfl,⟨t,rfl⟩,⟨t',rfl⟩⟩:=ajV r
 refine max_two_ints (I.ok.hd hc) fun h' tk k=>⟨_,H,I.kept k,?_,q⟩
 by_cases hj:j > i
 ·rw [if_pos hj,if_pos hj]; exact ⟨_,rfl⟩
 ·rw [if_neg hj,if_neg hj]; exact ⟨_,rfl⟩
theorem aiu (hc:X.calm=true):zX X (.builtin "min") (fun xs H Q=>∃ i j,xs=[.int i,.int j]/\Q (.int (if j<i then j else i)) H):=by
 intro Kp s σ H xs us Q I r h
 obtain ⟨i,j,rfl,q⟩:=h
 obtain ⟨u,w',rfl,⟨t,rfl⟩,⟨t',rfl⟩⟩:=ajV r
 refine min_two_ints (I.ok.hd hc) fun h' tk k=>⟨_,H,I.kept k,?_,q⟩
 by_cases hj:j<i
 ·rw [if_pos hj,if_pos hj]; exact ⟨_,rfl⟩
 ·rw [if_neg hj,if_neg hj]; exact ⟨_,rfl⟩
end
structure ObjM (h:Heap) (x dx C:Addr) (mA:SV):Prop where
 obj:h.get? x=some (PySem.W.instObj C dx)
 ns:h.Ns1 dx mA
 ne:dx ≠ x
section
variable {prog:Program}{w:World}{A:Around}{E:Value->SP0}{s:Shared}{K:Fg}{x dx C f:Addr}{mA:SV}{name:Str}{v:Value}
end
theorem abd.some_of {v:V}{o:Option Value} (r:abd (some v) o):∃ u,o=some u/\jK v u:=by
 cases o with
 | none=>exact (show False from r).elim
 | some u=>exact ⟨u,rfl,r⟩
section
variable {P:Program}{w:World}{H H':Hp}{h h':Heap}{a C dx:Addr}{fs fs':List (Str × V)}
end
structure Cls (K:Fg) (C:Addr):Prop where
 pg:PySem.W.plainGet K C Str.empty=true
 hd:PySem.W.hasDictIn K C=true
 po:PySem.W.plainOver K C=true
 sa:PySem.W.findIn K (.ref C) "__setattr__"=some (some (.builtin "object.__setattr__"))
theorem Cls.get {K:Fg}{C:Addr} (c:Cls K C) (f:Str):PySem.W.plainGet K C f=true:=c.pg
structure Con (K:Fg) (C:Addr) (f:Str) (v:V) (u:Value):Prop where
 at_:PySem.W.findIn K (.ref C) f=some (some u)
 rel:jK v u
 get:PySem.W.specialIn K u "__get__"=some none
 cp:PySem.W.copiedNames.contains f=false
structure Meth (K:Fg) (C:Addr) (m:Str) (f:Addr):Prop where
 at_:PySem.W.findIn K (.ref C) m=some (some (.ref f))
 fn:PySem.W.isFn K (.ref f)=true
 kp:PySem.W.keepIn K (.ref f)=true
section
variable {X:Cx}{Kp:List (Addr × Obj)}{σ:St}{H:Hp}{s:Shared}{a C dx:Addr}{fs:List (Str × V)}{f:Str}{v:V}{A:Around}{E:Value->SP0}
end
section
variable {X:Cx}{o e value:Expr}{f:Str}{pos pos' tpos:Pos}{ta tv:TE}
end
section
variable {X:Cx}{Kp:List (Addr × Obj)}{σ:St}{H:Hp}{s:Shared}{A:Around}{E:Value->SP0}{Q:Value->SP0}{c:Value}{b:Bool}
inductive TyOf (K:Fg) (H:Hp):V->Value->Prop where
 | non:TyOf K H .non (.type "NoneType")
 | bl (x:Bool):TyOf K H (.bl x) (.type "bool")
 | int (i:Int):TyOf K H (.int i) (.type "int")
 | str (x:Str):TyOf K H (.str x) (.type "str")
 | flt (x:UInt64):TyOf K H (.flt x) (.type "float")
 | lst {a:Addr} {xs:List V} (e:H a=some (.lst xs)):TyOf K H (.ref a) (.type "list")
 | frz {a:Addr} {o:Obj} {xs:List V} (e:H a=some (.frz o (.lst xs))):TyOf K H (.ref a) (.type "list")
 | tup {a:Addr} {xs:List V} (e:H a=some (.tup xs)):TyOf K H (.ref a) (.type "tuple")
 | dK {a:Addr} {kvs:List (Key × V)} (e:H a=some (.dK kvs)):TyOf K H (.ref a) (.type "dict")
 | dT {a:Addr} {kvs:List (List Key × V)} (e:H a=some (.dT kvs)):TyOf K H (.ref a) (.type "dict")
 | ins {a C dx:Addr} {fs:List (Str × V)} (e:H a=some (.ins C dx fs)) (cl:Cls K C) (ha:PySem.W.findIn K (.ref C) "__class__"=some (some (.builtin "object.__class__")))
   (hn:PySem.W.specialIn K (.builtin "object.__class__") "__get__"=some (some (.builtin "getset_descriptor.__get__"))) (htk:PySem.W.takesIn K (.builtin "object.__class__")=some true)
   (hm:PySem.W.mroIn K C (.type "object")=some true):TyOf K H (.ref a) (.ref C)
end
structure Room (k:Nat) (A:Around):Prop where
 hd:A.handled=none
 dp:A.depth+3*k+5<recursionLimit
 un:A.units+16*k+200<cLine
theorem Room.mono {j k:Nat}{A:Around} (r:Room k A) (h:j<=k):Room j A:=⟨r.hd,by have:=r.dp; omega,by have:=r.un; omega⟩
theorem Room.deeper {k:Nat}{A:Around} (r:Room (k+1) A) (env:Env):Room k (A.deeper env):=
 ⟨r.hd,by have:=r.dp; show A.depth+1+3*k+5<_; omega,by have:=r.un; show A.units+3+16*k+200<_; omega⟩
theorem Room.in1 {k:Nat}{A:Around} (r:Room (k+1) A):Room k A.in1:=
 ⟨r.hd,by have:=r.dp; show A.depth+3*k+5<_; omega,by have:=r.un; show A.units+1+16*k+200<_; omega⟩
theorem Room.depth {k:Nat}{A:Around} (r:Room k A):A.depth<recursionLimit:=by have:=r.dp; omega
theorem Room.units {k:Nat}{A:Around} (r:Room k A):A.units+64<cLine:=by have:=r.un; omega
noncomputable def ard:TA:=fun _ H Q=>Q [] H
noncomputable def aqa (ta:TE) (tr:TA):TA:=fun σ H Q=>ta σ H fun x H1=>tr σ H1 fun xs H2=>Q (x::xs) H2
section
variable {X:Cx}{e:Expr}{es:List Expr}{te:TE}{t:TA}{pos:Pos}
theorem agd {α:Type}:∀ (us:List α),us.length=1->∃ a,us=[a]
 | [a],_=>⟨a,rfl⟩
theorem Zy {α:Type} (us:List α) (h:us.length=2):∃ a b,us=[a,b]:=by
 cases us with
 | nil=>cases h
 | cons a r=>obtain ⟨b,rfl⟩:=agd r (Nat.succ.inj h); exact ⟨a,b,rfl⟩
theorem Zs {α:Type} (us:List α) (h:us.length=3):∃ a b c,us=[a,b,c]:=by
 cases us with
 | nil=>cases h
 | cons a r=>obtain ⟨b,c,rfl⟩:=Zy r (Nat.succ.inj h); exact ⟨a,b,c,rfl⟩
theorem aqb {α:Type} (us:List α) (h:us.length=4):∃ a b c d,us=[a,b,c,d]:=by
 cases us with
 | nil=>cases h
 | cons a r=>obtain ⟨b,c,d,rfl⟩:=Zs r (Nat.succ.inj h); exact ⟨a,b,c,d,rfl⟩
theorem QG:PA X [] ard:=fun _ _ _ _ H Q I h=>Calls.spliced_nil ⟨[],H,I,.nil,h⟩
theorem zF (ha:PE X e te) (hr:PA X es t) (hs:starEach (e::es) X.env=(false,eval e X.env)::starEach es X.env:=by rfl):PA X (e::es) (aqa te t):=by
 intro pos Kp s σ H Q I h
 rw [hs]
 show wpAny _ _ (spliced ((false,eval e X.env)::backTo pos (starEach es X.env))) _ _ s
 refine Calls.spliced_cons (thn (ha Kp s σ H _ I h) fun u s1 ⟨x,H1,I1,r1,q1⟩=>?_)
 exact thn (hr pos Kp s1 σ H1 _ I1 q1) fun us s2 ⟨xs,H2,I2,r2,q2⟩=>⟨x::xs,H2,I2,.cons r1 r2,q2⟩
noncomputable def are (t:TA):TE:=fun σ H Q=>t σ H fun xs H1=>xs.length<=sizeLine/\∀ p,H1 p=none->Q (.ref p) (upd H1 p (.tup xs))
noncomputable def arf (t:TA):TE:=fun σ H Q=>t σ H fun xs H1=>xs.length<=sizeLine/\∀ p,H1 p=none->Q (.ref p) (upd H1 p (.lst xs))
theorem ajX {x1} (h:PA X es t):PE X (.Tuple es x1 pos) (are t):=by
 intro Kp s σ H Q I hq
 refine wpAny_Tuple_spliced (thn (h pos Kp s σ H _ I hq) fun us s1 ⟨xs,H1,I1,r,z,q⟩=>⟨by rw [←r.length]; exact z,?_⟩)
 have hf:H1 s1.heap.objs.size=none:=I1.hok.fresh (Nat.le_refl _)
 refine ⟨.ref s1.heap.objs.size,upd H1 s1.heap.objs.size (.tup xs),I1.laid (t':=s1.toks) (fun b u e=>Heap.get?_push_of_some _ e) (Nat.le_refl _) ?_,rfl,q _ hf⟩
 exact ⟨z,us,r,⟨_,Heap.get?_push_size _ rfl,rfl,_,rfl⟩⟩
theorem age (h:PA X es t):PE X (.List es pos) (arf t):=by
 intro Kp s σ H Q I hq
 refine wpAny_List_spliced (thn (h pos Kp s σ H _ I hq) fun us s1 ⟨xs,H1,I1,r,z,q⟩=>⟨by rw [←r.length]; exact z,?_⟩)
 have hf:H1 s1.heap.objs.size=none:=I1.hok.fresh (Nat.le_refl _)
 refine ⟨.ref s1.heap.objs.size,upd H1 s1.heap.objs.size (.lst xs),I1.laid (t':=s1.toks) (fun b u e=>Heap.get?_push_of_some _ e) (Nat.le_refl _) ?_,rfl,q _ hf⟩
 exact ⟨z,us,0,r,Heap.get?_push_size _ rfl⟩
end
noncomputable abbrev Sp:=List V->Hp->VK->XK->Prop
noncomputable abbrev CXT:=List Env->Hp->Shared->XK->Value->SP0
structure Env0 (P:Program) (w:World) (K:Fg) (mg:SV) (base:Heap) (A:Around) (Ko:List Env) (s:Shared) (H:Hp):Prop where
 frames:A.frames=some Ko
 mod:Mod K mg base
 bs:∀ b o,base.get? b=some o->s.heap.get? b=some o/\H b=none
 bsz:base.objs.size<=s.heap.objs.size
 funs:s.heap.FunFrames base Ko
 frf:∀ b ∈ frs Ko,H b=none
 hok:HOk P w H s.heap
 bare:AllBare s.gens
noncomputable def CE (Ko:List Env) (P:Program) (w:World) (H:Hp) (s:Shared) (Q:VK) (u:Value) (s':Shared):Prop:=
 ∃ v H',s'.os=s.os/\AllBare s'.gens/\Un (frs Ko) [] H H' s.heap s'.heap/\HOk P w H' s'.heap/\jK v u/\Q v H'
noncomputable def CR (CX:CXT) (Ko:List Env) (P:Program) (w:World) (H:Hp) (s:Shared) (Q:VK) (E:XK) (r:Result) (s':Shared):Prop:=
 match r with
 | .ok (.ret u)=>CE Ko P w H s Q u s'
 | .ok _=>False
 | .error e=>CX Ko H s E e s'
structure FnOk (P:Program) (w:World) (K:Fg) (mg:SV) (base:Heap) (CX:CXT) (k:Nat) (f:Addr) (fd:FuncData) (ps:List Str) (sp:Sp):Prop where
 len:∀ vs H Q E,sp vs H Q E->vs.length=ps.length
 run:∀ (A:Around) (Ko:List Env) (s:Shared) (H:Hp) (args:Args) (us:List Value) (vs:List V) (Q:VK) (E:XK),Room k A->Env0 P w K mg base A Ko s H->BindsTo s fd args (ps.zip us)->jG vs us->sp vs H Q E->
  codeAny (model P w) A (.call (.ref f) args) (CR CX Ko P w H s Q E) s
theorem FnOk.mono {P:Program}{w:World}{K:Fg}{mg:SV}{base:Heap}{CX:CXT}{j k:Nat}{f:Addr}{fd:FuncData}{ps:List Str}{sp:Sp} (F:FnOk P w K mg base CX j f fd ps sp) (h:j<=k):
  FnOk P w K mg base CX k f fd ps sp:=⟨F.len,fun A Ko s H args us vs Q E hr=>F.run A Ko s H args us vs Q E (hr.mono h)⟩
theorem FnOk.imp {P:Program}{w:World}{K:Fg}{mg:SV}{base:Heap}{CX:CXT}{k:Nat}{f:Addr}{fd:FuncData}{ps:List Str}{sp sp':Sp} (F:FnOk P w K mg base CX k f fd ps sp)
  (h:∀ vs H Q E,sp' vs H Q E->sp vs H Q E):FnOk P w K mg base CX k f fd ps sp':=
 ⟨fun vs H Q E q=>F.len vs H Q E (h _ _ _ _ q),fun A Ko s H args us vs Q E hr he hb hv hs=>F.run A Ko s H args us vs Q E hr he hb hv (h _ _ _ _ hs)⟩
theorem Env0.in1 {P:Program}{w:World}{K:Fg}{mg:SV}{base:Heap}{A:Around}{Ko:List Env}{s:Shared}{H:Hp} (e:Env0 P w K mg base A Ko s H):
  Env0 P w K mg base A.in1 Ko s H:=⟨e.frames,e.mod,e.bs,e.bsz,e.funs,e.frf,e.hok,e.bare⟩
section
variable {X:Cx}{Kp:List (Addr × Obj)}{σ:St}{H:Hp}{s s':Shared}
theorem Inv.env0 (I:Inv X Kp σ H s):Env0 X.prog X.w X.K X.mg X.base X.A X.stack s H:=
 ⟨I.ok.frames,I.ok.mod,I.bs,Nat.le_trans I.ok.bsz I.sz,I.stack,I.stkFree,I.hok,I.bare⟩
theorem Inv.after {Q:VK}{u:Value} (I:Inv X Kp σ H s) (h:CE X.stack X.prog X.w H s Q u s'):EP X Kp σ Q u s':=by
 obtain ⟨v,H',os,bare,un,hok,r,q⟩:=h
 obtain ⟨hh,g,d,t,os'⟩:=s'
 obtain rfl:os'=s.os:=os
 exact ⟨v,H',I.call (h':=hh) (g':=g) (d':=d) (t':=t) (ch:=[]) un hok bare (fun b z=>absurd z (by simp)),r,q⟩
end
noncomputable def aqc (sp:Sp) (dvs:List V) (E:XK) (t:TA):TE:=fun σ H Q=>t σ H fun vs H1=>sp (vs++dvs) H1 Q E
noncomputable def ZN (K:Fg) (fd:FuncData) (ps:List Str) (ds:List Value):Prop:=
 ∀ (s:Shared) (us:List Value),K.In s.heap->(us++ds).length=ps.length->BindsTo s fd ⟨us,[]⟩ (ps.zip (us++ds))
theorem ZN.all {K:Fg}{fd:FuncData}{ps:List Str} (h:∀ us:List Value,us.length=ps.length->bindArgs fd ⟨us,[]⟩=pure (ps.zip us)):ZN K fd ps []:=fun s us _ hl=>by
 rw [List.append_nil] at hl ⊢
 exact .of_eq (h us hl)
noncomputable def agf (CX:CXT) (X:Cx) (E:XK):Prop:=∀ (Kp:List (Addr × Obj)) (σ:St) (H:Hp) (s:Shared) (e:Value) (s':Shared),Inv X Kp σ H s->CX X.stack H s E e s'->X.xe e s'
section
variable {X:Cx}{CX:CXT}{k:Nat}{f C:Addr}{fd:FuncData}{ps:List Str}{sp:Sp}{dvs:List V}{ds:List Value}{E:XK}{x m:Str}{p pos apos:Pos}{e o:Expr}{es:List Expr}{ta:TE}{t:TA}
theorem aoF {Kp:List (Addr × Obj)}{σ:St}{H:Hp}{s:Shared}{Q:VK}{us:List Value}{vs:List V} (F:FnOk X.prog X.w X.K X.mg X.base CX k f fd ps sp) (hr:Room k X.A) (hb:ZN X.K fd ps ds) (hd:jG dvs ds) (hx:agf CX X E)
  (I:Inv X Kp σ H s) (r:jG vs us) (h:sp (vs++dvs) H Q E):wpAny (model X.prog X.w) X.A (call (.ref f) us) (EP X Kp σ Q) X.xe s:=by
 have r2:jG (vs++dvs) (us++ds):=r.append hd
 have hl:(us++ds).length=ps.length:=by rw [←r2.length]; exact F.len _ _ _ _ h
 refine wpAny_call (codeAny_mono (F.run X.A X.stack s H ⟨us,[]⟩ (us++ds) (vs++dvs) Q E hr I.env0 (hb s us I.kIn hl) r2 h) fun r s' hq=>?_)
 cases r with
 | error e=>exact hx Kp σ H s e s' I hq
 | ok fl=>
  cases fl with
  | ret u=>exact I.after hq
  | next=>exact False.elim hq
  | brk=>exact False.elim hq
  | cont=>exact False.elim hq
theorem amq (F:FnOk X.prog X.w X.K X.mg X.base CX k f fd ps sp) (hr:Room k X.A) (hg:Gl X x) (hm:X.mg x=some (.ref f)) (hk:PySem.W.keepIn X.K (.ref f)=true) (hb:ZN X.K fd ps ds) (hd:jG dvs ds) (hx:agf CX X E)
  (ha:PA X (e::es) t) (hdb:(x == ("__debug__":Str))=false:=by decide) (he:starEach (e::es) X.env=(false,eval e X.env)::starEach es X.env:=by rfl) (hpl:(backTo pos (starEach es X.env)).any (·.1)=false:=by rfl):
  PE X (.Call (.Name x p) (e::es) [] pos) (aqc sp dvs E t):=by
 intro Kp s σ H Q I h
 refine wpAny_Call_Name_kw (ahn I hg hm ?_ hdb)
 refine PySem.W.callWith_K (h₀:=X.base) I.ok.mod.kin hk (thn (ha pos Kp s σ H _ I h) fun us s1 ⟨vs,H1,I1,r,q⟩=>⟨I1.kIn,?_⟩) he hpl
 exact aoF F hr hb hd hx I1 r q
structure Mk (K:Fg) (C f:Addr):Prop where
 makes:PySem.W.makesIn K C=true
 init:PySem.W.findIn K (.ref C) "__init__"=some (some (.ref f))
 fn:PySem.W.isFn K (.ref f)=true
 kp:PySem.W.keepIn K (.ref C)=true
end
section
variable {X:Cx}{CX:CXT}{k:Nat}{f C:Addr}{fd:FuncData}{ps ks:List Str}{sp:Sp}{E:XK}{x m:Str}{p pos apos kpos:Pos}{e o:Expr}{es:List Expr}{kws:List Keyword}{te ta:TE}{t tk:TA}{nm:Option Str}
structure KBinds (K:Fg) (fd:FuncData) (ps ks:List Str) (g:List Value->List Value->List Value) (gV:List V->List V->List V):Prop where
 to:∀ (s:Shared) (us ws:List Value),K.In s.heap->(g us ws).length=ps.length->BindsTo s fd ⟨us,ks.zip ws⟩ (ps.zip (g us ws))
 rel:∀ {vs:List V} {us:List Value} {zs:List V} {ws:List Value},jG vs us->jG zs ws->jG (gV vs zs) (g us ws)
variable {g:List Value->List Value->List Value}{gV:List V->List V->List V}
end
structure FnScope (N P:List Str) (sc:Scope):Prop where
 kind:sc.kind= .function
 co:sc.isCoroutine=false
 gen:sc.isGenerator=false
 nd:N.Nodup
 pre:N.take P.length=P
 par:∀ x ∈ P,sc.names.lookup x=some .local ∨ sc.names.lookup x=some .cell
 nofree:∀ y ∈ sc.names,y.2 ≠ .free
theorem ac3 {kindOf:Str->Option NameKind}{x:Str}:∀ {binds:List (Str × Value)}{m:SV},(∀ v,(x,v) ∉ binds)->bindL kindOf binds m x=m x
 | [],_,_=>rfl
 | (n,v)::r,m,h=>by
  unfold bindL
  rw [ac3 fun w hw=>h w (List.mem_cons_of_mem _ hw)]
  split
  ·have:x ≠ n:=by rintro rfl; exact h v List.mem_cons_self
   simp [this]
  ·rfl
theorem ac4 {kindOf:Str->Option NameKind}{x:Str}:∀ {binds:List (Str × Value)}{m:SV},(∀ v,(x,v) ∉ binds)->bindC kindOf binds m x=m x
 | [],_,_=>rfl
 | (n,v)::r,m,h=>by
  unfold bindC
  rw [ac4 fun w hw=>h w (List.mem_cons_of_mem _ hw)]
  split
  ·rfl
  ·have:x ≠ n:=by rintro rfl; exact h v List.mem_cons_self
   simp [this]
theorem ac5 {kindOf:Str->Option NameKind}{x:Str}{v:Value}:∀ {P:List Str}{vs:List Value}{i:Nat}{m:SV},P.Nodup->P[i]?=some x->vs[i]?=some v->kindOf x=some .local->
  bindL kindOf (P.zip vs) m x=some v
 | [],_,_,_,_,h,_,_=>by simp at h
 | _::_,[],_,_,_,_,h,_=>by simp at h
 | p::P,w::vs,0,m,nd,h1,h2,hk=>by
  simp at h1 h2; subst h1; subst h2
  show bindL kindOf ((p,w)::P.zip vs) m p=_
  unfold bindL
  rw [ac3 fun v hv=>(List.nodup_cons.mp nd).1 (List.of_mem_zip hv).1,if_pos hk]
  simp
 | p::P,w::vs,i+1,m,nd,h1,h2,hk=>by
  show bindL kindOf ((p,w)::P.zip vs) m x=_
  unfold bindL
  exact ac5 (i:=i) (List.nodup_cons.mp nd).2 (by simpa using h1) (by simpa using h2) hk
theorem ac6 {kindOf:Str->Option NameKind}{x:Str}{v:Value}:∀ {P:List Str}{vs:List Value}{i:Nat}{m:SV},P.Nodup->P[i]?=some x->vs[i]?=some v->kindOf x ≠ some .local->
  bindC kindOf (P.zip vs) m x=some v
 | [],_,_,_,_,h,_,_=>by simp at h
 | _::_,[],_,_,_,_,h,_=>by simp at h
 | p::P,w::vs,0,m,nd,h1,h2,hk=>by
  simp at h1 h2; subst h1; subst h2
  show bindC kindOf ((p,w)::P.zip vs) m p=_
  unfold bindC
  rw [ac4 fun v hv=>(List.nodup_cons.mp nd).1 (List.of_mem_zip hv).1,if_neg hk]
  simp
 | p::P,w::vs,i+1,m,nd,h1,h2,hk=>by
  show bindC kindOf ((p,w)::P.zip vs) m x=_
  unfold bindC
  exact ac6 (i:=i) (List.nodup_cons.mp nd).2 (by simpa using h1) (by simpa using h2) hk
noncomputable def QH (N:List Str) (vs:List V):St:=vs.map some++List.replicate (N.length - vs.length) none
noncomputable def abB (CX:CXT) (P:Program) (w:World) (K:Fg) (mg:SV) (base:Heap) (N:List Str) (qual:Str) (scope:Scope) (f:Addr) (cd:Value) (A:Around) (Ko:List Env) (s:Shared) (H:Hp) (E:XK):Cx where
 prog:=P
 w:=w
 K:=K
 mg:=mg
 base:=base
 A:=A.deeper (envOfC qual scope s.heap.objs.size f cd)
 N:=N
 s₀:=s
 H₀:=H
 env:=envOfC qual scope s.heap.objs.size f cd
 Ko:=Ko
 stack:=envOfC qual scope s.heap.objs.size f cd::Ko
 ex:=[]
 calm:=true
 fn:=fun _=>true
 pn:=[]
 xe:=fun e s'=>wpAny (model P w) (A.deeper (envOfC qual scope s.heap.objs.size f cd)) (leaving (envOfC qual scope s.heap.objs.size f cd) e) (fun _ s''=>CX Ko H s E e s'') (fun e' s''=>CX Ko H s E e' s'') s'
theorem aeW {sc:Scope}{n:Nat}{x:Str} (h:sc.names.lookup x=some .cell):∃ c,(cellsFrom n sc.names []).lookup x=some c:=by
 have q:=PySem.W.cellsFrom_some sc.names n [] (.inl h)
 exact Option.isSome_iff_exists.mp q
theorem aiv {CX:CXT}{P:Program}{w:World}{K:Fg}{mg:SV}{base:Heap}{N ps:List Str}{qual:Str}{scope:Scope}{f:Addr}{cd:Value}{A:Around}{Ko:List Env}{s s1:Shared}{H:Hp}{E:XK}{us:List Value}{vs:List V}
  (S:FnScope N ps scope) (hd:A.handled=none) (e0:Env0 P w K mg base A Ko s H) (hl:vs.length=ps.length) (r:jG vs us)
  (x:InCallC s s.heap.objs.size (bindL (envOfC qual scope s.heap.objs.size f cd).kindOf (ps.zip us) fun _=>none) (cellsFrom (s.heap.objs.size+1) scope.names []) (bindC (envOfC qual scope s.heap.objs.size f cd).kindOf (ps.zip us) fun _=>none) s1):
  Inv (abB CX P w K mg base N qual scope f cd A Ko s H E) [] (QH N vs) H s1:=by
 have hpl:ps.length<=N.length:=by have:=congrArg List.length S.pre; rw [List.length_take] at this; omega
 obtain ⟨h1,tk,rfl,hk⟩:=x.done
 have noA:∀ b:Addr,b ∉ (abB CX P w K mg base N qual scope f cd A Ko s H E).ex:=fun b z=>absurd (show b ∈ ([]:List Addr) from z) (by simp)
 refine ⟨⟨e0.mod,S.kind,rfl,rfl,Nat.le_refl _,fun y z c h1 h2=>?_,fun y hy=>?_,fun y c _ h=>?_,fun _=>hd,Around.frames_deeper e0.frames,.inr ⟨rfl,rfl⟩,fun b z=>absurd z (noA b),e0.bs,e0.bsz,fun b _ _=>noA b,fun b z=>absurd z (noA b),e0.funs,e0.frf⟩,
  rfl,e0.bare,Un.kept hk,⟨_,x.toInCall.ns,fun i y v h1 h2 h3=>?_⟩,fun y c h=>⟨_,x.cell y c h⟩,e0.hok.fresh (Nat.le_refl _),fun y c h=>?_,fun p hp=>absurd (show p ∈ ([]:List (Addr × Obj)) from hp) (by simp),e0.hok.kept hk,?_⟩
 ·exact name_of_addr x.apart (PySem.mem_of_lookup h1) (PySem.mem_of_lookup h2)
 ·have hy:scope.names.lookup y=some .cell ∨ scope.names.lookup y=some .free:=hy
  rcases hy with hy | hy
  ·exact aeW hy
  ·exact absurd rfl (S.nofree _ (PySem.mem_of_lookup hy))
 ·exact Nat.le_of_lt (x.above y c (PySem.mem_of_lookup h))
 ·have hi:i<vs.length:=by
   unfold QH at h2
   by_cases hi:i<vs.length
   ·exact hi
   ·rw [List.getElem?_append_right (by simpa using hi)] at h2
    rw [List.getElem?_replicate] at h2
    split at h2 <;> cases h2
  have ha:vs[i]?=some v:=by
   unfold QH at h2
   rw [List.getElem?_append_left (by simpa using hi),List.getElem?_map] at h2
   cases e:vs[i]? with
   | none=>rw [e] at h2; cases h2
   | some a=>rw [e] at h2; cases h2; rfl
  obtain ⟨u,hu,rv⟩:=r.get ha
  have hp:ps[i]?=some y:=by
   rw [←S.pre,List.getElem?_take_of_lt (by omega)]; exact h1
  have ndP:ps.Nodup:=by rw [←S.pre]; exact S.nd.sublist (List.take_sublist _ _)
  refine ⟨u,rv,?_⟩
  rcases S.par y (List.mem_of_getElem? hp) with k | k
  ·exact .inl ⟨k,ac5 ndP hp hu k⟩
  ·obtain ⟨c,e⟩:=aeW (n:=s.heap.objs.size+1) k
   refine .inr ⟨.inl k,c,e,?_⟩
   have q:=x.cell y c e
   rw [ac6 ndP hp hu (by show scope.names.lookup y ≠ _; rw [k]; decide)] at q
   exact q
 ·exact e0.hok.fresh (Nat.le_of_lt (x.above y c (PySem.mem_of_lookup h)))
 ·unfold QH
  show _=N.length
  rw [List.length_append,List.length_map,List.length_replicate]
  omega
theorem aqd {CX:CXT}{P:Program}{w:World}{K:Fg}{mg:SV}{base:Heap}{k:Nat}{f:Addr}{name qual:Str}{params:Arguments}{body:List Stmt}{scope:Scope}{dV kV doc pm Kc ct oc:Value}{an od:Option Addr}
  {osl:Array (Option Value)} {N ps:List Str} {sp:Sp} (lk:K.lookup f=some ⟨oc,od,.func (PySem.W.fnOf name qual params body scope dV kV doc pm an Kc ct),osl⟩) (hcd:PySem.W.codeIn K Kc qual=true) (S:FnScope N ps scope)
  (len:∀ vs H Q E,sp vs H Q E->vs.length=ps.length)
  (hbody:∀ (A:Around) (Ko:List Env) (s:Shared) (H:Hp) (vs:List V) (Q:VK) (E:XK),Room k (A.deeper (envOfC qual scope s.heap.objs.size f Kc))->sp vs H Q E->
   ∃ t,PSs (abB CX P w K mg base N qual scope f Kc A Ko s H E) body t/\t { nx:=fun _ H'=>Q .non H',rt:=Q } (QH N vs) H):
  FnOk P w K mg base CX (k+1) f (PySem.W.fnOf name qual params body scope dV kV doc pm an Kc ct) ps sp:=by
 refine ⟨len,fun A Ko s H args us vs Q E hr e0 hb r hsp=>?_⟩
 have hl:=len _ _ _ _ hsp
 have KX:K.In s.heap:=e0.mod.kin.keeps fun b o e=>(e0.bs b o e).1
 have lim:s.heap.NoLimit:=e0.mod.nolimit.keeps fun b o e=>(e0.bs b o e).1
 have hkind:∀ y ∈ ps.zip us,scope.names.lookup y.1=some .local ∨ (scope.names.lookup y.1=some .cell/\((cellsFrom (s.heap.objs.size+1) scope.names []).lookup y.1).isSome=true):=fun ⟨n,v⟩ hy=>by
  rcases S.par n (List.of_mem_zip hy).1 with q | q
  ·exact .inl q
  ·exact .inr ⟨q,PySem.W.cellsFrom_some _ _ _ (.inl q)⟩
 refine codeAny_call_function hr.depth (KX _ _ lk) rfl S.co S.gen rfl (PySem.W.codeRec_of KX hcd) (hb _ _ _ _ ?_)
 refine wpAny_newFunctionEnv_cells S.kind hkind fun env he s1 x=>?_
 subst he
 refine ⟨lim.keeps x.toInCall.keep,codeAny_func ?_⟩
 obtain ⟨t,ht,hq⟩:=hbody A Ko s H vs Q E (hr.deeper _) hsp
 have I:Inv (abB CX P w K mg base N qual scope f Kc A Ko s H E) [] (QH N vs) H s1:=aiv S hr.hd e0 hl r x
 refine wpAny_mono (ht [] s1 (QH N vs) H _ I hq) (fun fl s' hs=>?_) fun e s' hs=>hs
 have fin:∀ {σ':St} {H':Hp} {v:V} {u:Value},Inv (abB CX P w K mg base N qual scope f Kc A Ko s H E) [] σ' H' s'->jK v u->Q v H'->CE Ko P w H s Q u s':=
  fun {σ' H' v u} J rv q=>⟨v,H',J.os,J.bare,J.base,J.hok,rv,q⟩
 cases fl with
 | ret u=>
  obtain ⟨v,σ',H',J,rv,q⟩:=hs
  exact fin J rv q
 | next=>
  obtain ⟨σ',H',J,q⟩:=hs
  exact fin (v:=V.non) (u:=Value.none) J rfl q
 | brk=>
  obtain ⟨_,_,_,q⟩:=hs
  exact False.elim q
 | cont=>
  obtain ⟨_,_,_,q⟩:=hs
  exact False.elim q
section
variable {X:Cx}{x:Str}{p pos:Pos}{e:Expr}{es:List Expr}{t:TA}{id T:String}{r:List V->Hp->VK->Prop}
noncomputable def tCB (r:List V->Hp->VK->Prop) (t:TA):TE:=fun σ H Q=>t σ H fun vs H1=>r vs H1 Q
theorem abC (hc:zX X (.builtin id) r) (hg:Gl X x) (hm:X.mg x=none) (hv:bootBuiltins x=some (.builtin id)) (ha:PA X (e::es) t) (hn:x ≠ "__name__":=by decide) (hdb:(x == ("__debug__":Str))=false:=by decide)
  (he:starEach (e::es) X.env=(false,eval e X.env)::starEach es X.env:=by rfl) (hpl:(backTo pos (starEach es X.env)).any (·.1)=false:=by rfl):PE X (.Call (.Name x p) (e::es) [] pos) (tCB r t):=by
 intro Kp s σ H Q I h
 refine wpAny_Call_Name_kw (Zx I hg hm hv ?_ hn hdb)
 exact PyProof.Rows.callWith_builtin1 (thn (ha pos Kp s σ H _ I h) fun us s1 ⟨vs,H1,I1,r1,q1⟩=>hc Kp s1 σ H1 vs us Q I1 r1 q1) he hpl
end
end L2
namespace HT
open PySem PyProof.Rows
noncomputable def lexLt:List Int->List Int->Bool
 | [],[]=>false
 | [],_::_=>true
 | _::_,[]=>false
 | x::xs,y::ys=>if x=y then lexLt xs ys else decide (x<y)
theorem lexLt_cons (x y:Int) (xs ys:List Int):lexLt (x::xs) (y::ys)=if x=y then lexLt xs ys else decide (x<y):=rfl
theorem lexLt_nil_nil:lexLt [] []=false:=rfl
theorem abD (y:Int) (ys:List Int):lexLt [] (y::ys)=true:=rfl
theorem abE (x:Int) (xs:List Int):lexLt (x::xs) []=false:=rfl
theorem ajY (A:Around) (s:Shared) (a:Int) (t:Tok) (c:Int) (u:Tok):∃ e,SeqAt.EqAt A s (.int a t) (.int c u) e/\(e=true ↔ a=c):=
 ⟨(a == c),SeqAt.EqAt.int_int a t c u,by simp⟩
theorem ajZ (A:Around) (s:Shared) (a:Int) (t:Tok) (c:Int) (u:Tok) (prog:Program) (w:World) (E:Value->SP0) (Q:Value->SP0) (h:Q (.bool (decide (a<c))) s):
  wpAny (model prog w) A (richCompare .Lt (.int a t) (.int c u)) Q E s:=
 (PyProof.Rows.lt_int h:wpAny (model prog w) A (compareOp .Lt (.int a t) (.int c u)) Q E s)
section
open PySem.SeqAt
open PySem.AutoSeq1 (wpAny_loadPart')
open PySem.MeetsSeq PySem.MeetsSeq2 PySem.MeetsSeq3
theorem acI (l b:Addr) (items items2:Array Value) (n n2:Nat) (dd dd2:Option Addr) (sl sl2:Array (Option Value)) (ns ms:List Int) (hi:IntsAre items.toList ns) (hj:IntsAre items2.toList ms):
  Meets (Builtin.«tuple.__lt__» ⟨[.ref l,.ref b],[]⟩)
   (fun _ R s=>s.heap.get? l=some { cls:= .type "tuple",dict:=dd,data:= .seq items n,slots:=sl }/\s.heap.get? b=some { cls:= .type "tuple",dict:=dd2,data:= .seq items2 n2,slots:=sl2 }/\
    R (.ok (.ret (.bool (lexLt ns ms)))) s):=
 .of_wp fun prog w A R s h=>by
  obtain ⟨hp,g,d,tk,os⟩:=s; obtain ⟨hl,hb,h⟩:=h
  have f2:=AutoSeq1.sub_tuple_tuple
  have z1:items.size=ns.length:=by rw [←hi.length]; simp
  have z2:items2.size=ms.length:=by rw [←hj.length]; simp
  wp_walk using wpAny_loadPart' hl,wpAny_loadPart' hb,wpAny_forIn_list _ (fun qh b s'=>b.1=none/\s'=⟨hp,g,d,tk,os⟩/\∃ (vs ws:List Value) (ns' ms':List Int),qh=vs.zip ws/\
   IntsAre vs ns'/\IntsAre ws ms'/\ns'.length+items2.size=ms'.length+items.size/\R (.ok (.ret (.bool (lexLt ns' ms')))) ⟨hp,g,d,tk,os⟩) _
  case turn=>
   rintro ⟨y,x⟩ qh b s' ⟨hb',rfl,vs,ws,ns',ms',hz,hvi,hwi,hlen,hR⟩
   cases hvi with
   | nil=>rw [List.zip_nil_left] at hz; cases hz
   | cons a t hvi'=>
    cases hwi with
    | nil=>rw [List.zip_nil_right] at hz; cases hz
    | cons c u hwi'=>
     rw [List.zip_cons_cons] at hz
     injection hz with hyx hrest
     injection hyx with hy hx
     subst hy hx
     rw [lexLt_cons] at hR
     simp only [List.length_cons] at hlen
     obtain ⟨e,he,hiff⟩:=ajY A.in1 ⟨hp,g,d,tk,os⟩ a t c u
     refine wpAny_bind (he prog w _ _ ?_)
     cases e with
     | true=>
      rw [if_pos (hiff.mp rfl)] at hR
      wp_walk
      exact ⟨rfl,rfl,_,_,_,_,hrest,hvi',hwi',by omega,hR⟩
     | false=>
      rw [if_neg (fun q=>absurd (hiff.mpr q) Bool.false_ne_true)] at hR
      have hri:=ajZ A.in1 ⟨hp,g,d,tk,os⟩ a t c u prog w
      wp_walk using hri
      exact ⟨_,rfl,by simpa using hR⟩
  case fin=>
   rintro ⟨b1,b2⟩ s' ⟨hb',rfl,vs,ws,ns',ms',hz,hvi,hwi,hlen,hR⟩
   simp only at hb'
   subst hb'
   have hv:lexLt ns' ms'=decide (items.size<items2.size):=by
    cases hvi with
    | nil=>
     cases hwi with
     | nil=>
      simp only [List.length_nil] at hlen
      rw [lexLt_nil_nil]
      exact (decide_eq_false (by omega)).symm
     | cons c u hw=>
      simp only [List.length_nil,List.length_cons] at hlen
      rw [abD]
      exact (decide_eq_true (by omega)).symm
    | cons a t hv=>
     cases hwi with
     | nil=>
      simp only [List.length_nil,List.length_cons] at hlen
      rw [abE]
      exact (decide_eq_false (by omega)).symm
     | cons c u hw=>
      rw [List.zip_cons_cons] at hz
      cases hz
   rw [hv] at hR
   wp_walk
   exact ⟨_,rfl,by simpa [Builtin.Tuple.tupleCompareSizes] using hR⟩
  case h=>
   exact ⟨rfl,rfl,items.toList,items2.toList,ns,ms,rfl,hi,hj,by omega,h⟩
end
section
variable {prog:Program}{w:World}{A:Around}{E:Value->SP0}{s:Shared}
theorem lt_tupInts {l b:Addr}{items items2:Array Value}{ns ms:List Int}{Q:Value->SP0} (hl:IsTup s.heap l items) (hb:IsTup s.heap b items2) (hi:IntsAre items.toList ns) (hj:IntsAre items2.toList ms)
  (hu:A.units<cLine) (h:Q (.bool (lexLt ns ms)) s):wpAny (model prog w) A (compareOp .Lt (.ref l) (.ref b)) Q E s:=by
 obtain ⟨⟨cls,dd,data,sl⟩,ho,hc,n,hd⟩:=id hl
 obtain ⟨⟨cls2,dd2,data2,sl2⟩,ho2,hc2,n2,hd2⟩:=id hb
 simp only at hc hd hc2 hd2
 subst hc hd hc2 hd2
 exact richCompare_meets_room (op:= .Lt) ⟨_,ho,rfl⟩ ⟨_,ho2,rfl⟩ PySem.F.slot_tuple_lt PySem.F.entry_tuple_lt (PySem.F.args_tuple_lt_2 _ _) (acI l b items items2 n n2 dd dd2 sl sl2 ns ms hi hj)
  ⟨ho,ho2,show Value.bool (lexLt ns ms) ≠ Value.notImplemented/\Q (.bool (lexLt ns ms)) s from ⟨(fun x=>nomatch x),h⟩⟩ hu
theorem cat_tup {t b:Addr}{vs ws:List Value}{Q:Value->SP0} (ht:IsTup s.heap t vs.toArray) (hb:IsTup s.heap b ws.toArray) (hv:vs ≠ [])
  (h1:ws=[]->Q (.ref t) s) (h2:ws ≠ []->Q (.ref s.heap.objs.size) { s with heap:=s.heap.push { cls:= .type "tuple",data:= .seq (vs++ws).toArray } })
  (hsz:vs.length+ws.length<=sizeLine):wpAny (model prog w) A (binaryOp .Add (.ref t) (.ref b)) Q E s:=by
 obtain ⟨⟨cls,dd,data,sl⟩,ho,hc,n,hd⟩:=id ht
 obtain ⟨⟨cls2,dd2,data2,sl2⟩,ho2,hc2,n2,hd2⟩:=id hb
 simp only at hc hd hc2 hd2
 subst hc hd hc2 hd2
 have e:vs.toArray++ws.toArray=(vs++ws).toArray:=by simp
 by_cases hw:ws=[]
 ·exact concat_meets ⟨_,ho,rfl⟩ ⟨_,ho2,rfl⟩ noFill_tuple_add seq_tuple_add PySem.F.slot_tuple_add PySem.F.entry_tuple_add (PySem.F.args_tuple_add_2 _ _)
   (tuple_addW1 t b vs.toArray ws.toArray n n2 dd dd2 sl sl2 (by simpa using hv) (by simp [hw])) ⟨ho,ho2,h1 hw⟩
 ·refine concat_meets ⟨_,ho,rfl⟩ ⟨_,ho2,rfl⟩ noFill_tuple_add seq_tuple_add PySem.F.slot_tuple_add PySem.F.entry_tuple_add (PySem.F.args_tuple_add_2 _ _)
   (tuple_addW2 t b vs.toArray ws.toArray n n2 dd dd2 sl sl2 (by simpa using hv) (by simpa using hw) (by rw [List.size_toArray,List.size_toArray]; exact hsz)) ⟨ho,ho2,?_⟩
  rw [e]
  exact h2 hw
noncomputable def sIx (n d:Nat):Option Int->Nat
 | none=>d
 | some v=>if v<0 then (v+(n:Int)).toNat else min v.toNat n
theorem sIx_none (n d:Nat):sIx n d none=d:=rfl
theorem sIx_nat (n d k:Nat):sIx n d (some (k:Int))=min k n:=by
 show (if (k:Int)<0 then ((k:Int)+(n:Int)).toNat else min (k:Int).toNat n)=min k n
 rw [if_neg (by omega),Int.toNat_natCast]
theorem aoG (n d:Nat) (hd:d<=n) (o:Option Int):sIx n d o<=n:=by
 cases o with
 | none=>exact hd
 | some v=>
  show (if v<0 then (v+(n:Int)).toNat else min v.toNat n)<=n
  by_cases hv:v<0
  ·rw [if_pos hv]; omega
  ·rw [if_neg hv]; exact Nat.min_le_right _ _
theorem ahr (v:Int) (n d:Nat):(if v<0 then max (v+(n:Int)) 0 else min v (n:Int))=((sIx n d (some v):Nat):Int):=by
 show (if v<0 then max (v+(n:Int)) 0 else min v (n:Int))=(((if v<0 then (v+(n:Int)).toNat else min v.toNat n):Nat):Int)
 by_cases hv:v<0
 ·simp only [if_pos hv]; omega
 ·simp only [if_neg hv]; omega
theorem agg (lo hi:Option Int) (n:Nat):Builtin.Slice.sliceAdjust lo hi 1 (n:Int)=(((sIx n 0 lo:Nat):Int),((sIx n n hi:Nat):Int)):=by
 have h1:¬ ((1:Int)<0):=by omega
 unfold Builtin.Slice.sliceAdjust
 simp only [h1,zzN]
 refine Prod.ext ?_ ?_
 ·cases lo with
  | none=>rfl
  | some v=>exact ahr v n 0
 ·cases hi with
  | none=>rfl
  | some v=>exact ahr v n n
theorem agh (i j:Nat):Builtin.Slice.slicePlaces (i:Int) (j:Int) 1=j - i:=by
 unfold Builtin.Slice.slicePlaces
 have h1:(1:Int) > 0:=by omega
 simp only [h1,zzM,Int.ediv_one]
 split <;> omega
theorem abF {v:Value}{o:Option Int}{Q:Option Int->SP0} (p:IsPart v o) (h:Q o s):wpAny (model prog w) A (Builtin.Slice.slicePartIndex v) Q E s:=by
 cases p with
 | none=>exact slicePart_none h
 | int i t=>exact slicePart_int h
theorem sliceApplied_gen {sl:Addr}{vl vu:Value}{lo hi:Option Int}{n:Nat}{Q:Int × Int × Nat->SP0} (hs:s.heap.IsSliceOf sl vl vu .none) (pl:IsPart vl lo) (pu:IsPart vu hi)
  (h:Q (((sIx n 0 lo:Nat):Int),1,sIx n n hi - sIx n 0 lo) s):wpAny (model prog w) A (Builtin.Slice.sliceApplied (.ref sl) (pure (n:Int))) Q E s:=by
 obtain ⟨os,hos,hcs,hds⟩:=id hs
 unfold Builtin.Slice.sliceApplied Builtin.Slice.sliceFields
 refine wpAny_bind (wpAny_bind (wpAny_field hos hds (x:=vl) rfl (wpAny_bind (wpAny_field hos hds (x:=vu) rfl (wpAny_bind (wpAny_field hos hds (x:= .none) rfl (wpAny_pure ?_)))))))
 refine wpAny_bind (slicePart_none ?_)
 show wpAny _ _ (if ((1:Int) == 0)=true then _ else _) _ _ s
 rw [if_neg (by decide)]
 refine wpAny_bind (abF pl (wpAny_bind (abF pu (wpAny_bind (wpAny_pure ?_)))))
 show wpAny _ _ (match Builtin.Slice.sliceAdjust lo hi 1 (n:Int) with | (lo,hi)=>pure (lo,(1:Int),Builtin.Slice.slicePlaces lo hi 1)) _ _ s
 rw [agg lo hi n]
 show wpAny _ _ (pure (((sIx n 0 lo:Nat):Int),(1:Int),Builtin.Slice.slicePlaces ((sIx n 0 lo:Nat):Int) ((sIx n n hi:Nat):Int) 1)) _ _ s
 rw [agh]
 exact wpAny_pure h
theorem aj0 (xs:Array Value) (i k:Nat):((List.range k).filterMap fun (m:Nat)=>xs[((i:Int)+(m:Int)*1).toNat]?).toArray=((xs.toList.drop i).take k).toArray:=by
 have e:(fun (m:Nat)=>xs[((i:Int)+(m:Int)*1).toNat]?)=fun m=>xs[i+m]?:=by
  funext m
  have:((i:Int)+(m:Int)*1).toNat=i+m:=by omega
  rw [this]
 rw [e]
 have:=pick_run xs i k
 rw [List.filterMap_map] at this
 have e2:((fun x=>xs[x]?) ∘ fun x=>i+x)=fun m=>xs[i+m]?:=rfl
 rw [e2] at this
 rw [this]
theorem getItem_tuple_cut {t sl:Addr}{items:Array Value}{vl vu:Value}{lo hi:Option Int}{Q:Value->SP0} (ht:IsTup s.heap t items) (hs:s.heap.IsSliceOf sl vl vu .none) (pl:IsPart vl lo) (pu:IsPart vu hi)
  (hw:¬ (sIx items.size 0 lo=0/\sIx items.size items.size hi=items.size))
  (h:Q (.ref s.heap.objs.size) { s with heap:=s.heap.push { cls:= .type "tuple",data:= .seq ((items.toList.drop (sIx items.size 0 lo)).take (sIx items.size items.size hi - sIx items.size 0 lo)).toArray } })
  (hsz:items.size<=sizeLine):wpAny (model prog w) A (getItem (.ref t) (.ref sl)) Q E s:=by
 have htake:sizeOk (.seq ((items.toList.drop (sIx items.size 0 lo)).take (sIx items.size items.size hi - sIx items.size 0 lo)).toArray):=by
  show ((items.toList.drop (sIx items.size 0 lo)).take (sIx items.size items.size hi - sIx items.size 0 lo)).toArray.size<=sizeLine
  rw [List.size_toArray,List.length_take,List.length_drop,Array.length_toList]
  omega
 have hj:sIx items.size items.size hi<=items.size:=aoG _ _ (Nat.le_refl _) hi
 obtain ⟨os,hos,hcs,hds⟩:=id hs
 have hTs:s.TypeIs (.ref sl) "slice":=⟨os,hos,hcs⟩
 unfold getItem
 try with_reducible refine wpAny_holding ?_
 first | refine wpAny_bind (wpAny_pure ?_) | skip
 refine wpAny_bind (wpAny_sequenceKey ht.typeIs (by decide) ?_)
 refine wpAny_bind (wpAny_callSpecial?_slot (name:=Str.ofString "__getitem__") ht.typeIs PyProof.Rows.slot_tuple_getitem
  (wpAny_call_entry PyProof.Rows.slot_tuple_getitem ht.typeIs entry_tuple_getitem ?_ (args_tuple_getitem _ _)))
 show wpAny _ _ (Builtin.Tuple.tupleItemsOf (.ref t) >>= _) _ _ s
 refine wpAny_bind (tupleItemsOf_ ht ?_)
 refine wpAny_bind (wpAny_typeOf hTs ?_)
 rw [if_pos (by decide)]
 refine wpAny_bind (sliceApplied_gen hs pl pu ?_)
 have hno:¬ ((((sIx items.size 0 lo:Nat):Int) == 0 && (1:Int) == 1 && (sIx items.size items.size hi - sIx items.size 0 lo) == items.size)=true):=by
  intro q
  rw [Bool.and_eq_true,Bool.and_eq_true] at q
  have q1:((sIx items.size 0 lo:Nat):Int)=0:=eq_of_beq q.1.1
  have q2:sIx items.size items.size hi - sIx items.size 0 lo=items.size:=eq_of_beq q.2
  exact hw ⟨by omega,by omega⟩
 show wpAny _ _ (if (((sIx items.size 0 lo:Nat):Int) == 0 && (1:Int) == 1 && (sIx items.size items.size hi - sIx items.size 0 lo) == items.size)=true then _ else _) _ _ s
 rw [if_neg hno,aj0]
 first
  | exact wpAny_bind (m:=Builtin.Tuple.tupleExact _) (wpAny_newObj_type (wpAny_pure ⟨_,rfl,wpAny_pure h⟩) htake)
  | exact wpAny_bind (m:=Builtin.Tuple.tupleExact _) (wpAny_newObj_type (wpAny_bind (wpAny_pure (wpAny_pure ⟨_,rfl,wpAny_pure h⟩))) htake)
  | exact wpAny_bind (wpAny_bind (m:=Builtin.Tuple.tupleExact _) (wpAny_newObj_type (wpAny_pure (wpAny_pure ⟨_,rfl,wpAny_pure h⟩)) htake))
  | exact wpAny_bind (wpAny_bind (m:=Builtin.Tuple.tupleExact _) (wpAny_newObj_type (wpAny_pure ⟨_,rfl,wpAny_pure h⟩) htake))
end
end HT
namespace L2
open PySem PySem.Spec PyProof.Rows
noncomputable abbrev TO:=St->Hp->(Option Int->Hp->Prop)->Prop
noncomputable def PO (X:Cx) (e:Option Expr) (t:TO):Prop:=
 ∀ (Kp:List (Addr × Obj)) (s:Shared) (σ:St) (H:Hp) (Q:Option Int->Hp->Prop),Inv X Kp σ H s->t σ H Q->
  wpAny (model X.prog X.w) X.A (evalPart e X.env) (fun u s'=>∃ o H',Inv X Kp σ H' s'/\IsPart u o/\Q o H') X.xe s
noncomputable def amr:TO:=fun _ H Q=>Q none H
noncomputable def aqe (t:TE):TO:=fun σ H Q=>t σ H fun x H1=>∃ i,x= .int i/\Q (some i) H1
section
variable {X:Cx}{e:Expr}{te:TE}{lo hi:Option Expr}{tl th:TO}{pos p2:Pos}
theorem adX:PO X none amr:=by
 intro Kp s σ H Q I h
 rw [evalPart_none]
 exact wpAny_pure ⟨none,H,I,.none,h⟩
theorem adY (h:PE X e te):PO X (some e) (aqe te):=by
 intro Kp s σ H Q I hw
 rw [evalPart_some]
 refine thn (h Kp s σ H _ I hw) fun u s1 ⟨x,H1,I1,r1,q1⟩=>?_
 obtain ⟨i,rfl,q⟩:=q1
 obtain ⟨t,rfl⟩:=r1
 exact ⟨some i,H1,I1,.int i t,q⟩
noncomputable def SlR (X:Cx) (r:V->Option Int->Option Int->Hp->VK->Prop):Prop:=
 ∀ (Kp:List (Addr × Obj)) (s:Shared) (σ:St) (H:Hp) (x:V) (v vl vu:Value) (lo hi:Option Int) (sl:Addr) (Q:VK),Inv X Kp σ H s->jK x v->s.heap.IsSliceOf sl vl vu .none->IsPart vl lo->IsPart vu hi->r x lo hi H Q->
  ∃ T id,typeLookup (.type T) "__getitem__"=pure (some (.builtin id))/\s.TypeIs v T/\wpAny (model X.prog X.w) X.A (getItem v (.ref sl)) (EP X Kp σ Q) X.xe s
theorem SlR.or {r r':V->Option Int->Option Int->Hp->VK->Prop} (h:SlR X r) (h':SlR X r'):SlR X (fun x lo hi H Q=>r x lo hi H Q ∨ r' x lo hi H Q):=by
 intro Kp s σ H x v vl vu lo hi sl Q I rx hs pl pu q
 rcases q with q | q
 ·exact h Kp s σ H x v vl vu lo hi sl Q I rx hs pl pu q
 ·exact h' Kp s σ H x v vl vu lo hi sl Q I rx hs pl pu q
noncomputable def tSl (r:V->Option Int->Option Int->Hp->VK->Prop) (te:TE) (tl th:TO):TE:=fun σ H Q=>te σ H fun x H1=>tl σ H1 fun l H2=>th σ H2 fun u H3=>r x l u H3 Q
theorem abG {r:V->Option Int->Option Int->Hp->VK->Prop} (hr:SlR X r) (he:PE X e te) (hl:PO X lo tl) (hu:PO X hi th):PE X (.Subscript e (.Slice lo hi none p2) pos) (tSl r te tl th):=by
 intro Kp s σ H Q I h
 refine Subscript_ (thn (he Kp s σ H _ I h) fun v s1 ⟨x,H1,I1,r1,q1⟩=>?_)
 refine wpAny_Slice (thn (hl Kp s1 σ H1 _ I1 q1) fun vl s2 ⟨l,H2,I2,pl,q2⟩=>thn (hu Kp s2 σ H2 _ I2 q2) fun vu s3 ⟨u,H3,I3,pu,q3⟩=>?_)
 rw [evalPart_none]
 refine wpAny_pure ?_
 have I4:Inv X Kp σ H3 { s3 with heap:=s3.heap.push { cls:= .type "slice",data:= .fields #[vl,vu,.none] } }:=I3.kept (t':=s3.toks) fun b ob q=>Heap.get?_push_of_some _ q
 obtain ⟨T,id,hT,ht,hg⟩:=hr Kp { s3 with heap:=s3.heap.push { cls:= .type "slice",data:= .fields #[vl,vu,.none] } } σ H3 x v vl vu l u s3.heap.objs.size Q I4 r1 (Heap.IsSliceOf.new ..) pl pu q3
 show wpAny (model X.prog X.w) X.A (subscriptTail e (.Slice lo hi none p2) v (.ref s3.heap.objs.size)) (EP X Kp σ Q) X.xe { s3 with heap:=s3.heap.push { cls:= .type "slice",data:= .fields #[vl,vu,.none] } }
 exact tail_any (ops:=[.ref s3.heap.objs.size,v]) ht hT hg (by with_unfolding_all rfl)
noncomputable def ZO (xs:List V) (lo hi:Option Int):List V:=(xs.drop (HT.sIx xs.length 0 lo)).take (HT.sIx xs.length xs.length hi - HT.sIx xs.length 0 lo)
theorem aaZ (xs:List V) (lo hi:Option Int):(ZO xs lo hi).length<=xs.length:=by
 unfold ZO
 rw [List.length_take,List.length_drop]
 omega
noncomputable def aqf (K:Fg):V->Option Int->Option Int->Hp->VK->Prop:=fun x lo hi H Q=>∃ a xs,x= .ref a/\SqT K H a xs/\
 ¬ (HT.sIx xs.length 0 lo=0/\HT.sIx xs.length xs.length hi=xs.length)/\∀ p,H p=none->Q (.ref p) (upd H p (.tup (ZO xs lo hi)))
theorem aj1:SlR X (aqf X.K):=by
 intro Kp s σ H x v vl vu lo hi sl Q I rx hs pl pu h
 obtain ⟨a,xs,rfl,hx,hw,q⟩:=h
 cases rx
 obtain ⟨its,r,ht,hz⟩:=I.tuple hx
 have hlen:its.toArray.size=xs.length:=by rw [List.size_toArray]; exact r.length.symm
 refine ⟨"tuple",_,PyProof.Rows.slot_tuple_getitem.lookup,ht.typeIs,?_⟩
 refine HT.getItem_tuple_cut ht hs pl pu (by rw [hlen]; exact hw) ?_ (by rw [hlen]; exact hz)
 rw [hlen]
 refine ⟨.ref s.heap.objs.size,_,I.laid (t':=s.toks) (o:= .tup (ZO xs lo hi)) (fun b ob q=>Heap.get?_push_of_some _ q) (Nat.le_refl _) ?_,rfl,q _ (I.hok.fresh (Nat.le_refl _))⟩
 exact ⟨Nat.le_trans (aaZ xs lo hi) hz,_,(r.drop (HT.sIx xs.length 0 lo)).take (HT.sIx xs.length xs.length hi - HT.sIx xs.length 0 lo),IsTup.new _ _⟩
noncomputable def aqg (K:Fg):R2:=fun x y H Q=>∃ a b xs ys,x= .ref a/\y= .ref b/\SqT K H a xs/\SqT K H b ys/\xs ≠ []/\xs.length+ys.length<=sizeLine/\
 (ys=[]->Q (.ref a) H)/\(ys ≠ []->∀ p,H p=none->Q (.ref p) (upd H p (.tup (xs++ys))))
theorem jG.nil_iff {xs:List V}{us:List Value} (r:jG xs us):us=[] ↔ xs=[]:=by
 cases r with
 | nil=>simp
 | cons _ _=>simp
theorem ams:OpR X (binaryOp .Add) (aqg X.K):=by
 intro Kp s σ H x y v u Q I rx ry h
 obtain ⟨a,b,xs,ys,rfl,rfl,ha,hb,hx,hz,q1,q2⟩:=h
 cases rx
 cases ry
 obtain ⟨its,r1,p1,_⟩:=I.tuple ha
 obtain ⟨its2,r2,p2,_⟩:=I.tuple hb
 refine HT.cat_tup p1 p2 (fun z=>hx (r1.nil_iff.mp z)) (fun z=>⟨.ref a,H,I,rfl,q1 (r2.nil_iff.mp z)⟩) (fun z=>?_) (by rw [←r1.length,←r2.length]; exact hz)
 refine ⟨.ref s.heap.objs.size,_,I.laid (t':=s.toks) (o:= .tup (xs++ys)) (fun b ob q=>Heap.get?_push_of_some _ q) (Nat.le_refl _) ?_,rfl,q2 (fun w=>z (r2.nil_iff.mpr w)) _ (I.hok.fresh (Nat.le_refl _))⟩
 exact ⟨by rw [List.length_append]; exact hz,_,r1.append r2,IsTup.new _ _⟩
end
noncomputable def ixN (n:Nat) (i:Int):Option Nat:=if 0<=i then (if i<n then some i.toNat else none) else if -(n:Int)<=i then some (i+n).toNat else none
noncomputable def atI {α:Type} (xs:List α) (i:Int):Option α:=(ixN xs.length i).bind fun j=>xs[j]?
theorem amt {n:Nat}{i:Int}{j:Nat} (h:ixN n i=some j):seqIndex? i n=some j/\j<n/\-(n:Int)<=i/\i<n:=by
 unfold ixN at h
 by_cases h0:0<=i
 ·rw [if_pos h0] at h
  by_cases h1:i<n
  ·rw [if_pos h1] at h
   have e:i.toNat=j:=Option.some.inj h
   exact ⟨by rw [seqIndex_of h0 h1,e],by omega,by omega,h1⟩
  ·rw [if_neg h1] at h; cases h
 ·rw [if_neg h0] at h
  by_cases h1:-(n:Int)<=i
  ·rw [if_pos h1] at h
   have e:(i+n).toNat=j:=Option.some.inj h
   exact ⟨by rw [seqIndex_neg (by omega) h1,e],by omega,h1,by omega⟩
  ·rw [if_neg h1] at h; cases h
theorem ahs {α:Type}{xs:List α}{i:Int}{v:α} (h:atI xs i=some v):∃ j,seqIndex? i xs.length=some j/\xs[j]?=some v/\j<xs.length/\-(xs.length:Int)<=i/\i<xs.length:=by
 unfold atI at h
 cases e:ixN xs.length i with
 | none=>rw [e] at h; cases h
 | some j=>
  rw [e] at h
  obtain ⟨h1,h2,h3,h4⟩:=amt e
  exact ⟨j,h1,h,h2,h3,h4⟩
noncomputable def aht (b:Expr):Prop:=∀ o i,subscripted b false o i=operate [o,i] (getItem o i)
noncomputable def IxR (X:Cx) (r:R2):Prop:=
 ∀ (value slice:Expr) (Kp:List (Addr × Obj)) (s:Shared) (σ:St) (H:Hp) (x y:V) (v u:Value) (Q:VK),Inv X Kp σ H s->jK x v->jK y u->r x y H Q->
  subscripted slice false v u=operate [v,u] (getItem v u)->wpAny (model X.prog X.w) X.A (subscriptTail value slice v u) (EP X Kp σ Q) X.xe s
noncomputable def MtR (X:Cx) (id:String) (r:V->List V->Hp->VK->Prop):Prop:=
 ∀ (Kp:List (Addr × Obj)) (s:Shared) (σ:St) (H:Hp) (x:V) (xs:List V) (v:Value) (us:List Value) (Q:VK),Inv X Kp σ H s->jK x v->jG xs us->r x xs H Q->
  wpAny (model X.prog X.w) X.A (call (.builtin id) (v::us)) (EP X Kp σ Q) X.xe s
section
variable {X:Cx}{a b:Expr}{ta tb:TE}{pos:Pos}
theorem IxR.or {r r':R2} (h:IxR X r) (h':IxR X r'):IxR X (fun x y H Q=>r x y H Q ∨ r' x y H Q):=by
 intro value slice Kp s σ H x y v u Q I rx ry q hs
 rcases q with q | q
 ·exact h value slice Kp s σ H x y v u Q I rx ry q hs
 ·exact h' value slice Kp s σ H x y v u Q I rx ry q hs
theorem MtR.or {id:String}{r r':V->List V->Hp->VK->Prop} (h:MtR X id r) (h':MtR X id r'):MtR X id (fun x xs H Q=>r x xs H Q ∨ r' x xs H Q):=by
 intro Kp s σ H x xs v us Q I rx rs q
 rcases q with q | q
 ·exact h Kp s σ H x xs v us Q I rx rs q
 ·exact h' Kp s σ H x xs v us Q I rx rs q
theorem aqh {r:R2} (hr:IxR X r) (ha:PE X a ta) (hb:PE X b tb) (hs:aht b):PE X (.Subscript a b pos) (tOp r ta tb):=by
 intro Kp s σ H Q I h
 exact Subscript_ (aow ha hb I h fun v u s2 x y H2 I2 rx ry q=>hr a b Kp s2 σ H2 x y v u Q I2 rx ry q (hs _ _))
noncomputable def arh (K:Fg):R2:=fun x y H Q=>∃ p xs i v,x= .ref p/\y= .int i/\SqL K H p xs/\atI xs i=some v/\Q v H
noncomputable def ari (K:Fg):R2:=fun x y H Q=>∃ p xs i v,x= .ref p/\y= .int i/\SqT K H p xs/\atI xs i=some v/\Q v H
theorem amu:IxR X (arh X.K):=by
 intro value slice Kp s σ H x y v u Q I rx ry h hs
 obtain ⟨p,xs,i,z,rfl,rfl,hq,he,q⟩:=h
 cases rx
 obtain ⟨t,rfl⟩:=ry
 obtain ⟨its,r,pl,hz⟩:=I.list hq
 obtain ⟨j,h1,h2,h3,h4,h5⟩:=ahs he
 obtain ⟨w,ew,rw'⟩:=r.get h2
 have hl:=r.length
 have hn:=agc
 have fin:EP X Kp σ Q w s:=⟨z,H,I,rw',q⟩
 by_cases h0:0<=i
 ·have hj:i.toNat=j:=by
   rw [seqIndex_of h0 h5] at h1
   exact Option.some.inj h1
  exact item_listR pl.isList h0 (by omega) (by rw [hj]; simpa using ew) fin hs
 ·have hj:(i+(its.toArray.size:Int)).toNat=j:=by
   rw [seqIndex_neg (by omega) h4] at h1
   rw [List.size_toArray,←hl]
   exact Option.some.inj h1
  exact subscriptTail_builtinR (x:=w) pl.isList.typeIs slot_list_getitem.lookup
   (wpAny_getItem_list_neg (Q:=fun r s'=>r=w/\EP X Kp σ Q r s') pl.isList (by omega) (by rw [List.size_toArray] <;> omega) (by omega) (by rw [hj]; simpa using ew) ⟨rfl,fin⟩) hs
theorem aoH:IxR X (ari X.K):=by
 intro value slice Kp s σ H x y v u Q I rx ry h hs
 obtain ⟨p,xs,i,z,rfl,rfl,hq,he,q⟩:=h
 cases rx
 obtain ⟨t,rfl⟩:=ry
 obtain ⟨its,r,pl,hz⟩:=I.tuple hq
 obtain ⟨j,h1,h2,h3,h4,h5⟩:=ahs he
 obtain ⟨w,ew,rw'⟩:=r.get h2
 have hl:=r.length
 have hn:=agc
 have fin:EP X Kp σ Q w s:=⟨z,H,I,rw',q⟩
 exact subscriptTail_builtinR (x:=w) pl.typeIs slot_tuple_getitem.lookup
  (getItem_tuple (j:=j) (Q:=fun r s'=>r=w/\EP X Kp σ Q r s') pl (by omega) (by omega) (by rw [List.size_toArray,←hl]; exact h1) (by simpa using ew) ⟨rfl,fin⟩) hs
theorem Inv.lst {Kp:List (Addr × Obj)}{σ:St}{H:Hp}{s:Shared}{p:Addr}{xs:List V} (I:Inv X Kp σ H s) (h:H p=some (.lst xs)):
  ∃ (its:List Value) (n:Nat),jG xs its/\s.heap.get? p=some { cls:= .type "list",data:= .seq its.toArray n }/\xs.length<=sizeLine:=by
 obtain ⟨z,its,n,r,e⟩:=I.hok p _ h
 exact ⟨its,n,r,e,z⟩
theorem adZ (lo hi:Option Int) (n:Nat):(sliceBounds lo hi none n).1=((HT.sIx n 0 lo:Nat):Int)/\(sliceBounds lo hi none n).2.1=((HT.sIx n n hi:Nat):Int)/\(sliceBounds lo hi none n).2.2=1:=by
 refine ⟨?_,?_,rfl⟩
 ·cases lo with
  | none=>simp [sliceBounds,HT.sIx]
  | some i=>
   simp only [sliceBounds,HT.sIx,Option.getD_none,show (1:Int) > 0 by decide,zzM]
   by_cases h:i<0
   ·simp only [h,zzM] <;> omega
   ·simp only [h,zzN] <;> omega
 ·cases hi with
  | none=>simp [sliceBounds,HT.sIx]
  | some i=>
   simp only [sliceBounds,HT.sIx,Option.getD_none,show (1:Int) > 0 by decide,zzM]
   by_cases h:i<0
   ·simp only [h,zzM] <;> omega
   ·simp only [h,zzN] <;> omega
theorem acJ (its:List Value) (lo hi:Option Int):slicePick its.toArray lo hi none=((its.drop (HT.sIx its.length 0 lo)).take (HT.sIx its.length its.length hi - HT.sIx its.length 0 lo)).toArray:=by
 obtain ⟨h1,h2,h3⟩:=adZ lo hi its.toArray.size
 unfold slicePick
 rw [h1,h2,h3]
 simp only [sliceRange_one,pick_run,List.size_toArray] <;> rfl
noncomputable def arj (K:Fg):V->Option Int->Option Int->Hp->VK->Prop:=fun x lo hi H Q=>∃ a xs,x= .ref a/\SqL K H a xs/\∀ p,H p=none->Q (.ref p) (upd H p (.lst (ZO xs lo hi)))
theorem amv:SlR X (arj X.K):=by
 intro Kp s σ H x v vl vu lo hi sl Q I rx hs pl pu h
 obtain ⟨a,xs,rfl,hx,q⟩:=h
 cases rx
 obtain ⟨its,r,ht,hz⟩:=I.list hx
 have hlen:=r.length
 refine ⟨"list",_,slot_list_getitem.lookup,ht.isList.typeIs,?_⟩
 refine wpAny_getItem_list_slice ht.isList hs pl pu .none (by simp) ?_ (by rw [List.size_toArray] <;> omega)
 rw [acJ,←hlen]
 refine ⟨.ref s.heap.objs.size,_,I.laid (t':=s.toks) (o:= .lst (ZO xs lo hi)) (fun b ob q=>Heap.get?_push_of_some _ q) (Nat.le_refl _) ?_,rfl,q _ (I.hok.fresh (Nat.le_refl _))⟩
 exact ⟨Nat.le_trans (aaZ xs lo hi) hz,_,0,(r.drop (HT.sIx xs.length 0 lo)).take (HT.sIx xs.length xs.length hi - HT.sIx xs.length 0 lo),Heap.get?_push_size _ rfl⟩
theorem ad0:zX X (.builtin "len") (fun xs H Q=>∃ p ys,xs=[.ref p]/\(SqL X.K H p ys ∨ SqT X.K H p ys)/\Q (.int ys.length) H):=by
 intro Kp s σ H xs us Q I r h
 obtain ⟨p,ys,rfl,hq,q⟩:=h
 obtain ⟨u,rfl,rx⟩:=ac2 r
 cases rx
 have hn:=agc
 rcases hq with hq | hq
 ·obtain ⟨its,r',pl,hz⟩:=I.list hq
  have hlen:=r'.length
  exact Calls.call_len_list pl.isList (by simp only [List.size_toArray] <;> omega) ⟨.int ys.length,H,I.tok _,⟨s.toks+1,by rw [List.size_toArray,hlen]⟩,q⟩
 ·obtain ⟨its,r',pl,hz⟩:=I.tuple hq
  have hlen:=r'.length
  exact len_tuple pl (by simp only [List.size_toArray] <;> omega) ⟨.int ys.length,H,I.tok _,⟨s.toks+1,by rw [List.size_toArray,hlen]⟩,q⟩
theorem zX.or {f:Value}{r r':List V->Hp->VK->Prop} (h:zX X f r) (h':zX X f r'):zX X f (fun xs H Q=>r xs H Q ∨ r' xs H Q):=by
 intro Kp s σ H xs us Q I rs q
 rcases q with q | q
 ·exact h Kp s σ H xs us Q I rs q
 ·exact h' Kp s σ H xs us Q I rs q
noncomputable def tyV (K:Fg) (T:String) (x:V) (H:Hp):Prop:=match x with
 | .str _=>T="str"
 | .int _=>T="int"
 | .ref p=>(T="list"/\∃ xs,SqL K H p xs) ∨ (T="tuple"/\∃ o,K.lookup p=some o/\o.cls= .type "tuple"/\o.dict=none) ∨
   (T="dict"/\((∃ kvs,H p=some (.dK kvs)) ∨ ∃ kvs,H p=some (.dT kvs))) ∨ (T="set"/\∃ S n,H p=some (.set S n))
 | _=>False
theorem aoI {Kp:List (Addr × Obj)}{σ:St}{H:Hp}{s:Shared}{T:String}{x:V}{v:Value} (I:Inv X Kp σ H s) (r:jK x v) (ty:tyV X.K T x H):
  s.TypeIs v T/\∀ a,v= .ref a->∃ ob,s.heap.get? a=some ob/\ob.dict=none:=by
 cases x with
 | str z=>
  obtain ⟨t,rfl⟩:=r
  cases (show T="str" from ty)
  exact ⟨typeIs_str s z t,fun _ e=>nomatch e⟩
 | int i=>
  obtain ⟨t,rfl⟩:=r
  cases (show T="int" from ty)
  exact ⟨typeIs_int s i t,fun _ e=>nomatch e⟩
 | ref p=>
  cases r
  rcases ty with ⟨rfl,xs,hq⟩ | ⟨rfl,o,hk,hc,hd⟩ | ⟨rfl,hk⟩ | ⟨rfl,S,n,hk⟩
  ·obtain ⟨its,_,pl,_⟩:=I.list hq
   refine ⟨pl.isList.typeIs,fun a e=>?_⟩
   cases e
   obtain ⟨o,n,e,c,hd,_⟩:=pl
   exact ⟨o,e,hd⟩
  ·refine ⟨⟨o,I.kIn p o hk,hc⟩,fun a e=>?_⟩
   cases e
   exact ⟨o,I.kIn _ o hk,hd⟩
  ·have z:∃ o,s.heap.get? p=some o/\o.ExactDict:=by
    rcases hk with ⟨kvs,hk⟩ | ⟨kvs,hk⟩
    ·obtain ⟨_,_,_,_,o,_,_,e,ex,_⟩:=I.hok p _ hk
     exact ⟨o,e,ex⟩
    ·obtain ⟨_,_,_,_,o,_,_,e,ex,_⟩:=I.hok p _ hk
     exact ⟨o,e,ex⟩
   obtain ⟨o,e,ex⟩:=z
   refine ⟨⟨o,e,ex.1⟩,fun a e2=>?_⟩
   cases e2
   exact ⟨o,e,ex.2.1⟩
  ·obtain ⟨o,_,_,_,e,ex,_⟩:=I.hok p _ hk
   refine ⟨⟨o,e,ex.1⟩,fun a e2=>?_⟩
   cases e2
   exact ⟨o,e,ex.2.1⟩
 | _=>exact False.elim ty
noncomputable def tBM (K:Fg) (T:String) (r:V->List V->Hp->VK->Prop) (to:TE) (t:TA):TE:=fun σ H Q=>to σ H fun x H1=>tyV K T x H1/\t σ H1 fun xs H2=>r x xs H2 Q
variable {o e:Expr}{es:List Expr}{to:TE}{t:TA}{name:Str}{apos cpos:Pos}{T id:String}{r:V->List V->Hp->VK->Prop}
theorem aj2 (pa:PlainAttrs T) (slot:Slot T name id) (hty:typeOf (.builtin id)=pure (.type "method_descriptor")) (hm:MtR X id r) (ho:PE X o to) (ha:PA X (e::es) t)
  (hbase:attributeBase o name X.env (eval o X.env)=eval o X.env:=by rfl)
  (hfew:((backTo cpos (starEach (e::es) X.env)).all (fun x=>!x.1) && (backToKw cpos (keywordEach [] X.env)).all (fun x=>x.1.isSome)
   && decide ((e::es).length+([]:List Keyword).length+(if ([]:List Keyword).isEmpty then 0 else 1)<30))=true:=by rfl)
  (hline:(apos.endLine == cpos.line)=true:=by rfl) (hs:starEach (e::es) X.env=(false,eval e X.env)::starEach es X.env:=by rfl) (hplain:(backTo cpos (starEach es X.env)).any (·.1)=false:=by rfl):
  PE X (.Call (.Attribute o name apos) (e::es) [] cpos) (tBM X.K T r to t):=by
 intro Kp s σ H Q I h
 refine wpAny_Call_method_late hbase hfew hline rfl (thn (ho Kp s σ H _ I h) fun v s1 ⟨x,H1,I1,r1,ty,q1⟩=>?_)
 obtain ⟨h1,h2⟩:=aoI I1 r1 ty
 refine ⟨T,id,pa,slot,hty,h1,h2,?_⟩
 have hA:=ha cpos Kp s1 σ H1 _ I1 q1
 rw [hs] at hA ⊢
 refine Calls.callWith_builtin (by show (false || (backTo cpos (starEach es X.env)).any (·.1))=false; rw [hplain] <;> rfl) (Calls.evalArgs_plain ?_)
 exact thn hA fun us s2 ⟨vs,H2,I2,r2,q2⟩=>hm Kp s2 σ H2 x vs v us Q I2 r1 r2 q2
end
noncomputable def MtM (X:Cx) (id:String) (r:V->List V->Hp->VK->Prop):Prop:=
 ∀ (Kp:List (Addr × Obj)) (s:Shared) (σ:St) (H:Hp) (x:V) (xs:List V) (v:Value) (us:List Value) (Q:VK),Inv X Kp σ H s->jK x v->jG xs us->r x xs H Q->
  wpAny (model X.prog X.w) X.A (call (.builtin id) (v::us)) (EP X Kp σ Q) X.xe s
theorem jG.one:∀ {x:V}{us:List Value},jG [x] us->∃ u,us=[u]/\jK x u
 | _,_,.cons r .nil=>⟨_,rfl,r⟩
theorem jG.reverse {xs:List V}{us:List Value} (h:jG xs us):jG xs.reverse us.reverse:=by
 induction h with
 | nil=>exact .nil
 | cons r t ih=>rw [List.reverse_cons,List.reverse_cons]; exact jG.append ih (.cons r .nil)
theorem jG.rep {xs:List V}{us:List Value} (h:jG xs us):∀ k:Nat,jG (List.replicate k xs).flatten (List.replicate k us).flatten
 | 0=> .nil
 | k+1=>by
  rw [List.replicate_succ,List.replicate_succ,List.flatten_cons,List.flatten_cons]
  exact jG.append h (jG.rep h k)
theorem aat (its:List Value):∀ (k:Nat) (acc:List Value),
  List.foldl (fun x1 x2=>x1++x2) acc.toArray (List.replicate k its.toArray)=(acc++(List.replicate k its).flatten).toArray
 | 0,acc=>by simp
 | k+1,acc=>by
  have e:acc.toArray++its.toArray=(acc++its).toArray:=by simp
  have e2:(acc++its)++(List.replicate k its).flatten=acc++(List.replicate (k+1) its).flatten:=by
   rw [List.replicate_succ,List.flatten_cons,List.append_assoc]
  rw [←e2,←aat its k (acc++its),←e,List.replicate_succ,List.foldl_cons]
section
variable {X:Cx}{Kp:List (Addr × Obj)}{σ:St}{H:Hp}{s:Shared}{l b:Addr}{xs ys zs:List V}
theorem Inv.lset {its its':List Value}{n:Nat}{f:Array Value->Array Value}{t':Nat} (I:Inv X Kp σ H s) (hH:H l=some (.lst xs))
  (e:s.heap.get? l=some { cls:= .type "list",data:= .seq its.toArray n }) (hf:f its.toArray=its'.toArray) (hv:jG ys its') (hz:ys.length<=sizeLine):
  Inv X Kp σ (upd H l (.lst ys)) { s with heap:=s.heap.update l (Obj.mapSeq f),toks:=t' }:=by
 have q:=PySem.IsL.update e f
 rw [hf] at q
 refine I.write (x:=l) (e:=l) (by rw [hH]; exact trivial) (.inl rfl) (fun b' u hb hu=>(Heap.get?_update_other s.heap (Obj.mapSeq f) (Ne.symm hb)).trans hu) ⟨_,q⟩ ?_
 exact ⟨hz,its',_,hv,q⟩
theorem Inv.lnew {its:List Value}{t':Nat} (I:Inv X Kp σ H s) (hv:jG ys its) (hz:ys.length<=sizeLine):
  Inv X Kp σ (upd H s.heap.objs.size (.lst ys)) { s with heap:=s.heap.push { cls:= .type "list",data:= .seq its.toArray },toks:=t' }:=
 I.laid (fun _ _ q=>Heap.get?_push_of_some _ q) (Nat.le_refl _) ⟨hz,its,0,hv,Heap.get?_push_size _ rfl⟩
theorem Inv.fresh (I:Inv X Kp σ H s):H s.heap.objs.size=none:=I.hok.fresh (Nat.le_refl _)
theorem Inv.lstM (I:Inv X Kp σ H s) (hH:H l=some (.lst xs)):xs.length<=sizeLine/\∃ (its:List Value) (n:Nat),jG xs its/\xs.length=its.length/\s.heap.get? l=some { cls:= .type "list",data:= .seq its.toArray n }:=by
 obtain ⟨z,its,n,r,e⟩:=I.hok l _ hH
 exact ⟨z,its,n,r,r.length,e⟩
theorem aeX {n:Nat} (h:n<=sizeLine):Builtin.List.listTooLong n=false:=by
 unfold Builtin.List.listTooLong
 exact decide_eq_false (by omega)
end
section
variable {X:Cx}
noncomputable def amw:V->List V->Hp->VK->Prop:=fun x vs H Q=>∃ l xs y,x= .ref l/\vs=[y]/\H l=some (.lst xs)/\xs.length<sizeLine/\Q .non (upd H l (.lst (xs++[y])))
theorem ac7:MtM X "list.append" amw:=by
 intro Kp s σ H x vs v us Q I rx rv h
 obtain ⟨l,xs,y,rfl,rfl,hH,hz,q⟩:=h
 cases rx
 obtain ⟨u,rfl,ru⟩:=rv.one
 obtain ⟨z,its,n,r,hl,e⟩:=I.lstM hH
 refine call_meets F.slot_list_append ⟨_,e,rfl⟩ F.entry_list_append (F.args_list_append_2 _ _) (PySem.list_append l its.toArray n u (by rw [List.size_toArray]; omega)) ⟨e,?_⟩
 refine ⟨.non,_,I.lset (its':=its++[u]) hH e (by simp) (r.append (.cons ru .nil)) ?_,rfl,q⟩
 rw [List.length_append,List.length_singleton]
 omega
noncomputable def amx:V->List V->Hp->VK->Prop:=fun x vs H Q=>∃ l b xs zs,x= .ref l/\vs=[.ref b]/\H l=some (.lst xs)/\H b=some (.lst zs)/\xs.length+zs.length<=sizeLine/\Q .non (upd H l (.lst (xs++zs)))
theorem aiw:MtM X "list.extend" amx:=by
 intro Kp s σ H x vs v us Q I rx rv h
 obtain ⟨l,b,xs,zs,rfl,rfl,hH,hB,hz,q⟩:=h
 cases rx
 obtain ⟨u,rfl,ru⟩:=rv.one
 cases ru
 obtain ⟨z,its,n,r,hl,e⟩:=I.lstM hH
 obtain ⟨z2,its2,n2,r2,hl2,e2⟩:=I.lstM hB
 have hsz:its.toArray.size+its2.toArray.size<=sizeLine:=by rw [List.size_toArray,List.size_toArray]; omega
 have hlong:¬ (!its.toArray.isEmpty && Builtin.List.listTooLong (its.toArray.size+its2.toArray.size))=true:=by
  rw [aeX hsz,Bool.and_false]
  exact Bool.false_ne_true
 refine call_meets F.slot_list_extend ⟨_,e,rfl⟩ F.entry_list_extend (F.args_list_extend_2 _ _)
  (AutoSeq1.list_extend_list_list_0 l its.toArray n b its2.toArray n2 hlong (by rw [List.size_toArray]; omega) (by omega)) ⟨e,e2,?_⟩
 refine ⟨.non,_,I.lset (its':=its++its2) hH e (by simp) (r.append r2) ?_,rfl,q⟩
 rw [List.length_append]
 omega
noncomputable def ark:R2:=fun x y H Q=>∃ l b xs zs,x= .ref l/\y= .ref b/\H l=some (.lst xs)/\H b=some (.lst zs)/\xs.length+zs.length<=sizeLine/\∀ p,H p=none->Q (.ref p) (upd H p (.lst (xs++zs)))
theorem aoJ:OpR X (binaryOp .Add) ark:=by
 intro Kp s σ H x y v u Q I rx ry h
 obtain ⟨l,b,xs,zs,rfl,rfl,hH,hB,hz,q⟩:=h
 cases rx
 cases ry
 obtain ⟨z,its,n,r,hl,e⟩:=I.lstM hH
 obtain ⟨z2,its2,n2,r2,hl2,e2⟩:=I.lstM hB
 refine PySem.P.add_list e e2 ?_ (by rw [List.size_toArray,List.size_toArray]; omega)
 have ea:its.toArray++its2.toArray=(its++its2).toArray:=by simp
 rw [ea]
 exact ⟨.ref _,_,I.lnew (t':=s.toks) (r.append r2) (by rw [List.length_append]; omega),rfl,q _ I.fresh⟩
noncomputable def arl:R2:=fun x y H Q=>∃ l k xs,x= .ref l/\y= .int k/\H l=some (.lst xs)/\-(2 ^ 63)<=k/\k<2 ^ 63/\xs.length*k.toNat<=sizeLine/\
 ∀ p,H p=none->Q (.ref p) (upd H p (.lst (List.replicate k.toNat xs).flatten))
theorem ahu {α:Type} (xs:List α) (k:Nat):(List.replicate k xs).flatten.length=k*xs.length:=by
 induction k with
 | zero=>simp
 | succ k ih=>rw [List.replicate_succ,List.flatten_cons,List.length_append,ih,Nat.succ_mul,Nat.add_comm]
theorem aj3:OpR X (binaryOp .Mult) arl:=by
 intro Kp s σ H x y v u Q I rx ry h
 obtain ⟨l,k,xs,rfl,rfl,hH,h1,h2,hz,q⟩:=h
 cases rx
 obtain ⟨t,rfl⟩:=ry
 obtain ⟨z,its,n,r,hl,e⟩:=I.lstM hH
 have hlen:its.toArray.size*k.toNat<=sizeLine:=by rw [List.size_toArray,←hl]; exact hz
 have hcap:¬ its.toArray.size*k.toNat > (2 ^ 63 - 1) / 8:=by
  have:(sizeLine:Nat)<=(2 ^ 63 - 1) / 8:=by decide
  omega
 have hfit:¬ (!Builtin.List.listFitsIndex k)=true:=by
  rw [fitsIndex_both h1 h2]
  exact Bool.false_ne_true
 have hlong:¬ Builtin.List.listTooLong (its.toArray.size*k.toNat)=true:=by
  rw [aeX hlen]
  exact Bool.false_ne_true
 have hnew:List.foldl (fun x1 x2=>x1++x2) #[] (List.replicate (if its.toArray.isEmpty=true then 0 else k.toNat) its.toArray)=(List.replicate k.toNat its).flatten.toArray:=by
  have f0:∀ m:Nat,List.foldl (fun x1 x2=>x1++x2) #[] (List.replicate m its.toArray)=(List.replicate m its).flatten.toArray:=fun m=>by
   have:=aat its m []
   rw [List.nil_append] at this
   exact this
  rw [f0]
  cases its with
  | nil=>simp
  | cons a r'=>rw [if_neg (by simp)]
 refine wpAny_binaryOp_repeat_ref (T:="list") (U:="int") (by decide) ⟨_,e,rfl⟩ (fun s'=>typeIs_int s' k t) noFill_list_mul F.fills_int_mul F.slot_int_rmul repeat_list F.slot_int_index.lookup
  (call_meets F.slot_int_rmul (typeIs_int s k t) F.entry_int_rmul (F.args_int_rmul_2 _ _) (int___rmul___int_list k t l its.toArray n)
   ⟨e,rfl,⟨_,e,rfl⟩,call_meets F.slot_list_mul ⟨_,e,rfl⟩ F.entry_list_mul (F.args_list_mul_2 _ _) (AutoListH.list___mul___list_int_3 l its.toArray n k t hfit hcap hlong) ⟨e,?_⟩⟩)
 rw [hnew]
 exact ⟨.ref _,_,I.lnew (t':=s.toks) (r.rep k.toNat) (by rw [ahu,Nat.mul_comm]; exact hz),rfl,q _ I.fresh⟩
end
section
variable {prog:Program}{w:World}{A:Around}{E:Value->SP0}{s:Shared}
set_option maxRecDepth 100000 in
end
section
variable {X:Cx}
end
end L2
namespace Att
open PySem PySem.W PySem.Calls PyProof.Rows
theorem abe {P:Params}{h:Heap}:∀ (ns:List Int) (vs:List Value),WellAll P h vs (ns.map WData.int)->IntsAre vs ns:=by
 intro ns
 induction ns with
 | nil=>
  intro vs w
  rw [List.map_nil] at w
  cases w
  exact .nil
 | cons n ns ih=>
  intro vs w
  rw [List.map_cons] at w
  cases w with
  | cons a b=>
   cases a
   exact .cons _ _ (ih _ b)
theorem aix {l:OpenLaw}{n:Nat} (hn:l.most=some n) {P:Params}{h:Heap}{args:List WData}{vals:List Value}
  (hpre:l.row.toRowW.claim.pre args=true) (hwl:WellAll P h vals args):
  ∃ a vs ns,vals=[Value.ref a]/\args=[WData.list (ns.map WData.int)]/\h.get? a=some { cls:= .type "list",data:= .seq vs.toArray }/\IntsAre vs ns/\ns.length<=n:=by
 have hsh:WShape.hasAll [] args [.list .int]=true:=(pre_splitW hpre).1
 have hc:l.pre.holds [] { args:=args }=true:=(pre_splitW hpre).2
 obtain ⟨d,r,rfl,h1,h2⟩:=hasAllW_cons hsh
 obtain rfl:=hasAllW_nil h2
 obtain ⟨xs,rfl,h3⟩:=hasW_list h1
 obtain ⟨ns,rfl⟩:=items_int h3
 have hlen:ns.length<=n:=by
  unfold OpenLaw.pre at hc
  have h4:(WTm.not (.lt (.lit (.int (n:Int))) (.len (.arg 0)))).holds [] { args:=[.list (ns.map .int)] }=true:=by
   have h4:=(holds_andW hc).1
   rw [hn] at h4
   exact h4
  have h5:=condW_of h4 (w_not (w_lt w_lit (w_len_list (w_arg rfl))))
  rw [List.length_map] at h5
  refine Nat.le_of_not_lt fun q=>?_
  have q':(n:Int)<((ns.length:Nat):Int):=by omega
  first
   | (rw [decide_eq_true q'] at h5; exact absurd h5 (by decide))
   | (simp at h5; omega)
 cases hwl with
 | cons w1 w2=>
  cases w2
  cases w1 with
  | list ho hall=>exact ⟨_,_,ns,rfl,rfl,ho,abe ns _ hall,hlen⟩
theorem aiy (l:OpenLaw) (args:List WData):l.row.toRowW.claim.post args (.bool true) args=true:=
 postW_of (r:=l.row.toRowW) (X:=(true == true))
  (show WShape.has [] (.bool true) .bool=true by first | rfl | decide | simp [WShape.has,WShape.arms,WShape.armsAll])
  (show (WTm.eq .res (.lit (.bool true))).value [] { args:=args,res:=some (.bool true),after:=args }=some (.bool (true == true)) from w_eq_bool (w_res rfl) w_lit) rfl
theorem attach_call {l:OpenLaw}{n:Nat}{q:Program}{loose:List Str}{XP:(SV)->Heap->Prop}{YP:World->Heap->Prop}{d:DefRec}
  (hn:l.most=some n) (hdf:d.params.defaults=[])
  (call:∀ (w:World) (s₀ s₁:Shared) (mg mb:SV) (fa:Addr) (o:Obj) (pm cd doc:Value) (a:Addr) (vs:List Value) (ns:List Int),
   Ground q loose [] XP w s₀ mg mb s₁.heap->YP w s₁.heap->
   s₁.heap.get? fa=some o->o.data= .func (docDef d.name d.params d.body d.scope pm cd doc)->s₁.heap.CodeRec cd d.name->mg d.name=some (.ref fa)->
   s₁.heap.get? a=some { cls:= .type "list",data:= .seq vs.toArray }->IntsAre vs ns->ns.length<=n->s₁.gens=#[]->
   codeAny (model l.prog w) callerA (.call (.ref fa) ⟨[.ref a],[]⟩) (fun r s'=>r= .ok (.ret (.bool true))/\OldK s₁.heap s'.heap/\s'.os=s₁.os/\AllBare s'.gens) s₁):
  WalkO q loose XP YP l.row.toRowW d [] (fun f vs=>PySem.call f vs):=by
 intro w s₀ s₁ mg mb G Y fa o pm cd doc dV kV ho hd hcd hD hmg hg args vals as hpre hlay hrd hwl hlo
 obtain rfl:dV= .none:=Dflts.none hD hdf
 obtain rfl:kV= .none:=Dflts.noKw hD
 obtain ⟨a,vs,ns,rfl,rfl,hobj,hints,hlen⟩:=aix hn hpre hwl
 refine enter_call (codeAny_mono (call w s₀ s₁ mg mb fa o pm cd doc a vs ns G Y ho (fd_plain hd) hcd hmg hobj hints hlen hg) fun r s' hq=>?_)
 obtain ⟨rfl,h2,h3,h4⟩:=hq
 exact ⟨.inl ⟨.bool true,.bool true,[],rfl,fun _=>rfl,.bool true,aiy l _,fun _=>⟨List.Pairwise.nil,fun _ hm=>(nomatch hm)⟩⟩,h2,h3,h4⟩
section
variable {prog:Program}{w:World}{A:Around}{E:Value->SP0}{s:Shared}{K:Frag}
noncomputable def arm (h:Heap) (L d:Addr):List (Addr × Obj):=(List.range h.objs.size).filterMap fun a=>if a=L ∨ a=d then none else (h.get? a).map fun o=>(a,o)
end
end Att
namespace L2
open PySem PySem.Spec PyProof.Rows
theorem Zc:∀ {vs:List Value}{ns:List Int},IntsAre vs ns->jG (ns.map V.int) vs
 | _,_,.nil=> .nil
 | _,_,.cons n t h=> .cons ⟨t,rfl⟩ (Zc h)
noncomputable def aoK (H:Hp):Prop:=∀ b,H b=none ∨ ∃ o xs,H b=some (.frz o (.lst xs))
theorem aj4 {P:Program}{w:World}{K:Fg}{mg mb:SV}{CX:CXT}{k:Nat}{fa a:Addr}{fd:FuncData}{x:Str}{sp:Sp}{s₁:Shared}{vs:List Value}{ns:List Int}
  (KX:K.In s₁.heap) (hns:s₁.heap.Ns mainGlobals mg) (hb:s₁.heap.Ns builtinsNs mb) (hbb:∀ x:Str,x ≠ "__name__"->mb x=bootBuiltins x) (hlim:s₁.heap.NoLimit) (hg:s₁.gens=#[])
  (ha:s₁.heap.get? a=some { cls:= .type "list",data:= .seq vs.toArray }) (hi:IntsAre vs ns) (hl:ns.length<=sizeLine) (hr:Room k callerA)
  (F:∀ base:Heap,K.In base->base.Ns mainGlobals mg->FnOk P w K mg base CX k fa fd [x] sp) (hbind:∀ (s:Shared) (u:Value),BindsTo s fd ⟨[u],[]⟩ [(x,u)])
  (hsp:∀ H:Hp,aoK H->SqL K H a (ns.map V.int)->sp [.ref a] H (fun v _=>v= .bl true) fun _ _ _=>False)
  (hCX:∀ H e s',CX [] H s₁ (fun _ _ _=>False) e s'->False):
  codeAny (model P w) callerA (.call (.ref fa) ⟨[.ref a],[]⟩) (fun r s'=>r= .ok (.ret (.bool true))/\OldK s₁.heap s'.heap/\s'.os=s₁.os/\AllBare s'.gens) s₁:=by
 have rv:=Zc hi
 have lenV:=hi.length
 have core:∀ H:Hp,aoK H->SqL K H a (ns.map V.int)->HOk P w H s₁.heap->(∀ b,H b ≠ none->b=a)->(H a ≠ none->K.lookup a=none)->
   codeAny (model P w) callerA (.call (.ref fa) ⟨[.ref a],[]⟩) (fun r s'=>r= .ok (.ret (.bool true))/\OldK s₁.heap s'.heap/\s'.os=s₁.os/\AllBare s'.gens) s₁:=by
  intro H hO hS hok hA hK
  have base_of:∀ {b:Addr} {o:Obj},s₁.heap.get? b=some o->H b=none->(adS s₁.heap H).get? b=some o:=fun e n=>ajJ e n
  have noA:∀ {b:Addr} {o:Obj} {es:Array DictEntry} {ep:Nat},s₁.heap.get? b=some o->o.data= .dict es ep->H b=none:=fun {b o es ep} e d=>by
   cases q:H b with
   | none=>rfl
   | some u=>
    have e':b=a:=hA b (by rw [q]; simp)
    subst e'
    rw [ha] at e; cases e
    have d':Data.seq vs.toArray _=Data.dict es ep:=d
    cases d'
  have nsK:∀ {b:Addr} {m:SV},s₁.heap.Ns b m->(adS s₁.heap H).Ns b m:=fun {b m} ⟨o,es,ep,e,d,r⟩=>⟨o,es,ep,base_of e (noA e d),d,r⟩
  have hKb:K.In (adS s₁.heap H):=fun b o e=>base_of (KX b o e) (by
   cases q:H b with
   | none=>rfl
   | some u=>
    have e':b=a:=hA b (by rw [q]; simp)
    subst e'
    rw [hK (by rw [q]; simp)] at e; cases e)
  have hM:Mod K mg (adS s₁.heap H):=⟨hKb,nsK hns,⟨mb,nsK hb,hbb⟩,let ⟨mc,h1,h2⟩:=hlim; ⟨mc,nsK h1,h2⟩⟩
  have e0:Env0 P w K mg (adS s₁.heap H) callerA [] s₁ H:=⟨rfl,hM,fun b o e=>ami e,Nat.le_of_eq (aip _ _),trivial,fun b hb=>absurd (show b ∈ ([]:List Addr) from hb) (by simp),hok,.of_eq hg⟩
  refine codeAny_mono ((F _ hKb (nsK hns)).run callerA [] s₁ H ⟨[.ref a],[]⟩ [.ref a] [.ref a] _ _ hr e0 (hbind s₁ (.ref a)) (.cons rfl .nil) (hsp H hO hS)) fun r s' h=>?_
  cases r with
  | error e=>exact (hCX H e s' h).elim
  | ok fl=>
   cases fl with
   | next=>exact False.elim h
   | brk=>exact False.elim h
   | cont=>exact False.elim h
   | ret u=>
    obtain ⟨v,H',os,bare,un,hok',r',q⟩:=h
    have q':v= .bl true:=q
    subst q'
    obtain rfl:u=Value.bool true:=r'
    refine ⟨rfl,OldK.of_keep fun b o e=>?_,os,bare⟩
    cases q:H b with
    | none=>exact un.keep b o e q (by intro z; exact absurd (show b ∈ ([]:List Addr) from z) (by simp)) (by simp)
    | some u=>
     rcases hO b with z | ⟨ob,xs,z⟩
     ·rw [q] at z; cases z
     ·have z2:=un.frzs b ob _ z
      obtain ⟨e1,_⟩:=hok b _ z
      obtain ⟨e2,_⟩:=hok' b _ z2
      rw [e] at e1; cases e1
      exact e2
 cases hk:K.lookup a with
 | some o=>
  have e:=KX a o hk
  rw [ha] at e
  cases e
  refine core (fun _=>none) (fun _=> .inl rfl) (.inr ⟨_,vs.toArray,_,hk,rfl,rfl,rfl,by rw [List.size_toArray,lenV]; exact hl,by simpa using rv⟩) (fun b u z=>by have z':(none:Option HO)=some u:=z; cases z') (fun b z=>absurd rfl z) fun z=>absurd rfl z
 | none=>
  refine core (fun b=>if b=a then some (.frz { cls:= .type "list",data:= .seq vs.toArray } (.lst (ns.map V.int))) else none) (fun b=>?_) (.inl (.inr ⟨{ cls:= .type "list",data:= .seq vs.toArray },if_pos rfl⟩)) (fun b u z=>?_) (fun b z=>?_) fun _=>hk
  ·by_cases hb:b=a
   ·exact .inr ⟨_,_,if_pos hb⟩
   ·exact .inl (if_neg hb)
  ·by_cases hb:b=a
   ·have z':=(if_pos hb).symm.trans z
    cases z'
    subst hb
    exact ⟨ha,by rw [List.length_map]; exact hl,vs,_,rv,ha⟩
   ·have z':=(if_neg hb).symm.trans z
    cases z'
  ·by_cases hb:b=a
   ·exact hb
   ·exact absurd (if_neg hb) z
theorem amy {l:PySem.W.OpenLaw}{n k:Nat}{q:Program}{loose:List Str}{XP:(SV)->Heap->Prop}{YP:World->Heap->Prop}{d:DefRec}{K:Params->Fg}{CX:World->CXT}{sp:World->Sp}{x:Str}
  (hn:l.most=some n) (hn2:n<=sizeLine) (hdf:d.params.defaults=[]) (hr:Room k callerA)
  (hY:∀ (w:World) (h:Heap),YP w h->(K w.params).In h)
  (F:∀ (w:World) (mg:SV) (fa:Addr) (h:Heap),(K w.params).In h->h.Ns mainGlobals mg->mg d.name=some (.ref fa)->
   ∃ fd:FuncData,(∀ (s:Shared) (u:Value),BindsTo s fd ⟨[u],[]⟩ [(x,u)])/\
    ∀ base:Heap,(K w.params).In base->base.Ns mainGlobals mg->FnOk l.prog w (K w.params) mg base (CX w) k fa fd [x] (sp w))
  (hsp:∀ (w:World) (H:Hp) (a:Addr) (ns:List Int),ns.length<=n->aoK H->SqL (K w.params) H a (ns.map V.int)->sp w [.ref a] H (fun v _=>v= .bl true) fun _ _ _=>False)
  (hCX:∀ (w:World) (H:Hp) (s:Shared) (e:Value) (s':Shared),CX w [] H s (fun _ _ _=>False) e s'->False):
  PySem.W.WalkO q loose XP YP l.row.toRowW d [] (fun f vs=>PySem.call f vs):=by
 refine Att.attach_call hn hdf fun w s₀ s₁ mg mb fa o pm cd doc a vs ns G Y ho hd hcd hmg hobj hints hlen hg=>?_
 have KX:=hY w _ Y
 obtain ⟨fd,hb,hF⟩:=F w mg fa _ KX G.T.g hmg
 exact aj4 KX G.T.g G.T.b G.T.builtins G.T.nolimit hg hobj hints (Nat.le_trans hlen hn2) hr hF hb (fun H hO hS=>hsp w H a ns hlen hO hS) fun H e s'=>hCX w H s₁ e s'
noncomputable def Qh (s:Stmt):Arguments:=match s with
 | .FunctionDef _ a _ _ _ _ _ _ _ _=>a
 | _=>{ posonlyargs:=[],args:=[],vararg:=none,kwonlyargs:=[],kw_defaults:=[],kwarg:=none,defaults:=[] }
noncomputable def jN (s:Stmt):List Stmt:=match s with
 | .FunctionDef _ _ b _ _ _ _ _ _ _=>b
 | _=>[]
noncomputable def jn (s:Stmt):Scope:=match s with
 | .FunctionDef _ _ _ _ _ _ sc _ _ _=>sc
 | _=>{ kind:= .function,names:=[],isGenerator:=false,isCoroutine:=false }
noncomputable abbrev CX0:CXT:=fun _ _ _ _ _ _=>False
noncomputable abbrev E0:XK:=fun _ _ _=>False
theorem aqi {X:Cx}:agf CX0 X E0:=fun _ _ _ _ _ _ _ h=>h.elim
structure Fun (K:Fg) (x qual:Str) (st:Stmt) (f:Addr) (fd:FuncData):Prop where
 ex:∃ (oc:Value) (od:Option Addr) (kV doc pm:Value) (an:Option Addr) (Kc ct:Value) (osl:Array (Option Value)),
  fd=PySem.W.fnOf x qual (Qh st) (jN st) (jn st) .none kV doc pm an Kc ct/\K.lookup f=some ⟨oc,od,.func fd,osl⟩/\PySem.W.codeIn K Kc qual=true
 kp:PySem.W.keepIn K (.ref f)=true
section
variable {P:Program}{w:World}{K:Fg}{mg:SV}{base:Heap}
theorem Fun.ok {x qual:Str}{st:Stmt}{f:Addr}{fd:FuncData}{N ps:List Str}{k:Nat}{sp:Sp} (F:Fun K x qual st f fd) (S:FnScope N ps (jn st)) (len:∀ vs H Q E,sp vs H Q E->vs.length=ps.length)
  (hbody:∀ (Kc:Value) (A:Around) (Ko:List Env) (s:Shared) (H:Hp) (vs:List V) (Q:VK) (E:XK),Room k (A.deeper (envOfC qual (jn st) s.heap.objs.size f Kc))->sp vs H Q E->
   ∃ t,PSs (abB CX0 P w K mg base N qual (jn st) f Kc A Ko s H E).nox (jN st) t/\t { nx:=fun _ H'=>Q .non H',rt:=Q } (QH N vs) H):FnOk P w K mg base CX0 (k+1) f fd ps sp:=by
 obtain ⟨oc,od,kV,doc,pm,an,Kc,ct,osl,rfl,lk,hcd⟩:=F.ex
 refine aqd lk hcd S len fun A Ko s H vs Q E hr hsp=>?_
 obtain ⟨t,h,q⟩:=hbody Kc A Ko s H vs Q E hr hsp
 exact ⟨t,h.nox,q⟩
theorem Fun.binds {x qual:Str}{st:Stmt}{f:Addr}{fd:FuncData}{ps:List Str} (F:Fun K x qual st f fd)
  (h:∀ (kV doc pm:Value) (an:Option Addr) (Kc ct:Value) (us:List Value),us.length=ps.length->bindArgs (PySem.W.fnOf x qual (Qh st) (jN st) (jn st) .none kV doc pm an Kc ct) ⟨us,[]⟩=pure (ps.zip us)):ZN K fd ps []:=by
 obtain ⟨oc,od,kV,doc,pm,an,Kc,ct,osl,rfl,lk,hcd⟩:=F.ex
 exact .all (h kV doc pm an Kc ct)
theorem aj5 {x qual:Str}{st:Stmt}{f:Addr}{oc:Value}{od an:Option Addr}{osl:Array (Option Value)}{kV doc pm Kc ct:Value} (l:K.lookup f=some ⟨oc,od,.func (PySem.W.fnOf x qual (Qh st) (jN st) (jn st) .none kV doc pm an Kc ct),osl⟩)
  (c:PySem.W.codeIn K Kc qual=true) (k:PySem.W.keepIn K (.ref f)=true):Fun K x qual st f (PySem.W.fnOf x qual (Qh st) (jN st) (jn st) .none kV doc pm an Kc ct):=⟨⟨oc,od,kV,doc,pm,an,Kc,ct,osl,rfl,l,c⟩,k⟩
end
section
variable {X:Cx}
theorem pv (i:Nat) {x:Str}{pos:Pos} (hN:X.N[i]?=some x:=by rfl) (hv:Vis X.env.scope x:=by first | exact Or.inl rfl | exact Or.inr (Or.inl rfl) | exact Or.inr (Or.inr rfl)) (hd:(x == ("__debug__":Str))=false:=by decide)
  (hcd:(x == ("__classdict__":Str))=false:=by decide):PE X (.Name x pos) (apT i):=abA hN hv hd hcd
end
theorem aqj {A B:Prop} (h:B):if false=true then A else B:=by
 rw [if_neg Bool.false_ne_true]
 exact h
theorem aqk {A B:Prop} (h:A):if true=true then A else B:=by
 rw [if_pos rfl]
 exact h
noncomputable def jt (H H':Hp):Prop:=∀ b o,H b=some o->H' b=some o
theorem jt.refl (H:Hp):jt H H:=fun _ _ h=>h
theorem jt.trans {H H1 H2:Hp} (a:jt H H1) (b:jt H1 H2):jt H H2:=fun c o h=>b c o (a c o h)
theorem jt.free {H H':Hp} (e:jt H H') {l:Addr} (h:H' l=Option.none):H l=Option.none:=by
 cases q:H l with
 | none=>rfl
 | some o=>
  rw [e l o q] at h
  cases h
theorem jt.seq {K:Fg}{H H':Hp}{a:Addr}{xs:List V} (e:jt H H') (h:SqL K H a xs):SqL K H' a xs:=by
 rcases h with (h | ⟨o,h⟩) | h
 ·exact .inl (.inl (e _ _ h))
 ·exact .inl (.inr ⟨o,e _ _ h⟩)
 ·exact .inr h
section
variable {κ:Type} [DecidableEq κ]
noncomputable def JV (kvs:List (κ × V)) (k:κ):Option V:=(kvs.find? fun kv=>decide (kv.1=k)).map (·.2)
noncomputable def putK (kvs:List (κ × V)) (k:κ) (v:V):List (κ × V):=
 if (kvs.any fun kv=>decide (kv.1=k))=true then kvs.map (fun kv=>if kv.1=k then (kv.1,v) else kv) else kvs++[(k,v)]
noncomputable def anW (kvs:List (κ × V)) (k:κ):List (κ × V):=kvs.filter fun kv=>decide (kv.1 ≠ k)
theorem abH {p:κ × V}{r:List (κ × V)}{k:κ} (e:p.1=k):JV (p::r) k=some p.2:=by simp [JV,List.find?_cons,e]
theorem abI {p:κ × V}{r:List (κ × V)}{k:κ} (e:¬ p.1=k):JV (p::r) k=JV r k:=by simp [JV,List.find?_cons,e]
theorem aeY (k:κ):∀ kvs:List (κ × V),(kvs.any fun kv=>decide (kv.1=k))=(JV kvs k).isSome
 | []=>rfl
 | p::r=>by
  rw [List.any_cons]
  by_cases e:p.1=k
  ·simp only [abH e,decide_eq_true e,Bool.true_or,Option.isSome_some]
  ·rw [abI e,decide_eq_false e,Bool.false_or]; exact aeY k r
theorem QI (kvs:List (κ × V)) (k:κ) (v:V):(putK kvs k v).length<=kvs.length+1:=by
 unfold putK
 split
 ·rw [List.length_map]; omega
 ·rw [List.length_append,List.length_cons,List.length_nil]; omega
theorem abd.isSome_eq {o:Option V}{u:Option Value} (r:abd o u):o.isSome=u.isSome:=by
 cases o with
 | none=>cases u with
  | none=>rfl
  | some _=>exact (show False from r).elim
 | some _=>cases u with
  | none=>exact (show False from r).elim
  | some _=>rfl
theorem abd.getD {o:Option V}{u:Option Value}{d:V}{d':Value} (r:abd o u) (rd:jK d d'):jK (o.getD d) (u.getD d'):=by
 cases o with
 | none=>cases u with
  | none=>exact rd
  | some _=>exact (show False from r).elim
 | some _=>cases u with
  | none=>exact (show False from r).elim
  | some _=>exact r
theorem KV.val {kvs:List (κ × V)}{vs:List (κ × Value)} (r:KV kvs vs) (k:κ):abd (JV kvs k) (valueAt vs k):=by
 unfold KV at r
 induction r with
 | nil=>exact True.intro
 | @cons p q ps qs h t ih=>
  obtain ⟨h1,h2⟩:=h
  by_cases e:p.1=k
  ·have e':q.1=k:=h1.symm.trans e
   have b:valueAt (q::qs) k=some q.2:=by simp [valueAt,List.find?_cons,e']
   rw [abH e,b]; exact h2
  ·have e':¬ q.1=k:=fun z=>e (h1.trans z)
   have b:valueAt (q::qs) k=valueAt qs k:=by simp [valueAt,List.find?_cons,e']
   rw [abI e,b]; exact ih
theorem KV.any {kvs:List (κ × V)}{vs:List (κ × Value)} (r:KV kvs vs) (k:κ):(kvs.any fun kv=>decide (kv.1=k))=vs.any fun kv=>decide (kv.1=k):=by
 unfold KV at r
 induction r with
 | nil=>rfl
 | cons h t ih=>rw [List.any_cons,List.any_cons,ih,h.1]
theorem KV.repl {kvs:List (κ × V)}{vs:List (κ × Value)} (r:KV kvs vs) (k:κ) {y:V}{u:Value} (ry:jK y u):
  KV (kvs.map fun kv=>if kv.1=k then (kv.1,y) else kv) (vs.map fun kv=>if kv.1=k then (kv.1,u) else kv):=by
 unfold KV at r ⊢
 induction r with
 | nil=>exact .nil
 | @cons p q ps qs h t ih=>
  rw [List.map_cons,List.map_cons]
  refine .cons ?_ ih
  obtain ⟨h1,h2⟩:=h
  by_cases e:p.1=k
  ·rw [if_pos e,if_pos (h1.symm.trans e)]; exact ⟨h1,ry⟩
  ·rw [if_neg e,if_neg (fun z=>e (h1.trans z))]; exact ⟨h1,h2⟩
theorem KV.put {kvs:List (κ × V)}{vs:List (κ × Value)} (r:KV kvs vs) (k:κ) {y:V}{u:Value} (ry:jK y u):KV (putK kvs k y) (stored vs k u):=by
 unfold putK stored
 rw [r.any k]
 by_cases e:(vs.any fun kv=>decide (kv.1=k))=true
 ·rw [if_pos e,if_pos e]; exact r.repl k ry
 ·rw [if_neg e,if_neg e]; exact Paired.snoc r ⟨rfl,ry⟩
theorem KV.drop {kvs:List (κ × V)}{vs:List (κ × Value)} (r:KV kvs vs) (k:κ):KV (anW kvs k) (without vs k):=by
 unfold KV at r ⊢
 unfold anW without
 induction r with
 | nil=>exact .nil
 | @cons p q ps qs h t ih=>
  obtain ⟨h1,h2⟩:=h
  rw [List.filter_cons,List.filter_cons]
  by_cases e:p.1=k
  ·have a:¬ decide (p.1 ≠ k)=true:=by simp [e]
   have b:¬ decide (q.1 ≠ k)=true:=by simp [h1.symm.trans e]
   rw [if_neg a,if_neg b]; exact ih
  ·have e':¬ q.1=k:=fun z=>e (h1.trans z)
   have a:decide (p.1 ≠ k)=true:=by simp [e]
   have b:decide (q.1 ≠ k)=true:=by simp [e']
   rw [if_pos a,if_pos b]; exact .cons ⟨h1,h2⟩ ih
theorem KV.keys {kvs:List (κ × V)}{vs:List (κ × Value)} (r:KV kvs vs):kvs.map (·.1)=vs.map (·.1):=by
 unfold KV at r
 induction r with
 | nil=>rfl
 | cons h t ih=>rw [List.map_cons,List.map_cons,ih,h.1]
theorem KV.length {kvs:List (κ × V)}{vs:List (κ × Value)} (r:KV kvs vs):kvs.length=vs.length:=Paired.length r
end
theorem abJ {P:Program}{w:World}{k:Key}{u:Value} (r:jK (kV k) u):(j5 P w).is k u=true:=by
 cases k with
 | inl i=>obtain ⟨t,e⟩:=(show ∃ t,u=Value.int i t from r); subst e; exact aeP P w i t
 | inr x=>obtain ⟨t,e⟩:=(show ∃ t,u=Value.str x t from r); subst e; exact aeQ P w x t
theorem ac8 {P:Program}{w:World}:∀ {ks:List Key}{us:List Value},jG (ks.map kV) us->ItemsAre (j5 P w) ks us
 | [],_,r=>by rw [List.map_nil] at r; cases r; exact .nil
 | k::ks,_,r=>by
  rw [List.map_cons] at r
  cases r with
  | cons h t=>exact .cons (abJ h) (ac8 t)
noncomputable abbrev KT (H:Hp):List (List Key × V)->List (List Key × Addr × Value)->Prop:=Paired fun p q=>p.1=q.1/\H q.2.1=some (.tup (p.1.map kV))/\jK p.2 q.2.2
theorem KT.val {H:Hp}{kvs:List (List Key × V)}{xs:List (List Key × Addr × Value)} (r:KT H kvs xs) (k:List Key):abd (JV kvs k) ((atKey xs k).map (·.2)):=by
 induction r with
 | nil=>exact True.intro
 | @cons p q ps qs h t ih=>
  obtain ⟨h1,_,h2⟩:=h
  by_cases e:p.1=k
  ·have e':q.1=k:=h1.symm.trans e
   have b:atKey (q::qs) k=some q.2:=by simp [atKey,List.find?_cons,e']
   rw [abH e,b]; exact h2
  ·have e':¬ q.1=k:=fun z=>e (h1.trans z)
   have b:atKey (q::qs) k=atKey qs k:=by simp [atKey,List.find?_cons,e']
   rw [abI e,b]; exact ih
theorem KT.repl {H:Hp}{kvs:List (List Key × V)}{xs:List (List Key × Addr × Value)} (r:KT H kvs xs) (k:List Key) {y:V}{u:Value} (ry:jK y u):
  KT H (kvs.map fun kv=>if kv.1=k then (kv.1,y) else kv) (xs.map (putAt k u)):=by
 induction r with
 | nil=>exact .nil
 | @cons p q ps qs h t ih=>
  rw [List.map_cons,List.map_cons]
  refine .cons ?_ ih
  obtain ⟨h1,h2,h3⟩:=h
  unfold putAt
  by_cases e:p.1=k
  ·rw [if_pos e,if_pos (h1.symm.trans e)]; exact ⟨h1,h2,ry⟩
  ·rw [if_neg e,if_neg (fun z=>e (h1.trans z))]; exact ⟨h1,h2,h3⟩
theorem KT.put {H:Hp}{kvs:List (List Key × V)}{xs:List (List Key × Addr × Value)} (r:KT H kvs xs) (k:List Key) {b:Addr}{y:V}{u:Value} (hb:H b=some (.tup (k.map kV))) (ry:jK y u):
  KT H (putK kvs k y) (storedH xs k b u):=by
 have e:(kvs.any fun kv=>decide (kv.1=k))=(atKey xs k).isSome:=by
  rw [aeY,(r.val k).isSome_eq,Option.isSome_map]
 unfold putK storedH
 rw [e]
 by_cases q:(atKey xs k).isSome=true
 ·rw [if_pos q,if_pos q]; exact r.repl k ry
 ·rw [if_neg q,if_neg q]; exact Paired.snoc r ⟨rfl,hb,ry⟩
theorem KT.keeps {H H':Hp}{kvs:List (List Key × V)}{xs:List (List Key × Addr × Value)} (r:KT H kvs xs) (ht:∀ b ys,H b=some (.tup ys)->H' b=some (.tup ys)):KT H' kvs xs:=
 Paired.mapP r fun _ _ z=>⟨z.1,ht _ _ z.2.1,z.2.2⟩
section
variable {P:Program}{w:World}{H:Hp}{h:Heap}{a:Addr}
theorem anX {u:HO} (ok:HOk P w H h) (e:Rd H a u):qC P w H h a u:=e.ok ok
theorem aa0 {kvs:List (Key × V)} (ok:HOk P w H h) (e:Rd H a (.dK kvs)):kvs.length<=sizeLine/\(a == sysModules)=false/\∃ vs,KV kvs vs/\h.DictOf (j5 P w) a vs:=
 show qC P w H h a (.dK kvs) from anX ok e
theorem anY {kvs:List (Key × V)} (ok:HOk P w H h) (e:H a=some (.dK kvs)):kvs.length<=sizeLine/\(a == sysModules)=false/\∃ vs,KV kvs vs/\h.DictOf (j5 P w) a vs:=aa0 ok (.inl e)
theorem aau {ks:List Key} (ok:HOk P w H h) (e:H a=some (.tup (ks.map kV))):(tupleKind (j5 P w)).is h ks a:=by
 obtain ⟨_,its,r,o,h1,h2,n,h3⟩:=(show qC P w H h a (.tup (ks.map kV)) from ok a _ e)
 exact ⟨o,its.toArray,n,h1,h2,h3,by simpa using ac8 r⟩
theorem abK {kvs:List (List Key × V)} (ok:HOk P w H h) (e:Rd H a (.dT kvs)):kvs.length<=sizeLine/\(a == sysModules)=false/\
  ∃ xs,KT H kvs xs/\h.DictOfH (tupleKind (j5 P w)) a xs:=by
 obtain ⟨z,y,xs,r,o,es,ep,h1,h2,h3,h4,h5⟩:=(show qC P w H h a (.dT kvs) from anX ok e)
 refine ⟨z,y,xs,r,o,es,ep,h1,h2,h3,h4,fun x hx=>?_,h5⟩
 have all:∀ {l:List (List Key × V)} {m:List (List Key × Addr × Value)},KT H l m->∀ x ∈ m,(tupleKind (j5 P w)).is h x.1 x.2.1:=by
  intro l m q
  induction q with
  | nil=>intro x hx; exact nomatch hx
  | @cons p q ps qs hq t ih=>
   intro x hx
   rcases List.mem_cons.mp hx with e | hx
   ·subst e
    exact aau ok (by rw [←hq.1]; exact hq.2.1)
   ·exact ih x hx
 exact all r x hx
theorem aql {kvs:List (List Key × V)} (ok:HOk P w H h) (e:H a=some (.dT kvs)):kvs.length<=sizeLine/\(a == sysModules)=false/\
  ∃ xs,KT H kvs xs/\h.DictOfH (tupleKind (j5 P w)) a xs:=abK ok (.inl e)
end
noncomputable def ZP (H:Hp) (a:Addr) (y:V) (r:Option V):Prop:=
 (∃ kvs k,Rd H a (.dK kvs)/\y=kV k/\r=JV kvs k) ∨ ∃ kvs k b,Rd H a (.dT kvs)/\y= .ref b/\H b=some (.tup (k.map kV))/\r=JV kvs k
noncomputable def aiz (H:Hp) (a:Addr) (y v:V) (H':Hp):Prop:=
 (∃ kvs k,H a=some (.dK kvs)/\y=kV k/\kvs.length<sizeLine/\H'=upd H a (.dK (putK kvs k v))) ∨
 ∃ kvs k b,H a=some (.dT kvs)/\y= .ref b/\H b=some (.tup (k.map kV))/\kvs.length<sizeLine/\H'=upd H a (.dT (putK kvs k v))
theorem ZP.k {H:Hp}{a:Addr}{kvs:List (Key × V)}{k:Key} (e:H a=some (.dK kvs)):ZP H a (kV k) (JV kvs k):= .inl ⟨kvs,k,.inl e,rfl,rfl⟩
theorem ZP.t {H:Hp}{a b:Addr}{kvs:List (List Key × V)}{k:List Key} (e:H a=some (.dT kvs)) (eb:H b=some (.tup (k.map kV))):ZP H a (.ref b) (JV kvs k):= .inr ⟨kvs,k,b,.inl e,rfl,eb,rfl⟩
theorem aiz.k {H:Hp}{a:Addr}{kvs:List (Key × V)}{k:Key}{v:V} (e:H a=some (.dK kvs)) (hl:kvs.length<sizeLine):aiz H a (kV k) v (upd H a (.dK (putK kvs k v))):= .inl ⟨kvs,k,e,rfl,hl,rfl⟩
theorem aiz.t {H:Hp}{a b:Addr}{kvs:List (List Key × V)}{k:List Key}{v:V} (e:H a=some (.dT kvs)) (eb:H b=some (.tup (k.map kV))) (hl:kvs.length<sizeLine):
  aiz H a (.ref b) v (upd H a (.dT (putK kvs k v))):= .inr ⟨kvs,k,b,e,rfl,eb,hl,rfl⟩
section
variable {X:Cx}{Kp:List (Addr × Obj)}{σ:St}{H:Hp}{s:Shared}{a:Addr}{y v:V}{u r:Value}{o:Option V}{A:Around}{E:Value->SP0}
theorem Inv.big (I:Inv X Kp σ H s):sysModules<s.heap.objs.size:=by
 have h:mainGlobals<s.heap.objs.size:=(I.mod.glob.keeps I.bk).lt
 exact Nat.lt_trans (by decide) h
theorem aiA {Q:Value->SP0} (hu:A.units+1<cLine) (I:Inv X Kp σ H s) (g:ZP H a y (some v)) (ry:jK y u) (h:∀ w' s',Inv X Kp σ H s'->jK v w'->Q w' s'):
  wpAny (model X.prog X.w) A (getItem (.ref a) u) Q E s:=by
 rcases g with ⟨kvs,k,e,ey,l⟩ | ⟨kvs,k,b,e,ey,eb,l⟩
 ·subst ey
  obtain ⟨z,hd,vs,rel,dd⟩:=aa0 I.hok e
  obtain ⟨w',hw,rw'⟩:=abd.some_of (v:=v) (o:=valueAt vs k) (by rw [l]; exact rel.val k)
  exact wpAny_getItem_of (abJ ry) dd.mapOf hw (h w' _ (I.tok _) rw')
 ·subst ey
  cases (show u=Value.ref b from ry)
  obtain ⟨z,hd,xs,rel,dd⟩:=abK I.hok e
  obtain ⟨w',hw,rw'⟩:=abd.some_of (v:=v) (o:=(atKey xs k).map (·.2)) (by rw [l]; exact rel.val k)
  obtain ⟨p,hp,hp2⟩:=Option.map_eq_some_iff.mp hw
  refine wpAny_getItem_heap (tupleKind_room_in1 hu) (aau I.hok eb) dd hp ?_
  rw [hp2]
  exact h w' _ (I.tok _) rw'
theorem amz {Q:Value->SP0} (hu:A.units+1<cLine) (I:Inv X Kp σ H s) (g:ZP H a y o) (ry:jK y u) (h:∀ s',Inv X Kp σ H s'->Q (.bool (!o.isSome)) s'):
  wpAny (model X.prog X.w) A (compareOp .NotIn u (.ref a)) Q E s:=by
 rcases g with ⟨kvs,k,e,ey,l⟩ | ⟨kvs,k,b,e,ey,eb,l⟩
 ·subst ey
  obtain ⟨z,hd,vs,rel,dd⟩:=aa0 I.hok e
  refine wpAny_notIn_of (abJ ry) hd dd.mapOf ?_
  rw [←(rel.val k).isSome_eq,←l]
  exact h _ (I.tok _)
 ·subst ey
  cases (show u=Value.ref b from ry)
  obtain ⟨z,hd,xs,rel,dd⟩:=abK I.hok e
  refine wpAny_notIn_heap (tupleKind_room_in1 hu) (aau I.hok eb) hd dd ?_
  have q:=(rel.val k).isSome_eq
  rw [Option.isSome_map] at q
  rw [←q,←l]
  exact h _ (I.tok _)
theorem ad1 {h':Heap}{t':Nat}{ob:HO} (I:Inv X Kp σ H s) (mu:Mut (H a)) (hs:Heap.SameBut a s.heap h') (he:∃ q,h'.get? a=some q) (new:qC X.prog X.w (upd H a ob) h' a ob):
  Inv X Kp σ (upd H a ob) { s with heap:=h',toks:=t' }:=
 I.write (x:=a) (e:=a) mu (.inl rfl) (fun b q hb z=>(hs.2 b hb).trans z) he new
theorem aj6 {P:Program}{w:World}{H':Hp}{h':Heap}{kvs:List (Key × V)}{vs:List (Key × Value)} (z:kvs.length<=sizeLine) (hd:(a == sysModules)=false) (rel:KV kvs vs) (dd:h'.DictOf (j5 P w) a vs):
  qC P w H' h' a (.dK kvs):=⟨z,hd,vs,rel,dd⟩
theorem aiB {H':Hp}{Q:Unit->SP0} (hu:A.units+1<cLine) (I:Inv X Kp σ H s) (g:aiz H a y v H') (ry:jK y u) (rv:jK v r) (h:∀ s',Inv X Kp σ H' s'->Q () s'):
  wpAny (model X.prog X.w) A (setItem (.ref a) u r) Q E s:=by
 rcases g with ⟨kvs,k,e,ey,l,eH⟩ | ⟨kvs,k,b,e,ey,eb,l,eH⟩
 ·subst ey eH
  obtain ⟨z,hd,vs,rel,dd⟩:=anY I.hok e
  have hz:vs.length<=sizeLine:=by rw [←rel.length]; exact z
  have hl:(putK kvs k v).length<=sizeLine:=by have:=QI kvs k v; omega
  refine wpAny_setItem_pairs (hsz:=hz) (abJ ry) dd fun h' dd' hs=>h _ ?_
  have he:∃ q,h'.get? a=some q:=let ⟨q,_,_,hq,_⟩:=dd'; ⟨q,hq⟩
  exact ad1 I (by rw [e]; exact True.intro) hs he (aj6 hl hd (rel.put k rv) dd')
 ·subst ey eH
  cases (show u=Value.ref b from ry)
  obtain ⟨z,hd,xs,rel,dd⟩:=aql I.hok e
  have hz:xs.length<=sizeLine:=by rw [←Paired.length rel]; exact z
  have hl:(putK kvs k v).length<=sizeLine:=by have:=QI kvs k v; omega
  refine wpAny_setItem_heap (hsz:=hz) (tupleKind_room_in1 hu) (aau I.hok eb) dd fun h' dd' hs=>h _ ?_
  obtain ⟨q,es,ep,hq,h2,h3,h4,_,h5⟩:=dd'
  refine ad1 I (by rw [e]; exact True.intro) hs ⟨q,hq⟩ ⟨hl,hd,_,(rel.put k eb rv).keeps fun c ys ec=>?_,q,es,ep,hq,h2,h3,h4,h5⟩
  rw [jo (apS ec e (fun z=>nomatch z))]
  exact ec
end
section
variable {X:Cx}{Kp:List (Addr × Obj)}{σ:St}{H:Hp}{s:Shared}{a:Addr}{kvs:List (Key × V)}{k:Key}{u:Value}{A:Around}{E:Value->SP0}
end
noncomputable def aoL (i:Expr):Prop:=∀ ov iv,subscripted i false ov iv=operate [ov,iv] (getItem ov iv)
theorem amA {prog:Program}{w:World}{A:Around}{E:Value->SP0}{s:Shared}{env:Env}{value slice:Expr}{pos:Pos}{T id:String}{Q:Value->SP0}
  (hl:typeLookup (.type T) "__getitem__"=pure (some (.builtin id))) (hs:aoL slice)
  (h:wpAny (model prog w) A (eval value env) (fun o s₁=>wpAny (model prog w) A (eval slice env) (fun i s₂=>s₂.TypeIs o T/\wpAny (model prog w) A (getItem o i) Q E s₂) E s₁) E s):
  wpAny (model prog w) A (eval (.Subscript value slice pos) env) Q E s:=by
 refine Subscript_ (wpAny_mono h (fun o s₁ h₁=>wpAny_mono h₁ (fun i s₂ h₂=>?_) fun _ _ x=>x) fun _ _ x=>x)
 obtain ⟨hT,h₂⟩:=h₂
 unfold subscriptTail
 refine wpAny_bind ?_
 rw [getitemInPython_of_ne hT.not_modules]
 refine wpAny_bind (wpAny_specialOf hT hl ?_)
 have fin:wpAny (model prog w) A (subscripted slice false o i) (fun r s₃=>wpAny (model prog w) A (letTemporaryGo value o r >>= fun _=>pure r) Q E s₃) E s₂:=by
  rw [hs o i]
  exact wpAny_operating (wpAny_mono h₂ (fun r s₃ h₃=>wpAny_bind (wpAny_letTemporaryGo (wpAny_pure h₃))) fun _ _ x=>x)
 first
  | exact wpAny_pure (wpAny_bind fin)
  | exact wpAny_bind (wpAny_pure (wpAny_bind fin))
  | exact wpAny_bind fin
theorem aeZ {X:Cx}{Kp:List (Addr × Obj)}{σ:St}{H:Hp}{s:Shared}{a:Addr}{y:V}{o:Option V} (I:Inv X Kp σ H s) (g:ZP H a y o):s.TypeIs (.ref a) "dict":=by
 rcases g with ⟨kvs,k,e,_,_⟩ | ⟨kvs,k,b,e,_,_,_⟩
 ·obtain ⟨_,_,vs,_,dd⟩:=aa0 I.hok e
  exact dd.typeIs
 ·obtain ⟨_,_,xs,_,dd⟩:=abK I.hok e
  exact dd.typeIs
noncomputable def aqm (td ty:TE):TE:=fun σ H Q=>td σ H fun x H1=>ty σ H1 fun y H2=>∃ a v,x= .ref a/\ZP H2 a y (some v)/\Q v H2
noncomputable def amB (ty td:TE):TE:=fun σ H Q=>ty σ H fun y H1=>td σ H1 fun x H2=>∃ a o,x= .ref a/\ZP H2 a y o/\Q (.bl (!o.isSome)) H2
section
variable {X:Cx}{o i e value:Expr}{pos pos' tpos:Pos}{td ty tv:TE}
theorem amC (hu:X.A.units+1<cLine) (ho:PE X o td) (hi:PE X i ty) (hs:aoL i):PE X (.Subscript o i pos) (aqm td ty):=by
 intro Kp s σ H Q I h
 refine amA PySem.F.slot_dict_getitem.lookup hs (thn (ho Kp s σ H _ I h) fun u s1 ⟨x,H1,I1,rx,q1⟩=>thn (hi Kp s1 σ H1 _ I1 q1) fun iv s2 ⟨y,H2,I2,ry,a,v,ex,g,q2⟩=>?_)
 subst ex
 obtain rfl:u=Value.ref a:=rx
 exact ⟨aeZ I2 g,aiA hu I2 g ry fun w' s3 I3 rw'=>⟨v,H2,I3,rw',q2⟩⟩
theorem aiC (hu:X.A.units+1<cLine) (hi:PE X i ty) (ho:PE X o td):PC X .NotIn i o (amB ty td):=by
 intro Kp s σ H Q I h
 refine thn (hi Kp s σ H _ I h) fun iv s1 ⟨y,H1,I1,ry,q1⟩=>thn (ho Kp s1 σ H1 _ I1 q1) fun u s2 ⟨x,H2,I2,rx,a,ov,ex,g,q2⟩=>?_
 subst ex
 obtain rfl:u=Value.ref a:=rx
 exact amz hu I2 g ry fun s3 I3=>⟨.bl (!ov.isSome),H2,I3,rfl,q2⟩
end
theorem ae0 {P:Program}{w:World}{H:Hp} (h:Heap) (hb:sysModules<h.objs.size):qC P w H (h.push { cls:= .type "dict",data:= .dict #[] }) h.objs.size (.dK []):=
 ⟨Nat.zero_le _,beq_eq_false_iff_ne.mpr (Ne.symm (Nat.ne_of_lt hb)),[],.nil,Heap.DictOf.new h⟩
noncomputable def aoM:TE:=fun _ H Q=>∀ p,H p=none->Q (.ref p) (upd H p (.dK []))
section
variable {X:Cx}{pos:Pos}
theorem aj7:PE X (.Dict [] [] pos) aoM:=fun Kp s σ H Q I h=>
 wpAny_Dict_empty ⟨.ref s.heap.objs.size,_,I.laid (a:=s.heap.objs.size) (o:= .dK []) (t':=s.toks) (fun _ _ q=>Heap.get?_push_of_some _ q) (Nat.le_refl _) (ae0 s.heap I.big),rfl,h _ (I.hok.fresh (Nat.le_refl _))⟩
end
noncomputable def agi:List (TE × TE)->St->Hp->(List (V × V)->Hp->Prop)->Prop
 | [],_,H,Q=>Q [] H
 | (tk,tv)::r,σ,H,Q=>tk σ H fun x H1=>tv σ H1 fun y H2=>agi r σ H2 fun ps H3=>Q ((x,y)::ps) H3
noncomputable abbrev VV:List (V × V)->List (Value × Value)->Prop:=Paired fun p q=>jK p.1 q.1/\jK p.2 q.2
noncomputable def PPs (X:Cx) (pos:Pos) (keys:List (Option Expr)) (values:List Expr) (trs:List (TE × TE)):Prop:=
 ∀ (Kp:List (Addr × Obj)) (s:Shared) (σ:St) (H:Hp) (Q:List (V × V)->Hp->Prop),Inv X Kp σ H s->agi trs σ H Q->
  wpAny (model X.prog X.w) X.A (evalPairs (pairTrees keys values X.env pos)) (fun vs s'=>∃ ps H',Inv X Kp σ H' s'/\VV ps vs/\Q ps H') X.xe s
theorem amD {X:Cx}{pos:Pos}:PPs X pos [] [] []:=fun Kp s σ H Q I h=>pairTrees_nil_walk ⟨[],H,I,.nil,h⟩
theorem aj8 {X:Cx}{pos:Pos}{k v:Expr}{ks:List (Option Expr)}{vs:List Expr}{tk tv:TE}{trs:List (TE × TE)} (hk:PE X k tk) (hv:PE X v tv) (hr:PPs X pos ks vs trs):
  PPs X pos (some k::ks) (v::vs) ((tk,tv)::trs):=fun Kp s σ H Q I h=>
 pairTrees_cons_walk (thn (hk Kp s σ H _ I h) fun u s1 ⟨x,H1,I1,rx,q1⟩=>thn (hv Kp s1 σ H1 _ I1 q1) fun w2 s2 ⟨y,H2,I2,ry,q2⟩=>
  thn (hr Kp s2 σ H2 _ I2 q2) fun ws s3 ⟨ps,H3,I3,rel,q3⟩=>⟨(x,y)::ps,H3,I3,.cons ⟨rx,ry⟩ rel,q3⟩)
noncomputable def abL (kvs more:List (Key × V)):List (Key × V):=more.foldl (fun acc kv=>putK acc kv.1 kv.2) kvs
theorem KV.merge:∀ {more:List (Key × V)}{rs:List (Key × Value)}{kvs:List (Key × V)}{vs:List (Key × Value)},KV more rs->KV kvs vs->KV (abL kvs more) (merged vs rs):=by
 intro more rs kvs vs r
 unfold KV at r
 induction r generalizing kvs vs with
 | nil=>intro q; exact q
 | @cons p q ps qs h t ih=>
  intro r0
  have e:KV (putK kvs p.1 p.2) (stored vs q.1 q.2):=by
   have:=r0.put p.1 h.2
   rw [←h.1]; exact this
  exact ih e
theorem Zt:∀ (more kvs:List (Key × V)),(abL kvs more).length<=kvs.length+more.length
 | [],kvs=>by show kvs.length<=kvs.length+0; omega
 | p::r,kvs=>by
  have h1:=Zt r (putK kvs p.1 p.2)
  have h2:=QI kvs p.1 p.2
  show (abL (putK kvs p.1 p.2) r).length<=_
  rw [List.length_cons]; omega
theorem abM {P:Program}{w:World}:∀ {kvs:List (Key × V)}{ws:List (Value × Value)},VV (kvs.map fun kv=>(kV kv.1,kv.2)) ws->∃ rs,Carries (j5 P w) ws rs/\KV kvs rs
 | [],_,r=>by rw [List.map_nil] at r; cases r; exact ⟨[],True.intro,.nil⟩
 | p::kvs,_,r=>by
  rw [List.map_cons] at r
  cases r with
  | @cons a b as bs h t=>
   obtain ⟨rs,c,q⟩:=abM (P:=P) (w:=w) t
   obtain ⟨b1,b2⟩:=b
   exact ⟨(p.1,b2)::rs,⟨abJ h.1,rfl,c⟩,.cons ⟨rfl,h.2⟩ q⟩
noncomputable def aqn (trs:List (TE × TE)):TE:=fun σ H Q=>∀ p,H p=none->agi trs σ (upd H p (.dK [])) fun ps H2=>H2 p=some (.dK [])/\∃ kvs:List (Key × V),ps=kvs.map (fun kv=>(kV kv.1,kv.2))/\kvs.length<=15/\Q (.ref p) (upd H2 p (.dK (abL [] kvs)))
theorem amE {X:Cx}{pos:Pos}{keys:List (Option Expr)}{values:List Expr}{trs:List (TE × TE)} (h:PPs X pos keys values trs) (hall:keys.all (·.isSome)=true) (hl:keys.length=values.length) (h0:keys ≠ [])
  (h15:keys.length<=15):PE X (.Dict keys values pos) (aqn trs):=by
 intro Kp s σ H Q I q
 have hn:=I.hok.fresh (Nat.le_refl s.heap.objs.size)
 have I1:=I.laid (a:=s.heap.objs.size) (o:= .dK []) (h':=s.heap.push { cls:= .type "dict",data:= .dict #[] }) (t':=s.toks) (fun _ _ q=>Heap.get?_push_of_some _ q) (Nat.le_refl _) (ae0 s.heap I.big)
 refine wpAny_Dict_walk (knd:=j5 X.prog X.w) hall hl h0 h15 (thn (h Kp _ σ _ _ I1 (q _ hn)) fun ws s2 ⟨ps,H2,I2,rel,e,kvs,ep,lk,q2⟩=>?_)
 subst ep
 obtain ⟨rs,c,rk⟩:=abM (P:=X.prog) (w:=X.w) rel
 obtain ⟨z,hd,vs0,r0,dd⟩:=anY I2.hok e
 cases r0
 refine ⟨rs,c,dd,fun h' dd' hs=>⟨.ref s.heap.objs.size,_,?_,rfl,q2⟩⟩
 have hz:(abL [] kvs).length<=sizeLine:=by
  have h1:=Zt kvs []
  rw [List.length_nil] at h1
  rw [sizeLine_eq]; omega
 have he:∃ q,h'.get? s.heap.objs.size=some q:=let ⟨q,_,_,hq,_⟩:=dd'; ⟨q,hq⟩
 exact ad1 I2 (by rw [e]; exact True.intro) hs he (aj6 hz hd (rk.merge .nil) dd')
structure M1 (X:Cx) (o:Expr) (m:Str) (apos:Pos) (e:Expr) (cpos:Pos):Prop where
 base:attributeBase o m X.env (eval o X.env)=eval o X.env
 few:((backTo cpos (starEach [e] X.env)).all (fun x=>!x.1) && (backToKw cpos (keywordEach [] X.env)).all (fun x=>x.1.isSome)
  && decide (([e]:List Expr).length+([]:List Keyword).length+(if ([]:List Keyword).isEmpty then 0 else 1)<30))=true
 line:(apos.endLine == cpos.line)=true
 trees:backTo cpos (starEach [e] X.env)=[(false,eval e X.env)]
structure M2 (X:Cx) (o:Expr) (m:Str) (apos:Pos) (e f:Expr) (cpos:Pos):Prop where
 base:attributeBase o m X.env (eval o X.env)=eval o X.env
 few:((backTo cpos (starEach [e,f] X.env)).all (fun x=>!x.1) && (backToKw cpos (keywordEach [] X.env)).all (fun x=>x.1.isSome)
  && decide (([e,f]:List Expr).length+([]:List Keyword).length+(if ([]:List Keyword).isEmpty then 0 else 1)<30))=true
 line:(apos.endLine == cpos.line)=true
 trees:backTo cpos (starEach [e,f] X.env)=[(false,eval e X.env),(false,eval f X.env)]
noncomputable def IsD (H:Hp) (a:Addr):Prop:=(∃ kvs,Rd H a (.dK kvs)) ∨ ∃ kvs,Rd H a (.dT kvs)
theorem aj9 {X:Cx}{Kp:List (Addr × Obj)}{σ:St}{H:Hp}{s:Shared}{a:Addr} (I:Inv X Kp σ H s) (d:IsD H a):
  s.TypeIs (.ref a) "dict"/\(∀ b,Value.ref a= .ref b->∃ ob,s.heap.get? b=some ob/\ob.dict=none)/\(a == sysModules)=false:=by
 rcases d with ⟨kvs,e⟩ | ⟨kvs,e⟩
 ·obtain ⟨_,hd,vs,_,dd⟩:=aa0 I.hok e
  refine ⟨dd.typeIs,fun b q=>?_,hd⟩
  cases q
  obtain ⟨ob,_,_,h1,h2,_⟩:=dd
  exact ⟨ob,h1,h2.2.1⟩
 ·obtain ⟨_,hd,xs,_,dd⟩:=abK I.hok e
  refine ⟨dd.typeIs,fun b q=>?_,hd⟩
  cases q
  obtain ⟨ob,_,_,h1,h2,_⟩:=dd
  exact ⟨ob,h1,h2.2.1⟩
section
variable {X:Cx}{Kp:List (Addr × Obj)}{σ:St}{H:Hp}{s:Shared}{a:Addr}{y d:V}{u r:Value}{o:Option V}{A:Around}{E:Value->SP0}
theorem aoN {Q:Value->SP0} (hu:A.units+1<cLine) (I:Inv X Kp σ H s) (g:ZP H a y o) (ry:jK y u) (h:∀ w' s',Inv X Kp σ H s'->jK (o.getD .non) w'->Q w' s'):
  wpAny (model X.prog X.w) A (call (.builtin "dict.get") [.ref a,u]) Q E s:=by
 rcases g with ⟨kvs,k,e,ey,l⟩ | ⟨kvs,k,b,e,ey,eb,l⟩
 ·subst ey
  obtain ⟨z,hd,vs,rel,dd⟩:=aa0 I.hok e
  refine call_meetsIn PySem.F.slot_dict_get dd.typeIs PySem.F.entry_dict_get (PySem.F.args_dict_get_2 _ _) (meets_dict_get (j5 X.prog X.w) a (abJ ry) hd) ⟨_,dd.mapOf,h _ _ (I.tok _) ?_⟩
  rw [l]
  exact (rel.val k).getD rfl
 ·subst ey
  cases (show u=Value.ref b from ry)
  obtain ⟨z,hd,xs,rel,dd⟩:=abK I.hok e
  refine call_meetsIn PySem.F.slot_dict_get dd.typeIs PySem.F.entry_dict_get (PySem.F.args_dict_get_2 _ _) (meetsH_dict_get (tupleKind (j5 X.prog X.w)) a b hd) ⟨tupleKind_room_in1 hu,k,xs,aau I.hok eb,dd,h _ _ (I.tok _) ?_⟩
  rw [l]
  exact (rel.val k).getD rfl
theorem aoO {Q:Value->SP0} (hu:A.units+1<cLine) (I:Inv X Kp σ H s) (g:ZP H a y o) (ry:jK y u) (rd:jK d r) (h:∀ w' s',Inv X Kp σ H s'->jK (o.getD d) w'->Q w' s'):
  wpAny (model X.prog X.w) A (call (.builtin "dict.get") [.ref a,u,r]) Q E s:=by
 rcases g with ⟨kvs,k,e,ey,l⟩ | ⟨kvs,k,b,e,ey,eb,l⟩
 ·subst ey
  obtain ⟨z,hd,vs,rel,dd⟩:=aa0 I.hok e
  refine call_meetsIn PySem.F.slot_dict_get dd.typeIs PySem.F.entry_dict_get (PySem.F.args_dict_get_3 _ _ _) (meets_dict_get_default (j5 X.prog X.w) a (abJ ry) hd r) ⟨_,dd.mapOf,h _ _ (I.tok _) ?_⟩
  rw [l]
  exact (rel.val k).getD rd
 ·subst ey
  cases (show u=Value.ref b from ry)
  obtain ⟨z,hd,xs,rel,dd⟩:=abK I.hok e
  refine call_meetsIn PySem.F.slot_dict_get dd.typeIs PySem.F.entry_dict_get (PySem.F.args_dict_get_3 _ _ _) (meetsH_dict_get_default (tupleKind (j5 X.prog X.w)) a b hd r) ⟨tupleKind_room_in1 hu,k,xs,aau I.hok eb,dd,h _ _ (I.tok _) ?_⟩
  rw [l]
  exact (rel.val k).getD rd
end
noncomputable def aoP (td ty:TE):TE:=fun σ H Q=>td σ H fun x H1=>∃ a,x= .ref a/\IsD H1 a/\ty σ H1 fun y H2=>∃ o,ZP H2 a y o/\Q (o.getD .non) H2
noncomputable def aoQ (td ty tx:TE):TE:=fun σ H Q=>td σ H fun x H1=>∃ a,x= .ref a/\IsD H1 a/\ty σ H1 fun y H2=>tx σ H2 fun z H3=>∃ o,ZP H3 a y o/\Q (o.getD z) H3
section
variable {X:Cx}{o e f:Expr}{apos cpos:Pos}{td ty tx:TE}
theorem aka (hu:X.A.units+1<cLine) (ho:PE X o td) (he:PE X e ty) (m:M1 X o "get" apos e cpos):PE X (.Call (.Attribute o "get" apos) [e] [] cpos) (aoP td ty):=by
 intro Kp s σ H Q I h
 refine wpAny_Call_method m.base m.few m.line PySem.F.plainAttrs_dict PySem.F.slot_dict_get PySem.F.type_dict_get (thn (ho Kp s σ H _ I h) fun u s1 ⟨x,H1,I1,rx,a,ex,d,q1⟩=>?_)
 subst ex
 obtain rfl:u=Value.ref a:=rx
 obtain ⟨t1,t2,_⟩:=aj9 I1 d
 refine ⟨t1,t2,?_⟩
 rw [m.trees]
 refine Calls.callWith_builtin rfl (Calls.evalArgs_plain (Calls.spliced_cons (thn (he Kp s1 σ H1 _ I1 q1) fun iv s2 ⟨y,H2,I2,ry,ov,g,q2⟩=>Calls.spliced_nil ?_)))
 exact aoN hu I2 g ry fun w' s3 I3 rw'=>⟨_,H2,I3,rw',q2⟩
theorem akb (hu:X.A.units+1<cLine) (ho:PE X o td) (he:PE X e ty) (hf:PE X f tx) (m:M2 X o "get" apos e f cpos):PE X (.Call (.Attribute o "get" apos) [e,f] [] cpos) (aoQ td ty tx):=by
 intro Kp s σ H Q I h
 refine wpAny_Call_method m.base m.few m.line PySem.F.plainAttrs_dict PySem.F.slot_dict_get PySem.F.type_dict_get (thn (ho Kp s σ H _ I h) fun u s1 ⟨x,H1,I1,rx,a,ex,d,q1⟩=>?_)
 subst ex
 obtain rfl:u=Value.ref a:=rx
 obtain ⟨t1,t2,_⟩:=aj9 I1 d
 refine ⟨t1,t2,?_⟩
 rw [m.trees]
 refine Calls.callWith_builtin rfl (Calls.evalArgs_plain (Calls.spliced_cons (thn (he Kp s1 σ H1 _ I1 q1) fun iv s2 ⟨y,H2,I2,ry,q2⟩=>
  Calls.spliced_cons (thn (hf Kp s2 σ H2 _ I2 q2) fun fv s3 ⟨z,H3,I3,rz,ov,g,q3⟩=>Calls.spliced_nil ?_))))
 exact aoO hu I3 g ry rz fun w' s4 I4 rw'=>⟨_,H3,I4,rw',q3⟩
end
section
variable {X:Cx}{Kp:List (Addr × Obj)}{σ:St}{H:Hp}{s:Shared}{a:Addr}{kvs:List (Key × V)}{A:Around}{E:Value->SP0}
end
section
variable {X:Cx}{Kp:List (Addr × Obj)}{σ:St}{H:Hp}{s:Shared}{a:Addr}{y:V}{u:Value}{A:Around}{E:Value->SP0}
end
section
variable {X:Cx}
end
section
variable {κ:Type} [DecidableEq κ]
end
end L2
end
section
namespace BX
open PySem PySem.Spec L2
open PyProof.Rows hiding St
noncomputable abbrev NoX:Value->SP0:=fun _ _=>False
noncomputable def ahv (ts:List Expr) (en:Env):Sem Bool:=
 forIn ts true fun c r=>if r=true then do let ok ←isTrue c en (eval c en); pure (ForInStep.yield ok) else pure (ForInStep.yield r)
section
variable {prog:Program}{w:World}{A:Around}{s:Shared}{R:Result->SP0}
theorem ac9 {el tg src:Expr}{ts:List Expr}{sc:Scope}{ps:Pos}{it acc:Value}{en:Env} (J:Nat->SP0)
  (turn:∀ n s,J n s->wpAny (model prog w) A (pyNext it) (fun r s1=>match r with
   | none=>R (.ok .next) s1
   | some v=>wpAny (model prog w) A (letOwnedTupleGo tg it v) (fun _ sg=>wpAny (model prog w) A (assign tg en v) (fun _ s2=>
     wpAny (model prog w) A (ahv ts en) (fun ok s3=>
      if ok=true then wpAny (model prog w) A (eval el en) (fun y s4=>
       wpAny (model prog w) A (call (.builtin "list.append") [acc,y]) (fun _ s5=>∃ m,m<n/\J m s5) NoX s4) NoX s3
      else ∃ m,m<n/\J m s3) NoX s2) NoX sg) NoX s1) NoX s)
  (n:Nat) (h:J n s):
  codeAny (model prog w) A (.compLoop (.ListComp el [⟨tg,src,ts,0⟩] sc ps) 0 it acc en) R s:=by
 refine codeAny_loop rfl J (fun n s hJ=>?_) n h
 show wpAny _ A
  ((compTurn (.ListComp el [⟨tg,src,ts,0⟩] sc ps) 0 it acc en).onRaise
   (fun x=>do noteFrame x en; theTreesLotGoes x)) _ _ s
 refine wpAny_noted ?_
 rw [compTurn_list]
 have no:∀ {E:Value->SP0} (e:Value) (s':Shared),NoX e s'->E e s':=fun _ _ z=>z.elim
 refine wpAny_bind (wpAny_standAt (wpAny_bind (wpAny_mono (turn n s hJ) (fun r s1 h1=>?_) no)))
 cases r with
 | none=>exact wpAny_pure h1
 | some v=>
  refine wpAny_bind (wpAny_mono h1 (fun _ sg hg=>?_) no)
  refine wpAny_bind (wpAny_mono hg (fun _ s2 h2=>?_) no)
  refine wpAny_bind (wpAny_mono h2 (fun ok s3 h3=>?_) no)
  cases ok with
  | false=>exact wpAny_pure ⟨rfl,h3⟩
  | true=>
   refine wpAny_bind (wpAny_bind (wpAny_mono h3 (fun y s4 h4=>?_) no))
   exact wpAny_bind (wpAny_mono h4 (fun _ s5 h5=>wpAny_pure (wpAny_pure ⟨rfl,h5⟩)) no)
end
noncomputable def QC (en:Env):List (Str × NameKind)->List (Str × Addr)->List (Str × Addr)
 | [],cs=>cs
 | (n,k)::r,cs=>QC en r (if k == .free then (n,(en.cells.lookup n).getD 0)::cs else cs)
theorem ahw (sc:Scope) (en:Env) (h:∀ x ∈ sc.names,x.2= .free->∃ c,en.cells.lookup x.1=some c):closureFor sc en=pure (QC en sc.names []):=by
 have go:∀ (l:List (Str × NameKind)) (cs:List (Str × Addr)),(∀ x ∈ l,x.2= .free->∃ c,en.cells.lookup x.1=some c)->
   (forIn l cs (fun (x:Str × NameKind) (r:List (Str × Addr))=>(do
    if x.2 == .free then do
     let c ←cellOf en x.1
     pure (ForInStep.yield ((x.1,c)::r))
    else pure (ForInStep.yield r):Sem (ForInStep (List (Str × Addr))))):Sem _)=pure (QC en l cs):=by
  intro l
  induction l with
  | nil=>intro cs _; rfl
  | cons x l ih=>
   intro cs hl
   obtain ⟨n,k⟩:=x
   rw [List.forIn_cons]
   by_cases hk:(k == NameKind.free)=true
   ·obtain ⟨c,e⟩:=hl (n,k) List.mem_cons_self (by simpa using hk)
    have e':en.cells.lookup n=some c:=e
    simp only [hk,zzM,cellOf,e',pure_bind,QC,Option.getD_some]
    exact ih _ fun y hy=>hl y (List.mem_cons_of_mem _ hy)
   ·simp only [hk,pure_bind,QC,zzL,zzN]
    exact ih _ fun y hy=>hl y (List.mem_cons_of_mem _ hy)
 have:=go sc.names [] h
 unfold closureFor
 rw [←this]
 first
  | (simp only [bind_pure_comp,id_map',map_pure]; done)
  | (simp only [bind_pure_comp,id_map',map_pure]; exact bind_pure _)
theorem aav (en:Env):∀ (l:List (Str × NameKind)) (cs:List (Str × Addr)),(∀ x ∈ l,x.2= .free->∃ c,en.cells.lookup x.1=some c)->(∀ p ∈ cs,en.cells.lookup p.1=some p.2)->
  ∀ p ∈ QC en l cs,en.cells.lookup p.1=some p.2
 | [],_,_,h,p,hp=>h p hp
 | (n,k)::r,cs,hl,h,p,hp=>by
  refine aav en r _ (fun y hy=>hl y (List.mem_cons_of_mem _ hy)) (fun q hq=>?_) p hp
  by_cases hk:(k == NameKind.free)=true
  ·rw [if_pos hk] at hq
   rcases List.mem_cons.mp hq with rfl | hq
   ·obtain ⟨c,e⟩:=hl (n,k) List.mem_cons_self (by simpa using hk)
    have e':en.cells.lookup n=some c:=e
    show en.cells.lookup n=some ((en.cells.lookup n).getD 0)
    rw [e']; rfl
   ·exact h q hq
  ·rw [if_neg hk] at hq
   exact h q hq
theorem aa1 (en:Env):∀ (l:List (Str × NameKind)) (cs:List (Str × Addr)) (x:Str),(∃ c,(x,c) ∈ cs)->∃ c,(x,c) ∈ QC en l cs
 | [],_,_,h=>h
 | (n,k)::r,cs,x,⟨c,h⟩=>by
  refine aa1 en r _ x ?_
  by_cases hk:(k == NameKind.free)=true
  ·rw [if_pos hk]; exact ⟨c,List.mem_cons_of_mem _ h⟩
  ·rw [if_neg hk]; exact ⟨c,h⟩
theorem J5 (en:Env):∀ (l:List (Str × NameKind)) (cs:List (Str × Addr)) (x:Str),(x,NameKind.free) ∈ l->∃ c,(x,c) ∈ QC en l cs
 | (n,k)::r,cs,x,h=>by
  rcases List.mem_cons.mp h with e | h
  ·obtain ⟨e1,e2⟩:=Prod.mk.inj e
   subst e1; subst e2
   exact aa1 en r _ _ ⟨_,by rw [if_pos (by rfl)]; exact List.mem_cons_self⟩
  ·exact J5 en r _ x h
theorem zc {β:Type}:∀ {l:List (Str × β)}{x:Str}{c:β},(x,c) ∈ l->∃ d,l.lookup x=some d
 | (n,k)::r,x,c,h=>by
  by_cases e:x=n
  ·subst e; exact ⟨k,by simp [List.lookup_cons]⟩
  ·have eb:(x == n)=false:=by simpa using e
   rcases List.mem_cons.mp h with z | h
   ·cases z; exact absurd rfl e
   ·obtain ⟨d,hd⟩:=zc h
    exact ⟨d,by simp only [List.lookup_cons,eb]; exact hd⟩
theorem JJ {sc:Scope}{en:Env}{x:Str}{k:NameKind} (h:(x,k) ∈ (relabel sc en).names) (hc:∀ y ∈ sc.names,y.2 ≠ .cell) (hk:k= .cell ∨ k= .free):(x,NameKind.free) ∈ sc.names:=by
 obtain ⟨⟨n,j⟩,hm,e⟩:=List.mem_map.mp h
 by_cases q:(j == NameKind.free && en.scope.kind == .function && en.kindOf n == some .cell)=true
 ·have e1:(n,NameKind.cell)=(x,k):=by simpa only [q,zzM] using e
  cases e1
  have hj:j= .free:=by
   simp only [Bool.and_eq_true] at q
   simpa using q.1.1
  rw [←hj]; exact hm
 ·have e1:(n,j)=(x,k):=by simpa only [q,zzL,zzN] using e
  cases e1
  rcases hk with rfl | rfl
  ·exact absurd rfl (hc _ hm)
  ·exact hm
theorem Qi {en:Env}:∀ {l:List (Str × NameKind)}{x:Str},l.lookup x=some .free->
  (l.map fun (n,k)=>if (k == NameKind.free && en.scope.kind == .function && en.kindOf n == some .cell) then (n,NameKind.cell) else (n,k)).lookup x=some .cell ∨
  (l.map fun (n,k)=>if (k == NameKind.free && en.scope.kind == .function && en.kindOf n == some .cell) then (n,NameKind.cell) else (n,k)).lookup x=some .free
 | (n,k)::r,x,h=>by
  rw [List.map_cons]
  cases hx:x == n with
  | true=>
   simp only [List.lookup_cons,hx] at h
   cases h
   by_cases q:(NameKind.free == NameKind.free && en.scope.kind == .function && en.kindOf n == some .cell)=true
   ·left; simp only [q,zzM,List.lookup_cons,hx]
   ·right; simp only [q,zzL,zzN,List.lookup_cons,hx]
  | false=>
   simp only [List.lookup_cons,hx] at h
   rcases Qi (en:=en) h with g | g
   ·left
    by_cases q:(k == NameKind.free && en.scope.kind == .function && en.kindOf n == some .cell)=true
    ·simp only [q,zzM,List.lookup_cons,hx]; exact g
    ·simp only [q,zzL,zzN,List.lookup_cons,hx]; exact g
   ·right
    by_cases q:(k == NameKind.free && en.scope.kind == .function && en.kindOf n == some .cell)=true
    ·simp only [q,zzM,List.lookup_cons,hx]; exact g
    ·simp only [q,zzL,zzN,List.lookup_cons,hx]; exact g
noncomputable def blk (X:Cx) (N':List Str) (sc:Scope) (cl:List (Str × Addr)) (C:Addr) (s0:Shared) (H0:Hp) (fp:List Addr) (pn:List (Addr × Obj)):Cx:=
 { X with N:=N',s₀:=s0,H₀:=H0,env:=compEnvC sc cl C X.env,Ko:=X.stack,ex:=fp,fn:=fun _=>false,pn:=pn,xe:=NoX }
noncomputable def abf (cap:List (Option Nat)) (σ:St):St:=cap.map fun o=>o.bind fun i=>(σ[i]?).join
noncomputable def PTs (X:Cx) (ts:List Expr) (t:TT):Prop:=
 ∀ (Kp:List (Addr × Obj)) (s:Shared) (σ:St) (H:Hp) (Q:Bool->Hp->Prop),Inv X Kp σ H s->t σ H Q->wpAny (model X.prog X.w) X.A (ahv ts X.env) (TP X Kp σ Q) X.xe s
noncomputable def aqo:TT:=fun _ H Q=>Q true H
theorem amF {X:Cx}:PTs X [] aqo:=fun _ _ _ H _ I h=>wpAny_pure ⟨H,I,h⟩
theorem amG {X:Cx}{c:Expr}{t:TT} (h:PT X c t):PTs X [c] t:=fun Kp s σ H Q I hq=>wpAny_tests_one (h Kp s σ H Q I hq)
structure CompOk (X:Cx) (sc:Scope) (N':List Str) (cap:List (Option Nat)):Prop where
 fr:∀ x ∈ sc.names,x.2= .free->X.env.kindOf x.1=some .cell ∨ X.env.kindOf x.1=some .free
 nc:∀ x ∈ sc.names,x.2 ≠ .cell
 kind:sc.kind= .function
 nm:∀ x ∈ sc.names,x.2= .local->sc.names.lookup x.1=some .local
 len:cap.length=N'.length
 cp:∀ (j i:Nat) (x:Str),N'[j]?=some x->cap[j]?=some (some i)->X.N[i]?=some x/\sc.names.lookup x=some .free
noncomputable def akc (wi:TI) (cap:List (Option Nat)) (g:TG) (tt:TT) (te:TE):TE:=fun σ H Q=>wi σ H fun J H1=>
 ∃ W:Nat->Nat->St->List V->Hp->Prop,(∃ m,W 0 m (abf cap σ) [] H1)/\∀ i m τ ys H,W i m τ ys H->ys.length<sizeLine/\
  ((J.stop i H/\∀ l,H l=none->Q (.ref l) (upd H l (.lst ys))) ∨
   (J.go i H/\∀ x H',J.yld i H x H'->g x τ H' fun τ2 H2=>tt τ2 H2 fun b H3=>if b=true then te τ2 H3 fun y H4=>∃ m',m' < m/\W (i+1) m' τ2 (ys++[y]) H4 else ∃ m',m' < m/\W (i+1) m' τ2 ys H3))
theorem Inv.track {X:Cx}{Kp:List (Addr × Obj)}{σ:St}{H:Hp}{s:Shared}{D:Addr}{o:HO} (I:Inv X Kp σ H s) (hn:H D=none) (h1:X.s₀.heap.objs.size<=D) (h2:D ≠ X.env.locals) (h3:∀ x c,X.env.cells.lookup x=some c->c ≠ D)
  (h4:∀ p ∈ X.pn++Kp,p.1 ≠ D) (new:qC X.prog X.w (upd H D o) s.heap D o):Inv X Kp σ (upd H D o) s:=by
 have nd:∀ b u,H b=some u->b ≠ D:=fun b u e z=>by rw [z,hn] at e; cases e
 have hok:HOk X.prog X.w (upd H D o) s.heap:=fun b u e=>by
  by_cases hb:b=D
  ·subst hb; rw [jq] at e; cases e; exact new
  ·rw [jo hb] at e
   exact (I.hok b u e).stay (fun _ _ _ q=>q) (fun c q=>by rw [jo (nd c _ q)]; exact q) fun c xs q=>by rw [jo (nd c _ q)]; exact q
 refine I.step (h':=s.heap) (g':=s.gens) (d':=s.drawn) (t':=s.toks) (ch:=[D]) (fun b hb=>?_) (fun b o _ _ _ e _=>e) (fun b o _ _ _ e _=>⟨o.slots,e⟩) (fun b o hc _ n=>?_) (fun b o _ e=>⟨o,e⟩) (fun b xs e=>by rw [jo (nd b _ e)]; exact e)
  (fun b ob u e=>by rw [jo (nd b _ e)]; exact e) (fun b ps e=>⟨#[],by rw [jo (nd b _ e),e]; simp⟩) (fun m hm=>hm) hok I.bare
 ·have e:b=D:=by simpa using hb
  subst e
  exact ⟨.inr h1,h2,h3,h4⟩
 ·have e:b ≠ D:=by simpa using hc
  rw [jo e]; exact n
theorem amH {X : Cx} {el tg src : Expr} {ts : List Expr} {sc : Scope} {ps : Pos} {wi : TI} {g : TG} {tt : TT} {te : TE} {N' : List Str} {cap : List (Option Nat)} (hc : X.calm = true) (hi : PI X tg src wi) (ok : CompOk X sc N' cap)
    (body : ∀ cl C s0 H0 fp pn, PG (blk X N' sc cl C s0 H0 fp pn) tg g /\ PTs (blk X N' sc cl C s0 H0 fp pn) ts tt /\ PE (blk X N' sc cl C s0 H0 fp pn) el te)
    (hs : ∀ x, foldedSetIterable src X.env x = pure x := by intro _; rfl) : PE X (.ListComp el [⟨tg, src, ts, 0⟩] sc ps) (akc wi cap g tt te) := by
  intro Kp s σ H Q I h
  have hfr : ∀ x ∈ sc.names, x.2 = .free -> ∃ c, X.env.cells.lookup x.1 = some c := fun x hx e => I.ok.has x.1 (ok.fr x hx e)
  have hcl := ahw sc X.env hfr
  have clm : ∀ x c, (QC X.env sc.names []).lookup x = some c -> X.env.cells.lookup x = some c := fun x c e =>
    aav X.env sc.names [] hfr (fun _ z => nomatch z) (x, c) (PySem.mem_of_lookup e)
  generalize hgl : QC X.env sc.names [] = cl at hcl clm
  rw [eval_ListComp]
  refine wpAny_comprehension_free (use := none) rfl hs hcl ok.kind ok.nm ?_
  refine thn (hi Kp s σ H _ I h) fun v s1 h1 => thn h1 fun itv s2 h2 => ?_
  obtain ⟨it, fp, tn, J, H2, e, I2, T, st2, f2, W, ⟨m0, w0⟩, turn⟩ := h2
  subst e
  refine wpAny_newObj_type (wpAny_newFunctionEnv ok.nc (by intro y hy; simp at hy) (fun h4 hns hsb => ?_) ok.kind)
  dsimp only at hns hsb ⊢
  generalize hH3 : s2.heap.push { cls := .type "list", dict := none, data := .seq ([] : List Value).toArray } = h3 at hns hsb ⊢
  have hC : h3.objs.size = s2.heap.objs.size + 1 := by rw [← hH3, Heap.size_push]
  generalize hCC : h3.objs.size = C at hns hsb hC ⊢
  generalize hDD : s2.heap.objs.size = D at hC ⊢
  have hDC : D ≠ C := by rw [hC]; exact Nat.ne_of_lt (Nat.lt_succ_self _)
  have old : ∀ b o, s2.heap.get? b = some o -> h4.get? b = some o := fun b o e => hsb.extBut b o (by have := Heap.lt_size e; rw [hDD] at this; rw [hC]; exact Nat.ne_of_lt (Nat.lt_succ_of_lt this)) (Heap.get?_push_of_some _ (hH3 ▸ Heap.get?_push_of_some _ e))
  have accO : h4.get? D = some { cls := .type "list", data := .seq ([] : List Value).toArray 0 } := hsb.extBut _ _ hDC (Heap.get?_push_of_some _ (by rw [← hH3, ← hDD]; exact Heap.get?_push_size _ rfl))
  have H2D : H2 D = none := I2.hok.fresh (by rw [hDD]; exact Nat.le_refl _)
  have H2C : H2 C = none := I2.hok.fresh (by rw [hDD, hC]; exact Nat.le_succ _)
  have cellsLt : ∀ x c, X.env.cells.lookup x = some c -> c<D := fun x c e => by
    obtain ⟨v, q⟩ := I2.cell x c e
    rw [← hDD]; exact q.lt
  have pinLt : ∀ p ∈ X.pn ++ Kp, p.1<D := fun p hp => by rw [← hDD]; exact Heap.lt_size (I2.pin p hp).1
  have stkLt : ∀ b ∈ frs X.stack, b<D := fun b hb => by
    obtain ⟨_, o, ho, _⟩ := I2.stack.mem hb
    rw [← hDD]; exact Heap.lt_size ho
  have fpLt : ∀ b ∈ fp, b<D := fun b hb => by
    obtain ⟨o, ho, _⟩ := T.obj _ _ st2 b hb
    rw [← hDD]; exact Heap.lt_size ho
  have ltC : ∀ {b : Addr}, b<D -> b ≠ C := fun hb => by rw [hC]; exact Nat.ne_of_lt (Nat.lt_succ_of_lt hb)
  have locLt : X.env.locals<D := by rw [← hDD]; exact I2.lt
  have hDge : s2.heap.objs.size <= D := by rw [hDD]; exact Nat.le_refl _
  have hCge : s2.heap.objs.size <= C := by rw [hDD, hC]; exact Nat.le_succ _
  have bok : (blk X N' sc cl C s2 H2 fp (X.pn ++ Kp)).Ok := by
    refine ⟨I2.ok.mod, ok.kind, I2.ok.glob, I2.ok.blt, hCge, fun x y c e1 e2 => I2.ok.inj x y c (clm x c e1) (clm y c e2), fun x hx => ?_, fun x c z _ => ?_, I2.ok.hd, I2.ok.frames, .inl rfl, fun b hb => ?_, I2.bs, Nat.le_trans I2.ok.bsz I2.sz, fun b o e hb => ?_, fun b hb z => ?_, I2.stack, I2.stkFree⟩
    · have hx' : (relabel sc X.env).names.lookup x = some .cell ∨ (relabel sc X.env).names.lookup x = some .free := hx
      have hm : (x, NameKind.free) ∈ sc.names := by
        rcases hx' with z | z
        · exact JJ (PySem.mem_of_lookup z) ok.nc (.inl rfl)
        · exact JJ (PySem.mem_of_lookup z) ok.nc (.inr rfl)
      obtain ⟨c, hc⟩ := J5 X.env sc.names [] x hm
      rw [hgl] at hc
      exact zc hc
    · exact absurd (show false = true from z) Bool.false_ne_true
    · exact ⟨ltC (fpLt b hb), fun x c e => (f2 b hb).2.2.2.2.1 x c (clm x c e)⟩
    · rcases (f2 b hb).2.2.2.1 with z | z
      · exact I2.ok.noex b o e z
      · have := Heap.lt_size e
        exact absurd (Nat.lt_of_lt_of_le this (Nat.le_trans I2.ok.bsz z)) (Nat.lt_irrefl _)
    · rcases List.mem_cons.mp (I2.stkSub b z) with q | q
      · exact (f2 b hb).2.1 q
      · exact (f2 b hb).2.2.1 q
  have pinB : ∀ p ∈ X.pn ++ Kp, p.1 ≠ C /\ p.1 ∉ frs X.stack := fun p hp => ⟨ltC (pinLt p hp), fun z => by
    rcases List.mem_cons.mp (I2.stkSub p.1 z) with q | q
    · exact (I2.pin p hp).2.2.1 q
    · exact (I2.pin p hp).2.2.2.1 q⟩
  have I4 : Inv (blk X N' sc cl C s2 H2 fp (X.pn ++ Kp)) [] (abf cap σ) H2 { s2 with heap := h4, toks := s2.toks + ([] : List (Str × Value)).length } := by
    refine ⟨bok, rfl, I2.bare, Un.kept old, ⟨_, hns, fun j x v e1 e2 e3 => ?_⟩, fun x c e => ?_, H2C, fun x c e => I2.freeC x c (clm x c e), fun p hp => ?_, I2.hok.kept old, ?_⟩
    · unfold abf at e2
      rw [List.getElem?_map] at e2
      cases e4 : cap[j]? with
      | none => rw [e4] at e2; cases e2
      | some o =>
        rw [e4] at e2
        cases o with
        | none => cases e2
        | some i =>
          obtain ⟨hNi, hf⟩ := ok.cp j i x e1 e4
          have e5 : (σ[i]?).join = some v := by
            have := Option.some.inj e2
            simpa using this
          have e6 : σ[i]? = some (some v) := by
            cases e7 : σ[i]? with
            | none => rw [e7] at e5; cases e5
            | some z => rw [e7] at e5; cases z with
              | none => cases e5
              | some z => cases e5; rfl
          have hk := ok.fr (x, .free) (PySem.mem_of_lookup hf) rfl
          obtain ⟨m, hn, hl⟩ := I2.loc
          have hv : Vis X.env.scope x := by
            rcases hk with z | z
            · exact .inr (.inl z)
            · exact .inr (.inr z)
          obtain ⟨u, r, lk⟩ := hl i x v hNi e6 hv
          have cellX : ∃ c, X.env.cells.lookup x = some c /\ s2.heap.IsCell c (some u) := by
            rcases lk with ⟨k1, _⟩ | ⟨_, c, e, z⟩
            · rcases hk with z | z
              · have z' : X.env.kindOf x = some .cell := z
                rw [k1] at z'; cases z'
              · have z' : X.env.kindOf x = some .free := z
                rw [k1] at z'; cases z'
            · exact ⟨c, e, z⟩
          obtain ⟨c, hc1, ob, hc2, hc3⟩ := cellX
          obtain ⟨c', hc'⟩ := J5 X.env sc.names [] x (PySem.mem_of_lookup hf)
          rw [hgl] at hc'
          obtain ⟨d, hd⟩ := zc hc'
          have ed : d = c := by
            have := clm x d hd
            rw [hc1] at this; cases this; rfl
          subst ed
          refine ⟨u, r, .inr ⟨?_, d, hd, ob, old _ _ hc2, hc3⟩⟩
          exact Qi hf
    · obtain ⟨v, ob, ho, hd⟩ := I2.cell x c (clm x c e)
      exact ⟨v, ob, old _ _ ho, hd⟩
    · have hp' : p ∈ X.pn ++ Kp := by simpa [blk] using hp
      obtain ⟨e1, e2, e3, e4, e5⟩ := I2.pin p hp'
      exact ⟨old _ _ e1, e2, (pinB p hp').1, (pinB p hp').2, e5⟩
    · show (abf cap σ).length = N'.length
      unfold abf
      rw [List.length_map]; exact ok.len
  have fpB : ∀ {H' : Hp} {pl : List (Addr × Obj)}, (∀ b ∈ fp, H' b = none) -> (∀ p ∈ pl, p.1 ∉ fp) -> ∀ b ∈ fp, aeU (blk X N' sc cl C s2 H2 fp (X.pn ++ Kp)) pl H' b := fun {H' pl} hn hpl b hb =>
    ⟨hn b hb, ltC (fpLt b hb), bok.exfs b hb, .inl hb, fun x c e => (f2 b hb).2.2.2.2.1 x c (clm x c e), fun p hp z => by
      rcases List.mem_append.mp (show p ∈ (X.pn ++ Kp) ++ pl from hp) with q | q
      · exact (f2 b hb).2.2.2.2.2 p q z
      · exact hpl p q (by rw [z]; exact hb)⟩
  have Dfp : ∀ (o : Obj), ∀ p ∈ [(D, o)], p.1 ∉ fp := fun o p hp z => by
    have e : p = (D, o) := by simpa using hp
    subst e
    exact Nat.lt_irrefl _ (fpLt D z)
  have Dfs : D ∉ frs X.stack := fun z => Nat.lt_irrefl _ (stkLt D z)
  obtain ⟨bG, bT, bE⟩ := body cl C s2 H2 fp (X.pn ++ Kp)
  have loop : codeAny (model X.prog X.w) X.A (.compLoop (.ListComp el [⟨tg, src, ts, 0⟩] sc ps) 0 (.ref it) (.ref D) (compEnvC sc cl C X.env)) (compPost (model X.prog X.w) X.A X.xe none (EP X Kp σ Q) (.ref D) C)
      { s2 with heap := h4, toks := s2.toks + ([] : List (Str × Value)).length } := by
    refine ac9 (fun n s' => ∃ i τ ys us k H', Inv (blk X N' sc cl C s2 H2 fp (X.pn ++ Kp)) [] τ H' s' /\ tn i s'.heap /\ (∀ b ∈ fp, H' b = none) /\ jG ys us /\ s'.heap.get? D = some { cls := .type "list", data := .seq us.toArray k } /\ H' D = none /\ W i n τ ys H') ?_ m0
      ⟨0, _, [], [], 0, H2, I4, T.keep _ _ _ st2 (fun b _ o e => old b o e), fun b hb => (f2 b hb).1, .nil, accO, H2D, w0⟩
    rintro n s5 ⟨i, τ, ys, us, k, H5, I5, st5, fr5, rv5, ho5, hD5, w5⟩
    obtain ⟨hsz, alt⟩ := turn i n τ ys H5 w5
    have I5p : Inv (blk X N' sc cl C s2 H2 fp (X.pn ++ Kp)) [(D, { cls := .type "list", data := .seq us.toArray k })] τ H5 s5 := I5.pins_of fun p hp => by
      have e : p = (D, { cls := .type "list", data := .seq us.toArray k }) := by simpa using hp
      subst e
      exact ⟨ho5, hD5, hDC, Dfs, fun v z => by cases z⟩
    rcases alt with ⟨stop, fin⟩ | ⟨go, step⟩
    · refine thn (T.done (blk X N' sc cl C s2 H2 fp (X.pn ++ Kp)) rfl rfl rfl hc i _ s5 τ H5 NoX I5p (fpB fr5 (Dfp _)) st5 stop) fun r s6 ⟨hr, I6⟩ => ?_
      subst hr
      have ho6 := (I6.pin (D, _) (List.mem_append_right _ (List.mem_singleton.mpr rfl))).1
      obtain ⟨m6, hn6, _⟩ := I6.loc
      refine ⟨m6, hn6, fun h7 hs7 => ?_⟩
      have J6 : Inv X Kp σ H5 s6 := I2.call' (ch := fp) I6.os I6.base I6.hok I6.bare fun b hb => ⟨(f2 b hb).2.2.2.1, (f2 b hb).2.1, (f2 b hb).2.2.2.2.1, (f2 b hb).2.2.2.2.2⟩
      have H5C : H5 C = none := I6.free
      have cne : ∀ {b : Addr}, b<D -> b ≠ C := ltC
      have J7 : Inv X Kp σ H5 { s6 with heap := h7, toks := s6.toks } := J6.turned (it := C) (fun b o hb e => hs7.extBut b o hb e) H5C (Ne.symm (ltC locLt)) (.inr (Nat.le_trans I2.sz hCge)) (fun x c e => ltC (cellsLt x c e)) (fun p hp => ltC (pinLt p hp))
      have ho7 : h7.get? D = some { cls := .type "list", data := .seq us.toArray k } := hs7.extBut D _ hDC ho6
      refine ⟨.ref D, upd H5 D (.lst ys), ?_, rfl, fin D hD5⟩
      exact Inv.track J7 hD5 (Nat.le_trans I2.sz hDge) (Ne.symm (Nat.ne_of_lt locLt)) (fun x c e => Nat.ne_of_lt (cellsLt x c e)) (fun p hp => Nat.ne_of_lt (pinLt p hp)) ⟨Nat.le_of_lt hsz, us, k, rv5, ho7⟩
    · refine thn (T.item (blk X N' sc cl C s2 H2 fp (X.pn ++ Kp)) rfl rfl rfl hc i _ s5 τ H5 NoX I5p (fpB fr5 (Dfp _)) st5 go) fun r s6 ⟨u, hr, h6⟩ => ?_
      subst hr
      refine thn h6 fun _ s7 ⟨x, H7, I7, r7, y7, st7, fr7⟩ => ?_
      have I7p := I7.pinned (fpB fr7 (Dfp _)) (T.obj _ _ st7)
      refine thn (bG _ s7 τ H7 x u _ I7p r7 (step x H7 y7)) fun _ s8 ⟨τ8, H8, I8, q8⟩ => ?_
      have back : ∀ {τ9 : St} {H9 : Hp} {s9 : Shared}, Inv (blk X N' sc cl C s2 H2 fp (X.pn ++ Kp)) ([(D, { cls := .type "list", data := .seq us.toArray k })] ++ aas fp s7.heap) τ9 H9 s9 ->
          tn (i + 1) s9.heap /\ (∀ b ∈ fp, H9 b = none) /\ s9.heap.get? D = some { cls := .type "list", data := .seq us.toArray k } /\ H9 D = none := fun {τ9 H9 s9} I9 => by
        have pD := I9.pin (D, { cls := .type "list", data := .seq us.toArray k }) (List.mem_append_right _ (List.mem_append_left _ (List.mem_singleton.mpr rfl)))
        refine ⟨T.keep _ _ _ st7 fun b hb o e => (I9.pin (b, o) (List.mem_append_right _ (List.mem_append_right _ (zy hb e)))).1, fun b hb => ?_, pD.1, pD.2.1⟩
        obtain ⟨o, e, _⟩ := T.obj _ _ st7 b hb
        exact (I9.pin (b, o) (List.mem_append_right _ (List.mem_append_right _ (zy hb e)))).2.1
      have drop : ∀ {τ9 : St} {H9 : Hp} {s9 : Shared} {pl : List (Addr × Obj)}, Inv (blk X N' sc cl C s2 H2 fp (X.pn ++ Kp)) pl τ9 H9 s9 -> Inv (blk X N' sc cl C s2 H2 fp (X.pn ++ Kp)) [] τ9 H9 s9 := fun I9 => I9.pins_of fun p hp => nomatch hp
      refine thn (bT _ s8 τ8 H8 _ I8 q8) fun b s9 ⟨H9, I9, q9⟩ => ?_
      cases b with
      | false =>
        rw [if_neg Bool.false_ne_true] at q9 ⊢
        obtain ⟨m', hm, w9⟩ := q9
        obtain ⟨t9, f9, o9, d9⟩ := back I9
        exact ⟨m', hm, i + 1, τ8, ys, us, k, H9, drop I9, t9, f9, rv5, o9, d9, w9⟩
      | true =>
        rw [if_pos rfl] at q9 ⊢
        refine thn (bE _ s9 τ8 H9 _ I9 q9) fun y s10 ⟨z, H10, I10, r10, q10⟩ => ?_
        obtain ⟨m', hm, w10⟩ := q10
        obtain ⟨t10, f10, o10, d10⟩ := back I10
        have hl := rv5.length
        refine append_at (hsz := by show us.toArray.size <= sizeLine; rw [List.size_toArray, ← hl]; exact Nat.le_of_lt hsz) o10 fun h11 hs11 hD11 => ?_
        have I11 : Inv (blk X N' sc cl C s2 H2 fp (X.pn ++ Kp)) [] τ8 H10 { s10 with heap := h11, toks := s10.toks } := (drop I10).turned (it := D) (fun b o hb e => hs11.extBut b o hb e) d10 hDC (.inr hDge) (fun x c e => Nat.ne_of_lt (cellsLt x c (clm x c e)))
          (fun p hp => by have hp' : p ∈ X.pn ++ Kp := by simpa [blk] using hp
                          exact Nat.ne_of_lt (pinLt p hp'))
        refine ⟨m', hm, i + 1, τ8, ys ++ [z], us ++ [y], k + 1, H10, I11, T.keep _ _ _ t10 (fun b hb o e => hs11.extBut b o (Nat.ne_of_lt (fpLt b hb)) e), f10, rv5.append (.cons r10 .nil), ?_, d10, w10⟩
        rw [hD11]
        simp
  refine codeAny_compStart_list loop ?_
  exact T.self _ 0 _ _ _ (T.keep _ _ _ st2 (fun b _ o e => old b o e)) loop
theorem jt.tup {K:Fg}{H H':Hp}{a:Addr}{xs:List V} (e:jt H H') (h:SqT K H a xs):SqT K H' a xs:=by
 rcases h with (h | ⟨o,h⟩) | h
 ·exact .inl (.inl (e _ _ h))
 ·exact .inl (.inr ⟨o,e _ _ h⟩)
 ·exact .inr h
noncomputable def scr (ns:List Int):PyData:= .dict (ns.map fun n=>(.int n,.none))
noncomputable def ae1:Key->PyData
 | .inl i=> .int i
 | .inr t=> .str t
mutual
noncomputable def Rep (K:Fg) (H:Hp):PyData->V->Prop
 | .none,v=>v= .non
 | .bool b,v=>v= .bl b
 | .int i,v=>v= .int i
 | .str x,v=>v= .str x
 | .tuple ds,v=>∃ a xs,v= .ref a/\SqT K H a xs/\Reps K H ds xs
 | .list ds,v=>∃ a xs,v= .ref a/\H a=some (.lst xs)/\Reps K H ds xs
 | .dict kvs,v=>∃ a,v= .ref a/\((∃ ns:List Int,SqL K H a (List.map V.int ns)/\kvs=ns.map (fun n=>(PyData.int n,PyData.none))) ∨ (∃ ks ob,H a=some (.frz ob (.dK ks))/\RepD K H kvs ks) ∨ (∃ x:Str,kvs=[(.str x,.none)]/\PySem.W.nsIn K mainGlobals x=some (some (.ref a))) ∨ (∃ (x:Str) (C:Addr) (oe:Obj),kvs=[(.str x,.bool true)]/\H a=some (.frz oe (.own a))/\PySem.W.nsIn K mainGlobals x=some (some (.ref C))/\oe.cls= .ref C/\oe.dict=none/\∃ vs,oe.data= .fields vs) ∨ kvs=[(.bool true,.int (a:Int))])
noncomputable def Reps (K:Fg) (H:Hp):LP->List V->Prop
 | [],xs=>xs=[]
 | d::ds,xs=>∃ x r,xs=x::r/\Rep K H d x/\Reps K H ds r
noncomputable def RepD (K:Fg) (H:Hp):List (PyData × PyData)->List (Key × V)->Prop
 | [],_=>False
 | (.none,_)::r,ks=>RepM K H r ks
 | _::_,_=>False
noncomputable def RepM (K:Fg) (H:Hp):List (PyData × PyData)->List (Key × V)->Prop
 | [],ks=>ks=[]
 | (k,d)::r,ks=>∃ i x s,k=ae1 i/\ks=(i,x)::s/\Rep K H d x/\RepM K H r s
end
noncomputable def zw (kvs:List (PyData × PyData)):Bool:=kvs.all fun p=>match p with
 | (.int _,.none)=>true
 | _=>false
theorem ada (ns:List Int):zw (ns.map fun n=>(PyData.int n,PyData.none))=true:=by
 simp [zw]
theorem RepD.out {K:Fg}{H:Hp}:∀ {kvs:List (PyData × PyData)}{ks:List (Key × V)},RepD K H kvs ks->∃ c r,kvs=(.none,c)::r/\RepM K H r ks
 | [],_,h=>h.elim
 | (.none,c)::r,ks,h=>⟨c,r,rfl,h⟩
 | (.bool _,_)::_,_,h=>h.elim
 | (.int _,_)::_,_,h=>h.elim
 | (.str _,_)::_,_,h=>h.elim
 | (.list _,_)::_,_,h=>h.elim
 | (.tuple _,_)::_,_,h=>h.elim
 | (.dict _,_)::_,_,h=>h.elim
theorem Rep.scrOut {K:Fg}{H:Hp}{kvs:List (PyData × PyData)}{v:V} (h:Rep K H (.dict kvs) v) (hs:zw kvs=true):∃ a ns,v= .ref a/\SqL K H a (List.map V.int ns)/\kvs=ns.map (fun n=>(PyData.int n,PyData.none)):=by
 obtain ⟨a,h1,h2 | ⟨ks,ob,h2,h3⟩ | ⟨x,h2,_⟩ | ⟨x,_,_,h2,_⟩ | h2⟩:=h
 ·obtain ⟨ns,q1,q2⟩:=h2; exact ⟨a,ns,h1,q1,q2⟩
 ·obtain ⟨c,r,rfl,_⟩:=h3.out
  simp [zw] at hs
 ·subst h2; simp [zw] at hs
 ·subst h2; simp [zw] at hs
 ·subst h2; simp [zw] at hs
noncomputable def arn (a:Addr):PyData:= .dict [(.bool true,.int (a:Int))]
noncomputable def aro (x:Str):PyData:= .dict [(.str x,.bool true)]
noncomputable def fnD (x:Str):PyData:= .dict [(.str x,.none)]
noncomputable def jW (H H':Hp):Prop:=∀ b o,H b=some o->(∀ φ,o ≠ .ext φ)->H' b=some o
theorem jt.e {H H':Hp} (s:jt H H'):jW H H':=fun b o h _=>s b o h
theorem jW.refl (H:Hp):jW H H:=fun _ _ h _=>h
theorem jW.trans {H H1 H2:Hp} (a:jW H H1) (b:jW H1 H2):jW H H2:=fun c o h n=>b c o (a c o h n) n
theorem jW.tup {K:Fg}{H H':Hp}{a:Addr}{xs:List V} (e:jW H H') (h:SqT K H a xs):SqT K H' a xs:=by
 rcases h with (h | ⟨o,h⟩) | h
 ·exact .inl (.inl (e _ _ h fun _ z=>nomatch z))
 ·exact .inl (.inr ⟨o,e _ _ h fun _ z=>nomatch z⟩)
 ·exact .inr h
theorem jW.sql {K:Fg}{H H':Hp}{a:Addr}{xs:List V} (e:jW H H') (h:SqL K H a xs):SqL K H' a xs:=by
 rcases h with (h | ⟨o,h⟩) | h
 ·exact .inl (.inl (e _ _ h fun _ z=>nomatch z))
 ·exact .inl (.inr ⟨o,e _ _ h fun _ z=>nomatch z⟩)
 ·exact .inr h
section
variable {K:Fg}{H H':Hp}
mutual
theorem Rep.mono (e:jt H H'):∀ (d:PyData) (v:V),Rep K H d v->Rep K H' d v
 | .none,v,h=>h
 | .bool _,v,h=>h
 | .int _,v,h=>h
 | .str _,v,h=>h
 | .tuple ds,v,⟨a,xs,h1,h2,h3⟩=>⟨a,xs,h1,jt.tup e h2,Reps.mono e ds xs h3⟩
 | .list ds,v,⟨a,xs,h1,h2,h3⟩=>⟨a,xs,h1,e _ _ h2,Reps.mono e ds xs h3⟩
 | .dict kvs,v,⟨a,h1,h2⟩=>⟨a,h1,h2.imp (fun ⟨ns,q1,q2⟩=>⟨ns,e.seq q1,q2⟩) fun z=>z.imp (fun ⟨ks,ob,q1,q2⟩=>⟨ks,ob,e _ _ q1,RepD.mono e kvs ks q2⟩) fun y=>y.imp id fun z=>z.imp (fun ⟨x,C,oe,q1,q2,q3⟩=>⟨x,C,oe,q1,e _ _ q2,q3⟩) id⟩
theorem Reps.mono (e:jt H H'):∀ (ds:LP) (xs:List V),Reps K H ds xs->Reps K H' ds xs
 | [],xs,h=>h
 | d::ds,xs,⟨x,r,h1,h2,h3⟩=>⟨x,r,h1,Rep.mono e d x h2,Reps.mono e ds r h3⟩
theorem RepD.mono (e:jt H H'):∀ (kvs:List (PyData × PyData)) (ks:List (Key × V)),RepD K H kvs ks->RepD K H' kvs ks
 | [],_,h=>h
 | (.none,c)::r,ks,h=>RepM.mono e r ks h
 | (.bool _,_)::_,_,h=>h
 | (.int _,_)::_,_,h=>h
 | (.str _,_)::_,_,h=>h
 | (.list _,_)::_,_,h=>h
 | (.tuple _,_)::_,_,h=>h
 | (.dict _,_)::_,_,h=>h
theorem RepM.mono (e:jt H H'):∀ (kvs:List (PyData × PyData)) (ks:List (Key × V)),RepM K H kvs ks->RepM K H' kvs ks
 | [],_,h=>h
 | (k,d)::r,ks,⟨i,x,s,h1,h2,h3,h4⟩=>⟨i,x,s,h1,h2,Rep.mono e d x h3,RepM.mono e r s h4⟩
end
mutual
theorem Rep.monoE (e:jW H H'):∀ (d:PyData) (v:V),Rep K H d v->Rep K H' d v
 | .none,v,h=>h
 | .bool _,v,h=>h
 | .int _,v,h=>h
 | .str _,v,h=>h
 | .tuple ds,v,⟨a,xs,h1,h2,h3⟩=>⟨a,xs,h1,jW.tup e h2,Reps.monoE e ds xs h3⟩
 | .list ds,v,⟨a,xs,h1,h2,h3⟩=>⟨a,xs,h1,e _ _ h2 (fun _ z=>nomatch z),Reps.monoE e ds xs h3⟩
 | .dict kvs,v,⟨a,h1,h2⟩=>⟨a,h1,h2.imp (fun ⟨ns,q1,q2⟩=>⟨ns,jW.sql e q1,q2⟩) fun z=>z.imp (fun ⟨ks,ob,q1,q2⟩=>⟨ks,ob,e _ _ q1 (fun _ z=>nomatch z),RepD.monoE e kvs ks q2⟩) fun y=>y.imp id fun z=>z.imp (fun ⟨x,C,oe,q1,q2,q3⟩=>⟨x,C,oe,q1,e _ _ q2 (fun _ z=>nomatch z),q3⟩) id⟩
theorem Reps.monoE (e:jW H H'):∀ (ds:LP) (xs:List V),Reps K H ds xs->Reps K H' ds xs
 | [],xs,h=>h
 | d::ds,xs,⟨x,r,h1,h2,h3⟩=>⟨x,r,h1,Rep.monoE e d x h2,Reps.monoE e ds r h3⟩
theorem RepD.monoE (e:jW H H'):∀ (kvs:List (PyData × PyData)) (ks:List (Key × V)),RepD K H kvs ks->RepD K H' kvs ks
 | [],_,h=>h
 | (.none,c)::r,ks,h=>RepM.monoE e r ks h
 | (.bool _,_)::_,_,h=>h
 | (.int _,_)::_,_,h=>h
 | (.str _,_)::_,_,h=>h
 | (.list _,_)::_,_,h=>h
 | (.tuple _,_)::_,_,h=>h
 | (.dict _,_)::_,_,h=>h
theorem RepM.monoE (e:jW H H'):∀ (kvs:List (PyData × PyData)) (ks:List (Key × V)),RepM K H kvs ks->RepM K H' kvs ks
 | [],_,h=>h
 | (k,d)::r,ks,⟨i,x,s,h1,h2,h3,h4⟩=>⟨i,x,s,h1,h2,Rep.monoE e d x h3,RepM.monoE e r s h4⟩
end
end
noncomputable def aqp:HO->Bool
 | .lst _=>true
 | .tup _=>true
 | .frz _ _=>true
 | _=>false
noncomputable def j9 (H H':Hp):Prop:=∀ b o,H b=some o->aqp o=true->H' b=some o
section
variable {K:Fg}{H H':Hp}
theorem j9.tup {a:Addr}{xs:List V} (e:j9 H H') (h:SqT K H a xs):SqT K H' a xs:=by
 rcases h with (h | ⟨o,h⟩) | h
 ·exact .inl (.inl (e _ _ h rfl))
 ·exact .inl (.inr ⟨o,e _ _ h rfl⟩)
 ·exact .inr h
theorem j9.sql {a:Addr}{xs:List V} (e:j9 H H') (h:SqL K H a xs):SqL K H' a xs:=by
 rcases h with (h | ⟨o,h⟩) | h
 ·exact .inl (.inl (e _ _ h rfl))
 ·exact .inl (.inr ⟨o,e _ _ h rfl⟩)
 ·exact .inr h
mutual
theorem Rep.monoA (e:j9 H H'):∀ (d:PyData) (v:V),Rep K H d v->Rep K H' d v
 | .none,v,h=>h
 | .bool _,v,h=>h
 | .int _,v,h=>h
 | .str _,v,h=>h
 | .tuple ds,v,⟨a,xs,h1,h2,h3⟩=>⟨a,xs,h1,j9.tup e h2,Reps.monoA e ds xs h3⟩
 | .list ds,v,⟨a,xs,h1,h2,h3⟩=>⟨a,xs,h1,e _ _ h2 rfl,Reps.monoA e ds xs h3⟩
 | .dict kvs,v,⟨a,h1,h2⟩=>⟨a,h1,h2.imp (fun ⟨ns,q1,q2⟩=>⟨ns,j9.sql e q1,q2⟩) fun z=>z.imp (fun ⟨ks,ob,q1,q2⟩=>⟨ks,ob,e _ _ q1 rfl,RepD.monoA e kvs ks q2⟩) fun y=>y.imp id fun z=>z.imp (fun ⟨x,C,oe,q1,q2,q3⟩=>⟨x,C,oe,q1,e _ _ q2 rfl,q3⟩) id⟩
theorem Reps.monoA (e:j9 H H'):∀ (ds:LP) (xs:List V),Reps K H ds xs->Reps K H' ds xs
 | [],xs,h=>h
 | d::ds,xs,⟨x,r,h1,h2,h3⟩=>⟨x,r,h1,Rep.monoA e d x h2,Reps.monoA e ds r h3⟩
theorem RepD.monoA (e:j9 H H'):∀ (kvs:List (PyData × PyData)) (ks:List (Key × V)),RepD K H kvs ks->RepD K H' kvs ks
 | [],_,h=>h
 | (.none,c)::r,ks,h=>RepM.monoA e r ks h
 | (.bool _,_)::_,_,h=>h
 | (.int _,_)::_,_,h=>h
 | (.str _,_)::_,_,h=>h
 | (.list _,_)::_,_,h=>h
 | (.tuple _,_)::_,_,h=>h
 | (.dict _,_)::_,_,h=>h
theorem RepM.monoA (e:j9 H H'):∀ (kvs:List (PyData × PyData)) (ks:List (Key × V)),RepM K H kvs ks->RepM K H' kvs ks
 | [],_,h=>h
 | (k,d)::r,ks,⟨i,x,s,h1,h2,h3,h4⟩=>⟨i,x,s,h1,h2,Rep.monoA e d x h3,RepM.monoA e r s h4⟩
end
end
theorem jt.a {H H':Hp} (s:jt H H'):j9 H H':=fun b o h _=>s b o h
theorem jW.a {H H':Hp} (s:jW H H'):j9 H H':=fun b o h q=>s b o h fun φ z=>by subst z; cases q
theorem j9.refl (H:Hp):j9 H H:=fun _ _ h _=>h
theorem j9.trans {H H1 H2:Hp} (a:j9 H H1) (b:j9 H1 H2):j9 H H2:=fun c o h n=>b c o (a c o h n) n
section
variable {K:Fg}{H H':Hp}
theorem Rep.cel (a:Addr):Rep K H (arn a) (.ref a):=⟨a,rfl,.inr (.inr (.inr (.inr rfl)))⟩
theorem Reps.length:∀ {ds:LP}{xs:List V},Reps K H ds xs->xs.length=ds.length
 | [],xs,h=>by cases h; rfl
 | d::ds,xs,⟨x,r,h1,h2,h3⟩=>by subst h1; simp [Reps.length h3]
theorem Reps.get:∀ {ds:LP}{xs:List V}{i:Nat}{d:PyData},Reps K H ds xs->ds[i]?=some d->∃ x,xs[i]?=some x/\Rep K H d x
 | [],xs,i,d,h,e=>by simp at e
 | c::ds,xs,0,d,⟨x,r,h1,h2,h3⟩,e=>by subst h1; simp at e; subst e; exact ⟨x,rfl,h2⟩
 | c::ds,xs,i+1,d,⟨x,r,h1,h2,h3⟩,e=>by
  subst h1
  obtain ⟨y,e1,e2⟩:=Reps.get (i:=i) h3 (by simpa using e)
  exact ⟨y,by simpa using e1,e2⟩
theorem Reps.append:∀ {ds es:LP}{xs ys:List V},Reps K H ds xs->Reps K H es ys->Reps K H (ds++es) (xs++ys)
 | [],es,xs,ys,h,g=>by cases h; exact g
 | d::ds,es,xs,ys,⟨x,r,h1,h2,h3⟩,g=>by subst h1; exact ⟨x,r++ys,rfl,h2,Reps.append h3 g⟩
theorem Reps.take:∀ {ds:LP}{xs:List V} (n:Nat),Reps K H ds xs->Reps K H (ds.take n) (xs.take n)
 | ds,xs,0,h=>by simp; rfl
 | [],xs,n+1,h=>by cases h; rfl
 | d::ds,xs,n+1,⟨x,r,h1,h2,h3⟩=>by subst h1; exact ⟨x,_,rfl,h2,Reps.take n h3⟩
theorem Reps.drop:∀ {ds:LP}{xs:List V} (n:Nat),Reps K H ds xs->Reps K H (ds.drop n) (xs.drop n)
 | ds,xs,0,h=>by simpa using h
 | [],xs,n+1,h=>by cases h; rfl
 | d::ds,xs,n+1,⟨x,r,h1,h2,h3⟩=>by subst h1; simpa using Reps.drop n h3
theorem Reps.ints:∀ {ns:List Int}{xs:List V},Reps K H (ns.map PyData.int) xs->xs=ns.map V.int
 | [],xs,h=>h
 | n::ns,xs,⟨x,r,h1,h2,h3⟩=>by subst h1; cases (show x=V.int n from h2); rw [Reps.ints h3]; rfl
end
section
variable {X:Cx}{Kp:List (Addr × Obj)}{σ:St}{H:Hp}{s:Shared}
mutual
theorem qH (I:Inv X Kp σ H s):∀ (d:PyData) (v:V) (u:Value),Rep X.K H d v->jK v u->d.canLay0=true->∃ as,Reads s.heap u d as
 | .none,v,u,h,r,_=>by cases h; cases r; exact ⟨_,.none⟩
 | .bool b,v,u,h,r,_=>by cases h; cases r; exact ⟨_,.bool b⟩
 | .int i,v,u,h,r,_=>by cases h; obtain ⟨t,rfl⟩:=r; exact ⟨_,.int i t⟩
 | .str x,v,u,h,r,_=>by cases h; obtain ⟨t,rfl⟩:=r; exact ⟨_,.str x t⟩
 | .tuple ds,v,u,⟨a,xs,h1,h2,h3⟩,r,hc=>by
  subst h1; cases r
  obtain ⟨its,rv,⟨o,e1,e2,n,e3⟩,_⟩:=I.tuple h2
  obtain ⟨as,ra⟩:=readsAll_of I ds xs its h3 rv (by simpa [PyData.canLay0] using hc)
  exact ⟨as,.tuple e1 e2 e3 (by simpa using ra)⟩
 | .list ds,v,u,⟨a,xs,h1,h2,h3⟩,r,hc=>by
  subst h1; cases r
  obtain ⟨its,rv,⟨o,n,e1,e2,e3,e4⟩,_⟩:=I.list (SqL.of h2)
  obtain ⟨as,ra⟩:=readsAll_of I ds xs its h3 rv (by simpa [PyData.canLay0] using hc)
  exact ⟨a::as,.list e1 e2 e4 (by simpa using ra)⟩
 | .dict kvs,v,u,h,r,hc=>by simp [PyData.canLay0] at hc
theorem readsAll_of (I:Inv X Kp σ H s):∀ (ds:LP) (xs:List V) (us:List Value),Reps X.K H ds xs->jG xs us->PyData.canLayAll0 ds=true->∃ as,ReadsAll s.heap us ds as
 | [],xs,us,h,r,_=>by cases h; cases r; exact ⟨_,.nil⟩
 | d::ds,xs,us,⟨x,q,h1,h2,h3⟩,r,hc=>by
  subst h1
  cases r with
  | cons r1 r2=>
   have hc':d.canLay0=true/\PyData.canLayAll0 ds=true:=by simpa [PyData.canLayAll0] using hc
   obtain ⟨as,ra⟩:=qH I d x _ h2 r1 hc'.1
   obtain ⟨bs,rb⟩:=readsAll_of I ds q _ h3 r2 hc'.2
   exact ⟨_,.cons ra rb⟩
end
end
noncomputable abbrev Rho:=List (OP)
abbrev RP:=Rho->OP
structure EnvR (K:Fg) (H:Hp) (ρ:Rho) (σ:St):Prop where
 len:ρ.length=σ.length
 at':∀ (i:Nat) (d:PyData),ρ[i]?=some (some d)->∃ v,σ[i]?=some (some v)/\Rep K H d v
theorem EnvR.mono {K:Fg}{H H':Hp}{ρ:Rho}{σ:St} (e:EnvR K H ρ σ) (h:jt H H'):EnvR K H' ρ σ:=
 ⟨e.len,fun i d q=>let ⟨v,e1,e2⟩:=e.at' i d q; ⟨v,e1,Rep.mono h d v e2⟩⟩
theorem EnvR.set {K:Fg}{H:Hp}{ρ:Rho}{σ:St} (e:EnvR K H ρ σ) {i:Nat}{d:PyData}{v:V} (r:Rep K H d v):EnvR K H (ρ.set i (some d)) (σ.set i (some v)):=by
 refine ⟨by simp [e.len],fun j c q=>?_⟩
 by_cases hj:i=j
 ·subst hj
  rw [List.getElem?_set] at q ⊢
  simp only [zzM] at q ⊢
  by_cases hl:i < ρ.length
  ·rw [if_pos hl] at q
   rw [if_pos (by rw [←e.len]; exact hl)]
   cases q
   exact ⟨v,rfl,r⟩
  ·rw [if_neg hl] at q; cases q
 ·rw [List.getElem?_set_ne hj] at q ⊢
  exact e.at' j c q
noncomputable def lkp (i:Nat) (ρ:Rho):OP:=(ρ[i]?).join
theorem zd {i:Nat}{ρ:Rho}{d:PyData} (h:lkp i ρ=some d):ρ[i]?=some (some d):=by
 unfold lkp at h
 cases e:ρ[i]? with
 | none=>rw [e] at h; cases h
 | some o=>rw [e] at h; cases o with
  | none=>cases h
  | some c=>cases h; rfl
noncomputable def tD (K:Fg) (f:RP):TE:=fun σ H Q=>∃ ρ d,EnvR K H ρ σ/\f ρ=some d/\∀ v H',jt H H'->Rep K H' d v->Q v H'
@[irreducible] noncomputable def PD (X:Cx) (e:Expr) (f:RP):Prop:=PE X e (tD X.K f)
noncomputable def tDT (K:Fg) (f:Rho->Option Bool):TT:=fun σ H Q=>∃ ρ b,EnvR K H ρ σ/\f ρ=some b/\∀ H',jt H H'->Q b H'
@[irreducible] noncomputable def PTD (X:Cx) (e:Expr) (f:Rho->Option Bool):Prop:=PT X e (tDT X.K f)
noncomputable def tDA (K:Fg) (f:Rho->Option (LP)):TA:=fun σ H Q=>∃ ρ ds,EnvR K H ρ σ/\f ρ=some ds/\∀ vs H',jt H H'->Reps K H' ds vs->Q vs H'
@[irreducible] noncomputable def PAD (X:Cx) (es:List Expr) (f:Rho->Option (LP)):Prop:=PA X es (tDA X.K f)
inductive Out where
 | nx (ρ:Rho) | rt (d:PyData) | bk (ρ:Rho) | ct (ρ:Rho)
abbrev RO:=Rho->Option Out
noncomputable def ahx (K:Fg) (D:Ends) (H:Hp):Out->Prop
 | .nx ρ=>∀ σ H',jt H H'->EnvR K H' ρ σ->D.nx σ H'
 | .rt d=>∀ v H',jt H H'->Rep K H' d v->D.rt v H'
 | .bk ρ=>∀ σ H',jt H H'->EnvR K H' ρ σ->D.bk σ H'
 | .ct ρ=>∀ σ H',jt H H'->EnvR K H' ρ σ->D.ct σ H'
theorem ahx.mono {K:Fg}{D:Ends}{H H':Hp}{o:Out} (h:ahx K D H o) (e:jt H H'):ahx K D H' o:=by
 cases o with
 | nx ρ=>exact fun σ H2 e2 r=>h σ H2 (e.trans e2) r
 | rt d=>exact fun v H2 e2 r=>h v H2 (e.trans e2) r
 | bk ρ=>exact fun σ H2 e2 r=>h σ H2 (e.trans e2) r
 | ct ρ=>exact fun σ H2 e2 r=>h σ H2 (e.trans e2) r
noncomputable def tDS (K:Fg) (F:RO):TS:=fun D σ H=>∃ ρ o,EnvR K H ρ σ/\F ρ=some o/\ahx K D H o
@[irreducible] noncomputable def PSD (X:Cx) (st:Stmt) (F:RO):Prop:=PS X st (tDS X.K F)
@[irreducible] noncomputable def abN (X:Cx) (st:List Stmt) (F:RO):Prop:=PSs X st (tDS X.K F)
noncomputable def tDG (K:Fg) (ga:PyData->Rho->Option Rho):TG:=fun v σ H Q=>∃ ρ d ρ',EnvR K H ρ σ/\Rep K H d v/\ga d ρ=some ρ'/\∀ σ' H',jt H H'->EnvR K H' ρ' σ'->Q σ' H'
@[irreducible] noncomputable def PGD (X:Cx) (tg:Expr) (ga:PyData->Rho->Option Rho):Prop:=PG X tg (tDG X.K ga)
section
variable {X:Cx}{e a b c:Expr}{es:List Expr}{fa fb fc:RP}{pos:Pos}
theorem PE.imp {t t':TE} (h:PE X e t) (hi:∀ σ H Q,t' σ H Q->t σ H Q):PE X e t':=fun Kp s σ H Q I q=>h Kp s σ H Q I (hi σ H Q q)
theorem PT.imp {t t':TT} (h:PT X e t) (hi:∀ σ H Q,t' σ H Q->t σ H Q):PT X e t':=fun Kp s σ H Q I q=>h Kp s σ H Q I (hi σ H Q q)
theorem PA.imp {t t':TA} (h:PA X es t) (hi:∀ σ H Q,t' σ H Q->t σ H Q):PA X es t':=fun pos Kp s σ H Q I q=>h pos Kp s σ H Q I (hi σ H Q q)
theorem PS.imp {st:Stmt}{t t':TS} (h:PS X st t) (hi:∀ D σ H,t' D σ H->t D σ H):PS X st t':=fun Kp s σ H D I q=>h Kp s σ H D I (hi D σ H q)
theorem PSs.imp {st:List Stmt}{t t':TS} (h:PSs X st t) (hi:∀ D σ H,t' D σ H->t D σ H):PSs X st t':=fun Kp s σ H D I q=>h Kp s σ H D I (hi D σ H q)
theorem PG.imp {t t':TG} (h:PG X e t) (hi:∀ v σ H Q,t' v σ H Q->t v σ H Q):PG X e t':=fun Kp s σ H v u Q I r q=>h Kp s σ H v u Q I r (hi v σ H Q q)
theorem jb (i:Nat) {x:Str}{pos:Pos} (hN:X.N[i]?=some x:=by rfl) (hv:Vis X.env.scope x:=by first | exact Or.inl rfl | exact Or.inr (Or.inl rfl) | exact Or.inr (Or.inr rfl)) (hd:(x == ("__debug__":Str))=false:=by decide)
  (hcd:(x == ("__classdict__":Str))=false:=by decide):PD X (.Name x pos) (lkp i):=by
 with_unfolding_all exact (PE.imp (abA hN hv hd hcd) fun σ H Q ⟨ρ,d,e,h,k⟩=>let ⟨v,e1,e2⟩:=e.at' i d (zd h); ⟨v,e1,k v H (jt.refl H) e2⟩)
noncomputable def cst (d:PyData) (_:Rho):OP:=some d
theorem ji {i j pos}:PD X (.Constant (.int i) j pos) (cst (.int i)):=by
 with_unfolding_all exact (PE.imp aoh fun σ H Q ⟨ρ,d,e,h,k⟩=>by cases h; exact k _ H (jt.refl H) rfl)
theorem zo {i j pos}:PD X (.Constant (.bool i) j pos) (cst (.bool i)):=by
 with_unfolding_all exact (PE.imp apU fun σ H Q ⟨ρ,d,e,h,k⟩=>by cases h; exact k _ H (jt.refl H) rfl)
theorem aaw {j pos}:PD X (.Constant .none j pos) (cst .none):=by
 with_unfolding_all exact (PE.imp aoi fun σ H Q ⟨ρ,d,e,h,k⟩=>by cases h; exact k _ H (jt.refl H) rfl)
theorem akd {i j pos}:PD X (.Constant (.str i) j pos) (cst (.str i)):=by
 with_unfolding_all exact (PE.imp aoj fun σ H Q ⟨ρ,d,e,h,k⟩=>by cases h; exact k _ H (jt.refl H) rfl)
theorem amI {x:Str}{v:V}{u:Value}{d:PyData} (hg:Gl X x) (hm:X.mg x=some u) (r:jK v u) (hr:∀ H,Rep X.K H d v) (hd:(x == ("__debug__":Str))=false:=by decide):PD X (.Name x pos) (cst d):=by
 with_unfolding_all exact (PE.imp (amj hg hm r hd) fun σ H Q ⟨ρ,d',e,h,k⟩=>by cases h; exact k _ H (jt.refl H) (hr H))
noncomputable def op2 (g:PyData->PyData->OP) (fa fb:RP):RP:=fun ρ=>(fa ρ).bind fun x=>(fb ρ).bind fun y=>g x y
noncomputable def OpD (X:Cx) (f:Value->Value->Sem Value) (g:PyData->PyData->OP):Prop:=
 ∃ r,OpR X f r/\∀ p q d x y H Q,g p q=some d->Rep X.K H p x->Rep X.K H q y->(∀ v H',jt H H'->Rep X.K H' d v->Q v H')->r x y H Q
theorem amJ {g:PyData->PyData->OP}{K:Fg}{r:R2} (hr:∀ p q d x y H Q,g p q=some d->Rep K H p x->Rep K H q y->(∀ v H',jt H H'->Rep K H' d v->Q v H')->r x y H Q)
  {σ:St} {H:Hp} {Q:VK} (h:tD K (op2 g fa fb) σ H Q):tOp r (tD K fa) (tD K fb) σ H Q:=by
 obtain ⟨ρ,d,e,h,k⟩:=h
 unfold op2 at h
 cases ha:fa ρ with
 | none=>rw [ha] at h; cases h
 | some p=>
  rw [ha] at h
  cases hb:fb ρ with
  | none=>rw [hb] at h; cases h
  | some q=>
   rw [hb] at h
   refine ⟨ρ,p,e,ha,fun x H1 s1 r1=>⟨ρ,q,e.mono s1,hb,fun y H2 s2 r2=>?_⟩⟩
   exact hr p q d x y H2 Q h (Rep.mono s2 p x r1) r2 fun v H' s3 r3=>k v H' (s1.trans (s2.trans s3)) r3
theorem ju {op:Operator}{g:PyData->PyData->OP} (ho:OpD X (binaryOp op) g) (ha:PD X a fa) (hb:PD X b fb):PD X (.BinOp a op b pos) (op2 g fa fb):=by
 with_unfolding_all
  obtain ⟨r,h1,h2⟩:=ho
  exact PE.imp (ap4 h1 ha hb) fun σ H Q h=>amJ h2 h
theorem Jp {op:CmpOp}{g:PyData->PyData->OP} (ho:OpD X (compareOp op) g) (ha:PD X a fa) (hb:PD X b fb) (hm:behindInMarks op b=false:=by first | exact aga _ | with_unfolding_all rfl):PD X (.Compare a [op] [b] pos) (op2 g fa fb):=by
 with_unfolding_all
  obtain ⟨r,h1,h2⟩:=ho
  exact PE.imp (amo h1 ha hb hm) fun σ H Q h=>amJ h2 h
noncomputable def asB:PyData->Option Bool
 | .bool b=>some b
 | _=>none
noncomputable def tst (f:RP):Rho->Option Bool:=fun ρ=>(f ρ).bind asB
theorem zL {d:PyData}{b:Bool} (h:asB d=some b):d= .bool b:=by
 cases d <;> simp [asB] at h
 rw [h]
theorem jL {op:CmpOp}{g:PyData->PyData->OP} (ho:OpD X (compareOp op) g) (ha:PD X a fa) (hb:PD X b fb) (hm:behindInMarks op b=false:=by first | exact aga _ | with_unfolding_all rfl):PTD X (.Compare a [op] [b] pos) (tst (op2 g fa fb)):=by
 with_unfolding_all
  obtain ⟨r,h1,h2⟩:=ho
  refine PT.imp (amp h1 ha hb hm) fun σ H Q ⟨ρ,t,e,h,k⟩=>?_
  cases hd:op2 g fa fb ρ with
  | none=>simp [tst,hd] at h
  | some d=>
   have ht:d= .bool t:=zL (by simpa [tst,hd] using h)
   subst ht
   exact amJ h2 ⟨ρ,_,e,hd,fun v H' s r=>⟨t,r,k H' s⟩⟩
theorem qA (h:PD X e fa) (he:∀ whole,isTrue e X.env whole=(do let v ←whole; standAt e.pos; holding [v] (truthy v)):=by intro _; rfl):PTD X e (tst fa):=by
 with_unfolding_all
  refine PT.imp (aol h he) fun σ H Q ⟨ρ,t,e,h,k⟩=>?_
  cases hd:fa ρ with
  | none=>simp [tst,hd] at h
  | some d=>
   have ht:d= .bool t:=zL (by simpa [tst,hd] using h)
   subst ht
   exact ⟨ρ,_,e,hd,fun v H' s r=>⟨t,r,k H' s⟩⟩
variable {ta tb:Rho->Option Bool}{qh:List Expr}
@[irreducible] noncomputable def PWD (X:Cx) (e:Expr) (f:Rho->Option Bool):Prop:=PW X e (tDT X.K f)
theorem PW.imp {t t':TT} (h:PW X e t) (hi:∀ σ H Q,t' σ H Q->t σ H Q):PW X e t':=fun wh Kp s σ H Q I q=>h wh Kp s σ H Q I (hi σ H Q q)
noncomputable def QJ (ta tb:Rho->Option Bool):Rho->Option Bool:=fun ρ=>(ta ρ).bind fun x=>if x=true then tb ρ else some false
noncomputable def orB (ta tb:Rho->Option Bool):Rho->Option Bool:=fun ρ=>(ta ρ).bind fun x=>if x=true then some true else tb ρ
noncomputable def zU (ta:Rho->Option Bool):Rho->Option Bool:=fun ρ=>(ta ρ).map (!·)
theorem ae2 (ha:PTD X a ta):PWD X (.BoolOp .And [a] pos) ta:=by
 with_unfolding_all exact (amk ha)
theorem zG (ha:PTD X a ta):PWD X (.BoolOp .Or [a] pos) ta:=by
 with_unfolding_all exact (aom ha)
theorem ahy (ha:PTD X a ta) (hb:PWD X (.BoolOp .And (b::qh) pos) tb):PWD X (.BoolOp .And (a::b::qh) pos) (QJ ta tb):=by
 with_unfolding_all
  refine PW.imp (aon ha hb) fun σ H Q ⟨ρ,t,e,h,k⟩=>?_
  cases h1:ta ρ with
  | none=>simp [QJ,h1] at h
  | some x=>
   refine ⟨ρ,x,e,h1,fun H' s=>?_⟩
   cases x with
   | true=>rw [if_pos rfl]; exact ⟨ρ,t,e.mono s,by simpa [QJ,h1] using h,fun H2 s2=>k H2 (s.trans s2)⟩
   | false=>
    rw [if_neg Bool.false_ne_true]
    have:t=false:=by simpa [QJ,h1] using h.symm
    subst this
    exact k H' s
theorem JW (ha:PTD X a ta) (hb:PWD X (.BoolOp .Or (b::qh) pos) tb):PWD X (.BoolOp .Or (a::b::qh) pos) (orB ta tb):=by
 with_unfolding_all
  refine PW.imp (apV ha hb) fun σ H Q ⟨ρ,t,e,h,k⟩=>?_
  cases h1:ta ρ with
  | none=>simp [orB,h1] at h
  | some x=>
   refine ⟨ρ,x,e,h1,fun H' s=>?_⟩
   cases x with
   | false=>rw [if_neg Bool.false_ne_true]; exact ⟨ρ,t,e.mono s,by simpa [orB,h1] using h,fun H2 s2=>k H2 (s.trans s2)⟩
   | true=>
    rw [if_pos rfl]
    have:t=true:=by simpa [orB,h1] using h.symm
    subst this
    exact k H' s
theorem qI {op:BoolOp}{l:List Expr} (h:PWD X (.BoolOp op l pos) ta):PTD X (.BoolOp op l pos) ta:=by
 with_unfolding_all exact (h.pt)
theorem qF (ha:PTD X a ta):PTD X (.UnaryOp .Not a pos) (zU ta):=by
 with_unfolding_all
  refine PT.imp (aoo ha) fun σ H Q ⟨ρ,t,e,h,k⟩=>?_
  cases h1:ta ρ with
  | none=>simp [zU,h1] at h
  | some x=>
   have:(!x)=t:=by simpa [zU,h1] using h
   subst this
   exact ⟨ρ,x,e,h1,fun H' s=>k H' s⟩
noncomputable def ifD (tc:Rho->Option Bool) (fa fb:RP):RP:=fun ρ=>(tc ρ).bind fun x=>if x=true then fa ρ else fb ρ
theorem aqq {tc:Rho->Option Bool} (hc:PTD X c tc) (ha:PD X a fa) (hb:PD X b fb):PD X (.IfExp c a b pos) (ifD tc fa fb):=by
 with_unfolding_all
  refine PE.imp (ajM hc ha hb) fun σ H Q ⟨ρ,d,e,h,k⟩=>?_
  cases h1:tc ρ with
  | none=>simp [ifD,h1] at h
  | some x=>
   refine ⟨ρ,x,e,h1,fun H' s=>?_⟩
   cases x with
   | true=>rw [if_pos rfl]; exact ⟨ρ,d,e.mono s,by simpa [ifD,h1] using h,fun v H2 s2=>k v H2 (s.trans s2)⟩
   | false=>rw [if_neg Bool.false_ne_true]; exact ⟨ρ,d,e.mono s,by simpa [ifD,h1] using h,fun v H2 s2=>k v H2 (s.trans s2)⟩
noncomputable def jJ (_:Rho):Option (LP):=some []
noncomputable def jr (fa:RP) (fr:Rho->Option (LP)):Rho->Option (LP):=fun ρ=>(fa ρ).bind fun x=>(fr ρ).map fun r=>x::r
theorem je:PAD X [] jJ:=by
 with_unfolding_all exact (PA.imp QG fun σ H Q ⟨ρ,d,e,h,k⟩=>by cases h; exact k [] H (jt.refl H) rfl)
theorem ja {fr:Rho->Option (LP)} (ha:PD X e fa) (hr:PAD X es fr) (hs:starEach (e::es) X.env=(false,eval e X.env)::starEach es X.env:=by rfl):PAD X (e::es) (jr fa fr):=by
 with_unfolding_all
  refine PA.imp (zF ha hr hs) fun σ H Q ⟨ρ,ds,en,h,k⟩=>?_
  cases h1:fa ρ with
  | none=>simp [jr,h1] at h
  | some x=>
   cases h2:fr ρ with
   | none=>simp [jr,h1,h2] at h
   | some r=>
    have:x::r=ds:=by simpa [jr,h1,h2] using h
    subst this
    exact ⟨ρ,x,en,h1,fun v H1 s1 r1=>⟨ρ,r,en.mono s1,h2,fun vs H2 s2 r2=>k _ H2 (s1.trans s2) ⟨v,vs,rfl,Rep.mono s2 x v r1,r2⟩⟩⟩
noncomputable def few (ds:LP):Bool:=decide (ds.length<1000000)
theorem abO {n:Nat} (h:n<1000000):n<=sizeLine:=Nat.le_of_lt (Nat.lt_of_lt_of_le h (by rw [sizeLine_eq]; decide))
theorem jx {H:Hp}{p:Addr}{o:HO} (hp:H p=none):jt H (upd H p o):=fun b u h=>by rw [jo (qE h hp)]; exact h
noncomputable def Qj (fr:Rho->Option (LP)):RP:=fun ρ=>(fr ρ).bind fun ds=>if few ds=true then some (.tuple ds) else none
noncomputable def JG (fr:Rho->Option (LP)):RP:=fun ρ=>(fr ρ).bind fun ds=>if few ds=true then some (.list ds) else none
theorem qY {x1}{fr:Rho->Option (LP)} (h:PAD X es fr):PD X (.Tuple es x1 pos) (Qj fr):=by
 with_unfolding_all
  refine PE.imp (ajX h) fun σ H Q ⟨ρ,d,e,h,k⟩=>?_
  cases h1:fr ρ with
  | none=>simp [Qj,h1] at h
  | some ds=>
   by_cases hf:few ds=true
   ·have:PyData.tuple ds=d:=by simpa [Qj,h1,hf] using h
    subst this
    refine ⟨ρ,ds,e,h1,fun vs H1 s1 r1=>⟨abO (by rw [r1.length]; simpa [few] using hf),fun p hp=>k _ _ (s1.trans (jx hp)) ⟨p,vs,rfl,SqT.of jq,Reps.mono (jx hp) _ _ r1⟩⟩⟩
   ·simp [Qj,h1,hf] at h
theorem zz {fr:Rho->Option (LP)} (h:PAD X es fr):PD X (.List es pos) (JG fr):=by
 with_unfolding_all
  refine PE.imp (age h) fun σ H Q ⟨ρ,d,e,h,k⟩=>?_
  cases h1:fr ρ with
  | none=>simp [JG,h1] at h
  | some ds=>
   by_cases hf:few ds=true
   ·have:PyData.list ds=d:=by simpa [JG,h1,hf] using h
    subst this
    refine ⟨ρ,ds,e,h1,fun vs H1 s1 r1=>⟨abO (by rw [r1.length]; simpa [few] using hf),fun p hp=>k _ _ (s1.trans (jx hp)) ⟨p,vs,rfl,jq,Reps.mono (jx hp) _ _ r1⟩⟩⟩
   ·simp [JG,h1,hf] at h
end
end BX
end
section
namespace BX
open PySem PySem.Spec L2
open PyProof.Rows hiding St
section
variable {X:Cx}{e a b c tg src:Expr}{es:List Expr}{st:Stmt}{sts qh:List Stmt}{fa fb fc:RP}{F G:RO}{pos:Pos}
noncomputable def qO (fa:RP):RO:=fun ρ=>(fa ρ).map Out.rt
theorem jw (h:PD X e fa):PSD X (.Return (some e) pos) (qO fa):=by
 with_unfolding_all
  refine PS.imp (af7 h) fun D σ H ⟨ρ,o,en,q,k⟩=>?_
  cases h1:fa ρ with
  | none=>simp [qO,h1] at q
  | some d=>
   have:Out.rt d=o:=by simpa [qO,h1] using q
   subst this
   exact ⟨ρ,d,en,h1,k⟩
noncomputable def ifS (tc:Rho->Option Bool) (F G:RO):RO:=fun ρ=>(tc ρ).bind fun x=>if x=true then F ρ else G ρ
theorem jY {l r:List Stmt}{tc:Rho->Option Bool} (hc:PTD X c tc) (hl:abN X l F) (hr:abN X r G):PSD X (.If c l r pos) (ifS tc F G):=by
 with_unfolding_all
  refine PS.imp (anU hc hl hr) fun D σ H ⟨ρ,o,en,q,k⟩=>?_
  cases h1:tc ρ with
  | none=>simp [ifS,h1] at q
  | some x=>
   refine ⟨ρ,x,en,h1,fun H1 s1=>?_⟩
   cases x with
   | true=>rw [if_pos rfl]; exact ⟨ρ,o,en.mono s1,by simpa [ifS,h1] using q,k.mono s1⟩
   | false=>rw [if_neg Bool.false_ne_true]; exact ⟨ρ,o,en.mono s1,by simpa [ifS,h1] using q,k.mono s1⟩
noncomputable def qG:RO:=fun ρ=>some (.nx ρ)
noncomputable def j2 (F G:RO):RO:=fun ρ=>(F ρ).bind fun o=>match o with
 | .nx ρ'=>G ρ'
 | o=>some o
theorem jf:abN X [] qG:=by
 with_unfolding_all
  refine PSs.imp ahp fun D σ H ⟨ρ,o,en,q,k⟩=>?_
  cases q
  exact k σ H (jt.refl H) en
theorem jd (h1 : PSD X st F) (h2 : abN X qh G) : abN X (st :: qh) (j2 F G) := by
  with_unfolding_all
   refine PSs.imp (QF h1 h2) fun D σ H ⟨ρ, o, en, q, k⟩ => ?_
   cases hf : F ρ with
   | none => simp [j2, hf] at q
   | some p =>
     refine ⟨ρ, p, en, hf, ?_⟩
     cases p with
     | nx ρ' => exact fun σ' H' s' r' => ⟨ρ', o, r', by simpa [j2, hf] using q, k.mono s'⟩
     | rt d => have : Out.rt d = o := by simpa [j2, hf] using q
               subst this; exact k
     | bk d => have : Out.bk d = o := by simpa [j2, hf] using q
               subst this; exact k
     | ct d => have : Out.ct d = o := by simpa [j2, hf] using q
               subst this; exact k
noncomputable def agj:RO:=fun _=>none
theorem aax:PSD X st agj:=by
 with_unfolding_all exact (PS.imp ajO fun D σ H ⟨ρ,o,en,q,k⟩=>by cases q)
theorem Qk:abN X sts agj:=by
 with_unfolding_all exact (PSs.imp aiq fun D σ H ⟨ρ,o,en,q,k⟩=>by cases q)
noncomputable def abg (fa:RP):RO:=fun ρ=>(fa ρ).map fun _=> .nx ρ
theorem qm (h:PD X e fa) (hs:swapsWith e none pos.line X.env=pure false:=by rfl):PSD X (.Expr e pos) (abg fa):=by
 with_unfolding_all
  refine PS.imp (adU h hs) fun D σ H ⟨ρ,o,en,q,k⟩=>?_
  cases h1:fa ρ with
  | none=>simp [abg,h1] at q
  | some d=>
   have:Out.nx ρ=o:=by simpa [abg,h1] using q
   subst this
   exact ⟨ρ,d,en,h1,fun v H' s r=>k σ H' s (en.mono s)⟩
noncomputable def jE (i:Nat) (d:PyData) (ρ:Rho):Option Rho:=some (ρ.set i (some d))
theorem jT (i:Nat) {x:Str} (hN:X.N.Nodup) (hi:X.N[i]?=some x:=by rfl) (hx:Loc X.env.scope x:=by first | exact Or.inl rfl | exact Or.inr rfl)
  (hf:X.fn x=true ∨ X.env.scope.names.lookup x=some .local:=by first | exact .inl rfl | exact .inr rfl | assumption):PGD X (.Name x pos) (jE i):=by
 with_unfolding_all
  refine PG.imp (ZM hN hi hx hf) fun v σ H Q ⟨ρ,d,ρ',en,r,q,k⟩=>?_
  cases q
  exact k _ H (jt.refl H) (en.set r)
@[irreducible] noncomputable def amK (X:Cx) (ts:List Expr) (ga:LP->Rho->Option Rho):Prop:=PGs X ts fun vs σ H Q=>∃ ρ ds ρ',EnvR X.K H ρ σ/\Reps X.K H ds vs/\ga ds ρ=some ρ'/\∀ σ' H',jt H H'->EnvR X.K H' ρ' σ'->Q σ' H'
noncomputable def zp (ds:LP) (ρ:Rho):Option Rho:=match ds with
 | []=>some ρ
 | _=>none
noncomputable def jM (ga:PyData->Rho->Option Rho) (gr:LP->Rho->Option Rho) (ds:LP) (ρ:Rho):Option Rho:=match ds with
 | d::r=>(ga d ρ).bind fun ρ1=>gr r ρ1
 | []=>none
theorem PGs.imp {ts:List Expr}{t t':TGs} (h:PGs X ts t) (hi:∀ v σ H Q,t' v σ H Q->t v σ H Q):PGs X ts t':=fun Kp s σ H v u Q I r q=>h Kp s σ H v u Q I r (hi v σ H Q q)
theorem ae3:amK X [] zp:=by
 with_unfolding_all
  refine PGs.imp ahq fun vs σ H Q ⟨ρ,ds,ρ',en,r,q,k⟩=>?_
  cases ds with
  | nil=>cases r; cases q; exact ⟨rfl,k σ H (jt.refl H) en⟩
  | cons d ds=>cases q
theorem J9 {ga:PyData->Rho->Option Rho}{gr:LP->Rho->Option Rho} (h1:PGD X e ga) (h2:amK X es gr)
  (hs:(assignEach (e::es) X.env).map (·.2)=assign e X.env::(assignEach es X.env).map (·.2):=by rfl):amK X (e::es) (jM ga gr):=by
 with_unfolding_all
  refine PGs.imp (aeT h1 h2 hs) fun vs σ H Q ⟨ρ,ds,ρ',en,r,q,k⟩=>?_
  cases ds with
  | nil=>cases q
  | cons d ds=>
   obtain ⟨x,rr,e1,r1,r2⟩:=r
   subst e1
   cases h3:ga d ρ with
   | none=>simp [jM,h3] at q
   | some ρ1=>
    refine ⟨x,rr,rfl,ρ,d,ρ1,en,r1,h3,fun σ1 H1 s1 e1=>⟨ρ1,ds,ρ',e1,Reps.mono s1 ds rr r2,by simpa [jM,h3] using q,fun σ2 H2 s2 e2=>k σ2 H2 (s1.trans s2) e2⟩⟩
noncomputable def Qa (n:Nat) (gr:LP->Rho->Option Rho) (d:PyData) (ρ:Rho):Option Rho:=match d with
 | .tuple ds=>if ds.length=n then gr ds ρ else none
 | _=>none
theorem ahz {k n:Nat}{gr:LP->Rho->Option Rho} (hc:X.calm=true) (h:amK X es gr) (hn:(assignEach es X.env).length=n:=by rfl) (hst:(assignEach es X.env).findIdx? (·.1)=none:=by rfl):
  PGD X (.Tuple es k pos) (Qa n gr):=by
 with_unfolding_all
  refine PG.imp (ajQ hc h hn hst) fun v σ H Q ⟨ρ,d,ρ',en,r,q,k⟩=>?_
  cases d with
  | tuple ds=>
   obtain ⟨a,xs,e1,e2,e3⟩:=r
   by_cases hl:ds.length=n
   ·exact ⟨a,xs,e1,e2,by rw [e3.length]; exact hl,ρ,ds,ρ',en,e3,by simpa [Qa,hl] using q,k⟩
   ·simp [Qa,hl] at q
  | _=>simp [Qa] at q
noncomputable def zA (fa:RP) (ga:PyData->Rho->Option Rho):RO:=fun ρ=>(fa ρ).bind fun d=>(ga d ρ).map Out.nx
theorem jy (i:Nat) {x:Str}{pos':Pos} (hN:X.N.Nodup) (he:PD X e fa) (hi:X.N[i]?=some x:=by rfl) (hx:Loc X.env.scope x:=by first | exact Or.inl rfl | exact Or.inr rfl) (hs:swapsWith e (some (.Name x pos')) pos.line X.env=pure false:=by rfl)
  (hf:X.fn x=true ∨ X.env.scope.names.lookup x=some .local:=by first | exact .inl rfl | exact .inr rfl | assumption):PSD X (.Assign [.Name x pos'] e pos) (zA fa (jE i)):=by
 with_unfolding_all
  refine PS.imp (adV hN hi hx he hs hf) fun D σ H ⟨ρ,o,en,q,k⟩=>?_
  cases h1:fa ρ with
  | none=>simp [zA,h1] at q
  | some d=>
   have:Out.nx (ρ.set i (some d))=o:=by simpa [zA,h1,jE] using q
   subst this
   exact ⟨ρ,d,en,h1,fun v H1 s1 r1=>k _ H1 s1 ((en.mono s1).set r1)⟩
noncomputable def ake (K:Fg) (J:It) (ds:LP) (H0:Hp):Prop:=∀ i H,j9 H0 H->(i<ds.length->J.go i H)/\(ds.length<=i->J.stop i H)/\∀ x H',J.yld i H x H'->jt H H'/\∀ d,ds[i]?=some d->Rep K H' d x
noncomputable def tDI (K:Fg) (fi:Rho->Option (LP)):TI:=fun σ H R=>∃ ρ ds,EnvR K H ρ σ/\fi ρ=some ds/\∀ J H',jt H H'->ake K J ds H'->R J H'
@[irreducible] noncomputable def PID (X:Cx) (tg src:Expr) (fi:Rho->Option (LP)):Prop:=PI X tg src (tDI X.K fi)
theorem PI.imp {t t':TI} (h:PI X tg src t) (hi:∀ σ H R,t' σ H R->t σ H R):PI X tg src t':=fun Kp s σ H R I q=>h Kp s σ H R I (hi σ H R q)
noncomputable def aay:PyData->Option (LP)
 | .list ds=>some ds
 | _=>none
noncomputable def aaz:PyData->Option (LP)
 | .tuple ds=>some ds
 | _=>none
noncomputable def itL (fa:RP):Rho->Option (LP):=fun ρ=>(fa ρ).bind aay
noncomputable def itT (fa:RP):Rho->Option (LP):=fun ρ=>(fa ρ).bind aaz
theorem abP (h:PD X e fa):PID X tg e (itL fa):=by
 with_unfolding_all
  refine PI.imp (aml h) fun σ H R ⟨ρ,ds,en,q,k⟩=>?_
  cases h1:fa ρ with
  | none=>simp [itL,h1] at q
  | some d=>
   cases d with
   | list es=>
    have:es=ds:=by simpa [itL,h1,aay] using q
    subst this
    refine ⟨ρ,_,en,h1,fun v H1 s1 r1=>?_⟩
    obtain ⟨a,xs,e1,e2,e3⟩:=r1
    refine ⟨a,e1,⟨xs,SqL.of e2⟩,k _ H1 s1 fun i H2 s2=>⟨fun hi=>?_,fun hi=>?_,fun x H' y=>?_⟩⟩
    ·exact ⟨xs,xs[i]'(by rw [e3.length]; exact hi),SqL.of (s2 _ _ e2 rfl),by simp [e3.length,hi]⟩
    ·exact ⟨xs,SqL.of (s2 _ _ e2 rfl),by rw [e3.length]; exact hi⟩
    ·obtain ⟨z1,z2⟩:=y
     subst z1
     refine ⟨jt.refl _,fun d hd=>?_⟩
     obtain ⟨y,e4,e5⟩:=(Reps.monoA s2 _ _ e3).get hd
     have:=z2 xs (SqL.of (s2 _ _ e2 rfl))
     rw [e4] at this; cases this
     exact e5
   | _=>simp [itL,h1,aay] at q
theorem ad2 (h:PD X e fa):PID X tg e (itT fa):=by
 with_unfolding_all
  refine PI.imp (aov h) fun σ H R ⟨ρ,ds,en,q,k⟩=>?_
  cases h1:fa ρ with
  | none=>simp [itT,h1] at q
  | some d=>
   cases d with
   | tuple es=>
    have:es=ds:=by simpa [itT,h1,aaz] using q
    subst this
    refine ⟨ρ,_,en,h1,fun v H1 s1 r1=>?_⟩
    obtain ⟨a,xs,e1,e2,e3⟩:=r1
    refine ⟨a,e1,⟨xs,e2⟩,k _ H1 s1 fun i H2 s2=>⟨fun hi=>?_,fun hi=>?_,fun x H' y=>?_⟩⟩
    ·exact ⟨xs,xs[i]'(by rw [e3.length]; exact hi),j9.tup s2 e2,by simp [e3.length,hi]⟩
    ·exact ⟨xs,j9.tup s2 e2,by rw [e3.length]; exact hi⟩
    ·obtain ⟨z1,z2⟩:=y
     subst z1
     refine ⟨jt.refl _,fun d hd=>?_⟩
     obtain ⟨y,e4,e5⟩:=(Reps.monoA s2 _ _ e3).get hd
     have:=z2 xs (j9.tup s2 e2)
     rw [e4] at this; cases this
     exact e5
   | _=>simp [itT,h1,aaz] at q
noncomputable def Ql (lo:Int) (n:Nat):LP:=(List.range n).map fun (k:Nat)=>PyData.int (lo+(k:Int))
noncomputable def acK (ds:LP):Option (LP):=match ds with
 | [.int j]=>if -(2 ^ 62)<=j/\j<2 ^ 62 then some (Ql 0 j.toNat) else none
 | _=>none
theorem ad3 {K:Fg}{H:Hp} (lo:Int) (n:Nat):ake K (Itr lo n) (Ql lo n) H:=fun i H2 s2=>by
 have hl:(Ql lo n).length=n:=by simp [Ql]
 refine ⟨fun hi=>by rw [hl] at hi; exact hi,fun hi=>by rw [hl] at hi; exact hi,fun x H' y=>?_⟩
 obtain ⟨z1,z2⟩:=y
 subst z1
 refine ⟨jt.refl _,fun d hd=>?_⟩
 have hi:i<n:=by
  have:=(List.getElem?_eq_some_iff.mp hd).1
  rw [hl] at this; exact this
 have:d= .int (lo+i):=by
  simp [Ql,hi] at hd
  exact hd.symm
 subst this
 exact z2
theorem Qm {p pos:Pos}{fr:Rho->Option (LP)} (hg:Gl X "range") (hm:X.mg "range"=none) (ha:PAD X [a] fr) (hs:starEach [a] X.env=[(false,eval a X.env)]:=by rfl):PID X tg (.Call (.Name "range" p) [a] [] pos) (fun ρ=>(fr ρ).bind acK):=by
 with_unfolding_all
  refine PI.imp (aar hg hm ha hs) fun σ H R ⟨ρ,ds,en,q,k⟩=>?_
  cases h1:fr ρ with
  | none=>simp [h1] at q
  | some as=>
   have q':acK as=some ds:=by simpa [h1] using q
   refine ⟨ρ,as,en,h1,fun vs H1 s1 r1=>?_⟩
   unfold acK at q'
   split at q'
   ·rename_i j
    split at q'
    ·rename_i hj
     cases q'
     obtain ⟨x,r,e1,e2,e3⟩:=r1
     cases (show x=V.int j from e2)
     cases (show r=[] from e3)
     exact ⟨j,e1,hj.1,hj.2,k _ H1 s1 (ad3 0 j.toNat)⟩
    ·cases q'
   ·cases q'
noncomputable def jF (ga:PyData->Rho->Option Rho) (F:RO):LP->RO
 | [],ρ=>some (.nx ρ)
 | d::r,ρ=>(ga d ρ).bind fun ρ1=>(F ρ1).bind fun o=>match o with
  | .nx ρ2=>jF ga F r ρ2
  | .ct ρ2=>jF ga F r ρ2
  | .bk ρ2=>some (.nx ρ2)
  | .rt d=>some (.rt d)
noncomputable def JX (fi:Rho->Option (LP)) (ga:PyData->Rho->Option Rho) (F:RO):RO:=fun ρ=>(fi ρ).bind fun ds=>jF ga F ds ρ
theorem JK {body:List Stmt}{fi:Rho->Option (LP)}{ga:PyData->Rho->Option Rho} (hp:PassesOwn (model X.prog X.w) X.A X.env X.xe) (hc:X.calm=true) (hi:PID X tg src fi) (hg:PGD X tg ga) (hb:abN X body F)
  (hs:∀ x,foldedSetIterable src X.env x=pure x:=by intro _; rfl):PSD X (.For tg src body [] pos) (JX fi ga F):=by
 with_unfolding_all
  refine PS.imp (adW hp hc hi hg hb hs) fun D σ H ⟨ρ,o,en,q,k⟩=>?_
  cases h1:fi ρ with
  | none=>simp [JX,h1] at q
  | some ds=>
   have q':jF ga F ds ρ=some o:=by simpa [JX,h1] using q
   refine ⟨ρ,ds,en,h1,fun J H1 s1 Y=>?_⟩
   refine ⟨fun i m σ H2=>m=ds.length - i/\i<=ds.length/\jt H1 H2/\∃ ρ2,EnvR X.K H2 ρ2 σ/\jF ga F (ds.drop i) ρ2=some o,⟨ds.length,by simp,Nat.zero_le _,jt.refl _,ρ,en.mono s1,by simpa using q'⟩,?_⟩
   rintro i m σ2 H2 ⟨rfl,hi,s2,ρ2,en2,q2⟩
   obtain ⟨g1,g2,g3⟩:=Y i H2 (jt.a s2)
   by_cases hlt:i<ds.length
   ·right
    have hd:ds.drop i=ds[i]::ds.drop (i+1):=List.drop_eq_getElem_cons hlt
    rw [hd] at q2
    refine ⟨g1 hlt,fun σ3 H3=>jt H1 H3/\∃ ρ3,EnvR X.K H3 ρ3 σ3/\jF ga F (ds.drop (i+1)) ρ3=some o,fun σ3 H3 ⟨a1,ρ3,a2,a3⟩=>⟨ds.length - (i+1),by omega,rfl,hlt,a1,ρ3,a2,a3⟩,fun x H3 y=>?_⟩
    obtain ⟨s3,r3⟩:=g3 x H3 y
    have r3':=r3 ds[i] (by simp [hlt])
    cases h4:ga ds[i] ρ2 with
    | none=>simp [jF,h4] at q2
    | some ρ4=>
     refine ⟨ρ2,ds[i],ρ4,en2.mono s3,r3',h4,fun σ5 H5 s5 en5=>?_⟩
     cases h5:F ρ4 with
     | none=>simp [jF,h4,h5] at q2
     | some p=>
      refine ⟨ρ4,p,en5,h5,?_⟩
      have s15:=s2.trans (s3.trans s5)
      cases p with
      | nx ρ6=>exact fun σ6 H6 s6 en6=>⟨s15.trans s6,ρ6,en6,by simpa [jF,h4,h5] using q2⟩
      | ct ρ6=>exact fun σ6 H6 s6 en6=>⟨s15.trans s6,ρ6,en6,by simpa [jF,h4,h5] using q2⟩
      | bk ρ6=>
       have:Out.nx ρ6=o:=by simpa [jF,h4,h5] using q2
       subst this
       exact fun σ6 H6 s6 en6=>k σ6 H6 (s1.trans (s15.trans s6)) en6
      | rt d=>
       have:Out.rt d=o:=by simpa [jF,h4,h5] using q2
       subst this
       exact fun v H6 s6 r6=>k v H6 (s1.trans (s15.trans s6)) r6
   ·left
    have he:i=ds.length:=by omega
    have hn:ds.drop i=[]:=by rw [he]; simp
    rw [hn] at q2
    have:Out.nx ρ2=o:=by simpa [jF] using q2
    subst this
    exact ⟨g2 (by omega),k σ2 H2 (s1.trans s2) en2⟩
noncomputable def QK (cap:List (Option Nat)) (ρ:Rho):Rho:=cap.map fun o=>o.bind fun i=>(ρ[i]?).join
theorem EnvR.cap {K:Fg}{H:Hp}{ρ:Rho}{σ:St} (e:EnvR K H ρ σ) (cap:List (Option Nat)):EnvR K H (QK cap ρ) (abf cap σ):=by
 refine ⟨by simp [QK,abf],fun j d q=>?_⟩
 unfold QK at q
 unfold abf
 rw [List.getElem?_map] at q ⊢
 cases h1:cap[j]? with
 | none=>rw [h1] at q; cases q
 | some o=>
  rw [h1] at q
  cases o with
  | none=>cases q
  | some i=>
   have q':lkp i ρ=some d:=by simpa [lkp] using q
   obtain ⟨v,e1,e2⟩:=e.at' i d (zd q')
   exact ⟨v,by simp [e1],e2⟩
noncomputable def j0 (ga:PyData->Rho->Option Rho) (ft:Rho->Option Bool) (fe:RP):LP->Rho->Option (LP)
 | [],_=>some []
 | d::r,τ=>(ga d τ).bind fun τ2=>(ft τ2).bind fun b=>if b=true then (fe τ2).bind fun y=>(j0 ga ft fe r τ2).map fun ys=>y::ys else j0 ga ft fe r τ2
noncomputable def ze (fi:Rho->Option (LP)) (cap:List (Option Nat)) (ga:PyData->Rho->Option Rho) (ft:Rho->Option Bool) (fe:RP):RP:=fun ρ=>(fi ρ).bind fun ds=>
 if few ds=true then (j0 ga ft fe ds (QK cap ρ)).map PyData.list else none
@[irreducible] noncomputable def amL (X:Cx) (ts:List Expr) (f:Rho->Option Bool):Prop:=PTs X ts (tDT X.K f)
noncomputable def abQ (_:Rho):Option Bool:=some true
theorem Jq:amL X [] abQ:=by
 with_unfolding_all exact (fun Kp s σ H Q I ⟨ρ,b,en,q,k⟩=>by cases q; exact amF Kp s σ H Q I (k H (jt.refl H)))
theorem abR {ft:Rho->Option Bool} (h:PTD X c ft):amL X [c] ft:=by
 with_unfolding_all exact (amG h)
theorem zZ {el:Expr}{ts:List Expr}{sc:Scope}{ps:Pos}{fi:Rho->Option (LP)}{ga:PyData->Rho->Option Rho}{ft:Rho->Option Bool}{fe:RP} (N':List Str) (cap:List (Option Nat)) (hc:X.calm=true) (hi:PID X tg src fi) (ok:CompOk X sc N' cap)
  (body:∀ cl C s0 H0 fp pn,PGD (blk X N' sc cl C s0 H0 fp pn) tg ga/\amL (blk X N' sc cl C s0 H0 fp pn) ts ft/\PD (blk X N' sc cl C s0 H0 fp pn) el fe)
  (hs:∀ x,foldedSetIterable src X.env x=pure x:=by intro _; rfl):PD X (.ListComp el [⟨tg,src,ts,0⟩] sc ps) (ze fi cap ga ft fe):=by
 with_unfolding_all
  refine PE.imp (amH (g:=tDG X.K ga) (tt:=tDT X.K ft) (te:=tD X.K fe) hc hi ok (fun cl C s0 H0 fp pn=>body cl C s0 H0 fp pn) hs) fun σ H Q ⟨ρ,d,en,q,k⟩=>?_
  cases h1:fi ρ with
  | none=>simp [ze,h1] at q
  | some ds=>
   by_cases hf:few ds=true
   ·cases h2:j0 ga ft fe ds (QK cap ρ) with
    | none=>simp [ze,h1,hf,h2] at q
    | some ys=>
     have:PyData.list ys=d:=by simpa [ze,h1,hf,h2] using q
     subst this
     refine ⟨ρ,ds,en,h1,fun J H1 s1 Y=>?_⟩
     refine ⟨fun i m τ us H2=>m=ds.length - i/\i<=ds.length/\jt H1 H2/\us.length<=i/\∃ ρ2 zs ws,EnvR X.K H2 ρ2 τ/\Reps X.K H2 zs us/\j0 ga ft fe (ds.drop i) ρ2=some ws/\ys=zs++ws,
      ⟨ds.length,by simp,Nat.zero_le _,jt.refl _,Nat.le_refl _,QK cap ρ,[],ys,(en.mono s1).cap cap,rfl,by simpa using h2,rfl⟩,?_⟩
     rintro i m τ us H2 ⟨rfl,hi',s2,hu,ρ2,zs,ws,en2,r2,q2,ey⟩
     have hsm:us.length<sizeLine:=Nat.lt_of_le_of_lt (Nat.le_trans hu hi') (Nat.lt_of_lt_of_le (by simpa [few] using hf) (by rw [sizeLine_eq]; decide:1000000<=sizeLine))
     obtain ⟨g1,g2,g3⟩:=Y i H2 (jt.a s2)
     refine ⟨hsm,?_⟩
     by_cases hlt:i<ds.length
     ·right
      have hd:ds.drop i=ds[i]::ds.drop (i+1):=List.drop_eq_getElem_cons hlt
      rw [hd] at q2
      refine ⟨g1 hlt,fun x H3 y=>?_⟩
      obtain ⟨s3,r3⟩:=g3 x H3 y
      have r3':=r3 ds[i] (by simp [hlt])
      cases h4:ga ds[i] ρ2 with
      | none=>simp [j0,h4] at q2
      | some ρ4=>
       refine ⟨ρ2,ds[i],ρ4,en2.mono s3,r3',h4,fun σ5 H5 s5 en5=>?_⟩
       cases h5:ft ρ4 with
       | none=>simp [j0,h4,h5] at q2
       | some b=>
        refine ⟨ρ4,b,en5,h5,fun H6 s6=>?_⟩
        have s26:=s3.trans (s5.trans s6)
        cases b with
        | false=>
         refine aqj ?_
         exact ⟨ds.length - (i+1),by omega,rfl,hlt,s2.trans s26,by omega,ρ4,zs,ws,en5.mono s6,Reps.mono s26 _ _ r2,by simpa [j0,h4,h5] using q2,ey⟩
        | true=>
         refine aqk ?_
         cases h6:fe ρ4 with
         | none=>simp [j0,h4,h5,h6] at q2
         | some y=>
          cases h7:j0 ga ft fe (ds.drop (i+1)) ρ4 with
          | none=>simp [j0,h4,h5,h6,h7] at q2
          | some ws'=>
           have hw:y::ws'=ws:=by simpa [j0,h4,h5,h6,h7] using q2
           refine ⟨ρ4,y,en5.mono s6,h6,fun v H7 s7 r7=>?_⟩
           refine ⟨ds.length - (i+1),by omega,rfl,hlt,s2.trans (s26.trans s7),by rw [List.length_append]; simp; omega,ρ4,zs++[y],ws',(en5.mono s6).mono s7,(Reps.mono (s26.trans s7) _ _ r2).append ⟨v,[],rfl,r7,rfl⟩,h7,?_⟩
           rw [ey,←hw]; simp
     ·left
      have he:i=ds.length:=by omega
      have hn:ds.drop i=[]:=by rw [he]; simp
      rw [hn] at q2
      have hw:[]=ws:=by simpa [j0] using q2
      subst hw
      have ey':ys=zs:=by simpa using ey
      subst ey'
      exact ⟨g2 (by omega),fun l hl=>k _ _ (s1.trans (s2.trans (jx hl))) ⟨l,us,rfl,jq,Reps.mono (jx hl) _ _ r2⟩⟩
   ·simp [ze,h1,hf] at q
noncomputable def Pur (K:Fg) (n:Nat) (g:LP->OP):Sp:=fun vs H Q _=>∃ ds d,ds.length=n/\Reps K H ds vs/\g ds=some d/\∀ v H',jt H H'->Rep K H' d v->Q v H'
noncomputable def jP (g:LP->OP) (fr:Rho->Option (LP)):RP:=fun ρ=>(fr ρ).bind g
theorem amM {k n:Nat}{f:Addr}{fd:FuncData}{ps:List Str}{g:LP->OP}{x:Str}{p:Pos}{fr:Rho->Option (LP)} (FO:FnOk X.prog X.w X.K X.mg X.base CX0 k f fd ps (Pur X.K n g)) (hr:Room k X.A) (hm:X.mg x=some (.ref f)) (hk:PySem.W.keepIn X.K (.ref f)=true)
  (hb:ZN X.K fd ps []) (hn:(e::es).length=n) (ha:PAD X (e::es) fr) (hl:∀ ρ ds,fr ρ=some ds->ds.length=(e::es).length) (hg:Gl X x:=by rfl) (hdb:(x == ("__debug__":Str))=false:=by decide) (he:starEach (e::es) X.env=(false,eval e X.env)::starEach es X.env:=by rfl)
  (hpl:(backTo pos (starEach es X.env)).any (·.1)=false:=by rfl):PD X (.Call (.Name x p) (e::es) [] pos) (jP g fr):=by
 with_unfolding_all
  refine PE.imp (amq FO hr hg hm hk hb .nil aqi ha hdb he hpl) fun σ H Q ⟨ρ,d,en,q,k⟩=>?_
  cases h1:fr ρ with
  | none=>simp [jP,h1] at q
  | some ds=>
   refine ⟨ρ,ds,en,h1,fun vs H1 s1 r1=>?_⟩
   refine ⟨ds,d,by rw [hl ρ ds h1,hn],by rw [List.append_nil]; exact r1,by simpa [jP,h1] using q,fun v H' s r=>k v H' (s1.trans s) r⟩
noncomputable def ZQ (X:Cx) (f:Value) (g:LP->OP):Prop:=∃ r,zX X f r/\∀ ds d xs H Q,g ds=some d->Reps X.K H ds xs->(∀ v H',jt H H'->Rep X.K H' d v->Q v H')->r xs H Q
theorem jH {id:String}{g:LP->OP}{x:Str}{p:Pos}{fr:Rho->Option (LP)} (hc:ZQ X (.builtin id) g) (hm:X.mg x=none) (hv:bootBuiltins x=some (.builtin id)) (ha:PAD X (e::es) fr) (hg:Gl X x:=by rfl) (hn:x ≠ "__name__":=by decide) (hdb:(x == ("__debug__":Str))=false:=by decide)
  (he:starEach (e::es) X.env=(false,eval e X.env)::starEach es X.env:=by rfl) (hpl:(backTo pos (starEach es X.env)).any (·.1)=false:=by rfl):PD X (.Call (.Name x p) (e::es) [] pos) (jP g fr):=by
 with_unfolding_all
  obtain ⟨r,h1,h2⟩:=hc
  refine PE.imp (abC h1 hg hm hv ha hn hdb he hpl) fun σ H Q ⟨ρ,d,en,q,k⟩=>?_
  cases h3:fr ρ with
  | none=>simp [jP,h3] at q
  | some ds=>exact ⟨ρ,ds,en,h3,fun vs H1 s1 r1=>h2 ds d vs H1 Q (by simpa [jP,h3] using q) r1 fun v H' s r=>k v H' (s1.trans s) r⟩
end
noncomputable def j4 (N:List Str) (ds:LP):Rho:=ds.map some++List.replicate (N.length - ds.length) none
theorem aiD {K:Fg}{H:Hp}{N:List Str}{ds:LP}{vs:List V} (r:Reps K H ds vs):EnvR K H (j4 N ds) (L2.QH N vs):=by
 have hl:=r.length
 refine ⟨by simp [j4,L2.QH,hl],fun i d q=>?_⟩
 unfold j4 at q
 by_cases hi:i<ds.length
 ·rw [List.getElem?_append_left (by simpa using hi),List.getElem?_map] at q
  cases e:ds[i]? with
  | none=>rw [e] at q; cases q
  | some c=>
   rw [e] at q; cases q
   obtain ⟨x,e1,e2⟩:=r.get e
   refine ⟨x,?_,e2⟩
   unfold L2.QH
   rw [List.getElem?_append_left (by simp; omega),List.getElem?_map,e1]; rfl
 ·rw [List.getElem?_append_right (by simpa using hi),List.getElem?_replicate] at q
  split at q <;> cases q
noncomputable def jB (N:List Str) (n:Nat) (B:RO) (ds:LP):OP:=if ds.length=n then match B (j4 N ds) with
 | some (.rt d)=>some d
 | some (.nx _)=>some .none
 | _=>none else none
section
variable {P:Program}{w:World}{K:Fg}{mg:SV}{base:Heap}
theorem jz {x qual:Str}{st:Stmt}{f:Addr}{fd:FuncData}{N ps:List Str}{k:Nat}{B:RO} (F:Fun K x qual st f fd) (S:FnScope N ps (jn st))
  (body:∀ (Kc:Value) (A:Around) (Ko:List Env) (s:Shared) (H:Hp) (E:XK),Room k (A.deeper (envOfC qual (jn st) s.heap.objs.size f Kc))->
   abN (abB CX0 P w K mg base N qual (jn st) f Kc A Ko s H E).nox (jN st) B):FnOk P w K mg base CX0 (k+1) f fd ps (Pur K ps.length (jB N ps.length B)):=by
 with_unfolding_all
  refine F.ok S (fun vs H Q E h=>?_) (fun Kc A Ko s H vs Q E hr h=>?_)
  ·obtain ⟨ds,d,h1,h2,_⟩:=h
   rw [h2.length]; exact h1
  ·obtain ⟨ds,d,h1,h2,h3,h4⟩:=h
   refine ⟨_,body Kc A Ko s H E hr,?_⟩
   unfold jB at h3
   rw [if_pos h1] at h3
   cases hB:B (j4 N ds) with
   | none=>rw [hB] at h3; cases h3
   | some o=>
    refine ⟨j4 N ds,o,aiD h2,hB,?_⟩
    rw [hB] at h3
    cases o with
    | rt c=>cases h3; exact fun v H' s r=>h4 v H' s r
    | nx ρ=>cases h3; exact fun σ H' s r=>h4 .non H' s rfl
    | bk ρ=>cases h3
    | ct ρ=>cases h3
theorem aqr {k n:Nat}{f:Addr}{fd:FuncData}{ps:List Str}{g g':LP->OP} (F:FnOk P w K mg base CX0 k f fd ps (Pur K n g)) (h:∀ ds d,ds.length=n->g' ds=some d->g ds=some d):FnOk P w K mg base CX0 k f fd ps (Pur K n g'):=
 F.imp fun vs H Q E ⟨ds,d,h1,h2,h3,h4⟩=>⟨ds,d,h1,h2,h ds d h1 h3,h4⟩
end
section
variable {X:Cx}
noncomputable def aqs (K:Fg):R2:=fun x y H Q=>∃ a b ys,x= .ref a/\y= .ref b/\SqT K H a []/\SqT K H b ys/\Q (.ref b) H
theorem amN:OpR X (binaryOp .Add) (aqs X.K):=by
 intro Kp s σ H x y v u Q I rx ry h
 obtain ⟨a,b,ys,rfl,rfl,ha,hb,q⟩:=h
 cases rx
 cases ry
 obtain ⟨its,r1,p1,_⟩:=I.tuple ha
 obtain ⟨its2,r2,p2,_⟩:=I.tuple hb
 cases r1
 obtain ⟨⟨c1,d1,t1,l1⟩,ho,hc,n,hd⟩:=id p1
 obtain ⟨⟨c2,d2,t2,l2⟩,ho2,hc2,n2,hd2⟩:=id p2
 simp only at hc hd hc2 hd2
 subst hc hd hc2 hd2
 exact concat_meets ⟨_,ho,rfl⟩ ⟨_,ho2,rfl⟩ noFill_tuple_add seq_tuple_add PySem.F.slot_tuple_add PySem.F.entry_tuple_add (PySem.F.args_tuple_add_2 _ _)
  (tuple_addW0 a b _ _ n n2 d1 d2 l1 l2 (by simp)) ⟨ho,ho2,⟨.ref b,H,I,rfl,q⟩⟩
noncomputable def Qb:PyData->PyData->OP
 | .int i,.int j=>some (.int (i+j))
 | .list xs,.list ys=>if few (xs++ys)=true then some (.list (xs++ys)) else none
 | .tuple [],.tuple ys=>some (.tuple ys)
 | .tuple (x::xs),.tuple ys=>if few ((x::xs)++ys)=true then some (.tuple ((x::xs)++ys)) else none
 | _,_=>none
theorem jA:OpD X (binaryOp .Add) Qb:=by
 refine ⟨_,aoz.or (aoJ.or (amN.or ams)),fun p q d x y H Q h rx ry k=>?_⟩
 unfold Qb at h
 split at h
 ·cases h
  cases (show x=_ from rx)
  cases (show y=_ from ry)
  exact .inl ⟨_,_,rfl,rfl,k _ H (jt.refl H) rfl⟩
 ·rename_i xs ys
  split at h
  ·rename_i hf
   cases h
   obtain ⟨a,us,e1,e2,e3⟩:=rx
   obtain ⟨b,ws,e4,e5,e6⟩:=ry
   have hl:us.length+ws.length<1000000:=by
    rw [e3.length,e6.length]
    simp [few] at hf
    try simp only [List.length_cons]
    omega
   exact .inr (.inl ⟨a,b,us,ws,e1,e4,e2,e5,abO hl,fun p hp=>k _ _ (jx hp) ⟨p,_,rfl,jq,Reps.mono (jx hp) _ _ (e3.append e6)⟩⟩)
  ·cases h
 ·rename_i ys
  cases h
  obtain ⟨a,us,e1,e2,e3⟩:=rx
  cases (show us=[] from e3)
  obtain ⟨b,ws,e4,e5,e6⟩:=ry
  exact .inr (.inr (.inl ⟨a,b,ws,e1,e4,e2,e5,k _ H (jt.refl H) ⟨b,ws,rfl,e5,e6⟩⟩))
 ·rename_i z xs ys
  split at h
  ·rename_i hf
   cases h
   obtain ⟨a,us,e1,e2,e3⟩:=rx
   obtain ⟨b,ws,e4,e5,e6⟩:=ry
   have hl:us.length+ws.length<1000000:=by
    rw [e3.length,e6.length]
    simp [few] at hf
    try simp only [List.length_cons]
    omega
   refine .inr (.inr (.inr ⟨a,b,us,ws,e1,e4,e2,e5,fun z=>?_,abO hl,fun z=>?_,fun _ p hp=>?_⟩))
   ·have:=e3.length; rw [z] at this; simp at this
   ·subst z
    have:=e6.length
    have hy:ys=[]:=List.length_eq_zero_iff.mp (by simpa using this.symm)
    subst hy
    exact k _ H (jt.refl H) ⟨a,us,rfl,e2,by simpa using e3⟩
   ·exact k _ _ (jx hp) ⟨p,_,rfl,SqT.of jq,Reps.mono (jx hp) _ _ (e3.append e6)⟩
  ·cases h
 ·cases h
noncomputable def aaA:PyData->PyData->OP
 | .int i,.int j=>some (.int (i - j))
 | _,_=>none
theorem zH:OpD X (binaryOp .Sub) aaA:=by
 refine ⟨_,aoA,fun p q d x y H Q h rx ry k=>?_⟩
 unfold aaA at h
 split at h
 ·cases h; cases (show x=_ from rx); cases (show y=_ from ry); exact ⟨_,_,rfl,rfl,k _ H (jt.refl H) rfl⟩
 ·cases h
theorem Reps.rep {K:Fg}{H:Hp}{ds:LP}{xs:List V} (h:Reps K H ds xs):∀ (n:Nat),Reps K H (List.replicate n ds).flatten (List.replicate n xs).flatten
 | 0=>rfl
 | n+1=>by rw [List.replicate_succ,List.replicate_succ,List.flatten_cons,List.flatten_cons]; exact h.append (Reps.rep h n)
noncomputable def QL:PyData->PyData->OP
 | .int i,.int j=>if (-(2 ^ 64)<i/\i<2 ^ 64) ∨ (-(2 ^ 64)<j/\j<2 ^ 64) then some (.int (i*j)) else none
 | .list xs,.int k=>if k<1000/\xs.length<1000/\-1000<k then some (.list (List.replicate k.toNat xs).flatten) else none
 | _,_=>none
theorem qS:OpD X (binaryOp .Mult) QL:=by
 refine ⟨_,aoB.or aj3,fun p q d x y H Q h rx ry k=>?_⟩
 unfold QL at h
 split at h
 ·split at h
  ·rename_i hc
   cases h; cases (show x=_ from rx); cases (show y=_ from ry); exact .inl ⟨_,_,rfl,rfl,hc,k _ H (jt.refl H) rfl⟩
  ·cases h
 ·rename_i xs n
  split at h
  ·rename_i hc
   cases h
   obtain ⟨a,us,e1,e2,e3⟩:=rx
   cases (show y=_ from ry)
   have hl:=e3.length
   have hs:us.length*n.toNat<=sizeLine:=by
    rw [sizeLine_eq]
    have h1:us.length<=1000:=by omega
    have h2:n.toNat<=1000:=by omega
    exact Nat.le_trans (Nat.mul_le_mul h1 h2) (by decide)
   exact .inr ⟨a,n,us,e1,rfl,e2,by omega,by omega,hs,fun p hp=>k _ _ (jx hp) ⟨p,_,rfl,jq,Reps.mono (jx hp) _ _ (Reps.rep e3 n.toNat)⟩⟩
  ·cases h
 ·cases h
noncomputable def ae4:PyData->PyData->OP
 | .int i,.int j=>if 0<j/\j<1073741824 then some (.int (i / j)) else none
 | _,_=>none
theorem QM:OpD X (binaryOp .FloorDiv) ae4:=by
 refine ⟨_,amm,fun p q d x y H Q h rx ry k=>?_⟩
 unfold ae4 at h
 split at h
 ·split at h
  ·rename_i hc
   cases h; cases (show x=_ from rx); cases (show y=_ from ry); exact ⟨_,_,rfl,rfl,hc,k _ H (jt.refl H) rfl⟩
  ·cases h
 ·cases h
noncomputable def akf:PyData->PyData->OP
 | .int i,.int j=>if 0<j then some (.int (i % j)) else none
 | _,_=>none
theorem Qn:OpD X (binaryOp .Mod) akf:=by
 refine ⟨_,aoC,fun p q d x y H Q h rx ry k=>?_⟩
 unfold akf at h
 split at h
 ·split at h
  ·rename_i hc
   cases h; cases (show x=_ from rx); cases (show y=_ from ry); exact ⟨_,_,rfl,rfl,hc,k _ H (jt.refl H) rfl⟩
  ·cases h
 ·cases h
noncomputable def okD (d:PyData):Bool:=d.canLay0 && decide (d.depth<30)
noncomputable def aqt (K:Fg) (neg:Bool):R2:=fun x y H Q=>∃ p q,Rep K H p x/\Rep K H q y/\okD p=true/\okD q=true/\Q (.bl (if neg then !PyData.eqv p q else PyData.eqv p q)) H
theorem qr {d:PyData} (h:okD d=true):d.canLay0=true:=by simp [okD] at h; exact h.1
theorem abi {d:PyData} (h:okD d=true):d.depth<30:=by simp [okD] at h; exact h.2
theorem aoR (hu:X.A.units+64<cLine):OpR X (compareOp .Eq) (aqt X.K false):=by
 intro Kp s σ H x y v u Q I rx ry ⟨p,q,h1,h2,h3,h4,k⟩
 obtain ⟨as,ra⟩:=qH I p x v h1 rx (qr h3)
 obtain ⟨bs,rb⟩:=qH I q y u h2 ry (qr h4)
 have d1:=abi h3
 exact SeqAt.compareEq_reads ra rb (qr h3) (qr h4) (by omega) ⟨.bl _,H,I,rfl,k⟩
theorem aoS (hu:X.A.units+64<cLine):OpR X (compareOp .NotEq) (aqt X.K true):=by
 intro Kp s σ H x y v u Q I rx ry ⟨p,q,h1,h2,h3,h4,k⟩
 obtain ⟨as,ra⟩:=qH I p x v h1 rx (qr h3)
 obtain ⟨bs,rb⟩:=qH I q y u h2 ry (qr h4)
 have d1:=abi h3
 exact SeqAt.compareNe_reads ra rb (qr h3) (qr h4) (by omega) ⟨.bl _,H,I,rfl,k⟩
noncomputable def aqu (K:Fg):R2:=fun x y H Q=>∃ a b ns,x= .ref a/\y= .ref b/\SqL K H a (List.map V.int ns)/\H b=some (.lst [])/\Q (.bl ns.isEmpty) H
theorem Zu (h:Heap):∀ (ns:List Int) (us:List Value),jG (List.map V.int ns) us->∃ as,ReadsAll h us (ns.map PyData.int) as
 | [],us,r=>by cases r; exact ⟨_,.nil⟩
 | n::ns,us,r=>by
  cases r with
  | cons r1 r2=>
   obtain ⟨t,rfl⟩:=r1
   obtain ⟨as,ra⟩:=Zu h ns _ r2
   exact ⟨_,.cons (.int n t) ra⟩
theorem ae5:∀ ns:List Int,PyData.canLayAll0 (ns.map PyData.int)=true
 | []=>rfl
 | n::ns=>by simp [PyData.canLayAll0,PyData.canLay0,ae5 ns]
theorem amO (hu:X.A.units+64<cLine):OpR X (compareOp .Eq) (aqu X.K):=by
 intro Kp s σ H x y v u Q I rx ry ⟨a,b,ns,e1,e2,h1,h2,k⟩
 subst e1; subst e2
 cases rx; cases ry
 obtain ⟨its,rv,⟨o,n,g1,g2,g3,g4⟩,_⟩:=I.list h1
 obtain ⟨as,ra⟩:=Zu s.heap ns its rv
 obtain ⟨bs,rb⟩:=qH I (.list []) (.ref b) (.ref b) ⟨b,[],rfl,h2,rfl⟩ rfl rfl
 have ra':Reads s.heap (.ref a) (.list (ns.map PyData.int)) (a::as):= .list g1 g2 g4 (by simpa using ra)
 refine SeqAt.compareEq_reads ra' rb (by simpa [PyData.canLay0] using ae5 ns) rfl ?_ ⟨.bl _,H,I,rfl,?_⟩
 ·have:(PyData.list []).depth=1:=rfl
  rw [this]; omega
 ·have:PyData.eqv (.list (ns.map PyData.int)) (.list [])=ns.isEmpty:=by cases ns <;> simp [PyData.eqv,PyData.eqvAll]
  rw [this]; exact k
noncomputable def dEq:PyData->PyData->OP
 | .dict kvs,.list []=>if zw kvs=true then some (.bool kvs.isEmpty) else none
 | p,q=>if okD p=true/\okD q=true then some (.bool (PyData.eqv p q)) else none
theorem Jr (hu:X.A.units+64<cLine):OpD X (compareOp .Eq) dEq:=by
 refine ⟨_,(amO hu).or (aoR hu),fun p q d x y H Q h rx ry k=>?_⟩
 unfold dEq at h
 split at h
 ·split at h
  ·rename_i hs
   cases h
   obtain ⟨a,ns,e1,e2,e3⟩:=rx.scrOut hs
   obtain ⟨b,ws,e4,e5,e6⟩:=ry
   cases (show ws=[] from e6)
   refine .inl ⟨a,b,ns,e1,e4,e2,e5,?_⟩
   have:ns.isEmpty=(ns.map fun n=>(PyData.int n,PyData.none)).isEmpty:=by simp
   subst e3
   rw [this]
   exact k _ H (jt.refl H) rfl
  ·cases h
 ·split at h
  ·rename_i hc
   cases h
   exact .inr ⟨p,q,rx,ry,hc.1,hc.2,k _ H (jt.refl H) rfl⟩
  ·cases h
noncomputable def dNe:PyData->PyData->OP:=fun p q=>if okD p=true/\okD q=true then some (.bool (!PyData.eqv p q)) else none
theorem qL (hu:X.A.units+64<cLine):OpD X (compareOp .NotEq) dNe:=by
 refine ⟨_,aoS hu,fun p q d x y H Q h rx ry k=>?_⟩
 unfold dNe at h
 split at h
 ·rename_i hc
  cases h
  exact ⟨p,q,rx,ry,hc.1,hc.2,k _ H (jt.refl H) rfl⟩
 ·cases h
noncomputable def aoT (K:Fg) (neg:Bool):R2:=fun x y H Q=>∃ p ds,Rep K H p x/\(Rep K H (.list ds) y ∨ Rep K H (.tuple ds) y)/\okD p=true/\okD (.list ds)=true/\Q (.bl (if neg then !(ds.any fun z=>PyData.eqv z p) else ds.any fun z=>PyData.eqv z p)) H
theorem aoU (hu:X.A.units+64<cLine):OpR X (compareOp .In) (aoT X.K false):=by
 intro Kp s σ H x y v u Q I rx ry ⟨p,ds,h1,h2,h3,h4,k⟩
 obtain ⟨as,ra⟩:=qH I p x v h1 rx (qr h3)
 have d1:=abi h3
 have hc:PyData.canLayAll0 ds=true:=by simpa [PyData.canLay0] using qr h4
 rcases h2 with h2 | h2
 ·obtain ⟨bs,rb⟩:=qH I (.list ds) y u h2 ry (qr h4)
  exact SeqAt.in_list_reads rb ra hc (qr h3) (by omega) ⟨.bl _,H,I,rfl,k⟩
 ·obtain ⟨bs,rb⟩:=qH I (.tuple ds) y u h2 ry (by simpa [PyData.canLay0] using hc)
  exact SeqAt.in_tuple_reads rb ra hc (qr h3) (by omega) ⟨.bl _,H,I,rfl,k⟩
theorem aiE (hu:X.A.units+64<cLine):OpR X (compareOp .NotIn) (aoT X.K true):=by
 intro Kp s σ H x y v u Q I rx ry ⟨p,ds,h1,h2,h3,h4,k⟩
 obtain ⟨as,ra⟩:=qH I p x v h1 rx (qr h3)
 have d1:=abi h3
 have hc:PyData.canLayAll0 ds=true:=by simpa [PyData.canLay0] using qr h4
 rcases h2 with h2 | h2
 ·obtain ⟨bs,rb⟩:=qH I (.list ds) y u h2 ry (qr h4)
  exact SeqAt.notIn_list_reads rb ra hc (qr h3) (by omega) ⟨.bl _,H,I,rfl,k⟩
 ·obtain ⟨bs,rb⟩:=qH I (.tuple ds) y u h2 ry (by simpa [PyData.canLay0] using hc)
  exact SeqAt.notIn_tuple_reads rb ra hc (qr h3) (by omega) ⟨.bl _,H,I,rfl,k⟩
noncomputable def dIn (neg:Bool):PyData->PyData->OP:=fun p q=>match q with
 | .list ds=>if okD p=true/\okD (.list ds)=true then some (.bool (if neg then !(ds.any fun z=>PyData.eqv z p) else ds.any fun z=>PyData.eqv z p)) else none
 | .tuple ds=>if okD p=true/\okD (.list ds)=true then some (.bool (if neg then !(ds.any fun z=>PyData.eqv z p) else ds.any fun z=>PyData.eqv z p)) else none
 | _=>none
theorem anZ {neg:Bool}{p q d:PyData}{x y:V}{H:Hp}{Q:VK}{K:Fg} (h:dIn neg p q=some d) (rx:Rep K H p x) (ry:Rep K H q y) (k:∀ v H',jt H H'->Rep K H' d v->Q v H'):aoT K neg x y H Q:=by
 unfold dIn at h
 split at h
 ·split at h
  ·rename_i ds hc
   cases h
   exact ⟨p,ds,rx,.inl ry,hc.1,hc.2,k _ H (jt.refl H) rfl⟩
  ·cases h
 ·split at h
  ·rename_i ds hc
   cases h
   exact ⟨p,ds,rx,.inr ry,hc.1,hc.2,k _ H (jt.refl H) rfl⟩
  ·cases h
 ·cases h
theorem aoV (hu:X.A.units+64<cLine):OpD X (compareOp .In) (dIn false):=⟨_,aoU hu,fun p q d x y H Q h rx ry k=>anZ h rx ry k⟩
theorem adb (hu:X.A.units+64<cLine):OpD X (compareOp .NotIn) (dIn true):=⟨_,aiE hu,fun p q d x y H Q h rx ry k=>anZ h rx ry k⟩
noncomputable def Js (f:Int->Int->Bool):PyData->PyData->OP
 | .int i,.int j=>some (.bool (f i j))
 | _,_=>none
theorem agk {f:Int->Int->Bool}{p q d:PyData}{x y:V}{H:Hp}{Q:VK}{K:Fg} (h:Js f p q=some d) (rx:Rep K H p x) (ry:Rep K H q y) (k:∀ v H',jt H H'->Rep K H' d v->Q v H'):rI0 (fun i j=> .bl (f i j)) x y H Q:=by
 unfold Js at h
 split at h
 ·cases h; cases (show x=_ from rx); cases (show y=_ from ry); exact ⟨_,_,rfl,rfl,k _ H (jt.refl H) rfl⟩
 ·cases h
theorem agl:OpD X (compareOp .Lt) (Js fun i j=>decide (i<j)):=⟨_,ap7,fun p q d x y H Q h rx ry k=>agk h rx ry k⟩
theorem aaB:OpD X (compareOp .LtE) (Js fun i j=>decide (i<=j)):=⟨_,ap8,fun p q d x y H Q h rx ry k=>agk h rx ry k⟩
theorem aoW:OpD X (compareOp .Gt) (Js fun i j=>decide (j<i)):=⟨_,ap9,fun p q d x y H Q h rx ry k=>agk h rx ry k⟩
noncomputable def chn (g g':PyData->PyData->OP) (fa fb fc:RP):RP:=fun ρ=>(fa ρ).bind fun x=>(fb ρ).bind fun y=>(g x y).bind fun z=>(asB z).bind fun t=>if t=true then (fc ρ).bind fun w=>g' y w else some (.bool false)
variable {a b c e:Expr}{fa fb fc:RP}{pos:Pos}
theorem an0 {g g':PyData->PyData->OP}{K:Fg}{r r':R2} (hr:∀ p q d x y H Q,g p q=some d->Rep K H p x->Rep K H q y->(∀ v H',jt H H'->Rep K H' d v->Q v H')->r x y H Q)
  (hr':∀ p q d x y H Q,g' p q=some d->Rep K H p x->Rep K H q y->(∀ v H',jt H H'->Rep K H' d v->Q v H')->r' x y H Q) {σ:St} {H:Hp} {Q:VK} (h:tD K (chn g g' fa fb fc) σ H Q):agb r r' (tD K fa) (tD K fb) (tD K fc) σ H Q:=by
 obtain ⟨ρ,d,en,h,k⟩:=h
 unfold chn at h
 cases ha:fa ρ with
 | none=>rw [ha] at h; cases h
 | some p=>
  cases hb:fb ρ with
  | none=>rw [ha,hb] at h; cases h
  | some q=>
   rw [ha,hb] at h
   cases hg:g p q with
   | none=>simp [hg] at h
   | some z=>
    cases ht:asB z with
    | none=>simp [hg,ht] at h
    | some t=>
     have hz:=zL ht
     subst hz
     refine ⟨ρ,p,en,ha,fun x H1 s1 r1=>⟨ρ,q,en.mono s1,hb,fun y H2 s2 r2=>?_⟩⟩
     refine hr p q _ x y H2 _ hg (Rep.mono s2 p x r1) r2 fun v H3 s3 r3=>⟨t,r3,?_⟩
     have s13:=s1.trans (s2.trans s3)
     cases t with
     | false=>
      rw [if_neg Bool.false_ne_true]
      have hd:PyData.bool false=d:=by simpa [hg,asB] using h
      subst hd
      exact k _ H3 s13 rfl
     | true=>
      rw [if_pos rfl]
      cases hc:fc ρ with
      | none=>simp [hg,asB,hc] at h
      | some w=>
       refine ⟨ρ,w,en.mono s13,hc,fun z H4 s4 r4=>?_⟩
       exact hr' q w d y z H4 Q (by simpa [hg,asB,hc] using h) (Rep.mono (s3.trans s4) q y r2) r4 fun v H5 s5 r5=>k v H5 (s13.trans (s4.trans s5)) r5
theorem akg {op op':CmpOp}{g g':PyData->PyData->OP} (ho:OpD X (compareOp op) g) (ho':OpD X (compareOp op') g') (ha:PD X a fa) (hb:PD X b fb) (hc:PD X c fc)
  (hm:lastMarks [op,op'] [b,c]=false:=by with_unfolding_all rfl):PD X (.Compare a [op,op'] [b,c] pos) (chn g g' fa fb fc):=by
 with_unfolding_all
  obtain ⟨r,h1,h2⟩:=ho
  obtain ⟨r',h3,h4⟩:=ho'
  exact PE.imp (ajT h1 h3 ha hb hc hm) fun σ H Q h=>an0 h2 h4 h
theorem adc {op op':CmpOp}{g g':PyData->PyData->OP} (ho:OpD X (compareOp op) g) (ho':OpD X (compareOp op') g') (ha:PD X a fa) (hb:PD X b fb) (hc:PD X c fc)
  (hm:lastMarks [op,op'] [b,c]=false:=by with_unfolding_all rfl):PTD X (.Compare a [op,op'] [b,c] pos) (tst (chn g g' fa fb fc)):=by
 with_unfolding_all
  obtain ⟨r,h1,h2⟩:=ho
  obtain ⟨r',h3,h4⟩:=ho'
  refine PT.imp (ajU h1 h3 ha hb hc hm) fun σ H Q ⟨ρ,t,en,h,k⟩=>?_
  cases hd:chn g g' fa fb fc ρ with
  | none=>simp [tst,hd] at h
  | some d=>
   have ht:d= .bool t:=zL (by simpa [tst,hd] using h)
   subst ht
   exact an0 h2 h4 ⟨ρ,_,en,hd,fun v H' s r=>⟨t,r,k H' s⟩⟩
noncomputable def dIx:PyData->PyData->OP
 | .list ds,.int i=>if ds.length<1000000 then atI ds i else none
 | .tuple ds,.int i=>if ds.length<1000000 then atI ds i else none
 | .dict kvs,.int i=>if kvs.length<1000000/\zw kvs=true then (atI kvs i).map (·.1) else none
 | _,_=>none
theorem ahA {K:Fg}{H:Hp}{ds:LP}{xs:List V}{i:Int}{d:PyData} (r:Reps K H ds xs) (h:atI ds i=some d):∃ x,atI xs i=some x/\Rep K H d x:=by
 have hl:=r.length
 unfold atI at h ⊢
 rw [hl]
 cases e:ixN ds.length i with
 | none=>rw [e] at h; cases h
 | some j=>
  rw [e] at h
  obtain ⟨x,e1,e2⟩:=r.get (show ds[j]?=some d from h)
  exact ⟨x,e1,e2⟩
noncomputable def IxD (X:Cx) (g:PyData->PyData->OP):Prop:=∃ r,IxR X r/\∀ p q d x y H Q,g p q=some d->Rep X.K H p x->Rep X.K H q y->(∀ v H',jt H H'->Rep X.K H' d v->Q v H')->r x y H Q
theorem ixd:IxD X dIx:=by
 refine ⟨_,amu.or aoH,fun p q d x y H Q h rx ry k=>?_⟩
 unfold dIx at h
 split at h
 ·split at h
  ·obtain ⟨a,us,e1,e2,e3⟩:=rx
   cases (show y=_ from ry)
   obtain ⟨z,g1,g2⟩:=ahA e3 h
   exact .inl ⟨a,us,_,z,e1,rfl,SqL.of e2,g1,k z H (jt.refl H) g2⟩
  ·cases h
 ·split at h
  ·obtain ⟨a,us,e1,e2,e3⟩:=rx
   cases (show y=_ from ry)
   obtain ⟨z,g1,g2⟩:=ahA e3 h
   exact .inr ⟨a,us,_,z,e1,rfl,e2,g1,k z H (jt.refl H) g2⟩
  ·cases h
 ·split at h
  ·rename_i hs
   obtain ⟨a,ns,e1,e2,e3⟩:=rx.scrOut hs.2
   cases (show y=_ from ry)
   subst e3
   rename_i i
   unfold atI at h
   rw [List.length_map] at h
   cases e:ixN ns.length i with
   | none=>rw [e] at h; cases h
   | some j=>
    rw [e] at h
    have h':((ns.map fun n=>(PyData.int n,PyData.none))[j]?).map (·.1)=some d:=h
    rw [List.getElem?_map] at h'
    cases e4:ns[j]? with
    | none=>rw [e4] at h'; cases h'
    | some n=>
     rw [e4] at h'
     cases h'
     refine .inl ⟨a,List.map V.int ns,i,.int n,e1,rfl,e2,?_,k _ H (jt.refl H) rfl⟩
     unfold atI
     rw [List.length_map,e]
     show (List.map V.int ns)[j]?=_
     rw [List.getElem?_map,e4]; rfl
  ·cases h
 ·cases h
theorem jU (ha:PD X a fa) (hb:PD X b fb) (hs:aht b:=by intro _ _; rfl):PD X (.Subscript a b pos) (op2 dIx fa fb):=by
 with_unfolding_all
  obtain ⟨r,h1,h2⟩:=ixd (X:=X)
  exact PE.imp (aqh h1 ha hb hs) fun σ H Q h=>amJ h2 h
noncomputable def zV (ds:LP):OP:=match ds with
 | [.list xs]=>some (.int xs.length)
 | [.tuple xs]=>some (.int xs.length)
 | [.dict xs]=>if zw xs=true then some (.int xs.length) else none
 | _=>none
theorem qZ:ZQ X (.builtin "len") zV:=by
 refine ⟨_,ad0,fun ds d xs H Q h r k=>?_⟩
 unfold zV at h
 split at h
 ·cases h
  obtain ⟨x,q,e1,e2,e3⟩:=r
  cases (show q=[] from e3)
  obtain ⟨a,us,g1,g2,g3⟩:=e2
  subst g1
  exact ⟨a,us,e1,.inl (SqL.of g2),k _ H (jt.refl H) (by show _=_; rw [g3.length])⟩
 ·cases h
  obtain ⟨x,q,e1,e2,e3⟩:=r
  cases (show q=[] from e3)
  obtain ⟨a,us,g1,g2,g3⟩:=e2
  subst g1
  exact ⟨a,us,e1,.inr g2,k _ H (jt.refl H) (by show _=_; rw [g3.length])⟩
 ·split at h
  ·rename_i hs
   cases h
   obtain ⟨x,q,e1,e2,e3⟩:=r
   cases (show q=[] from e3)
   obtain ⟨a,ns,g1,g2,g3⟩:=e2.scrOut hs
   subst g1; subst g3
   exact ⟨a,_,e1,.inl g2,k _ H (jt.refl H) (by show _=_; simp)⟩
  ·cases h
 ·cases h
noncomputable def ZR (ds:LP):OP:=match ds with
 | [.int i,.int j]=>some (.int (if j > i then j else i))
 | _=>none
noncomputable def akh (ds:LP):OP:=match ds with
 | [.int i,.int j]=>some (.int (if j<i then j else i))
 | _=>none
theorem ahB (hc:X.calm=true):ZQ X (.builtin "max") ZR:=by
 refine ⟨_,ait hc,fun ds d xs H Q h r k=>?_⟩
 unfold ZR at h
 split at h
 ·cases h
  obtain ⟨x,q,e1,e2,y,q',e3,e4,e5⟩:=r
  cases (show x=_ from e2); cases (show y=_ from e4); cases (show q'=[] from e5); subst e3
  exact ⟨_,_,e1,k _ H (jt.refl H) rfl⟩
 ·cases h
theorem amP (hc:X.calm=true):ZQ X (.builtin "min") akh:=by
 refine ⟨_,aiu hc,fun ds d xs H Q h r k=>?_⟩
 unfold akh at h
 split at h
 ·cases h
  obtain ⟨x,q,e1,e2,y,q',e3,e4,e5⟩:=r
  cases (show x=_ from e2); cases (show y=_ from e4); cases (show q'=[] from e5); subst e3
  exact ⟨_,_,e1,k _ H (jt.refl H) rfl⟩
 ·cases h
end
section
variable {X:Cx}{Kp:List (Addr × Obj)}{σ:St}{H:Hp}{s:Shared}
theorem aaC {prog:Program}{w:World}{A:Around}{E:Value->SP0}{l:Addr}{its:Array Value}{Q:Value->SP0} (hl:s.heap.IsList l its)
  (h:∀ (h2:Heap) (it:Addr),(h2.IsListIter it l 0/\h2.IsList l its)->(∀ b ∈ [it,l],b<h2.objs.size)->l ≠ it->(∀ b o,s.heap.get? b=some o->h2.get? b=some o)->s.heap.get? it=none->Q (.ref it) { s with heap:=h2 }):
  wpAny (model prog w) A (pyIter (.ref l)) Q E s:=by
 have hlt:l<s.heap.objs.size:=by
  obtain ⟨_,e,_⟩:=hl
  exact Heap.lt_size e
 refine wpAny_pyIter_list hl (h _ _ ⟨⟨_,Heap.get?_push_size _ rfl,rfl,rfl⟩,hl.push _⟩ (fun b hb=>?_) (Nat.ne_of_lt hlt) (fun b o e=>Heap.get?_push_of_some _ e) (Heap.get?_none_of_le (Nat.le_refl _)))
 rw [Heap.size_push]
 rcases List.mem_cons.mp hb with e | hb
 ·rw [e]; exact Nat.lt_succ_self _
 ·have e:b=l:=by simpa using hb
  rw [e]; exact Nat.lt_succ_of_lt hlt
theorem add {prog:Program}{w:World}{A:Around}{E:Value->SP0}{l:Addr}{its:Array Value}{Q:Value->SP0} (hl:s.heap.IsTuple l its)
  (h:∀ (h2:Heap) (it:Addr),(h2.IsTupleIter it l 0/\h2.IsTuple l its)->(∀ b ∈ [it,l],b<h2.objs.size)->l ≠ it->(∀ b o,s.heap.get? b=some o->h2.get? b=some o)->s.heap.get? it=none->Q (.ref it) { s with heap:=h2 }):
  wpAny (model prog w) A (pyIter (.ref l)) Q E s:=by
 have hlt:l<s.heap.objs.size:=by
  obtain ⟨_,e,_⟩:=hl
  exact Heap.lt_size e
 have hl2:∀ o,(s.heap.push o).IsTuple l its:=fun o=>by
  obtain ⟨ob,e,r⟩:=hl
  exact ⟨ob,Heap.get?_push_of_some _ e,r⟩
 refine wpAny_pyIter_tuple hl (h _ _ ⟨⟨_,Heap.get?_push_size _ rfl,rfl,rfl⟩,hl2 _⟩ (fun b hb=>?_) (Nat.ne_of_lt hlt) (fun b o e=>Heap.get?_push_of_some _ e) (Heap.get?_none_of_le (Nat.le_refl _)))
 rw [Heap.size_push]
 rcases List.mem_cons.mp hb with e | hb
 ·rw [e]; exact Nat.lt_succ_self _
 ·have e:b=l:=by simpa using hb
  rw [e]; exact Nat.lt_succ_of_lt hlt
theorem ZS {h h2 h3 : Heap} {it : Addr} (k1 : ∀ b o, h.get? b = some o -> h2.get? b = some o) (hn : h.get? it = none) (k2 : ∀ b o, b ∉ [it] -> h2.get? b = some o -> h3.get? b = some o) : ∀ b o, h.get? b = some o -> h3.get? b = some o := fun b o e =>
  k2 b o (fun z => by have e1 : b = it := by simpa using z
                      rw [e1, hn] at e; cases e) (k1 b o e)
theorem ahC:∀ {bs:List Bool}{us:List Value},jG (bs.map V.bl) us->us=bs.map Value.bool
 | [],us,r=>by cases r; rfl
 | b::bs,us,r=>by
  cases r with
  | cons r1 r2=>cases (show _=_ from r1); rw [ahC r2]; rfl
theorem aiF (bs:List Bool):(List.range bs.length).all (fun i=>bs.getD i false)=bs.all id:=by
 have:bs=(List.range bs.length).map (fun i=>bs.getD i false):=by
  apply List.ext_getElem?
  intro i
  rw [List.getElem?_map]
  by_cases h:i<bs.length
  ·rw [List.getElem?_range h]; simp [List.getD,h]
  ·simp [h]
 conv=>rhs; rw [this]
 rw [List.all_map]; rfl
noncomputable def arp (K:Fg):List V->Hp->VK->Prop:=fun xs H Q=>∃ a bs,xs=[.ref a]/\SqL K H a (List.map V.bl bs)/\Q (.bl (bs.all id)) H
theorem aiG (hc:X.calm=true):zX X (.builtin "all") (arp X.K):=by
 intro Kp s σ H xs us Q I r ⟨a,bs,e,hq,q⟩
 subst e
 obtain ⟨u,rfl,rx⟩:=ac2 r
 cases rx
 obtain ⟨its,rv,pl,hz⟩:=I.list hq
 have ei:=ahC rv
 have hh:=I.ok.hd hc
 refine call_all_walk (aaC pl.isList fun h2 it st hlt hne k1 hn=>?_)
 refine ⟨it,[it,a],[it],its.toArray.size,(fun i v=>its.toArray[i]?=some v),_,fun i=>bs.getD i false,rfl,Walks.list (A:=X.A.in1) hh it a hne its.toArray,st,?_,fun h3 tk k2=>?_⟩
 ·intro i v s' Q' E' hP hq'
  have:v= .bool (bs.getD i false):=by
   have hP':its[i]?=some v:=by simpa using hP
   rw [ei,List.getElem?_map] at hP'
   cases hb:bs[i]? with
   | none=>rw [hb] at hP'; cases hP'
   | some b=>rw [hb] at hP'; cases hP'; simp [List.getD,hb]
  subst this
  exact wpAny_truthy_bool hq'
 ·have I3:=I.kept (t':=tk) (ZS k1 hn k2)
  have hl:its.toArray.size=bs.length:=by rw [ei]; simp
  refine ⟨.bl (bs.all id),H,I3,?_,q⟩
  show _=_
  rw [hl,aiF]
noncomputable def bls:LP->Option (List Bool)
 | []=>some []
 | d::r=>(asB d).bind fun b=>(bls r).map fun q=>b::q
theorem Reps.bls {K:Fg}{H:Hp}:∀ {ds:LP}{bs:List Bool}{xs:List V},BX.bls ds=some bs->Reps K H ds xs->xs=bs.map V.bl
 | [],bs,xs,h,r=>by simp [BX.bls] at h; subst h; exact r
 | d::ds,bs,xs,h,⟨x,q,e1,e2,e3⟩=>by
  subst e1
  cases h1:asB d with
  | none=>simp [BX.bls,h1] at h
  | some b=>
   cases h2:BX.bls ds with
   | none=>simp [BX.bls,h1,h2] at h
   | some r=>
    have:b::r=bs:=by simpa [BX.bls,h1,h2] using h
    subst this
    have hd:=zL h1
    subst hd
    cases (show x=_ from e2)
    rw [Reps.bls h2 e3]; rfl
noncomputable def aki (ds:LP):OP:=match ds with
 | [.list xs]=>(bls xs).map fun bs=> .bool (bs.all id)
 | _=>none
theorem akj (hc:X.calm=true):ZQ X (.builtin "all") aki:=by
 refine ⟨_,aiG hc,fun ds d xs H Q h r k=>?_⟩
 unfold aki at h
 split at h
 ·rename_i ys
  cases hb:bls ys with
  | none=>simp [hb] at h
  | some bs=>
   have:PyData.bool (bs.all id)=d:=by simpa [hb] using h
   subst this
   obtain ⟨x,q,e1,e2,e3⟩:=r
   cases (show q=[] from e3)
   obtain ⟨a,us,g1,g2,g3⟩:=e2
   subst g1
   have:=Reps.bls hb g3
   subst this
   exact ⟨a,bs,e1,SqL.of g2,k _ H (jt.refl H) rfl⟩
 ·cases h
noncomputable def acL:PyData->Option Int
 | .int i=>some i
 | _=>none
noncomputable def qN:LP->Option (List Int)
 | []=>some []
 | d::r=>(acL d).bind fun b=>(qN r).map fun q=>b::q
theorem Jj:∀ {ds:LP}{ns:List Int},qN ds=some ns->ds=ns.map PyData.int
 | [],ns,h=>by simp [qN] at h; subst h; rfl
 | d::ds,ns,h=>by
  cases d with
  | int i=>
   cases h2:qN ds with
   | none=>simp [qN,acL,h2] at h
   | some r=>
    have:i::r=ns:=by simpa [qN,acL,h2] using h
    subst this
    rw [Jj h2]; rfl
  | _=>simp [qN,acL] at h
theorem zl {ns:List Int}{us:List Value}{i:Nat}{v:Value} (r:jG (ns.map V.int) us) (h:us.toArray[i]?=some v):∃ t,v= .int (ns.getD i 0) t:=by
 have h':us[i]?=some v:=by simpa using h
 have hi:i<us.length:=(List.getElem?_eq_some_iff.mp h').1
 have hl:=r.length
 rw [List.length_map] at hl
 obtain ⟨u,e1,e2⟩:=r.get (show (ns.map V.int)[i]?=some (V.int (ns.getD i 0)) by
  rw [List.getElem?_map]
  have:i<ns.length:=by omega
  simp [List.getD,this])
 rw [h'] at e1; cases e1
 exact e2
theorem aa2 (ns:List Int):preSum (fun i=>ns.getD i 0) ns.length=ns.sum:=by
 have go:∀ k,k<=ns.length->preSum (fun i=>ns.getD i 0) k=(ns.take k).sum:=by
  intro k
  induction k with
  | zero=>intro _; simp [preSum]
  | succ k ih=>
   intro hk
   have hlt:k<ns.length:=by omega
   have h1:ns.take (k+1)=ns.take k++[ns[k]]:=by rw [List.take_succ]; simp [hlt]
   rw [h1]
   simp only [preSum,ih (by omega),List.sum_append,List.sum_cons,List.sum_nil,Int.add_zero]
   simp [List.getD,hlt]
 have:=go ns.length (Nat.le_refl _)
 simpa using this
noncomputable def arq (K:Fg):List V->Hp->VK->Prop:=fun xs H Q=>∃ a ns,xs=[.ref a]/\(SqL K H a (List.map V.int ns) ∨ SqT K H a (List.map V.int ns))/\Q (.int ns.sum) H
theorem aiH (hc:X.calm=true):zX X (.builtin "sum") (arq X.K):=by
 intro Kp s σ H xs us Q I r ⟨a,ns,e,hq,q⟩
 subst e
 obtain ⟨u,rfl,rx⟩:=ac2 r
 cases rx
 have hh:=I.ok.hd hc
 rcases hq with hq | hq
 ·obtain ⟨its,rv,pl,hz⟩:=I.list hq
  have hl:its.toArray.size=ns.length:=by have:=rv.length; simp at this ⊢; omega
  refine call_sum_walkG (aaC pl.isList fun h2 it st hlt hne k1 hn=>?_)
  refine ⟨it,[it,a],[it],its.toArray.size,(fun i v=>its.toArray[i]?=some v),_,fun i=>ns.getD i 0,rfl,Walks.list (A:=X.A.in1) hh it a hne its.toArray,st,hlt,fun i v hP=>zl rv hP,fun h3 tk t' k2=>?_⟩
  exact ⟨.int ns.sum,H,I.kept (t':=tk) (ZS k1 hn k2),⟨t',by rw [hl,aa2]⟩,q⟩
 ·obtain ⟨its,rv,pl,hz⟩:=I.tuple hq
  have hl:its.toArray.size=ns.length:=by have:=rv.length; simp at this ⊢; omega
  refine call_sum_walkG (add (show s.heap.IsTuple a its.toArray from pl) fun h2 it st hlt hne k1 hn=>?_)
  refine ⟨it,[it,a],[it],its.toArray.size,(fun i v=>its.toArray[i]?=some v),_,fun i=>ns.getD i 0,rfl,Walks.tuple (A:=X.A.in1) hh it a hne its.toArray,st,hlt,fun i v hP=>zl rv hP,fun h3 tk t' k2=>?_⟩
  exact ⟨.int ns.sum,H,I.kept (t':=tk) (ZS k1 hn k2),⟨t',by rw [hl,aa2]⟩,q⟩
noncomputable def aoX (ds:LP):OP:=match ds with
 | [.list xs]=>(qN xs).map fun ns=> .int ns.sum
 | [.tuple xs]=>(qN xs).map fun ns=> .int ns.sum
 | _=>none
theorem aoY (hc:X.calm=true):ZQ X (.builtin "sum") aoX:=by
 refine ⟨_,aiH hc,fun ds d xs H Q h r k=>?_⟩
 unfold aoX at h
 split at h
 ·rename_i ys
  cases hb:qN ys with
  | none=>simp [hb] at h
  | some ns=>
   have:PyData.int ns.sum=d:=by simpa [hb] using h
   subst this
   obtain ⟨x,q,e1,e2,e3⟩:=r
   cases (show q=[] from e3)
   obtain ⟨a,us,g1,g2,g3⟩:=e2
   subst g1
   rw [Jj hb] at g3
   have:=Reps.ints g3
   subst this
   exact ⟨a,ns,e1,.inl (SqL.of g2),k _ H (jt.refl H) rfl⟩
 ·rename_i ys
  cases hb:qN ys with
  | none=>simp [hb] at h
  | some ns=>
   have:PyData.int ns.sum=d:=by simpa [hb] using h
   subst this
   obtain ⟨x,q,e1,e2,e3⟩:=r
   cases (show q=[] from e3)
   obtain ⟨a,us,g1,g2,g3⟩:=e2
   subst g1
   rw [Jj hb] at g3
   have:=Reps.ints g3
   subst this
   exact ⟨a,ns,e1,.inr g2,k _ H (jt.refl H) rfl⟩
 ·cases h
end
section
variable {prog:Program}{w:World}{A:Around}{E:Value->SP0}{s:Shared}
theorem Qo {it t:Addr}{i:Nat}{ys:Array Value}{x:Value}{Q:Value->SP0} (hit:s.heap.IsTupleIter it t i) (ht:s.heap.IsTuple t ys) (hx:ys[i]?=some x)
  (hQ:∀ h',h'.IsTupleIter it t (i+1)->Heap.SameBut it s.heap h'->Q x { s with heap:=h' }):wpAny (model prog w) A (Builtin.SmallTypes.nextOf (.ref it)) Q E s:=by
 obtain ⟨o,ho,hc,hd⟩:=id hit
 obtain ⟨ot,hot,_,nt,hdt⟩:=ht
 unfold Builtin.SmallTypes.nextOf
 refine wpAny_bind (wpAny_callSpecial?_slot (name:=Str.ofString "__next__") hit.typeIs F.slot_tuple_iterator_next
  (wpAny_call_entry F.slot_tuple_iterator_next hit.typeIs F.entry_tuple_iterator_next ?_
   (F.args_tuple_iterator_next_1 _)))
 refine wpAny_bind (m:=field (.ref it) 0) (wpAny_field ho hd (x:= .ref t) rfl ?_)
 have no:¬ ((Value.ref t == Value.none)=true):=Bool.false_ne_true
 show wpAny _ _ (if (Value.ref t == Value.none)=true then _ else
  _) _ _ s
 rw [if_neg no]
 refine wpAny_bind (m:=field (.ref it) 1) (wpAny_field ho hd (x:= .int i 0) rfl ?_)
 refine wpAny_bind (m:=seqItems? (.ref t)) (wpAny_seqItems hot hdt ?_)
 simp only [Int.toNat_natCast,hx]
 refine wpAny_bind (wpAny_setField ho hd (by simp) (wpAny_pure ⟨x,rfl,wpAny_pure (hQ _ ?_ (Heap.SameBut.update ..))⟩))
 refine ⟨_,Heap.get?_update_self _ ho (Obj.isFreed_of_fields (Obj.data_mapFields hd _)),(Obj.cls_mapFields ..).trans hc,?_⟩
 rw [Obj.data_mapFields hd]
 simp [rawInt]
theorem ade {it t:Addr}{i:Nat}{ys:Array Value}{Q:Value->SP0} (hh:A.handled=none) (hit:s.heap.IsTupleIter it t i) (ht:s.heap.IsTuple t ys) (hx:ys[i]?=none)
  (hE:∀ h' e,Heap.ExtBut it s.heap h'->(∃ o,h'.get? e=some o/\o.cls= .type "StopIteration")->E (.ref e) { s with heap:=h' }):wpAny (model prog w) A (Builtin.SmallTypes.nextOf (.ref it)) Q E s:=by
 obtain ⟨o,ho,hc,hd⟩:=id hit
 obtain ⟨ot,hot,_,nt,hdt⟩:=ht
 unfold Builtin.SmallTypes.nextOf
 refine wpAny_bind (wpAny_callSpecial?_slot (name:=Str.ofString "__next__") hit.typeIs F.slot_tuple_iterator_next
  (wpAny_call_entry F.slot_tuple_iterator_next hit.typeIs F.entry_tuple_iterator_next ?_
   (F.args_tuple_iterator_next_1 _)))
 refine wpAny_bind (m:=field (.ref it) 0) (wpAny_field ho hd (x:= .ref t) rfl ?_)
 have no:¬ ((Value.ref t == Value.none)=true):=Bool.false_ne_true
 show wpAny _ _ (if (Value.ref t == Value.none)=true then _ else
  _) _ _ s
 rw [if_neg no]
 refine wpAny_bind (m:=field (.ref it) 1) (wpAny_field ho hd (x:= .int i 0) rfl ?_)
 refine wpAny_bind (m:=seqItems? (.ref t)) (wpAny_seqItems hot hdt ?_)
 simp only [Int.toNat_natCast,hx]
 refine wpAny_bind (wpAny_rule (wpAny_bind (wpAny_setField ho hd (by simp) ?_)))
 refine wpAny_bind (m:=newExc (.type "StopIteration") []) ?_
 simp only [newExc,newTuple]
 refine wpAny_bind (wpAny_newObj_type ?_ (by size_fits))
 refine wpAny_bind (m:=firstArgMember _ _) (wpAny_of_eq (a:=Value.none)
  (by first | rfl | (simp only [firstArgMember]; rfl)) ?_)
 refine wpAny_newObj_type ?_ (by size_fits)
 simp only [raiseNew]
 refine wpAny_bind (wpAny_handled ?_)
 rw [show A.in1.handled=none from hh]
 refine wpAny_bind (wpAny_pure (wpAny_throw ?_))
 exact hE _ _ (((Heap.SameBut.update ..).extBut.push _).push _) ⟨_,Heap.get?_push_size _ rfl,rfl⟩
noncomputable abbrev ZT (h:Heap) (T:Addr) (a b c:Value):Prop:=h.get? T=some { cls:= .type "tuple",data:= .seq #[a,b,c] }
theorem abS {T:Addr}{a b c x:Value}{k:Nat}{Q:Unit->SP0} (hT:ZT s.heap T a b c)
  (h:∀ h',h'.get? T=some { cls:= .type "tuple",data:= .seq ((#[a,b,c]:Array Value).setIfInBounds k x) }->Heap.SameBut T s.heap h'->Q () { s with heap:=h' }):
  wpAny (model prog w) A (updateSeq T (·.setIfInBounds k x)) Q E s:=by
 refine wpAny_updateSeq hT rfl (h _ ?_ (Heap.SameBut.update ..))
 rw [Heap.get?_update_self _ hT rfl]
 simp [Obj.mapSeq]
structure Apart3 (z TI TO i1 i2 i3 t1 t2 t3:Addr):Prop where
 nd:[z,TO,i1,i2,i3].Nodup
 ti:TI ∉ [z,TO,i1,i2,i3]
 s1:t1 ∉ [z,TO,i1,i2,i3]
 s2:t2 ∉ [z,TO,i1,i2,i3]
 s3:t3 ∉ [z,TO,i1,i2,i3]
structure Zip3 (h:Heap) (z TI TO i1 i2 i3 t1 t2 t3:Addr) (xs ys zs:Array Value) (f0:Value) (k:Nat):Prop where
 hz:IsZip h z TI TO f0
 hTI:ZT h TI (.ref i1) (.ref i2) (.ref i3)
 hTO:∃ a b c,ZT h TO a b c
 g1:h.IsTupleIter i1 t1 k
 g2:h.IsTupleIter i2 t2 k
 g3:h.IsTupleIter i3 t3 k
 a1:h.IsTuple t1 xs
 a2:h.IsTuple t2 ys
 a3:h.IsTuple t3 zs
theorem Zip3.keep {h h':Heap}{z TI TO i1 i2 i3 t1 t2 t3:Addr}{xs ys zs:Array Value}{f0:Value}{k:Nat} (S:Zip3 h z TI TO i1 i2 i3 t1 t2 t3 xs ys zs f0 k)
  (kp:∀ b ∈ [z,TI,TO,i1,i2,i3,t1,t2,t3],∀ o,h.get? b=some o->h'.get? b=some o):Zip3 h' z TI TO i1 i2 i3 t1 t2 t3 xs ys zs f0 k:=by
 obtain ⟨hz,hTI,⟨a,b,c,hTO⟩,⟨o1,e1,r1⟩,⟨o2,e2,r2⟩,⟨o3,e3,r3⟩,⟨p1,f1,q1⟩,⟨p2,f2,q2⟩,⟨p3,f3,q3⟩⟩:=S
 exact ⟨kp z (by simp) _ hz,kp TI (by simp) _ hTI,⟨a,b,c,kp TO (by simp) _ hTO⟩,⟨o1,kp i1 (by simp) _ e1,r1⟩,⟨o2,kp i2 (by simp) _ e2,r2⟩,⟨o3,kp i3 (by simp) _ e3,r3⟩,⟨p1,kp t1 (by simp) _ f1,q1⟩,⟨p2,kp t2 (by simp) _ f2,q2⟩,⟨p3,kp t3 (by simp) _ f3,q3⟩⟩
noncomputable def But (l:List Addr) (h h':Heap):Prop:=∀ b o,b ∉ l->h.get? b=some o->h'.get? b=some o
theorem But.of {b:Addr}{l:List Addr}{h h':Heap} (x:Heap.ExtBut b h h') (hb:b ∈ l):But l h h':=fun c o hc e=>x c o (fun z=>hc (by rw [z]; exact hb)) e
theorem But.trans {l:List Addr}{h h1 h2:Heap} (a:But l h h1) (b:But l h1 h2):But l h h2:=fun c o hc e=>b c o hc (a c o hc e)
theorem aiI {z TI TO i1 i2 i3 t1 t2 t3:Addr}{xs ys zs:Array Value}{k:Nat}{x y v:Value}{Q:Value->SP0} (D:Apart3 z TI TO i1 i2 i3 t1 t2 t3) (S:Zip3 s.heap z TI TO i1 i2 i3 t1 t2 t3 xs ys zs .none k)
  (hx:xs[k]?=some x) (hy:ys[k]?=some y) (hv:zs[k]?=some v)
  (hQ:∀ h',Zip3 h' z TI TO i1 i2 i3 t1 t2 t3 xs ys zs (rawInt s.heap.objs.size) (k+1)->ZT h' s.heap.objs.size x y v->But [z,TO,i1,i2,i3] s.heap h'->Q (.ref s.heap.objs.size) { s with heap:=h' }):
  wpAny (model prog w) A (Builtin.«zip.__next__» ⟨[.ref z],[]⟩) (fun fin s'=>∃ v,fin= .done (.ret v)/\Q v s') E s:=by
 obtain ⟨hz,hTI,⟨a,b,c,hTO⟩,g1,g2,g3,a1,a2,a3⟩:=S
 obtain ⟨nd,ti,s1,s2,s3⟩:=D
 simp only [List.nodup_cons,List.mem_cons,List.not_mem_nil,or_false,not_or] at nd ti s1 s2 s3
 obtain ⟨⟨n1,n2,n3,n4⟩,⟨n5,n6,n7⟩,⟨n8,n9⟩,n10,_⟩:=nd
 obtain ⟨t1z,t1o,t11,t12,t13⟩:=s1
 obtain ⟨t2z,t2o,t21,t22,t23⟩:=s2
 obtain ⟨t3z,t3o,t31,t32,t33⟩:=s3
 obtain ⟨tiz,tio,ti1,ti2,ti3⟩:=ti
 refine wpAny_bind (m:=field (.ref z) 2) (wpAny_field hz rfl (x:= .bool false) rfl ?_)
 refine wpAny_bind (m:=field (.ref z) 3) (wpAny_field hz rfl (x:= .ref TI) rfl ?_)
 refine wpAny_bind (wpAny_seqItems hTI rfl ?_)
 refine wpAny_bind (m:=Builtin.SmallTypes.ownedTupleIsFree (.ref z)) ?_
 unfold Builtin.SmallTypes.ownedTupleIsFree
 refine wpAny_bind (wpAny_field hz rfl (x:= .none) rfl (wpAny_pure ?_))
 simp only [zzM]
 refine wpAny_bind (wpAny_rule ?_)
 refine wpAny_bind (wpAny_field hz rfl (x:= .ref TO) rfl ?_)
 refine wpAny_bind (wpAny_setField_rec hz (by simp) fun h1 hz1 b1=>?_)
 replace hz1:IsZip h1 z TI TO .ellipsis:=hz1
 refine wpAny_bind ?_
 simp only [List.zipIdx_cons,List.zipIdx_nil,List.forIn_cons,List.forIn_nil]
 refine wpAny_bind (wpAny_bind (wpAny_onRaise ?_))
 refine wpAny_bind (m:=Builtin.SmallTypes.nextOf (.ref i1)) ?_
 refine Qo (g1.extBut b1.extBut (Ne.symm n2)) (a1.extBut b1.extBut t1z) hx fun h2 g1' b2=>wpAny_pure ?_
 have o2:ZT h2 TO a b c:=b2.extBut _ _ n5 (b1.extBut _ _ (Ne.symm n1) hTO)
 refine wpAny_bind (wpAny_seqItems o2 rfl ?_)
 refine wpAny_bind (abS o2 fun h3 o3 b3=>?_)
 replace o3:ZT h3 TO x b c:=o3
 refine wpAny_bind (wpAny_letGo (wpAny_pure ?_))
 refine wpAny_bind (wpAny_bind (wpAny_onRaise ?_))
 refine wpAny_bind (m:=Builtin.SmallTypes.nextOf (.ref i2)) ?_
 refine Qo (((g2.extBut b1.extBut (Ne.symm n3)).extBut b2.extBut (Ne.symm n8)).extBut b3.extBut (Ne.symm n6)) (((a2.extBut b1.extBut t2z).extBut b2.extBut t21).extBut b3.extBut t2o) hy fun h4 g2' b4=>wpAny_pure ?_
 have o4:ZT h4 TO x b c:=b4.extBut _ _ n6 o3
 refine wpAny_bind (wpAny_seqItems o4 rfl ?_)
 refine wpAny_bind (abS o4 fun h5 o5 b5=>?_)
 replace o5:ZT h5 TO x y c:=o5
 refine wpAny_bind (wpAny_letGo (wpAny_pure ?_))
 refine wpAny_bind (wpAny_bind (wpAny_onRaise ?_))
 refine wpAny_bind (m:=Builtin.SmallTypes.nextOf (.ref i3)) ?_
 refine Qo (((((g3.extBut b1.extBut (Ne.symm n4)).extBut b2.extBut (Ne.symm n9)).extBut b3.extBut (Ne.symm n7)).extBut b4.extBut (Ne.symm n10)).extBut b5.extBut (Ne.symm n7))
  (((((a3.extBut b1.extBut t3z).extBut b2.extBut t31).extBut b3.extBut t3o).extBut b4.extBut t32).extBut b5.extBut t3o) hv fun h6 g3' b6=>wpAny_pure ?_
 have o6:ZT h6 TO x y c:=b6.extBut _ _ n7 o5
 refine wpAny_bind (wpAny_seqItems o6 rfl ?_)
 refine wpAny_bind (abS o6 fun h7 o7 b7=>?_)
 replace o7:ZT h7 TO x y v:=o7
 refine wpAny_bind (wpAny_letGo (wpAny_pure (wpAny_pure ?_)))
 refine wpAny_bind (wpAny_seqItems o7 rfl ?_)
 refine wpAny_bind (wpAny_newTuple ?_)
 have sz:h7.objs.size=s.heap.objs.size:=by rw [b7.1,b6.1,b5.1,b4.1,b3.1,b2.1,b1.1]
 have B:But [z,TO,i1,i2,i3] s.heap h7:=
  ((((((But.of b1.extBut (by simp)).trans (But.of b2.extBut (by simp))).trans (But.of b3.extBut (by simp))).trans (But.of b4.extBut (by simp))).trans (But.of b5.extBut (by simp))).trans (But.of b6.extBut (by simp))).trans (But.of b7.extBut (by simp))
 have z7:IsZip h7 z TI TO .ellipsis:=b7.extBut _ _ n1 (b6.extBut _ _ n4 (b5.extBut _ _ n1 (b4.extBut _ _ n3 (b3.extBut _ _ n1 (b2.extBut _ _ n2 hz1)))))
 have i17:h7.IsTupleIter i1 t1 (k+1):=((((g1'.extBut b3.extBut (Ne.symm n5)).extBut b4.extBut n8).extBut b5.extBut (Ne.symm n5)).extBut b6.extBut n9).extBut b7.extBut (Ne.symm n5)
 have i27:h7.IsTupleIter i2 t2 (k+1):=((g2'.extBut b5.extBut (Ne.symm n6)).extBut b6.extBut n10).extBut b7.extBut (Ne.symm n6)
 have i37:h7.IsTupleIter i3 t3 (k+1):=g3'.extBut b7.extBut (Ne.symm n7)
 refine wpAny_bind (m:=Builtin.SmallTypes.ownedTupleHandOut (.ref z) (.ref h7.objs.size)) ?_
 unfold Builtin.SmallTypes.ownedTupleHandOut
 have z8:IsZip (h7.push { cls:= .type "tuple",data:= .seq #[x,y,v] }) z TI TO .ellipsis:=Heap.get?_push_of_some _ z7
 refine wpAny_bind (wpAny_setField_rec z8 (by simp) fun h9 z9 b9=>?_)
 replace z9:IsZip h9 z TI TO (rawInt h7.objs.size):=z9
 refine wpAny_setField_rec z9 (by simp) fun h10 z10 b10=>?_
 replace z10:IsZip h10 z TI TO (rawInt h7.objs.size):=z10
 have up:∀ c o,c ≠ z->h7.get? c=some o->h10.get? c=some o:=fun c o c1 e=>b10.extBut _ _ c1 (b9.extBut _ _ c1 (Heap.get?_push_of_some _ e))
 have zlt:z<h7.objs.size:=Heap.lt_size z7
 have T10:ZT h10 h7.objs.size x y v:=b10.extBut _ _ (Nat.ne_of_gt zlt) (b9.extBut _ _ (Nat.ne_of_gt zlt) (Heap.get?_push_size _ rfl))
 rw [sz] at z10 T10
 refine wpAny_pure ⟨_,rfl,?_⟩
 show Q (.ref h7.objs.size) _
 rw [sz]
 have itk:∀ {i t:Addr} {m:Nat},i ≠ z->h7.IsTupleIter i t m->h10.IsTupleIter i t m:=fun ne ⟨o,e,r⟩=>⟨o,up _ o ne e,r⟩
 have tuk:∀ {t:Addr} {us:Array Value},t ∉ [z,TO,i1,i2,i3]->s.heap.IsTuple t us->h10.IsTuple t us:=fun ne ⟨o,e,r⟩=>⟨o,up _ o (fun q=>ne (by simp [q])) (B _ o ne e),r⟩
 refine hQ h10 ⟨z10,up _ _ tiz (B _ _ (by simp [tiz,tio,ti1,ti2,ti3]) hTI),⟨x,y,v,up _ _ (Ne.symm n1) o7⟩,itk (Ne.symm n2) i17,itk (Ne.symm n3) i27,itk (Ne.symm n4) i37,
  tuk (by simp [t1z,t1o,t11,t12,t13]) a1,tuk (by simp [t2z,t2o,t21,t22,t23]) a2,tuk (by simp [t3z,t3o,t31,t32,t33]) a3⟩ T10 fun c o hc e=>up c o (fun q=>hc (by simp [q])) (B c o hc e)
theorem akk {z TI TO i1 i2 i3 t1 t2 t3:Addr}{xs ys zs:Array Value}{k:Nat}{Q:Fin->SP0} (hh:A.handled=none) (D:Apart3 z TI TO i1 i2 i3 t1 t2 t3) (S:Zip3 s.heap z TI TO i1 i2 i3 t1 t2 t3 xs ys zs .none k) (hx:xs[k]?=none)
  (hE:∀ h' e,But [z,TO,i1,i2,i3] s.heap h'->(∃ o,h'.get? e=some o/\o.cls= .type "StopIteration")->E (.ref e) { s with heap:=h' }):
  wpAny (model prog w) A (Builtin.«zip.__next__» ⟨[.ref z],[]⟩) Q E s:=by
 obtain ⟨hz,hTI,⟨a,b,c,hTO⟩,g1,g2,g3,a1,a2,a3⟩:=S
 obtain ⟨nd,ti,s1,s2,s3⟩:=D
 simp only [List.nodup_cons,List.mem_cons,List.not_mem_nil,or_false,not_or] at nd ti s1 s2 s3
 obtain ⟨⟨n1,n2,n3,n4⟩,⟨n5,n6,n7⟩,⟨n8,n9⟩,n10,_⟩:=nd
 refine wpAny_bind (m:=field (.ref z) 2) (wpAny_field hz rfl (x:= .bool false) rfl ?_)
 refine wpAny_bind (m:=field (.ref z) 3) (wpAny_field hz rfl (x:= .ref TI) rfl ?_)
 refine wpAny_bind (wpAny_seqItems hTI rfl ?_)
 refine wpAny_bind (m:=Builtin.SmallTypes.ownedTupleIsFree (.ref z)) ?_
 unfold Builtin.SmallTypes.ownedTupleIsFree
 refine wpAny_bind (wpAny_field hz rfl (x:= .none) rfl (wpAny_pure ?_))
 simp only [zzM]
 refine wpAny_bind (wpAny_rule ?_)
 refine wpAny_bind (wpAny_field hz rfl (x:= .ref TO) rfl ?_)
 refine wpAny_bind (wpAny_setField_rec hz (by simp) fun h1 hz1 b1=>?_)
 replace hz1:IsZip h1 z TI TO .ellipsis:=hz1
 refine wpAny_bind ?_
 simp only [List.zipIdx_cons,List.zipIdx_nil,List.forIn_cons,List.forIn_nil]
 refine wpAny_bind (wpAny_bind (wpAny_onRaise ?_))
 refine wpAny_bind (m:=Builtin.SmallTypes.nextOf (.ref i1)) ?_
 refine ade hh (g1.extBut b1.extBut (Ne.symm n2)) (a1.extBut b1.extBut s1.1) hx fun h2 e b2 he=>?_
 obtain ⟨oe,ho,hc⟩:=he
 have z2:IsZip h2 z TI TO .ellipsis:=b2 _ _ n2 hz1
 have ez:e ≠ z:=fun q=>by subst q; rw [z2] at ho; cases ho; simp at hc
 refine wpAny_setField_rec z2 (by simp) fun h3 _ b3=>?_
 exact hE h3 e (((But.of b1.extBut (by simp)).trans (But.of b2 (by simp))).trans (But.of b3.extBut (by simp))) ⟨oe,b3.extBut _ _ ez ho,hc⟩
end
structure ZipC (h:Heap) (z TI TO i1 i2 i3 t1 t2 t3:Addr) (f0:Value) (k:Nat):Prop where
 hz:IsZip h z TI TO f0
 hTI:ZT h TI (.ref i1) (.ref i2) (.ref i3)
 hTO:∃ a b c,ZT h TO a b c
 g1:h.IsTupleIter i1 t1 k
 g2:h.IsTupleIter i2 t2 k
 g3:h.IsTupleIter i3 t3 k
theorem ZipC.all {h:Heap}{z TI TO i1 i2 i3 t1 t2 t3:Addr}{f0:Value}{k:Nat} (S:ZipC h z TI TO i1 i2 i3 t1 t2 t3 f0 k) {xs ys zs:Array Value} (a1:h.IsTuple t1 xs) (a2:h.IsTuple t2 ys) (a3:h.IsTuple t3 zs):
  Zip3 h z TI TO i1 i2 i3 t1 t2 t3 xs ys zs f0 k:=⟨S.hz,S.hTI,S.hTO,S.g1,S.g2,S.g3,a1,a2,a3⟩
theorem Zip3.c {h:Heap}{z TI TO i1 i2 i3 t1 t2 t3:Addr}{xs ys zs:Array Value}{f0:Value}{k:Nat} (S:Zip3 h z TI TO i1 i2 i3 t1 t2 t3 xs ys zs f0 k):ZipC h z TI TO i1 i2 i3 t1 t2 t3 f0 k:=⟨S.hz,S.hTI,S.hTO,S.g1,S.g2,S.g3⟩
theorem ZipC.keep {h h':Heap}{z TI TO i1 i2 i3 t1 t2 t3:Addr}{f0:Value}{k:Nat} (S:ZipC h z TI TO i1 i2 i3 t1 t2 t3 f0 k) (kp:∀ b ∈ [z,TI,TO,i1,i2,i3],∀ o,h.get? b=some o->h'.get? b=some o):
  ZipC h' z TI TO i1 i2 i3 t1 t2 t3 f0 k:=by
 obtain ⟨hz,hTI,⟨a,b,c,hTO⟩,⟨o1,e1,r1⟩,⟨o2,e2,r2⟩,⟨o3,e3,r3⟩⟩:=S
 exact ⟨kp z (by simp) _ hz,kp TI (by simp) _ hTI,⟨a,b,c,kp TO (by simp) _ hTO⟩,⟨o1,kp i1 (by simp) _ e1,r1⟩,⟨o2,kp i2 (by simp) _ e2,r2⟩,⟨o3,kp i3 (by simp) _ e3,r3⟩⟩
noncomputable def Itz (K:Fg) (t1 t2 t3:Addr):It:=
 ⟨fun i H=>∃ xs ys zs x y v,SqT K H t1 xs/\SqT K H t2 ys/\SqT K H t3 zs/\xs[i]?=some x/\ys[i]?=some y/\zs[i]?=some v,
  fun i H u H'=>∃ p x y v,u= .ref p/\H p=none/\H'=upd H p (.tup [x,y,v])/\∀ xs ys zs,SqT K H t1 xs->SqT K H t2 ys->SqT K H t3 zs->xs[i]?=some x/\ys[i]?=some y/\zs[i]?=some v,
  fun i H=>∃ xs ys zs,SqT K H t1 xs/\SqT K H t2 ys/\SqT K H t3 zs/\xs.length<=i⟩
theorem akl {P:Program}{w:World}{K:Fg}{elts:List Expr}{x1:Nat}{pos:Pos}{z TI TO i1 i2 i3 t1 t2 t3:Addr} (nd:[z,TO,i1,i2,i3].Nodup) (ti:TI ∉ [z,TO,i1,i2,i3]):
  Turn P w K (.Tuple elts x1 pos) (Itz K t1 t2 t3) [z,TI,TO,i1,i2,i3] z (fun i h=>ZipC h z TI TO i1 i2 i3 t1 t2 t3 .none i) where
 mem:=by simp
 obj:=fun i h st b hb=>by
  obtain ⟨hz,hTI,⟨a,b',c,hTO⟩,⟨o1,e1,_,d1⟩,⟨o2,e2,_,d2⟩,⟨o3,e3,_,d3⟩⟩:=st
  simp only [List.mem_cons,List.not_mem_nil,or_false] at hb
  rcases hb with rfl | rfl | rfl | rfl | rfl | rfl
  ·exact ⟨_,hz,fun v q=>by cases q⟩
  ·exact ⟨_,hTI,fun v q=>by cases q⟩
  ·exact ⟨_,hTO,fun v q=>by cases q⟩
  ·exact ⟨o1,e1,fun v q=>by rw [d1] at q; cases q⟩
  ·exact ⟨o2,e2,fun v q=>by rw [d2] at q; cases q⟩
  ·exact ⟨o3,e3,fun v q=>by rw [d3] at q; cases q⟩
 keep:=fun i h h' st k=>st.keep k
 item:=by
  intro X hP hw hK hc i Kp s σ H E I hf st hg
  subst hP hw hK
  obtain ⟨xs,ys,zs,x,y,v,q1,q2,q3,ex,ey,ev⟩:=hg
  obtain ⟨us1,r1,p1,z1⟩:=I.tuple q1
  obtain ⟨us2,r2,p2,z2⟩:=I.tuple q2
  obtain ⟨us3,r3,p3,z3⟩:=I.tuple q3
  obtain ⟨u1,m1,l1⟩:=r1.get ex
  obtain ⟨u2,m2,l2⟩:=r2.get ey
  obtain ⟨u3,m3,l3⟩:=r3.get ev
  have trk:∀ {t:Addr} {ws:List V},SqT X.K H t ws->t ∉ [z,TO,i1,i2,i3]:=fun {t ws} hq hb=>by
   have hb':t ∈ [z,TI,TO,i1,i2,i3]:=by
    simp only [List.mem_cons,List.not_mem_nil,or_false] at hb ⊢
    rcases hb with e | e | e | e | e <;> simp [e]
   rcases hq with (e | ⟨o,e⟩) | ⟨o,its,n,hk,hcl,hs,_,_⟩
   ·have:=(hf t hb').1; rw [e] at this; cases this
   ·have:=(hf t hb').1; rw [e] at this; cases this
   ·-- an object of the module is no iterator of ours
    obtain ⟨f0,f1,f2,f3,f4,f5⟩:=hf t hb'
    have hbase:=I.mod.kin t o hk
    rcases f3 with q | q
    ·exact I.ok.noex t o hbase q
    ·exact absurd (Nat.lt_of_lt_of_le (Heap.lt_size hbase) (Nat.le_trans I.ok.bsz q)) (Nat.lt_irrefl _)
  have D:Apart3 z TI TO i1 i2 i3 t1 t2 t3:=⟨nd,ti,trk q1,trk q2,trk q3⟩
  have S:=st.all (xs:=us1.toArray) (ys:=us2.toArray) (zs:=us3.toArray) p1 p2 p3
  have hT:s.TypeIs (.ref z) "zip":=⟨_,st.hz,rfl⟩
  unfold pyNext
  refine wpAny_bind (wpAny_attempt (wpAny_callSpecial?_slot (name:=Str.ofString "__next__") hT F.slot_zip_next
   (wpAny_call_entry F.slot_zip_next hT F.entry_zip_next (aiI D S (by simpa using m1) (by simpa using m2) (by simpa using m3) fun h1 S1 T1 B1=>wpAny_pure ?_)
    (F.args_zip_next_1 _))))
  refine ⟨_,rfl,?_⟩
  refine wpAny_letOwnedTupleGo_zip (s:={ s with heap:=h1 }) S1.hz fun h2 z2' b2=>?_
  have nT:H s.heap.objs.size=none:=I.hok.fresh (Nat.le_refl _)
  have zlt:z<s.heap.objs.size:=Heap.lt_size st.hz
  have T2:ZT h2 s.heap.objs.size u1 u2 u3:=b2.extBut _ _ (Nat.ne_of_gt zlt) T1
  have B2:But [z,TO,i1,i2,i3] s.heap h2:=B1.trans (But.of b2.extBut (by simp))
  have inF:∀ b ∈ [z,TO,i1,i2,i3],b ∈ [z,TI,TO,i1,i2,i3]:=fun b hb=>by
   simp only [List.mem_cons,List.not_mem_nil,or_false] at hb ⊢
   rcases hb with e | e | e | e | e <;> simp [e]
  have ntr:∀ b u,H b=some u->b ∉ [z,TO,i1,i2,i3]:=fun b u e hb=>by
   have:=(hf b (inF b hb)).1
   rw [e] at this; cases this
  have neT:∀ b u,H b=some u->b ≠ s.heap.objs.size:=fun b u e q=>by rw [q,nT] at e; cases e
  have hok2:HOk X.prog X.w (upd H s.heap.objs.size (.tup [x,y,v])) h2:=fun b u e=>by
   by_cases hb:b=s.heap.objs.size
   ·subst hb
    rw [jq] at e
    cases e
    exact ⟨by show 3<=sizeLine; rw [sizeLine_eq]; decide,[u1,u2,u3],.cons l1 (.cons l2 (.cons l3 .nil)),⟨_,T2,rfl,_,rfl⟩⟩
   ·rw [jo hb] at e
    refine (I.hok b u e).stay (fun c o hc' q=>B2 c o ?_ q) (fun c q=>by rw [jo (neT c _ q)]; exact q) fun c ws q=>by rw [jo (neT c _ q)]; exact q
    rcases hc' with q' | q'
    ·rw [q']; exact ntr b u e
    ·exact ntr c _ q'
  have I2:Inv X Kp σ (upd H s.heap.objs.size (.tup [x,y,v])) { s with heap:=h2,toks:=s.toks }:=by
   refine I.step (g':=s.gens) (d':=s.drawn) (ch:=[z,TO,i1,i2,i3]) (fun b hb=>?_) (fun b o _ _ hb e _=>B2 b o hb e) (fun b o _ _ hb e _=>⟨o.slots,B2 b o hb e⟩) (fun b o hb e n=>?_) (fun b o hb e=>⟨o,B2 b o hb e⟩)
    (fun b ws e=>by rw [jo (neT b _ e)]; exact e) (fun b ob ws e=>by rw [jo (neT b _ e)]; exact e) (fun b ps e=>⟨#[],by rw [jo (neT b _ e),e]; simp⟩) (fun m hm=>?_) hok2 I.bare
   ·obtain ⟨f0,f1,f2,f3,f4,f5⟩:=hf b (inF b hb)
    exact ⟨f3,f1,f4,f5⟩
   ·rw [jo (Nat.ne_of_lt (Heap.lt_size e))]; exact n
   ·obtain ⟨o,es,ep,ho,r⟩:=hm
    refine ⟨o,es,ep,B2 _ o (fun hb=>?_) ho,r⟩
    exact (hf _ (inF _ hb)).2.1 rfl
  refine ⟨.ref s.heap.objs.size,_,I2,rfl,⟨_,x,y,v,rfl,nT,rfl,fun as bs cs g1 g2 g3=>?_⟩,?_,fun b hb=>?_⟩
  ·rw [I.tuple_inj g1 q1,I.tuple_inj g2 q2,I.tuple_inj g3 q3]
   exact ⟨ex,ey,ev⟩
  ·have c1:=S1.c
   obtain ⟨_,hTI,⟨a,b,c,hTO⟩,⟨o1,e1,w1⟩,⟨o2,e2,w2⟩,⟨o3,e3,w3⟩⟩:=c1
   simp only [List.nodup_cons,List.mem_cons,List.not_mem_nil,or_false,not_or] at nd ti
   obtain ⟨⟨n1,n2,n3,n4⟩,_⟩:=nd
   exact ⟨z2',b2.extBut _ _ ti.1 hTI,⟨a,b,c,b2.extBut _ _ (Ne.symm n1) hTO⟩,⟨o1,b2.extBut _ _ (Ne.symm n2) e1,w1⟩,⟨o2,b2.extBut _ _ (Ne.symm n3) e2,w2⟩,⟨o3,b2.extBut _ _ (Ne.symm n4) e3,w3⟩⟩
  ·obtain ⟨o,ho,_⟩:∃ o,s.heap.get? b=some o/\True:=by
    obtain ⟨hz,hTI,⟨a,b',c,hTO⟩,⟨o1,e1,_⟩,⟨o2,e2,_⟩,⟨o3,e3,_⟩⟩:=st
    simp only [List.mem_cons,List.not_mem_nil,or_false] at hb
    rcases hb with rfl | rfl | rfl | rfl | rfl | rfl
    ·exact ⟨_,hz,trivial⟩
    ·exact ⟨_,hTI,trivial⟩
    ·exact ⟨_,hTO,trivial⟩
    ·exact ⟨_,e1,trivial⟩
    ·exact ⟨_,e2,trivial⟩
    ·exact ⟨_,e3,trivial⟩
   rw [jo (Nat.ne_of_lt (Heap.lt_size ho))]
   exact (hf b hb).1
 done:=by
  intro X hP hw hK hc i Kp s σ H E I hf st hg
  subst hP hw hK
  obtain ⟨xs,ys,zs,q1,q2,q3,hl⟩:=hg
  obtain ⟨us1,r1,p1,z1⟩:=I.tuple q1
  obtain ⟨us2,r2,p2,z2⟩:=I.tuple q2
  obtain ⟨us3,r3,p3,z3⟩:=I.tuple q3
  have trk:∀ {t:Addr} {ws:List V},SqT X.K H t ws->t ∉ [z,TO,i1,i2,i3]:=fun {t ws} hq hb=>by
   have hb':t ∈ [z,TI,TO,i1,i2,i3]:=by
    simp only [List.mem_cons,List.not_mem_nil,or_false] at hb ⊢
    rcases hb with e | e | e | e | e <;> simp [e]
   rcases hq with (e | ⟨o,e⟩) | ⟨o,its,n,hk,hcl,hs,_,_⟩
   ·have:=(hf t hb').1; rw [e] at this; cases this
   ·have:=(hf t hb').1; rw [e] at this; cases this
   ·obtain ⟨f0,f1,f2,f3,f4,f5⟩:=hf t hb'
    have hbase:=I.mod.kin t o hk
    rcases f3 with q | q
    ·exact I.ok.noex t o hbase q
    ·exact absurd (Nat.lt_of_lt_of_le (Heap.lt_size hbase) (Nat.le_trans I.ok.bsz q)) (Nat.lt_irrefl _)
  have D:Apart3 z TI TO i1 i2 i3 t1 t2 t3:=⟨nd,ti,trk q1,trk q2,trk q3⟩
  have S:=st.all (xs:=us1.toArray) (ys:=us2.toArray) (zs:=us3.toArray) p1 p2 p3
  have hT:s.TypeIs (.ref z) "zip":=⟨_,st.hz,rfl⟩
  have hlen:=r1.length
  unfold pyNext
  refine wpAny_bind (wpAny_attempt (wpAny_callSpecial?_slot (name:=Str.ofString "__next__") hT F.slot_zip_next
   (wpAny_call_entry F.slot_zip_next hT F.entry_zip_next (akk (I.ok.hd hc) D S (by simp; omega) fun h1 e B1 he=>?_)
    (F.args_zip_next_1 _))))
  obtain ⟨o,ho,hcl⟩:=he
  refine wpAny_bind (wpAny_isInstance (T:="StopIteration") (b:=true) ⟨o,ho,hcl⟩ isSubtype_stop ?_)
  refine wpAny_pure ⟨rfl,?_⟩
  have inF:∀ b ∈ [z,TO,i1,i2,i3],b ∈ [z,TI,TO,i1,i2,i3]:=fun b hb=>by
   simp only [List.mem_cons,List.not_mem_nil,or_false] at hb ⊢
   rcases hb with e | e | e | e | e <;> simp [e]
  have ntr:∀ b u,H b=some u->b ∉ [z,TO,i1,i2,i3]:=fun b u e hb=>by
   have:=(hf b (inF b hb)).1
   rw [e] at this; cases this
  refine I.step (t':=s.toks) (g':=s.gens) (d':=s.drawn) (ch:=[z,TO,i1,i2,i3]) (fun b hb=>?_) (fun b o _ _ hb e _=>B1 b o hb e) (fun b o _ _ hb e _=>⟨o.slots,B1 b o hb e⟩) (fun b o hb e n=>n) (fun b o hb e=>⟨o,B1 b o hb e⟩)
   (fun b ws e=>e) (fun b ob ws e=>e) (fun b ps e=>⟨#[],by rw [e]; simp⟩) (fun m hm=>?_) (fun b u e=>?_) I.bare
  ·obtain ⟨f0,f1,f2,f3,f4,f5⟩:=hf b (inF b hb)
   exact ⟨f3,f1,f4,f5⟩
  ·obtain ⟨o,es,ep,ho,r⟩:=hm
   refine ⟨o,es,ep,B1 _ o (fun hb=>?_) ho,r⟩
   exact (hf _ (inF _ hb)).2.1 rfl
  ·refine (I.hok b u e).stay (fun c o hc' q=>B1 c o ?_ q) (fun c q=>q) fun c ws q=>q
   rcases hc' with q' | q'
   ·rw [q']; exact ntr b u e
   ·exact ntr c _ q'
 self:=fun _ _ _ _ _ st h=>wpAny_pyIter_zip st.hz h
theorem acM (a b c:Value):checkTypeCall "zip" ⟨[a,b,c],[]⟩=pure ():=by kernel_rfl
theorem ad4 (a b c:Value):checkBuiltinCall "zip.__new__" ⟨[.type "zip",a,b,c],[]⟩=pure ():=by kernel_rfl
theorem agm (a b c d:Value):argsOk "object.__init__" ⟨[a,b,c,d],[]⟩:=by
 unfold argsOk
 rw [signature?_of (id:="object.__init__") (n:=['_','_','t','i','n','i','_','_'])
  (o:=['t','c','e','j','b','o']) (by kernel_rfl) F.owner_object]
 kernel_rfl
noncomputable abbrev aoZ (t:Addr):Obj:={ cls:= .type "tuple_iterator",data:= .fields #[.ref t,.int 0 0] }
noncomputable abbrev zh1 (h:Heap) (a:Addr):Heap:=h.push (aoZ a)
noncomputable abbrev zh2 (h:Heap) (a b:Addr):Heap:=(zh1 h a).push (aoZ b)
noncomputable abbrev zh3 (h:Heap) (a b c:Addr):Heap:=(zh2 h a b).push (aoZ c)
noncomputable abbrev zh4 (h:Heap) (a b c:Addr):Heap:=(zh3 h a b c).push { cls:= .type "tuple",data:= .seq #[.ref h.objs.size,.ref (zh1 h a).objs.size,.ref (zh2 h a b).objs.size] }
noncomputable abbrev zh5 (h:Heap) (a b c:Addr):Heap:=(zh4 h a b c).push { cls:= .type "tuple",data:= .seq #[.none,.none,.none] }
noncomputable abbrev zh6 (h:Heap) (a b c:Addr):Heap:=(zh5 h a b c).push { cls:= .type "zip",data:= .fields #[.none,.bool false,.bool false,.ref (zh3 h a b c).objs.size,.ref (zh4 h a b c).objs.size] }
theorem akm (a b c:Addr) (xs ys zs:Array Value):
  Meets (Builtin.«zip.__new__» ⟨[.type "zip",.ref a,.ref b,.ref c],[]⟩) (fun _ R s=>s.heap.IsTuple a xs/\s.heap.IsTuple b ys/\s.heap.IsTuple c zs/\
   R (.ok (.ret (.ref (zh5 s.heap a b c).objs.size))) { s with heap:=zh6 s.heap a b c }):=
 .of_wp fun prog w A R s h=>by
  obtain ⟨hp,g,d,tk,os⟩:=s
  obtain ⟨h1,h2,h3,h⟩:=h
  have hsub:=sub_zip
  have k1:Heap.IsTuple (Shared.heap ⟨hp,g,d,tk,os⟩) a xs:=h1
  have k2:Heap.IsTuple (Shared.heap ⟨zh1 hp a,g,d,tk,os⟩) b ys:=Heap.IsTuple.push h2 _
  have k3:Heap.IsTuple (Shared.heap ⟨zh2 hp a b,g,d,tk,os⟩) c zs:=Heap.IsTuple.push (Heap.IsTuple.push h3 _) _
  wp_walk using wpAny_pyIter_tuple k1,wpAny_pyIter_tuple k2,wpAny_pyIter_tuple k3
  exact ⟨_,rfl,h⟩
section
variable {X:Cx}
noncomputable def aqv (K:Fg) (ta:TA):TI:=fun σ H R=>ta σ H fun vs H1=>∃ a b c xs ys zs,vs=[.ref a,.ref b,.ref c]/\SqT K H1 a xs/\SqT K H1 b ys/\SqT K H1 c zs/\R (Itz K a b c) H1
theorem amQ {ea eb ec:Expr}{elts:List Expr}{x1:Nat}{tp:Pos}{ta:TA}{p pos:Pos} (hg:Gl X "zip") (hm:X.mg "zip"=none) (ha:PA X [ea,eb,ec] ta)
  (hs:starEach [ea,eb,ec] X.env=[(false,eval ea X.env),(false,eval eb X.env),(false,eval ec X.env)]:=by rfl) (hs2:starEach [eb,ec] X.env=[(false,eval eb X.env),(false,eval ec X.env)]:=by rfl):
  PI X (.Tuple elts x1 tp) (.Call (.Name "zip" p) [ea,eb,ec] [] pos) (aqv X.K ta):=by
 intro Kp s σ H R I h
 refine Call_ (Zx I hg hm boot_zip (PyProof.Rows.callWith_type1 (thn (ha pos Kp s σ H _ I h) fun us s1 ⟨vs,H1,I1,r1,q1⟩=>?_) (by rw [hs,hs2]) (by rw [hs2]; rfl)))
 obtain ⟨a,b,c,xs,ys,zs,e,q1,q2,q3,q⟩:=q1
 subst e
 cases r1 with
 | cons r1 rr=>
  cases rr with
  | cons r2 rr=>
   cases rr with
   | cons r3 rr=>
    cases rr
    cases r1; cases r2; cases r3
    obtain ⟨us1,v1,p1,z1⟩:=I1.tuple q1
    obtain ⟨us2,v2,p2,z2⟩:=I1.tuple q2
    obtain ⟨us3,v3,p3,z3⟩:=I1.tuple q3
    refine callType_new F.called_zip (by decide) (acM _ _ _) (ad4 _ _ _) (fun obj=>agm obj _ _ _) F.entry_zip_new
     (akm a b c us1.toArray us2.toArray us3.toArray) ⟨p1,p2,p3,?_⟩
    have n1:(zh1 s1.heap a).objs.size=s1.heap.objs.size+1:=Heap.size_push ..
    have n2:(zh2 s1.heap a b).objs.size=s1.heap.objs.size+2:=by rw [Heap.size_push,n1]
    have n3:(zh3 s1.heap a b c).objs.size=s1.heap.objs.size+3:=by rw [Heap.size_push,n2]
    have n4:(zh4 s1.heap a b c).objs.size=s1.heap.objs.size+4:=by rw [Heap.size_push,n3]
    have n5:(zh5 s1.heap a b c).objs.size=s1.heap.objs.size+5:=by rw [Heap.size_push,n4]
    have g6:(zh6 s1.heap a b c).get? (zh5 s1.heap a b c).objs.size=some _:=Heap.get?_push_size _ rfl
    have g5:(zh6 s1.heap a b c).get? (zh4 s1.heap a b c).objs.size=some _:=Heap.get?_push_of_some _ (Heap.get?_push_size _ rfl)
    have g4:(zh6 s1.heap a b c).get? (zh3 s1.heap a b c).objs.size=some _:=Heap.get?_push_of_some _ (Heap.get?_push_of_some _ (Heap.get?_push_size _ rfl))
    have up3:∀ x o,(zh3 s1.heap a b c).get? x=some o->(zh6 s1.heap a b c).get? x=some o:=fun x o e=>Heap.get?_push_of_some _ (Heap.get?_push_of_some _ (Heap.get?_push_of_some _ e))
    have g3:(zh6 s1.heap a b c).get? (zh2 s1.heap a b).objs.size=some _:=up3 _ _ (Heap.get?_push_size _ rfl)
    have g2:(zh6 s1.heap a b c).get? (zh1 s1.heap a).objs.size=some _:=up3 _ _ (Heap.get?_push_of_some _ (Heap.get?_push_size _ rfl))
    have g1:(zh6 s1.heap a b c).get? s1.heap.objs.size=some _:=up3 _ _ (Heap.get?_push_of_some _ (Heap.get?_push_of_some _ (Heap.get?_push_size _ rfl)))
    have kp:∀ x o,s1.heap.get? x=some o->(zh6 s1.heap a b c).get? x=some o:=fun x o e=>up3 _ _ (Heap.get?_push_of_some _ (Heap.get?_push_of_some _ (Heap.get?_push_of_some _ e)))
    show _/\_
    refine ⟨⟨_,g6,rfl⟩,?_⟩
    refine wpAny_pyIter_zip g6 ?_
    have I2:Inv X Kp σ H1 { s1 with heap:=zh6 s1.heap a b c }:=I1.kept (t':=s1.toks) kp
    refine ⟨_,[(zh5 s1.heap a b c).objs.size,(zh3 s1.heap a b c).objs.size,(zh4 s1.heap a b c).objs.size,s1.heap.objs.size,(zh1 s1.heap a).objs.size,(zh2 s1.heap a b).objs.size],
     _,_,H1,rfl,I2,akl (z:=(zh5 s1.heap a b c).objs.size) (TI:=(zh3 s1.heap a b c).objs.size) (TO:=(zh4 s1.heap a b c).objs.size) (i1:=s1.heap.objs.size) (i2:=(zh1 s1.heap a).objs.size) (i3:=(zh2 s1.heap a b).objs.size) (t1:=a) (t2:=b) (t3:=c) ?_ ?_,
     ⟨g6,g4,⟨_,_,_,g5⟩,⟨_,g1,rfl,rfl⟩,⟨_,g2,rfl,rfl⟩,⟨_,g3,rfl,rfl⟩⟩,fun x hx=>?_,q⟩
    ·rw [n5,n4,n1,n2]
     simp [List.nodup_cons]
    ·rw [n3,n5,n4,n1,n2]
     simp
    ·have hle:s1.heap.objs.size<=x:=by
      rw [n5,n3,n4,n1,n2] at hx
      simp only [List.mem_cons,List.not_mem_nil,or_false] at hx
      rcases hx with e | e | e | e | e | e <;> rw [e] <;> first | exact Nat.le_refl _ | exact Nat.le_add_right _ _
     exact I1.fpOk hle (I1.hok.fresh hle)
noncomputable def QN:LP->LP->LP->LP
 | x::xs,y::ys,z::zs=> .tuple [x,y,z]::QN xs ys zs
 | _,_,_=>[]
noncomputable def ahD (ds:LP):Option (LP):=match ds with
 | [.tuple xs,.tuple ys,.tuple zs]=>if xs.length=ys.length/\ys.length=zs.length then some (QN xs ys zs) else none
 | _=>none
theorem adf:∀ (xs ys zs:LP),xs.length=ys.length->ys.length=zs.length->(QN xs ys zs).length=xs.length
 | [],_,_,_,_=>by simp [QN]
 | x::xs,[],_,h,_=>by simp at h
 | x::xs,y::ys,[],_,h=>by simp at h
 | x::xs,y::ys,z::zs,h,g=>by simp [QN,adf xs ys zs (by simpa using h) (by simpa using g)]
theorem adg:∀ (xs ys zs:LP) (i:Nat) (d:PyData),(QN xs ys zs)[i]?=some d->∃ x y z,xs[i]?=some x/\ys[i]?=some y/\zs[i]?=some z/\d= .tuple [x,y,z]
 | [],_,_,i,d,h=>by simp [QN] at h
 | x::xs,[],_,i,d,h=>by simp [QN] at h
 | x::xs,y::ys,[],i,d,h=>by simp [QN] at h
 | x::xs,y::ys,z::zs,0,d,h=>by simp [QN] at h; exact ⟨x,y,z,rfl,rfl,rfl,h.symm⟩
 | x::xs,y::ys,z::zs,i+1,d,h=>by
  obtain ⟨a,b,c,e1,e2,e3,e4⟩:=adg xs ys zs i d (by simpa [QN] using h)
  exact ⟨a,b,c,by simpa using e1,by simpa using e2,by simpa using e3,e4⟩
theorem akn {ea eb ec:Expr}{elts:List Expr}{x1:Nat}{tp:Pos}{p pos:Pos}{fr:Rho->Option (LP)} (hm:X.mg "zip"=none) (ha:PAD X [ea,eb,ec] fr) (hg:Gl X "zip":=by rfl)
  (hs:starEach [ea,eb,ec] X.env=[(false,eval ea X.env),(false,eval eb X.env),(false,eval ec X.env)]:=by rfl) (hs2:starEach [eb,ec] X.env=[(false,eval eb X.env),(false,eval ec X.env)]:=by rfl):
  PID X (.Tuple elts x1 tp) (.Call (.Name "zip" p) [ea,eb,ec] [] pos) (fun ρ=>(fr ρ).bind ahD):=by
 with_unfolding_all
  refine PI.imp (amQ hg hm ha hs hs2) fun σ H R ⟨ρ,ds,en,q,k⟩=>?_
  cases h1:fr ρ with
  | none=>simp [h1] at q
  | some as=>
   have q':ahD as=some ds:=by simpa [h1] using q
   refine ⟨ρ,as,en,h1,fun vs H1 s1 r1=>?_⟩
   unfold ahD at q'
   split at q'
   ·rename_i xs ys zs
    split at q'
    ·rename_i hl
     cases q'
     obtain ⟨v1,w1,e1,⟨a,us1,ea',qa,ra⟩,v2,w2,e2,⟨b,us2,eb',qb,rb⟩,v3,w3,e3,⟨c,us3,ec',qc,rc⟩,e4⟩:=r1
     cases (show w3=[] from e4)
     subst ea'; subst eb'; subst ec'; subst e3; subst e2
     have l1:=ra.length
     have l2:=rb.length
     have l3:=rc.length
     have lz:=adf xs ys zs hl.1 hl.2
     refine ⟨a,b,c,us1,us2,us3,e1,qa,qb,qc,k _ H1 s1 fun i H2 s2=>⟨fun hi=>?_,fun hi=>?_,fun u H3 y=>?_⟩⟩
     ·rw [lz] at hi
      exact ⟨us1,us2,us3,us1[i]'(by omega),us2[i]'(by omega),us3[i]'(by omega),j9.tup s2 qa,j9.tup s2 qb,j9.tup s2 qc,by simp <;> omega,by simp <;> omega,by simp <;> omega⟩
     ·rw [lz] at hi
      exact ⟨us1,us2,us3,j9.tup s2 qa,j9.tup s2 qb,j9.tup s2 qc,by omega⟩
     ·obtain ⟨pp,x,y,v,e5,e6,e7,e8⟩:=y
      subst e5; subst e7
      refine ⟨jx e6,fun d hd=>?_⟩
      obtain ⟨dx,dy,dz,g1,g2,g3,g4⟩:=adg xs ys zs i d hd
      subst g4
      obtain ⟨f1,f2,f3⟩:=e8 us1 us2 us3 (j9.tup s2 qa) (j9.tup s2 qb) (j9.tup s2 qc)
      have m:=s2.trans (jt.a (jx (o:= .tup [x,y,v]) e6))
      obtain ⟨x',a1,a2⟩:=(Reps.monoA m _ _ ra).get g1
      obtain ⟨y',b1,b2⟩:=(Reps.monoA m _ _ rb).get g2
      obtain ⟨z',c1,c2⟩:=(Reps.monoA m _ _ rc).get g3
      rw [f1] at a1; cases a1
      rw [f2] at b1; cases b1
      rw [f3] at c1; cases c1
      exact ⟨pp,[x,y,v],rfl,SqT.of jq,x,_,rfl,a2,y,_,rfl,b2,v,_,rfl,c2,rfl⟩
    ·cases q'
   ·cases q'
noncomputable def tyn:PyData->String
 | .none=>"NoneType"
 | .bool _=>"bool"
 | .int _=>"int"
 | .str _=>"str"
 | .tuple _=>"tuple"
 | .list _=>"list"
 | .dict kvs=>if zw kvs then "list" else "dict"
noncomputable def isFn:PyData->Bool
 | .dict [(.str _,_)]=>true
 | .dict [(.bool _,_)]=>true
 | _=>false
noncomputable def Zz (T:String) (d:PyData):OP:=if isFn d=true then none else some (.bool (tyn d == T || (T == "int" && tyn d == "bool")))
theorem ako {Kp:List (Addr × Obj)}{σ:St}{H:Hp}{s:Shared}{E:Value->SP0}{Q:Value->SP0}{d:PyData}{v:V}{u c:Value}{b:Bool} (I:Inv X Kp σ H s) (r:Rep X.K H d v) (hF:isFn d=false) (rv:jK v u)
  (e:PySem.W.kitOne X.K (.type (tyn d)) c=some b) (h:∀ tk,Q (.bool b) { s with toks:=tk }):wpAny (model X.prog X.w) X.A (call (.builtin "isinstance") [u,c]) Q E s:=by
 cases d with
 | none=>cases r; cases rv; exact PySem.W.kia_one PySem.W.kitx_none I.kIn True.intro e (fun z=>nomatch z) h
 | bool y=>cases r; cases rv; exact PySem.W.kia_one PySem.W.kitx_bool I.kIn True.intro e (fun z=>nomatch z) h
 | int i=>cases r; obtain ⟨t,rfl⟩:=rv; exact PySem.W.kia_one PySem.W.kitx_int I.kIn True.intro e (fun z=>nomatch z) h
 | str y=>cases r; obtain ⟨t,rfl⟩:=rv; exact PySem.W.kia_one PySem.W.kitx_str I.kIn True.intro e (fun z=>nomatch z) h
 | tuple ds=>
  obtain ⟨a,xs,e1,e2,e3⟩:=r
  subst e1; cases rv
  obtain ⟨its,_,⟨o,h1,h2,_⟩,_⟩:=I.tuple e2
  exact PySem.W.kia_one PySem.W.kitx_tuple I.kIn ⟨o,h1,h2⟩ e (fun z=>nomatch z) h
 | list ds=>
  obtain ⟨a,xs,e1,e2,e3⟩:=r
  subst e1; cases rv
  obtain ⟨its,_,⟨o,n,h1,h2,_⟩,_⟩:=I.list (SqL.of e2)
  exact PySem.W.kia_one PySem.W.kitx_list I.kIn ⟨o,h1,h2⟩ e (fun z=>nomatch z) h
 | dict ds=>
  obtain ⟨a,e1,⟨ns,e2,e3⟩ | ⟨ks,ob,e2,e3⟩ | ⟨x,e2,_⟩ | ⟨x,_,_,e2,_⟩ | e2⟩:=r
  ·subst e1; cases rv
   subst e3
   have e:PySem.W.kitOne X.K (.type "list") c=some b:=by simpa [tyn,ada] using e
   obtain ⟨its,_,⟨o,n,h1,h2,_⟩,_⟩:=I.list e2
   exact PySem.W.kia_one PySem.W.kitx_list I.kIn ⟨o,h1,h2⟩ e (fun z=>nomatch z) h
  ·subst e1; cases rv
   obtain ⟨cc,rr,rfl,e4⟩:=e3.out
   have e:PySem.W.kitOne X.K (.type "dict") c=some b:=by simpa [tyn,zw] using e
   obtain ⟨_,_,vs,_,dd⟩:=aa0 I.hok (.inr ⟨ob,e2⟩)
   obtain ⟨o,es,ep,h1,h2,_⟩:=dd
   exact PySem.W.kia_one PySem.W.kitx_dict I.kIn ⟨o,h1,h2.1⟩ e (fun z=>nomatch z) h
  ·subst e2; simp [isFn] at hF
  ·subst e2; simp [isFn] at hF
  ·subst e2; simp [isFn] at hF
noncomputable def arr (K:Fg) (T:String):List V->Hp->VK->Prop:=fun xs H Q=>∃ x d b,xs=[x,.ty T]/\Rep K H d x/\isFn d=false/\PySem.W.kitOne K (.type (tyn d)) (.type T)=some b/\Q (.bl b) H
theorem ae6 {T:String}:zX X (.builtin "isinstance") (arr X.K T):=by
 intro Kp s σ H xs us Q I r ⟨x,d,b,e,h1,hF,h2,q⟩
 subst e
 obtain ⟨u,w',rfl,r1,r2⟩:=ajV r
 cases (show w'=_ from r2)
 exact ako I h1 hF r1 h2 fun tk=>⟨.bl b,H,I.tok tk,rfl,q⟩
noncomputable def Jt (T:String) (d:PyData):Bool:=tyn d == T || (T == "int" && tyn d == "bool")
@[simp] theorem apO (T:String):Zz T .none=some (.bool (Jt T .none)):=rfl
@[simp] theorem apP (T:String) (b:Bool):Zz T (.bool b)=some (.bool (Jt T (.bool b))):=rfl
@[simp] theorem aqw (T:String) (i:Int):Zz T (.int i)=some (.bool (Jt T (.int i))):=rfl
@[simp] theorem aqx (T:String) (x:Str):Zz T (.str x)=some (.bool (Jt T (.str x))):=rfl
@[simp] theorem ao0 (T:String) (ds:LP):Zz T (.tuple ds)=some (.bool (Jt T (.tuple ds))):=rfl
@[simp] theorem apQ (T:String) (ds:LP):Zz T (.list ds)=some (.bool (Jt T (.list ds))):=rfl
theorem ae7 {T:String}{d e:PyData} (h:Zz T d=some e):isFn d=false/\e= .bool (Jt T d):=by
 unfold Zz at h
 split at h
 ·cases h
 ·rename_i hf; cases h; exact ⟨by simpa using hf,rfl⟩
theorem amR {K:Fg}{T:String} (hT:T="bool" ∨ T="int" ∨ T="tuple") (d:PyData):PySem.W.kitOne K (.type (tyn d)) (.type T)=some (Jt T d):=by
 rcases hT with rfl | rfl | rfl <;> cases d <;> first | rfl | (rename_i kvs; by_cases h:zw kvs=true <;> simp only [tyn,Jt,h] <;> rfl)
theorem aaD {a:Expr}{fa:RP}{T:Str}{Tn:String}{p p2 pos:Pos} (hT:Tn="bool" ∨ Tn="int" ∨ Tn="tuple") (hm1:X.mg "isinstance"=none) (hm2:X.mg T=none) (hv:bootBuiltins T=some (.type Tn)) (ha:PD X a fa)
  (hg1:Gl X "isinstance":=by rfl) (hg2:Gl X T:=by rfl) (hn:T ≠ "__name__":=by decide) (hd:(T == ("__debug__":Str))=false:=by decide)
  (he:starEach [a,.Name T p2] X.env=[(false,eval a X.env),(false,eval (.Name T p2) X.env)]:=by rfl) (he2:starEach [.Name T p2] X.env=[(false,eval (.Name T p2) X.env)]:=by rfl) (hpl:(backTo pos (starEach [.Name T p2] X.env)).any (·.1)=false:=by rfl):
  PD X (.Call (.Name "isinstance" p) [a,.Name T p2] [] pos) (fun ρ=>(fa ρ).bind fun d=>Zz Tn d):=by
 with_unfolding_all
  have hT2:PE X (.Name T p2) (tC (.ty Tn)):=aho hg2 hm2 hv rfl hn hd
  refine PE.imp (abC (ae6 (T:=Tn)) hg1 hm1 (by decide +kernel) (zF ha (zF hT2 QG (by rw [he2]; rfl)) (by rw [he,he2])) (by decide) (by decide) (by rw [he,he2]) hpl) fun σ H Q ⟨ρ,d,en,q,k⟩=>?_
  cases h1:fa ρ with
  | none=>simp [h1] at q
  | some c=>
   obtain ⟨hF,rfl⟩:=ae7 (show Zz Tn c=some d by simpa [h1] using q)
   exact ⟨ρ,c,en,h1,fun v H1 s1 r1=>⟨v,c,_,rfl,r1,hF,amR hT c,k _ H1 s1 rfl⟩⟩
end
noncomputable def zx (H H':Hp):Prop:=∀ b o,H b=some o->(∀ xs,o ≠ .lst xs)->H' b=some o
theorem jt.n {H H':Hp} (e:jt H H'):zx H H':=fun b o h _=>e b o h
theorem zx.refl (H:Hp):zx H H:=fun _ _ h _=>h
theorem zx.trans {H H1 H2:Hp} (a:zx H H1) (b:zx H1 H2):zx H H2:=fun c o h n=>b c o (a c o h n) n
theorem zx.upd {H:Hp}{p:Addr}{xs ys:List V} (hp:H p=some (.lst xs)):zx H (upd H p (.lst ys)):=fun b o h n=>by
 have:b ≠ p:=fun e=>by subst e; rw [hp] at h; cases h; exact n _ rfl
 rw [jo this]; exact h
mutual
noncomputable def noL:PyData->Bool
 | .none=>true
 | .bool _=>true
 | .int _=>true
 | .str _=>true
 | .tuple ds=>noLs ds
 | .list _=>false
 | .dict _=>false
noncomputable def noLs:LP->Bool
 | []=>true
 | d::ds=>noL d && noLs ds
end
section
variable {K:Fg}{H H':Hp}
theorem zx.tup {a:Addr}{xs:List V} (e:zx H H') (h:SqT K H a xs):SqT K H' a xs:=by
 rcases h with (h | ⟨o,h⟩) | h
 ·exact .inl (.inl (e _ _ h fun _ z=>nomatch z))
 ·exact .inl (.inr ⟨o,e _ _ h fun _ z=>nomatch z⟩)
 ·exact .inr h
mutual
theorem Rep.monoN (e:zx H H'):∀ (d:PyData) (v:V),noL d=true->Rep K H d v->Rep K H' d v
 | .none,v,_,h=>h
 | .bool _,v,_,h=>h
 | .int _,v,_,h=>h
 | .str _,v,_,h=>h
 | .tuple ds,v,n,⟨a,xs,h1,h2,h3⟩=>⟨a,xs,h1,zx.tup e h2,Reps.monoN e ds xs (by simpa [noL] using n) h3⟩
 | .list ds,v,n,h=>by simp [noL] at n
 | .dict ds,v,n,h=>by simp [noL] at n
theorem Reps.monoN (e:zx H H'):∀ (ds:LP) (xs:List V),noLs ds=true->Reps K H ds xs->Reps K H' ds xs
 | [],xs,_,h=>h
 | d::ds,xs,n,⟨x,r,h1,h2,h3⟩=>by
  have n':noL d=true/\noLs ds=true:=by simpa [noLs] using n
  exact ⟨x,r,h1,Rep.monoN e d x n'.1 h2,Reps.monoN e ds r n'.2 h3⟩
end
theorem QO:∀ (ds es:LP),noLs (ds++es)=(noLs ds && noLs es)
 | [],es=>by simp [noLs]
 | d::ds,es=>by simp [noLs,QO ds es,Bool.and_assoc]
theorem QP:∀ {ds:LP},(∀ d ∈ ds,noL d=true)->noLs ds=true
 | [],_=>rfl
 | d::ds,h=>by simp [noLs,h d List.mem_cons_self,QP fun x hx=>h x (List.mem_cons_of_mem _ hx)]
end
end BX
end
section
namespace BX
open PySem PySem.Spec L2
open PyProof.Rows hiding St
noncomputable def jk (P:Program) (w:World) (K:Fg) (mg:SV) (base:Heap) (x:Str) (ps:List Str) (k n:Nat) (g:LP->OP):Prop:=
 ∃ (f:Addr) (fd:FuncData),FnOk P w K mg base CX0 k f fd ps (Pur K n g)/\mg x=some (.ref f)/\PySem.W.keepIn K (.ref f)=true/\ZN K fd ps []
theorem jm:∀ (ρ:Rho) (ds:LP),jJ ρ=some ds->ds.length=0:=fun ρ ds h=>by cases h; rfl
theorem jc {fa:RP}{fr:Rho->Option (LP)}{n:Nat} (h:∀ (ρ:Rho) (ds:LP),fr ρ=some ds->ds.length=n):∀ (ρ:Rho) (ds:LP),jr fa fr ρ=some ds->ds.length=n+1:=fun ρ ds q=>by
 cases h1:fa ρ with
 | none=>simp [jr,h1] at q
 | some x=>
  cases h2:fr ρ with
  | none=>simp [jr,h1,h2] at q
  | some r=>
   have:x::r=ds:=by simpa [jr,h1,h2] using q
   subst this
   simp [h ρ r h2]
section
variable {X:Cx}{e:Expr}{es:List Expr}{pos:Pos}
theorem jh {k j n:Nat}{ps:List Str}{g:LP->OP}{x:Str}{p:Pos}{fr:Rho->Option (LP)} (c:jk X.prog X.w X.K X.mg X.base x ps k n g) (hr:Room j X.A) (hkj:k<=j) (ha:PAD X (e::es) fr)
  (hl:∀ (ρ:Rho) (ds:LP),fr ρ=some ds->ds.length=n) (hn:(e::es).length=n:=by rfl) (hg:Gl X x:=by rfl) (hdb:(x == ("__debug__":Str))=false:=by decide) (he:starEach (e::es) X.env=(false,eval e X.env)::starEach es X.env:=by rfl)
  (hpl:(backTo pos (starEach es X.env)).any (·.1)=false:=by rfl):PD X (.Call (.Name x p) (e::es) [] pos) (jP g fr):=by
 with_unfolding_all
  obtain ⟨f,fd,h1,h2,h3,h4⟩:=c
  exact amM h1 (hr.mono hkj) h2 h3 h4 hn ha (fun ρ ds q=>by rw [hl ρ ds q,hn]) hg hdb he hpl
end
theorem QQ {ft:Rho->Option Bool}{fe:RP}{i:Nat} (p:PyData->Bool) (h:PyData->PyData):∀ (ds:LP) (τ:Rho),(∀ d ∈ ds,ft (τ.set i (some d))=some (p d))->(∀ d ∈ ds,p d=true->fe (τ.set i (some d))=some (h d))->
  j0 (jE i) ft fe ds τ=some ((ds.filter p).map h)
 | [],τ,_,_=>rfl
 | d::ds,τ,h1,h2=>by
  have ih:=QQ p h ds (τ.set i (some d)) (fun c hc=>by rw [List.set_set]; exact h1 c (List.mem_cons_of_mem _ hc)) (fun c hc hp=>by rw [List.set_set]; exact h2 c (List.mem_cons_of_mem _ hc) hp)
  simp only [j0,jE,zzD,h1 d List.mem_cons_self]
  by_cases hp:p d=true
  ·simp [hp,h2 d List.mem_cons_self hp,ih,List.filter_cons]
  ·simp [hp,ih,List.filter_cons]
theorem Zd {fe:RP}{i:Nat} (h:PyData->PyData) (ds:LP) (τ:Rho) (h2:∀ d ∈ ds,fe (τ.set i (some d))=some (h d)):j0 (jE i) abQ fe ds τ=some (ds.map h):=by
 rw [QQ (fun _=>true) h ds τ (fun _ _=>rfl) (fun d hd _=>h2 d hd),List.filter_eq_self.mpr (fun _ _=>rfl)]
noncomputable def ahE (st:Scope) (N:List Str) (sc:Scope) (N':List Str) (cap:List (Option Nat)):Bool:=
 sc.names.all (fun x=>!decide (x.2= .free) || decide (st.names.lookup x.1=some .cell) || decide (st.names.lookup x.1=some .free)) && sc.names.all (fun x=>!decide (x.2= .cell)) && decide (sc.kind= .function) &&
 sc.names.all (fun x=>!decide (x.2= .local) || decide (sc.names.lookup x.1=some .local)) && decide (cap.length=N'.length) &&
 (List.range N'.length).all (fun j=>match N'[j]?,cap[j]? with
  | some x,some (some i)=>decide (N[i]?=some x) && decide (sc.names.lookup x=some .free)
  | _,_=>true)
theorem zI {X:Cx}{sc:Scope}{N':List Str}{cap:List (Option Nat)} (st:Scope) (N:List Str) (h:ahE st N sc N' cap=true) (hst:X.env.scope=st:=by rfl) (hN:X.N=N:=by rfl):CompOk X sc N' cap:=by
 simp only [ahE,Bool.and_eq_true,List.all_eq_true,Bool.or_eq_true,Bool.not_eq_true',decide_eq_true_eq,decide_eq_false_iff_not] at h
 obtain ⟨⟨⟨⟨⟨h1,h2⟩,h3⟩,h4⟩,h5⟩,h6⟩:=h
 subst hst; subst hN
 refine ⟨fun x hx e=>?_,h2,h3,fun x hx e=>?_,h5,fun j i x e1 e2=>?_⟩
 ·rcases h1 x hx with (z | z) | z
  ·exact absurd e z
  ·exact .inl z
  ·exact .inr z
 ·rcases h4 x hx with z | z
  ·exact absurd e z
  ·exact z
 ·have hj:j<N'.length:=(List.getElem?_eq_some_iff.mp e1).1
  have:=h6 j (List.mem_range.mpr hj)
  rw [e1,e2] at this
  simpa using this
section
variable {X:Cx}{Kp:List (Addr × Obj)}{σ:St}{H:Hp}{s:Shared}
end
noncomputable def lob (us:Array Value) (c:Nat):Obj:={ cls:= .type "list",data:= .seq us c }
structure Own1 (X:Cx) (Kp:List (Addr × Obj)) (b:Addr):Prop where
 h1:b ≠ X.env.locals
 h2:b ∉ X.fs
 h3:X.s₀.heap.objs.size<=b
 h4:∀ x c,X.env.cells.lookup x=some c->c ≠ b
 h5:∀ p ∈ X.pn++Kp,p.1 ≠ b
theorem amS {h:Heap}{S:Addr}{us ws:Array Value}{c:Nat} (ho:h.get? S=some (lob us c)):∃ c2,(h.update S (Obj.mapSeq fun _=>ws)).get? S=some (lob ws c2):=by
 have e:=Heap.get?_update_self (Obj.mapSeq fun _=>ws) ho rfl
 exact ⟨_,e⟩
theorem agn:bootBuiltins "min"=some (.builtin "min"):=by decide +kernel
theorem ago:bootBuiltins "max"=some (.builtin "max"):=by decide +kernel
section
variable {X:Cx}{a:Expr}{fa:RP}{pos p p2 p3 kp kp2:Pos}{j3:Nat}
end
noncomputable def ahF:Int->List Int->Int
 | b,[]=>b
 | b,d::r=>if d > b then ahF d r else ahF b r
noncomputable def ao1:Option Int->List Int->PyData
 | none,[]=> .none
 | none,d::r=> .int (ahF d r)
 | some b,r=> .int (ahF b r)
section
variable {X:Cx}{a:Expr}{fa:RP}{pos p p3 kp2:Pos}{j3:Nat}
end
end BX
end
section
namespace BX.Srt
open PySem PySem.W
open PyProof.Rows (mirror bubble mirror_size mirror_perm bubble_size bubble_perm getElem?_mirror_all getElem?_bubble)
section
variable (rk:Nat->Int) (n:Nat)
noncomputable def val (p:Array Nat) (k:Nat):Int:=rk (p.getD k 0)
noncomputable def Qp (p:Array Nat) (m:Nat):Prop:=∀ i j,i<=j->j<m->val rk p i<=val rk p j
noncomputable def abT (p:Array Nat) (m:Nat):Prop:=∀ i j,i<=j->j<m->val rk p j<=val rk p i
noncomputable def ae8 (p:Array Nat) (m q:Nat):Prop:=∀ i,m - (q+1)<=i->i<m->val rk p i=val rk p (m - 1)
noncomputable def OKp (p:Array Nat):Prop:=p.Perm (List.range n).toArray
end
section
variable {rk:Nat->Int}{n:Nat}{p p':Array Nat}
theorem OKp.size (h:OKp n p):p.size=n:=by
 have:=h.size_eq
 simpa using this
theorem OKp.lt (h:OKp n p) {k:Nat} (hk:k<n):p.getD k 0<n:=by
 have hs:=h.size
 have e:p.getD k 0=p[k]'(by omega):=by simp [Array.getD,hs,hk]
 have:p[k]'(by omega) ∈ (List.range n).toArray:=h.mem_iff.mp (Array.getElem_mem _)
 rw [e]
 simpa using this
theorem Qq (p:Array Nat) (k:Nat):p.getD k 0=(p[k]?).getD 0:=by simp [Array.getD_eq_getD_getElem?]
theorem abj {i j k:Nat} (hj:j<=p.size):val rk (kas_rev p i j) k=if i<=k/\k<j then val rk p (i+j - 1 - k) else val rk p k:=by
 unfold val kas_rev
 rw [Qq,getElem?_mirror_all hj]
 by_cases h:i<=k/\k<j
 ·rw [if_pos h,if_pos h,←Qq]
 ·rw [if_neg h,if_neg h,←Qq]
theorem ahG {src d k:Nat} (hs:src<p.size) (hd:d<=src):val rk (bubble p src d) k=if k=src - d then val rk p src else if src - d<k/\k<=src then val rk p (k - 1) else val rk p k:=by
 unfold val
 rw [Qq,getElem?_bubble hs d hd k]
 by_cases h:k=src - d
 ·rw [if_pos h,if_pos h,←Qq]
 ·rw [if_neg h,if_neg h]
  by_cases h2:src - d<k/\k<=src
  ·rw [if_pos h2,if_pos h2,←Qq]
  ·rw [if_neg h2,if_neg h2,←Qq]
theorem OKp.rev (h:OKp n p) (i j:Nat):OKp n (kas_rev p i j):=(mirror_perm p i j _).trans h
theorem OKp.bub (h:OKp n p) (i j:Nat):OKp n (bubble p i j):=(bubble_perm p i j).trans h
theorem ZA {m q k:Nat} (hm:m<=p.size) (hq:q+1<=m) (h:ae8 rk p m q):val rk (kas_rev p (m - (q+1)) m) k=val rk p k:=by
 rw [abj hm]
 split
 ·rename_i hk
  rw [h _ (by omega) (by omega),h k hk.1 hk.2]
 ·rfl
end
variable {rk:Nat->Int}{n:Nat}{cmp:Nat->Nat->(Bool->SP0)->SP0}
section
variable {s:Shared} (hc:∀ i j (C:Bool->SP0),i<n->j<n->C (decide (rk i<rk j)) s->cmp i j C s)
include hc
theorem abU {α:Type}{p:Array Nat}{a b:Nat}{k:Bool->KasT α}{Q:α->SP0} (h:OKp n p) (ha:a<n) (hb:b<n) (h1:val rk p a<val rk p b->(k true).kasWp cmp Q s) (h2:val rk p b<=val rk p a->(k false).kasWp cmp Q s):
  (KasT.ask (p.getD a 0) (p.getD b 0) k).kasWp cmp Q s:=by
 refine hc _ _ _ (h.lt ha) (h.lt hb) ?_
 by_cases hl:rk (p.getD a 0)<rk (p.getD b 0)
 ·simp only [hl,decide_true]; exact h1 hl
 ·simp only [hl,decide_false]; exact h2 (Int.not_lt.mp hl)
theorem agp {p:Array Nat} (h:OKp n p):∀ (f m:Nat) (Q:Nat->SP0),1<=m->m+f<=n->Qp rk p m->
  (∀ m',m<=m'->m'<=m+f->Qp rk p m'->(m'=m+f ∨ val rk p m' < val rk p (m' - 1))->Q m' s)->(kas_asc p f m).kasWp cmp Q s
 | 0,m,Q,_,_,hs,k=>k m (Nat.le_refl _) (Nat.le_refl _) hs (.inl rfl)
 | f+1,m,Q,h1,h2,hs,k=>by
  refine abU hc h (by omega) (by omega) (fun hl=>?_) (fun hl=>?_)
  ·show (if true=true then KasT.ret m else kas_asc p f (m+1)).kasWp cmp Q s
   rw [if_pos rfl]
   exact k m (Nat.le_refl _) (by omega) hs (.inr hl)
  ·show (if false=true then KasT.ret m else kas_asc p f (m+1)).kasWp cmp Q s
   rw [if_neg Bool.false_ne_true]
   refine agp h f (m+1) Q (by omega) (by omega) (fun i j hij hj=>?_) fun m' a1 a2 a3 a4=>k m' (by omega) (by omega) a3 (a4.elim (fun e=> .inl (by omega)) .inr)
   by_cases hjm:j<m
   ·exact hs i j hij hjm
   ·have ej:j=m:=by omega
    subst ej
    by_cases him:i<j
    ·exact Int.le_trans (hs i (j - 1) (by omega) (by omega)) hl
    ·have ei:i=j:=by omega
     subst ei; exact Int.le_refl _
theorem abk:∀ (f:Nat) (p:Array Nat) (m q:Nat) (Q:Array Nat × Nat × Nat->SP0),OKp n p->q+1<=m->m+f<=n->abT rk p m->ae8 rk p m q->
  (∀ p' m' q',OKp n p'->q'+1<=m'->m'<=m+f->abT rk p' m'->ae8 rk p' m' q'->Q (p',m',q') s)->(kas_desc f p m q).kasWp cmp Q s
 | 0,p,m,q,Q,h,h1,h2,hn,he,k=>k p m q h h1 (Nat.le_refl _) hn he
 | f+1,p,m,q,Q,h,h1,h2,hn,he,k=>by
  have hsz:=h.size
  have grow:∀ {p':Array Nat},(∀ i,val rk p' i=val rk p i)->val rk p m<=val rk p (m - 1)->abT rk p' (m+1):=fun {p'} hv hl i j hij hj=>by
   rw [hv,hv]
   by_cases hjm:j<m
   ·exact hn i j hij hjm
   ·have ej:j=m:=by omega
    subst ej
    by_cases him:i<j
    ·exact Int.le_trans hl (hn i (j - 1) (by omega) (by omega))
    ·have ei:i=j:=by omega
     subst ei; exact Int.le_refl _
  refine abU hc h (by omega) (by omega) (fun hl=>?_) (fun hl=>?_)
  ·show (if true=true then (if q > 0 then kas_desc f (kas_rev p (m - (q+1)) m) (m+1) 0 else kas_desc f p (m+1) 0) else _).kasWp cmp Q s
   rw [if_pos rfl]
   have er:∀ {p':Array Nat},ae8 rk p' (m+1) 0:=fun {p'} i h3 h4=>by
    have e:i=m+1 - 1:=by omega
    rw [e]
   by_cases hq:q > 0
   ·rw [if_pos hq]
    exact abk f _ (m+1) 0 Q (h.rev _ _) (by omega) (by omega) (grow (fun i=>ZA (by omega) h1 he) (Int.le_of_lt hl)) er fun p' m' q' a1 a2 a3 a4 a5=>k p' m' q' a1 a2 (by omega) a4 a5
   ·rw [if_neg hq]
    exact abk f p (m+1) 0 Q h (by omega) (by omega) (grow (fun _=>rfl) (Int.le_of_lt hl)) er fun p' m' q' a1 a2 a3 a4 a5=>k p' m' q' a1 a2 (by omega) a4 a5
  ·show (if false=true then _ else KasT.ask (p.getD (m - 1) 0) (p.getD m 0) fun d=>if d=true then .ret (p,m,q) else kas_desc f p (m+1) (q+1)).kasWp cmp Q s
   rw [if_neg Bool.false_ne_true]
   refine abU hc h (by omega) (by omega) (fun hl2=>?_) (fun hl2=>?_)
   ·show (if true=true then KasT.ret (p,m,q) else kas_desc f p (m+1) (q+1)).kasWp cmp Q s
    rw [if_pos rfl]
    exact k p m q h h1 (by omega) hn he
   ·show (if false=true then KasT.ret (p,m,q) else kas_desc f p (m+1) (q+1)).kasWp cmp Q s
    rw [if_neg Bool.false_ne_true]
    have eq:val rk p m=val rk p (m - 1):=Int.le_antisymm hl2 hl
    refine abk f p (m+1) (q+1) Q h (by omega) (by omega) (grow (fun _=>rfl) hl2) (fun i h3 h4=>?_) fun p' m' q' a1 a2 a3 a4 a5=>k p' m' q' a1 a2 (by omega) a4 a5
    have e1:m+1 - 1=m:=by omega
    rw [e1]
    by_cases him:i<m
    ·rw [he i (by omega) him,eq]
    ·have ei:i=m:=by omega
     rw [ei]
theorem ahH {p:Array Nat}{m:Nat}{Q:Nat × Array Nat->SP0} (h:OKp n p) (h1:1<=m) (h2:m<=n) (hn:abT rk p m) (k:∀ m' p',OKp n p'->1<=m'->m'<=n->Qp rk p' m'->Q (m',p') s):(kas_tail3 m n p).kasWp cmp Q s:=by
 have hsz:=h.size
 unfold kas_tail3
 rw [KasT.kasWp_bind]
 refine agp hc (h.rev 0 m) (n - m) m _ h1 (by omega) (fun i j hij hj=>?_) fun m' a1 a2 a3 _=>k m' _ (h.rev 0 m) (by omega) (by omega) a3
 rw [abj (by omega),abj (by omega),if_pos ⟨Nat.zero_le _,by omega⟩,if_pos ⟨Nat.zero_le _,hj⟩]
 exact hn _ _ (by omega) (by omega)
theorem aa3 {p:Array Nat}{m:Nat}{Q:Nat × Array Nat->SP0} (h:OKp n p) (h2:m+1<=n) (hn:abT rk p (m+1)) (k:∀ m' p',OKp n p'->1<=m'->m'<=n->Qp rk p' m'->Q (m',p') s):
  (kas_descPart m n p).kasWp cmp Q s:=by
 unfold kas_descPart
 rw [KasT.kasWp_bind]
 have er:ae8 rk p (m+1) 0:=fun i h3 h4=>by
  have e:i=m+1 - 1:=by omega
  rw [e]
 refine abk hc (n - (m+1)) p (m+1) 0 _ h (by omega) (by omega) hn er fun p' m' q' a1 a2 a3 a4 a5=>?_
 have hsz:=a1.size
 show (if q' > 0 then kas_tail3 m' n (kas_rev p' (m' - (q'+1)) m') else kas_tail3 m' n p').kasWp cmp Q s
 by_cases hq:q' > 0
 ·rw [if_pos hq]
  refine ahH hc (a1.rev _ _) (by omega) (by omega) (fun i j hij hj=>?_) k
  rw [ZA (by omega) a2 a5,ZA (by omega) a2 a5]
  exact a4 i j hij hj
 ·rw [if_neg hq]
  exact ahH hc a1 (by omega) (by omega) a4 k
theorem akp {p:Array Nat}{Q:Nat × Array Nat->SP0} (h:OKp n p) (hn1:1<=n) (k:∀ m' p',OKp n p'->1<=m'->m'<=n->Qp rk p' m'->Q (m',p') s):(kas_count n p).kasWp cmp Q s:=by
 have hsz:=h.size
 unfold kas_count
 rw [KasT.kasWp_bind]
 refine agp hc h (n - 1) 1 _ (Nat.le_refl _) (by omega) (fun i j hij hj=>by
  have e1:i=0:=by omega
  have e2:j=0:=by omega
  rw [e1,e2]; exact Int.le_refl _) fun m a1 a2 a3 a4=>?_
 by_cases hm:(m == n)=true
 ·rw [if_pos hm]
  exact k m p h a1 (by omega) a3
 ·rw [if_neg hm]
  have hmn:m ≠ n:=by simpa using hm
  have hlast:val rk p m<val rk p (m - 1):=a4.resolve_left (by omega)
  by_cases hm1:m > 1
  ·rw [if_pos hm1]
   refine abU hc h (by omega) (by omega) (fun hl=>?_) (fun hl=>?_)
   ·show (if true=true then KasT.ret (m,p) else _).kasWp cmp Q s
    rw [if_pos rfl]
    exact k m p h a1 (by omega) a3
   ·show (if false=true then KasT.ret (m,p) else kas_descPart m n (kas_rev p 0 m)).kasWp cmp Q s
    rw [if_neg Bool.false_ne_true]
    have alleq:∀ i,i<m->val rk p i=val rk p (m - 1):=fun i hi=>by
     have b1:=a3 i (m - 1) (by omega) (by omega)
     have b2:=a3 0 i (Nat.zero_le _) hi
     omega
    have hv:∀ i,val rk (kas_rev p 0 m) i=val rk p i:=fun i=>by
     rw [abj (by omega)]
     split
     ·rename_i hi
      rw [alleq _ (by omega),alleq i hi.2]
     ·rfl
    refine aa3 hc (h.rev _ _) (by omega) (fun i j hij hj=>?_) k
    rw [hv,hv]
    by_cases hjm:j<m
    ·rw [alleq j hjm,alleq i (by omega)]; exact Int.le_refl _
    ·have ej:j=m:=by omega
     subst ej
     by_cases him:i<j
     ·rw [alleq i him]; exact Int.le_of_lt hlast
     ·have ei:i=j:=by omega
      rw [ei]; exact Int.le_refl _
  ·rw [if_neg hm1]
   have em:m=1:=by omega
   subst em
   refine aa3 hc h (by omega) (fun i j hij hj=>?_) k
   by_cases hj0:j=0
   ·have:i=0:=by omega
    rw [this,hj0]; exact Int.le_refl _
   ·have ej:j=1:=by omega
    subst ej
    by_cases hi0:i=0
    ·rw [hi0]; exact Int.le_of_lt hlast
    ·have ei:i=1:=by omega
     rw [ei]; exact Int.le_refl _
theorem abV {p:Array Nat}{k:Nat} (h:OKp n p) (hk:k<n) (hs:Qp rk p k):∀ (f l r:Nat) (Q:Nat->SP0),l<=r->r<=k->r - l<=f->(∀ i,i<l->val rk p i<=val rk p k)->(∀ i,r<=i->i<k->val rk p k<val rk p i)->
  (∀ l',l'<=k->(∀ i,i<l'->val rk p i<=val rk p k)->(∀ i,l'<=i->i<k->val rk p k<val rk p i)->Q l' s)->(kas_place p k f l r).kasWp cmp Q s
 | 0,l,r,Q,h1,h2,h3,a,b,q=>by
  have e:l=r:=by omega
  subst e
  exact q l h2 a b
 | f+1,l,r,Q,h1,h2,h3,a,b,q=>by
  show (if l >= r then KasT.ret l else .ask (p.getD k 0) (p.getD ((l+r) / 2) 0) fun c=>if c=true then kas_place p k f l ((l+r) / 2) else kas_place p k f ((l+r) / 2+1) r).kasWp cmp Q s
  by_cases hlr:l >= r
  ·rw [if_pos hlr]
   have e:l=r:=by omega
   subst e
   exact q l h2 a b
  ·rw [if_neg hlr]
   refine abU hc h hk (by omega) (fun hl=>?_) (fun hl=>?_)
   ·show (if true=true then kas_place p k f l ((l+r) / 2) else kas_place p k f ((l+r) / 2+1) r).kasWp cmp Q s
    rw [if_pos rfl]
    refine abV h hk hs f l ((l+r) / 2) Q (by omega) (by omega) (by omega) a (fun i h4 h5=>?_) q
    exact Int.lt_of_lt_of_le hl (hs _ i h4 h5)
   ·show (if false=true then kas_place p k f l ((l+r) / 2) else kas_place p k f ((l+r) / 2+1) r).kasWp cmp Q s
    rw [if_neg Bool.false_ne_true]
    refine abV h hk hs f ((l+r) / 2+1) r Q (by omega) h2 (by omega) (fun i h4=>?_) b q
    exact Int.le_trans (hs i ((l+r) / 2) (by omega) (by omega)) hl
theorem akq:∀ (f:Nat) (p:Array Nat) (k:Nat) (Q:Array Nat->SP0),OKp n p->k+f=n->Qp rk p k->(∀ p',OKp n p'->Qp rk p' n->Q p' s)->(kas_bin f p k).kasWp cmp Q s
 | 0,p,k,Q,h,hk,hs,q=>by
  have e:k=n:=by omega
  exact q p h (by rw [←e]; exact hs)
 | f+1,p,k,Q,h,hk,hs,q=>by
  have hsz:=h.size
  show ((kas_place p k k 0 k).bind fun l=>kas_bin f (bubble p k (k - l)) (k+1)).kasWp cmp Q s
  rw [KasT.kasWp_bind]
  refine abV hc h (by omega) hs k 0 k _ (Nat.zero_le _) (Nat.le_refl _) (by omega) (fun i hi=>absurd hi (Nat.not_lt_zero _)) (fun i h1 h2=>absurd h2 (by omega)) fun l hl a b=>?_
  refine akq f _ (k+1) Q (h.bub _ _) (by omega) (fun i j hij hj=>?_) q
  have hb:k - (k - l)=l:=by omega
  rw [ahG (by omega) (by omega),ahG (by omega) (by omega),hb]
  by_cases hi1:i=l
  ·rw [if_pos hi1]
   by_cases hj1:j=l
   ·rw [if_pos hj1]; exact Int.le_refl _
   ·rw [if_neg hj1,if_pos ⟨by omega,by omega⟩]
    exact Int.le_of_lt (b _ (by omega) (by omega))
  ·rw [if_neg hi1]
   by_cases hi2:l<i/\i<=k
   ·rw [if_pos hi2,if_neg (by omega),if_pos ⟨by omega,by omega⟩]
    exact hs _ _ (by omega) (by omega)
   ·rw [if_neg hi2]
    by_cases hj1:j=l
    ·rw [if_pos hj1]; exact a i (by omega)
    ·rw [if_neg hj1]
     by_cases hj2:l<j/\j<=k
     ·rw [if_pos hj2]
      exact hs _ _ (by omega) (by omega)
     ·rw [if_neg hj2]
      exact hs _ _ hij (by omega)
theorem sort_ok {Q:Array Nat->SP0} (hn1:1<=n) (q:∀ p',OKp n p'->Qp rk p' n->Q p' s):(kas_sort n).kasWp cmp Q s:=by
 unfold kas_sort
 rw [KasT.kasWp_bind]
 refine akp hc (p:=(List.range n).toArray) (Array.Perm.refl _) hn1 fun m p h h1 h2 hs=>?_
 show (if m<n then kas_bin (n - max m 1) p (max m 1) else KasT.ret p).kasWp cmp Q s
 have em:max m 1=m:=by omega
 by_cases hm:m<n
 ·rw [if_pos hm,em]
  exact akq hc (n - m) p m Q h (by omega) hs q
 ·rw [if_neg hm]
  have e:m=n:=by omega
  exact q p h (by rw [←e]; exact hs)
end
end BX.Srt
end
section
namespace BX
open PySem PySem.Spec L2
open PyProof.Rows hiding St
theorem amT (vs:List Value):(vs.toArray.zip vs.toArray).map (·.2)=vs.toArray:=by
 apply Array.toList_inj.mp
 simp [List.map_snd_zip]
theorem amU (vs:List Value):(arrOf (SortSt.mk' general' (vs.toArray.zip vs.toArray) #[] 7 none)).map (·.2)=vs.toArray:=amT vs
section
variable {prog:Program}{w:World}{A:Around}{E:Value->SP0}{s:Shared}
theorem agq {l:Addr}{vs:List Value}{Q:Value->SP0} (hl:s.heap.IsList l vs.toArray) (h2:vs.length<2)
  (h:∀ h' D c,(∀ b o,s.heap.get? b=some o->h'.get? b=some o)->h'.get? D=some (lob vs.toArray c)->s.heap.objs.size<=D->Q (.ref D) { s with heap:=h' }):
  wpAny (model prog w) A (call (.builtin "sorted") [.ref l]) Q E s:=by
 have small:vs.length<=sizeLine:=by rw [sizeLine_eq]; omega
 refine Calls.call_function_entry kind_sorted plain_sorted entry_sorted (args_sorted1 _) ?_
 unfold Builtin.«sorted»
 refine wpAny_bind (m:=checkCount "sorted" 1 1 _) (wpAny_pure ?_)
 refine wpAny_bind (collect_list hl ?_ small)
 refine wpAny_bind (wpAny_newList ?_ small)
 generalize hh1:(s.heap.push (seqObj "list" #[] 0)).update s.heap.objs.size (Obj.mapSeq (·++vs.toArray))=h1
 have n1:h1.objs.size=s.heap.objs.size+1:=by rw [←hh1,Heap.size_update,size_push']
 have k1:∀ b o,s.heap.get? b=some o->h1.get? b=some o:=fun b o q=>by
  have hlt:b<s.heap.objs.size:=Heap.lt_size q
  rw [←hh1,Heap.get?_update_ne _ _ _ _ (Nat.ne_of_lt hlt),Heap.get?_push_ne _ _ _ (Nat.ne_of_lt hlt)]
  exact q
 have hD:(h1.push (seqObj "list" vs.toArray 0)).get? h1.objs.size=some (seqObj "list" vs.toArray 0):=Heap.get?_push_size _ rfl
 refine wpAny_bind (wpAny_holding (wpAny_call_entry (s:={ s with heap:=h1.push (seqObj "list" vs.toArray 0) }) slot_list_sort ⟨_,hD,rfl⟩ entry_list_sort ?body (args_list_sort _)))
 case body=>
  rw [list_sort_plain]
  refine wpAny_bind (listItems_at hD rfl ?_)
  refine wpAny_bind (listUpdate_at hD rfl ?_ (by rw [List.size_toArray]; exact small) (Nat.zero_le _))
  obtain ⟨e1,ho1⟩:∃ e1,((h1.push (seqObj "list" vs.toArray 0)).update h1.objs.size (Obj.mapSeq fun _=>(#[]:Array Value))).get? h1.objs.size=some (seqObj "list" #[] e1):=⟨_,get?_update_seq hD fun _=>#[]⟩
  refine wpAny_bind (seqEpoch_at ho1 rfl ?_)
  refine wpAny_bind (wpAny_newTuple ?_ small)
  refine wpAny_bind (wpAny_newList ?_ (Nat.zero_le _))
  refine wpAny_holding ?_
  dsimp only
  have hlt:vs.toArray.size<2:=by rw [List.size_toArray]; exact h2
  rw [if_pos hlt,if_pos hlt]
  refine wpAny_bind (wpAny_pure ?_)
  rw [StateT.run_pure]
  refine wpAny_bind (wpAny_pure ?_)
  dsimp only
  have ho3:((((h1.push (seqObj "list" vs.toArray 0)).update h1.objs.size (Obj.mapSeq fun _=>(#[]:Array Value))).push (seqObj "tuple" vs.toArray 0)).push (seqObj "list" #[] 0)).get? h1.objs.size=some (seqObj "list" #[] e1):=Heap.get?_push_of_some _ (Heap.get?_push_of_some _ ho1)
  refine wpAny_bind (seqEpoch_at ho3 rfl ?_)
  rw [amU]
  refine wpAny_bind (listUpdate_at ho3 rfl ?_ (Nat.zero_le _) (by rw [List.size_toArray]; exact Nat.le_succ_of_le small))
  obtain ⟨c2,hc2⟩:=amS (ws:=vs.toArray) (show _=some (lob #[] e1) from ho3)
  simp only [bne_self_eq_false,zzL,zzN]
  refine wpAny_pure ⟨_,rfl,?_⟩
  refine wpAny_pure ⟨_,rfl,?_⟩
  refine h _ _ c2 (fun b o q=>?_) hc2 (by rw [n1]; exact Nat.le_succ _)
  have q1:=k1 b o q
  have lt1:b<h1.objs.size:=Heap.lt_size q1
  have u1:=Heap.SameBut.update (h1.push (seqObj "list" vs.toArray 0)) h1.objs.size (Obj.mapSeq fun _=>(#[]:Array Value))
  have q2:=(u1.2 b (Nat.ne_of_lt lt1)).trans (Heap.get?_push_of_some _ q1)
  have q3:=Heap.get?_push_of_some { cls:= .type "list",data:= .seq (#[]:Array Value) } (Heap.get?_push_of_some { cls:= .type "tuple",data:= .seq vs.toArray } q2)
  exact ((Heap.SameBut.update _ h1.objs.size (Obj.mapSeq fun _=>vs.toArray)).2 b (Nat.ne_of_lt lt1)).trans q3
end
theorem qC.there {P:Program}{w:World}{H:Hp}{h:Heap}{a:Addr}{o:HO} (x:qC P w H h a o):∃ u,h.get? a=some u:=by
 cases o with
 | lst xs=>obtain ⟨_,_,_,_,e⟩:=x; exact ⟨_,e⟩
 | tup xs=>obtain ⟨_,_,_,u,e,_⟩:=x; exact ⟨_,e⟩
 | dK kvs=>obtain ⟨_,_,_,_,o,_,_,e,_⟩:=x; exact ⟨_,e⟩
 | dT kvs=>obtain ⟨_,_,_,_,o,_,_,e,_⟩:=x; exact ⟨_,e⟩
 | set S n=>obtain ⟨o,_,_,_,e,_⟩:=x; exact ⟨_,e⟩
 | ins C dx fs=>obtain ⟨_,_,_,e,_⟩:=x; exact ⟨_,e⟩
 | own y=>obtain ⟨_,e⟩:=x; exact ⟨_,e⟩
 | xd fs=>obtain ⟨_,⟨_,_,_,e,_⟩,_⟩:=x; exact ⟨_,e⟩
 | rng lo hi=>obtain ⟨_,_,_,e⟩:=x; exact ⟨_,e⟩
 | frz ob u=>obtain ⟨e,_⟩:=x; exact ⟨_,e⟩
 | tbl ps=>exact ⟨_,(show h.get? a=some _ from x)⟩
 | met f y=>exact ⟨_,(show h.get? a=some _ from x)⟩
 | ext φ=>obtain ⟨_,⟨_,e⟩,_⟩:=x; exact ⟨_,e⟩
theorem ao2 {h:Heap}{L:Addr}{m m':SV} (a:h.Ns L m) (b:h.Ns L m'):m=m':=by
 obtain ⟨o,es,ep,e1,d1,_,q1⟩:=a
 obtain ⟨o',es',ep',e2,d2,_,q2⟩:=b
 rw [e1] at e2; cases e2
 rw [d1] at d2; cases d2
 funext x
 rw [←q1 x,←q2 x]
theorem Inv.grownL {X:Cx}{Kp:List (Addr × Obj)}{σ:St}{H:Hp}{s:Shared}{h':Heap}{m:SV}{D:Addr}{ys:List V}{us:List Value}{c:Nat} (I:Inv X Kp σ H s) (hm:s.heap.Ns X.env.locals m) (hm':h'.Ns X.env.locals m)
  (kp:∀ b o,b ≠ X.env.locals->s.heap.get? b=some o->h'.get? b=some o) (hD:s.heap.get? D=none) (ho:h'.get? D=some (lob us.toArray c)) (rv:jG ys us) (hz:ys.length<=sizeLine):Inv X Kp σ (upd H D (.lst ys)) { s with heap:=h' }:=by
 have nD:H D=none:=by
  cases e:H D with
  | none=>rfl
  | some o=>obtain ⟨u,q⟩:=qC.there (I.hok D o e); rw [hD] at q; cases q
 have neD:∀ b u,H b=some u->b ≠ D:=fun b u e z=>by rw [z,nD] at e; cases e
 have nL:∀ b u,H b=some u->b ≠ X.env.locals:=fun b u e z=>by rw [z,I.free] at e; cases e
 refine I.step (t':=s.toks) (g':=s.gens) (d':=s.drawn) (ch:=[]) (fun b hb=>nomatch hb) (fun b o hL _ _ e _=>kp b o hL e) (fun b o hL _ _ e _=>⟨o.slots,kp b o hL e⟩) (fun b o _ e n=>?_) (fun b o _ e=>?_) (fun b ws e=>by rw [jo (neD b _ e)]; exact e)
  (fun b ob ws e=>by rw [jo (neD b _ e)]; exact e) (fun b ps e=>⟨#[],by rw [jo (neD b _ e),e]; simp⟩) (fun m2 h2=>by rw [←ao2 hm h2]; exact hm') (fun b u e=>?_) I.bare
 ·have:b ≠ D:=fun z=>by rw [z,hD] at e; cases e
  rw [jo this]; exact n
 ·by_cases hb:b=X.env.locals
  ·obtain ⟨o',_,_,e',_⟩:=hm'
   exact ⟨o',by rw [hb]; exact e'⟩
  ·exact ⟨o,kp b o hb e⟩
 ·by_cases hb:b=D
  ·subst hb
   rw [jq] at e
   cases e
   exact ⟨hz,us,c,rv,ho⟩
  ·rw [jo hb] at e
   refine (I.hok b u e).stay (fun c' o hc' q=>kp c' o ?_ q) (fun c' q=>by rw [jo (neD c' _ q)]; exact q) fun c' ws q=>by rw [jo (neD c' _ q)]; exact q
   rcases hc' with q' | q'
   ·rw [q']; exact nL b u e
   ·exact nL c' _ q'
noncomputable def zM (p:Int × Int):PyData:= .tuple [.int p.1,.int p.2]
structure PairAt (h:Heap) (u:Value) (p:Int × Int):Prop where
 ex:∃ a o k t t',u= .ref a/\h.get? a=some o/\o.cls= .type "tuple"/\o.data= .seq #[.int p.1 t,.int p.2 t'] k
theorem getD_some {α:Type}{l:List α}{i:Nat}{d x:α} (h:l[i]?=some x):l.getD i d=x:=by simp [List.getD,h]
theorem aiJ {us:List Value}{xs:List V} (rv:jG xs us) (is:List Nat) (h:∀ i ∈ is,i<us.length):jG (is.map fun i=>xs.getD i .non) (is.map fun i=>us.getD i Value.none):=by
 induction is with
 | nil=>exact .nil
 | cons i is ih=>
  have hi:=h i List.mem_cons_self
  have hl:=rv.length
  obtain ⟨u,e1,e2⟩:=rv.get (show xs[i]?=some (xs[i]'(by omega)) by simp [hl,hi])
  refine .cons ?_ (ih fun j hj=>h j (List.mem_cons_of_mem _ hj))
  show L2.jK (xs.getD i .non) (us.getD i Value.none)
  rw [getD_some e1,getD_some (show xs[i]?=some (xs[i]'(by omega)) by simp [hl,hi])]
  exact e2
theorem aiK {K:Fg}{H:Hp}{ds:LP}{xs:List V} (r:Reps K H ds xs) (is:List Nat) (h:∀ i ∈ is,i<ds.length):Reps K H (is.map fun i=>ds.getD i .none) (is.map fun i=>xs.getD i .non):=by
 induction is with
 | nil=>rfl
 | cons i is ih=>
  have hi:=h i List.mem_cons_self
  obtain ⟨x,e1,e2⟩:=r.get (show ds[i]?=some ds[i] by simp [hi])
  refine ⟨_,_,rfl,?_,ih fun j hj=>h j (List.mem_cons_of_mem _ hj)⟩
  show Rep K H (ds.getD i .none) (xs.getD i .non)
  rw [getD_some e1,getD_some (show ds[i]?=some ds[i] by simp [hi])]
  exact e2
theorem ad5 {α:Type}{R:α->α->Prop}:∀ {l:List α},l.length<2->l.Pairwise R
 | [],_=> .nil
 | [p],_=>List.pairwise_singleton _ _
 | _::_::_,h=>by simp at h; omega
section
variable {X:Cx}
variable {a b:Expr}{fa fb:RP}{pos p2:Pos}
noncomputable def aiL:PyData->OP
 | .int i=>some (.int (-i))
 | _=>none
theorem aaE (h:PD X a fa):PD X (.UnaryOp .USub a pos) (fun ρ=>(fa ρ).bind aiL):=by
 with_unfolding_all
  refine PE.imp (ap5 aoD h) fun σ H Q ⟨ρ,d,en,q,k⟩=>?_
  cases h1:fa ρ with
  | none=>simp [h1] at q
  | some y=>
   refine ⟨ρ,y,en,h1,fun v H1 s1 r1=>?_⟩
   have q':aiL y=some d:=by simpa [h1] using q
   cases y with
   | int i=>cases q'; cases (show v=_ from r1); exact ⟨i,rfl,k _ H1 s1 rfl⟩
   | _=>cases q'
end
noncomputable def QD (bt:Int->Int->Bool):List Int->Option Int
 | []=>none
 | n::ns=>some (ns.foldl (fun a b=>if bt b a then b else a) n)
theorem agr (bt:Int->Int->Bool) (ns:List Int) (x m:Int) (h:QD bt ns=some m):QD bt (ns++[x])=some (if bt x m then x else m):=by
 cases ns with
 | nil=>cases h
 | cons n ns=>
  have:ns.foldl (fun a b=>if bt b a then b else a) n=m:=by simpa [QD] using h
  subst this
  simp [QD,List.foldl_append]
theorem adh (bt:Int->Int->Bool) (ns:List Int):∀ k,k<ns.length->QD bt (ns.take (k+1))=some (ns.getD (argBest (fun i j=>bt (ns.getD i 0) (ns.getD j 0)) k) 0)
 | 0,h=>by
  cases ns with
  | nil=>simp at h
  | cons n ns=>simp [QD,argBest]
 | k+1,h=>by
  have ih:=adh bt ns k (by omega)
  have h1:ns.take (k+1+1)=ns.take (k+1)++[ns.getD (k+1) 0]:=by rw [List.take_succ]; simp [h,List.getD]
  rw [h1,agr bt _ _ _ ih]
  simp only [argBest]
  by_cases hb:bt (ns.getD (k+1) 0) (ns.getD (argBest (fun i j=>bt (ns.getD i 0) (ns.getD j 0)) k) 0)=true
  ·rw [if_pos hb,if_pos hb]
  ·rw [if_neg hb,if_neg hb]
theorem akr (bt:Int->Int->Bool) (ns:List Int) (h:0<ns.length):QD bt ns=some (ns.getD (argBest (fun i j=>bt (ns.getD i 0) (ns.getD j 0)) (ns.length - 1)) 0):=by
 have:=adh bt ns (ns.length - 1) (by omega)
 rwa [Nat.sub_add_cancel h,List.take_length] at this
variable {X:Cx}
noncomputable def an1 (K:Fg) (bt:Int->Int->Bool):List V->Hp->VK->Prop:=fun xs H Q=>∃ a ns m,xs=[.ref a]/\(SqL K H a (List.map V.int ns) ∨ SqT K H a (List.map V.int ns))/\QD bt ns=some m/\Q (.int m) H
theorem aiM (hc:X.calm=true):zX X (.builtin "min") (an1 X.K fun i j=>decide (i<j)):=by
 intro Kp s σ H xs us Q I r ⟨a,ns,m,e,hq,hm,q⟩
 subst e
 obtain ⟨u,rfl,rx⟩:=ac2 r
 cases rx
 have hh:=I.ok.hd hc
 have h0:0<ns.length:=by cases ns with
  | nil=>cases hm
  | cons n ns=>simp
 have hb:=akr (fun i j=>decide (i<j)) ns h0
 rw [hm] at hb
 have hb:=Option.some.inj hb
 rcases hq with hq | hq
 ·obtain ⟨its,rv,pl,hz⟩:=I.list hq
  have hl:its.toArray.size=ns.length:=by have:=rv.length; simp at this ⊢; omega
  refine call_min_walk (aaC pl.isList fun h2 it st hlt hne k1 hn=>?_)
  refine ⟨it,[it,a],[it],its.toArray.size,(fun i v=>its.toArray[i]?=some v),_,_,rfl,Walks.list (A:=X.A.in1) hh it a hne its.toArray,st,hlt,by rw [hl]; exact h0,CmpOf.ints_lt (fun i=>ns.getD i 0) fun i v hP=>zl rv hP,fun v h3 tk hP k2=>?_⟩
  obtain ⟨t,rfl⟩:=zl rv hP
  exact ⟨.int m,H,I.kept (t':=tk) (ZS k1 hn k2),⟨t,by rw [hl]; rw [hb]⟩,q⟩
 ·obtain ⟨its,rv,pl,hz⟩:=I.tuple hq
  have hl:its.toArray.size=ns.length:=by have:=rv.length; simp at this ⊢; omega
  refine call_min_walk (add (show s.heap.IsTuple a its.toArray from pl) fun h2 it st hlt hne k1 hn=>?_)
  refine ⟨it,[it,a],[it],its.toArray.size,(fun i v=>its.toArray[i]?=some v),_,_,rfl,Walks.tuple (A:=X.A.in1) hh it a hne its.toArray,st,hlt,by rw [hl]; exact h0,CmpOf.ints_lt (fun i=>ns.getD i 0) fun i v hP=>zl rv hP,fun v h3 tk hP k2=>?_⟩
  obtain ⟨t,rfl⟩:=zl rv hP
  exact ⟨.int m,H,I.kept (t':=tk) (ZS k1 hn k2),⟨t,by rw [hl]; rw [hb]⟩,q⟩
noncomputable def ae9 (bt:Int->Int->Bool) (ds:LP):OP:=match ds with
 | [.list xs]=>(qN xs).bind fun ns=>(QD bt ns).map .int
 | [.tuple xs]=>(qN xs).bind fun ns=>(QD bt ns).map .int
 | _=>none
theorem amV {K:Fg}{bt:Int->Int->Bool}{ds:LP}{d:PyData}{xs:List V}{H:Hp}{Q:VK} (h:ae9 bt ds=some d) (r:Reps K H ds xs) (k:∀ v H',jt H H'->Rep K H' d v->Q v H'):an1 K bt xs H Q:=by
 unfold ae9 at h
 split at h
 ·rename_i ys
  cases hb:qN ys with
  | none=>simp [hb] at h
  | some ns=>
   cases hf:QD bt ns with
   | none=>simp [hb,hf] at h
   | some m=>
    have:PyData.int m=d:=by simpa [hb,hf] using h
    subst this
    obtain ⟨x,q,e1,e2,e3⟩:=r
    cases (show q=[] from e3)
    obtain ⟨a,us,g1,g2,g3⟩:=e2
    subst g1
    rw [Jj hb] at g3
    have:=Reps.ints g3
    subst this
    exact ⟨a,ns,m,e1,.inl (SqL.of g2),hf,k _ H (jt.refl H) rfl⟩
 ·rename_i ys
  cases hb:qN ys with
  | none=>simp [hb] at h
  | some ns=>
   cases hf:QD bt ns with
   | none=>simp [hb,hf] at h
   | some m=>
    have:PyData.int m=d:=by simpa [hb,hf] using h
    subst this
    obtain ⟨x,q,e1,e2,e3⟩:=r
    cases (show q=[] from e3)
    obtain ⟨a,us,g1,g2,g3⟩:=e2
    subst g1
    rw [Jj hb] at g3
    have:=Reps.ints g3
    subst this
    exact ⟨a,ns,m,e1,.inr g2,hf,k _ H (jt.refl H) rfl⟩
 ·cases h
theorem amW (hc:X.calm=true):ZQ X (.builtin "min") (ae9 fun i j=>decide (i<j)):=⟨_,aiM hc,fun ds d xs H Q h r k=>amV h r k⟩
end BX
end
section
namespace BX
open PySem PySem.Spec L2
open PyProof.Rows hiding St
variable {X:Cx}
noncomputable def acN (f:Expr->OP):List Expr->Option (LP)
 | []=>some []
 | e::es=>(f e).bind fun d=>(acN f es).map fun ds=>d::ds
noncomputable def lit:Nat->Expr->OP
 | 0,_=>none
 | n+1,e=>match e with
  | .Constant (.int i) _ _=>some (.int i)
  | .Constant (.bool b) _ _=>some (.bool b)
  | .Constant .none _ _=>some .none
  | .Constant (.str x) _ _=>some (.str x)
  | .Tuple es _ _=>(acN (lit n) es).bind fun ds=>if few ds=true then some (.tuple ds) else none
  | .List es _=>(acN (lit n) es).bind fun ds=>if few ds=true then some (.list ds) else none
  | _=>none
theorem PD.as {e:Expr}{F G:RP} (h:PD X e F) (hi:∀ ρ d,G ρ=some d->F ρ=some d):PD X e G:=by
 with_unfolding_all exact (PE.imp h fun σ H Q ⟨ρ,d,en,q,k⟩=>⟨ρ,d,en,hi ρ d q,k⟩)
theorem PAD.as {es:List Expr}{F G:Rho->Option (LP)} (h:PAD X es F) (hi:∀ ρ d,G ρ=some d->F ρ=some d):PAD X es G:=by
 with_unfolding_all exact (PA.imp h fun σ H Q ⟨ρ,d,en,q,k⟩=>⟨ρ,d,en,hi ρ d q,k⟩)
noncomputable def aks (e:Expr):Prop:=∀ (es:List Expr) (env:Env),starEach (e::es) env=(false,eval e env)::starEach es env
theorem ad6 {f:Expr->OP} (hf:∀ e d,f e=some d->PD X e (cst d)/\aks e):∀ (es:List Expr) (ds:LP),acN f es=some ds->PAD X es (fun _=>some ds)
 | [],ds,h=>by cases h; exact je
 | e::es,ds,h=>by
  cases h1:f e with
  | none=>simp [acN,h1] at h
  | some d=>
   cases h2:acN f es with
   | none=>simp [acN,h1,h2] at h
   | some r=>
    have:d::r=ds:=by with_unfolding_all simpa [acN,h1,h2] using h
    subst this
    obtain ⟨p,st⟩:=hf e d h1
    exact (ja p (ad6 hf es r h2) (st es X.env)).as fun ρ d' q=>by cases q; simp [jr,cst]
theorem ags:∀ (n:Nat) (e:Expr) (d:PyData),lit n e=some d->PD X e (cst d)/\aks e
 | 0,e,d,h=>by cases h
 | n+1,e,d,h=>by
  unfold lit at h
  split at h
  ·cases h; exact ⟨ji,fun _ _=>rfl⟩
  ·cases h; exact ⟨zo,fun _ _=>rfl⟩
  ·cases h; exact ⟨aaw,fun _ _=>rfl⟩
  ·cases h; exact ⟨akd,fun _ _=>rfl⟩
  ·rename_i es x1 pos
   cases h1:acN (lit n) es with
   | none=>simp [h1] at h
   | some ds=>
    by_cases hf:few ds=true
    ·have:PyData.tuple ds=d:=by with_unfolding_all simpa [h1,hf] using h
     subst this
     exact ⟨(qY (ad6 (ags n) es ds h1)).as fun ρ d' q=>by cases q; simp [Qj,hf],fun _ _=>rfl⟩
    ·simp [h1,hf] at h
  ·rename_i es pos
   cases h1:acN (lit n) es with
   | none=>simp [h1] at h
   | some ds=>
    by_cases hf:few ds=true
    ·have:PyData.list ds=d:=by simpa [h1,hf] using h
     subst this
     exact ⟨(zz (ad6 (ags n) es ds h1)).as fun ρ d' q=>by cases q; simp [JG,hf],fun _ _=>rfl⟩
    ·simp [h1,hf] at h
  ·cases h
theorem agt (n:Nat) {e:Expr} (d:PyData) (h:lit n e=some d):PD X e (cst d):=by
 with_unfolding_all exact ((ags n e d h).1)
end BX
end
section
namespace BX
open PySem L2
open PyProof.Rows hiding St
noncomputable def jX (K:Fg) (x:Str) (st:Stmt):Prop:=
 ∃ (f:Addr) (oc:Value) (od an:Option Addr) (kV doc pm Kc ct:Value) (osl:Array (Option Value)),PySem.W.nsIn K mainGlobals x=some (some (.ref f))/\
  K.lookup f=some ⟨oc,od,.func (PySem.W.fnOf x x (Qh st) (jN st) (jn st) .none kV doc pm an Kc ct),osl⟩/\PySem.W.codeIn K Kc x=true/\PySem.W.keepIn K (.ref f)=true
theorem akt {K:Fg}{x:Str}{st:Stmt}{f:Addr}{oc:Value}{od an:Option Addr}{kV doc pm Kc ct:Value}{osl:Array (Option Value)} (a:PySem.W.nsIn K mainGlobals x=some (some (.ref f)))
  (l:K.lookup f=some ⟨oc,od,.func (PySem.W.fnOf x x (Qh st) (jN st) (jn st) .none kV doc pm an Kc ct),osl⟩) (c:PySem.W.codeIn K Kc x=true) (k:PySem.W.keepIn K (.ref f)=true):jX K x st:=
 ⟨f,oc,od,an,kV,doc,pm,Kc,ct,osl,a,l,c,k⟩
noncomputable abbrev jv (x:Str) (st:Stmt) (ps:List Str):Prop:=∀ (kV doc pm:Value) (an:Option Addr) (Kc ct:Value) (us:List Value),us.length=ps.length->bindArgs (PySem.W.fnOf x x (Qh st) (jN st) (jn st) .none kV doc pm an Kc ct) ⟨us,[]⟩=pure (ps.zip us)
theorem jX.callee {P:Program}{w:World}{K:Fg}{mg:SV}{base h:Heap}{x:Str}{st:Stmt}{ps:List Str}{k n:Nat}{g:LP->OP} (T:jX K x st) (X:K.In h) (G:h.Ns mainGlobals mg)
  (hb:jv x st ps) (F:∀ (f:Addr) (fd:FuncData),Fun K x x st f fd->FnOk P w K mg base CX0 k f fd ps (Pur K n g)):jk P w K mg base x ps k n g:=by
 obtain ⟨f,oc,od,an,kV,doc,pm,Kc,ct,osl,a,l,c,kp⟩:=T
 have F1:=aj5 (st:=st) l c kp
 exact ⟨f,_,F f _ F1,PySem.W.mg_of X G a,kp,F1.binds hb⟩
theorem jk.as {P:Program}{w:World}{K:Fg}{mg:SV}{base:Heap}{x:Str}{ps:List Str}{k n:Nat}{g g':LP->OP} (C:jk P w K mg base x ps k n g) (h:∀ ds d,g' ds=some d->g ds=some d):jk P w K mg base x ps k n g':=by
 obtain ⟨f,fd,F,a,b,c⟩:=C
 exact ⟨f,fd,aqr F fun ds d _ q=>h ds d q,a,b,c⟩
theorem abW {K:Fg}{mg:SV}{h:Heap}{x:Str}{a:Addr}{ob:Obj}{ds:LP} (X:K.In h) (G:h.Ns mainGlobals mg) (e:PySem.W.nsIn K mainGlobals x=some (some (.ref a))) (l:K.lookup a=some ob)
  (hc:ob.cls= .type "tuple") (hi:∃ (its:Array Value) (n:Nat) (xs:List V),ob.data= .seq its n/\its.size<=sizeLine/\jG xs its.toList/\∀ H,Reps K H ds xs):∃ v u,mg x=some u/\jK v u/\∀ H,Rep K H (.tuple ds) v:=by
 obtain ⟨its,n,xs,h1,h2,h3,h4⟩:=hi
 exact ⟨.ref a,.ref a,PySem.W.mg_of X G e,rfl,fun H=>⟨a,xs,rfl,.inr ⟨ob,its,n,l,hc,h1,h2,h3⟩,h4 H⟩⟩
end BX
end
section
namespace BX
open PySem PySem.Spec L2
open PyProof.Rows hiding St
noncomputable def QE (a:Addr) (xs:List V):HO:= .ext fun h=>xs.length<=sizeLine/\∃ (its:List Value) (n:Nat),jG xs its/\h.get? a=some { cls:= .type "list",data:= .seq its.toArray n }
noncomputable def aa4 (P:Program) (w:World) (a:Addr) (ob:Obj) (ks:List (Key × V)):HO:= .ext fun h=>h.get? a=some ob/\ks.length<=sizeLine/\(a == sysModules)=false/\∃ vs,KV ks vs/\h.DictOf (j5 P w) a vs
inductive Seal (P:Program) (w:World) (a:Addr):HO->HO->Prop where
 | l (xs:List V):Seal P w a (QE a xs) (.lst xs)
 | d (ob:Obj) (ks:List (Key × V)):Seal P w a (aa4 P w a ob ks) (.frz ob (.dK ks))
theorem Seal.ext {P:Program}{w:World}{a:Addr}{c o:HO} (S:Seal P w a c o):∃ φ,c= .ext φ:=by cases S <;> exact ⟨_,rfl⟩
section
variable {X:Cx}{Kp:List (Addr × Obj)}{σ:St}{H:Hp}{s:Shared}{a:Addr}{c o:HO}
theorem Inv.opened (I:Inv X Kp σ H s) (S:Seal X.prog X.w a c o) (e:H a=some c):Inv X Kp σ (upd H a o) s:=by
 have q:=I.hok a c e
 have mu:Mut (H a):=by rw [e]; obtain ⟨φ,rfl⟩:=S.ext; trivial
 cases S with
 | l xs=>
  obtain ⟨h1,h2,_⟩:=q
  exact I.write (x:=a) (e:=a) (h':=s.heap) (t':=s.toks) mu (.inl rfl) (fun _ _ _ z=>z) h2 h1
 | d ob ks=>
  obtain ⟨h1,h2,_⟩:=q
  exact I.write (x:=a) (e:=a) (h':=s.heap) (t':=s.toks) mu (.inl rfl) (fun _ _ _ z=>z) h2 ⟨h1.1,h1.2⟩
theorem Inv.redesc {o1 o2:HO} (I:Inv X Kp σ H s) (h1:H a=some o1) (n1:∀ y,o1 ≠ .own y) (n2:∀ xs,o1 ≠ .tup xs) (n3:∀ ps,o1 ≠ .tbl ps) (nf:∀ ob u,X.H₀ a ≠ some (.frz ob u)) (new:qC X.prog X.w (upd H a o2) s.heap a o2):Inv X Kp σ (upd H a o2) s:=by
 have na:∀ b,H b=none->upd H a o2 b=none:=fun b z=>by
  have:b ≠ a:=fun q=>by subst q; rw [h1] at z; cases z
  rw [jo this]; exact z
 refine ⟨I.ok,I.os,I.bare,⟨I.base.keep,I.base.slot,fun b u q n hx=>na b (I.base.free b u q n hx),I.base.there,fun b xs q=>?_,fun b ob u q=>?_,fun b ps q=>?_⟩,I.loc,I.cell,na _ I.free,fun x c' q=>na _ (I.freeC x c' q),fun p hp=>?_,fun b u q=>?_,I.len⟩
 ·have q':=I.base.tups b xs q
  have:b ≠ a:=fun z=>by subst z; rw [h1] at q'; cases q'; exact n2 _ rfl
  rw [jo this]; exact q'
 ·have:b ≠ a:=fun z=>by subst z; exact nf _ _ q
  rw [jo this]; exact I.base.frzs b ob u q
 ·obtain ⟨more,q'⟩:=I.base.tbls b ps q
  have:b ≠ a:=fun z=>by subst z; rw [h1] at q'; cases q'; exact n3 _ rfl
  exact ⟨more,by rw [jo this]; exact q'⟩
 ·obtain ⟨g1,g2,g3⟩:=I.pin p hp
  exact ⟨g1,na _ g2,g3⟩
 ·by_cases hb:b=a
  ·subst hb
   rw [jq] at q; cases q
   exact new
  ·rw [jo hb] at q
   refine (I.hok b u q).stay (fun c' v _ z=>z) (fun c' z=>?_) fun c' xs z=>?_
   ·have:c' ≠ a:=fun m=>by subst m; rw [h1] at z; cases z; exact n1 _ rfl
    rw [jo this]; exact z
   ·have:c' ≠ a:=fun m=>by subst m; rw [h1] at z; cases z; exact n2 _ rfl
    rw [jo this]; exact z
theorem Inv.nofrz {φ:Heap->Prop} (I:Inv X Kp σ H s) (e:H a=some (.ext φ)):∀ ob u,X.H₀ a ≠ some (.frz ob u):=fun ob u z=>by
 have:=I.base.frzs _ _ _ z
 rw [e] at this; cases this
theorem Inv.closed (I:Inv X Kp σ H s) (S:Seal X.prog X.w a c o) (e:H a=some o) (nf:∀ ob u,X.H₀ a ≠ some (.frz ob u)):Inv X Kp σ (upd H a c) s:=by
 have q:=I.hok a o e
 cases S with
 | l xs=>
  obtain ⟨h1,its,n,h2,h3⟩:=q
  refine I.write (x:=a) (e:=a) (h':=s.heap) (t':=s.toks) (by rw [e]; trivial) (.inl rfl) (fun _ _ _ z=>z) ⟨_,h3⟩ ⟨⟨h1,its,n,h2,h3⟩,⟨_,h3⟩,?_⟩
  rintro g1 g2 ⟨z1,its,n,z2,z3⟩ k
  exact ⟨z1,its,n,z2,k _ z3⟩
 | d ob ks=>
  obtain ⟨h0,h1,h2,vs,h3,ob',es,ep,h4,h5⟩:=q
  refine Inv.redesc I e (fun _ z=>nomatch z) (fun _ z=>nomatch z) (fun _ z=>nomatch z) nf ⟨⟨h0,h1,h2,vs,h3,ob',es,ep,h4,h5⟩,⟨_,h4⟩,?_⟩
  rintro g1 g2 ⟨z0,z1,z2,vs,z3,ob',es,ep,z4,z5⟩ k
  exact ⟨k _ z0,z1,z2,vs,z3,ob',es,ep,k _ z4,z5⟩
theorem Inv.sealedD {ks:List (Key × V)} (I:Inv X Kp σ H s) (e:H a=some (.dK ks)):∃ ob,Inv X Kp σ (upd H a (aa4 X.prog X.w a ob ks)) s:=by
 obtain ⟨h1,h2,vs,h3,ob,es,ep,h4,h5⟩:=I.hok a _ e
 refine ⟨ob,I.write (x:=a) (e:=a) (h':=s.heap) (t':=s.toks) (by rw [e]; trivial) (.inl rfl) (fun _ _ _ z=>z) ⟨_,h4⟩ ⟨⟨h4,h1,h2,vs,h3,ob,es,ep,h4,h5⟩,⟨_,h4⟩,?_⟩⟩
 rintro g1 g2 ⟨z0,z1,z2,vs,z3,ob',es,ep,z4,z5⟩ k
 exact ⟨k _ z0,z1,z2,vs,z3,ob',es,ep,k _ z4,z5⟩
theorem Inv.openD {ob:Obj}{ks:List (Key × V)} (I:Inv X Kp σ H s) (e:H a=some (aa4 X.prog X.w a ob ks)):Inv X Kp σ (upd H a (.dK ks)) s:=by
 obtain ⟨h1,h2,_⟩:=I.hok a _ e
 exact I.write (x:=a) (e:=a) (h':=s.heap) (t':=s.toks) (by rw [e]; trivial) (.inl rfl) (fun _ _ _ z=>z) h2 h1.2
end
mutual
noncomputable def noD:PyData->Bool
 | .tuple ds=>noDs ds
 | .list ds=>noDs ds
 | .dict _=>false
 | _=>true
noncomputable def noDs:LP->Bool
 | []=>true
 | d::ds=>noD d && noDs ds
end
noncomputable def afa (H H':Hp):Prop:=∀ b o,H b=some o->(∀ ob ks,o ≠ .frz ob (.dK ks))->H' b=some o
section
variable {K:Fg}{H H':Hp}
theorem afa.tup {a:Addr}{xs:List V} (e:afa H H') (h:SqT K H a xs):SqT K H' a xs:=by
 rcases h with (h | ⟨o,h⟩) | h
 ·exact .inl (.inl (e _ _ h fun _ _ z=>nomatch z))
 ·exact .inl (.inr ⟨o,e _ _ h fun _ _ z=>nomatch z⟩)
 ·exact .inr h
mutual
theorem Rep.monoM (e:afa H H'):∀ (d:PyData) (v:V),noD d=true->Rep K H d v->Rep K H' d v
 | .none,v,_,h=>h
 | .bool _,v,_,h=>h
 | .int _,v,_,h=>h
 | .str _,v,_,h=>h
 | .tuple ds,v,n,⟨a,xs,h1,h2,h3⟩=>⟨a,xs,h1,afa.tup e h2,Reps.monoM e ds xs (by simpa [noD] using n) h3⟩
 | .list ds,v,n,⟨a,xs,h1,h2,h3⟩=>⟨a,xs,h1,e _ _ h2 (fun _ _ z=>nomatch z),Reps.monoM e ds xs (by simpa [noD] using n) h3⟩
 | .dict ds,v,n,h=>by simp [noD] at n
theorem Reps.monoM (e:afa H H'):∀ (ds:LP) (xs:List V),noDs ds=true->Reps K H ds xs->Reps K H' ds xs
 | [],xs,_,h=>h
 | d::ds,xs,n,⟨x,r,h1,h2,h3⟩=>by
  have n':noD d=true/\noDs ds=true:=by simpa [noDs] using n
  exact ⟨x,r,h1,Rep.monoM e d x n'.1 h2,Reps.monoM e ds r n'.2 h3⟩
end
end
noncomputable def okB (c d:PyData):Bool:=match c with
 | .list _=>noL d
 | .dict _=>noD d
 | _=>false
noncomputable def ZU (P:Program) (w:World) (K:Fg) (H:Hp) (a:Addr):PyData->Prop
 | .list ds=>∃ xs,H a=some (QE a xs)/\Reps K H ds xs
 | .dict kvs=>∃ ks r ob,kvs=(.none,.none)::r/\H a=some (aa4 P w a ob ks)/\RepM K H r ks
 | _=>False
theorem ZU.out {P:Program}{w:World}{K:Fg}{H:Hp}{a:Addr}{d:PyData} (h:ZU P w K H a d):∃ c o,Seal P w a c o/\H a=some c/\
  (∀ H',jW H H'->H' a=some o->Rep K H' d (.ref a))/\(∀ H',jW H H'->H' a=some c->ZU P w K H' a d)/\
  ∀ x H3 v,okB d x=true->H3 a=some o->Rep K H3 x v->Rep K (upd H3 a c) x v:=by
 cases d with
 | list ds=>
  obtain ⟨xs,h1,h2⟩:=h
  exact ⟨_,_,.l xs,h1,fun H' e q=>⟨a,xs,rfl,q,Reps.monoE e _ _ h2⟩,fun H' e q=>⟨xs,q,Reps.monoE e _ _ h2⟩,fun x H3 v n q r=>Rep.monoN (fun b u hb m=>by
   have:b ≠ a:=fun z=>by subst z; rw [q] at hb; cases hb; exact m _ rfl
   rw [jo this]; exact hb) x v n r⟩
 | dict kvs=>
  obtain ⟨ks,r,ob,rfl,h1,h2⟩:=h
  exact ⟨_,_,.d ob ks,h1,fun H' e q=>⟨a,rfl,.inr (.inl ⟨ks,ob,q,show RepM K H' r ks from RepM.monoE e _ _ h2⟩)⟩,fun H' e q=>⟨ks,r,ob,rfl,q,RepM.monoE e _ _ h2⟩,fun x H3 v n q r=>Rep.monoM (fun b u hb m=>by
   have:b ≠ a:=fun z=>by subst z; rw [q] at hb; cases hb; exact m _ _ rfl
   rw [jo this]; exact hb) x v n r⟩
 | none=>exact h.elim
 | bool _=>exact h.elim
 | int _=>exact h.elim
 | str _=>exact h.elim
 | tuple _=>exact h.elim
theorem jW.upd {H:Hp}{a:Addr}{φ:Heap->Prop}{o:HO} (e:H a=some (.ext φ)):jW H (upd H a o):=fun b u h n=>by
 have:b ≠ a:=fun z=>by subst z; rw [e] at h; cases h; exact n _ rfl
 rw [jo this]; exact h
structure EnvO (P:Program) (w:World) (K:Fg) (Hs H:Hp) (own:Option Nat) (ρ:Rho) (σ:St):Prop where
 len:ρ.length=σ.length
 sm:jt Hs H
 pl:∀ i d,ρ[i]?=some (some d)->own ≠ some i->∃ v,σ[i]?=some (some v)/\Rep K H d v
 ow:∀ i,own=some i->∃ d a,ρ[i]?=some (some d)/\σ[i]?=some (some (.ref a))/\Hs a=none/\ZU P w K H a d
noncomputable def hid (own:Option Nat) (ρ:Rho):Rho:=match own with
 | none=>ρ
 | some i=>ρ.set i none
section
variable {P:Program}{w:World}{K:Fg}{Hs H H':Hp}{own:Option Nat}{ρ:Rho}{σ:St}
theorem EnvO.of (e:EnvR K H ρ σ) (s:jt Hs H):EnvO P w K Hs H none ρ σ:=⟨e.len,s,fun i d h _=>e.at' i d h,fun i z=>nomatch z⟩
theorem EnvO.to (e:EnvO P w K Hs H none ρ σ):EnvR K H ρ σ:=⟨e.len,fun i d h=>e.pl i d h (fun z=>nomatch z)⟩
theorem EnvO.hid (e:EnvO P w K Hs H own ρ σ):EnvR K H (hid own ρ) σ:=by
 cases own with
 | none=>exact e.to
 | some i=>
  refine ⟨by simp [BX.hid,e.len],fun j d h=>?_⟩
  by_cases hj:i=j
  ·subst hj
   simp only [BX.hid] at h
   rw [List.getElem?_set] at h
   simp at h
  ·simp only [BX.hid] at h
   rw [List.getElem?_set_ne hj] at h
   exact e.pl j d h (fun z=>hj (Option.some.inj z))
theorem ZU.mono {a:Addr}{d:PyData} (h:ZU P w K H a d) (s:jt H H'):ZU P w K H' a d:=by
 obtain ⟨c,o,_,h1,_,h2,_⟩:=h.out
 exact h2 H' (jt.e s) (s _ _ h1)
theorem EnvO.mono (e:EnvO P w K Hs H own ρ σ) (s:jt H H'):EnvO P w K Hs H' own ρ σ:=
 ⟨e.len,e.sm.trans s,fun i d h n=>let ⟨v,h1,h2⟩:=e.pl i d h n; ⟨v,h1,Rep.mono s d v h2⟩,fun i n=>let ⟨d,a,h1,h2,h3,h4⟩:=e.ow i n; ⟨d,a,h1,h2,h3,h4.mono s⟩⟩
theorem EnvO.opn {i:Nat} (e:EnvO P w K Hs H (some i) ρ σ):∃ d a c o,ρ[i]?=some (some d)/\σ[i]?=some (some (.ref a))/\Hs a=none/\Seal P w a c o/\H a=some c/\EnvR K (upd H a o) ρ σ/\jt Hs (upd H a o)/\
  (∀ H3,jt (upd H a o) H3->jW H (upd H3 a c)/\EnvO P w K Hs (upd H3 a c) (some i) ρ σ)/\∀ x H3 v,okB d x=true->H3 a=some o->Rep K H3 x v->Rep K (upd H3 a c) x v:=by
 obtain ⟨d,a,h1,h2,h3,h4⟩:=e.ow i rfl
 obtain ⟨c,o,S,h5,h6,h7,h8⟩:=h4.out
 obtain ⟨φ,rfl⟩:=S.ext
 have s1:jW H (upd H a o):=jW.upd h5
 have sH:∀ {H2:Hp},(∀ b u,b ≠ a->H b=some u->H2 b=some u)->jt Hs H2:=fun {H2} k b u q=>k b u (fun z=>by subst z; rw [h3] at q; cases q) (e.sm b u q)
 refine ⟨d,a,_,o,h1,h2,h3,S,h5,⟨e.len,fun j x q=>?_⟩,sH fun b u n q=>by rw [jo n]; exact q,fun H3 s3=>⟨fun b u q m=>?_,e.len,sH fun b u n q=>by rw [jo n]; exact s3 b u (by rw [jo n]; exact q),fun j x q n=>?_,fun j n=>?_⟩,h8⟩
 ·by_cases hj:i=j
  ·subst hj
   rw [h1] at q; cases q
   exact ⟨.ref a,h2,h6 _ s1 jq⟩
  ·obtain ⟨v,g1,g2⟩:=e.pl j x q (fun z=>hj (Option.some.inj z))
   exact ⟨v,g1,Rep.monoE s1 _ _ g2⟩
 ·have:b ≠ a:=fun z=>by subst z; rw [h5] at q; cases q; exact m _ rfl
  rw [jo this]
  exact s3 b u (by rw [jo this]; exact q)
 ·have s4:jW H (upd H3 a (.ext φ)):=fun b u q m=>by
   have:b ≠ a:=fun z=>by subst z; rw [h5] at q; cases q; exact m _ rfl
   rw [jo this]
   exact s3 b u (by rw [jo this]; exact q)
  obtain ⟨v,g1,g2⟩:=e.pl j x q n
  exact ⟨v,g1,Rep.monoE s4 _ _ g2⟩
 ·cases n
  have s4:jW H (upd H3 a (.ext φ)):=fun b u q m=>by
   have:b ≠ a:=fun z=>by subst z; rw [h5] at q; cases q; exact m _ rfl
   rw [jo this]
   exact s3 b u (by rw [jo this]; exact q)
  exact ⟨d,a,h1,h2,h3,h7 _ s4 jq⟩
end
end BX
end
section
namespace BX
open PySem PySem.Spec L2
open PyProof.Rows hiding St
noncomputable def brw (own:Option Nat) (f:RP):RP:=fun ρ=>match f (hid own ρ) with
 | some d=>some d
 | none=>match own with
  | none=>none
  | some i=>match f ρ,lkp i ρ with
   | some d,some c=>if okB c d=true then some d else none
   | _,_=>none
theorem amX {own:Option Nat}{f:RP}{ρ:Rho}{d:PyData} (h:brw own f ρ=some d):f (hid own ρ)=some d ∨ ∃ i c,own=some i/\f ρ=some d/\ρ[i]?=some (some c)/\okB c d=true:=by
 unfold brw at h
 cases h1:f (hid own ρ) with
 | some x=>rw [h1] at h; exact .inl h
 | none=>
  rw [h1] at h
  cases own with
  | none=>cases h
  | some i=>
   simp only at h
   cases h2:f ρ with
   | none=>rw [h2] at h; cases h
   | some x=>
    rw [h2] at h
    cases h3:lkp i ρ with
    | none=>rw [h3] at h; cases h
    | some c=>
     rw [h3] at h
     simp only at h
     split at h
     ·rename_i ok
      cases h
      exact .inr ⟨i,c,rfl,rfl,zd h3,ok⟩
     ·cases h
section
variable {X:Cx}{e a b c tg src:Expr}{es:List Expr}{st:Stmt}{sts qh:List Stmt}{fa fb fc:RP}{F G:RO}{pos:Pos}{own:Option Nat}
noncomputable def tE (P:Program) (w:World) (K:Fg) (own:Option Nat) (f:RP):TE:=fun σ H Q=>∃ Hs ρ d,EnvO P w K Hs H own ρ σ/\brw own f ρ=some d/\∀ v H',jW H H'->EnvO P w K Hs H' own ρ σ->Rep K H' d v->Q v H'
theorem agu (h:PD X e fa):PE X e (tE X.prog X.w X.K own fa):=by
 with_unfolding_all
  intro Kp s σ H Q I ⟨Hs,ρ,d,E,hb,k⟩
  rcases amX hb with h1 | ⟨i,c,ho,h1,h2,ok⟩
  ·exact h Kp s σ H Q I ⟨hid own ρ,d,E.hid,h1,fun v H' s r=>k v H' (jt.e s) (E.mono s) r⟩
  ·subst ho
   obtain ⟨d0,a,cl,o,g1,g2,g3,S,g4,env,sm,back,keep⟩:=E.opn
   rw [h2] at g1; cases g1
   refine thn (h Kp s σ (upd H a o) (fun v H3=>jt (upd H a o) H3/\Rep X.K H3 d v) (Inv.opened I S g4) ⟨ρ,d,env,h1,fun v H3 s3 r3=>⟨s3,r3⟩⟩) fun u s1 ⟨v,H3,I3,r,s3,r3⟩=>?_
   have e3:H3 a=some o:=s3 _ _ jq
   exact ⟨v,upd H3 a cl,Inv.closed I3 S e3 (by obtain ⟨φ,rfl⟩:=S.ext; exact Inv.nofrz I g4),r,k v _ (back H3 s3).1 (back H3 s3).2 (keep d H3 v ok e3 r3)⟩
noncomputable def tT (P:Program) (w:World) (K:Fg) (own:Option Nat) (f:Rho->Option Bool):TT:=fun σ H Q=>∃ Hs ρ d,EnvO P w K Hs H own ρ σ/\f ρ=some d/\∀ H',jW H H'->EnvO P w K Hs H' own ρ σ->Q d H'
theorem ao3 {tc:Rho->Option Bool} (h:PTD X e tc):PT X e (tT X.prog X.w X.K own tc):=by
 with_unfolding_all
  intro Kp s σ H Q I ⟨Hs,ρ,d,E,h1,k⟩
  cases own with
  | none=>exact h Kp s σ H Q I ⟨ρ,d,E.to,h1,fun H' s=>k H' (jt.e s) (E.mono s)⟩
  | some i=>
   obtain ⟨d0,a,cl,o,g1,g2,g3,S,g4,env,sm,back,keep⟩:=E.opn
   refine thn (h Kp s σ (upd H a o) (fun b H3=>b=d/\jt (upd H a o) H3) (Inv.opened I S g4) ⟨ρ,d,env,h1,fun H3 s3=>⟨rfl,s3⟩⟩) fun b s1 ⟨H3,I3,hb,s3⟩=>?_
   subst hb
   exact ⟨upd H3 a cl,Inv.closed I3 S (s3 _ _ jq) (by obtain ⟨φ,rfl⟩:=S.ext; exact Inv.nofrz I g4),k _ (back H3 s3).1 (back H3 s3).2⟩
noncomputable def tF (P:Program) (w:World) (K:Fg) (own:Option Nat) (f:RP):TE:=fun σ H Q=>∃ Hs ρ d,EnvO P w K Hs H own ρ σ/\f ρ=some d/\∀ v H',jt Hs H'->Rep K H' d v->Q v H'
theorem ao4 (h:PD X e fa):PE X e (tF X.prog X.w X.K own fa):=by
 with_unfolding_all
  intro Kp s σ H Q I ⟨Hs,ρ,d,E,h1,k⟩
  cases own with
  | none=>exact h Kp s σ H Q I ⟨ρ,d,E.to,h1,fun v H' s r=>k v H' (E.sm.trans s) r⟩
  | some i=>
   obtain ⟨d0,a,cl,o,g1,g2,g3,S,g4,env,sm,back,keep⟩:=E.opn
   exact h Kp s σ (upd H a o) Q (Inv.opened I S g4) ⟨ρ,d,env,h1,fun v H3 s3 r3=>k v H3 (sm.trans s3) r3⟩
noncomputable def aqy (P:Program) (w:World) (K:Fg) (Hs:Hp) (own:Option Nat) (D:Ends):Out->Prop
 | .nx ρ=>∀ σ H,EnvO P w K Hs H own ρ σ->D.nx σ H
 | .rt d=>∀ v H,jt Hs H->Rep K H d v->D.rt v H
 | .bk ρ=>∀ σ H,EnvO P w K Hs H own ρ σ->D.bk σ H
 | .ct ρ=>∀ σ H,EnvO P w K Hs H own ρ σ->D.ct σ H
noncomputable def tOS (P:Program) (w:World) (K:Fg) (own:Option Nat) (F:RO):TS:=fun D σ H=>∃ Hs ρ o,EnvO P w K Hs H own ρ σ/\F ρ=some o/\aqy P w K Hs own D o
@[irreducible] noncomputable def PSO (X:Cx) (own:Option Nat) (st:Stmt) (F:RO):Prop:=PS X st (tOS X.prog X.w X.K own F)
@[irreducible] noncomputable def acO (X:Cx) (own:Option Nat) (sts:List Stmt) (F:RO):Prop:=PSs X sts (tOS X.prog X.w X.K own F)
theorem adi (h:PSD X st F):PSO X none st F:=by
 with_unfolding_all
  refine PS.imp h fun D σ H ⟨Hs,ρ,o,E,q,k⟩=>⟨ρ,o,E.to,q,?_⟩
  cases o with
  | nx ρ'=>exact fun σ' H' s r=>k σ' H' (EnvO.of r (E.sm.trans s))
  | rt d=>exact fun v H' s r=>k v H' (E.sm.trans s) r
  | bk ρ'=>exact fun σ' H' s r=>k σ' H' (EnvO.of r (E.sm.trans s))
  | ct ρ'=>exact fun σ' H' s r=>k σ' H' (EnvO.of r (E.sm.trans s))
theorem QR (h:acO X none sts F):abN X sts F:=by
 with_unfolding_all
  refine PSs.imp h fun D σ H ⟨ρ,o,en,q,k⟩=>⟨H,ρ,o,EnvO.of en (jt.refl H),q,?_⟩
  cases o with
  | nx ρ'=>exact fun σ' H' E=>k σ' H' E.sm E.to
  | rt d=>exact fun v H' s r=>k v H' s r
  | bk ρ'=>exact fun σ' H' E=>k σ' H' E.sm E.to
  | ct ρ'=>exact fun σ' H' E=>k σ' H' E.sm E.to
theorem j6:acO X own [] qG:=by
 with_unfolding_all
  refine PSs.imp ahp fun D σ H ⟨Hs,ρ,o,E,q,k⟩=>?_
  cases q
  exact k σ H E
theorem jC (h1 : PSO X own st F) (h2 : acO X own qh G) : acO X own (st :: qh) (j2 F G) := by
  with_unfolding_all
   refine PSs.imp (QF h1 h2) fun D σ H ⟨Hs, ρ, o, E, q, k⟩ => ?_
   cases hf : F ρ with
   | none => simp [j2, hf] at q
   | some p =>
     refine ⟨Hs, ρ, p, E, hf, ?_⟩
     cases p with
     | nx ρ' => exact fun σ' H' E' => ⟨Hs, ρ', o, E', by simpa [j2, hf] using q, k⟩
     | rt d => have : Out.rt d = o := by simpa [j2, hf] using q
               subst this; exact k
     | bk d => have : Out.bk d = o := by simpa [j2, hf] using q
               subst this; exact k
     | ct d => have : Out.ct d = o := by simpa [j2, hf] using q
               subst this; exact k
theorem ZV (h:PD X e fa):PSO X own (.Return (some e) pos) (qO fa):=by
 with_unfolding_all
  refine PS.imp (af7 (ao4 (own:=own) h)) fun D σ H ⟨Hs,ρ,o,E,q,k⟩=>?_
  cases h1:fa ρ with
  | none=>simp [qO,h1] at q
  | some d=>
   have:Out.rt d=o:=by simpa [qO,h1] using q
   subst this
   exact ⟨Hs,ρ,d,E,h1,k⟩
theorem aku {l r:List Stmt}{tc:Rho->Option Bool} (hc:PTD X c tc) (hl:acO X own l F) (hr:acO X own r G):PSO X own (.If c l r pos) (ifS tc F G):=by
 with_unfolding_all
  refine PS.imp (anU (ao3 (own:=own) hc) hl hr) fun D σ H ⟨Hs,ρ,o,E,q,k⟩=>?_
  cases h1:tc ρ with
  | none=>simp [ifS,h1] at q
  | some x=>
   refine ⟨Hs,ρ,x,E,h1,fun H1 _ E1=>?_⟩
   cases x with
   | true=>rw [if_pos rfl]; exact ⟨Hs,ρ,o,E1,by simpa [ifS,h1] using q,k⟩
   | false=>rw [if_neg Bool.false_ne_true]; exact ⟨Hs,ρ,o,E1,by simpa [ifS,h1] using q,k⟩
theorem EnvO.set {P:Program}{w:World}{K:Fg}{Hs H:Hp}{ρ:Rho}{σ:St}{i:Nat}{d:PyData}{v:V} (E:EnvO P w K Hs H own ρ σ) (hi:own ≠ some i) (r:Rep K H d v):EnvO P w K Hs H own (ρ.set i (some d)) (σ.set i (some v)):=by
 refine ⟨by simp [E.len],E.sm,fun j x q n=>?_,fun j n=>?_⟩
 ·by_cases hj:i=j
  ·subst hj
   rw [List.getElem?_set] at q ⊢
   simp only [zzM] at q ⊢
   by_cases hl:i < ρ.length
   ·rw [if_pos hl] at q
    rw [if_pos (by rw [←E.len]; exact hl)]
    cases q
    exact ⟨v,rfl,r⟩
   ·rw [if_neg hl] at q; cases q
  ·rw [List.getElem?_set_ne hj] at q ⊢
   exact E.pl j x q n
 ·have hj:i ≠ j:=fun z=>by subst z; exact hi n
  rw [List.getElem?_set_ne hj,List.getElem?_set_ne hj]
  exact E.ow j n
theorem ahI (i:Nat) {x:Str}{pos':Pos} (hN:X.N.Nodup) (he:PD X e fa) (ho:own ≠ some i:=by decide) (hi:X.N[i]?=some x:=by rfl) (hx:Loc X.env.scope x:=by first | exact Or.inl rfl | exact Or.inr rfl) (hs:swapsWith e (some (.Name x pos')) pos.line X.env=pure false:=by rfl)
  (hf:X.fn x=true ∨ X.env.scope.names.lookup x=some .local:=by first | exact .inl rfl | exact .inr rfl | assumption):PSO X own (.Assign [.Name x pos'] e pos) (zA (brw own fa) (jE i)):=by
 with_unfolding_all
  refine PS.imp (adV hN hi hx (agu (own:=own) he) hs hf) fun D σ H ⟨Hs,ρ,o,E,q,k⟩=>?_
  cases h1:brw own fa ρ with
  | none=>simp [zA,h1] at q
  | some d=>
   have:Out.nx (ρ.set i (some d))=o:=by simpa [zA,h1,jE] using q
   subst this
   exact ⟨Hs,ρ,d,E,h1,fun v H1 _ E1 r1=>k _ H1 (E1.set ho r1)⟩
end
section
variable {X:Cx}{e a b c tg src:Expr}{es:List Expr}{st:Stmt}{sts qh body:List Stmt}{fa fb fc:RP}{F G:RO}{pos:Pos}{own:Option Nat}
@[irreducible] noncomputable def PGO (X:Cx) (own:Option Nat) (tg:Expr) (ga:PyData->Rho->Option Rho):Prop:=
 PG X tg fun v σ H Q=>∃ Hs ρ d ρ',EnvO X.prog X.w X.K Hs H own ρ σ/\Rep X.K H d v/\ga d ρ=some ρ'/\∀ σ' H',EnvO X.prog X.w X.K Hs H' own ρ' σ'->Q σ' H'
@[irreducible] noncomputable def amY (X:Cx) (own:Option Nat) (ts:List Expr) (ga:LP->Rho->Option Rho):Prop:=
 PGs X ts fun vs σ H Q=>∃ Hs ρ ds ρ',EnvO X.prog X.w X.K Hs H own ρ σ/\Reps X.K H ds vs/\ga ds ρ=some ρ'/\∀ σ',EnvO X.prog X.w X.K Hs H own ρ' σ'->Q σ' H
theorem QS (i:Nat) {x:Str} (hN:X.N.Nodup) (ho:own ≠ some i:=by decide) (hi:X.N[i]?=some x:=by rfl) (hx:Loc X.env.scope x:=by first | exact Or.inl rfl | exact Or.inr rfl)
  (hf:X.fn x=true ∨ X.env.scope.names.lookup x=some .local:=by first | exact .inl rfl | exact .inr rfl | assumption):PGO X own (.Name x pos) (jE i):=by
 with_unfolding_all
  refine PG.imp (ZM hN hi hx hf) fun v σ H Q ⟨Hs,ρ,d,ρ',E,r,q,k⟩=>?_
  cases q
  exact k _ H (E.set ho r)
theorem ZW:amY X own [] zp:=by
 with_unfolding_all
  refine PGs.imp ahq fun vs σ H Q ⟨Hs,ρ,ds,ρ',E,r,q,k⟩=>?_
  cases ds with
  | nil=>cases r; cases q; exact ⟨rfl,k σ E⟩
  | cons d ds=>cases q
theorem zm (i:Nat) {x:Str}{gr:LP->Rho->Option Rho} (hN:X.N.Nodup) (h2:amY X own es gr) (ho:own ≠ some i:=by decide) (hi:X.N[i]?=some x:=by rfl) (hx:Loc X.env.scope x:=by first | exact Or.inl rfl | exact Or.inr rfl)
  (hf:X.fn x=true ∨ X.env.scope.names.lookup x=some .local:=by first | exact .inl rfl | exact .inr rfl | assumption)
  (hs:(assignEach (.Name x pos::es) X.env).map (·.2)=assign (.Name x pos) X.env::(assignEach es X.env).map (·.2):=by rfl):amY X own (.Name x pos::es) (jM (jE i) gr):=by
 with_unfolding_all
  refine PGs.imp (aeT (ZM hN hi hx hf) h2 hs) fun vs σ H Q ⟨Hs,ρ,ds,ρ',E,r,q,k⟩=>?_
  cases ds with
  | nil=>cases q
  | cons d ds=>
   obtain ⟨y,rr,e1,r1,r2⟩:=r
   subst e1
   exact ⟨y,rr,rfl,Hs,_,ds,ρ',E.set ho r1,r2,by simpa [jM,jE] using q,k⟩
theorem abl {k n:Nat}{gr:LP->Rho->Option Rho} (hc:X.calm=true) (h:amY X own es gr) (hn:(assignEach es X.env).length=n:=by rfl) (hst:(assignEach es X.env).findIdx? (·.1)=none:=by rfl):
  PGO X own (.Tuple es k pos) (Qa n gr):=by
 with_unfolding_all
  refine PG.imp (ajQ hc h hn hst) fun v σ H Q ⟨Hs,ρ,d,ρ',E,r,q,k⟩=>?_
  cases d with
  | tuple ds=>
   obtain ⟨a,xs,e1,e2,e3⟩:=r
   by_cases hl:ds.length=n
   ·exact ⟨a,xs,e1,e2,by rw [e3.length]; exact hl,Hs,ρ,ds,ρ',E,e3,by simpa [Qa,hl] using q,fun σ' E'=>k σ' H E'⟩
   ·simp [Qa,hl] at q
  | _=>simp [Qa] at q
theorem EnvO.rebase {P:Program}{w:World}{K:Fg}{Hs H:Hp}{ρ:Rho}{σ:St} (E:EnvO P w K Hs H own ρ σ):∃ Hb,EnvO P w K Hb H own ρ σ/\(∀ H3,jt Hb H3->jW H H3)/\
  (∀ H3 ρ3 σ3,EnvO P w K Hb H3 own ρ3 σ3->EnvO P w K Hs H3 own ρ3 σ3)/\∀ H3,jt Hb H3->jt Hs H3:=by
 cases own with
 | none=>exact ⟨H,⟨E.len,jt.refl H,E.pl,fun i z=>nomatch z⟩,fun _ s=>jt.e s,fun H3 ρ3 σ3 E3=>⟨E3.len,E.sm.trans E3.sm,E3.pl,fun i z=>nomatch z⟩,fun _ s=>E.sm.trans s⟩
 | some i=>
  obtain ⟨d,a,h1,h2,h3,h4⟩:=E.ow i rfl
  obtain ⟨c,o,S,h5,_⟩:=h4.out
  obtain ⟨φ,rfl⟩:=S.ext
  let Hb:Hp:=fun b=>if b=a then none else H b
  have ha:Hb a=none:=if_pos rfl
  have hb:∀ b,b ≠ a->Hb b=H b:=fun b n=>if_neg n
  have sH:∀ H3,jt Hb H3->jt Hs H3:=fun H3 s b u q=>by
   have n:b ≠ a:=fun z=>by subst z; rw [h3] at q; cases q
   exact s b u (by rw [hb b n]; exact E.sm b u q)
  refine ⟨Hb,⟨E.len,fun b u q=>?_,E.pl,fun j n=>?_⟩,fun H3 s b u q m=>?_,fun H3 ρ3 σ3 E3=>⟨E3.len,sH H3 E3.sm,E3.pl,fun j n=>?_⟩,sH⟩
  ·by_cases n:b=a
   ·subst n; rw [ha] at q; cases q
   ·rw [hb b n] at q; exact q
  ·cases n
   exact ⟨d,a,h1,h2,ha,h4⟩
  ·have n:b ≠ a:=fun z=>by subst z; rw [h5] at q; cases q; exact m _ rfl
   exact s b u (by rw [hb b n]; exact q)
  ·obtain ⟨d3,a3,g1,g2,g3,g4⟩:=E3.ow j n
   refine ⟨d3,a3,g1,g2,?_,g4⟩
   by_cases z:a3=a
   ·rw [z]; exact h3
   ·rw [hb a3 z] at g3
    cases q:Hs a3 with
    | none=>rfl
    | some u=>have:=E.sm _ _ q; rw [g3] at this; cases this
theorem Ja {fi:Rho->Option (LP)}{ga:PyData->Rho->Option Rho} (hp:PassesOwn (model X.prog X.w) X.A X.env X.xe) (hc:X.calm=true) (hi:PID X tg src fi) (hg:PGO X own tg ga) (hb:acO X own body F)
  (hs:∀ x,foldedSetIterable src X.env x=pure x:=by intro _; rfl):PSO X own (.For tg src body [] pos) (JX (fun ρ=>fi (hid own ρ)) ga F):=by
 with_unfolding_all
  refine PS.imp (adW hp hc hi hg hb hs) fun D σ H ⟨Hs,ρ,o,E,q,k⟩=>?_
  cases h1:fi (hid own ρ) with
  | none=>simp [JX,h1] at q
  | some ds=>
   have q':jF ga F ds ρ=some o:=by simpa [JX,h1] using q
   refine ⟨hid own ρ,ds,E.hid,h1,fun J H1 s1 Y=>?_⟩
   obtain ⟨Hb,Eb,sE,back,sb⟩:=(E.mono s1).rebase
   refine ⟨fun i m σ H2=>m=ds.length - i/\i<=ds.length/\∃ ρ2,EnvO X.prog X.w X.K Hb H2 own ρ2 σ/\jF ga F (ds.drop i) ρ2=some o,⟨ds.length,by simp,Nat.zero_le _,ρ,Eb,by simpa using q'⟩,?_⟩
   rintro i m σ2 H2 ⟨rfl,hi,ρ2,en2,q2⟩
   obtain ⟨g1,g2,g3⟩:=Y i H2 (jW.a (sE H2 en2.sm))
   by_cases hlt:i<ds.length
   ·right
    have hd:ds.drop i=ds[i]::ds.drop (i+1):=List.drop_eq_getElem_cons hlt
    rw [hd] at q2
    refine ⟨g1 hlt,fun σ3 H3=>∃ ρ3,EnvO X.prog X.w X.K Hb H3 own ρ3 σ3/\jF ga F (ds.drop (i+1)) ρ3=some o,fun σ3 H3 ⟨ρ3,a2,a3⟩=>⟨ds.length - (i+1),by omega,rfl,hlt,ρ3,a2,a3⟩,fun x H3 y=>?_⟩
    obtain ⟨s3,r3⟩:=g3 x H3 y
    have r3':=r3 ds[i] (by simp [hlt])
    cases h4:ga ds[i] ρ2 with
    | none=>simp [jF,h4] at q2
    | some ρ4=>
     refine ⟨Hb,ρ2,ds[i],ρ4,en2.mono s3,r3',h4,fun σ5 H5 en5=>?_⟩
     cases h5:F ρ4 with
     | none=>simp [jF,h4,h5] at q2
     | some p=>
      refine ⟨Hb,ρ4,p,en5,h5,?_⟩
      cases p with
      | nx ρ6=>exact fun σ6 H6 en6=>⟨ρ6,en6,by simpa [jF,h4,h5] using q2⟩
      | ct ρ6=>exact fun σ6 H6 en6=>⟨ρ6,en6,by simpa [jF,h4,h5] using q2⟩
      | bk ρ6=>
       have:Out.nx ρ6=o:=by simpa [jF,h4,h5] using q2
       subst this
       exact fun σ6 H6 en6=>k σ6 H6 (back _ _ _ en6)
      | rt d=>
       have:Out.rt d=o:=by simpa [jF,h4,h5] using q2
       subst this
       exact fun v H6 s6 r6=>k v H6 (sb _ s6) r6
   ·left
    have he:i=ds.length:=by omega
    have hn:ds.drop i=[]:=by rw [he]; simp
    rw [hn] at q2
    have:Out.nx ρ2=o:=by simpa [jF] using q2
    subst this
    exact ⟨g2 (by omega),k σ2 H2 (back _ _ _ en2)⟩
end
theorem Zb {H:Hp}{a:Addr}{o o':HO}:upd (upd H a o) a o'=upd H a o':=by
 funext b
 by_cases h:b=a
 ·subst h; rw [jq,jq]
 ·rw [jo h,jo h,jo h]
section
variable {P:Program}{w:World}{K:Fg}{Hs H:Hp}{ρ:Rho}{σ:St}{i:Nat}
theorem EnvO.put {a:Addr}{d d':PyData}{φ:Heap->Prop}{H3:Hp}{c:HO} (E:EnvO P w K Hs H (some i) ρ σ) (h0:ρ[i]?=some (some d)) (h2:σ[i]?=some (some (.ref a))) (h3:Hs a=none) (h5:H a=some (.ext φ))
  (s3:∀ b u,b ≠ a->H b=some u->H3 b=some u) (ow:ZU P w K (upd H3 a c) a d'):EnvO P w K Hs (upd H3 a c) (some i) (ρ.set i (some d')) σ:=by
 have hi:i < ρ.length:=(List.getElem?_eq_some_iff.mp h0).1
 have s4:jW H (upd H3 a c):=fun b u q m=>by
  have:b ≠ a:=fun z=>by subst z; rw [h5] at q; cases q; exact m _ rfl
  rw [jo this]; exact s3 b u this q
 refine ⟨by simp [E.len],fun b u q=>?_,fun j x q n=>?_,fun j n=>?_⟩
 ·have:b ≠ a:=fun z=>by subst z; rw [h3] at q; cases q
  rw [jo this]; exact s3 b u this (E.sm b u q)
 ·have hj:i ≠ j:=fun z=>n (by rw [z])
  rw [List.getElem?_set_ne hj] at q
  obtain ⟨v,g1,g2⟩:=E.pl j x q n
  exact ⟨v,g1,Rep.monoE s4 _ _ g2⟩
 ·cases n
  exact ⟨d',a,by rw [List.getElem?_set_self hi],h2,h3,ow⟩
theorem EnvO.opnL {ds:LP} (E:EnvO P w K Hs H (some i) ρ σ) (h:ρ[i]?=some (some (.list ds))):∃ a xs,σ[i]?=some (some (.ref a))/\Hs a=none/\H a=some (QE a xs)/\Reps K H ds xs/\EnvR K (upd H a (.lst xs)) ρ σ:=by
 obtain ⟨d,a,h1,h2,h3,h4⟩:=E.ow i rfl
 rw [h] at h1; cases h1
 obtain ⟨xs,h5,h6⟩:=h4
 have s1:jW H (upd H a (.lst xs)):=jW.upd h5
 refine ⟨a,xs,h2,h3,h5,h6,E.len,fun j x q=>?_⟩
 by_cases hj:i=j
 ·subst hj
  rw [h] at q; cases q
  exact ⟨.ref a,h2,a,xs,rfl,jq,Reps.monoE s1 _ _ h6⟩
 ·obtain ⟨v,g1,g2⟩:=E.pl j x q (fun z=>hj (Option.some.inj z))
  exact ⟨v,g1,Rep.monoE s1 _ _ g2⟩
end
section
variable {X:Cx}{e a b c tg src:Expr}{es:List Expr}{st:Stmt}{sts qh body:List Stmt}{fa fb fc:RP}{F G:RO}{pos:Pos}
noncomputable def ao5 (P:Program) (w:World) (K:Fg) (i:Nat) (g:RP):TE:=fun σ H Q=>∃ Hs ρ d',EnvO P w K Hs H (some i) ρ σ/\g ρ=some d'/\∀ H',EnvO P w K Hs H' (some i) (ρ.set i (some d')) σ->Q .non H'
noncomputable def ZX (i:Nat) (g:RP):RO:=fun ρ=>(g ρ).map fun d=> .nx (ρ.set i (some d))
theorem ad7 {i:Nat}{g:RP} (h:PE X e (ao5 X.prog X.w X.K i g)) (hs:swapsWith e none pos.line X.env=pure false:=by rfl):PSO X (some i) (.Expr e pos) (ZX i g):=by
 with_unfolding_all
  refine PS.imp (adU h hs) fun D σ H ⟨Hs,ρ,o,E,q,k⟩=>?_
  cases h1:g ρ with
  | none=>simp [ZX,h1] at q
  | some d=>
   have:Out.nx (ρ.set i (some d))=o:=by simpa [ZX,h1] using q
   subst this
   exact ⟨Hs,ρ,d,E,h1,fun H' E'=>k σ H' E'⟩
noncomputable def amZ (c d:OP):OP:=match c,d with
 | some (.list ds),some d=>if noL d=true/\ds.length<1000000 then some (.list (ds++[d])) else none
 | _,_=>none
noncomputable def abh (i:Nat) (fa:RP):RP:=fun ρ=>amZ (lkp i ρ) (fa ρ)
theorem akv {c d:OP}{r:PyData} (h:amZ c d=some r):∃ ds x,c=some (.list ds)/\d=some x/\noL x=true/\ds.length<1000000/\r= .list (ds++[x]):=by
 unfold amZ at h
 split at h
 ·split at h
  ·rename_i hc
   cases h
   exact ⟨_,_,rfl,rfl,hc.1,hc.2,rfl⟩
  ·cases h
 ·cases h
theorem ZB {n:Nat} (h:n<1000000):n<sizeLine:=Nat.lt_of_lt_of_le h (by rw [sizeLine_eq]; decide)
theorem aiN (i:Nat) {x:Str}{p1 apos cpos:Pos} (h:PD X e fa) (hN:X.N[i]?=some x:=by rfl) (hv:Vis X.env.scope x:=by first | exact Or.inl rfl | exact Or.inr (Or.inl rfl) | exact Or.inr (Or.inr rfl)) (hd:(x == ("__debug__":Str))=false:=by decide)
  (hcd:(x == ("__classdict__":Str))=false:=by decide) (hbase:attributeBase (.Name x p1) "append" X.env (eval (.Name x p1) X.env)=eval (.Name x p1) X.env:=by rfl)
  (hfew:((backTo cpos (starEach [e] X.env)).all (fun x=>!x.1) && (backToKw cpos (keywordEach [] X.env)).all (fun x=>x.1.isSome) && decide ([e].length+([]:List Keyword).length+(if ([]:List Keyword).isEmpty then 0 else 1)<30))=true:=by rfl)
  (hline:(apos.endLine == cpos.line)=true:=by rfl) (hs:starEach [e] X.env=(false,eval e X.env)::starEach [] X.env:=by rfl) (hplain:(backTo cpos (starEach [] X.env)).any (·.1)=false:=by rfl):
  PE X (.Call (.Attribute (.Name x p1) "append" apos) [e] [] cpos) (ao5 X.prog X.w X.K i (abh i fa)):=by
 with_unfolding_all
  intro Kp s σ H Q I ⟨Hs,ρ,d',E,hg,k⟩
  obtain ⟨ds,d,q1,q2,hn,hl,rfl⟩:=akv hg
  obtain ⟨a,xs,g2,g3,g4,g5,env⟩:=E.opnL (zd q1)
  have hlen:=g5.length
  have W:=aj2 (X:=X) (cpos:=cpos) (apos:=apos) PySem.F.plainAttrs_list PySem.F.slot_list_append PySem.F.type_list_append ac7 (abA hN hv hd hcd) (zF h QG hs) hbase hfew hline hs hplain
  refine thn (W Kp s σ (upd H a (.lst xs)) (fun v H4=>∃ H3 y,v= .non/\H4=upd H3 a (.lst (xs++[y]))/\jt (upd H a (.lst xs)) H3/\Rep X.K H3 d y) (Inv.opened I (.l xs) g4)
   ⟨.ref a,g2,.inl ⟨rfl,_,SqL.of jq⟩,ρ,d,env,q2,fun y H3 s3 r3=>⟨a,xs,y,rfl,rfl,s3 _ _ jq,by rw [hlen]; exact ZB hl,H3,y,rfl,rfl,s3,r3⟩⟩) fun u s1 ⟨v,H4,I4,r,H3,y,e1,e2,s3,r3⟩=>?_
  subst e1
  have e4:H4 a=some (.lst (xs++[y])):=by rw [e2]; exact jq
  have sb:∀ b u,b ≠ a->H b=some u->H4 b=some u:=fun b u n q=>by rw [e2,jo n]; exact s3 b u (by rw [jo n]; exact q)
  refine ⟨.non,upd H4 a (QE a (xs++[y])),Inv.closed I4 (.l _) e4 (Inv.nofrz I g4),r,k _ (E.put (zd q1) g2 g3 g4 sb ⟨xs++[y],jq,?_⟩)⟩
  have s5:jW H (upd H4 a (QE a (xs++[y]))):=fun b u q m=>by
   have:b ≠ a:=fun z=>by subst z; rw [g4] at q; cases q; exact m _ rfl
   rw [jo this]; exact sb b u this q
  have s6:zx H3 (upd H4 a (QE a (xs++[y]))):=fun b u q m=>by
   have e3:H3 a=some (.lst xs):=s3 _ _ jq
   have:b ≠ a:=fun z=>by subst z; rw [e3] at q; cases q; exact m _ rfl
   rw [jo this,e2,jo this]; exact q
  exact (Reps.monoE s5 _ _ g5).append ⟨y,[],rfl,Rep.monoN s6 _ _ hn r3,rfl⟩
end
section
variable {X:Cx}{e a b c tg src:Expr}{es:List Expr}{st:Stmt}{sts qh body:List Stmt}{fa fb fc:RP}{F G:RO}{pos:Pos}
@[irreducible] noncomputable def PN (X:Cx) (e:Expr) (f:RP):Prop:=
 PE X e fun σ H Q=>∃ ρ d,EnvR X.K H ρ σ/\f ρ=some d/\∀ a H',jt H H'->H a=none->ZU X.prog X.w X.K H' a d->Q (.ref a) H'
theorem agv {fr:Rho->Option (LP)} (h:PAD X es fr):PN X (.List es pos) (JG fr):=by
 with_unfolding_all
  intro Kp s σ H Q I ⟨ρ,d,en,hf,k⟩
  cases h1:fr ρ with
  | none=>simp [JG,h1] at hf
  | some ds=>
   by_cases hfew:few ds=true
   ·have:PyData.list ds=d:=by simpa [JG,h1,hfew] using hf
    subst this
    refine thn (age h Kp s σ H (fun v H2=>∃ a xs H1,v= .ref a/\H1 a=none/\jt H H1/\H2=upd H1 a (.lst xs)/\Reps X.K H1 ds xs) I ⟨ρ,ds,en,h1,fun vs H1 s1 r1=>⟨by rw [r1.length]; exact abO (by simpa [few] using hfew),fun l hl=>⟨l,vs,H1,rfl,hl,s1,rfl,r1⟩⟩⟩) fun u s1 ⟨v,H2,I2,r,a,xs,H1,e1,e2,s1',e3,r1⟩=>?_
    subst e1
    have e4:H2 a=some (.lst xs):=by rw [e3]; exact jq
    have e5:upd H2 a (QE a xs)=upd H1 a (QE a xs):=by rw [e3,Zb]
    have s2:jt H1 (upd H2 a (QE a xs)):=by rw [e5]; exact jx e2
    exact ⟨.ref a,_,Inv.closed I2 (.l xs) e4 (fun ob u z=>by have:=I.base.frzs _ _ _ z; rw [s1'.free e2] at this; cases this),r,k a _ (s1'.trans s2) (s1'.free e2) ⟨xs,jq,Reps.mono s2 _ _ r1⟩⟩
   ·simp [JG,h1,hfew] at hf
theorem afb:PN X (.Dict [] [] pos) (cst (.dict [(.none,.none)])):=by
 with_unfolding_all
  intro Kp s σ H Q I ⟨ρ,d,en,hf,k⟩
  cases hf
  refine thn (aj7 Kp s σ H (fun v H2=>∃ a,v= .ref a/\H a=none/\H2=upd H a (.dK [])) I (fun l hl=>⟨l,rfl,hl,rfl⟩)) fun u s1 ⟨v,H2,I2,r,a,e1,e2,e3⟩=>?_
  subst e1
  have e4:H2 a=some (.dK []):=by rw [e3]; exact jq
  obtain ⟨ob,I3⟩:=Inv.sealedD I2 e4
  have s2:jt H (upd H2 a (aa4 X.prog X.w a ob [])):=by rw [e3,Zb]; exact jx e2
  exact ⟨.ref a,_,I3,r,k a _ s2 e2 ⟨[],[],ob,rfl,jq,rfl⟩⟩
noncomputable def QT (i:Nat) (f:RP) (G:RO):RO:=fun ρ=>(f ρ).bind fun d=>if i < ρ.length then (G (ρ.set i (some d))).bind fun o=>match o with
  | .rt c=>some (.rt c)
  | _=>none
 else none
theorem QU (i:Nat) {x:Str}{pos':Pos} (hN:X.N.Nodup) (he:PN X e fa) (h:acO X (some i) qh G) (hi:X.N[i]?=some x:=by rfl) (hx:Loc X.env.scope x:=by first | exact Or.inl rfl | exact Or.inr rfl) (hs:swapsWith e (some (.Name x pos')) pos.line X.env=pure false:=by rfl)
  (hf:X.fn x=true ∨ X.env.scope.names.lookup x=some .local:=by first | exact .inl rfl | exact .inr rfl | assumption):acO X none (.Assign [.Name x pos'] e pos::qh) (QT i fa G):=by
 with_unfolding_all
  refine PSs.imp (QF (adV hN hi hx he hs hf) h) fun D σ H ⟨Hs,ρ,o,E,q,k⟩=>?_
  cases h1:fa ρ with
  | none=>simp [QT,h1] at q
  | some d=>
   by_cases hl:i < ρ.length
   ·cases h2:G (ρ.set i (some d)) with
    | none=>simp [QT,h1,h2] at q
    | some p=>
     cases p with
     | rt c=>
      have:Out.rt c=o:=by simpa [QT,h1,h2,hl] using q
      subst this
      refine ⟨ρ,d,E.to,h1,fun a H' s hn ow=>⟨Hs,ρ.set i (some d),.rt c,⟨by simp [E.len],E.sm.trans s,fun j y q n=>?_,fun j n=>?_⟩,h2,k⟩⟩
      ·have hj:i ≠ j:=fun z=>n (by rw [z])
       rw [List.getElem?_set_ne hj] at q ⊢
       obtain ⟨v,g1,g2⟩:=E.pl j y q (fun z=>nomatch z)
       exact ⟨v,g1,Rep.mono s _ _ g2⟩
      ·cases n
       refine ⟨d,a,by rw [List.getElem?_set_self hl],by rw [List.getElem?_set_self (by rw [←E.len]; exact hl)],E.sm.free hn,ow⟩
     | nx _=>simp [QT,h1,h2,hl] at q
     | bk _=>simp [QT,h1,h2,hl] at q
     | ct _=>simp [QT,h1,h2,hl] at q
   ·simp [QT,h1,hl] at q
noncomputable def isI (n:Int):PyData->Bool
 | .int m=>decide (m=n)
 | _=>false
noncomputable def isS (t:Str):PyData->Bool
 | .str m=>decide (m=t)
 | _=>false
noncomputable def ad8 (κ:Key) (d:PyData):Bool:=match κ with
 | .inl n=>isI n d
 | .inr t=>isS t d
theorem QV (κ κ':Key):ad8 κ (ae1 κ')=decide (κ'=κ):=by
 cases κ <;> cases κ' <;> simp [ad8,isI,isS,ae1]
noncomputable def adj (r:List (PyData × PyData)) (κ:Key):OP:=(r.find? fun p=>ad8 κ p.1).map (·.2)
noncomputable def an2 (r:List (PyData × PyData)) (κ:Key) (d:PyData):List (PyData × PyData):=if r.any (fun p=>ad8 κ p.1)=true then r.map (fun p=>if ad8 κ p.1=true then (p.1,d) else p) else r++[(ae1 κ,d)]
noncomputable def Ju (r:List (PyData × PyData)) (n:Int):OP:=(r.find? fun p=>isI n p.1).map (·.2)
noncomputable def ad9 (r:List (PyData × PyData)) (n:Int) (d:PyData):List (PyData × PyData):=if r.any (fun p=>isI n p.1)=true then r.map (fun p=>if isI n p.1=true then (p.1,d) else p) else r++[(.int n,d)]
theorem adk {K:Fg}{H:Hp} (n:Key):∀ {r:List (PyData × PyData)}{ks:List (Key × V)},RepM K H r ks->(adj r n=none/\JV ks n=none) ∨ ∃ d x,adj r n=some d/\JV ks n=some x/\Rep K H d x
 | [],ks,h=>by cases (show ks=[] from h); exact .inl ⟨rfl,rfl⟩
 | (k,d)::r,ks,⟨i,x,s,h1,h2,h3,h4⟩=>by
  subst h1; subst h2
  by_cases hn:i=n
  ·subst hn
   exact .inr ⟨d,x,by simp [adj,QV],by simp [JV],h3⟩
  ·have e1:adj ((ae1 i,d)::r) n=adj r n:=by simp [adj,QV,hn,List.find?_cons]
   have e2:JV ((i,x)::s) n=JV s n:=by simp [JV,List.find?_cons,hn]
   rw [e1,e2]
   exact adk n h4
theorem ZY {K:Fg}{H:Hp} (n:Int) {r:List (PyData × PyData)}{ks:List (Key × V)} (h:RepM K H r ks):(Ju r n=none/\JV ks (Sum.inl n:Key)=none) ∨ ∃ d x,Ju r n=some d/\JV ks (Sum.inl n:Key)=some x/\Rep K H d x:=adk (.inl n) h
theorem RepM.anyK {K:Fg}{H:Hp} (n:Key):∀ {r:List (PyData × PyData)}{ks:List (Key × V)},RepM K H r ks->r.any (fun p=>ad8 n p.1)=ks.any fun kv=>decide (kv.1=n)
 | [],ks,h=>by cases (show ks=[] from h); rfl
 | (k,d)::r,ks,⟨i,x,s,h1,h2,h3,h4⟩=>by
  subst h1; subst h2
  rw [List.any_cons,List.any_cons,RepM.anyK n h4,QV]
theorem RepM.any {K:Fg}{H:Hp} (n:Int) {r:List (PyData × PyData)}{ks:List (Key × V)} (h:RepM K H r ks):r.any (fun p=>isI n p.1)=ks.any fun kv=>decide (kv.1=(Sum.inl n:Key)):=RepM.anyK (.inl n) h
theorem RepM.replK {K:Fg}{H:Hp} (n:Key) {d':PyData}{x':V} (hr:Rep K H d' x'):∀ {r:List (PyData × PyData)}{ks:List (Key × V)},RepM K H r ks->
  RepM K H (r.map fun p=>if ad8 n p.1=true then (p.1,d') else p) (ks.map fun kv=>if kv.1=n then (kv.1,x') else kv)
 | [],ks,h=>by cases (show ks=[] from h); exact rfl
 | (k,d)::r,ks,⟨i,x,s,h1,h2,h3,h4⟩=>by
  subst h1; subst h2
  by_cases hn:i=n
  ·subst hn
   have c1:ad8 i ((ae1 i,d):PyData × PyData).1=true:=by simp [QV]
   rw [List.map_cons,List.map_cons,if_pos c1,if_pos rfl]
   exact ⟨i,x',_,rfl,rfl,hr,RepM.replK i hr h4⟩
  ·have c1:¬ ad8 n ((ae1 i,d):PyData × PyData).1=true:=by simp [QV,hn]
   rw [List.map_cons,List.map_cons,if_neg c1,if_neg hn]
   exact ⟨i,x,_,rfl,rfl,h3,RepM.replK n hr h4⟩
theorem RepM.snocK {K:Fg}{H:Hp} (n:Key) {d':PyData}{x':V} (hr:Rep K H d' x'):∀ {r:List (PyData × PyData)}{ks:List (Key × V)},RepM K H r ks->RepM K H (r++[(ae1 n,d')]) (ks++[(n,x')])
 | [],ks,h=>by cases (show ks=[] from h); exact ⟨n,x',[],rfl,rfl,hr,rfl⟩
 | (k,d)::r,ks,⟨i,x,s,h1,h2,h3,h4⟩=>by
  subst h2
  exact ⟨i,x,_,h1,rfl,h3,RepM.snocK n hr h4⟩
theorem RepM.putK {K:Fg}{H:Hp} (n:Key) {d':PyData}{x':V} (hr:Rep K H d' x') {r:List (PyData × PyData)}{ks:List (Key × V)} (h:RepM K H r ks):RepM K H (an2 r n d') (_root_.L2.putK ks n x'):=by
 unfold an2 _root_.L2.putK
 rw [h.anyK n]
 by_cases c:(ks.any fun kv=>decide (kv.1=n))=true
 ·rw [if_pos c,if_pos c]; exact h.replK n hr
 ·rw [if_neg c,if_neg c]; exact h.snocK n hr
theorem RepM.put {K:Fg}{H:Hp} (n:Int) {d':PyData}{x':V} (hr:Rep K H d' x') {r:List (PyData × PyData)}{ks:List (Key × V)} (h:RepM K H r ks):RepM K H (ad9 r n d') (_root_.L2.putK ks (Sum.inl n) x'):=RepM.putK (.inl n) hr h
theorem RepM.length {K:Fg}{H:Hp}:∀ {r:List (PyData × PyData)}{ks:List (Key × V)},RepM K H r ks->ks.length=r.length
 | [],ks,h=>by cases (show ks=[] from h); rfl
 | (k,d)::r,ks,⟨i,x,s,h1,h2,h3,h4⟩=>by subst h2; simp [RepM.length h4]
noncomputable def aqz (P:Program) (w:World):V->V->V->Hp->(Hp->Prop)->Prop:=fun o k v H Q=>∃ a ks ob n,o= .ref a/\k= .int n/\H a=some (aa4 P w a ob ks)/\ks.length<sizeLine/\∀ ob',Q (upd H a (aa4 P w a ob' (putK ks (Sum.inl n) v)))
theorem akw (hu:X.A.units+1<cLine):ap0 X (aqz X.prog X.w):=by
 intro Kp s σ H o k v ov iv u Q I ro rk rv ⟨a,ks,ob,n,e1,e2,h1,h2,q⟩
 subst e1; subst e2
 cases ro
 obtain ⟨t,rfl⟩:=rk
 refine aiB hu (Inv.openD I h1) (aiz.k (k:=Sum.inl n) jq h2) ⟨t,rfl⟩ rv fun s' I'=>?_
 obtain ⟨ob',I2⟩:=Inv.sealedD I' jq
 rw [Zb,Zb] at I2
 exact ⟨_,I2,q ob'⟩
noncomputable def aiO (c v k:OP):OP:=match c,v,k with
 | some (.dict ((.none,.none)::r)),some d,some (.int n)=>if r.length<1000000 then some (.dict ((.none,.none)::ad9 r n d)) else none
 | _,_,_=>none
theorem akx {c v k:OP}{o:PyData} (h:aiO c v k=some o):∃ r d n,c=some (.dict ((.none,.none)::r))/\v=some d/\k=some (.int n)/\r.length<1000000/\o= .dict ((.none,.none)::ad9 r n d):=by
 unfold aiO at h
 split at h
 ·split at h
  ·rename_i hc
   cases h
   exact ⟨_,_,_,rfl,rfl,rfl,hc,rfl⟩
  ·cases h
 ·cases h
noncomputable def agw (i:Nat) (fk fv:RP):RO:=fun ρ=>(aiO (lkp i ρ) (brw (some i) fv ρ) (brw (some i) fk ρ)).map fun d=> .nx (ρ.set i (some d))
theorem ahJ (i:Nat) {x:Str}{p1 p2:Pos}{fk fv:RP} (hu:X.A.units+1<cLine) (hk:PD X b fk) (he:PD X e fv) (hN:X.N[i]?=some x:=by rfl) (hv:Vis X.env.scope x:=by first | exact Or.inl rfl | exact Or.inr (Or.inl rfl) | exact Or.inr (Or.inr rfl))
  (hd:(x == ("__debug__":Str))=false:=by decide) (hcd:(x == ("__classdict__":Str))=false:=by decide)
  (ha:∀ v,assign (.Subscript (.Name x p1) b p2) X.env v=(do
   let ov ←holding [v] (eval (.Name x p1) X.env)
   let iv ←holding [v,ov] (eval b X.env)
   standAt p2
   holding [v,ov,iv] (setItem ov iv v)
   release [v,ov,iv] []):=by intro _; rfl)
  (hs:swapsWithSole [.Subscript (.Name x p1) b p2] e pos.line X.env=pure false:=by rfl) (hw:swappedStores [.Subscript (.Name x p1) b p2] e X.env=pure none:=by rfl)
  (h1:(assignEach [.Subscript (.Name x p1) b p2] X.env).map (·.2)=[assign (.Subscript (.Name x p1) b p2) X.env]:=by rfl):PSO X (some i) (.Assign [.Subscript (.Name x p1) b p2] e pos) (agw i fk fv):=by
 with_unfolding_all
  refine PS.imp (aou (agu (own:=some i) he) (aos (abA hN hv hd hcd) (agu (own:=some i) hk) (akw hu) ha) hs hw h1) fun D σ H ⟨Hs,ρ,o,E,q,k⟩=>?_
  cases hp:aiO (lkp i ρ) (brw (some i) fv ρ) (brw (some i) fk ρ) with
  | none=>simp [agw,hp] at q
  | some nw=>
   have:Out.nx (ρ.set i (some nw))=o:=by simpa [agw,hp] using q
   subst this
   obtain ⟨r,d,n,q1,q2,q3,hl,rfl⟩:=akx hp
   refine ⟨Hs,ρ,d,E,q2,fun v H1 s1 E1 r1=>?_⟩
   obtain ⟨d0,a,g1,g2,g3,g4⟩:=E1.ow i rfl
   rw [zd q1] at g1; cases g1
   refine ⟨.ref a,g2,Hs,ρ,.int n,E1,q3,fun kv H2 s2 E2 r2=>?_⟩
   cases (show kv=V.int n from r2)
   obtain ⟨d1,a1,f1,f2,f3,f4⟩:=E2.ow i rfl
   rw [zd q1] at f1; cases f1
   rw [g2] at f2; cases f2
   obtain ⟨ks,r',ob,e1,e2,e3⟩:=f4
   cases e1
   refine ⟨a,ks,ob,n,rfl,rfl,e2,by rw [e3.length]; exact ZB hl,fun ob'=>k _ _ (E2.put (zd q1) g2 f3 e2 (fun _ _ _ z=>z) ⟨_,_,ob',rfl,jq,?_⟩)⟩
   have s5:jW H2 (upd H2 a (aa4 X.prog X.w a ob' (putK ks (Sum.inl n) v))):=jW.upd e2
   exact RepM.put n (Rep.monoE (s2.trans s5) _ _ r1) (RepM.monoE s5 _ _ e3)
end
noncomputable def zk:PyData->Option (List (PyData × PyData))
 | .dict ((.none,_)::r)=>some r
 | _=>none
theorem zN {K:Fg}{H:Hp}{d:PyData}{r:List (PyData × PyData)}{v:V} (h:zk d=some r) (q:Rep K H d v):∃ a ks ob,v= .ref a/\H a=some (.frz ob (.dK ks))/\RepM K H r ks:=by
 unfold zk at h
 split at h
 ·cases h
  obtain ⟨a,h1,⟨ns,h2,h3⟩ | ⟨ks,ob,h2,h3⟩ | ⟨x,h2,_⟩ | ⟨x,_,_,h2,_⟩ | h2⟩:=q
  ·cases ns with
   | nil=>cases h3
   | cons n ns=>cases h3
  ·exact ⟨a,ks,ob,h1,h2,h3⟩
  ·cases h2
  ·cases h2
  ·cases h2
 ·cases h
theorem ZZ {H:Hp}{a:Addr}{ob:Obj}{ks:List (Key × V)} (h:H a=some (.frz ob (.dK ks))) (n:Int):ZP H a (.int n) (JV ks (Sum.inl n:Key)):= .inl ⟨ks,Sum.inl n,.inr ⟨ob,h⟩,rfl,rfl⟩
section
variable {X:Cx}{e a b c tg src:Expr}{es:List Expr}{fa fb fc:RP}{pos:Pos}
noncomputable def agx (p q:PyData):OP:=match zk p,q with
 | some r,.int n=>Ju r n
 | _,_=>none
theorem agy (hu:X.A.units+1<cLine) (ha:PD X a fa) (hb:PD X b fb) (hs:aoL b:=by intro _ _; rfl):PD X (.Subscript a b pos) (op2 agx fa fb):=by
 with_unfolding_all
  refine PE.imp (amC hu ha hb hs) fun σ H Q ⟨ρ,d,en,h,k⟩=>?_
  cases h1:fa ρ with
  | none=>simp [op2,h1] at h
  | some p=>
   cases h2:fb ρ with
   | none=>simp [op2,h1,h2] at h
   | some q=>
    have h':agx p q=some d:=by simpa [op2,h1,h2] using h
    unfold agx at h'
    split at h'
    ·rename_i r n hp
     refine ⟨ρ,p,en,h1,fun v H1 s1 r1=>⟨ρ,.int n,en.mono s1,h2,fun y H2 s2 r2=>?_⟩⟩
     cases (show y=V.int n from r2)
     obtain ⟨ad,ks,ob,e1,e2,e3⟩:=zN hp (Rep.mono s2 _ _ r1)
     rcases ZY n e3 with ⟨z,_⟩ | ⟨d',x,z1,z2,z3⟩
     ·rw [z] at h'; cases h'
     ·rw [z1] at h'; cases h'
      exact ⟨ad,x,e1,by rw [←z2]; exact ZZ e2 n,k x H2 (s1.trans s2) z3⟩
    ·cases h'
noncomputable def adl (p q z:PyData):OP:=match zk p,q with
 | some r,.int n=>some ((Ju r n).getD z)
 | _,_=>none
noncomputable def abX (fa fb fc:RP):RP:=fun ρ=>(fa ρ).bind fun p=>(fb ρ).bind fun q=>(fc ρ).bind fun z=>adl p q z
theorem afc {apos cpos:Pos} (hu:X.A.units+1<cLine) (ha:PD X a fa) (hb:PD X b fb) (hc:PD X c fc) (m:M2 X a "get" apos b c cpos:=by exact ⟨rfl,rfl,rfl,rfl⟩):PD X (.Call (.Attribute a "get" apos) [b,c] [] cpos) (abX fa fb fc):=by
 with_unfolding_all
  refine PE.imp (akb hu ha hb hc m) fun σ H Q ⟨ρ,d,en,h,k⟩=>?_
  cases h1:fa ρ with
  | none=>simp [abX,h1] at h
  | some p=>
   cases h2:fb ρ with
   | none=>simp [abX,h1,h2] at h
   | some q=>
    cases h3:fc ρ with
    | none=>simp [abX,h1,h2,h3] at h
    | some z=>
     have h':adl p q z=some d:=by simpa [abX,h1,h2,h3] using h
     unfold adl at h'
     split at h'
     ·rename_i r n hp
      cases h'
      refine ⟨ρ,p,en,h1,fun v H1 s1 r1=>?_⟩
      obtain ⟨ad,ks,ob,e1,e2,e3⟩:=zN hp r1
      refine ⟨ad,e1,.inl ⟨ks,.inr ⟨ob,e2⟩⟩,ρ,.int n,en.mono s1,h2,fun y H2 s2 r2=>⟨ρ,z,(en.mono s1).mono s2,h3,fun y3 H3 s3 r3=>?_⟩⟩
      cases (show y=V.int n from r2)
      refine ⟨_,ZZ (s3 _ _ (s2 _ _ e2)) n,?_⟩
      rcases ZY n (RepM.mono (s2.trans s3) _ _ e3) with ⟨z1,z2⟩ | ⟨d',x,z1,z2,z3⟩
      ·rw [z2]; exact k _ H3 (s1.trans (s2.trans s3)) (by rw [z1]; exact r3)
      ·rw [z2]; exact k _ H3 (s1.trans (s2.trans s3)) (by rw [z1]; exact z3)
     ·cases h'
noncomputable def afd (p q:PyData):OP:=match zk p,q with
 | some r,.int n=>some ((Ju r n).getD .none)
 | _,_=>none
theorem aky {apos cpos:Pos} (hu:X.A.units+1<cLine) (ha:PD X a fa) (hb:PD X b fb) (m:M1 X a "get" apos b cpos:=by exact ⟨rfl,rfl,rfl,rfl⟩):PD X (.Call (.Attribute a "get" apos) [b] [] cpos) (op2 afd fa fb):=by
 with_unfolding_all
  refine PE.imp (aka hu ha hb m) fun σ H Q ⟨ρ,d,en,h,k⟩=>?_
  cases h1:fa ρ with
  | none=>simp [op2,h1] at h
  | some p=>
   cases h2:fb ρ with
   | none=>simp [op2,h1,h2] at h
   | some q=>
    have h':afd p q=some d:=by simpa [op2,h1,h2] using h
    unfold afd at h'
    split at h'
    ·rename_i r n hp
     cases h'
     refine ⟨ρ,p,en,h1,fun v H1 s1 r1=>?_⟩
     obtain ⟨ad,ks,ob,e1,e2,e3⟩:=zN hp r1
     refine ⟨ad,e1,.inl ⟨ks,.inr ⟨ob,e2⟩⟩,ρ,.int n,en.mono s1,h2,fun y H2 s2 r2=>?_⟩
     cases (show y=V.int n from r2)
     refine ⟨_,ZZ (s2 _ _ e2) n,?_⟩
     rcases ZY n (RepM.mono s2 _ _ e3) with ⟨z1,z2⟩ | ⟨d',x,z1,z2,z3⟩
     ·rw [z2]; exact k _ H2 (s1.trans s2) (by rw [z1]; exact rfl)
     ·rw [z2]; exact k _ H2 (s1.trans s2) (by rw [z1]; exact z3)
    ·cases h'
noncomputable def aiP (neg:Bool) (q p:PyData):OP:=match zk p,q with
 | some r,.int n=>some (.bool (if neg then !(Ju r n).isSome else (Ju r n).isSome))
 | _,_=>none
theorem akz (hu:X.A.units+1<cLine) (ha:PD X a fa) (hb:PD X b fb):PC X .NotIn a b (tD X.K (op2 (aiP true) fa fb)):=by
 with_unfolding_all
  intro Kp s σ H Q I ⟨ρ,d,en,h,k⟩
  cases h1:fa ρ with
  | none=>simp [op2,h1] at h
  | some q=>
   cases h2:fb ρ with
   | none=>simp [op2,h1,h2] at h
   | some p=>
    have h':aiP true q p=some d:=by simpa [op2,h1,h2] using h
    unfold aiP at h'
    split at h'
    ·rename_i r n hp
     cases h'
     refine aiC hu ha hb Kp s σ H Q I ⟨ρ,.int n,en,h1,fun v H1 s1 r1=>⟨ρ,p,en.mono s1,h2,fun y H2 s2 r2=>?_⟩⟩
     cases (show v=V.int n from r1)
     obtain ⟨ad,ks,ob,e1,e2,e3⟩:=zN hp r2
     refine ⟨ad,_,e1,ZZ e2 n,k _ H2 (s1.trans s2) ?_⟩
     rcases ZY n e3 with ⟨z1,z2⟩ | ⟨d',x,z1,z2,z3⟩
     ·rw [z1,z2]; rfl
     ·rw [z1,z2]; rfl
    ·cases h'
theorem aiQ {op:CmpOp}{f:RP} (h:PC X op a b (tD X.K f)) (hm:behindInMarks op b=false:=by first | exact aga _ | with_unfolding_all rfl):PTD X (.Compare a [op] [b] pos) (tst f):=by
 with_unfolding_all
  refine PT.imp (aok h hm) fun σ H Q ⟨ρ,t,en,h,k⟩=>?_
  cases hd:f ρ with
  | none=>simp [tst,hd] at h
  | some d=>
   have ht:d= .bool t:=zL (by simpa [tst,hd] using h)
   subst ht
   exact ⟨ρ,_,en,hd,fun v H' s r=>⟨t,r,k H' s⟩⟩
noncomputable def Itd (d:Addr) (ob:Obj) (ks:List (Key × V)):It:=
 ⟨fun i H=>H d=some (.frz ob (.dK ks))/\i<ks.length,fun i H x H'=>H'=H/\∃ kv,ks[i]?=some kv/\x=kV kv.1,fun i H=>H d=some (.frz ob (.dK ks))/\ks.length<=i⟩
theorem aiR {k:Key}{v:Value} (h:aby k v=true):jK (kV k) v:=by
 rcases qg h with ⟨i,t,rfl,rfl⟩ | ⟨x,t,rfl,rfl⟩
 ·exact ⟨t,rfl⟩
 ·exact ⟨t,rfl⟩
theorem akA {P:Program}{w:World}{H:Hp}{h:Heap}{d:Addr}{ob:Obj}{ks:List (Key × V)}{es:Array DictEntry}{ep:Nat} (ok:HOk P w H h) (e:H d=some (.frz ob (.dK ks))) (hd:ob.data= .dict es ep):∃ vs,KV ks vs/\h.DictAt (j5 P w) d vs ep:=by
 obtain ⟨h0,z,nm,vs,rel,ob',es',ep',h4,h5,h6,h7⟩:=ok d _ e
 rw [h0] at h4; cases h4
 rw [hd] at h6; cases h6
 exact ⟨vs,rel,ob,es,h0,h5,hd,h7⟩
theorem aiS {P:Program}{w:World}{K:Fg}{tg:Expr} (d it:Addr) (hne:d ≠ it) (ob:Obj) (ks:List (Key × V)) (es:Array DictEntry) (ep:Nat) (hd:ob.data= .dict es ep):Turn P w K tg (Itd d ob ks) [it] it (fun i h=>h.IsKeyIter it d i ks.length ep) where
 mem:=by simp
 obj:=fun i h st b hb=>by
  have e:b=it:=by simpa using hb
  subst e
  obtain ⟨o,e,c,d⟩:=st
  exact ⟨o,e,fun v z=>by rw [d] at z; cases z⟩
 keep:=fun i h h' st k=>st.at fun o e=>k it (by simp) o e
 item:=by
  intro X hP hw hK hc i Kp s σ H E I hf st hg
  subst hP hw hK
  obtain ⟨hH,hi⟩:=hg
  obtain ⟨vs,rel,dat⟩:=akA I.hok hH hd
  have hl:=rel.length
  obtain ⟨f0,f1,f2,f3,f4,f5⟩:=hf it (by simp)
  have hi':i<vs.length:=by omega
  obtain ⟨⟨k,x⟩,hx⟩:∃ p,vs[i]?=some p:=⟨vs[i],by simp [hi']⟩
  rw [hl] at st
  refine wpAny_pyNext_dict_item st dat hx fun key h' hkey st' sb=>?_
  have I1:Inv X Kp σ H { s with heap:=h' }:=I.turned (t':=s.toks) (fun b o hb e=>(sb.2 b hb).trans e) f0 f1 f3 f4 f5
  obtain ⟨o,e,c,dd⟩:=id st'
  rw [←hl] at st'
  have hk:(ks.map (·.1))[i]?=some k:=by rw [rel.keys,List.getElem?_map,hx]; rfl
  rw [List.getElem?_map] at hk
  cases hq:ks[i]? with
  | none=>rw [hq] at hk; cases hk
  | some kv=>
   rw [hq] at hk
   have hk':kv.1=k:=by simpa using hk
   exact ⟨key,rfl,aeV (s:={ s with heap:=h' }) e c dd (by decide) ⟨kV k,H,I1,aiR hkey,⟨rfl,kv,hq,by rw [hk']⟩,st',fun b hb=>(hf b hb).1⟩⟩
 done:=by
  intro X hP hw hK hc i Kp s σ H E I hf st hg
  subst hP hw hK
  obtain ⟨hH,hi⟩:=hg
  obtain ⟨vs,rel,dat⟩:=akA I.hok hH hd
  have hl:=rel.length
  obtain ⟨f0,f1,f2,f3,f4,f5⟩:=hf it (by simp)
  rw [hl] at st
  exact wpAny_pyNext_dict_end (I.ok.hd hc) st dat (by simp; omega) fun h' eb=>⟨rfl,I.turned (t':=s.toks) (fun b o hb e=>eb b o hb e) f0 f1 f3 f4 f5⟩
 self:=fun _ _ _ _ _ st h=>wpAny_pyIter_keyiter st h
end
section
variable {X:Cx}{e a b c tg src:Expr}{es:List Expr}{fa fb fc:RP}{pos:Pos}
noncomputable def ars (K:Fg) (tl:TE):TI:=fun σ H R=>tl σ H fun x H1=>∃ d ob ks,x= .ref d/\H1 d=some (.frz ob (.dK ks))/\R (Itd d ob ks) H1
theorem am0 {l:Expr}{tl:TE} (hl:PE X l tl):PI X tg l (ars X.K tl):=by
 intro Kp s σ H R I h
 refine thn (hl Kp s σ H _ I h) fun v s1 ⟨x,H1,I1,r1,q1⟩=>?_
 obtain ⟨d,ob,ks,e,hq,q⟩:=q1
 subst e
 cases r1
 obtain ⟨h0,z,nm,vs,rel,ob',es,ep,h4,h5,h6,h7⟩:=I1.hok d _ hq
 rw [h0] at h4; cases h4
 have hl:=rel.length
 refine wpAny_pyIter_dict nm (show s1.heap.DictAt (j5 X.prog X.w) d vs ep from ⟨ob,es,h0,h5,h6,h7⟩) ?_
 rw [←hl]
 refine ⟨s1.heap.objs.size,[s1.heap.objs.size],_,_,H1,rfl,I1.kept (t':=s1.toks) fun b o e=>Heap.get?_push_of_some _ e,aiS d _ (Nat.ne_of_lt (Heap.lt_size h0)) ob ks es ep h6,⟨_,Heap.get?_push_size _ rfl,rfl,rfl⟩,fun b hb=>?_,q⟩
 have e:b=s1.heap.objs.size:=by simpa using hb
 subst e
 exact I1.fpOk (Nat.le_refl _) (I1.hok.fresh (Nat.le_refl _))
theorem RepM.keys {K:Fg}{H:Hp}:∀ {r:List (PyData × PyData)}{ks:List (Key × V)}{i:Nat}{d:PyData}{kv:Key × V},RepM K H r ks->(r.map (·.1))[i]?=some d->ks[i]?=some kv->Rep K H d (kV kv.1)
 | [],ks,i,d,kv,h,e,q=>by simp at e
 | (k,c)::r,ks,0,d,kv,⟨i,x,s,h1,h2,h3,h4⟩,e,q=>by
  subst h1; subst h2
  simp at e q
  subst e; subst q
  cases i <;> exact rfl
 | (k,c)::r,ks,j+1,d,kv,⟨i,x,s,h1,h2,h3,h4⟩,e,q=>by
  subst h2
  exact RepM.keys (i:=j) h4 (by simpa using e) (by simpa using q)
noncomputable def itD (fa:RP):Rho->Option (LP):=fun ρ=>(fa ρ).bind fun d=>(zk d).map fun r=>r.map (·.1)
theorem afe (h:PD X e fa):PID X tg e (itD fa):=by
 with_unfolding_all
  refine PI.imp (am0 h) fun σ H R ⟨ρ,ds,en,q,k⟩=>?_
  cases h1:fa ρ with
  | none=>simp [itD,h1] at q
  | some d=>
   cases h2:zk d with
   | none=>simp [itD,h1,h2] at q
   | some r=>
    have:r.map (·.1)=ds:=by simpa [itD,h1,h2] using q
    subst this
    refine ⟨ρ,_,en,h1,fun v H1 s1 r1=>?_⟩
    obtain ⟨a,ks,ob,e1,e2,e3⟩:=zN h2 r1
    have hl:=e3.length
    refine ⟨a,ob,ks,e1,e2,k _ H1 s1 fun i H2 s2=>⟨fun hi=>?_,fun hi=>?_,fun x H' y=>?_⟩⟩
    ·exact ⟨s2 _ _ e2 rfl,by rw [hl]; simpa using hi⟩
    ·exact ⟨s2 _ _ e2 rfl,by rw [hl]; simpa using hi⟩
    ·obtain ⟨z1,kv,z2,z3⟩:=y
     subst z1; subst z3
     exact ⟨jt.refl _,fun d hd=>RepM.keys (RepM.monoA s2 _ _ e3) hd z2⟩
noncomputable def agz (fa fb:RP):RP:=fun ρ=>(fa ρ).bind fun k=>(fb ρ).bind fun d=>match k with
 | .int n=>some (.dict [(.none,.none),(.int n,d)])
 | _=>none
theorem aff (ha:PD X a fa) (hb:PD X b fb):PD X (.Dict [some a] [b] pos) (agz fa fb):=by
 with_unfolding_all
  intro Kp s σ H Q I ⟨ρ,d,en,hf,k⟩
  cases h1:fa ρ with
  | none=>simp [agz,h1] at hf
  | some p=>
   cases h2:fb ρ with
   | none=>simp [agz,h1,h2] at hf
   | some q=>
    cases p with
    | int n=>
     have:PyData.dict [(.none,.none),(.int n,q)]=d:=by simpa [agz,h1,h2] using hf
     subst this
     have W:=amE (X:=X) (pos:=pos) (aj8 ha hb amD) rfl rfl (by simp) (by simp)
     refine thn (W Kp s σ H (fun v H4=>∃ l y H3,v= .ref l/\H l=none/\H3 l=some (.dK [])/\jt (upd H l (.dK [])) H3/\Rep X.K H3 q y/\H4=upd H3 l (.dK [(Sum.inl n,y)])) I fun l hl=>?_) fun u s1 ⟨v,H4,I4,r,l,y,H3,e1,e2,e3,e4,e5,e6⟩=>?_
     ·have s0:jt H (upd H l (.dK [])):=jx hl
      refine ⟨ρ,.int n,en.mono s0,h1,fun x H1 s1 r1=>⟨ρ,q,(en.mono s0).mono s1,h2,fun y H2 s2 r2=>?_⟩⟩
      cases (show x=V.int n from r1)
      have el:H2 l=some (.dK []):=s2 _ _ (s1 _ _ jq)
      exact ⟨el,[(Sum.inl n,y)],rfl,by simp,l,y,H2,rfl,hl,el,s1.trans s2,r2,rfl⟩
     ·subst e1
      have e7:H4 l=some (.dK [(Sum.inl n,y)]):=by rw [e6]; exact jq
      obtain ⟨ob,I5⟩:=Inv.sealedD I4 e7
      have I6:=Inv.opened I5 (.d ob _) jq
      rw [Zb] at I6
      have sA:j9 H3 (upd H4 l (.frz ob (.dK [(Sum.inl n,y)]))):=fun b o z dt=>by
       have:b ≠ l:=fun m=>by subst m; rw [e3] at z; cases z; cases dt
       rw [jo this,e6,jo this]; exact z
      have sH:jt H (upd H4 l (.frz ob (.dK [(Sum.inl n,y)]))):=fun b o z=>by
       have:b ≠ l:=fun m=>by subst m; rw [e2] at z; cases z
       rw [jo this,e6,jo this]; exact e4 b o (by rw [jo this]; exact z)
      exact ⟨.ref l,_,I6,r,k _ _ sH ⟨l,rfl,.inr (.inl ⟨_,ob,jq,show RepM X.K _ [(.int n,q)] _ from ⟨.inl n,y,[],rfl,rfl,Rep.monoA sA _ _ e5,rfl⟩⟩)⟩⟩
    | _=>simp [agz,h1,h2] at hf
end
end BX
end
section
namespace BX
open PySem PySem.Spec L2
theorem afg (l:Addr) (items:Array Value) (n:Nat) (u:Tok) (dd:Option Addr) (sl:Array (Option Value)):
  Meets (Builtin.«tuple.__mul__» ⟨[.ref l,.int 1 u],[]⟩) (fun _ R s=>s.heap.get? l=some { cls:= .type "tuple",dict:=dd,data:= .seq items n,slots:=sl }/\R (.ok (.ret (.ref l))) s):=
 .of_wp fun prog w A R s h=>by
  obtain ⟨hp,g,d,tk,os⟩:=s
  obtain ⟨hl,h⟩:=h
  have e1:(items.isEmpty || (1:Int) == 1)=true:=by simp
  wp_walk
  exact ⟨_,rfl,h⟩
theorem afh (l:Addr) (items:Array Value) (n:Nat) (x:Int) (u:Tok) (dd:Option Addr) (sl:Array (Option Value)) (hx:x<=0) (hx2:-(2 ^ 63)<=x) (hi:items.isEmpty=false):
  Meets (Builtin.«tuple.__mul__» ⟨[.ref l,.int x u],[]⟩) (fun _ R s=>s.heap.get? l=some { cls:= .type "tuple",dict:=dd,data:= .seq items n,slots:=sl }/\R (.ok (.ret (.ref s.heap.objs.size))) { s with heap:=s.heap.push { cls:= .type "tuple",data:= .seq #[] } }):=
 .of_wp fun prog w A R s h=>by
  obtain ⟨hp,g,d,tk,os⟩:=s
  obtain ⟨hl,h⟩:=h
  have e0:(decide (x < -(2 ^ 63)) || decide (x >= 2 ^ 63))=false:=by simp; omega
  have e1:(items.isEmpty || x == 1)=false:=by rw [hi]; simp; omega
  have e2:(decide (x<=0) || items.isEmpty)=true:=by simp [hx]
  wp_walk
  refine wpAny_ite_false (by rw [e0]; rfl) ?_
  wp_walk
  refine wpAny_ite_false (by rw [e1]; rfl) ?_
  wp_walk
  exact ⟨_,rfl,h⟩
theorem afi (l:Addr) (items:Array Value) (n:Nat) (x:Int) (u:Tok) (dd:Option Addr) (sl:Array (Option Value)) (hx:2<=x) (hx2:x<2 ^ 63) (hi:items.isEmpty=false) (hz:(items.size:Int)*x<=sizeLine) (hsz:(List.foldl (fun x1 x2=>x1++x2) #[] (List.replicate x.toNat items)).size<=sizeLine):
  Meets (Builtin.«tuple.__mul__» ⟨[.ref l,.int x u],[]⟩) (fun _ R s=>s.heap.get? l=some { cls:= .type "tuple",dict:=dd,data:= .seq items n,slots:=sl }/\R (.ok (.ret (.ref s.heap.objs.size))) { s with heap:=s.heap.push { cls:= .type "tuple",data:= .seq (List.foldl (fun x1 x2=>x1++x2) #[] (List.replicate x.toNat items)) } }):=
 .of_wp fun prog w A R s h=>by
  obtain ⟨hp,g,d,tk,os⟩:=s
  obtain ⟨hl,h⟩:=h
  have hs:((2 ^ 63 - 1) / 8:Int) >= (sizeLine:Int):=by rw [sizeLine_eq]; decide
  have e0:(decide (x < -(2 ^ 63)) || decide (x >= 2 ^ 63))=false:=by simp; omega
  have e1:(items.isEmpty || x == 1)=false:=by rw [hi]; simp; omega
  have e2:(decide (x<=0) || items.isEmpty)=false:=by rw [hi]; simp; omega
  have e3:¬ (items.size:Int)*x > (2 ^ 63 - 1) / 8:=by omega
  have e4:Builtin.Tuple.tupleTooMany ((items.size:Int)*x)=false:=by simp [Builtin.Tuple.tupleTooMany]; omega
  wp_walk
  refine wpAny_ite_false (by rw [e0]; rfl) ?_
  wp_walk
  refine wpAny_ite_false (by rw [e1]; rfl) ?_
  wp_walk
  refine wpAny_ite_false (by rw [e2]; rfl) ?_
  wp_walk
  rw [if_neg e3]
  refine wpAny_ite_false (by rw [e4]; rfl) ?_
  wp_walk
  exact ⟨_,rfl,h⟩
theorem aaF:fillsNumberSlot (.type "tuple") "mul"=pure false:=
 PySem.fillsNumberSlot_seq (id:="tuple.__mul__") (r:=some (.builtin "tuple.__rmul__")) F.slot_tuple_mul.lookup (by decide +kernel) F.slot_tuple_rmul.lookup (by decide +kernel)
theorem aea:seqRepeat? (.type "tuple")=pure (some (.builtin "tuple.__mul__")):=by
 unfold seqRepeat?
 rw [PySem.seqSlot_of (T:="tuple") (name:="__mul__") (id:="tuple.__mul__") F.slot_tuple_mul.lookup (by decide +kernel),PySem.seqSlot_of (T:="tuple") (name:="__rmul__") (id:="tuple.__rmul__") F.slot_tuple_rmul.lookup (by decide +kernel)]
 rfl
theorem abY (a:Int) (t:Tok) (l:Addr) (items:Array Value) (n:Nat) (dd:Option Addr) (sl:Array (Option Value)):
  Meets (Builtin.«int.__rmul__» ⟨[.int a t,.ref l],[]⟩) (fun _ R s=>s.heap.get? l=some { cls:= .type "tuple",dict:=dd,data:= .seq items n,slots:=sl }/\R (.ok (.ret Value.notImplemented)) s):=
 .of_wp fun prog w A R s h=>by
  obtain ⟨hp,g,d,tk,os⟩:=s; obtain ⟨hl,h⟩:=h
  wp_walk
  exact ⟨_,rfl,h⟩
section
open PyProof.Rows hiding St
variable {X:Cx}{e a b c tg src:Expr}{es:List Expr}{fa fb fc:RP}{pos:Pos}{qh:List Expr}
noncomputable def aqA (K:Fg):R2:=fun x y H Q=>∃ l k xs,x= .ref l/\y= .int k/\SqT K H l xs/\0<xs.length/\-(2 ^ 63)<=k/\k<2 ^ 63/\(xs.length:Int)*k<=sizeLine/\
 (∀ p,H p=none->Q (.ref p) (upd H p (.tup (List.replicate k.toNat xs).flatten)))/\(k=1->Q (.ref l) H)
theorem am1:OpR X (binaryOp .Mult) (aqA X.K):=by
 intro Kp s σ H x y v u Q I rx ry h
 obtain ⟨l,k,xs,rfl,rfl,hH,hne,h1,h2,hz,q,q1⟩:=h
 cases rx
 obtain ⟨t,rfl⟩:=ry
 obtain ⟨its,r,⟨⟨oc,od,odt,osl⟩,e,c,n,d⟩,hlz⟩:=I.tuple hH
 have hl:=r.length
 cases c
 cases (show odt=_ from d)
 have hi:its.toArray.isEmpty=false:=by
  cases its with
  | nil=>rw [hl] at hne; simp at hne
  | cons a r'=>simp
 refine wpAny_binaryOp_repeat_ref (T:="tuple") (U:="int") (by decide) ⟨_,e,rfl⟩ (fun s'=>typeIs_int s' k t) aaF F.fills_int_mul F.slot_int_rmul aea F.slot_int_index.lookup
  (call_meets F.slot_int_rmul (typeIs_int s k t) F.entry_int_rmul (F.args_int_rmul_2 _ _) (abY k t l its.toArray n od osl) ⟨e,rfl,⟨_,e,rfl⟩,?_⟩)
 have fresh:∀ {ys:List V} {jts:List Value},jG ys jts->ys.length<=sizeLine->Inv X Kp σ (upd H s.heap.objs.size (.tup ys)) { s with heap:=s.heap.push { cls:= .type "tuple",data:= .seq jts.toArray } }:=fun {ys jts} rv hy=>
  I.laid (t':=s.toks) (fun b o e=>Heap.get?_push_of_some _ e) (Nat.le_refl _) (show qC X.prog X.w _ _ _ (.tup ys) from ⟨hy,jts,rv,IsTup.new _ _⟩)
 by_cases k1:k=1
 ·subst k1
  exact call_meets F.slot_tuple_mul ⟨_,e,rfl⟩ F.entry_tuple_mul (F.args_tuple_mul_2 _ _) (afg l its.toArray n t od osl) ⟨e,.ref l,H,I,rfl,q1 rfl⟩
 ·by_cases k0:k<=0
  ·have hk:k.toNat=0:=by omega
   refine call_meets F.slot_tuple_mul ⟨_,e,rfl⟩ F.entry_tuple_mul (F.args_tuple_mul_2 _ _) (afh l its.toArray n k t od osl k0 h1 hi) ⟨e,.ref _,_,fresh (ys:=[]) (jts:=[]) .nil (Nat.zero_le _),rfl,?_⟩
   have:=q _ (I.hok.fresh (Nat.le_refl _))
   rw [hk] at this
   exact this
  ·have hnew:List.foldl (fun x1 x2=>x1++x2) #[] (List.replicate k.toNat its.toArray)=(List.replicate k.toNat its).flatten.toArray:=by
    have:=aat its k.toNat []
    rw [List.nil_append] at this
    exact this
   have hlen:((List.replicate k.toNat xs).flatten.length:Int)=xs.length*k:=by
    rw [ahu,Int.natCast_mul,Int.mul_comm,Int.toNat_of_nonneg (by omega)]
   have hlen2:(List.replicate k.toNat xs).flatten.length<=sizeLine:=by omega
   have hl2:=(r.rep k.toNat).length
   refine call_meets F.slot_tuple_mul ⟨_,e,rfl⟩ F.entry_tuple_mul (F.args_tuple_mul_2 _ _) (afi l its.toArray n k t od osl (by omega) h2 hi (by rw [List.size_toArray,←hl]; exact hz) (by rw [hnew,List.size_toArray,←hl2]; exact hlen2)) ⟨e,?_⟩
   rw [hnew]
   exact ⟨.ref _,_,fresh (r.rep k.toNat) hlen2,rfl,q _ (I.hok.fresh (Nat.le_refl _))⟩
end
end BX
end
section
namespace BX
open PySem PySem.Spec L2
open PyProof.Rows hiding St
section
variable {X:Cx}{e a b c tg src:Expr}{es:List Expr}{fa fb fc:RP}{pos:Pos}{qh:List Expr}
noncomputable def akB (p q:PyData):OP:=match p,q with
 | .tuple ds,.int k=>if 0<ds.length/\ds.length<1000/\-1000<k/\k<1000 then some (.tuple (List.replicate k.toNat ds).flatten) else none
 | _,_=>none
theorem akC:OpD X (binaryOp .Mult) akB:=by
 refine ⟨_,am1,fun p q d x y H Q h rx ry k=>?_⟩
 unfold akB at h
 split at h
 ·rename_i ds n
  split at h
  ·rename_i hc
   cases h
   obtain ⟨a,us,e1,e2,e3⟩:=rx
   cases (show y=V.int n from ry)
   have hl:=e3.length
   have hz:(us.length:Int)*n<=1000000:=by
    have h1:(us.length:Int)*n<=us.length*1000:=Int.mul_le_mul_of_nonneg_left (by omega) (by omega)
    omega
   refine ⟨a,n,us,e1,rfl,e2,by omega,by omega,by omega,Int.le_trans hz (by rw [sizeLine_eq]; decide),fun p hp=>?_,fun h1=>?_⟩
   ·have s1:=jx (o:= .tup (List.replicate n.toNat us).flatten) hp
    exact k _ _ s1 ⟨p,_,rfl,SqT.of jq,Reps.mono s1 _ _ (e3.rep _)⟩
   ·subst h1
    refine k _ H (jt.refl H) ⟨a,us,rfl,e2,?_⟩
    simpa using e3
  ·cases h
 ·cases h
noncomputable def aqB (lo:Int) (n:Nat):It:=⟨fun i _=>i<n,fun i H x H'=>H'=H/\x= .int (lo - i),fun i _=>n<=i⟩
theorem afj {P:Program}{w:World}{K:Fg}{tg:Expr} (it:Addr) (lo:Int) (n:Nat):Turn P w K tg (aqB lo n) [it] it (fun i h=>IsRangeIter h it (lo+(i:Nat)*(-1)) ((n:Int) - (i:Nat)) (-1)) where
 mem:=by simp
 obj:=fun i h st b hb=>by
  have e:b=it:=by simpa using hb
  subst e
  exact ⟨_,st,fun v z=>by
   have z':Data.fields _=Data.cell v:=z
   cases z'⟩
 keep:=fun i h h' st k=>k it (by simp) _ st
 item:=by
  intro X hP hw hK hc i Kp s σ H E I hf st hg
  subst hP hw hK
  obtain ⟨f0,f1,f2,f3,f4,f5⟩:=hf it (by simp)
  have W:=Walks.range (prog:=X.prog) (w:=X.w) (I.ok.hd hc) it lo (-1) n
  refine W.item i s _ _ hg st fun v h' tk hv st' kk=>?_
  obtain ⟨t,rfl⟩:=hv
  have I1:Inv X Kp σ H { s with heap:=h',toks:=tk }:=I.turned (fun b o hb e=>kk b o (by simpa using hb) e) f0 f1 f3 f4 f5
  refine ⟨_,rfl,aeV (s:={ s with heap:=h',toks:=tk }) (n:="range_iterator") st' rfl rfl (by decide) ⟨.int (lo - i),H,I1,⟨t,?_⟩,⟨rfl,rfl⟩,st',fun b hb=>(hf b hb).1⟩⟩
  congr 1
  omega
 done:=by
  intro X hP hw hK hc i Kp s σ H E I hf st hg
  subst hP hw hK
  obtain ⟨f0,f1,f2,f3,f4,f5⟩:=hf it (by simp)
  exact wpAny_pyNext_range_end (I.ok.hd hc) st (by have:n<=i:=hg; omega) fun h' eb=>⟨rfl,I.turned (t':=s.toks) (fun b o hb e=>eb b o hb e) f0 f1 f3 f4 f5⟩
 self:=fun _ _ _ _ _ st h=>wpAny_pyIter_rangeiter st h
theorem QW (a b:Int):Builtin.Range.rangeSize a b (-1)=if a > b then a - b else 0:=by
 unfold Builtin.Range.rangeSize
 simp only [show ¬ (-1:Int) > 0 by decide,zzN,Int.neg_neg,Int.ediv_one]
 split <;> omega
theorem agA {a b:Int} (ha:-1000000<=a) (ha':a<1000000) (hb:-1000000<=b) (hb':b<1000000):Builtin.Range.small a b (-1)=true:=by
 unfold Builtin.Range.small
 rw [QW]
 simp only [Builtin.Range.rangeFitsLong,Bool.and_eq_true,Bool.or_eq_true,decide_eq_true_eq,beq_iff_eq,show ¬ (-1:Int) > 0 by decide,zzN]
 split <;> omega
noncomputable def aqC (ta:TA):TI:=fun σ H R=>ta σ H fun vs H1=>∃ i j:Int,vs=[.int i,.int j,.int (-1)]/\(-1000000<=i/\i<1000000/\-1000000<=j/\j<1000000)/\R (aqB i (i - j).toNat) H1
theorem aiT {ta:TA}{p pos:Pos} (hg:Gl X "range") (hm:X.mg "range"=none) (ha:PA X [a,b,c] ta) (hs:starEach [a,b,c] X.env=[(false,eval a X.env),(false,eval b X.env),(false,eval c X.env)]:=by rfl) (hs2:starEach [b,c] X.env=[(false,eval b X.env),(false,eval c X.env)]:=by rfl):
  PI X tg (.Call (.Name "range" p) [a,b,c] [] pos) (aqC ta):=by
 intro Kp s σ H R I h
 refine Call_ (Zx I hg hm boot_range (PyProof.Rows.callWith_type1 (thn (ha pos Kp s σ H _ I h) fun us s1 ⟨vs,H1,I1,r1,q1⟩=>?_) (by rw [hs,hs2]) (by rw [hs2]; rfl)))
 obtain ⟨i,j,e,⟨q1,q2,q3,q4⟩,q⟩:=q1
 subst e
 cases r1 with
 | cons r rr=>
  cases rr with
  | cons r' rr=>
   cases rr with
   | cons r'' rr=>
    cases rr
    obtain ⟨t,rfl⟩:=r
    obtain ⟨t',rfl⟩:=r'
    obtain ⟨t'',rfl⟩:=r''
    refine PySem.call_range_3 (by decide) ?_ (Or.inl (PyProof.noPylong_small (by decide)))
    refine wpAny_pyIter_range (IsRange.new ..) (agA q1 q2 q3 q4) ?_
    have I2:Inv X Kp σ H1 { s1 with heap:=s1.heap.push { cls:= .type "range",data:= .fields #[.int i t,.int j t',.int (-1) t''] },toks:=s1.toks }:=I1.kept fun b o e=>Heap.get?_push_of_some _ e
    refine ⟨(s1.heap.push { cls:= .type "range",data:= .fields #[.int i t,.int j t',.int (-1) t''] }).objs.size,[(s1.heap.push { cls:= .type "range",data:= .fields #[.int i t,.int j t',.int (-1) t''] }).objs.size],_,_,H1,rfl,
     I2.kept (t':=s1.toks) fun b o e=>Heap.get?_push_of_some _ e,afj _ i (i - j).toNat,?_,fun b hb=>?_,q⟩
    ·have e1:i+((0:Nat):Int)*(-1)=i:=by simp
     have e2:(((i - j).toNat:Nat):Int) - ((0:Nat):Int)=Builtin.Range.rangeSize i j (-1):=by rw [QW]; split <;> omega
     show IsRangeIter _ _ (i+((0:Nat):Int)*(-1)) ((((i - j).toNat:Nat):Int) - ((0:Nat):Int)) (-1)
     rw [e1,e2]
     exact Heap.get?_push_size _ rfl
    ·have e:b=(s1.heap.push { cls:= .type "range",data:= .fields #[.int i t,.int j t',.int (-1) t''] }).objs.size:=by simpa using hb
     subst e
     exact I2.fpOk (Nat.le_refl _) (I2.hok.fresh (Nat.le_refl _))
noncomputable def ahK (lo:Int) (n:Nat):LP:=(List.range n).map fun (k:Nat)=>PyData.int (lo - (k:Int))
noncomputable def aiU (ds:LP):Option (LP):=match ds with
 | [.int i,.int j,.int c]=>if c=-1/\-1000000<=i/\i<1000000/\-1000000<=j/\j<1000000 then some (ahK i (i - j).toNat) else none
 | _=>none
theorem abZ {p pos:Pos}{fr:Rho->Option (LP)} (hg:Gl X "range") (hm:X.mg "range"=none) (ha:PAD X [a,b,c] fr) (hs:starEach [a,b,c] X.env=[(false,eval a X.env),(false,eval b X.env),(false,eval c X.env)]:=by rfl) (hs2:starEach [b,c] X.env=[(false,eval b X.env),(false,eval c X.env)]:=by rfl):
  PID X tg (.Call (.Name "range" p) [a,b,c] [] pos) (fun ρ=>(fr ρ).bind aiU):=by
 with_unfolding_all
  refine PI.imp (aiT hg hm ha hs hs2) fun σ H R ⟨ρ,ds,en,q,k⟩=>?_
  cases h1:fr ρ with
  | none=>simp [h1] at q
  | some as=>
   have q':aiU as=some ds:=by simpa [h1] using q
   refine ⟨ρ,as,en,h1,fun vs H1 s1 r1=>?_⟩
   unfold aiU at q'
   split at q'
   ·rename_i i j cc
    split at q'
    ·rename_i hj
     cases q'
     obtain ⟨rfl,hj⟩:=hj
     obtain ⟨x,r,e1,e2,y,r',e3,e4,z,r'',e5,e6,e7⟩:=r1
     cases (show x=V.int i from e2)
     cases (show y=V.int j from e4)
     cases (show z=V.int (-1) from e6)
     cases (show r''=[] from e7)
     subst e5; subst e3
     refine ⟨i,j,e1,hj,k _ H1 s1 fun n H2 s2=>?_⟩
     have hl:(ahK i (i - j).toNat).length=(i - j).toNat:=by simp [ahK]
     refine ⟨fun hi=>by rw [hl] at hi; exact hi,fun hi=>by rw [hl] at hi; exact hi,fun x H' y=>?_⟩
     obtain ⟨z1,z2⟩:=y
     subst z1
     refine ⟨jt.refl _,fun d hd=>?_⟩
     have hi:n<(i - j).toNat:=by
      have:=(List.getElem?_eq_some_iff.mp hd).1
      rw [hl] at this; exact this
     have:d= .int (i - n):=by
      simp [ahK,hi] at hd
      exact hd.symm
     subst this
     exact z2
    ·cases q'
   ·cases q'
noncomputable def ab0 (fa fb:RP):RP:=fun ρ=>(fa ρ).bind fun x=>(asB x).bind fun t=>if t=true then fb ρ else some (.bool false)
noncomputable def orV (fa fb:RP):RP:=fun ρ=>(fa ρ).bind fun x=>(asB x).bind fun t=>if t=true then some (.bool true) else fb ρ
theorem aeb {op:BoolOp} (ha:PD X a fa):PD X (.BoolOp op [a] pos) fa:=by
 with_unfolding_all exact (aop ha)
theorem agB (ha:PD X a fa) (hb:PD X (.BoolOp .And (b::qh) pos) fb):PD X (.BoolOp .And (a::b::qh) pos) (ab0 fa fb):=by
 with_unfolding_all
  refine PE.imp (aoq ha hb) fun σ H Q ⟨ρ,d,en,h,k⟩=>?_
  cases h1:fa ρ with
  | none=>simp [ab0,h1] at h
  | some x=>
   cases h2:asB x with
   | none=>simp [ab0,h1,h2] at h
   | some t=>
    have hx:=zL h2
    subst hx
    refine ⟨ρ,_,en,h1,fun v H1 s1 r1=>⟨t,r1,?_⟩⟩
    cases t with
    | true=>rw [if_pos rfl]; exact ⟨ρ,d,en.mono s1,by simpa [ab0,h1,h2] using h,fun v H2 s2 r2=>k v H2 (s1.trans s2) r2⟩
    | false=>
     rw [if_neg Bool.false_ne_true]
     have:PyData.bool false=d:=by simpa [ab0,h1,h2] using h
     subst this
     exact k _ H1 s1 rfl
theorem aqD (ha:PD X a fa) (hb:PD X (.BoolOp .Or (b::qh) pos) fb):PD X (.BoolOp .Or (a::b::qh) pos) (orV fa fb):=by
 with_unfolding_all
  refine PE.imp (apX ha hb) fun σ H Q ⟨ρ,d,en,h,k⟩=>?_
  cases h1:fa ρ with
  | none=>simp [orV,h1] at h
  | some x=>
   cases h2:asB x with
   | none=>simp [orV,h1,h2] at h
   | some t=>
    have hx:=zL h2
    subst hx
    refine ⟨ρ,_,en,h1,fun v H1 s1 r1=>⟨t,r1,?_⟩⟩
    cases t with
    | false=>rw [if_neg Bool.false_ne_true]; exact ⟨ρ,d,en.mono s1,by simpa [orV,h1,h2] using h,fun v H2 s2 r2=>k v H2 (s1.trans s2) r2⟩
    | true=>
     rw [if_pos rfl]
     have:PyData.bool true=d:=by simpa [orV,h1,h2] using h
     subst this
     exact k _ H1 s1 rfl
noncomputable def acP:PyData->Bool
 | .none=>true
 | _=>false
theorem afk {K:Fg}{H:Hp}{p:PyData}{x:V} (r:Rep K H p x):decide (x= .non)=acP p:=by
 cases p with
 | none=>cases (show x= .non from r); rfl
 | bool b=>cases (show x=_ from r); rfl
 | int b=>cases (show x=_ from r); rfl
 | str b=>cases (show x=_ from r); rfl
 | tuple ds=>obtain ⟨a,xs,h,_⟩:=r; subst h; rfl
 | list ds=>obtain ⟨a,xs,h,_⟩:=r; subst h; rfl
 | dict ds=>obtain ⟨a,h,_⟩:=r; subst h; rfl
noncomputable def akD (p q:PyData):OP:=match q with
 | .none=>some (.bool (acP p))
 | _=>none
noncomputable def akE (p q:PyData):OP:=match q with
 | .none=>some (.bool (!acP p))
 | _=>none
theorem aec:OpD X (compareOp .Is) akD:=by
 refine ⟨_,aoE,fun p q d x y H Q h rx ry k=>?_⟩
 unfold akD at h
 split at h
 ·cases h
  exact ⟨ry,by rw [afk rx]; exact k _ H (jt.refl H) rfl⟩
 ·cases h
theorem akF:OpD X (compareOp .IsNot) akE:=by
 refine ⟨_,amn,fun p q d x y H Q h rx ry k=>?_⟩
 unfold akE at h
 split at h
 ·cases h
  exact ⟨ry,by rw [afk rx]; exact k _ H (jt.refl H) rfl⟩
 ·cases h
end
section
variable {X:Cx}{e a b c tg src:Expr}{es:List Expr}{fa fb fc:RP}{pos:Pos}
noncomputable def akG (c d:OP):OP:=match c,d with
 | some (.list ds),some (.list es)=>if noLs es=true/\ds.length+es.length<1000000 then some (.list (ds++es)) else none
 | _,_=>none
noncomputable def acQ (i:Nat) (fa:RP):RP:=fun ρ=>akG (lkp i ρ) (fa ρ)
theorem akH {c d:OP}{r:PyData} (h:akG c d=some r):∃ ds es,c=some (.list ds)/\d=some (.list es)/\noLs es=true/\ds.length+es.length<1000000/\r= .list (ds++es):=by
 unfold akG at h
 split at h
 ·split at h
  ·rename_i hc
   cases h
   exact ⟨_,_,rfl,rfl,hc.1,hc.2,rfl⟩
  ·cases h
 ·cases h
theorem adm (i:Nat) {x:Str}{p1 apos cpos:Pos} (h:PD X e fa) (hN:X.N[i]?=some x:=by rfl) (hv:Vis X.env.scope x:=by first | exact Or.inl rfl | exact Or.inr (Or.inl rfl) | exact Or.inr (Or.inr rfl)) (hd:(x == ("__debug__":Str))=false:=by decide)
  (hcd:(x == ("__classdict__":Str))=false:=by decide) (hbase:attributeBase (.Name x p1) "extend" X.env (eval (.Name x p1) X.env)=eval (.Name x p1) X.env:=by rfl)
  (hfew:((backTo cpos (starEach [e] X.env)).all (fun x=>!x.1) && (backToKw cpos (keywordEach [] X.env)).all (fun x=>x.1.isSome) && decide ([e].length+([]:List Keyword).length+(if ([]:List Keyword).isEmpty then 0 else 1)<30))=true:=by rfl)
  (hline:(apos.endLine == cpos.line)=true:=by rfl) (hs:starEach [e] X.env=(false,eval e X.env)::starEach [] X.env:=by rfl) (hplain:(backTo cpos (starEach [] X.env)).any (·.1)=false:=by rfl):
  PE X (.Call (.Attribute (.Name x p1) "extend" apos) [e] [] cpos) (ao5 X.prog X.w X.K i (acQ i fa)):=by
 with_unfolding_all
  intro Kp s σ H Q I ⟨Hs,ρ,d',E,hg,k⟩
  obtain ⟨ds,es,q1,q2,hn,hl,rfl⟩:=akH hg
  obtain ⟨a,xs,g2,g3,g4,g5,env⟩:=E.opnL (zd q1)
  have hlen:=g5.length
  have W:=aj2 (X:=X) (cpos:=cpos) (apos:=apos) PySem.F.plainAttrs_list PySem.F.slot_list_extend PySem.F.type_list_extend aiw (abA hN hv hd hcd) (zF h QG hs) hbase hfew hline hs hplain
  refine thn (W Kp s σ (upd H a (.lst xs)) (fun v H4=>∃ H3 zs,v= .non/\H4=upd H3 a (.lst (xs++zs))/\jt (upd H a (.lst xs)) H3/\Reps X.K H3 es zs) (Inv.opened I (.l xs) g4)
   ⟨.ref a,g2,.inl ⟨rfl,_,SqL.of jq⟩,ρ,.list es,env,q2,fun y H3 s3 r3=>?_⟩) fun u s1 ⟨v,H4,I4,r,H3,zs,e1,e2,s3,r3⟩=>?_
  ·obtain ⟨b,zs,z1,z2,z3⟩:=r3
   have hz:=z3.length
   exact ⟨a,b,xs,zs,rfl,by rw [z1],s3 _ _ jq,z2,by rw [hlen,hz]; exact Nat.le_of_lt (ZB hl),H3,zs,rfl,rfl,s3,z3⟩
  subst e1
  have e4:H4 a=some (.lst (xs++zs)):=by rw [e2]; exact jq
  have sb:∀ b u,b ≠ a->H b=some u->H4 b=some u:=fun b u n q=>by rw [e2,jo n]; exact s3 b u (by rw [jo n]; exact q)
  refine ⟨.non,upd H4 a (QE a (xs++zs)),Inv.closed I4 (.l _) e4 (Inv.nofrz I g4),r,k _ (E.put (zd q1) g2 g3 g4 sb ⟨xs++zs,jq,?_⟩)⟩
  have s5:jW H (upd H4 a (QE a (xs++zs))):=fun b u q m=>by
   have:b ≠ a:=fun z=>by subst z; rw [g4] at q; cases q; exact m _ rfl
   rw [jo this]; exact sb b u this q
  have s6:zx H3 (upd H4 a (QE a (xs++zs))):=fun b u q m=>by
   have e3:H3 a=some (.lst xs):=s3 _ _ jq
   have:b ≠ a:=fun z=>by subst z; rw [e3] at q; cases q; exact m _ rfl
   rw [jo this,e2,jo this]; exact q
  exact (Reps.monoE s5 _ _ g5).append (Reps.monoN s6 _ _ hn r3)
end
section
variable {X:Cx}{e a b c tg src:Expr}{es:List Expr}{fa fb fc:RP}{pos:Pos}
theorem Reps.set {K:Fg}{H:Hp}{d:PyData}{v:V} (r:Rep K H d v):∀ {ds:LP}{xs:List V} (j:Nat),Reps K H ds xs->Reps K H (ds.set j d) (xs.set j v)
 | [],xs,j,h=>by cases (show xs=[] from h); exact rfl
 | _::ds,xs,0,⟨x,q,h1,h2,h3⟩=>by subst h1; exact ⟨v,q,rfl,r,h3⟩
 | _::ds,xs,j+1,⟨x,q,h1,h2,h3⟩=>by subst h1; exact ⟨x,_,rfl,h2,Reps.set r j h3⟩
end
section
variable {X:Cx}{e a b c:Expr}{fa fb fc:RP}{pos p2:Pos}
noncomputable def Z0 (ds:LP) (lo hi:Option Int):LP:=(ds.drop (HT.sIx ds.length 0 lo)).take (HT.sIx ds.length ds.length hi - HT.sIx ds.length 0 lo)
noncomputable def inI:PyData->Option Int
 | .int i=>some i
 | _=>none
theorem ab1 {d:PyData}{i:Int} (h:inI d=some i):d= .int i:=by cases d <;> simp [inI] at h; rw [h]
end
section
variable {prog:Program}{w:World}{A:Around}{E:Value->SP0}{s:Shared}
noncomputable def ItA (g:Bool) (h:Heap) (i t:Addr) (k:Nat):Prop:=match g with
 | true=>h.IsListIter i t k
 | false=>h.IsTupleIter i t k
noncomputable def SrA (g:Bool) (h:Heap) (t:Addr) (xs:Array Value):Prop:=match g with
 | true=>h.IsList t xs
 | false=>h.IsTuple t xs
theorem ItA.to {g:Bool}{h h':Heap}{i t:Addr}{k:Nat} (x:ItA g h i t k) (kp:∀ o,h.get? i=some o->h'.get? i=some o):ItA g h' i t k:=by
 cases g <;> exact (let ⟨o,e,r⟩:=x; ⟨o,kp o e,r⟩)
theorem SrA.to {g:Bool}{h h':Heap}{t:Addr}{xs:Array Value} (x:SrA g h t xs) (kp:∀ o,h.get? t=some o->h'.get? t=some o):SrA g h' t xs:=by
 cases g <;> exact (let ⟨o,e,r⟩:=x; ⟨o,kp o e,r⟩)
theorem ItA.extBut {g:Bool}{h h':Heap}{i t b:Addr}{k:Nat} (x:ItA g h i t k) (e:Heap.ExtBut b h h') (n:i ≠ b):ItA g h' i t k:=x.to fun o q=>e i o n q
theorem SrA.extBut {g:Bool}{h h':Heap}{t b:Addr}{xs:Array Value} (x:SrA g h t xs) (e:Heap.ExtBut b h h') (n:t ≠ b):SrA g h' t xs:=x.to fun o q=>e t o n q
theorem ItA.obj {g:Bool}{h:Heap}{i t:Addr}{k:Nat} (x:ItA g h i t k):∃ o vs,h.get? i=some o/\o.data= .fields vs:=by
 cases g <;> exact (let ⟨o,e,_,d⟩:=x; ⟨o,_,e,d⟩)
theorem Qr {g:Bool}{it t:Addr}{i:Nat}{ys:Array Value}{x:Value}{Q:Value->SP0} (hit:ItA g s.heap it t i) (ht:SrA g s.heap t ys) (hx:ys[i]?=some x)
  (hQ:∀ h',ItA g h' it t (i+1)->Heap.SameBut it s.heap h'->Q x { s with heap:=h' }):wpAny (model prog w) A (Builtin.SmallTypes.nextOf (.ref it)) Q E s:=by
 cases g with
 | true=>exact wpAny_nextOf_list_item hit ht hx hQ
 | false=>exact Qo hit ht hx hQ
theorem Ze {g:Bool}{it t:Addr}{i:Nat}{ys:Array Value}{Q:Value->SP0} (hh:A.handled=none) (hit:ItA g s.heap it t i) (ht:SrA g s.heap t ys) (hx:ys[i]?=none)
  (hE:∀ h' e,Heap.ExtBut it s.heap h'->(∃ o,h'.get? e=some o/\o.cls= .type "StopIteration")->E (.ref e) { s with heap:=h' }):wpAny (model prog w) A (Builtin.SmallTypes.nextOf (.ref it)) Q E s:=by
 cases g with
 | true=>exact wpAny_nextOf_list_end hh hit ht hx hE
 | false=>exact ade hh hit ht hx hE
theorem ab2 {T:Addr}{a b x:Value}{k:Nat}{Q:Unit->SP0} (hT:IsPair s.heap T a b)
  (h:∀ h',h'.get? T=some { cls:= .type "tuple",data:= .seq ((#[a,b]:Array Value).setIfInBounds k x) }->Heap.SameBut T s.heap h'->Q () { s with heap:=h' }):
  wpAny (model prog w) A (updateSeq T (·.setIfInBounds k x)) Q E s:=by
 refine wpAny_updateSeq hT rfl (h _ ?_ (Heap.SameBut.update ..))
 rw [Heap.get?_update_self _ hT rfl]
 simp [Obj.mapSeq]
structure Apart2 (z TI TO i1 i2 t1 t2:Addr):Prop where
 nd:[z,TO,i1,i2].Nodup
 ti:TI ∉ [z,TO,i1,i2]
 s1:t1 ∉ [z,TO,i1,i2]
 s2:t2 ∉ [z,TO,i1,i2]
structure Zip2 (ga gb:Bool) (h:Heap) (z TI TO i1 i2 t1 t2:Addr) (f0:Value) (k:Nat):Prop where
 hz:IsZip h z TI TO f0
 hTI:IsPair h TI (.ref i1) (.ref i2)
 hTO:∃ a b,IsPair h TO a b
 g1:ItA ga h i1 t1 k
 g2:ItA gb h i2 t2 k
theorem Zip2.keep {ga gb:Bool}{h h':Heap}{z TI TO i1 i2 t1 t2:Addr}{f0:Value}{k:Nat} (S:Zip2 ga gb h z TI TO i1 i2 t1 t2 f0 k) (kp:∀ b ∈ [z,TI,TO,i1,i2],∀ o,h.get? b=some o->h'.get? b=some o):
  Zip2 ga gb h' z TI TO i1 i2 t1 t2 f0 k:=by
 obtain ⟨hz,hTI,⟨a,b,hTO⟩,g1,g2⟩:=S
 exact ⟨kp z (by simp) _ hz,kp TI (by simp) _ hTI,⟨a,b,kp TO (by simp) _ hTO⟩,g1.to (kp i1 (by simp)),g2.to (kp i2 (by simp))⟩
theorem aiV {ga gb:Bool}{z TI TO i1 i2 t1 t2:Addr}{xs ys:Array Value}{k:Nat}{x y:Value}{Q:Value->SP0} (D:Apart2 z TI TO i1 i2 t1 t2) (S:Zip2 ga gb s.heap z TI TO i1 i2 t1 t2 .none k)
  (a1:SrA ga s.heap t1 xs) (a2:SrA gb s.heap t2 ys) (hx:xs[k]?=some x) (hy:ys[k]?=some y)
  (hQ:∀ h',Zip2 ga gb h' z TI TO i1 i2 t1 t2 (rawInt s.heap.objs.size) (k+1)->IsPair h' s.heap.objs.size x y->But [z,TO,i1,i2] s.heap h'->Q (.ref s.heap.objs.size) { s with heap:=h' }):
  wpAny (model prog w) A (Builtin.«zip.__next__» ⟨[.ref z],[]⟩) (fun fin s'=>∃ v,fin= .done (.ret v)/\Q v s') E s:=by
 obtain ⟨hz,hTI,⟨a,b,hTO⟩,g1,g2⟩:=S
 obtain ⟨nd,ti,s1,s2⟩:=D
 simp only [List.nodup_cons,List.mem_cons,List.not_mem_nil,or_false,not_or] at nd ti s1 s2
 obtain ⟨⟨n1,n2,n3⟩,⟨n5,n6⟩,n8,_⟩:=nd
 obtain ⟨t1z,t1o,t11,t12⟩:=s1
 obtain ⟨t2z,t2o,t21,t22⟩:=s2
 obtain ⟨tiz,tio,ti1,ti2⟩:=ti
 refine wpAny_bind (m:=field (.ref z) 2) (wpAny_field hz rfl (x:= .bool false) rfl ?_)
 refine wpAny_bind (m:=field (.ref z) 3) (wpAny_field hz rfl (x:= .ref TI) rfl ?_)
 refine wpAny_bind (wpAny_seqItems hTI rfl ?_)
 refine wpAny_bind (m:=Builtin.SmallTypes.ownedTupleIsFree (.ref z)) ?_
 unfold Builtin.SmallTypes.ownedTupleIsFree
 refine wpAny_bind (wpAny_field hz rfl (x:= .none) rfl (wpAny_pure ?_))
 simp only [zzM]
 refine wpAny_bind (wpAny_rule ?_)
 refine wpAny_bind (wpAny_field hz rfl (x:= .ref TO) rfl ?_)
 refine wpAny_bind (wpAny_setField_rec hz (by simp) fun h1 hz1 b1=>?_)
 replace hz1:IsZip h1 z TI TO .ellipsis:=hz1
 refine wpAny_bind ?_
 simp only [List.zipIdx_cons,List.zipIdx_nil,List.forIn_cons,List.forIn_nil]
 refine wpAny_bind (wpAny_bind (wpAny_onRaise ?_))
 refine wpAny_bind (m:=Builtin.SmallTypes.nextOf (.ref i1)) ?_
 refine Qr (g1.extBut b1.extBut (Ne.symm n2)) (a1.extBut b1.extBut t1z) hx fun h2 g1' b2=>wpAny_pure ?_
 have o2:IsPair h2 TO a b:=b2.extBut _ _ n5 (b1.extBut _ _ (Ne.symm n1) hTO)
 refine wpAny_bind (wpAny_seqItems o2 rfl ?_)
 refine wpAny_bind (ab2 o2 fun h3 o3 b3=>?_)
 replace o3:IsPair h3 TO x b:=o3
 refine wpAny_bind (wpAny_letGo (wpAny_pure ?_))
 refine wpAny_bind (wpAny_bind (wpAny_onRaise ?_))
 refine wpAny_bind (m:=Builtin.SmallTypes.nextOf (.ref i2)) ?_
 refine Qr (((g2.extBut b1.extBut (Ne.symm n3)).extBut b2.extBut (Ne.symm n8)).extBut b3.extBut (Ne.symm n6)) (((a2.extBut b1.extBut t2z).extBut b2.extBut t21).extBut b3.extBut t2o) hy fun h4 g2' b4=>wpAny_pure ?_
 have o4:IsPair h4 TO x b:=b4.extBut _ _ n6 o3
 refine wpAny_bind (wpAny_seqItems o4 rfl ?_)
 refine wpAny_bind (ab2 o4 fun h7 o7 b7=>?_)
 replace o7:IsPair h7 TO x y:=o7
 refine wpAny_bind (wpAny_letGo (wpAny_pure (wpAny_pure ?_)))
 refine wpAny_bind (wpAny_seqItems o7 rfl ?_)
 refine wpAny_bind (wpAny_newTuple ?_)
 have sz:h7.objs.size=s.heap.objs.size:=by rw [b7.1,b4.1,b3.1,b2.1,b1.1]
 have B:But [z,TO,i1,i2] s.heap h7:=
  ((((But.of b1.extBut (by simp)).trans (But.of b2.extBut (by simp))).trans (But.of b3.extBut (by simp))).trans (But.of b4.extBut (by simp))).trans (But.of b7.extBut (by simp))
 have z7:IsZip h7 z TI TO .ellipsis:=b7.extBut _ _ n1 (b4.extBut _ _ n3 (b3.extBut _ _ n1 (b2.extBut _ _ n2 hz1)))
 have i17:ItA ga h7 i1 t1 (k+1):=((g1'.extBut b3.extBut (Ne.symm n5)).extBut b4.extBut n8).extBut b7.extBut (Ne.symm n5)
 have i27:ItA gb h7 i2 t2 (k+1):=g2'.extBut b7.extBut (Ne.symm n6)
 refine wpAny_bind (m:=Builtin.SmallTypes.ownedTupleHandOut (.ref z) (.ref h7.objs.size)) ?_
 unfold Builtin.SmallTypes.ownedTupleHandOut
 have z8:IsZip (h7.push { cls:= .type "tuple",data:= .seq #[x,y] }) z TI TO .ellipsis:=Heap.get?_push_of_some _ z7
 refine wpAny_bind (wpAny_setField_rec z8 (by simp) fun h9 z9 b9=>?_)
 replace z9:IsZip h9 z TI TO (rawInt h7.objs.size):=z9
 refine wpAny_setField_rec z9 (by simp) fun h10 z10 b10=>?_
 replace z10:IsZip h10 z TI TO (rawInt h7.objs.size):=z10
 have up:∀ c o,c ≠ z->h7.get? c=some o->h10.get? c=some o:=fun c o c1 e=>b10.extBut _ _ c1 (b9.extBut _ _ c1 (Heap.get?_push_of_some _ e))
 have zlt:z<h7.objs.size:=Heap.lt_size z7
 have T10:IsPair h10 h7.objs.size x y:=b10.extBut _ _ (Nat.ne_of_gt zlt) (b9.extBut _ _ (Nat.ne_of_gt zlt) (Heap.get?_push_size _ rfl))
 rw [sz] at z10 T10
 refine wpAny_pure ⟨_,rfl,?_⟩
 show Q (.ref h7.objs.size) _
 rw [sz]
 refine hQ h10 ⟨z10,up _ _ tiz (B _ _ (by simp [tiz,tio,ti1,ti2]) hTI),⟨x,y,up _ _ (Ne.symm n1) o7⟩,i17.to fun o=>up _ o (Ne.symm n2),i27.to fun o=>up _ o (Ne.symm n3)⟩ T10 fun c o hc e=>up c o (fun q=>hc (by simp [q])) (B c o hc e)
theorem akI {ga gb:Bool}{z TI TO i1 i2 t1 t2:Addr}{xs ys:Array Value}{k:Nat}{Q:Fin->SP0} (hh:A.handled=none) (D:Apart2 z TI TO i1 i2 t1 t2) (S:Zip2 ga gb s.heap z TI TO i1 i2 t1 t2 .none k)
  (a1:SrA ga s.heap t1 xs) (a2:SrA gb s.heap t2 ys) (hx:xs[k]?=none ∨ ys[k]?=none)
  (hE:∀ h' e,But [z,TO,i1,i2] s.heap h'->(∃ o,h'.get? e=some o/\o.cls= .type "StopIteration")->E (.ref e) { s with heap:=h' }):
  wpAny (model prog w) A (Builtin.«zip.__next__» ⟨[.ref z],[]⟩) Q E s:=by
 obtain ⟨hz,hTI,⟨a,b,hTO⟩,g1,g2⟩:=S
 obtain ⟨nd,ti,s1,s2⟩:=D
 simp only [List.nodup_cons,List.mem_cons,List.not_mem_nil,or_false,not_or] at nd ti s1 s2
 obtain ⟨⟨n1,n2,n3⟩,⟨n5,n6⟩,n8,_⟩:=nd
 obtain ⟨t2z,t2o,t21,t22⟩:=s2
 refine wpAny_bind (m:=field (.ref z) 2) (wpAny_field hz rfl (x:= .bool false) rfl ?_)
 refine wpAny_bind (m:=field (.ref z) 3) (wpAny_field hz rfl (x:= .ref TI) rfl ?_)
 refine wpAny_bind (wpAny_seqItems hTI rfl ?_)
 refine wpAny_bind (m:=Builtin.SmallTypes.ownedTupleIsFree (.ref z)) ?_
 unfold Builtin.SmallTypes.ownedTupleIsFree
 refine wpAny_bind (wpAny_field hz rfl (x:= .none) rfl (wpAny_pure ?_))
 simp only [zzM]
 refine wpAny_bind (wpAny_rule ?_)
 refine wpAny_bind (wpAny_field hz rfl (x:= .ref TO) rfl ?_)
 refine wpAny_bind (wpAny_setField_rec hz (by simp) fun h1 hz1 b1=>?_)
 replace hz1:IsZip h1 z TI TO .ellipsis:=hz1
 refine wpAny_bind ?_
 simp only [List.zipIdx_cons,List.zipIdx_nil,List.forIn_cons,List.forIn_nil]
 refine wpAny_bind (wpAny_bind (wpAny_onRaise ?_))
 refine wpAny_bind (m:=Builtin.SmallTypes.nextOf (.ref i1)) ?_
 cases hx1:xs[k]? with
 | none=>
  refine Ze hh (g1.extBut b1.extBut (Ne.symm n2)) (a1.extBut b1.extBut s1.1) hx1 fun h2 e b2 he=>?_
  obtain ⟨oe,ho,hc⟩:=he
  have z2:IsZip h2 z TI TO .ellipsis:=b2 _ _ n2 hz1
  have ez:e ≠ z:=fun q=>by subst q; rw [z2] at ho; cases ho; simp at hc
  refine wpAny_setField_rec z2 (by simp) fun h3 _ b3=>?_
  exact hE h3 e (((But.of b1.extBut (by simp)).trans (But.of b2 (by simp))).trans (But.of b3.extBut (by simp))) ⟨oe,b3.extBut _ _ ez ho,hc⟩
 | some x=>
  have hy:ys[k]?=none:=hx.resolve_left (by rw [hx1]; simp)
  refine Qr (g1.extBut b1.extBut (Ne.symm n2)) (a1.extBut b1.extBut s1.1) hx1 fun h2 g1' b2=>wpAny_pure ?_
  have o2:IsPair h2 TO a b:=b2.extBut _ _ n5 (b1.extBut _ _ (Ne.symm n1) hTO)
  refine wpAny_bind (wpAny_seqItems o2 rfl ?_)
  refine wpAny_bind (ab2 o2 fun h3 o3 b3=>?_)
  refine wpAny_bind (wpAny_letGo (wpAny_pure ?_))
  refine wpAny_bind (wpAny_bind (wpAny_onRaise ?_))
  refine wpAny_bind (m:=Builtin.SmallTypes.nextOf (.ref i2)) ?_
  refine Ze hh (((g2.extBut b1.extBut (Ne.symm n3)).extBut b2.extBut (Ne.symm n8)).extBut b3.extBut (Ne.symm n6)) (((a2.extBut b1.extBut t2z).extBut b2.extBut t21).extBut b3.extBut t2o) hy fun h4 e b4 he=>?_
  obtain ⟨oe,ho,hc⟩:=he
  have z4:IsZip h4 z TI TO .ellipsis:=b4 _ _ n3 (b3.extBut _ _ n1 (b2.extBut _ _ n2 hz1))
  have ez:e ≠ z:=fun q=>by subst q; rw [z4] at ho; cases ho; simp at hc
  refine wpAny_setField_rec z4 (by simp) fun h5 _ b5=>?_
  exact hE h5 e (((((But.of b1.extBut (by simp)).trans (But.of b2.extBut (by simp))).trans (But.of b3.extBut (by simp))).trans (But.of b4 (by simp))).trans (But.of b5.extBut (by simp))) ⟨oe,b5.extBut _ _ ez ho,hc⟩
end
noncomputable def Sq (g:Bool) (K:Fg) (H:Hp) (t:Addr) (xs:List V):Prop:=match g with
 | true=>SqL K H t xs
 | false=>SqT K H t xs
theorem Sq.inv {g:Bool}{X:Cx}{Kp:List (Addr × Obj)}{σ:St}{H:Hp}{s:Shared}{a:Addr}{xs:List V} (q:Sq g X.K H a xs) (I:Inv X Kp σ H s):∃ its:List Value,jG xs its/\SrA g s.heap a its.toArray:=by
 cases g with
 | true=>obtain ⟨its,r,p,_⟩:=I.list q; exact ⟨its,r,p.isList⟩
 | false=>obtain ⟨its,r,p,_⟩:=I.tuple q; exact ⟨its,r,p⟩
theorem Sq.inj {g:Bool}{X:Cx}{Kp:List (Addr × Obj)}{σ:St}{H:Hp}{s:Shared}{a:Addr}{xs ys:List V} (I:Inv X Kp σ H s) (q:Sq g X.K H a xs) (q':Sq g X.K H a ys):xs=ys:=by
 cases g with
 | true=>exact I.list_inj q q'
 | false=>exact I.tuple_inj q q'
theorem Sq.monoE {g:Bool}{K:Fg}{H H':Hp}{a:Addr}{xs:List V} (e:jW H H') (h:Sq g K H a xs):Sq g K H' a xs:=by
 cases g with
 | true=>exact jW.sql e h
 | false=>exact jW.tup e h
theorem Sq.monoA {g:Bool}{K:Fg}{H H':Hp}{a:Addr}{xs:List V} (e:j9 H H') (h:Sq g K H a xs):Sq g K H' a xs:=by
 cases g with
 | true=>exact j9.sql e h
 | false=>exact j9.tup e h
theorem Sq.at {g:Bool}{K:Fg}{H:Hp}{a:Addr}{xs:List V} (h:Sq g K H a xs):(∃ u,H a=some u) ∨ ∃ o,K.lookup a=some o:=by
 cases g with
 | true=>rcases h with (e | ⟨o,e⟩) | ⟨o,its,n,hk,_⟩ <;> first | exact .inl ⟨_,e⟩ | exact .inr ⟨_,hk⟩
 | false=>rcases h with (e | ⟨o,e⟩) | ⟨o,its,n,hk,_⟩ <;> first | exact .inl ⟨_,e⟩ | exact .inr ⟨_,hk⟩
noncomputable def Itq (K:Fg) (ga gb:Bool) (t1 t2:Addr):It:=
 ⟨fun i H=>∃ xs ys x y,Sq ga K H t1 xs/\Sq gb K H t2 ys/\xs[i]?=some x/\ys[i]?=some y,
  fun i H u H'=>∃ p x y,u= .ref p/\H p=none/\H'=upd H p (.tup [x,y])/\∀ xs ys,Sq ga K H t1 xs->Sq gb K H t2 ys->xs[i]?=some x/\ys[i]?=some y,
  fun i H=>∃ xs ys,Sq ga K H t1 xs/\Sq gb K H t2 ys/\(xs.length<=i ∨ ys.length<=i)⟩
theorem aiW {P:Program}{w:World}{K:Fg}{elts:List Expr}{x1:Nat}{pos:Pos}{ga gb:Bool}{z TI TO i1 i2 t1 t2:Addr} (nd:[z,TO,i1,i2].Nodup) (ti:TI ∉ [z,TO,i1,i2]):
  Turn P w K (.Tuple elts x1 pos) (Itq K ga gb t1 t2) [z,TI,TO,i1,i2] z (fun i h=>Zip2 ga gb h z TI TO i1 i2 t1 t2 .none i) where
 mem:=by simp
 obj:=fun i h st b hb=>by
  obtain ⟨hz,hTI,⟨a,b',hTO⟩,g1,g2⟩:=st
  obtain ⟨o1,v1,e1,d1⟩:=g1.obj
  obtain ⟨o2,v2,e2,d2⟩:=g2.obj
  simp only [List.mem_cons,List.not_mem_nil,or_false] at hb
  rcases hb with rfl | rfl | rfl | rfl | rfl
  ·exact ⟨_,hz,fun v q=>by cases q⟩
  ·exact ⟨_,hTI,fun v q=>by cases q⟩
  ·exact ⟨_,hTO,fun v q=>by cases q⟩
  ·exact ⟨o1,e1,fun v q=>by rw [d1] at q; cases q⟩
  ·exact ⟨o2,e2,fun v q=>by rw [d2] at q; cases q⟩
 keep:=fun i h h' st k=>st.keep k
 item:=by
  intro X hP hw hK hc i Kp s σ H E I hf st hg
  subst hP hw hK
  obtain ⟨xs,ys,x,y,q1,q2,ex,ey⟩:=hg
  obtain ⟨us1,r1,p1⟩:=q1.inv I
  obtain ⟨us2,r2,p2⟩:=q2.inv I
  obtain ⟨u1,m1,l1⟩:=r1.get ex
  obtain ⟨u2,m2,l2⟩:=r2.get ey
  have trk:∀ {g:Bool} {t:Addr} {ws:List V},Sq g X.K H t ws->t ∉ [z,TO,i1,i2]:=fun {g t ws} hq hb=>by
   have hb':t ∈ [z,TI,TO,i1,i2]:=by
    simp only [List.mem_cons,List.not_mem_nil,or_false] at hb ⊢
    rcases hb with e | e | e | e <;> simp [e]
   rcases hq.at with ⟨u,e⟩ | ⟨o,hk⟩
   ·have:=(hf t hb').1; rw [e] at this; cases this
   ·obtain ⟨f0,f1,f2,f3,f4,f5⟩:=hf t hb'
    have hbase:=I.mod.kin t o hk
    rcases f3 with q | q
    ·exact I.ok.noex t o hbase q
    ·exact absurd (Nat.lt_of_lt_of_le (Heap.lt_size hbase) (Nat.le_trans I.ok.bsz q)) (Nat.lt_irrefl _)
  have D:Apart2 z TI TO i1 i2 t1 t2:=⟨nd,ti,trk q1,trk q2⟩
  have hT:s.TypeIs (.ref z) "zip":=⟨_,st.hz,rfl⟩
  unfold pyNext
  refine wpAny_bind (wpAny_attempt (wpAny_callSpecial?_slot (name:=Str.ofString "__next__") hT F.slot_zip_next
   (wpAny_call_entry F.slot_zip_next hT F.entry_zip_next (aiV D st p1 p2 (by simpa using m1) (by simpa using m2) fun h1 S1 T1 B1=>wpAny_pure ?_)
    (F.args_zip_next_1 _))))
  refine ⟨_,rfl,?_⟩
  refine wpAny_letOwnedTupleGo_zip (s:={ s with heap:=h1 }) S1.hz fun h2 z2' b2=>?_
  have nT:H s.heap.objs.size=none:=I.hok.fresh (Nat.le_refl _)
  have zlt:z<s.heap.objs.size:=Heap.lt_size st.hz
  have T2:IsPair h2 s.heap.objs.size u1 u2:=b2.extBut _ _ (Nat.ne_of_gt zlt) T1
  have B2:But [z,TO,i1,i2] s.heap h2:=B1.trans (But.of b2.extBut (by simp))
  have inF:∀ b ∈ [z,TO,i1,i2],b ∈ [z,TI,TO,i1,i2]:=fun b hb=>by
   simp only [List.mem_cons,List.not_mem_nil,or_false] at hb ⊢
   rcases hb with e | e | e | e <;> simp [e]
  have ntr:∀ b u,H b=some u->b ∉ [z,TO,i1,i2]:=fun b u e hb=>by
   have:=(hf b (inF b hb)).1
   rw [e] at this; cases this
  have neT:∀ b u,H b=some u->b ≠ s.heap.objs.size:=fun b u e q=>by rw [q,nT] at e; cases e
  have hok2:HOk X.prog X.w (upd H s.heap.objs.size (.tup [x,y])) h2:=fun b u e=>by
   by_cases hb:b=s.heap.objs.size
   ·subst hb
    rw [jq] at e
    cases e
    exact ⟨by show 2<=sizeLine; rw [sizeLine_eq]; decide,[u1,u2],.cons l1 (.cons l2 .nil),⟨_,T2,rfl,_,rfl⟩⟩
   ·rw [jo hb] at e
    refine (I.hok b u e).stay (fun c o hc' q=>B2 c o ?_ q) (fun c q=>by rw [jo (neT c _ q)]; exact q) fun c ws q=>by rw [jo (neT c _ q)]; exact q
    rcases hc' with q' | q'
    ·rw [q']; exact ntr b u e
    ·exact ntr c _ q'
  have I2:Inv X Kp σ (upd H s.heap.objs.size (.tup [x,y])) { s with heap:=h2,toks:=s.toks }:=by
   refine I.step (g':=s.gens) (d':=s.drawn) (ch:=[z,TO,i1,i2]) (fun b hb=>?_) (fun b o _ _ hb e _=>B2 b o hb e) (fun b o _ _ hb e _=>⟨o.slots,B2 b o hb e⟩) (fun b o hb e n=>?_) (fun b o hb e=>⟨o,B2 b o hb e⟩)
    (fun b ws e=>by rw [jo (neT b _ e)]; exact e) (fun b ob ws e=>by rw [jo (neT b _ e)]; exact e) (fun b ps e=>⟨#[],by rw [jo (neT b _ e),e]; simp⟩) (fun m hm=>?_) hok2 I.bare
   ·obtain ⟨f0,f1,f2,f3,f4,f5⟩:=hf b (inF b hb)
    exact ⟨f3,f1,f4,f5⟩
   ·rw [jo (Nat.ne_of_lt (Heap.lt_size e))]; exact n
   ·obtain ⟨o,es,ep,ho,r⟩:=hm
    refine ⟨o,es,ep,B2 _ o (fun hb=>?_) ho,r⟩
    exact (hf _ (inF _ hb)).2.1 rfl
  refine ⟨.ref s.heap.objs.size,_,I2,rfl,⟨_,x,y,rfl,nT,rfl,fun as bs g1 g2=>?_⟩,?_,fun b hb=>?_⟩
  ·rw [Sq.inj I g1 q1,Sq.inj I g2 q2]
   exact ⟨ex,ey⟩
  ·obtain ⟨_,hTI,⟨a,b,hTO⟩,g1,g2⟩:=S1
   simp only [List.nodup_cons,List.mem_cons,List.not_mem_nil,or_false,not_or] at nd ti
   obtain ⟨⟨n1,n2,n3⟩,_⟩:=nd
   exact ⟨z2',b2.extBut _ _ ti.1 hTI,⟨a,b,b2.extBut _ _ (Ne.symm n1) hTO⟩,g1.extBut b2.extBut (Ne.symm n2),g2.extBut b2.extBut (Ne.symm n3)⟩
  ·obtain ⟨o,ho,_⟩:∃ o,s.heap.get? b=some o/\True:=by
    obtain ⟨hz,hTI,⟨a,b',hTO⟩,g1,g2⟩:=st
    obtain ⟨o1,v1,e1,d1⟩:=g1.obj
    obtain ⟨o2,v2,e2,d2⟩:=g2.obj
    simp only [List.mem_cons,List.not_mem_nil,or_false] at hb
    rcases hb with rfl | rfl | rfl | rfl | rfl
    ·exact ⟨_,hz,trivial⟩
    ·exact ⟨_,hTI,trivial⟩
    ·exact ⟨_,hTO,trivial⟩
    ·exact ⟨_,e1,trivial⟩
    ·exact ⟨_,e2,trivial⟩
   rw [jo (Nat.ne_of_lt (Heap.lt_size ho))]
   exact (hf b hb).1
 done:=by
  intro X hP hw hK hc i Kp s σ H E I hf st hg
  subst hP hw hK
  obtain ⟨xs,ys,q1,q2,hl⟩:=hg
  obtain ⟨us1,r1,p1⟩:=q1.inv I
  obtain ⟨us2,r2,p2⟩:=q2.inv I
  have trk:∀ {g:Bool} {t:Addr} {ws:List V},Sq g X.K H t ws->t ∉ [z,TO,i1,i2]:=fun {g t ws} hq hb=>by
   have hb':t ∈ [z,TI,TO,i1,i2]:=by
    simp only [List.mem_cons,List.not_mem_nil,or_false] at hb ⊢
    rcases hb with e | e | e | e <;> simp [e]
   rcases hq.at with ⟨u,e⟩ | ⟨o,hk⟩
   ·have:=(hf t hb').1; rw [e] at this; cases this
   ·obtain ⟨f0,f1,f2,f3,f4,f5⟩:=hf t hb'
    have hbase:=I.mod.kin t o hk
    rcases f3 with q | q
    ·exact I.ok.noex t o hbase q
    ·exact absurd (Nat.lt_of_lt_of_le (Heap.lt_size hbase) (Nat.le_trans I.ok.bsz q)) (Nat.lt_irrefl _)
  have D:Apart2 z TI TO i1 i2 t1 t2:=⟨nd,ti,trk q1,trk q2⟩
  have hT:s.TypeIs (.ref z) "zip":=⟨_,st.hz,rfl⟩
  have hlen:=r1.length
  have hlen2:=r2.length
  unfold pyNext
  refine wpAny_bind (wpAny_attempt (wpAny_callSpecial?_slot (name:=Str.ofString "__next__") hT F.slot_zip_next
   (wpAny_call_entry F.slot_zip_next hT F.entry_zip_next (akI (I.ok.hd hc) D st p1 p2 (hl.imp (fun h=>by simp; omega) fun h=>by simp; omega) fun h1 e B1 he=>?_)
    (F.args_zip_next_1 _))))
  obtain ⟨o,ho,hcl⟩:=he
  refine wpAny_bind (wpAny_isInstance (T:="StopIteration") (b:=true) ⟨o,ho,hcl⟩ isSubtype_stop ?_)
  refine wpAny_pure ⟨rfl,?_⟩
  have inF:∀ b ∈ [z,TO,i1,i2],b ∈ [z,TI,TO,i1,i2]:=fun b hb=>by
   simp only [List.mem_cons,List.not_mem_nil,or_false] at hb ⊢
   rcases hb with e | e | e | e <;> simp [e]
  have ntr:∀ b u,H b=some u->b ∉ [z,TO,i1,i2]:=fun b u e hb=>by
   have:=(hf b (inF b hb)).1
   rw [e] at this; cases this
  refine I.step (t':=s.toks) (g':=s.gens) (d':=s.drawn) (ch:=[z,TO,i1,i2]) (fun b hb=>?_) (fun b o _ _ hb e _=>B1 b o hb e) (fun b o _ _ hb e _=>⟨o.slots,B1 b o hb e⟩) (fun b o hb e n=>n) (fun b o hb e=>⟨o,B1 b o hb e⟩)
   (fun b ws e=>e) (fun b ob ws e=>e) (fun b ps e=>⟨#[],by rw [e]; simp⟩) (fun m hm=>?_) (fun b u e=>?_) I.bare
  ·obtain ⟨f0,f1,f2,f3,f4,f5⟩:=hf b (inF b hb)
   exact ⟨f3,f1,f4,f5⟩
  ·obtain ⟨o,es,ep,ho,r⟩:=hm
   refine ⟨o,es,ep,B1 _ o (fun hb=>?_) ho,r⟩
   exact (hf _ (inF _ hb)).2.1 rfl
  ·refine (I.hok b u e).stay (fun c o hc' q=>B1 c o ?_ q) (fun c q=>q) fun c ws q=>q
   rcases hc' with q' | q'
   ·rw [q']; exact ntr b u e
   ·exact ntr c _ q'
 self:=fun _ _ _ _ _ st h=>wpAny_pyIter_zip st.hz h
theorem acR (a b:Value):checkTypeCall "zip" ⟨[a,b],[]⟩=pure ():=by kernel_rfl
theorem aed (a b:Value):checkBuiltinCall "zip.__new__" ⟨[.type "zip",a,b],[]⟩=pure ():=by kernel_rfl
theorem agC (a b c:Value):argsOk "object.__init__" ⟨[a,b,c],[]⟩:=by
 unfold argsOk
 rw [signature?_of (id:="object.__init__") (n:=['_','_','t','i','n','i','_','_'])
  (o:=['t','c','e','j','b','o']) (by kernel_rfl) F.owner_object]
 kernel_rfl
noncomputable def itO (g:Bool) (t:Addr):Obj:=match g with
 | true=>{ cls:= .type "list_iterator",data:= .fields #[.ref t,.int 0 0] }
 | false=>{ cls:= .type "tuple_iterator",data:= .fields #[.ref t,.int 0 0] }
theorem Z1 {g:Bool}{prog:Program}{w:World}{A:Around}{E:Value->SP0}{s:Shared}{l:Addr}{items:Array Value}{Q:Value->SP0} (h:SrA g s.heap l items)
  (q:Q (.ref s.heap.objs.size) { s with heap:=s.heap.push (itO g l) }):wpAny (model prog w) A (pyIter (.ref l)) Q E s:=by
 cases g with
 | true=>exact wpAny_pyIter_list h q
 | false=>exact wpAny_pyIter_tuple h q
theorem ab3 (g:Bool) (t:Addr):(itO g t).isFreed=false:=by cases g <;> rfl
theorem agD {g:Bool}{h:Heap}{i t:Addr} (e:h.get? i=some (itO g t)):ItA g h i t 0:=by
 cases g <;> exact ⟨_,e,rfl,rfl⟩
noncomputable abbrev qh1 (ga:Bool) (h:Heap) (a:Addr):Heap:=h.push (itO ga a)
noncomputable abbrev qh2 (ga gb:Bool) (h:Heap) (a b:Addr):Heap:=(qh1 ga h a).push (itO gb b)
noncomputable abbrev qh4 (ga gb:Bool) (h:Heap) (a b:Addr):Heap:=(qh2 ga gb h a b).push { cls:= .type "tuple",data:= .seq #[.ref h.objs.size,.ref (qh1 ga h a).objs.size] }
noncomputable abbrev qh5 (ga gb:Bool) (h:Heap) (a b:Addr):Heap:=(qh4 ga gb h a b).push { cls:= .type "tuple",data:= .seq #[.none,.none] }
noncomputable abbrev qh6 (ga gb:Bool) (h:Heap) (a b:Addr):Heap:=(qh5 ga gb h a b).push { cls:= .type "zip",data:= .fields #[.none,.bool false,.bool false,.ref (qh2 ga gb h a b).objs.size,.ref (qh4 ga gb h a b).objs.size] }
theorem akJ (ga gb:Bool) (a b:Addr) (xs ys:Array Value):
  Meets (Builtin.«zip.__new__» ⟨[.type "zip",.ref a,.ref b],[]⟩) (fun _ R s=>SrA ga s.heap a xs/\SrA gb s.heap b ys/\
   R (.ok (.ret (.ref (qh5 ga gb s.heap a b).objs.size))) { s with heap:=qh6 ga gb s.heap a b }):=
 .of_wp fun prog w A R s h=>by
  obtain ⟨hp,g,d,tk,os⟩:=s
  obtain ⟨h1,h2,h⟩:=h
  have hsub:=sub_zip
  have k1:SrA ga (Shared.heap ⟨hp,g,d,tk,os⟩) a xs:=h1
  have k2:SrA gb (Shared.heap ⟨qh1 ga hp a,g,d,tk,os⟩) b ys:=h2.to fun o e=>Heap.get?_push_of_some _ e
  wp_walk using Z1 k1,Z1 k2
  exact ⟨_,rfl,h⟩
section
variable {X:Cx}
noncomputable def aqE (K:Fg) (ta:TA):TI:=fun σ H R=>ta σ H fun vs H1=>∃ ga gb a b xs ys,vs=[.ref a,.ref b]/\Sq ga K H1 a xs/\Sq gb K H1 b ys/\R (Itq K ga gb a b) H1
theorem am2 {ea eb:Expr}{elts:List Expr}{x1:Nat}{tp:Pos}{ta:TA}{p pos:Pos} (hg:Gl X "zip") (hm:X.mg "zip"=none) (ha:PA X [ea,eb] ta)
  (hs:starEach [ea,eb] X.env=[(false,eval ea X.env),(false,eval eb X.env)]:=by rfl) (hs2:starEach [eb] X.env=[(false,eval eb X.env)]:=by rfl):
  PI X (.Tuple elts x1 tp) (.Call (.Name "zip" p) [ea,eb] [] pos) (aqE X.K ta):=by
 intro Kp s σ H R I h
 refine Call_ (Zx I hg hm boot_zip (PyProof.Rows.callWith_type1 (thn (ha pos Kp s σ H _ I h) fun us s1 ⟨vs,H1,I1,r1,q1⟩=>?_) (by rw [hs,hs2]) (by rw [hs2]; rfl)))
 obtain ⟨ga,gb,a,b,xs,ys,e,q1,q2,q⟩:=q1
 subst e
 cases r1 with
 | cons r1 rr=>
  cases rr with
  | cons r2 rr=>
   cases rr
   cases r1; cases r2
   obtain ⟨us1,v1,p1⟩:=q1.inv I1
   obtain ⟨us2,v2,p2⟩:=q2.inv I1
   refine callType_new F.called_zip (by decide) (acR _ _) (aed _ _) (fun obj=>agC obj _ _) F.entry_zip_new
    (akJ ga gb a b us1.toArray us2.toArray) ⟨p1,p2,?_⟩
   have n1:(qh1 ga s1.heap a).objs.size=s1.heap.objs.size+1:=Heap.size_push ..
   have n2:(qh2 ga gb s1.heap a b).objs.size=s1.heap.objs.size+2:=by rw [Heap.size_push,n1]
   have n4:(qh4 ga gb s1.heap a b).objs.size=s1.heap.objs.size+3:=by rw [Heap.size_push,n2]
   have n5:(qh5 ga gb s1.heap a b).objs.size=s1.heap.objs.size+4:=by rw [Heap.size_push,n4]
   have g6:(qh6 ga gb s1.heap a b).get? (qh5 ga gb s1.heap a b).objs.size=some _:=Heap.get?_push_size _ rfl
   have g5:(qh6 ga gb s1.heap a b).get? (qh4 ga gb s1.heap a b).objs.size=some _:=Heap.get?_push_of_some _ (Heap.get?_push_size _ rfl)
   have g4:(qh6 ga gb s1.heap a b).get? (qh2 ga gb s1.heap a b).objs.size=some _:=Heap.get?_push_of_some _ (Heap.get?_push_of_some _ (Heap.get?_push_size _ rfl))
   have up3:∀ x o,(qh2 ga gb s1.heap a b).get? x=some o->(qh6 ga gb s1.heap a b).get? x=some o:=fun x o e=>Heap.get?_push_of_some _ (Heap.get?_push_of_some _ (Heap.get?_push_of_some _ e))
   have g2:(qh6 ga gb s1.heap a b).get? (qh1 ga s1.heap a).objs.size=some _:=up3 _ _ (Heap.get?_push_size _ (ab3 gb b))
   have g1:(qh6 ga gb s1.heap a b).get? s1.heap.objs.size=some _:=up3 _ _ (Heap.get?_push_of_some _ (Heap.get?_push_size _ (ab3 ga a)))
   have kp:∀ x o,s1.heap.get? x=some o->(qh6 ga gb s1.heap a b).get? x=some o:=fun x o e=>up3 _ _ (Heap.get?_push_of_some _ (Heap.get?_push_of_some _ e))
   show _/\_
   refine ⟨⟨_,g6,rfl⟩,?_⟩
   refine wpAny_pyIter_zip g6 ?_
   have I2:Inv X Kp σ H1 { s1 with heap:=qh6 ga gb s1.heap a b }:=I1.kept (t':=s1.toks) kp
   refine ⟨_,[(qh5 ga gb s1.heap a b).objs.size,(qh2 ga gb s1.heap a b).objs.size,(qh4 ga gb s1.heap a b).objs.size,s1.heap.objs.size,(qh1 ga s1.heap a).objs.size],
    _,_,H1,rfl,I2,aiW (z:=(qh5 ga gb s1.heap a b).objs.size) (TI:=(qh2 ga gb s1.heap a b).objs.size) (TO:=(qh4 ga gb s1.heap a b).objs.size) (i1:=s1.heap.objs.size) (i2:=(qh1 ga s1.heap a).objs.size) (t1:=a) (t2:=b) ?_ ?_,
    ⟨g6,g4,⟨_,_,g5⟩,agD g1,agD g2⟩,fun x hx=>?_,q⟩
   ·rw [n5,n4,n1]
    simp [List.nodup_cons]
   ·rw [n2,n5,n4,n1]
    simp
   ·have hle:s1.heap.objs.size<=x:=by
     rw [n5,n2,n4,n1] at hx
     simp only [List.mem_cons,List.not_mem_nil,or_false] at hx
     rcases hx with e | e | e | e | e <;> rw [e] <;> first | exact Nat.le_refl _ | exact Nat.le_add_right _ _
    exact I1.fpOk hle (I1.hok.fresh hle)
noncomputable def ab4:PyData->Option (LP)
 | .tuple xs=>some xs
 | .list xs=>some xs
 | _=>none
noncomputable def Jv:LP->LP->LP
 | x::xs,y::ys=> .tuple [x,y]::Jv xs ys
 | _,_=>[]
noncomputable def ahL (ds:LP):Option (LP):=match ds with
 | [p,q]=>(ab4 p).bind fun xs=>(ab4 q).bind fun ys=>some (Jv xs ys)
 | _=>none
theorem aaG:∀ (xs ys:LP),(Jv xs ys).length=min xs.length ys.length
 | [],_=>by simp [Jv]
 | x::xs,[]=>by simp [Jv]
 | x::xs,y::ys=>by simp [Jv,aaG xs ys,Nat.succ_min_succ]
theorem adn:∀ (xs ys:LP) (i:Nat) (d:PyData),(Jv xs ys)[i]?=some d->∃ x y,xs[i]?=some x/\ys[i]?=some y/\d= .tuple [x,y]
 | [],_,i,d,h=>by simp [Jv] at h
 | x::xs,[],i,d,h=>by simp [Jv] at h
 | x::xs,y::ys,0,d,h=>by simp [Jv] at h; exact ⟨x,y,rfl,rfl,h.symm⟩
 | x::xs,y::ys,i+1,d,h=>by
  obtain ⟨a,b,e1,e2,e4⟩:=adn xs ys i d (by simpa [Jv] using h)
  exact ⟨a,b,by simpa using e1,by simpa using e2,e4⟩
theorem ab5 {K:Fg}{H:Hp}{d:PyData}{v:V}{xs:LP} (h:ab4 d=some xs) (r:Rep K H d v):∃ g a us,v= .ref a/\Sq g K H a us/\Reps K H xs us:=by
 cases d with
 | tuple ds=>cases h; obtain ⟨a,us,e,q,r⟩:=r; exact ⟨false,a,us,e,q,r⟩
 | list ds=>cases h; obtain ⟨a,us,e,q,r⟩:=r; exact ⟨true,a,us,e,SqL.of q,r⟩
 | _=>cases h
theorem akK {ea eb:Expr}{elts:List Expr}{x1:Nat}{tp:Pos}{p pos:Pos}{fr:Rho->Option (LP)} (hm:X.mg "zip"=none) (ha:PAD X [ea,eb] fr) (hg:Gl X "zip":=by rfl)
  (hs:starEach [ea,eb] X.env=[(false,eval ea X.env),(false,eval eb X.env)]:=by rfl) (hs2:starEach [eb] X.env=[(false,eval eb X.env)]:=by rfl):
  PID X (.Tuple elts x1 tp) (.Call (.Name "zip" p) [ea,eb] [] pos) (fun ρ=>(fr ρ).bind ahL):=by
 with_unfolding_all
  refine PI.imp (am2 hg hm ha hs hs2) fun σ H R ⟨ρ,ds,en,q,k⟩=>?_
  cases h1:fr ρ with
  | none=>simp [h1] at q
  | some as=>
   have q':ahL as=some ds:=by simpa [h1] using q
   refine ⟨ρ,as,en,h1,fun vs H1 s1 r1=>?_⟩
   unfold ahL at q'
   split at q'
   ·rename_i dp dq
    cases hp:ab4 dp with
    | none=>simp [hp] at q'
    | some xs=>
     cases hq:ab4 dq with
     | none=>simp [hp,hq] at q'
     | some ys=>
      simp only [hp,hq,zzD,Option.some.injEq] at q'
      subst q'
      obtain ⟨v1,w1,e1,rp,v2,w2,e2,rq,e4⟩:=r1
      cases (show w2=[] from e4)
      obtain ⟨ga,a,us1,ea',qa,ra⟩:=ab5 hp rp
      obtain ⟨gb,b,us2,eb',qb,rb⟩:=ab5 hq rq
      subst ea'; subst eb'; subst e2
      have l1:=ra.length
      have l2:=rb.length
      have lz:=aaG xs ys
      refine ⟨ga,gb,a,b,us1,us2,e1,qa,qb,k _ H1 s1 fun i H2 s2=>⟨fun hi=>?_,fun hi=>?_,fun u H3 y=>?_⟩⟩
      ·rw [lz] at hi
       exact ⟨us1,us2,us1[i]'(by omega),us2[i]'(by omega),qa.monoA s2,qb.monoA s2,by simp <;> omega,by simp <;> omega⟩
      ·rw [lz] at hi
       exact ⟨us1,us2,qa.monoA s2,qb.monoA s2,by omega⟩
      ·obtain ⟨pp,x,y,e5,e6,e7,e8⟩:=y
       subst e5; subst e7
       refine ⟨jx e6,fun d hd=>?_⟩
       obtain ⟨dx,dy,g1,g2,g4⟩:=adn xs ys i d hd
       subst g4
       obtain ⟨f1,f2⟩:=e8 us1 us2 (qa.monoA s2) (qb.monoA s2)
       have m:=s2.trans (jt.a (jx (o:= .tup [x,y]) e6))
       obtain ⟨x',a1,a2⟩:=(Reps.monoA m _ _ ra).get g1
       obtain ⟨y',b1,b2⟩:=(Reps.monoA m _ _ rb).get g2
       rw [f1] at a1; cases a1
       rw [f2] at b1; cases b1
       exact ⟨pp,[x,y],rfl,SqT.of jq,x,_,rfl,a2,y,_,rfl,b2,rfl⟩
   ·cases q'
end
section
variable {X:Cx}{e a b c:Expr}{fa fb fc:RP}{pos p2:Pos}
noncomputable def am3 (ds:LP):OP:=match ds with
 | [.int i]=>some (.int (if i<0 then -i else i))
 | _=>none
theorem agE:ZQ X (.builtin "abs") am3:=by
 refine ⟨_,ajW,fun ds d xs H Q h r k=>?_⟩
 unfold am3 at h
 split at h
 ·cases h
  obtain ⟨x,q,e1,e2,e3⟩:=r
  cases (show q=[] from e3)
  cases (show x=_ from e2)
  exact ⟨_,e1,k _ H (jt.refl H) rfl⟩
 ·cases h
noncomputable def akL (p:PyData) (lo hi:Option Int):OP:=match p with
 | .list ds=>some (.list (Z0 ds lo hi))
 | _=>none
noncomputable def ahM (p q:PyData):OP:=match p,q with
 | .list ds,.int k=>if ds.length<1000/\-1000<k/\k<1000 then some (.list (List.replicate k.toNat ds).flatten) else none
 | _,_=>none
theorem akM:OpD X (binaryOp .Mult) ahM:=by
 refine ⟨_,aj3,fun p q d x y H Q h rx ry k=>?_⟩
 unfold ahM at h
 split at h
 ·rename_i ds n
  split at h
  ·rename_i hc
   cases h
   obtain ⟨l,us,e1,e2,e3⟩:=rx
   cases (show y=V.int n from ry)
   have hl:=e3.length
   refine ⟨l,n,us,e1,rfl,e2,by omega,by omega,?_,fun p hp=>?_⟩
   ·rw [sizeLine_eq]
    have h1:us.length*n.toNat<=1000*1000:=Nat.mul_le_mul (by omega) (by omega)
    exact Nat.le_trans h1 (by decide)
   ·have s1:=jx (o:= .lst (List.replicate n.toNat us).flatten) hp
    exact k _ _ s1 ⟨p,_,rfl,jq,Reps.mono s1 _ _ (e3.rep _)⟩
  ·cases h
 ·cases h
theorem Zc:∀ {is:List Int}{us:List Value},jG (is.map V.int) us->∀ (j:Nat) (i:Int),is[j]?=some i->∃ t,us[j]?=some (.int i t)
 | [],us,r,j,i,h=>by simp at h
 | i0::is,u::us,.cons r rr,j,i,h=>by
  cases j with
  | zero=>cases h; obtain ⟨t,rfl⟩:=r; exact ⟨t,rfl⟩
  | succ j=>exact Zc rr j i (by simpa using h)
end
structure OneCell (sc:Scope) (y0:Str) (pre post:List (Str × NameKind)):Prop where
 split:sc.names=pre++(y0,.cell)::post
 pre:∀ x ∈ pre,x.2 ≠ .cell
 post:∀ x ∈ post,x.2 ≠ .cell
structure CompOk1 (X:Cx) (sc:Scope) (N':List Str) (cap:List (Option Nat)) (y0:Str):Prop where
 fr:∀ x ∈ sc.names,x.2= .free->X.env.kindOf x.1=some .cell ∨ X.env.kindOf x.1=some .free
 one:∃ pre post,OneCell sc y0 pre post
 lk:sc.names.lookup y0=some .cell
 kind:sc.kind= .function
 nm:∀ x ∈ sc.names,x.2= .local->sc.names.lookup x.1=some .local
 len:cap.length=N'.length
 cp:∀ (j i:Nat) (x:Str),N'[j]?=some x->cap[j]?=some (some i)->X.N[i]?=some x/\sc.names.lookup x=some .free
section
variable {X:Cx}{e:Expr}{fa:RP}
end
theorem am4 {X : Cx} {i0 : Nat} {x0 : Str} {pos0 pos1 : Pos} {el tg src : Expr} {ts : List Expr} {sc : Scope} {ps : Pos} {wi : TI} {g : TG} {tt : TT} {te : TE} {N' : List Str} {cap : List (Option Nat)} (hc : X.calm = true) (hi : PI X tg src wi) (ok : CompOk X sc N' cap)
    (body : ∀ cl C s0 H0 fp pn, PG (blk X N' sc cl C s0 H0 fp pn) tg g /\ PTs (blk X N' sc cl C s0 H0 fp pn) ts tt /\ PE (blk X N' sc cl C s0 H0 fp pn) el te)
    (hN : X.N.Nodup) (hi0 : X.N[i0]? = some x0) (hx0 : Loc X.env.scope x0) (hsw : swapsWith (.ListComp el [⟨tg, src, ts, 0⟩] sc ps) (some (.Name x0 pos0)) pos1.line X.env = pure true)
    (hf0 : X.fn x0 = true ∨ X.env.scope.names.lookup x0 = some .local)
    (hs : ∀ x, foldedSetIterable src X.env x = pure x := by intro _; rfl) : PS X (.Assign [.Name x0 pos0] (.ListComp el [⟨tg, src, ts, 0⟩] sc ps) pos1) (aot (akc wi cap g tt te) (ajP i0)) := by
  intro Kp s σ H Dn I h
  have hfr : ∀ x ∈ sc.names, x.2 = .free -> ∃ c, X.env.cells.lookup x.1 = some c := fun x hx e => I.ok.has x.1 (ok.fr x hx e)
  have hcl := ahw sc X.env hfr
  have clm : ∀ x c, (QC X.env sc.names []).lookup x = some c -> X.env.cells.lookup x = some c := fun x c e =>
    aav X.env sc.names [] hfr (fun _ z => nomatch z) (x, c) (PySem.mem_of_lookup e)
  generalize hgl : QC X.env sc.names [] = cl at hcl clm
  rw [exec_Assign_Name_used _ _ _ _ hsw]
  refine wpAny_bind (wpAny_standAt (wpAny_bind ?_))
  show wpAny _ X.A (do let _ ← comprehension (.ListComp el [⟨tg, src, ts, 0⟩] sc ps) sc X.env _ (newList []) false (eval src X.env) (some (assign (.Name x0 pos0) X.env))) _ _ s
  refine wpAny_bind (wpAny_mono (wpAny_comprehension_free (use := some (assign (.Name x0 pos0) X.env)) (Q := fun _ s' => SP X Kp Dn .next s') rfl hs hcl ok.kind ok.nm ?_) (fun _ s' hq => wpAny_pure (wpAny_pure hq)) fun _ _ e => e)
  refine thn (hi Kp s σ H _ I h) fun v s1 h1 => thn h1 fun itv s2 h2 => ?_
  obtain ⟨it, fp, tn, J, H2, e, I2, T, st2, f2, W, ⟨m0, w0⟩, turn⟩ := h2
  subst e
  refine wpAny_newObj_type (wpAny_newFunctionEnv ok.nc (by intro y hy; simp at hy) (fun h4 hns hsb => ?_) ok.kind)
  dsimp only at hns hsb ⊢
  generalize hH3 : s2.heap.push { cls := .type "list", dict := none, data := .seq ([] : List Value).toArray } = h3 at hns hsb ⊢
  have hC : h3.objs.size = s2.heap.objs.size + 1 := by rw [← hH3, Heap.size_push]
  generalize hCC : h3.objs.size = C at hns hsb hC ⊢
  generalize hDD : s2.heap.objs.size = D at hC ⊢
  have hDC : D ≠ C := by rw [hC]; exact Nat.ne_of_lt (Nat.lt_succ_self _)
  have old : ∀ b o, s2.heap.get? b = some o -> h4.get? b = some o := fun b o e => hsb.extBut b o (by have := Heap.lt_size e; rw [hDD] at this; rw [hC]; exact Nat.ne_of_lt (Nat.lt_succ_of_lt this)) (Heap.get?_push_of_some _ (hH3 ▸ Heap.get?_push_of_some _ e))
  have accO : h4.get? D = some { cls := .type "list", data := .seq ([] : List Value).toArray 0 } := hsb.extBut _ _ hDC (Heap.get?_push_of_some _ (by rw [← hH3, ← hDD]; exact Heap.get?_push_size _ rfl))
  have H2D : H2 D = none := I2.hok.fresh (by rw [hDD]; exact Nat.le_refl _)
  have H2C : H2 C = none := I2.hok.fresh (by rw [hDD, hC]; exact Nat.le_succ _)
  have cellsLt : ∀ x c, X.env.cells.lookup x = some c -> c<D := fun x c e => by
    obtain ⟨v, q⟩ := I2.cell x c e
    rw [← hDD]; exact q.lt
  have pinLt : ∀ p ∈ X.pn ++ Kp, p.1<D := fun p hp => by rw [← hDD]; exact Heap.lt_size (I2.pin p hp).1
  have stkLt : ∀ b ∈ frs X.stack, b<D := fun b hb => by
    obtain ⟨_, o, ho, _⟩ := I2.stack.mem hb
    rw [← hDD]; exact Heap.lt_size ho
  have fpLt : ∀ b ∈ fp, b<D := fun b hb => by
    obtain ⟨o, ho, _⟩ := T.obj _ _ st2 b hb
    rw [← hDD]; exact Heap.lt_size ho
  have ltC : ∀ {b : Addr}, b<D -> b ≠ C := fun hb => by rw [hC]; exact Nat.ne_of_lt (Nat.lt_succ_of_lt hb)
  have locLt : X.env.locals<D := by rw [← hDD]; exact I2.lt
  have hDge : s2.heap.objs.size <= D := by rw [hDD]; exact Nat.le_refl _
  have hCge : s2.heap.objs.size <= C := by rw [hDD, hC]; exact Nat.le_succ _
  have bok : (blk X N' sc cl C s2 H2 fp (X.pn ++ Kp)).Ok := by
    refine ⟨I2.ok.mod, ok.kind, I2.ok.glob, I2.ok.blt, hCge, fun x y c e1 e2 => I2.ok.inj x y c (clm x c e1) (clm y c e2), fun x hx => ?_, fun x c z _ => ?_, I2.ok.hd, I2.ok.frames, .inl rfl, fun b hb => ?_, I2.bs, Nat.le_trans I2.ok.bsz I2.sz, fun b o e hb => ?_, fun b hb z => ?_, I2.stack, I2.stkFree⟩
    · have hx' : (relabel sc X.env).names.lookup x = some .cell ∨ (relabel sc X.env).names.lookup x = some .free := hx
      have hm : (x, NameKind.free) ∈ sc.names := by
        rcases hx' with z | z
        · exact JJ (PySem.mem_of_lookup z) ok.nc (.inl rfl)
        · exact JJ (PySem.mem_of_lookup z) ok.nc (.inr rfl)
      obtain ⟨c, hc⟩ := J5 X.env sc.names [] x hm
      rw [hgl] at hc
      exact zc hc
    · exact absurd (show false = true from z) Bool.false_ne_true
    · exact ⟨ltC (fpLt b hb), fun x c e => (f2 b hb).2.2.2.2.1 x c (clm x c e)⟩
    · rcases (f2 b hb).2.2.2.1 with z | z
      · exact I2.ok.noex b o e z
      · have := Heap.lt_size e
        exact absurd (Nat.lt_of_lt_of_le this (Nat.le_trans I2.ok.bsz z)) (Nat.lt_irrefl _)
    · rcases List.mem_cons.mp (I2.stkSub b z) with q | q
      · exact (f2 b hb).2.1 q
      · exact (f2 b hb).2.2.1 q
  have pinB : ∀ p ∈ X.pn ++ Kp, p.1 ≠ C /\ p.1 ∉ frs X.stack := fun p hp => ⟨ltC (pinLt p hp), fun z => by
    rcases List.mem_cons.mp (I2.stkSub p.1 z) with q | q
    · exact (I2.pin p hp).2.2.1 q
    · exact (I2.pin p hp).2.2.2.1 q⟩
  have I4 : Inv (blk X N' sc cl C s2 H2 fp (X.pn ++ Kp)) [] (abf cap σ) H2 { s2 with heap := h4, toks := s2.toks + ([] : List (Str × Value)).length } := by
    refine ⟨bok, rfl, I2.bare, Un.kept old, ⟨_, hns, fun j x v e1 e2 e3 => ?_⟩, fun x c e => ?_, H2C, fun x c e => I2.freeC x c (clm x c e), fun p hp => ?_, I2.hok.kept old, ?_⟩
    · unfold abf at e2
      rw [List.getElem?_map] at e2
      cases e4 : cap[j]? with
      | none => rw [e4] at e2; cases e2
      | some o =>
        rw [e4] at e2
        cases o with
        | none => cases e2
        | some i =>
          obtain ⟨hNi, hf⟩ := ok.cp j i x e1 e4
          have e5 : (σ[i]?).join = some v := by
            have := Option.some.inj e2
            simpa using this
          have e6 : σ[i]? = some (some v) := by
            cases e7 : σ[i]? with
            | none => rw [e7] at e5; cases e5
            | some z => rw [e7] at e5; cases z with
              | none => cases e5
              | some z => cases e5; rfl
          have hk := ok.fr (x, .free) (PySem.mem_of_lookup hf) rfl
          obtain ⟨m, hn, hl⟩ := I2.loc
          have hv : Vis X.env.scope x := by
            rcases hk with z | z
            · exact .inr (.inl z)
            · exact .inr (.inr z)
          obtain ⟨u, r, lk⟩ := hl i x v hNi e6 hv
          have cellX : ∃ c, X.env.cells.lookup x = some c /\ s2.heap.IsCell c (some u) := by
            rcases lk with ⟨k1, _⟩ | ⟨_, c, e, z⟩
            · rcases hk with z | z
              · have z' : X.env.kindOf x = some .cell := z
                rw [k1] at z'; cases z'
              · have z' : X.env.kindOf x = some .free := z
                rw [k1] at z'; cases z'
            · exact ⟨c, e, z⟩
          obtain ⟨c, hc1, ob, hc2, hc3⟩ := cellX
          obtain ⟨c', hc'⟩ := J5 X.env sc.names [] x (PySem.mem_of_lookup hf)
          rw [hgl] at hc'
          obtain ⟨d, hd⟩ := zc hc'
          have ed : d = c := by
            have := clm x d hd
            rw [hc1] at this; cases this; rfl
          subst ed
          refine ⟨u, r, .inr ⟨?_, d, hd, ob, old _ _ hc2, hc3⟩⟩
          exact Qi hf
    · obtain ⟨v, ob, ho, hd⟩ := I2.cell x c (clm x c e)
      exact ⟨v, ob, old _ _ ho, hd⟩
    · have hp' : p ∈ X.pn ++ Kp := by simpa [blk] using hp
      obtain ⟨e1, e2, e3, e4, e5⟩ := I2.pin p hp'
      exact ⟨old _ _ e1, e2, (pinB p hp').1, (pinB p hp').2, e5⟩
    · show (abf cap σ).length = N'.length
      unfold abf
      rw [List.length_map]; exact ok.len
  have fpB : ∀ {H' : Hp} {pl : List (Addr × Obj)}, (∀ b ∈ fp, H' b = none) -> (∀ p ∈ pl, p.1 ∉ fp) -> ∀ b ∈ fp, aeU (blk X N' sc cl C s2 H2 fp (X.pn ++ Kp)) pl H' b := fun {H' pl} hn hpl b hb =>
    ⟨hn b hb, ltC (fpLt b hb), bok.exfs b hb, .inl hb, fun x c e => (f2 b hb).2.2.2.2.1 x c (clm x c e), fun p hp z => by
      rcases List.mem_append.mp (show p ∈ (X.pn ++ Kp) ++ pl from hp) with q | q
      · exact (f2 b hb).2.2.2.2.2 p q z
      · exact hpl p q (by rw [z]; exact hb)⟩
  have Dfp : ∀ (o : Obj), ∀ p ∈ [(D, o)], p.1 ∉ fp := fun o p hp z => by
    have e : p = (D, o) := by simpa using hp
    subst e
    exact Nat.lt_irrefl _ (fpLt D z)
  have Dfs : D ∉ frs X.stack := fun z => Nat.lt_irrefl _ (stkLt D z)
  obtain ⟨bG, bT, bE⟩ := body cl C s2 H2 fp (X.pn ++ Kp)
  have loop : codeAny (model X.prog X.w) X.A (.compLoop (.ListComp el [⟨tg, src, ts, 0⟩] sc ps) 0 (.ref it) (.ref D) (compEnvC sc cl C X.env)) (compPost (model X.prog X.w) X.A X.xe (some (assign (.Name x0 pos0) X.env)) (fun _ s' => SP X Kp Dn .next s') (.ref D) C)
      { s2 with heap := h4, toks := s2.toks + ([] : List (Str × Value)).length } := by
    refine ac9 (fun n s' => ∃ i τ ys us k H', Inv (blk X N' sc cl C s2 H2 fp (X.pn ++ Kp)) [] τ H' s' /\ tn i s'.heap /\ (∀ b ∈ fp, H' b = none) /\ jG ys us /\ s'.heap.get? D = some { cls := .type "list", data := .seq us.toArray k } /\ H' D = none /\ W i n τ ys H') ?_ m0
      ⟨0, _, [], [], 0, H2, I4, T.keep _ _ _ st2 (fun b _ o e => old b o e), fun b hb => (f2 b hb).1, .nil, accO, H2D, w0⟩
    rintro n s5 ⟨i, τ, ys, us, k, H5, I5, st5, fr5, rv5, ho5, hD5, w5⟩
    obtain ⟨hsz, alt⟩ := turn i n τ ys H5 w5
    have I5p : Inv (blk X N' sc cl C s2 H2 fp (X.pn ++ Kp)) [(D, { cls := .type "list", data := .seq us.toArray k })] τ H5 s5 := I5.pins_of fun p hp => by
      have e : p = (D, { cls := .type "list", data := .seq us.toArray k }) := by simpa using hp
      subst e
      exact ⟨ho5, hD5, hDC, Dfs, fun v z => by cases z⟩
    rcases alt with ⟨stop, fin⟩ | ⟨go, step⟩
    · refine thn (T.done (blk X N' sc cl C s2 H2 fp (X.pn ++ Kp)) rfl rfl rfl hc i _ s5 τ H5 NoX I5p (fpB fr5 (Dfp _)) st5 stop) fun r s6 ⟨hr, I6⟩ => ?_
      subst hr
      have ho6 := (I6.pin (D, _) (List.mem_append_right _ (List.mem_singleton.mpr rfl))).1
      obtain ⟨m6, hn6, _⟩ := I6.loc
      have J6 : Inv X Kp σ H5 s6 := I2.call' (ch := fp) I6.os I6.base I6.hok I6.bare fun b hb => ⟨(f2 b hb).2.2.2.1, (f2 b hb).2.1, (f2 b hb).2.2.2.2.1, (f2 b hb).2.2.2.2.2⟩
      have H5C : H5 C = none := I6.free
      have J7 : Inv X Kp σ (upd H5 D (.lst ys)) s6 := Inv.track J6 hD5 (Nat.le_trans I2.sz hDge) (Ne.symm (Nat.ne_of_lt locLt)) (fun x c e => Nat.ne_of_lt (cellsLt x c e)) (fun p hp => Nat.ne_of_lt (pinLt p hp)) ⟨Nat.le_of_lt hsz, us, k, rv5, ho6⟩
      refine wpAny_assign_Name (ac0 J7 hN hi0 hx0 (show jK (.ref D) (.ref D) from rfl) (fun s8 I8 ⟨a, sb, ha⟩ => ?_) hf0)
      have aC : C ≠ a := by
        rcases ha with z | z
        · rw [z]; exact Ne.symm (ltC locLt)
        · exact Ne.symm (ltC (cellsLt _ _ z))
      refine ⟨m6, hn6.sameBut sb aC, fun h7 hs7 => ?_⟩
      have J8 : Inv X Kp (σ.set i0 (some (.ref D))) (upd H5 D (.lst ys)) { s8 with heap := h7, toks := s8.toks } := I8.turned (it := C) (fun b o hb e => hs7.extBut b o hb e) (by rw [jo (Ne.symm hDC)]; exact H5C) (Ne.symm (ltC locLt)) (.inr (Nat.le_trans I2.sz hCge)) (fun x c e => ltC (cellsLt x c e)) (fun p hp => ltC (pinLt p hp))
      exact ⟨_, _, J8, fin D hD5⟩
    · refine thn (T.item (blk X N' sc cl C s2 H2 fp (X.pn ++ Kp)) rfl rfl rfl hc i _ s5 τ H5 NoX I5p (fpB fr5 (Dfp _)) st5 go) fun r s6 ⟨u, hr, h6⟩ => ?_
      subst hr
      refine thn h6 fun _ s7 ⟨x, H7, I7, r7, y7, st7, fr7⟩ => ?_
      have I7p := I7.pinned (fpB fr7 (Dfp _)) (T.obj _ _ st7)
      refine thn (bG _ s7 τ H7 x u _ I7p r7 (step x H7 y7)) fun _ s8 ⟨τ8, H8, I8, q8⟩ => ?_
      have back : ∀ {τ9 : St} {H9 : Hp} {s9 : Shared}, Inv (blk X N' sc cl C s2 H2 fp (X.pn ++ Kp)) ([(D, { cls := .type "list", data := .seq us.toArray k })] ++ aas fp s7.heap) τ9 H9 s9 ->
          tn (i + 1) s9.heap /\ (∀ b ∈ fp, H9 b = none) /\ s9.heap.get? D = some { cls := .type "list", data := .seq us.toArray k } /\ H9 D = none := fun {τ9 H9 s9} I9 => by
        have pD := I9.pin (D, { cls := .type "list", data := .seq us.toArray k }) (List.mem_append_right _ (List.mem_append_left _ (List.mem_singleton.mpr rfl)))
        refine ⟨T.keep _ _ _ st7 fun b hb o e => (I9.pin (b, o) (List.mem_append_right _ (List.mem_append_right _ (zy hb e)))).1, fun b hb => ?_, pD.1, pD.2.1⟩
        obtain ⟨o, e, _⟩ := T.obj _ _ st7 b hb
        exact (I9.pin (b, o) (List.mem_append_right _ (List.mem_append_right _ (zy hb e)))).2.1
      have drop : ∀ {τ9 : St} {H9 : Hp} {s9 : Shared} {pl : List (Addr × Obj)}, Inv (blk X N' sc cl C s2 H2 fp (X.pn ++ Kp)) pl τ9 H9 s9 -> Inv (blk X N' sc cl C s2 H2 fp (X.pn ++ Kp)) [] τ9 H9 s9 := fun I9 => I9.pins_of fun p hp => nomatch hp
      refine thn (bT _ s8 τ8 H8 _ I8 q8) fun b s9 ⟨H9, I9, q9⟩ => ?_
      cases b with
      | false =>
        rw [if_neg Bool.false_ne_true] at q9 ⊢
        obtain ⟨m', hm, w9⟩ := q9
        obtain ⟨t9, f9, o9, d9⟩ := back I9
        exact ⟨m', hm, i + 1, τ8, ys, us, k, H9, drop I9, t9, f9, rv5, o9, d9, w9⟩
      | true =>
        rw [if_pos rfl] at q9 ⊢
        refine thn (bE _ s9 τ8 H9 _ I9 q9) fun y s10 ⟨z, H10, I10, r10, q10⟩ => ?_
        obtain ⟨m', hm, w10⟩ := q10
        obtain ⟨t10, f10, o10, d10⟩ := back I10
        have hl := rv5.length
        refine append_at (hsz := by show us.toArray.size <= sizeLine; rw [List.size_toArray, ← hl]; exact Nat.le_of_lt hsz) o10 fun h11 hs11 hD11 => ?_
        have I11 : Inv (blk X N' sc cl C s2 H2 fp (X.pn ++ Kp)) [] τ8 H10 { s10 with heap := h11, toks := s10.toks } := (drop I10).turned (it := D) (fun b o hb e => hs11.extBut b o hb e) d10 hDC (.inr hDge) (fun x c e => Nat.ne_of_lt (cellsLt x c (clm x c e)))
          (fun p hp => by have hp' : p ∈ X.pn ++ Kp := by simpa [blk] using hp
                          exact Nat.ne_of_lt (pinLt p hp'))
        refine ⟨m', hm, i + 1, τ8, ys ++ [z], us ++ [y], k + 1, H10, I11, T.keep _ _ _ t10 (fun b hb o e => hs11.extBut b o (Nat.ne_of_lt (fpLt b hb)) e), f10, rv5.append (.cons r10 .nil), ?_, d10, w10⟩
        rw [hD11]
        simp
  refine codeAny_compStart_list loop ?_
  exact T.self _ 0 _ _ _ (T.keep _ _ _ st2 (fun b _ o e => old b o e)) loop
theorem akN {K:Fg}{fi:Rho->Option (LP)}{cap:List (Option Nat)}{ga:PyData->Rho->Option Rho}{ft:Rho->Option Bool}{fe:RP}{σ:St}{H:Hp}{Q:VK} (h:tD K (ze fi cap ga ft fe) σ H Q):
  akc (tDI K fi) cap (tDG K ga) (tDT K ft) (tD K fe) σ H Q:=by
 obtain ⟨ρ,d,en,q,k⟩:=h
 cases h1:fi ρ with
 | none=>simp [ze,h1] at q
 | some ds=>
  by_cases hf:few ds=true
  ·cases h2:j0 ga ft fe ds (QK cap ρ) with
   | none=>simp [ze,h1,hf,h2] at q
   | some ys=>
    have:PyData.list ys=d:=by simpa [ze,h1,hf,h2] using q
    subst this
    refine ⟨ρ,ds,en,h1,fun J H1 s1 Y=>?_⟩
    refine ⟨fun i m τ us H2=>m=ds.length - i/\i<=ds.length/\jt H1 H2/\us.length<=i/\∃ ρ2 zs ws,EnvR K H2 ρ2 τ/\Reps K H2 zs us/\j0 ga ft fe (ds.drop i) ρ2=some ws/\ys=zs++ws,
     ⟨ds.length,by simp,Nat.zero_le _,jt.refl _,Nat.le_refl _,QK cap ρ,[],ys,(en.mono s1).cap cap,rfl,by simpa using h2,rfl⟩,?_⟩
    rintro i m τ us H2 ⟨rfl,hi',s2,hu,ρ2,zs,ws,en2,r2,q2,ey⟩
    have hsm:us.length<sizeLine:=Nat.lt_of_le_of_lt (Nat.le_trans hu hi') (Nat.lt_of_lt_of_le (by simpa [few] using hf) (by rw [sizeLine_eq]; decide:1000000<=sizeLine))
    obtain ⟨g1,g2,g3⟩:=Y i H2 (jt.a s2)
    refine ⟨hsm,?_⟩
    by_cases hlt:i<ds.length
    ·right
     have hd:ds.drop i=ds[i]::ds.drop (i+1):=List.drop_eq_getElem_cons hlt
     rw [hd] at q2
     refine ⟨g1 hlt,fun x H3 y=>?_⟩
     obtain ⟨s3,r3⟩:=g3 x H3 y
     have r3':=r3 ds[i] (by simp [hlt])
     cases h4:ga ds[i] ρ2 with
     | none=>simp [j0,h4] at q2
     | some ρ4=>
      refine ⟨ρ2,ds[i],ρ4,en2.mono s3,r3',h4,fun σ5 H5 s5 en5=>?_⟩
      cases h5:ft ρ4 with
      | none=>simp [j0,h4,h5] at q2
      | some b=>
       refine ⟨ρ4,b,en5,h5,fun H6 s6=>?_⟩
       have s26:=s3.trans (s5.trans s6)
       cases b with
       | false=>
        refine aqj ?_
        exact ⟨ds.length - (i+1),by omega,rfl,hlt,s2.trans s26,by omega,ρ4,zs,ws,en5.mono s6,Reps.mono s26 _ _ r2,by simpa [j0,h4,h5] using q2,ey⟩
       | true=>
        refine aqk ?_
        cases h6:fe ρ4 with
        | none=>simp [j0,h4,h5,h6] at q2
        | some y=>
         cases h7:j0 ga ft fe (ds.drop (i+1)) ρ4 with
         | none=>simp [j0,h4,h5,h6,h7] at q2
         | some ws'=>
          have hw:y::ws'=ws:=by simpa [j0,h4,h5,h6,h7] using q2
          refine ⟨ρ4,y,en5.mono s6,h6,fun v H7 s7 r7=>?_⟩
          refine ⟨ds.length - (i+1),by omega,rfl,hlt,s2.trans (s26.trans s7),by rw [List.length_append]; simp; omega,ρ4,zs++[y],ws',(en5.mono s6).mono s7,(Reps.mono (s26.trans s7) _ _ r2).append ⟨v,[],rfl,r7,rfl⟩,h7,?_⟩
          rw [ey,←hw]; simp
    ·left
     have he:i=ds.length:=by omega
     have hn:ds.drop i=[]:=by rw [he]; simp
     rw [hn] at q2
     have hw:[]=ws:=by simpa [j0] using q2
     subst hw
     have ey':ys=zs:=by simpa using ey
     subst ey'
     exact ⟨g2 (by omega),fun l hl=>k _ _ (s1.trans (s2.trans (jx hl))) ⟨l,us,rfl,jq,Reps.mono (jx hl) _ _ r2⟩⟩
  ·simp [ze,h1,hf] at q
section
variable {X:Cx}{tg src:Expr}{pos pos':Pos}
end
structure Mine (X:Cx) (H:Hp) (b:Addr):Prop where
 un:H b=none
 new:X.s₀.heap.get? b=none
 loc:b ≠ X.env.locals
 cel:∀ x c,X.env.cells.lookup x=some c->c ≠ b
 pin:∀ p ∈ X.pn,p.1 ≠ b
structure Xc (X:Cx) (H:Hp) (h:Heap) (e C:Addr):Prop where
 mine:Mine X H e
 ob:∃ oe vs,h.get? e=some oe/\(oe.cls= .ref C/\oe.dict=none)/\oe.data= .fields vs/\1<vs.size/\
  (vs[1]?=some .none ∨ ∃ T oT ts,vs[1]?=some (.ref T)/\T ≠ e/\Mine X H T/\h.get? T=some oT/\oT.data= .fields ts/\3<ts.size)
theorem Inv.exIn {X:Cx}{Kp:List (Addr × Obj)}{σ:St}{H:Hp}{s:Shared}{ch:List Addr} (I:Inv X Kp σ H s) (hn:∀ b ∈ ch,X.s₀.heap.get? b=none/\b ≠ X.env.locals/\∀ x c,X.env.cells.lookup x=some c->c ≠ b):Inv { X with ex:=ch++X.ex } Kp σ H s:=by
 have no:∀ b,b ∉ ch++X.ex->b ∉ X.ex:=fun b h z=>h (List.mem_append_right _ z)
 refine ⟨⟨I.ok.mod,I.ok.kind,I.ok.glob,I.ok.blt,I.ok.above,I.ok.inj,I.ok.has,I.ok.cab,I.ok.hd,I.ok.frames,I.ok.stk,fun b hb=>?_,I.ok.bs,I.ok.bsz,fun b o e hb=>?_,fun b hb z=>?_,I.ok.funs,I.ok.frf⟩,I.os,I.bare,
  ⟨fun b o e n hf hx=>I.base.keep b o e n hf (no b hx),fun b o e n hf hx=>I.base.slot b o e n hf (no b hx),fun b o e n hx=>I.base.free b o e n (no b hx),fun b o e hx=>I.base.there b o e (no b hx),I.base.tups,I.base.frzs,I.base.tbls⟩,I.loc,I.cell,I.free,I.freeC,I.pin,I.hok,I.len⟩
 ·rcases List.mem_append.mp hb with q | q
  ·exact (hn b q).2
  ·exact I.ok.exf b q
 ·rcases List.mem_append.mp hb with q | q
  ·have:=(I.ok.bs b o e).1
   rw [(hn b q).1] at this; cases this
  ·exact I.ok.noex b o e q
 ·rcases List.mem_append.mp hb with q | q
  ·obtain ⟨_,o,ho,_⟩:=I.ok.funs.mem z
   rw [(hn b q).1] at ho; cases ho
  ·exact I.ok.exfs b q z
theorem Inv.exOut {X:Cx}{Kp:List (Addr × Obj)}{σ:St}{H:Hp}{s:Shared}{ch:List Addr} (I:Inv { X with ex:=ch++X.ex } Kp σ H s) (ok:X.Ok) (hn:∀ b ∈ ch,X.s₀.heap.get? b=none):Inv X Kp σ H s:=by
 have no:∀ b o,X.s₀.heap.get? b=some o->b ∉ X.ex->b ∉ ch++X.ex:=fun b o e h z=>by
  rcases List.mem_append.mp z with q | q
  ·rw [hn b q] at e; cases e
  ·exact h q
 exact ⟨ok,I.os,I.bare,⟨fun b o e n hf hx=>I.base.keep b o e n hf (no b o e hx),fun b o e n hf hx=>I.base.slot b o e n hf (no b o e hx),fun b o e n hx=>I.base.free b o e n (no b o e hx),fun b o e hx=>I.base.there b o e (no b o e hx),I.base.tups,I.base.frzs,I.base.tbls⟩,I.loc,I.cell,I.free,I.freeC,I.pin,I.hok,I.len⟩
section
variable {X:Cx}{σ:St}{H:Hp}{s:Shared}{h':Heap}{e C:Addr}{E:Value->SP0}{A:Around}
theorem Inv.shake {ch:List Addr} (I:Inv X [] σ H s) (hm:∀ b ∈ ch,Mine X H b) (keep:∀ b o,b ∉ frs X.stack->b ∉ ch->s.heap.get? b=some o->h'.get? b=some o)
  (slot:∀ b o,b ∈ frs X.stack->b ∉ ch->s.heap.get? b=some o->∃ sl,h'.get? b=some { o with slots:=sl }):Inv X [] σ H { s with heap:=h' }:=by
 have u:Un (frs X.stack) ch H H s.heap h':=⟨fun b o q _ nf nc=>keep b o nf nc q,fun b o q _ hf nc=>slot b o hf nc q,fun _ _ _ n _=>n,fun b o q nc=>by
  by_cases hf:b ∈ frs X.stack
  ·obtain ⟨sl,z⟩:=slot b o hf nc q; exact ⟨_,z⟩
  ·exact ⟨o,keep b o hf nc q⟩,fun _ _ q=>q,fun _ _ _ q=>q,fun _ ps q=>⟨#[],by rw [q]; simp⟩⟩
 have hok:HOk X.prog X.w H h':=fun b o q=>(I.hok b o q).stay (fun c v hc r=>by
  have hb:H c ≠ none:=by
   rcases hc with rfl | hc
   ·rw [q]; exact fun z=>nomatch z
   ·rw [hc]; exact fun z=>nomatch z
  exact keep c v (fun z=>hb (I.stkFree c z)) (fun z=>hb (hm c z).un) r) (fun _ r=>r) fun _ _ r=>r
 exact Inv.exOut (Inv.call (X:={ X with ex:=ch++X.ex }) (g':=s.gens) (d':=s.drawn) (t':=s.toks) (Inv.exIn I fun b hb=>⟨(hm b hb).new,(hm b hb).loc,(hm b hb).cel⟩) u hok I.bare fun b hb=>⟨.inl (List.mem_append_left _ hb),(hm b hb).loc,(hm b hb).cel,fun p hp=>(hm b hb).pin p (by simpa using hp)⟩) I.ok fun b hb=>(hm b hb).new
structure XcT (X:Cx) (H:Hp) (h:Heap) (e C:Addr):Prop where
 mine:Mine X H e
 ob:∃ oe vs T oT ts,h.get? e=some oe/\(oe.cls= .ref C/\oe.dict=none)/\oe.data= .fields vs/\vs[1]?=some (.ref T)/\T ≠ e/\Mine X H T/\h.get? T=some oT/\oT.data= .fields ts/\3<ts.size
theorem XcT.c {h:Heap} (x:XcT X H h e C):Xc X H h e C:=by
 obtain ⟨oe,vs,T,oT,ts,h1,h2,h3,h4,h5,h6,h7,h8,h9⟩:=x.ob
 exact ⟨x.mine,oe,vs,h1,h2,h3,(Array.getElem?_eq_some_iff.mp h4).1,.inr ⟨T,oT,ts,h4,h5,h6,h7,h8,h9⟩⟩
structure Top0 (X:Cx):Prop where
 st:X.stack=X.env::X.Ko
 fr:X.env.frame=some X.env.locals
 ex:X.ex=[]
theorem Mine.nofr {b:Addr} (m:Mine X H b) (I:Inv X [] σ H s):b ∉ frs X.stack:=fun z=>by
 rcases List.mem_cons.mp (I.stkSub b z) with q | q
 ·exact m.loc q
 ·obtain ⟨_,o,ho,_⟩:=I.ok.funs.mem q
  rw [m.new] at ho; cases ho
theorem am5 {P:Program}{w:World}{h:Heap}{b:Addr}{u:HO} (hok:HOk P w H h) (hH:H b=some u) (hb:h.get? b=none):False:=by
 have x:=hok b u hH
 have no:∀ {o:Obj},h.get? b=some o->False:=fun {o} q=>by rw [hb] at q; cases q
 cases u with
 | lst xs=>obtain ⟨_,_,_,_,e⟩:=x; exact no e
 | tup xs=>obtain ⟨_,_,_,⟨_,e,_⟩⟩:=x; exact no e
 | dK kvs=>obtain ⟨_,_,_,_,o,_,_,e,_⟩:=x; exact no e
 | dT kvs=>obtain ⟨_,_,_,_,o,_,_,e,_⟩:=x; exact no e
 | set S n=>obtain ⟨o,_,_,_,e,_⟩:=x; exact no e
 | ins C dx fs=>obtain ⟨_,_,_,e,_⟩:=x; exact no e
 | own y=>obtain ⟨_,e⟩:=x; exact no e
 | xd fs=>obtain ⟨_,⟨_,_,_,e,_⟩,_⟩:=x; exact no e
 | rng lo hi=>obtain ⟨_,_,_,e⟩:=x; exact no e
 | frz ob u=>obtain ⟨e,_⟩:=x; exact no e
 | tbl ps=>exact no (show h.get? b=some _ from x)
 | met f y=>exact no (show h.get? b=some _ from x)
 | ext φ=>obtain ⟨_,⟨_,e⟩,_⟩:=x; exact no e
theorem ab6 (hx:X.ex=[]) (I:Inv X [] σ H s) {b:Addr} (hb:s.heap.get? b=none):Mine X H b:=by
 have no:∀ {o:Obj},s.heap.get? b=some o->False:=fun {o} q=>by rw [hb] at q; cases q
 refine ⟨?_,?_,fun z=>?_,fun x c q z=>?_,fun p hp z=>?_⟩
 ·cases hH:H b with
  | none=>rfl
  | some u=>exact (am5 I.hok hH hb).elim
 ·cases h0:X.s₀.heap.get? b with
  | none=>rfl
  | some o=>
   obtain ⟨o',q⟩:=I.base.there b o h0 (by rw [hx]; simp)
   exact (no q).elim
 ·subst z
  obtain ⟨m,⟨o,_,_,ho,_⟩,_⟩:=I.loc
  exact no ho
 ·obtain ⟨v,o,ho,_⟩:=I.cell x c q
  subst z
  exact no ho
 ·have:=(I.pin p (List.mem_append_left _ hp)).1
  rw [z] at this
  exact no this
theorem afl {oe:Obj}{vs:Array Value}{head:Value}{hadNext:Bool} (T0:Top0 X) (hA:A.frames=some X.stack) (I:Inv X [] σ H s) (me:Mine X H e) (he:s.heap.get? e=some oe) (hc:oe.cls= .ref C/\oe.dict=none) (hd:oe.data= .fields vs) (hsz:1<vs.size):
  wpAny (model X.prog X.w) A (do let a ←frameOf X.env; let pl ←entryPlaceOf X.env.locals hadNext; let b ←EntryCells.newEntry head a .none (rawInt X.env.locals) .none pl; setField (.ref e) 1 b) (fun _ s'=>Inv X [] σ H s'/\XcT X H s'.heap e C) E s:=by
 have hst:=T0.st
 have hfn:=I.stack
 rw [hst] at hfn hA
 have hene:e ∉ (X.env::X.Ko).filterMap (·.frame):=by
  have:=me.nofr I
  rw [hst] at this; exact this
 refine wpAny_bind (wpAny_frameOf_fun hA hfn T0.fr fun h₁ hs₁=>?_)
 refine wpAny_bind (wpAny_entryPlaceOf fun pl hpl=>?_)
 unfold EntryCells.newEntry newFields
 refine wpAny_bind (wpAny_newObj_type ?_ (hpl.sizeOk5 _ _ _ _ _))
 have he₁:h₁.get? e=some oe:=(hs₁.2.1 e hene).trans he
 generalize hob:({ cls:= .type "traceback",dict:=none,data:= .fields ([head,Value.ref X.env.locals,.none,rawInt X.env.locals,.none]++(if pl.isEmpty then List.replicate 6 Value.none else pl)).toArray }:Obj)=ob
 have obd:ob.data= .fields ([head,Value.ref X.env.locals,.none,rawInt X.env.locals,.none]++(if pl.isEmpty then List.replicate 6 Value.none else pl)).toArray:=by rw [←hob]
 have obf:ob.isFreed=false:=by rw [←hob]; rfl
 have he₂:(h₁.push ob).get? e=some oe:=Heap.get?_push_of_some ob he₁
 refine wpAny_setField he₂ hd hsz ?_
 have hTe:h₁.objs.size ≠ e:=Nat.ne_of_gt (Heap.lt_size he₁)
 have hd₃:=Obj.data_mapFields hd (·.setIfInBounds 1 (Value.ref h₁.objs.size))
 have he₃:=Heap.get?_update_self (Obj.mapFields (·.setIfInBounds 1 (Value.ref h₁.objs.size))) he₂ (Obj.isFreed_of_fields hd₃)
 have hT₃:((h₁.push ob).update e (Obj.mapFields (·.setIfInBounds 1 (Value.ref h₁.objs.size)))).get? h₁.objs.size=some ob:=(Heap.get?_update_other _ _ (Ne.symm hTe)).trans (Heap.get?_push_size h₁ obf)
 have keep:∀ b o,b ≠ e->h₁.get? b=some o->((h₁.push ob).update e (Obj.mapFields (·.setIfInBounds 1 (Value.ref h₁.objs.size)))).get? b=some o:=fun b o hb q=>by
  rw [Heap.get?_update_other _ _ (Ne.symm hb)]
  exact Heap.get?_push_of_some _ q
 have hfr:frs X.stack=(X.env::X.Ko).filterMap (·.frame):=by rw [hst]; rfl
 have sz:h₁.objs.size=s.heap.objs.size:=hs₁.1
 have J:Inv X [] σ H { s with heap:=(h₁.push ob).update e (Obj.mapFields (·.setIfInBounds 1 (Value.ref h₁.objs.size))) }:=by
  refine Inv.shake (s:=s) (ch:=[e]) I (fun b hb=>by rw [List.mem_singleton.mp hb]; exact me) (fun b o nf nc q=>keep b o (fun z=>nc (by simp [z])) ((hs₁.2.1 b (by rw [←hfr]; exact nf)).trans q)) (fun b o _ nc q=>?_)
  obtain ⟨sl,z⟩:=hs₁.2.2 b o q
  exact ⟨sl,keep b _ (fun w=>nc (by simp [w])) z⟩
 refine ⟨J,me,_,_,h₁.objs.size,ob,_,he₃,?_,hd₃,by simp [hsz],hTe,?_,hT₃,obd,?_⟩
 ·rw [Obj.cls_mapFields]; exact ⟨hc.1,by unfold Obj.mapFields; split <;> exact hc.2⟩
 ·exact ab6 T0.ex I (Heap.get?_none_of_le (by rw [sz]; exact Nat.le_refl _))
 ·simp only [List.size_toArray,List.length_append,List.length_cons,List.length_nil]; omega
theorem am6 (T0:Top0 X) (hA:A.frames=some X.stack) (I:Inv X [] σ H s) (x:Xc X H s.heap e C):wpAny (model X.prog X.w) A (noteFrame (.ref e) X.env) (fun _ s'=>Inv X [] σ H s'/\XcT X H s'.heap e C) E s:=by
 obtain ⟨oe,vs,he,hc,hd,hsz,hT⟩:=x.ob
 unfold noteFrame
 simp only [T0.fr]
 rcases hT with h1 | ⟨T,oT,ts,h1,hTe,mT,hT,hdT,h3⟩
 ·refine wpAny_bind (wpAny_field he hd h1 ?_)
  rw [if_neg (by decide)]
  exact afl T0 hA I x.mine he hc hd hsz
 ·refine wpAny_bind (wpAny_field he hd h1 ?_)
  rw [if_pos (show (Value.ref T != Value.none)=true from by simp)]
  refine wpAny_bind (wpAny_field hT hdT (x:=ts[3]) (by simp [h3]) ?_)
  by_cases hq:(ts[3] == rawInt X.env.locals)=true
  ·rw [if_pos hq]
   exact wpAny_pure ⟨I,x.mine,oe,vs,T,oT,ts,he,hc,hd,h1,hTe,mT,hT,hdT,h3⟩
  ·rw [if_neg hq]
   refine wpAny_bind (wpAny_setField hT hdT h3 ?_)
   have other:∀ b,b ≠ T->(s.heap.update T (Obj.mapFields (·.setIfInBounds 3 Value.none))).get? b=s.heap.get? b:=fun b hb=>Heap.get?_update_other _ _ (Ne.symm hb)
   have J:Inv X [] σ H { s with heap:=s.heap.update T (Obj.mapFields (·.setIfInBounds 3 Value.none)) }:=
    Inv.shake (s:=s) (ch:=[T]) I (fun b hb=>by rw [List.mem_singleton.mp hb]; exact mT) (fun b o _ nc q=>(other b fun z=>nc (by simp [z])).trans q) fun b o _ nc q=>⟨o.slots,(other b fun z=>nc (by simp [z])).trans q⟩
   exact afl (s:={ s with heap:=s.heap.update T (Obj.mapFields (·.setIfInBounds 3 Value.none)) }) T0 hA J x.mine ((other e (Ne.symm hTe)).trans he) hc hd hsz
theorem ado (fl:Option Addr) (I:Inv X [] σ H s) (x:XcT X H s.heap e C):wpAny (model X.prog X.w) A (setFlight (.ref e) fl) (fun _ s'=>Inv X [] σ H s'/\XcT X H s'.heap e C) E s:=by
 obtain ⟨oe,vs,T,oT,ts,he,hc,hd,h1,hTe,mT,hT,hdT,h3⟩:=x.ob
 unfold setFlight
 refine wpAny_bind (wpAny_field he hd h1 ?_)
 rw [if_pos (show (Value.ref T != Value.none)=true from by simp)]
 refine wpAny_setField hT hdT h3 ?_
 have other:∀ b,b ≠ T->(s.heap.update T (Obj.mapFields (·.setIfInBounds 3 (fl.elim Value.none fun f=>rawInt f)))).get? b=s.heap.get? b:=fun b hb=>Heap.get?_update_other _ _ (Ne.symm hb)
 have J:Inv X [] σ H { s with heap:=s.heap.update T (Obj.mapFields (·.setIfInBounds 3 (fl.elim Value.none fun f=>rawInt f))) }:=
  Inv.shake (s:=s) (ch:=[T]) I (fun b hb=>by rw [List.mem_singleton.mp hb]; exact mT) (fun b o _ nc q=>(other b fun z=>nc (by simp [z])).trans q) fun b o _ nc q=>⟨o.slots,(other b fun z=>nc (by simp [z])).trans q⟩
 exact ⟨J,x.mine,oe,vs,T,_,_,(other e (Ne.symm hTe)).trans he,hc,hd,h1,hTe,mT,Heap.get?_update_self _ hT (Obj.isFreed_of_fields (Obj.data_mapFields hdT _)),Obj.data_mapFields hdT _,by simpa using h3⟩
theorem art {P:Value->SP0} (T0:Top0 X) (hA:A.frames=some X.stack) (hP:∀ e s,P e s->∃ a C σ H,e= .ref a/\Inv X [] σ H s/\Xc X H s.heap a C/\∀ s',Inv X [] σ H s'->XcT X H s'.heap a C->P e s'):PassesOwn (model X.prog X.w) A X.env P:=fun ev s' h=>by
 obtain ⟨a,C,σ,H,rfl,I,x,back⟩:=hP ev s' h
 refine wpAny_mono (am6 (E:=fun _ _=>False) T0 hA I x) (fun _ s2 ⟨I2,x2⟩=>?_) fun _ _ z=>z.elim
 obtain ⟨oe,vs,T,oT,ts,he,hc,hd,h1,r⟩:=id x2.ob
 unfold cameBackBy
 refine wpAny_bind (wpAny_field he hd h1 ?_)
 rw [if_neg (by simp)]
 first
  | exact wpAny_mono (ado (E:=fun _ _=>False) _ I2 x2) (fun _ s3 ⟨I3,x3⟩=>back s3 I3 x3) fun _ _ z=>z.elim
  | exact wpAny_bind (wpAny_pure (wpAny_mono (ado (E:=fun _ _=>False) _ I2 x2) (fun _ s3 ⟨I3,x3⟩=>back s3 I3 x3) fun _ _ z=>z.elim))
end
structure XcO (h0:Heap) (H:Hp) (h:Heap) (e C:Addr):Prop where
 un:H e=none
 new:h0.get? e=none
 ob:∃ oe vs T oT ts,h.get? e=some oe/\(oe.cls= .ref C/\oe.dict=none)/\oe.data= .fields vs/\vs[1]?=some (.ref T)/\T ≠ e/\H T=none/\h0.get? T=none/\h.get? T=some oT/\oT.data= .fields ts/\3<ts.size
noncomputable def CXt (P:Program) (w:World):CXT:=fun Ko H s E ev s'=>∃ e C H',ev= .ref e/\s'.os=s.os/\AllBare s'.gens/\Un (frs Ko) [] H H' s.heap s'.heap/\HOk P w H' s'.heap/\XcO s.heap H' s'.heap e C/\E (.ref C) none H'
section
variable {X:Cx}
theorem Xc.of (hx:X.ex=[]) {Kp:List (Addr × Obj)}{σ:St}{H H':Hp}{s s':Shared}{e0 C:Addr} (I:Inv X Kp σ H s) (x:XcO s.heap H' s'.heap e0 C):Xc X H' s'.heap e0 C:=by
 have J:Inv X [] σ H s:=I.pins_of fun p hp=>nomatch hp
 obtain ⟨oe,ws,T,oT,ts,h1,h2,h3,h4,h5,h6,h7,h8,h9,h10⟩:=x.ob
 have m1:=ab6 hx J x.new
 have m2:=ab6 hx J h7
 exact ⟨⟨x.un,m1.new,m1.loc,m1.cel,m1.pin⟩,oe,ws,h1,h2,h3,(Array.getElem?_eq_some_iff.mp h4).1,.inr ⟨T,oT,ts,h4,h5,⟨h6,m2.new,m2.loc,m2.cel,m2.pin⟩,h8,h9,h10⟩⟩
end
noncomputable def Thr (X:Cx) (H:Hp) (c:Str) (ev:Value) (s':Shared):Prop:=∃ e C σ' H',ev= .ref e/\X.mg c=some (.ref C)/\Inv X [] σ' H' s'/\jt H H'/\Xc X H' s'.heap e C
theorem Thr.mono {X:Cx}{H H1:Hp}{c:Str}{ev:Value}{s':Shared} (s:jt H H1) (h:Thr X H1 c ev s'):Thr X H c ev s':=by
 obtain ⟨e,C,σ',H',h1,h2,h3,h4,h5⟩:=h
 exact ⟨e,C,σ',H',h1,h2,h3,s.trans h4,h5⟩
@[irreducible] noncomputable def aru (X:Cx) (sts:List Stmt) (fx:Rho->Option Str):Prop:=∀ (s:Shared) (σ:St) (H:Hp) (ρ:Rho) (c:Str),Inv X [] σ H s->EnvR X.K H ρ σ->fx ρ=some c->(∀ ev s',Thr X H c ev s'->X.xe ev s')->wpAny (model X.prog X.w) X.A (execs sts X.env) (fun _ _=>False) X.xe s
noncomputable def vB:List Value:=[.type "ValueError",.type "Exception",.type "BaseException",.type "object"]
section
variable {X:Cx}{e a b c:Expr}{es:List Expr}{st:Stmt}{sts qh:List Stmt}{fx gx:Rho->Option Str}{F:RO}{pos:Pos}
noncomputable def nxX (F:RO) (gx:Rho->Option Str):Rho->Option Str:=fun ρ=>(F ρ).bind fun o=>match o with
 | .nx ρ'=>gx ρ'
 | _=>none
noncomputable def ifX (tc:Rho->Option Bool) (fx gx:Rho->Option Str):Rho->Option Str:=fun ρ=>(tc ρ).bind fun x=>if x=true then fx ρ else gx ρ
noncomputable def akO:Rho->Option Str:=fun _=>none
end
noncomputable def arv (K:Fg) (mg:SV) (n:Nat) (gx:LP->Option Str):Sp:=fun vs H _ E=>∃ ds c,ds.length=n/\Reps K H ds vs/\gx ds=some c/\∀ C H',mg c=some (.ref C)->jt H H'->E (.ref C) none H'
noncomputable def arG (P:Program) (w:World) (K:Fg) (mg:SV) (base:Heap) (x:Str) (ps:List Str) (k n:Nat) (gx:LP->Option Str):Prop:=
 ∃ (f:Addr) (fd:FuncData),FnOk P w K mg base (CXt P w) k f fd ps (arv K mg n gx)/\mg x=some (.ref f)/\PySem.W.keepIn K (.ref f)=true/\ZN K fd ps []
section
variable {X:Cx}{e a b c:Expr}{es:List Expr}{st:Stmt}{sts qh:List Stmt}{fx gx:Rho->Option Str}{F:RO}{pos:Pos}
end
section
variable {P:Program}{w:World}{K:Fg}{mg:SV}{base:Heap}
end
theorem Mine.unwish {X:Cx}{E:Value->SP0}{H:Hp}{b:Addr} (m:Mine (X.wish E) H b):Mine X H b:=⟨m.un,m.new,m.loc,m.cel,m.pin⟩
theorem Xc.unwish {X:Cx}{E:Value->SP0}{H:Hp}{h:Heap}{e C:Addr} (x:Xc (X.wish E) H h e C):Xc X H h e C:=by
 obtain ⟨oe,vs,h1,h2,h3,h4,h5⟩:=x.ob
 refine ⟨x.mine.unwish,oe,vs,h1,h2,h3,h4,?_⟩
 rcases h5 with q | ⟨T,oT,ts,q1,q2,q3,q4⟩
 ·exact .inl q
 ·exact .inr ⟨T,oT,ts,q1,q2,q3.unwish,q4⟩
section
variable {X:Cx}{st:Stmt}{sts qh tb hb:List Stmt}{F G:RO}{pos:Pos}
end
section
variable {X:Cx}{st b0:Stmt}{sts qh tb hb:List Stmt}{F G:RO}{fx:Rho->Option Str}{pos:Pos}
end
section
variable {P:Program}{w:World}{K:Fg}{mg:SV}{base:Heap}
end
theorem Z2 {t sl:Addr}{items:Array Value}{vl vu:Value}{lo hi:Option Int}{Q:Value->SP0} (ht:IsTup s.heap t items) (hs:s.heap.IsSliceOf sl vl vu .none) (pl:IsPart vl lo) (pu:IsPart vu hi)
  (hw:HT.sIx items.size 0 lo=0/\HT.sIx items.size items.size hi=items.size) (h:Q (.ref t) s):wpAny (model prog w) A (getItem (.ref t) (.ref sl)) Q E s:=by
 obtain ⟨os,hos,hcs,hds⟩:=id hs
 have hTs:s.TypeIs (.ref sl) "slice":=⟨os,hos,hcs⟩
 unfold getItem
 first | (with_reducible refine wpAny_holding ?_) | skip
 first | refine wpAny_bind (wpAny_pure ?_) | skip
 refine wpAny_bind (wpAny_sequenceKey ht.typeIs (by decide) ?_)
 refine wpAny_bind (wpAny_callSpecial?_slot (name:=Str.ofString "__getitem__") ht.typeIs PyProof.Rows.slot_tuple_getitem (wpAny_call_entry PyProof.Rows.slot_tuple_getitem ht.typeIs entry_tuple_getitem ?_ (args_tuple_getitem _ _)))
 show wpAny _ _ (Builtin.Tuple.tupleItemsOf (.ref t) >>= _) _ _ s
 refine wpAny_bind (tupleItemsOf_ ht (wpAny_bind (wpAny_typeOf hTs ?_)))
 rw [if_pos (show (Value.type "slice" == Value.type "slice")=true by decide)]
 refine wpAny_bind (HT.sliceApplied_gen hs pl pu ?_)
 rw [hw.1,hw.2]
 have hyes:((((0:Nat):Int) == 0 && (1:Int) == 1 && (items.size - 0) == items.size)=true):=by simp
 show wpAny _ _ (if ((((0:Nat):Int) == 0 && (1:Int) == 1 && (items.size - 0) == items.size)=true) then _ else _) _ _ s
 rw [if_pos hyes]
 obtain ⟨o,ho,hc,hd⟩:=id ht
 have hT:s.TypeIs (.ref t) "tuple":=⟨o,ho,hc⟩
 have ex:∀ {R:Bool->SP0} {A':Around} {E':Value->SP0},R true s->wpAny (model prog w) A' (Builtin.Tuple.tupleIsExact (.ref t)) R E' s:=fun {R A' E'} hR=>by
  unfold Builtin.Tuple.tupleIsExact
  first
   | exact wpAny_bind (wpAny_typeOf hT (wpAny_pure hR))
   | (wp_walk; exact hR)
 first
  | exact wpAny_bind (ex (wpAny_bind (wpAny_rule (wpAny_pure ⟨_,rfl,wpAny_pure h⟩))))
  | exact wpAny_bind (ex (by rw [if_pos rfl]; exact wpAny_bind (wpAny_rule (wpAny_pure ⟨_,rfl,wpAny_pure h⟩))))
  | (refine wpAny_bind (ex ?_); wp_walk; exact ⟨_,rfl,wpAny_pure h⟩)
  | (refine wpAny_bind (wpAny_bind (ex ?_)); wp_walk; exact ⟨_,rfl,wpAny_pure h⟩)
section
variable {X:Cx}{e a b c:Expr}{fa fb fc:RP}{pos p2:Pos}
noncomputable def aqF (K:Fg):V->Option Int->Option Int->Hp->VK->Prop:=fun x lo hi H Q=>∃ a xs,x= .ref a/\SqT K H a xs/\(HT.sIx xs.length 0 lo=0/\HT.sIx xs.length xs.length hi=xs.length)/\Q (.ref a) H
theorem afm:SlR X (aqF X.K):=by
 intro Kp s σ H x v vl vu lo hi sl Q I rx hs pl pu h
 obtain ⟨a,xs,rfl,hx,hw,q⟩:=h
 cases rx
 obtain ⟨its,r,ht,hz⟩:=I.tuple hx
 have hlen:its.toArray.size=xs.length:=by rw [List.size_toArray]; exact r.length.symm
 exact ⟨"tuple",_,PyProof.Rows.slot_tuple_getitem.lookup,ht.typeIs,Z2 ht hs pl pu (by rw [hlen]; exact hw) ⟨.ref a,H,I,rfl,q⟩⟩
noncomputable def acS (p:PyData) (lo hi:Option Int):OP:=match p with
 | .tuple ds=>some (.tuple (Z0 ds lo hi))
 | _=>none
theorem akP {K:Fg}{p d:PyData}{lo hi:Option Int}{x:V}{H:Hp}{Q:VK} (h:acS p lo hi=some d) (r:Rep K H p x) (k:∀ v H',jt H H'->Rep K H' d v->Q v H'):aqf K x lo hi H Q ∨ aqF K x lo hi H Q:=by
 unfold acS at h
 split at h
 ·rename_i ds
  cases h
  obtain ⟨a,xs,e1,e2,e3⟩:=r
  have hl:=e3.length
  have rr:Reps K H (Z0 ds lo hi) (ZO xs lo hi):=by
   unfold ZO Z0
   rw [hl]
   exact (e3.drop _).take _
  by_cases hw:HT.sIx xs.length 0 lo=0/\HT.sIx xs.length xs.length hi=xs.length
  ·refine .inr ⟨a,xs,e1,e2,hw,k _ H (jt.refl H) ⟨a,xs,rfl,e2,?_⟩⟩
   have ex:ZO xs lo hi=xs:=by unfold ZO; rw [hw.1,hw.2]; simp
   rw [ex] at rr
   exact rr
  ·refine .inl ⟨a,xs,e1,e2,hw,fun q hq=>?_⟩
   have s1:=jx (o:= .tup (ZO xs lo hi)) hq
   exact k _ _ s1 ⟨q,_,rfl,SqT.of jq,Reps.mono s1 _ _ rr⟩
 ·cases h
noncomputable def adp (fa fb:RP):RP:=fun ρ=>(fa ρ).bind fun p=>(fb ρ).bind fun q=>(inI q).bind fun i=>acS p none (some i)
theorem akQ (ha:PD X a fa) (hb:PD X b fb):PD X (.Subscript a (.Slice none (some b) none p2) pos) (adp fa fb):=by
 with_unfolding_all
  refine PE.imp (abG (aj1.or afm) ha adX (adY hb)) fun σ H Q ⟨ρ,d,en,q,k⟩=>?_
  cases h1:fa ρ with
  | none=>simp [adp,h1] at q
  | some y=>
   cases h2:fb ρ with
   | none=>simp [adp,h1,h2] at q
   | some z=>
    cases h3:inI z with
    | none=>simp [adp,h1,h2,h3] at q
    | some i=>
     have q':acS y none (some i)=some d:=by simpa [adp,h1,h2,h3] using q
     have hz:=ab1 h3
     subst hz
     refine ⟨ρ,y,en,h1,fun v H1 s1 r1=>⟨ρ,_,en.mono s1,h2,fun u H2 s2 r2=>?_⟩⟩
     cases (show u=_ from r2)
     exact ⟨i,rfl,akP q' (Rep.mono s2 _ _ r1) fun v H' s r=>k v H' (s1.trans (s2.trans s)) r⟩
noncomputable def Qs (fa fb:RP):RP:=fun ρ=>(fa ρ).bind fun p=>(fb ρ).bind fun q=>(inI q).bind fun i=>acS p (some i) none
theorem ab7 (ha:PD X a fa) (hb:PD X b fb):PD X (.Subscript a (.Slice (some b) none none p2) pos) (Qs fa fb):=by
 with_unfolding_all
  refine PE.imp (abG (aj1.or afm) ha (adY hb) adX) fun σ H Q ⟨ρ,d,en,q,k⟩=>?_
  cases h1:fa ρ with
  | none=>simp [Qs,h1] at q
  | some y=>
   cases h2:fb ρ with
   | none=>simp [Qs,h1,h2] at q
   | some z=>
    cases h3:inI z with
    | none=>simp [Qs,h1,h2,h3] at q
    | some i=>
     have q':acS y (some i) none=some d:=by simpa [Qs,h1,h2,h3] using q
     have hz:=ab1 h3
     subst hz
     refine ⟨ρ,y,en,h1,fun v H1 s1 r1=>⟨ρ,_,en.mono s1,h2,fun u H2 s2 r2=>?_⟩⟩
     cases (show u=_ from r2)
     exact ⟨i,rfl,akP q' (Rep.mono s2 _ _ r1) fun v H' s r=>k v H' (s1.trans (s2.trans s)) r⟩
end
section
variable {X:Cx}
theorem akR {K:Fg}{T:String} (hT:T="list") (d:PyData):PySem.W.kitOne K (.type (tyn d)) (.type T)=some (Jt T d):=by
 subst hT
 cases d <;> first | rfl | (rename_i kvs; by_cases h:zw kvs=true <;> simp only [tyn,Jt,h] <;> rfl)
theorem am7 {a:Expr}{fa:RP}{T:Str}{Tn:String}{p p2 pos:Pos} (hT:Tn="list") (hm1:X.mg "isinstance"=none) (hm2:X.mg T=none) (hv:bootBuiltins T=some (.type Tn)) (ha:PD X a fa)
  (hg1:Gl X "isinstance":=by rfl) (hg2:Gl X T:=by rfl) (hn:T ≠ "__name__":=by decide) (hd:(T == ("__debug__":Str))=false:=by decide)
  (he:starEach [a,.Name T p2] X.env=[(false,eval a X.env),(false,eval (.Name T p2) X.env)]:=by rfl) (he2:starEach [.Name T p2] X.env=[(false,eval (.Name T p2) X.env)]:=by rfl) (hpl:(backTo pos (starEach [.Name T p2] X.env)).any (·.1)=false:=by rfl):
  PD X (.Call (.Name "isinstance" p) [a,.Name T p2] [] pos) (fun ρ=>(fa ρ).bind fun d=>Zz Tn d):=by
 with_unfolding_all
  have hT2:PE X (.Name T p2) (tC (.ty Tn)):=aho hg2 hm2 hv rfl hn hd
  refine PE.imp (abC (ae6 (T:=Tn)) hg1 hm1 (by decide +kernel) (zF ha (zF hT2 QG (by rw [he2]; rfl)) (by rw [he,he2])) (by decide) (by decide) (by rw [he,he2]) hpl) fun σ H Q ⟨ρ,d,en,q,k⟩=>?_
  cases h1:fa ρ with
  | none=>simp [h1] at q
  | some c=>
   obtain ⟨hF,rfl⟩:=ae7 (show Zz Tn c=some d by simpa [h1] using q)
   exact ⟨ρ,c,en,h1,fun v H1 s1 r1=>⟨v,c,_,rfl,r1,hF,akR hT c,k _ H1 s1 rfl⟩⟩
end
section
variable {X:Cx}
end
section
variable {X:Cx}{e a b c:Expr}{fa fb fc:RP}{pos p2:Pos}
noncomputable def Z3 (fa fb:RP):RP:=fun ρ=>(fa ρ).bind fun p=>(fb ρ).bind fun q=>(inI q).bind fun i=>akL p none (some i)
theorem akS (ha:PD X a fa) (hb:PD X b fb):PD X (.Subscript a (.Slice none (some b) none p2) pos) (Z3 fa fb):=by
 with_unfolding_all
  refine PE.imp (abG amv ha adX (adY hb)) fun σ H Q ⟨ρ,d,en,q,k⟩=>?_
  cases h1:fa ρ with
  | none=>simp [Z3,h1] at q
  | some y=>
   cases h2:fb ρ with
   | none=>simp [Z3,h1,h2] at q
   | some z=>
    cases h3:inI z with
    | none=>simp [Z3,h1,h2,h3] at q
    | some i=>
     have q':akL y none (some i)=some d:=by simpa [Z3,h1,h2,h3] using q
     have hz:=ab1 h3
     subst hz
     refine ⟨ρ,y,en,h1,fun v H1 s1 r1=>⟨ρ,_,en.mono s1,h2,fun u H2 s2 r2=>?_⟩⟩
     cases (show u=_ from r2)
     unfold akL at q'
     split at q'
     ·rename_i ds
      cases q'
      obtain ⟨l,xs,e1,e2,e3⟩:=Rep.mono s2 _ _ r1
      have hl:=e3.length
      refine ⟨i,rfl,l,xs,e1,SqL.of e2,fun p hp=>?_⟩
      have s3:=jx (o:= .lst (ZO xs none (some i))) hp
      have rr:Reps X.K H2 (Z0 ds none (some i)) (ZO xs none (some i)):=by
       unfold ZO Z0
       rw [hl]
       exact (e3.drop _).take _
      exact k _ _ (s1.trans (s2.trans s3)) ⟨p,_,rfl,jq,Reps.mono s3 _ _ rr⟩
     ·cases q'
end
section
variable {X:Cx}
noncomputable def QX:Nat->LP->LP
 | _,[]=>[]
 | i,d::ds=> .tuple [.int (i:Int),d]::QX (i+1) ds
theorem adq:∀ (xs:LP) (k:Nat),(QX k xs).length=xs.length
 | [],_=>rfl
 | _::xs,k=>by simp [QX,adq xs]
theorem ads:∀ (xs:LP) (k i:Nat) (d:PyData),(QX k xs)[i]?=some d->∃ x,xs[i]?=some x/\d= .tuple [.int ((k+i:Nat):Int),x]
 | [],_,_,_,h=>by simp [QX] at h
 | x::xs,k,0,d,h=>by simp [QX] at h; exact ⟨x,rfl,h.symm⟩
 | x::xs,k,i+1,d,h=>by
  simp only [QX,zzB] at h
  obtain ⟨y,h1,h2⟩:=ads xs (k+1) i d h
  exact ⟨y,by simpa using h1,by rw [h2,show k+1+i=k+(i+1) by omega]⟩
end
section
variable {X:Cx}{e:Expr}{es:List Expr}{pos p:Pos}
noncomputable def an3 (x:Str):PyData->Bool
 | .dict [(.str y,.none)]=>decide (y=x)
 | _=>false
@[simp] theorem ao6 (x:Str):an3 x (fnD x)=true:=by simp [an3,fnD]
end
section
variable {X:Cx}{e a b c:Expr}{es:List Expr}{fa:RP}{fx gx:Rho->Option Str}{pos:Pos}
end
section
variable {X:Cx}{own:Option Nat}{e a b c tg src:Expr}{es:List Expr}{st:Stmt}{sts qh body:List Stmt}{fx gx:Rho->Option Str}{F:RO}{fa:RP}{pos:Pos}
theorem Thr.unwish {W:Value->SP0}{Hb Hs:Hp}{c:Str}{ev:Value}{s':Shared} (sb:∀ H3,jt Hb H3->jt Hs H3) (h:Thr (X.wish W) Hb c ev s'):Thr X Hs c ev s':=by
 obtain ⟨e,C,σ',H',h1,h2,h3,h4,h5⟩:=h
 exact ⟨e,C,σ',H',h1,h2,h3.unwish,sb _ h4,h5.unwish⟩
end
section
variable {X:Cx}{e a b c:Expr}{es:List Expr}{st:Stmt}{sts qh:List Stmt}{fx gx:Rho->Option Str}{F:RO}{pos p:Pos}
noncomputable def orX (fx gx:Rho->Option Str):Rho->Option Str:=fun ρ=>match fx ρ with
 | some c=>some c
 | none=>gx ρ
end
section
variable {X:Cx}{a b c:Expr}{tc ta tb:Rho->Option Bool}{pos:Pos}
end
section
variable {X:Cx}{a b:Expr}{fa fb:RP}
end
structure RoomH (k:Nat) (A:Around):Prop where
 dp:A.depth+3*k+5<recursionLimit
 un:A.units+16*k+200<cLine
theorem RoomH.deeper {k:Nat}{A:Around} (r:RoomH (k+1) A) (env:Env):RoomH k (A.deeper env):=
 ⟨by have:=r.dp; show A.depth+1+3*k+5<_; omega,by have:=r.un; show A.units+3+16*k+200<_; omega⟩
structure FnH (P:Program) (w:World) (K:Fg) (mg:SV) (base:Heap) (k:Nat) (f:Addr) (fd:FuncData) (ps:List Str) (sp:Sp):Prop where
 len:∀ vs H Q E,sp vs H Q E->vs.length=ps.length
 run:∀ (A:Around) (Ko:List Env) (s:Shared) (H:Hp) (args:Args) (us:List Value) (vs:List V) (Q:VK) (E:XK),RoomH k A->Env0 P w K mg base A Ko s H->BindsTo s fd args (ps.zip us)->jG vs us->sp vs H Q E->
  codeAny (model P w) A (.call (.ref f) args) (CR CX0 Ko P w H s Q E) s
noncomputable def aqX (P:Program) (w:World) (K:Fg) (mg:SV) (base:Heap) (x:Str) (ps:List Str) (k n:Nat) (g:LP->OP):Prop:=
 ∃ (f:Addr) (fd:FuncData),FnH P w K mg base k f fd ps (Pur K n g)/\mg x=some (.ref f)/\PySem.W.keepIn K (.ref f)=true/\ZN K fd ps []
section
variable {P:Program}{w:World}{K:Fg}{mg:SV}{base:Heap}
end
section
variable {X:Cx}{e:Expr}{es:List Expr}{pos:Pos}
end
structure ExcK (K:Fg) (C:Addr):Prop where
 exc:PySem.W.excIn K C vB "ValueError.__new__"=true
 ga:PySem.W.findIn K (.ref C) "__getattribute__"=some (some (.builtin "BaseException.__getattribute__"))
 gt:PySem.W.findIn K (.ref C) "__getattr__"=some none
 cl:PySem.W.findIn K (.ref C) "__class__"=some (some (.builtin "object.__class__"))
 mo:PySem.W.mroIn K C (.type "object")=some true
 mb:PySem.W.mroIn K C (.type "BaseException")=some true
structure ClsG (K:Fg):Prop where
 gt:PySem.W.specialIn K (.builtin "object.__class__") "__get__"=some (some (.builtin "getset_descriptor.__get__"))
 tk:PySem.W.takesIn K (.builtin "object.__class__")=some true
section
variable {prog:Program}{w:World}{A:Around}{E:Value->SP0}{s:Shared}{K:Fg}{a C:Addr}{oe:Obj}
end
noncomputable def adr (K:Fg) (c:Str):Option Addr:=match PySem.W.nsIn K mainGlobals c with
 | some (some (.ref C))=>some C
 | _=>none
noncomputable def ao7 (K:Fg) (C:Addr):Bool:=PySem.W.excIn K C vB "ValueError.__new__" && ((PySem.W.findIn K (.ref C) "__getattribute__" == some (some (.builtin "BaseException.__getattribute__"))) && ((PySem.W.findIn K (.ref C) "__getattr__" == some none) && ((PySem.W.findIn K (.ref C) "__class__" == some (some (.builtin "object.__class__"))) && ((PySem.W.mroIn K C (.type "object") == some true) && (PySem.W.mroIn K C (.type "BaseException") == some true)))))
theorem akT {K:Fg}{C:Addr} (h:ao7 K C=true):ExcK K C:=by
 unfold ao7 at h
 simp only [Bool.and_eq_true,beq_iff_eq] at h
 obtain ⟨h1,h2,h3,h4,h5,h6⟩:=h
 exact ⟨h1,h2,h3,h4,h5,h6⟩
noncomputable def agF (K:Fg) (y:Str) (cs:List Str):Bool:=(PySem.W.specialIn K (.builtin "object.__class__") "__get__" == some (some (.builtin "getset_descriptor.__get__"))) && ((PySem.W.takesIn K (.builtin "object.__class__") == some true) && (match adr K y with
 | none=>false
 | some B=>(PySem.W.typeIn K (.ref B) == some (.type "type")) && ((PySem.W.mroIn K B (.type "BaseException") == some true) && cs.all fun c=>match adr K c with
  | none=>false
  | some C=>ao7 K C && ((PySem.W.mroIn K C (.ref B) == some true) && ((PySem.W.kitOne K (.ref C) (.type "ValueError") == some true) && cs.all fun d=>match adr K d with
   | none=>false
   | some D=>PySem.W.kitOne K (.ref C) (.ref D) == some (c == d))))))
structure ErrT (K:Fg) (mg:SV) (y:Str) (cs:List Str):Prop where
 tab:agF K y cs=true
 mgs:∀ c C,adr K c=some C->mg c=some (.ref C)
section
variable {K:Fg}{mg:SV}{y:Str}{cs:List Str}
theorem ErrT.g (h:ErrT K mg y cs):ClsG K:=by
 have:=h.tab
 unfold agF at this
 simp only [Bool.and_eq_true,beq_iff_eq] at this
 exact ⟨this.1,this.2.1⟩
theorem ErrT.par (h:ErrT K mg y cs):∃ B,adr K y=some B/\mg y=some (.ref B)/\PySem.W.typeIn K (.ref B)=some (.type "type")/\PySem.W.mroIn K B (.type "BaseException")=some true/\
  ∀ c ∈ cs,∃ C,adr K c=some C/\mg c=some (.ref C)/\ExcK K C/\PySem.W.mroIn K C (.ref B)=some true/\PySem.W.kitOne K (.ref C) (.type "ValueError")=some true/\∀ d ∈ cs,∃ D,adr K d=some D/\mg d=some (.ref D)/\PySem.W.kitOne K (.ref C) (.ref D)=some (c == d):=by
 have q:=h.tab
 unfold agF at q
 simp only [Bool.and_eq_true,beq_iff_eq] at q
 obtain ⟨_,_,q⟩:=q
 cases hB:adr K y with
 | none=>rw [hB] at q; cases q
 | some B=>
  rw [hB] at q
  simp only [Bool.and_eq_true,beq_iff_eq,List.all_eq_true] at q
  obtain ⟨q1,q2,q3⟩:=q
  refine ⟨B,rfl,h.mgs y B hB,q1,q2,fun c hc=>?_⟩
  have z:=q3 c hc
  cases hC:adr K c with
  | none=>rw [hC] at z; cases z
  | some C=>
   rw [hC] at z
   simp only [Bool.and_eq_true,beq_iff_eq,List.all_eq_true] at z
   obtain ⟨z1,z2,z3,z4⟩:=z
   refine ⟨C,rfl,h.mgs c C hC,akT z1,z2,z3,fun d hd=>?_⟩
   have v:=z4 d hd
   cases hD:adr K d with
   | none=>rw [hD] at v; cases v
   | some D=>
    rw [hD] at v
    exact ⟨D,rfl,h.mgs d D hD,beq_iff_eq.mp v⟩
end
noncomputable def aqG:PyData->Option Str
 | .dict [(.str c,.bool true)]=>some c
 | _=>none
@[simp] theorem ao8 (c:Str):aqG (aro c)=some c:=rfl
section
variable {X:Cx}{a:Expr}{fa:RP}{pos p p2:Pos}{y:Str}{cs:List Str}
end
section
variable {X:Cx}{σ:St}{H:Hp}{s:Shared}{e C:Addr}
theorem Inv.take {oe:Obj} (I:Inv X [] σ H s) (m:Mine X H e) (he:s.heap.get? e=some oe):Inv X [] σ (upd H e (.frz oe (.own e))) s/\jt H (upd H e (.frz oe (.own e))):=by
 have ne:∀ b o,H b=some o->b ≠ e:=fun b o q z=>by subst z; rw [m.un] at q; cases q
 have sm:jt H (upd H e (.frz oe (.own e))):=fun b o q=>by rw [jo (ne b o q)]; exact q
 have u:Un (frs X.stack) [e] H (upd H e (.frz oe (.own e))) s.heap s.heap:=⟨fun b o q _ _ _=>q,fun b o q _ _ _=>⟨o.slots,q⟩,fun b o q n nc=>by rw [jo (fun z=>nc (by simp [z]))]; exact n,fun b o q _=>⟨o,q⟩,fun b xs q=>sm b _ q,fun b o v q=>sm b _ q,fun b ps q=>⟨#[],by rw [sm b _ q]; simp⟩⟩
 have hok:HOk X.prog X.w (upd H e (.frz oe (.own e))) s.heap:=fun b o q=>by
  by_cases hb:b=e
  ·subst hb
   rw [jq] at q; cases q
   exact ⟨he,_,he⟩
  ·rw [jo hb] at q
   exact (I.hok b o q).stay (fun c v hc r=>r) (fun c r=>sm _ _ r) fun c v r=>sm _ _ r
 refine ⟨?_,sm⟩
 have J:=Inv.call (X:={ X with ex:=[e]++X.ex }) (g':=s.gens) (d':=s.drawn) (t':=s.toks) (Inv.exIn I fun b hb=>by rw [List.mem_singleton.mp hb]; exact ⟨m.new,m.loc,m.cel⟩) u hok I.bare fun b hb=>by
  rw [List.mem_singleton.mp hb]
  exact ⟨.inl (List.mem_append_left _ (by simp)),m.loc,m.cel,fun p hp=>m.pin p (by simpa using hp)⟩
 exact Inv.exOut J I.ok fun b hb=>by rw [List.mem_singleton.mp hb]; exact m.new
end
section
variable {X:Cx}{st b0:Stmt}{sts qh tb hb:List Stmt}{F G:RO}{fx:Rho->Option Str}{pos:Pos}
end
noncomputable def agG {α:Type} (K:Fg) (enc:α->PyData) (rk:α->Int) (ok:α->Prop):List V->Hp->VK->Prop:=fun vs H Q=>∃ a xs ps,vs=[.ref a]/\H a=some (.lst xs)/\Reps K H (ps.map enc) xs/\ps.length<64/\(∀ p ∈ ps,ok p)/\
 ∀ qs:List α,qs.Perm ps->qs.Pairwise (fun a b=>rk a<=rk b)->∀ l ys,H l=none->Reps K H (qs.map enc) ys->Q (.ref l) (upd H l (.lst ys))
theorem agH {X:Cx}{α:Type} (z0:α) (enc:α->PyData) (rk:α->Int) (T:Value) (ok:α->Prop) (At:Heap->Value->α->Prop)
  (hat:∀ {Kp:List (Addr × Obj)} {σ:St} {H:Hp} {s:Shared} {v:V} {x:α} {u:Value} {h':Heap},Inv X Kp σ H s->ok x->Rep X.K H (enc x) v->jK v u->(∀ b o,b ≠ X.env.locals->s.heap.get? b=some o->h'.get? b=some o)->At h' u x)
  (hfirst:∀ {h:Heap} {u:Value} {x:α},ok x->At h u x->∃ a o xs n f,u= .ref a/\h.get? a=some o/\o.cls= .type "tuple"/\o.data= .seq xs n/\xs[0]?=some f/\∀ M,PySem.W.Looks M h (typeOf f) T)
  (hT:(T == T)=true)
  (hlt:∀ {s:Shared} {u v:Value} {x y:α} {Q:Bool->SP0} {E:Value->SP0},ok x->ok y->At s.heap u x->At s.heap v y->Q (decide (rk x<rk y)) s->wpAny (model X.prog X.w) X.A.in1.in1 (keyLt' (tuples' (T != Value.type "tuple")) u v) Q E s):
  zX X (.builtin "sorted") (agG X.K enc rk ok):=by
 intro Kp s σ H vs us0 Q I r ⟨a,xs,ps,e,hl,hR,h64,hB,q⟩
 subst e
 obtain ⟨u,rfl,rx⟩:=ac2 r
 cases rx
 obtain ⟨us,rv,pl,hz⟩:=I.list (SqL.of (K:=X.K) hl)
 have l1:=hR.length
 have l2:=rv.length
 rw [List.length_map] at l1
 by_cases h2:us.length<2
 ·refine agq pl.isList h2 fun h' D c kp ho hD=>?_
  have hps:ps.Pairwise (fun a b=>rk a<=rk b):=ad5 (by omega)
  refine ⟨.ref D,upd H D (.lst xs),I.laid (t':=s.toks) kp hD ⟨hz,us,c,rv,ho⟩,rfl,q ps (List.Perm.refl _) hps D xs (I.hok.fresh hD) hR⟩
 ·obtain ⟨m,F⟩:=I.fr
  have ge2:2<=us.length:=by omega
  have lt64:us.length<64:=by omega
  refine PySem.W.kat_sorted (h₀:=X.base) (L:=X.env.locals) (m:=m) (news:=JI X.base s.heap X.env.locals) (vs:=us) (l:=a) F ajK pl.isList ge2 lt64 ?_
  intro D e1 h' F' N' hlt'
  have nD:=N' (D,seqObj "list" #[] e1) List.mem_cons_self
  have kpb:∀ {h2:Heap},Fr X.base X.env.locals h2 m->(∀ p ∈ JI X.base s.heap X.env.locals,h2.get? p.1=some p.2)->∀ b o,b ≠ X.env.locals->s.heap.get? b=some o->h2.get? b=some o:=fun {h2} F2 N2 b o hb e=>by
   cases e3:X.base.get? b with
   | some u=>have:=F.keep b u e3; rw [e] at this; cases this; exact F2.keep b _ e3
   | none=>exact N2 (b,o) (aaY hb e3 e)
  have kp1:=kpb F' fun p hp=>(N' p (List.mem_cons_of_mem _ hp)).1
  have freshD:s.heap.get? D=none:=by
   cases e3:s.heap.get? D with
   | none=>rfl
   | some o=>exact absurd (hlt' (D,o) (aaY nD.2.1 nD.2.2 e3)) (Nat.lt_irrefl _)
  have pr:∀ i (hi:i<ps.length),At h' (us.getD i Value.none) ps[i]:=fun i hi=>by
   obtain ⟨x,ex,er⟩:=hR.get (show (ps.map enc)[i]?=some (enc ps[i]) by simp [hi])
   obtain ⟨v,ev,rv2⟩:=rv.get ex
   rw [getD_some ev]
   exact hat I (hB _ (List.getElem_mem _)) er rv2 kp1
  have hu:us.length=ps.length:=by omega
  have kt:∃ fs:List Value,PySem.W.KatTups h' us fs/\fs.length=us.length/\∀ v ∈ fs,∀ M,PySem.W.Looks M h' (typeOf v) T:=by
   have go:∀ (n:Nat) (ws:List Value),us.drop n=ws->∃ fs:List Value,PySem.W.KatTups h' ws fs/\fs.length=ws.length/\∀ v ∈ fs,∀ M,PySem.W.Looks M h' (typeOf v) T:=by
    intro n ws
    induction ws generalizing n with
    | nil=>intro _; exact ⟨[],trivial,rfl,fun v hv=>nomatch hv⟩
    | cons w ws ih=>
     intro hd
     have hn:us[n]?=some w:=by
      have:(us.drop n)[0]?=some w:=by rw [hd]; rfl
      simpa using this
     have hd':us.drop (n+1)=ws:=by
      have:(us.drop n).drop 1=ws:=by rw [hd]; rfl
      simpa [List.drop_drop,Nat.add_comm] using this
     obtain ⟨fs,t1,t2,t3⟩:=ih (n+1) hd'
     have hlt2:n<ps.length:=by
      have:=(List.getElem?_eq_some_iff.mp hn).1
      omega
     obtain ⟨a2,o,ys,k,f,e1,e2,e3,e4,e5,e6⟩:=hfirst (hB _ (List.getElem_mem _)) (pr n hlt2)
     rw [getD_some hn] at e1
     subst e1
     refine ⟨f::fs,PySem.W.KatTups.cons e2 e3 e4 e5 t1,by simp [t2],fun v hv=>?_⟩
     rcases List.mem_cons.mp hv with rfl | hv
     ·exact e6
     ·exact t3 v hv
   exact go 0 us rfl
  obtain ⟨fs,t1,t2,t3⟩:=kt
  refine PySem.W.kat_kind (s:={ s with heap:=h' }) (T:=T) t1 (by omega) (fun v hv=>t3 v hv _) hT ?_
  show (PySem.W.kas_sort us.length).kasWp (PySem.W.kas_ask X.prog X.w X.A.in1.in1 (tuples' (T != Value.type "tuple")) us) _ { s with heap:=h' }
  refine Srt.sort_ok (rk:=fun i=>rk (ps.getD i z0)) (n:=us.length) (s:={ s with heap:=h' }) (fun i j C hi hj hC=>?_) (by omega) fun p hp hs=>?_
  ·have g1:ps.getD i z0=ps[i]'(by omega):=getD_some (List.getElem?_eq_getElem _)
   have g2:ps.getD j z0=ps[j]'(by omega):=getD_some (List.getElem?_eq_getElem _)
   simp only [g1,g2] at hC
   exact hlt (s:={ s with heap:=h' }) (hB _ (List.getElem_mem _)) (hB _ (List.getElem_mem _)) (pr i (by omega)) (pr j (by omega)) hC
  ·have mem:∀ i ∈ p.toList,i<us.length:=fun i hi=>by
    have:i ∈ (List.range us.length).toArray:=hp.mem_iff.mp (by simpa using hi)
    simpa using this
   have permN:p.toList.Perm (List.range us.length):=by simpa using hp.toList
   refine PySem.W.KasFin.intro (news:=(D,seqObj "list" #[] e1)::JI X.base s.heap X.env.locals) (g:=fun o'=>(D,o')::JI X.base s.heap X.env.locals) F' N' (.head fun z hz=>Nat.ne_of_lt (hlt' z hz)) fun h2 c F2 N2=>?_
   have kp2:=kpb F2 fun z hz=>(N2 z (List.mem_cons_of_mem _ hz)).1
   have hD2:=(N2 (D,PySem.W.listOf (List.toArray (p.toList.map fun i=>us.getD i Value.none)) c) List.mem_cons_self).1
   have hln:(p.toList.map fun i=>xs.getD i V.non).length<=sizeLine:=by
    rw [List.length_map,permN.length_eq,List.length_range,sizeLine_eq]; omega
   have I2:=Inv.grownL (ys:=p.toList.map fun i=>xs.getD i V.non) I F.ns F2.ns kp2 freshD hD2 (aiJ rv _ mem) hln
   have nH:H D=none:=by
    cases e3:H D with
    | none=>rfl
    | some o=>obtain ⟨u,z⟩:=qC.there (I.hok D o e3); rw [freshD] at z; cases z
   have eqs:(p.toList.map fun i=>(ps.map enc).getD i PyData.none)=(p.toList.map fun i=>ps.getD i z0).map enc:=by
    rw [List.map_map]
    refine List.map_congr_left fun i hi=>?_
    have hi':=mem i hi
    have g1:ps.getD i z0=ps[i]'(by omega):=getD_some (List.getElem?_eq_getElem _)
    show (ps.map enc).getD i PyData.none=enc (ps.getD i z0)
    rw [g1]
    refine getD_some ?_
    rw [List.getElem?_map,List.getElem?_eq_getElem (show i<ps.length by omega)]
    rfl
   have rp:=aiK hR p.toList fun i hi=>by rw [List.length_map]; have:=mem i hi; omega
   rw [eqs] at rp
   refine ⟨.ref D,_,I2,rfl,q _ ?_ ?_ D _ nH rp⟩
   ·have e5:(List.range us.length).map (fun i=>ps.getD i z0)=ps:=by
     apply List.ext_getElem?
     intro i
     rw [List.getElem?_map]
     by_cases hi:i<us.length
     ·rw [List.getElem?_range hi,List.getElem?_eq_getElem (show i<ps.length by omega)]
      show some (ps.getD i z0)=_
      rw [getD_some (List.getElem?_eq_getElem (show i<ps.length by omega))]
     ·rw [List.getElem?_eq_none_iff.mpr (show (List.range us.length).length<=i by rw [List.length_range]; omega),List.getElem?_eq_none_iff.mpr (show ps.length<=i by omega)]
      rfl
    have:=permN.map (fun i=>ps.getD i z0)
    rw [e5] at this
    exact this
   ·rw [List.pairwise_map]
    rw [List.pairwise_iff_getElem]
    intro i j hi hj hij
    have hps:p.size=us.length:=hp.size
    have hi':i<p.size:=by simpa using hi
    have hj':j<p.size:=by simpa using hj
    have:=hs i j (Nat.le_of_lt hij) (by omega)
    simp only [Srt.val] at this
    have g1:p.getD i 0=p.toList[i]:=by simp [Array.getD,hi']
    have g2:p.getD j 0=p.toList[j]:=by simp [Array.getD,hj']
    rw [g1,g2] at this
    exact this
noncomputable abbrev arw:=Int × (Int × Int)
structure TripAt (h:Heap) (u:Value) (t:arw):Prop where
 ex:∃ a o k tk a2,u= .ref a/\h.get? a=some o/\o.cls= .type "tuple"/\o.data= .seq #[.int t.1 tk,.ref a2] k/\PairAt h (.ref a2) t.2
theorem ab8 {h:Heap}{a:Addr}{p:Int × Int} (x:PairAt h (.ref a) p):Reads h (.ref a) (zM p) []:=by
 obtain ⟨b,o,k,t,t',e1,e2,e3,e4⟩:=x.ex
 cases e1
 exact .tuple e2 e3 e4 (.cons (.int _ t) (.cons (.int _ t') .nil))
theorem ab9 {h:Heap}{a:Addr}{p:Int × Int} (x:PairAt h (.ref a) p):∃ t t',IsTup h a #[.int p.1 t,.int p.2 t']:=by
 obtain ⟨b,o,k,t,t',e1,e2,e3,e4⟩:=x.ex
 cases e1
 exact ⟨t,t',o,e2,e3,k,e4⟩
theorem akU (p q:Int × Int):PyData.eqv (zM p) (zM q)=decide (p.1=q.1/\p.2=q.2):=by
 simp only [zM,PyData.eqv,PyData.eqvAll,Bool.and_true]
 rw [Bool.decide_and,Bool.beq_eq_decide_eq,Bool.beq_eq_decide_eq]
section
variable {X:Cx}
theorem akV {Kp:List (Addr × Obj)}{σ:St}{H:Hp}{s:Shared}{a:Addr}{o:Obj}{xs:Array Value}{k:Nat} (I:Inv X Kp σ H s) (eo:s.heap.get? a=some o) (dk:o.data= .seq xs k):a ≠ X.env.locals:=fun z=>by
 obtain ⟨_,⟨o',es,ep,h1,h2,_⟩,_⟩:=I.loc
 rw [z] at eo; rw [eo] at h1; cases h1
 rw [dk] at h2; cases h2
theorem am8 {Kp:List (Addr × Obj)}{σ:St}{H:Hp}{s:Shared}{v:V}{p:Int × Int}{u:Value}{h':Heap} (I:Inv X Kp σ H s) (r:Rep X.K H (zM p) v) (rv:jK v u) (kp:∀ b o,b ≠ X.env.locals->s.heap.get? b=some o->h'.get? b=some o):∃ a,u= .ref a/\PairAt h' u p:=by
 obtain ⟨a2,ws,e2,e3,x1,r1,e4,e5,x2,r2,e6,e7,e8⟩:=r
 cases (show x1=_ from e5)
 cases (show x2=_ from e7)
 cases (show r2=[] from e8)
 subst e6; subst e4; subst e2
 cases rv
 obtain ⟨its,r3,⟨o,eo,co,k,dk⟩,_⟩:=I.tuple e3
 cases r3 with
 | cons y1 r3=>
  cases r3 with
  | cons y2 r3=>
   cases r3
   obtain ⟨t,rfl⟩:=y1
   obtain ⟨t',rfl⟩:=y2
   exact ⟨a2,rfl,a2,o,k,t,t',rfl,kp a2 o (akV I eo dk) eo,co,by simpa using dk⟩
end
section
variable {α:Type}
noncomputable def aiX (rk:α->Int) (p:α):List α->List α
 | []=>[p]
 | q::r=>if rk p<=rk q then p::q::r else q::aiX rk p r
noncomputable def aa5 (rk:α->Int):List α->List α
 | []=>[]
 | p::r=>aiX rk p (aa5 rk r)
theorem aaH (rk:α->Int) (p:α):∀ l,(aiX rk p l).Perm (p::l)
 | []=>List.Perm.refl _
 | q::r=>by
  unfold aiX
  split
  ·exact List.Perm.refl _
  ·exact ((aaH rk p r).cons q).trans (List.Perm.swap p q r)
theorem Jw (rk:α->Int):∀ l,(aa5 rk l).Perm l
 | []=>List.Perm.refl _
 | p::r=>(aaH rk p _).trans ((Jw rk r).cons p)
theorem aa6 (rk:α->Int) (p:α):∀ l,l.Pairwise (fun a b=>rk a<=rk b)->(aiX rk p l).Pairwise (fun a b=>rk a<=rk b)
 | [],_=>List.pairwise_singleton _ _
 | q::r,h=>by
  have hq:=List.pairwise_cons.mp h
  unfold aiX
  split
  ·rename_i hle
   refine List.pairwise_cons.mpr ⟨fun b hb=>?_,h⟩
   rcases List.mem_cons.mp hb with rfl | hb
   ·exact hle
   ·exact Int.le_trans hle (hq.1 b hb)
  ·rename_i hle
   refine List.pairwise_cons.mpr ⟨fun b hb=>?_,aa6 rk p r hq.2⟩
   rcases List.mem_cons.mp ((aaH rk p r).mem_iff.mp hb) with rfl | hb
   ·omega
   ·exact hq.1 b hb
theorem Qt (rk:α->Int):∀ l,(aa5 rk l).Pairwise (fun a b=>rk a<=rk b)
 | []=> .nil
 | p::r=>aa6 rk p _ (Qt rk r)
theorem aa7 {rk:α->Int}:∀ {l l':List α},l.Pairwise (fun a b=>rk a<=rk b)->l'.Pairwise (fun a b=>rk a<=rk b)->l.Perm l'->(∀ p ∈ l,∀ q ∈ l,rk p=rk q->p=q)->l=l'
 | [],l',_,_,hp,_=>hp.nil_eq
 | a::l,[],_,_,hp,_=>by have:=hp.length_eq; simp at this
 | a::l,b::l',h1,h2,hp,hb=>by
  have h1':=List.pairwise_cons.mp h1
  have h2':=List.pairwise_cons.mp h2
  have hab:a=b:=by
   have ha:a ∈ b::l':=hp.mem_iff.mp List.mem_cons_self
   have hb':b ∈ a::l:=hp.mem_iff.mpr List.mem_cons_self
   rcases List.mem_cons.mp ha with e | ha'
   ·exact e
   ·rcases List.mem_cons.mp hb' with e | hb''
    ·exact e.symm
    ·exact hb a List.mem_cons_self b hb' (Int.le_antisymm (h1'.1 b hb'') (h2'.1 a ha'))
  subst hab
  rw [aa7 h1'.2 h2'.2 (List.Perm.cons_inv hp) fun p hp q hq=>hb p (List.mem_cons_of_mem _ hp) q (List.mem_cons_of_mem _ hq)]
end
section
variable {X:Cx}{e a b c:Expr}{es qh:List Expr}{st:Stmt}{sts srest:List Stmt}{fx gx:Rho->Option Str}{fa fb:RP}{F:RO}{pos:Pos}
noncomputable def items:PyData->Option (LP)
 | .list ds=>some ds
 | .tuple ds=>some ds
 | _=>none
noncomputable def itS (fa:RP):Rho->Option (LP):=fun ρ=>(fa ρ).bind items
theorem zq {tg:Expr} (h:PD X e fa):PID X tg e (itS fa):=by
 with_unfolding_all
  intro Kp s σ H R I ⟨ρ,ds,en,q,k⟩
  cases hf:fa ρ with
  | none=>simp [itS,hf] at q
  | some d=>
   have q':items d=some ds:=by simpa [itS,hf] using q
   cases d with
   | list es=>
    cases q'
    exact abP (tg:=tg) h Kp s σ H R I ⟨ρ,ds,en,by simp [itL,hf,aay],k⟩
   | tuple es=>
    cases q'
    exact ad2 (tg:=tg) h Kp s σ H R I ⟨ρ,ds,en,by simp [itT,hf,aaz],k⟩
   | _=>cases q'
end
theorem _root_.L2.Room.sort {k:Nat}{A:Around} (r:Room k A):A.in1.in1.units+8<cLine:=by
 have:=r.un
 show A.units+1+1+8<cLine
 omega
theorem _root_.L2.Room.units1 {k:Nat}{A:Around} (r:Room k A):A.units+1<cLine:=by have:=r.un; omega
theorem RoomH.units {k:Nat}{A:Around} (r:RoomH k A):A.units+64<cLine:=by have:=r.un; omega
theorem RoomH.mono {j k:Nat}{A:Around} (r:RoomH k A) (h:j<=k):RoomH j A:=⟨by have:=r.dp; omega,by have:=r.un; omega⟩
noncomputable def aqH:Stmt->List Stmt
 | .If _ l _ _=>l
 | _=>[]
section
variable {X:Cx}{a b:Expr}{pos:Pos}
end
section
variable {X:Cx}{e a b c:Expr}{l r:List Stmt}{fx gx:Rho->Option Str}{pos:Pos}
end
section
variable {X:Cx}{own:Option Nat}{tg:Expr}{st:Stmt}{sts:List Stmt}{fx:Rho->Option Str}{F:RO}
end
section
variable {X:Cx}{a i e:Expr}{es:List Expr}{pos fp:Pos}
end
section
variable {X:Cx}{own:Option Nat}{e a b c:Expr}{es:List Expr}{st:Stmt}{sts qh:List Stmt}{fa fb fc:RP}{F G:RO}{pos:Pos}
end
section
variable {X:Cx}{tg src:Expr}{pos pos':Pos}{own:Option Nat}
theorem akW (i:Nat) {x:Str}{el:Expr}{ts:List Expr}{sc:Scope}{ps:Pos}{fi:Rho->Option (LP)}{ga:PyData->Rho->Option Rho}{ft:Rho->Option Bool}{fe:RP} (N':List Str) (cap:List (Option Nat)) (hc:X.calm=true) (hN:X.N.Nodup) (hi:PID X tg src fi) (ok:CompOk X sc N' cap)
  (body:∀ cl C s0 H0 fp pn,PGD (blk X N' sc cl C s0 H0 fp pn) tg ga/\amL (blk X N' sc cl C s0 H0 fp pn) ts ft/\PD (blk X N' sc cl C s0 H0 fp pn) el fe)
  (ho:own ≠ some i:=by decide) (hi0:X.N[i]?=some x:=by rfl) (hx:Loc X.env.scope x:=by first | exact Or.inl rfl | exact Or.inr rfl) (hsw:swapsWith (.ListComp el [⟨tg,src,ts,0⟩] sc ps) (some (.Name x pos')) pos.line X.env=pure true:=by rfl)
  (hf:X.fn x=true ∨ X.env.scope.names.lookup x=some .local:=by first | exact .inl rfl | exact .inr rfl | assumption)
  (hs:∀ x,foldedSetIterable src X.env x=pure x:=by intro _; rfl):PSO X own (.Assign [.Name x pos'] (.ListComp el [⟨tg,src,ts,0⟩] sc ps) pos) (zA (fun ρ=>ze fi cap ga ft fe (hid own ρ)) (jE i)):=by
 with_unfolding_all
  refine PS.imp (am4 (g:=tDG X.K ga) (tt:=tDT X.K ft) (te:=tD X.K fe) hc hi ok (fun cl C s0 H0 fp pn=>body cl C s0 H0 fp pn) hN hi0 hx hsw hf hs) fun D σ H ⟨Hs,ρ,o,E,q,k⟩=>akN ?_
  cases h1:ze fi cap ga ft fe (hid own ρ) with
  | none=>simp [zA,h1] at q
  | some d=>
   have:Out.nx (ρ.set i (some d))=o:=by simpa [zA,h1,jE] using q
   subst this
   exact ⟨hid own ρ,d,E.hid,h1,fun v H1 s1 r1=>k _ H1 ((E.mono s1).set ho r1)⟩
end
noncomputable def QY (ps:List (Int × Int)):PyData:= .tuple (ps.map zM)
noncomputable def jQ:List (Int × Int)->Int
 | []=>0
 | p::r=>(p.1*1000+p.2)*(1000000:Int) ^ r.length+jQ r
noncomputable def inP (p:Int × Int):Bool:=decide (0<=p.1) && decide (p.1<1000) && decide (0<=p.2) && decide (p.2<1000)
noncomputable def inS (n:Nat) (ps:List (Int × Int)):Bool:=decide (ps.length=n) && decide (1<=n) && ps.all inP
theorem afn (k:Nat):(0:Int)<(1000000:Int) ^ k:=by
 induction k with
 | zero=>decide
 | succ k ih=>rw [Int.pow_succ]; omega
theorem aee {p:Int × Int} (h:inP p=true):0<=p.1/\p.1<1000/\0<=p.2/\p.2<1000:=by
 simp only [inP,Bool.and_eq_true,decide_eq_true_eq] at h; omega
theorem aca:∀ (ps:List (Int × Int)),ps.all inP=true->0<=jQ ps/\jQ ps<(1000000:Int) ^ ps.length
 | [],_=>by simp [jQ]
 | p::r,h=>by
  rw [List.all_cons,Bool.and_eq_true] at h
  obtain ⟨a1,a2,a3,a4⟩:=aee h.1
  obtain ⟨b1,b2⟩:=aca r h.2
  have hp:=afn r.length
  have hm:0<=p.1*1000+p.2/\p.1*1000+p.2<=999999:=by omega
  simp only [jQ,List.length_cons,Int.pow_succ]
  generalize p.1*1000+p.2=m at*
  generalize (1000000:Int) ^ r.length=P at*
  have h1:0<=m*P:=Int.mul_nonneg hm.1 (by omega)
  have h2:m*P<=999999*P:=Int.mul_le_mul_of_nonneg_right hm.2 (by omega)
  omega
theorem aiY {m m' P x y:Int} (hP:0<P) (hx:0<=x/\x<P) (hy:0<=y/\y<P):(m*P+x<m'*P+y) ↔ (m<m' ∨ (m=m'/\x<y)):=by
 rcases Int.lt_trichotomy m m' with h | h | h
 ·have:(m+1)*P<=m'*P:=Int.mul_le_mul_of_nonneg_right (by omega) (by omega)
  rw [Int.add_mul] at this
  constructor
  ·intro _; exact .inl h
  ·intro _; omega
 ·subst h
  constructor
  ·intro q; exact .inr ⟨rfl,by omega⟩
  ·intro q; omega
 ·have:(m'+1)*P<=m*P:=Int.mul_le_mul_of_nonneg_right (by omega) (by omega)
  rw [Int.add_mul] at this
  constructor
  ·intro q; omega
  ·intro q; omega
theorem acb {p q:Int × Int}{r r':List (Int × Int)} (hl:r.length=r'.length) (hp:inP p=true) (hq:inP q=true) (hr:r.all inP=true) (hr':r'.all inP=true):
  (jQ (p::r)<jQ (q::r')) ↔ ((p.1<q.1 ∨ (p.1=q.1/\p.2<q.2)) ∨ ((p.1=q.1/\p.2=q.2)/\jQ r<jQ r')):=by
 obtain ⟨a1,a2,a3,a4⟩:=aee hp
 obtain ⟨c1,c2,c3,c4⟩:=aee hq
 have b:=aca r hr
 have b':=aca r' hr'
 rw [←hl] at b'
 simp only [jQ]
 rw [←hl,aiY (afn r.length) b b']
 constructor
 ·rintro (h | ⟨h,k⟩)
  ·left; omega
  ·right; exact ⟨by omega,k⟩
 ·rintro (h | ⟨h,k⟩)
  ·left; omega
  ·right; exact ⟨by omega,k⟩
theorem adt:∀ {r r':List (Int × Int)},r.length=r'.length->r.all inP=true->r'.all inP=true->jQ r=jQ r'->r=r'
 | [],[],_,_,_,_=>rfl
 | [],_::_,h,_,_,_=>by simp at h
 | _::_,[],h,_,_,_=>by simp at h
 | p::r,q::r',h,h1,h2,e=>by
  rw [List.all_cons,Bool.and_eq_true] at h1 h2
  have hl:r.length=r'.length:=by simpa using h
  have l1:=acb hl h1.1 h2.1 h1.2 h2.2
  have l2:=acb hl.symm h2.1 h1.1 h2.2 h1.2
  have n1:¬ jQ (p::r)<jQ (q::r'):=by omega
  have n2:¬ jQ (q::r')<jQ (p::r):=by omega
  rw [l1] at n1
  rw [l2] at n2
  have e1:p.1=q.1/\p.2=q.2:=by omega
  have e2:jQ r=jQ r':=by omega
  obtain ⟨p1,p2⟩:=p
  obtain ⟨q1,q2⟩:=q
  simp only at e1
  rw [e1.1,e1.2,adt hl h1.2 h2.2 e2]
noncomputable def Qu (h:Heap):List Value->List (Int × Int)->Prop
 | [],ps=>ps=[]
 | v::vs,ps=>∃ p r a,ps=p::r/\v= .ref a/\PairAt h (.ref a) p/\Qu h vs r
theorem Qu.len {h:Heap}:∀ {vs:List Value}{ps:List (Int × Int)},Qu h vs ps->vs.length=ps.length
 | [],ps,e=>by cases (show ps=[] from e); rfl
 | v::vs,ps,⟨p,r,a,e,_,_,k⟩=>by rw [e,List.length_cons,List.length_cons,k.len]
structure SetAt (h:Heap) (u:Value) (ps:List (Int × Int)):Prop where
 ex:∃ a o k vs,u= .ref a/\h.get? a=some o/\o.cls= .type "tuple"/\o.data= .seq (List.toArray vs) k/\Qu h vs ps
theorem afo {X:Cx} (hu:X.A.in1.in1.units+8<cLine) {s:Shared}{Q:Bool->SP0}:∀ (us vs:List Value) (ps qs:List (Int × Int)) (i:Nat),Qu s.heap us ps->Qu s.heap vs qs->ps.length=qs.length->ps.all inP=true->qs.all inP=true->Q (decide (jQ ps<jQ qs)) s->
  PySem.W.KatLex X.prog X.w X.A.in1.in1 false false Q (us.zip vs) i s
 | [],vs,ps,qs,i,a,b,hl,_,_,h=>by
  cases (show ps=[] from a)
  cases qs with
  | nil=>exact PySem.W.kat_nil (by simpa [jQ] using h)
  | cons q qs=>simp at hl
 | u::us,[],ps,qs,i,a,b,hl,_,_,h=>by
  cases (show qs=[] from b)
  obtain ⟨p,r,_,rfl,_⟩:=a
  simp at hl
 | u::us,v::vs,ps,qs,i,a,b,hl,h1,h2,h=>by
  obtain ⟨p,r,a2,rfl,rfl,pa,ra⟩:=a
  obtain ⟨q,r',b2,rfl,rfl,pb,rb⟩:=b
  rw [List.all_cons,Bool.and_eq_true] at h1 h2
  have hl':r.length=r'.length:=by simpa using hl
  have hr:=acb hl' h1.1 h2.1 h1.2 h2.2
  show PySem.W.KatLex X.prog X.w X.A.in1.in1 false false Q ((.ref a2,.ref b2)::us.zip vs) i s
  refine PySem.W.kat_cons (SeqAt.eqAt_reads (zM p) (zM q) _ s _ _ [] [] (ab8 pa) (ab8 pb) rfl rfl ?_ X.prog X.w _ _ ?_)
  ·have:(zM p).depth=2 ∨ (zM p).depth<=8:= .inr (by simp [zM,PyData.depth,PyData.depthAll])
   omega
  rw [akU]
  by_cases e2:p.1=q.1/\p.2=q.2
  ·rw [decide_eq_true e2]
   refine PySem.W.kat_yes (afo hu us vs r r' (i+1) ra rb hl' h1.2 h2.2 ?_)
   have:decide (jQ (p::r)<jQ (q::r'))=decide (jQ r<jQ r'):=by
    apply decide_eq_decide.mpr
    rw [hr]
    constructor
    ·rintro (z | ⟨_,z⟩)
     ·omega
     ·exact z
    ·exact fun z=> .inr ⟨e2,z⟩
   rw [←this]; exact h
  ·rw [decide_eq_false e2]
   obtain ⟨t1,t2,i1⟩:=ab9 pa
   obtain ⟨t3,t4,i2⟩:=ab9 pb
   refine PySem.W.kat_no ?_
   rw [Bool.false_and]
   refine PySem.W.kat_one _ _ (HT.lt_tupInts (ns:=[p.1,p.2]) (ms:=[q.1,q.2]) i1 i2 (.cons _ t1 (.cons _ t2 .nil)) (.cons _ t3 (.cons _ t4 .nil)) (by omega) ?_)
   show Q (HT.lexLt [p.1,p.2] [q.1,q.2]) s
   have:HT.lexLt [p.1,p.2] [q.1,q.2]=decide (jQ (p::r)<jQ (q::r')):=by
    rw [HT.lexLt_cons,HT.lexLt_cons,HT.lexLt_nil_nil]
    by_cases c1:p.1=q.1
    ·rw [if_pos c1,if_neg (fun z=>e2 ⟨c1,z⟩)]
     apply decide_eq_decide.mpr
     rw [hr]
     constructor
     ·exact fun z=> .inl (.inr ⟨c1,z⟩)
     ·rintro (z | ⟨z,_⟩)
      ·omega
      ·exact absurd z e2
    ·rw [if_neg c1]
     apply decide_eq_decide.mpr
     rw [hr]
     constructor
     ·exact fun z=> .inl (.inl z)
     ·rintro (z | ⟨z,_⟩)
      ·omega
      ·exact absurd z e2
   rw [this]; exact h
theorem ao9 {X:Cx} (hu:X.A.in1.in1.units+8<cLine) {n:Nat}{s:Shared}{u v:Value}{p q:List (Int × Int)}{Q:Bool->SP0}{E:Value->SP0} (hp:inS n p=true) (hq:inS n q=true) (xu:SetAt s.heap u p) (xv:SetAt s.heap v q)
  (h:Q (decide (jQ p<jQ q)) s):wpAny (model X.prog X.w) X.A.in1.in1 (keyLt' (tuples' (Value.type "tuple" != Value.type "tuple")) u v) Q E s:=by
 obtain ⟨a,oa,ka,us,rfl,ea,_,da,pa⟩:=xu.ex
 obtain ⟨b,ob,kb,vs,rfl,eb,_,db,pb⟩:=xv.ex
 simp only [inS,Bool.and_eq_true,decide_eq_true_eq] at hp hq
 have hT:(Value.type "tuple" != Value.type "tuple")=false:=by decide
 rw [hT]
 refine PySem.W.kat_lt ea da eb db ?_
 have hz:decide ((List.toArray us).size<(List.toArray vs).size)=false:=by
  rw [List.size_toArray,List.size_toArray,pa.len,pb.len]
  exact decide_eq_false (by omega)
 rw [hz]
 exact afo hu us vs p q 0 pa pb (by omega) hp.2 hq.2 h
section
variable {X:Cx}
theorem afp {Kp:List (Addr × Obj)}{σ:St}{H:Hp}{s:Shared}{h':Heap} (I:Inv X Kp σ H s) (kp:∀ b o,b ≠ X.env.locals->s.heap.get? b=some o->h'.get? b=some o):∀ (ps:List (Int × Int)) (xs:List V) (us:List Value),Reps X.K H (ps.map zM) xs->jG xs us->Qu h' us ps
 | [],xs,us,r,v=>by
  cases (show xs=[] from r)
  cases v
  rfl
 | p::ps,xs,us,r,v=>by
  obtain ⟨x,q,rfl,e2,e3⟩:=r
  cases v with
  | cons y v=>
   obtain ⟨a,rfl,pp⟩:=am8 I e2 y kp
   exact ⟨p,ps,a,rfl,rfl,pp,afp I kp ps _ _ e3 v⟩
theorem qP {Kp:List (Addr × Obj)}{σ:St}{H:Hp}{s:Shared}{v:V}{p:List (Int × Int)}{u:Value}{h':Heap} (I:Inv X Kp σ H s) (r:Rep X.K H (QY p) v) (rv:jK v u) (kp:∀ b o,b ≠ X.env.locals->s.heap.get? b=some o->h'.get? b=some o):SetAt h' u p:=by
 obtain ⟨a2,ws,e2,e3,e4⟩:=r
 subst e2
 cases rv
 obtain ⟨its,r3,⟨o,eo,co,k,dk⟩,_⟩:=I.tuple e3
 exact ⟨a2,o,k,its,rfl,kp a2 o (akV I eo dk) eo,co,dk,afp I kp p ws its e4 r3⟩
theorem agI (hu:X.A.in1.in1.units+8<cLine) (n:Nat):zX X (.builtin "sorted") (agG X.K QY jQ (fun t=>inS n t=true)):=
 agH [] QY jQ (.type "tuple") _ SetAt (fun I _ r rv kp=>qP I r rv kp) (fun {h u x} hx sx=>by
  obtain ⟨a,o,k,vs,e1,e2,e3,e4,pa⟩:=sx.ex
  simp only [inS,Bool.and_eq_true,decide_eq_true_eq] at hx
  cases vs with
  | nil=>
   cases (show x=[] from pa)
   simp at hx
   omega
  | cons v vs=>
   obtain ⟨p,r,b,rfl,rfl,pp,_⟩:=pa
   obtain ⟨b',ob,k',t,t',f1,f2,f3,f4⟩:=pp.ex
   cases f1
   exact ⟨a,o,_,k,.ref b,e1,e2,e3,e4,rfl,fun M A Q E s kp q=>wpAny_typeOf (⟨ob,kp _ _ f2,f3⟩:s.TypeIs (.ref b) "tuple") q⟩) rfl fun hx hy xu xv h=>ao9 hu hx hy xu xv h
end
noncomputable def abm:PyData->Option (Int × Int)
 | .tuple [.int p,.int q]=>some (p,q)
 | _=>none
noncomputable def qv:LP->Option (List (Int × Int))
 | []=>some []
 | d::ds=>(abm d).bind fun t=>(qv ds).map fun ts=>t::ts
theorem Z4:∀ {ds:LP}{ts:List (Int × Int)},qv ds=some ts->ds=ts.map zM
 | [],ts,h=>by cases h; rfl
 | d::ds,ts,h=>by
  cases h1:abm d with
  | none=>simp [qv,h1] at h
  | some t=>
   cases h2:qv ds with
   | none=>simp [qv,h1,h2] at h
   | some r=>
    have:t::r=ts:=by simpa [qv,h1,h2] using h
    subst this
    have hd:d=zM t:=by
     unfold abm at h1
     split at h1
     ·cases h1; rfl
     ·cases h1
    rw [hd,Z4 h2]; rfl
theorem aa8:∀ (ts:List (Int × Int)),qv (ts.map zM)=some ts
 | []=>rfl
 | t::ts=>by
  show (some t).bind (fun t=>(qv (ts.map zM)).map fun ts=>t::ts)=_
  rw [aa8 ts]; rfl
noncomputable def agJ:PyData->Option (List (Int × Int))
 | .tuple ds=>qv ds
 | _=>none
noncomputable def Jx:LP->Option (List (List (Int × Int)))
 | []=>some []
 | d::ds=>(agJ d).bind fun t=>(Jx ds).map fun ts=>t::ts
theorem acd:∀ {ds:LP}{ts:List (List (Int × Int))},Jx ds=some ts->ds=ts.map QY
 | [],ts,h=>by cases h; rfl
 | d::ds,ts,h=>by
  cases h1:agJ d with
  | none=>simp [Jx,h1] at h
  | some t=>
   cases h2:Jx ds with
   | none=>simp [Jx,h1,h2] at h
   | some r=>
    have:t::r=ts:=by simpa [Jx,h1,h2] using h
    subst this
    have hd:d=QY t:=by
     unfold agJ at h1
     split at h1
     ·rw [Z4 h1]; rfl
     ·cases h1
    rw [hd,acd h2]; rfl
theorem adu:∀ (ts:List (List (Int × Int))),Jx (ts.map QY)=some ts
 | []=>rfl
 | t::ts=>by
  show (qv (t.map zM)).bind (fun t=>(Jx (ts.map QY)).map fun ts=>t::ts)=_
  rw [aa8 t,adu ts]; rfl
noncomputable def akX (ss:List (List (Int × Int))):Bool:=decide (ss.length<64) && ss.all (inS ((ss.head?.getD []).length))
noncomputable def aef (ds:LP):OP:=match ds with
 | [.list xs]=>(Jx xs).bind fun ts=>if akX ts=true then some (.list ((aa5 jQ ts).map QY)) else none
 | _=>none
theorem akY {X:Cx} (hu:X.A.in1.in1.units+8<cLine):ZQ X (.builtin "sorted") aef:=by
 refine ⟨fun vs H Q=>∃ n,agG X.K QY jQ (fun t=>inS n t=true) vs H Q,fun Kp s σ H vs us Q I r ⟨n,h⟩=>agI hu n Kp s σ H vs us Q I r h,fun ds d xs H Q h r k=>?_⟩
 unfold aef at h
 split at h
 ·rename_i ys
  cases hp:Jx ys with
  | none=>simp [hp] at h
  | some ps=>
   by_cases hc:akX ps=true
   ·have:PyData.list ((aa5 jQ ps).map QY)=d:=by simpa [hp,hc] using h
    subst this
    obtain ⟨x,q,e1,e2,e3⟩:=r
    cases (show q=[] from e3)
    obtain ⟨a,us,g1,g2,g3⟩:=e2
    subst g1
    rw [acd hp] at g3
    simp only [akX,Bool.and_eq_true,decide_eq_true_eq,List.all_eq_true] at hc
    refine ⟨_,a,us,ps,e1,g2,g3,hc.1,hc.2,fun qs p1 p2 l zs hl hz=>?_⟩
    have:qs=aa5 jQ ps:=aa7 p2 (Qt jQ ps) (p1.trans (Jw jQ ps).symm) fun p hp q hq e=>by
     have i1:=hc.2 p (p1.mem_iff.mp hp)
     have i2:=hc.2 q (p1.mem_iff.mp hq)
     simp only [inS,Bool.and_eq_true,decide_eq_true_eq] at i1 i2
     exact adt (by omega) i1.2 i2.2 e
    subst this
    exact k _ _ (jx hl) ⟨l,zs,rfl,jq,Reps.mono (jx hl) _ _ hz⟩
   ·simp [hp,hc] at h
 ·cases h
theorem apa {prog:Program}{w:World}{A:Around} (hh:A.handled=none) (g:Bool) (it t:Addr) (hne:t ≠ it) (xs:Array Value):
  Draws prog w A it [it,t] xs.size (fun i v=>xs[i]?=some v) (fun i h=>ItA g h it t i/\SrA g h t xs):=
 ⟨fun _ _ st=>by obtain ⟨o,_,e,_⟩:=st.1.obj; exact ⟨o,e⟩,
  fun _ _ _ st kp=>⟨st.1.to fun o e=>kp it (by simp) o e,st.2.to fun o e=>kp t (by simp) o e⟩,
  fun i s Q E hi st hQ=>Qr st.1 st.2 (x:=xs[i]) (by simp [hi]) fun h' q sb=>hQ _ h' s.toks (by simp [hi]) ⟨q,st.2.extBut sb.extBut hne⟩ sb,
  fun s Q E st hE=>Ze hh st.1 st.2 (by simp) hE⟩
noncomputable def enO (it:Addr):Obj:={ cls:= .type "enumerate",data:= .fields #[.none,.bool false,.ref it,rawInt 0,.none,.none] }
set_option maxHeartbeats 4000000 in
theorem aiZ (g:Bool) (a:Addr) (xs:Array Value):
  Meets (Builtin.«enumerate.__new__» ⟨[.type "enumerate",.ref a],[]⟩) (fun _ R s=>SrA g s.heap a xs/\
   R (.ok (.ret (.ref (qh1 g s.heap a).objs.size))) { s with heap:=(qh1 g s.heap a).push (enO s.heap.objs.size) }):=
 .of_wp fun prog w A R s h=>by
  obtain ⟨hp,g2,d,tk,os⟩:=s
  obtain ⟨h1,h⟩:=h
  have hsub:=sub_enumerate
  have k1:SrA g (Shared.heap ⟨hp,g2,d,tk,os⟩) a xs:=h1
  wp_walk
  refine wpAny_stack_any fun st=>wpAny_pure ?_
  split
  ·rename_i c _ _ _ _ _
   cases (c == Value.type "enumerate")
   ·wp_walk using Z1 k1
    exact ⟨_,rfl,h⟩
   ·wp_walk using Z1 k1
    exact ⟨_,rfl,h⟩
  ·wp_walk using Z1 k1
   exact ⟨_,rfl,h⟩
noncomputable def aqI (K:Fg) (g:Bool) (l:Addr):It:=
 ⟨fun i H=>∃ xs x,Sq g K H l xs/\xs[i]?=some x,
  fun i H u H'=>∃ p x,u= .ref p/\H p=none/\H'=upd H p (.tup [.int (i:Int),x])/\∀ xs,Sq g K H l xs->xs[i]?=some x,
  fun i H=>∃ xs,Sq g K H l xs/\xs.length<=i⟩
theorem agK {P:Program}{w:World}{K:Fg}{g:Bool}{elts:List Expr}{x1:Nat}{pos:Pos}{e it l:Addr} (hei:e ≠ it) (hl0:l ≠ e/\l ≠ it):
  Turn P w K (.Tuple elts x1 pos) (aqI K g l) [e,it] e (fun i h=>(∃ old,IsEnum h e it i old)/\ItA g h it l i) where
 mem:=by simp
 obj:=fun i h st b hb=>by
  obtain ⟨⟨old,he⟩,hi⟩:=st
  obtain ⟨o,vs,ho,hd⟩:=hi.obj
  simp only [List.mem_cons,List.not_mem_nil,or_false] at hb
  rcases hb with rfl | rfl
  ·exact ⟨_,he,fun v q=>by cases q⟩
  ·exact ⟨o,ho,fun v q=>by rw [hd] at q; cases q⟩
 keep:=fun i h h' st k=>by
  obtain ⟨⟨old,he⟩,hi⟩:=st
  exact ⟨⟨old,k e (by simp) _ he⟩,hi.to fun o q=>k it (by simp) o q⟩
 item:=by
  intro X hP hw hK hc i Kp s σ H E I hf st hg
  subst hP hw hK
  obtain ⟨xs,x,q1,ex⟩:=hg
  obtain ⟨us1,r1,p1⟩:=q1.inv I
  obtain ⟨u1,m1,l1⟩:=r1.get ex
  obtain ⟨⟨old,he⟩,hit⟩:=st
  have hi:i<us1.toArray.size:=by
   have:=(List.getElem?_eq_some_iff.mp m1).1
   simpa using this
  refine wpAny_pyNext_enum_itemD (apa (A:=X.A.in1) (show X.A.in1.handled=none from I.ok.hd hc) g it l hl0.2 us1.toArray) he ⟨hit,p1⟩ hi hei (by simp only [List.mem_cons,List.not_mem_nil,or_false,not_or]; exact ⟨hei,hl0.1.symm⟩) fun x1 h1 tk hx1 ho hit1 hT hsz hk=>⟨_,rfl,?_⟩
  have hx1:x1=u1:=by
   have:us1[i]?=some x1:=by simpa using hx1
   rw [m1] at this
   exact (Option.some.inj this).symm
  subst hx1
  have hit1:=hit1.1
  refine wpAny_letOwnedTupleGo_enum (s:={ s with heap:=h1,toks:=tk+1 }) ho fun h2 he2 hs2=>?_
  have nT:H s.heap.objs.size=none:=I.hok.fresh (Nat.le_refl _)
  have elt:e<s.heap.objs.size:=Heap.lt_size he
  have B2:∀ b o,b ∉ [e,it]->s.heap.get? b=some o->h2.get? b=some o:=fun b o hb q=>by
   simp only [List.mem_cons,List.not_mem_nil,or_false,not_or] at hb
   exact (hs2.2 b hb.1).trans (hk b o hb.1 hb.2 q)
  have T2:h2.get? s.heap.objs.size=some { cls:= .type "tuple",data:= .seq #[.int i tk,x1] }:=(hs2.2 _ (Nat.ne_of_gt elt)).trans hT
  have hit2:ItA g h2 it l (i+1):=hit1.to fun o ho'=>(hs2.2 it hei.symm).trans ho'
  have ntr:∀ b u,H b=some u->b ∉ [e,it]:=fun b u q hb=>by
   have:=(hf b hb).1
   rw [q] at this; cases this
  have neT:∀ b u,H b=some u->b ≠ s.heap.objs.size:=fun b u e q=>by rw [q,nT] at e; cases e
  have hok2:HOk X.prog X.w (upd H s.heap.objs.size (.tup [.int (i:Int),x])) h2:=fun b u q=>by
   by_cases hb:b=s.heap.objs.size
   ·subst hb
    rw [jq] at q
    cases q
    exact ⟨by show 2<=sizeLine; rw [sizeLine_eq]; decide,[.int i tk,x1],.cons ⟨_,rfl⟩ (.cons l1 .nil),⟨_,T2,rfl,_,rfl⟩⟩
   ·rw [jo hb] at q
    refine (I.hok b u q).stay (fun c o hc' z=>B2 c o ?_ z) (fun c z=>by rw [jo (neT c _ z)]; exact z) fun c ws z=>by rw [jo (neT c _ z)]; exact z
    rcases hc' with q' | q'
    ·rw [q']; exact ntr b u q
    ·exact ntr c _ q'
  have I2:Inv X Kp σ (upd H s.heap.objs.size (.tup [.int (i:Int),x])) { s with heap:=h2,toks:=tk+1 }:=by
   refine I.step (t':=tk+1) (g':=s.gens) (d':=s.drawn) (ch:=[e,it]) (fun b hb=>?_) (fun b o _ _ hb q _=>B2 b o hb q) (fun b o _ _ hb q _=>⟨o.slots,B2 b o hb q⟩) (fun b o hb q n=>?_) (fun b o hb q=>⟨o,B2 b o hb q⟩)
    (fun b ws q=>by rw [jo (neT b _ q)]; exact q) (fun b ob ws q=>by rw [jo (neT b _ q)]; exact q) (fun b ps q=>⟨#[],by rw [jo (neT b _ q),q]; simp⟩) (fun m hm=>?_) hok2 I.bare
   ·obtain ⟨f0,f1,f2,f3,f4,f5⟩:=hf b hb
    exact ⟨f3,f1,f4,f5⟩
   ·rw [jo (Nat.ne_of_lt (Heap.lt_size q))]; exact n
   ·obtain ⟨o,es,ep,ho',r⟩:=hm
    refine ⟨o,es,ep,B2 _ o (fun hb=>?_) ho',r⟩
    exact (hf _ hb).2.1 rfl
  refine ⟨.ref s.heap.objs.size,_,I2,rfl,⟨_,x,rfl,nT,rfl,fun as g1=>?_⟩,⟨⟨_,by simpa using he2⟩,hit2⟩,fun b hb=>?_⟩
  ·rw [Sq.inj I g1 q1]; exact ex
  ·have hlt:b<s.heap.objs.size:=by
    simp only [List.mem_cons,List.not_mem_nil,or_false] at hb
    rcases hb with rfl | rfl
    ·exact elt
    ·obtain ⟨o,vs,ho',_⟩:=hit.obj; exact Heap.lt_size ho'
   rw [jo (Nat.ne_of_lt hlt)]
   exact (hf b hb).1
 done:=by
  intro X hP hw hK hc i Kp s σ H E I hf st hg
  subst hP hw hK
  obtain ⟨xs,q1,hl⟩:=hg
  obtain ⟨us1,r1,p1⟩:=q1.inv I
  have hlen:=r1.length
  obtain ⟨⟨old,he⟩,hit⟩:=st
  refine wpAny_pyNext_enum_endD (n:=i) (fp:=[it,l]) (P:=fun _ _=>False) (St:=fun k h=>k=i/\ItA g h it l i/\SrA g h l us1.toArray) ⟨fun _ _ st=>by obtain ⟨o,_,e,_⟩:=st.2.1.obj; exact ⟨o,e⟩,fun _ _ _ st kp=>⟨st.1,st.2.1.to fun o e=>kp it (by simp) o e,st.2.2.to fun o e=>kp l (by simp) o e⟩,fun k s Q E hk st=>absurd st.1 (by omega),fun s Q E st hE=>Ze (show X.A.in1.handled=none from I.ok.hd hc) st.2.1 st.2.2 (by simp; omega) hE⟩ he ⟨rfl,hit,p1⟩ fun h1 hx=>⟨rfl,?_⟩
  have ntr:∀ b u,H b=some u->b ≠ it:=fun b u q hb=>by
   have:=(hf it (by simp)).1
   rw [hb] at q
   rw [q] at this; cases this
  refine I.step (t':=s.toks) (g':=s.gens) (d':=s.drawn) (ch:=[it]) (fun b hb=>?_) (fun b o _ _ hb q _=>hx b o (by simpa using hb) q) (fun b o _ _ hb q _=>⟨o.slots,hx b o (by simpa using hb) q⟩) (fun b o hb q n=>n) (fun b o hb q=>⟨o,hx b o (by simpa using hb) q⟩)
   (fun b ws q=>q) (fun b ob ws q=>q) (fun b ps q=>⟨#[],by rw [q]; simp⟩) (fun m hm=>?_) (fun b u q=>?_) I.bare
  ·obtain ⟨f0,f1,f2,f3,f4,f5⟩:=hf b (by simp only [List.mem_cons,List.not_mem_nil,or_false] at hb ⊢; exact .inr hb)
   exact ⟨f3,f1,f4,f5⟩
  ·obtain ⟨o,es,ep,ho,r⟩:=hm
   refine ⟨o,es,ep,hx _ o (fun hb=>?_) ho,r⟩
   exact (hf it (by simp)).2.1 hb.symm
  ·refine (I.hok b u q).stay (fun c o hc' z=>hx c o ?_ z) (fun c z=>z) fun c ws z=>z
   rcases hc' with q' | q'
   ·rw [q']; exact ntr b u q
   ·exact ntr c _ q'
 self:=fun _ _ _ _ _ st h=>by
  obtain ⟨⟨old,he⟩,_⟩:=st
  exact wpAny_pyIter_enum he h
section
variable {X:Cx}
noncomputable def apb (K:Fg) (ta:TA):TI:=fun σ H R=>ta σ H fun vs H1=>∃ g a xs,vs=[.ref a]/\Sq g K H1 a xs/\R (aqI K g a) H1
theorem akZ {ea:Expr}{elts:List Expr}{x1:Nat}{tp:Pos}{ta:TA}{p pos:Pos} (hg:Gl X "enumerate") (hm:X.mg "enumerate"=none) (ha:PA X [ea] ta)
  (hs:starEach [ea] X.env=[(false,eval ea X.env)]:=by rfl):
  PI X (.Tuple elts x1 tp) (.Call (.Name "enumerate" p) [ea] [] pos) (apb X.K ta):=by
 intro Kp s σ H R I h
 refine Call_ (Zx I hg hm boot_enumerate (PyProof.Rows.callWith_type1 (thn (ha pos Kp s σ H _ I h) fun us s1 ⟨vs,H1,I1,r1,q1⟩=>?_) (by rw [hs]; rfl) (by rfl)))
 obtain ⟨g,a,xs,e,q1,q⟩:=q1
 subst e
 cases r1 with
 | cons r1 rr=>
  cases rr
  cases r1
  obtain ⟨us1,v1,p1⟩:=q1.inv I1
  have al:a<s1.heap.objs.size:=by
   cases g with
   | true=>obtain ⟨o,e,_⟩:=p1; exact Heap.lt_size e
   | false=>obtain ⟨o,e,_⟩:=p1; exact Heap.lt_size e
  have hz:(qh1 g s1.heap a).objs.size=s1.heap.objs.size+1:=Heap.size_push ..
  refine callType_new F.called_enumerate (by decide) (F.typeCall_enumerate_1 _) (F.newCall_enumerate_1 _) (fun obj=>F.args_object_init_2 obj _) F.entry_enumerate_new (aiZ g a us1.toArray) ⟨p1,?_⟩
  have he:IsEnum ((qh1 g s1.heap a).push (enO s1.heap.objs.size)) (qh1 g s1.heap a).objs.size s1.heap.objs.size 0 .none:=Heap.get?_push_size (qh1 g s1.heap a) (o:=enO s1.heap.objs.size) rfl
  have hit:ItA g ((qh1 g s1.heap a).push (enO s1.heap.objs.size)) s1.heap.objs.size a 0:=agD (Heap.get?_push_of_some _ (Heap.get?_push_size _ (ab3 g a)))
  have kp:∀ b o,s1.heap.get? b=some o->((qh1 g s1.heap a).push (enO s1.heap.objs.size)).get? b=some o:=fun b o e=>Heap.get?_push_of_some _ (Heap.get?_push_of_some _ e)
  show _/\_
  refine ⟨⟨_,he,rfl⟩,?_⟩
  rw [hz] at he ⊢
  refine wpAny_pyIter_enum he ?_
  have I2:Inv X Kp σ H1 { s1 with heap:=(qh1 g s1.heap a).push (enO s1.heap.objs.size) }:=I1.kept (t':=s1.toks) kp
  refine ⟨_,[s1.heap.objs.size+1,s1.heap.objs.size],_,_,H1,rfl,I2,agK (g:=g) (e:=s1.heap.objs.size+1) (it:=s1.heap.objs.size) (l:=a) (Nat.succ_ne_self _) ⟨Nat.ne_of_lt (Nat.lt_succ_of_lt al),Nat.ne_of_lt al⟩,⟨⟨_,he⟩,hit⟩,fun x hx=>?_,q⟩
  have hle:s1.heap.objs.size<=x:=by
   simp only [List.mem_cons,List.not_mem_nil,or_false] at hx
   rcases hx with e | e <;> rw [e] <;> omega
  exact I1.fpOk hle (I1.hok.fresh hle)
noncomputable def afq (ds:LP):Option (LP):=match ds with
 | [p]=>(ab4 p).map (QX 0)
 | _=>none
theorem adv {ea:Expr}{elts:List Expr}{x1:Nat}{tp:Pos}{p pos:Pos}{fr:Rho->Option (LP)} (hm:X.mg "enumerate"=none) (ha:PAD X [ea] fr) (hg:Gl X "enumerate":=by rfl)
  (hs:starEach [ea] X.env=[(false,eval ea X.env)]:=by rfl):
  PID X (.Tuple elts x1 tp) (.Call (.Name "enumerate" p) [ea] [] pos) (fun ρ=>(fr ρ).bind afq):=by
 with_unfolding_all
  refine PI.imp (akZ hg hm ha hs) fun σ H R ⟨ρ,ds,en,q,k⟩=>?_
  cases h1:fr ρ with
  | none=>simp [h1] at q
  | some as=>
   have q':afq as=some ds:=by simpa [h1] using q
   refine ⟨ρ,as,en,h1,fun vs H1 s1 r1=>?_⟩
   unfold afq at q'
   split at q'
   ·rename_i dp
    cases hp:ab4 dp with
    | none=>simp [hp] at q'
    | some xs=>
    simp only [hp,zzE,Option.some.injEq] at q'
    subst q'
    obtain ⟨v1,w1,e1,rp,e4⟩:=r1
    cases (show w1=[] from e4)
    obtain ⟨g,a,us,g1,qa,ra⟩:=ab5 hp rp
    subst g1
    have l1:=ra.length
    have lz:=adq xs 0
    refine ⟨g,a,us,e1,qa,k _ H1 s1 fun i H2 s2=>⟨fun hi=>?_,fun hi=>?_,fun u H3 y=>?_⟩⟩
    ·rw [lz] at hi
     exact ⟨us,us[i]'(by omega),Sq.monoA s2 qa,by simp <;> omega⟩
    ·rw [lz] at hi
     exact ⟨us,Sq.monoA s2 qa,by omega⟩
    ·obtain ⟨pp,x,e5,e6,e7,e8⟩:=y
     subst e5; subst e7
     refine ⟨jx e6,fun d hd=>?_⟩
     obtain ⟨dx,g3,g4⟩:=ads xs 0 i d hd
     subst g4
     have f1:=e8 us (Sq.monoA s2 qa)
     have m:=s2.trans (jt.a (jx (o:= .tup [.int (i:Int),x]) e6))
     obtain ⟨x',a1,a2⟩:=(Reps.monoA m _ _ ra).get g3
     rw [f1] at a1; cases a1
     exact ⟨pp,[.int (i:Int),x],rfl,SqT.of jq,_,_,rfl,by show V.int (i:Int)=V.int ((0+i:Nat):Int); rw [Nat.zero_add],x,_,rfl,a2,rfl⟩
   ·cases q'
end
section
variable {prog:Program}{w:World}{A:Around}{E:Value->SP0}{s:Shared}
end
section
variable {X:Cx}{a:Expr}{fa:RP}{pos p1 p2 p3:Pos}{j:Nat}
theorem Reps.rev {K:Fg}{H:Hp}{ds:LP}{xs:List V} (h:Reps K H ds xs):Reps K H ds.reverse xs.reverse:=by
 have app:∀ {as bs:LP} {us vs:List V},Reps K H as us->Reps K H bs vs->Reps K H (as++bs) (us++vs):=by
  intro as
  induction as with
  | nil=>intro bs us vs h1 h2; cases (show us=[] from h1); exact h2
  | cons d as ih=>
   intro bs us vs ⟨x,r,e,h1,h2⟩ h3
   subst e
   exact ⟨x,r++vs,rfl,h1,ih h2 h3⟩
 induction ds generalizing xs with
 | nil=>cases (show xs=[] from h); rfl
 | cons d ds ih=>
  obtain ⟨x,r,rfl,h1,h2⟩:=h
  rw [List.reverse_cons,List.reverse_cons]
  exact app (ih h2) ⟨x,[],rfl,h1,rfl⟩
end
section
variable {X:Cx}{e b ev:Expr}{qh:List Stmt}{fe fk fv:RP}{G:RO}{pos pos2:Pos}
end
section
variable {X:Cx}
theorem aa9:∀ ns:List Int,qN (ns.map PyData.int)=some ns
 | []=>rfl
 | n::ns=>by simp [qN,acL,aa9 ns]
theorem RepM.ints {K:Fg}{H:Hp}:∀ {r:List (PyData × PyData)}{ks:List (Key × V)}{ns:List Int},RepM K H r ks->qN (r.map (·.1))=some ns->ks.map (·.1)=ns.map (fun n=>(Sum.inl n:Key))
 | [],ks,ns,h,e=>by cases (show ks=[] from h); cases e; rfl
 | (k,c)::r,ks,ns,⟨i,x,s,h1,h2,h3,h4⟩,e=>by
  subst h1; subst h2
  have e':=Jj e
  cases ns with
  | nil=>simp at e'
  | cons n ns=>
   rw [List.map_cons,List.map_cons] at e'
   obtain ⟨e1,e2⟩:=List.cons.inj e'
   have e1:i=Sum.inl n:=by
    cases i with
    | inl i=>exact congrArg _ (by injection e1)
    | inr t=>cases e1
   have e3:qN (r.map (·.1))=some ns:=by rw [e2]; exact aa9 ns
   rw [List.map_cons,List.map_cons,RepM.ints h4 e3,e1]
end
section
variable {X:Cx}{σ:St}{H:Hp}{s:Shared}{h':Heap}{e C:Addr}{E:Value->SP0}{A:Around}
end
section
variable {X:Cx}{e a b c:Expr}{es:List Expr}{pos:Pos}
end
section
variable {prog:Program}{w:World}{A:Around}{s:Shared}{R:Result->SP0}
end
section
variable {X:Cx}{tg src:Expr}
end
section
variable {X:Cx}{e:Expr}{st:Stmt}{qh:List Stmt}{fa:RP}{G F:RO}{pos:Pos}
end
section
variable {X:Cx}{e a b c:Expr}{fa fb fc:RP}{pos p2:Pos}
end
section
variable {X:Cx}{own:Option Nat}{e a b c tg src:Expr}{body:List Stmt}{F:RO}{pos:Pos}
variable {es:List Expr}
end
end BX
end
local macro_rules
  | `(tactic| dsimp? [$xs,*])=>`(tactic| simp only [BX.j2,BX.ifS,BX.ifD,BX.ifX,BX.QJ,BX.orB,BX.zU,BX.tst,BX.op2,BX.chn,BX.jP,BX.Qj,BX.JG,BX.jr,BX.jJ,BX.lkp,BX.cst,BX.qO,BX.abg,BX.zA,BX.jE,BX.qG,BX.nxX,BX.orX,BX.akO,BX.agj,BX.asB,zzA,zzB,zzC,zzD,zzH,zzE,zzI,zzF,zzG,zzJ,zzK,zzL,zzM,zzN,$(⟨xs.elemsAndSeps⟩),*])
section
namespace Rods
open PySem L2 BX
open PyProof.Rows hiding St
noncomputable def top (i:Nat):Stmt:=PySem.Challenge.pw_beadrods_k24_whole_nearest.main.body.getD i (.Pass ⟨0,0,0,0⟩)
structure Bare (mg:SV):Prop where
 isi:mg "isinstance"=none
 bool:mg "bool"=none
 int:mg "int"=none
 tuple:mg "tuple"=none
 zip:mg "zip"=none
 range:mg "range"=none
 all:mg "all"=none
 len:mg "len"=none
 max:mg "max"=none
 min:mg "min"=none
 sum:mg "sum"=none
 sorted:mg "sorted"=none
 abs:mg "abs"=none
 list:mg "list"=none
 enum:mg "enumerate"=none
 vale:mg "ValueError"=none
 str:mg "str"=none
 set:mg "set"=none
 dict:mg "dict"=none
theorem am9:bootBuiltins "bool"=some (.type "bool"):=by decide +kernel
theorem apc:bootBuiltins "int"=some (.type "int"):=by decide +kernel
theorem Z5:bootBuiltins "tuple"=some (.type "tuple"):=by decide +kernel
theorem ana:bootBuiltins "list"=some (.type "list"):=by decide +kernel
theorem ak0:bootBuiltins "all"=some (.builtin "all"):=by decide +kernel
theorem za:bootBuiltins "len"=some (.builtin "len"):=by decide +kernel
theorem ago:bootBuiltins "max"=some (.builtin "max"):=by decide +kernel
theorem agn:bootBuiltins "min"=some (.builtin "min"):=by decide +kernel
theorem apd:bootBuiltins "sum"=some (.builtin "sum"):=by decide +kernel
theorem ai0:bootBuiltins "sorted"=some (.builtin "sorted"):=by decide +kernel
theorem agL:bootBuiltins "abs"=some (.builtin "abs"):=by decide +kernel
noncomputable abbrev Z6:Stmt:=top 7
noncomputable abbrev Zf:Stmt:=top 16
noncomputable abbrev Z7:Stmt:=top 15
noncomputable abbrev qM (C:Program->World->Fg->(SV)->Heap->Prop) (qual:Str) (st:Stmt) (N:List Str) (k:Nat) (B:RO):Prop:=
 ∀ (P:Program) (w:World) (K:Fg) (mg:SV) (base:Heap) (f:Addr) (Kc:Value) (A:Around) (Ko:List Env) (s:Shared) (H:Hp) (E:XK),C P w K mg base->Room k (A.deeper (envOfC qual (jn st) s.heap.objs.size f Kc))->
  abN (abB CX0 P w K mg base N qual (jn st) f Kc A Ko s H E).nox (jN st) B
theorem agM:FnScope ["thing","least","most"] ["thing","least","most"] (jn Z6):=⟨rfl,rfl,rfl,by decide +kernel,rfl,by decide +kernel,by decide +kernel⟩
noncomputable def Z8:{ B:RO // qM (fun _ _ _ mg _=>Bare mg) "is_whole" Z6 ["thing","least","most"] 0 B }:=
 ⟨_,fun P w K mg base f Kc A Ko s H E T hr=>
  jd (jY (qI (JW (qA (aaD (.inl rfl) T.isi T.bool am9 (jb 0))) (zG (qF (qA (aaD (.inr (.inl rfl)) T.isi T.int apc (jb 0))))))) (jd (jw zo) jf) jf)
  (jd (jw (akg aaB aaB (jb 1) (jb 0) (jb 2))) jf)⟩
noncomputable def jR:LP->OP:=jB ["thing","least","most"] 3 Z8.1
theorem afr:FnScope ["manner","rod"] ["manner","rod"] (jn Zf):=⟨rfl,rfl,rfl,by decide +kernel,rfl,by decide +kernel,by decide +kernel⟩
noncomputable def aaI:{ B:RO // qM (fun _ _ _ _ _=>True) "rod_worth" Zf ["manner","rod"] 0 B }:=
 ⟨_,fun P w K mg base f Kc A Ko s H E T hr=>
  jd (jw (ju jA (ju qS (jU (jb 1) ji) (jU (jb 0) ji)) (jU (jb 1) ji))) jf⟩
noncomputable def qT:LP->OP:=jB ["manner","rod"] 2 aaI.1
noncomputable def Jy (i:Nat) (m:Nat):LP:=(List.range m).map fun (j:Nat)=>PyData.tuple [.int (i:Int),.int (j:Int)]
noncomputable def JL (n m:Nat):LP:=(List.range n).flatMap fun (i:Nat)=>Jy i m
theorem afs (i m:Nat):Jy i (m+1)=Jy i m++[PyData.tuple [.int (i:Int),.int (m:Int)]]:=by simp [Jy,List.range_succ]
theorem ZC (n m:Nat):JL (n+1) m=JL n m++Jy n m:=by simp [JL,List.range_succ]
theorem aft (i m:Nat):noLs (Jy i m)=true:=QP fun d hd=>by
 obtain ⟨j,_,rfl⟩:=List.mem_map.mp hd
 simp [noL,noLs]
theorem ai1 (n m:Nat):noLs (JL n m)=true:=by
 induction n with
 | zero=>simp [JL,noLs]
 | succ n ih=>rw [ZC,QO,ih,aft]; rfl
theorem ahN (i m:Nat):(Jy i m).length=m:=by simp [Jy]
theorem ace (n m:Nat):(JL n m).length=n*m:=by
 induction n with
 | zero=>simp [JL]
 | succ n ih=>rw [ZC,List.length_append,ih,ahN,Nat.succ_mul]
noncomputable def zO (ds:LP):OP:=match ds with
 | [.tuple [.int u,.int _,.int l,.int _]]=>if 0<=u/\u<1000/\0<=l/\l<1000 then some (.list (JL (u+1).toNat (l+1).toNat)) else none
 | _=>none
theorem Qv:FnScope ["manner","rods","upper","lower"] ["manner"] (jn Z7):=⟨rfl,rfl,rfl,by decide +kernel,rfl,by decide +kernel,by decide +kernel⟩
section
variable {P:Program}{w:World}{K:Fg}{mg:SV}{base:Heap}
theorem agN {f:Addr}{fd:FuncData} (F:Fun K "all_rods" "all_rods" Z7 f fd) (T:Bare mg):FnOk P w K mg base CX0 1 f fd ["manner"] (Pur K 1 zO):=by
 with_unfolding_all
  refine F.ok Qv (fun vs H Q E h=>?_) (fun Kc A Ko s H vs Q E hr h=>?_)
  ·obtain ⟨ds,d,h1,h2,_⟩:=h
   rw [h2.length]; exact h1
  ·obtain ⟨ds,d,h1,h2,h3,k⟩:=h
   unfold zO at h3
   split at h3
   ·rename_i u e l b
    split at h3
    ·rename_i hb
     obtain ⟨hu0,hu1,hl0,hl1⟩:=hb
     cases h3
     refine ⟨_,QF (adV (i:=1) Qv.nd rfl (Or.inl rfl) (age QG))
      (QF (adW PassesOwn.never rfl (aar rfl T.range (ja (ju jA (jU (jb 0) ji) ji) je)) (ZM (i:=2) Qv.nd rfl (Or.inl rfl))
       (adT (adW PassesOwn.never rfl (aar rfl T.range (ja (ju jA (jU (jb 0) ji) ji) je)) (ZM (i:=3) Qv.nd rfl (Or.inl rfl))
        (adT (adU (aj2 PySem.F.plainAttrs_list PySem.F.slot_list_append PySem.F.type_list_append ac7 (pv 1) (zF (ajX (zF (pv 2) (zF (pv 3) QG))) QG)))))))
      (adT (af7 (pv 1)))),?_⟩
     obtain ⟨mv,rr,e1,em,e2⟩:=h2
     cases (show rr=[] from e2)
     subst e1
     have nm:noL (PyData.tuple [.int u,.int e,.int l,.int b])=true:=by simp [noL,noLs]
     refine ⟨Nat.zero_le _,fun p hp=>?_⟩
     have envr:∀ {H2:Hp} {x2 x3:Option V} {y:Option V},jt H H2->EnvR K H2 [some (PyData.tuple [.int u,.int e,.int l,.int b]),none,none,none] [some mv,y,x2,x3]:=fun {H2 x2 x3 y} s2=>
      ⟨rfl,fun i d q=>by
       cases i with
       | zero=>cases q; exact ⟨mv,rfl,Rep.mono s2 _ _ em⟩
       | succ i=>
        match i,q with
        | 0,q=>cases q
        | 1,q=>cases q
        | 2,q=>cases q
        | j+3,q=>simp at q⟩
     refine ⟨_,[.int (u+1)],envr (jx hp),by simp [jr,jJ,op2,lkp,dIx,atI,ixN,cst,Qb],fun vs1 H1 s1 r1=>?_⟩
     obtain ⟨y1,q1,f1,f2,f3⟩:=r1
     cases (show y1=V.int (u+1) from f2)
     cases (show q1=[] from f3)
     subst f1
     refine ⟨u+1,rfl,by omega,by omega,ac1 (n:=(u+1).toNat) (fun i σ H2=>∃ x2 x3 xs,σ=[some mv,some (.ref p),x2,x3]/\jt H H2/\H2 p=some (.lst xs)/\Reps K H2 (JL i (l+1).toNat) xs)
      ⟨none,none,[],rfl,(jx hp).trans s1,s1 _ _ jq,rfl⟩ ?_ ?_⟩
     ·rintro i σ H2 hi ⟨x2,x3,xs,rfl,s2,hp2,r2⟩
      refine ⟨_,[.int (l+1)],envr s2,by simp [jr,jJ,op2,lkp,dIx,atI,ixN,cst,Qb],fun vs2 H3 s3 r3=>?_⟩
      obtain ⟨y2,q2,g1,g2,g3⟩:=r3
      cases (show y2=V.int (l+1) from g2)
      cases (show q2=[] from g3)
      subst g1
      refine ⟨l+1,rfl,by omega,by omega,ac1 (n:=(l+1).toNat) (fun j σ H4=>∃ x3 ys,σ=[some mv,some (.ref p),some (.int (0+i)),x3]/\jt H H4/\H4 p=some (.lst ys)/\Reps K H4 (JL i (l+1).toNat++Jy i j) ys)
       ⟨x3,xs,rfl,s2.trans s3,s3 _ _ hp2,by simpa [Jy] using Reps.mono s3 _ _ r2⟩ ?_ ?_⟩
      ·rintro j σ H4 hj ⟨x3',ys,rfl,s4,hp4,r4⟩
       have hlen:ys.length<sizeLine:=by
        rw [r4.length,List.length_append,ace,ahN,sizeLine_eq]
        have h1:i*(l+1).toNat<=1000*1001:=Nat.mul_le_mul (by omega) (by omega)
        omega
       refine ⟨_,rfl,.inl ⟨rfl,ys,SqL.of hp4⟩,_,rfl,_,rfl,by show 2<=sizeLine; rw [sizeLine_eq]; decide,fun q hq=>?_⟩
       have npq:p ≠ q:=qE hp4 hq
       refine ⟨p,ys,.ref q,rfl,rfl,by rw [jo npq]; exact hp4,hlen,?_⟩
       have t1:zx H4 (upd (upd H4 q (.tup [.int (0+(i:Int)),.int (0+(j:Int))])) p (.lst (ys++[.ref q]))):=
        (jt.n (jx hq)).trans (zx.upd (xs:=ys) (by rw [jo npq]; exact hp4))
       refine ⟨_,ys++[.ref q],rfl,fun c o hc=>?_,jq,?_⟩
       ·have hc4:=s4 c o hc
        rw [jo (qE hc hp),jo (qE hc4 hq)]
        exact hc4
       ·rw [afs,←List.append_assoc]
        refine (Reps.monoN t1 _ _ (by rw [QO,ai1,aft]; rfl) r4).append ⟨.ref q,[],rfl,⟨q,_,rfl,SqT.of (by rw [jo (Ne.symm npq)]; exact jq),?_⟩,rfl⟩
        exact ⟨_,_,rfl,by show _=V.int _; rw [Int.zero_add],_,_,rfl,by show _=V.int _; rw [Int.zero_add],rfl⟩
      ·rintro σ H4 ⟨x3',ys,rfl,s4,hp4,r4⟩
       exact ⟨_,x3',ys,rfl,s4,hp4,by rw [ZC]; exact r4⟩
     ·rintro σ H2 ⟨x2,x3,xs,rfl,s2,hp2,r2⟩
      exact ⟨_,rfl,k _ _ s2 ⟨p,xs,rfl,hp2,r2⟩⟩
    ·cases h3
   ·cases h3
end
noncomputable abbrev Zg:Stmt:=top 12
noncomputable abbrev Zh:Stmt:=top 11
noncomputable abbrev CC:=Program->World->Fg->(SV)->Heap->Prop
structure CHasAll (P:Program) (w:World) (K:Fg) (mg:SV) (base:Heap):Prop where
 t:Bare mg
 allRods:jk P w K mg base "all_rods" ["manner"] 1 1 zO
 rodWorth:jk P w K mg base "rod_worth" ["manner","rod"] 1 2 qT
theorem adw:FnScope ["manner","worths"] ["manner"] (jn Zg):=⟨rfl,rfl,rfl,by decide +kernel,rfl,by decide +kernel,by decide +kernel⟩
theorem nd2:(["rod","manner"]:List Str).Nodup:=by decide +kernel
theorem nd3:(["digit","worths"]:List Str).Nodup:=by decide +kernel
noncomputable def aeg:{ B:RO // qM CHasAll "has_all_digits" Zg ["manner","worths"] 1 B }:=
 ⟨_,fun P w K mg base f Kc A Ko s H E C hr=>
  jd (jy 1 adw.nd (zZ ["rod","manner"] [none,some 0] rfl (abP (jh C.allRods hr (Nat.le_refl _) (ja (jb 0) je) (jc jm))) (zI (jn Zg) ["manner","worths"] (by decide +kernel))
   fun cl C' s0 H0 fp pn=>⟨jT 0 nd2,Jq,jh C.rodWorth hr (Nat.le_refl _) (ja (jb 1) (ja (jb 0) je)) (jc (jc jm))⟩))
  (jd (jw (jH (akj rfl) C.t.all ak0 (ja (zZ ["digit","worths"] [none,some 1] rfl (Qm rfl C.t.range (ja (jU (jb 0) ji) je)) (zI (jn Zg) ["manner","worths"] (by decide +kernel))
   fun cl C' s0 H0 fp pn=>⟨jT 0 nd3,Jq,Jp (aoV hr.units) (jb 0) (jb 1)⟩) je))) jf)⟩
noncomputable abbrev aeh:Stmt:=top 13
noncomputable def GC (K:Fg) (mg:SV) (x:Str) (d:PyData):Prop:=∃ v u,mg x=some u/\jK v u/\∀ H,Rep K H d v
theorem Zv {X:Cx}{pos:Pos}{x:Str}{d:PyData} (c:GC X.K X.mg x d) (hg:Gl X x:=by rfl) (hd:(x == ("__debug__":Str))=false:=by decide):PD X (.Name x pos) (cst d):=by
 with_unfolding_all
  obtain ⟨v,u,h1,h2,h3⟩:=c
  exact amI hg h1 h2 h3 hd
noncomputable def Z9:LP->OP:=jB ["manner","worths"] 1 aeg.1
structure CIsManner (P:Program) (w:World) (K:Fg) (mg:SV) (base:Heap):Prop where
 t:Bare mg
 least:GC K mg "LEAST_PARTS" (.tuple [.int 0,.int 1,.int 0,.int 2])
 most:GC K mg "MOST_PARTS" (.tuple [.int 3,.int 16,.int 12,.int 16])
 isWhole:jk P w K mg base "is_whole" ["thing","least","most"] 1 3 jR
 hasAll:jk P w K mg base "has_all_digits" ["manner"] 2 1 Z9
theorem JM:FnScope ["thing","part","least","most"] ["thing"] (jn Zh):=⟨rfl,rfl,rfl,by decide +kernel,rfl,by decide +kernel,by decide +kernel⟩
noncomputable def aaJ:{ B:RO // qM CIsManner "is_manner" Zh ["thing","part","least","most"] 2 B }:=
 ⟨_,fun P w K mg base f Kc A Ko s H E C hr=>
  jd (jY (qI (JW (qF (qA (aaD (.inr (.inr rfl)) C.t.isi C.t.tuple Z5 (jb 0)))) (zG (jL (qL hr.units) (jH qZ C.t.len za (ja (jb 0) je)) (jH qZ C.t.len za (ja (Zv C.most) je)))))) (jd (jw zo) jf) jf)
  (jd (JK PassesOwn.never rfl (akn C.t.zip (ja (jb 0) (ja (Zv C.least) (ja (Zv C.most) je)))) (ahz (n:=3) rfl (J9 (jT 1 JM.nd) (J9 (jT 2 JM.nd) (J9 (jT 3 JM.nd) ae3))))
   (jd (jY (qF (qA (jh C.isWhole hr (by decide) (ja (jb 1) (ja (jb 2) (ja (jb 3) je))) (jc (jc (jc jm)))))) (jd (jw zo) jf) jf) jf))
  (jd (jw (jh C.hasAll hr (Nat.le_refl _) (ja (jb 0) je) (jc jm))) jf))⟩
noncomputable def Jk:LP->OP:=jB ["thing","part","least","most"] 1 aaJ.1
structure CCheck (P:Program) (w:World) (K:Fg) (mg:SV) (base:Heap):Prop where
 isManner:jk P w K mg base "is_manner" ["thing"] 3 1 Jk
theorem ak1:FnScope ["thing"] ["thing"] (jn aeh):=⟨rfl,rfl,rfl,by decide +kernel,rfl,by decide +kernel,by decide +kernel⟩
noncomputable def agO:{ B:RO // qM CCheck "check_manner" aeh ["thing"] 3 B }:=
 ⟨_,fun P w K mg base f Kc A Ko s H E C hr=>
  jd (jY (qF (qA (jh C.isManner hr (Nat.le_refl _) (ja (jb 0) je) (jc jm)))) Qk jf) jf⟩
noncomputable def ZD:LP->OP:=jB ["thing"] 1 agO.1
noncomputable abbrev Qw:Stmt:=top 22
noncomputable abbrev Jb:Stmt:=top 23
noncomputable abbrev JN:Stmt:=top 24
noncomputable abbrev Jl:Stmt:=top 26
noncomputable abbrev Zi:Stmt:=top 27
noncomputable abbrev Jm:Stmt:=top 28
noncomputable abbrev acf (C:CC) (qual:Str) (st:Stmt) (N:List Str) (k:Nat) (sts:List Stmt) (B:RO):Prop:=
 ∀ (P:Program) (w:World) (K:Fg) (mg:SV) (base:Heap) (f:Addr) (Kc:Value) (A:Around) (Ko:List Env) (s:Shared) (H:Hp) (E:XK),C P w K mg base->Room k (A.deeper (envOfC qual (jn st) s.heap.objs.size f Kc))->
  abN (abB CX0 P w K mg base N qual (jn st) f Kc A Ko s H E).nox sts B
noncomputable abbrev aaa (own:Nat) (C:CC) (qual:Str) (st:Stmt) (N:List Str) (k:Nat) (sts:List Stmt) (B:RO):Prop:=
 ∀ (P:Program) (w:World) (K:Fg) (mg:SV) (base:Heap) (f:Addr) (Kc:Value) (A:Around) (Ko:List Env) (s:Shared) (H:Hp) (E:XK),C P w K mg base->Room k (A.deeper (envOfC qual (jn st) s.heap.objs.size f Kc))->
  acO (abB CX0 P w K mg base N qual (jn st) f Kc A Ko s H E).nox (some own) sts B
noncomputable def j7:Stmt->List Stmt
 | .For _ _ b _ _=>b
 | _=>[]
noncomputable def JH (l:List Stmt) (i:Nat):Stmt:=l.getD i (.Pass ⟨0,0,0,0⟩)
structure CNum (P:Program) (w:World) (K:Fg) (mg:SV) (base:Heap):Prop where
 rodWorth:jk P w K mg base "rod_worth" ["manner","rod"] 1 2 qT
noncomputable abbrev anb:List Str:=["manner","setting","number","rod"]
theorem aei:FnScope anb ["manner","setting"] (jn Jl):=⟨rfl,rfl,rfl,by decide +kernel,rfl,by decide +kernel,by decide +kernel⟩
noncomputable def aej:{ B:RO // acf CNum "number_on" Jl anb 1 (j7 (JH (jN Jl) 1)) B }:=
 ⟨_,fun P w K mg base f Kc A Ko s H E C hr=>
  jd (jy 2 aei.nd (ju jA (ju qS (jb 2) (jU (jb 0) ji)) (jh C.rodWorth hr (Nat.le_refl _) (ja (jb 0) (ja (jb 3) je)) (jc (jc jm))))) jf⟩
noncomputable def anc:{ B:RO // qM CNum "number_on" Jl anb 1 B }:=
 ⟨_,fun P w K mg base f Kc A Ko s H E C hr=>
  jd (jy 2 aei.nd ji) (jd (JK PassesOwn.never rfl (ad2 (jb 1)) (jT 3 aei.nd) (aej.2 P w K mg base f Kc A Ko s H E C hr)) (jd (jw (jb 2)) jf))⟩
noncomputable def afu:LP->OP:=jB anb 2 anc.1
theorem ane:FnScope ["manner","rods"] ["manner","rods"] (jn Zi):=⟨rfl,rfl,rfl,by decide +kernel,rfl,by decide +kernel,by decide +kernel⟩
noncomputable def ahO:{ B:RO // qM (fun _ _ _ _ _=>True) "full_rods" Zi ["manner","rods"] 0 B }:=
 ⟨_,fun P w K mg base f Kc A Ko s H E C hr=>
  jd (jw (ju akC (qY (ja (qY (ja (jU (jb 0) ji) (ja (jU (jb 0) ji) je))) je)) (jb 1))) jf⟩
noncomputable def ak2:LP->OP:=jB ["manner","rods"] 2 ahO.1
structure CLast (P:Program) (w:World) (K:Fg) (mg:SV) (base:Heap):Prop where
 allRods:jk P w K mg base "all_rods" ["manner"] 1 1 zO
 rodWorth:jk P w K mg base "rod_worth" ["manner","rod"] 1 2 qT
 num:jk P w K mg base "number_on" ["manner","setting"] 2 2 afu
 full:jk P w K mg base "full_rods" ["manner","rods"] 1 2 ak2
noncomputable abbrev ahP:List Str:=["manner","ahead","number","base","most","told","rod","left"]
theorem Zj:FnScope ahP ["manner","ahead","number"] (jn Jm):=⟨rfl,rfl,rfl,by decide +kernel,rfl,by decide +kernel,by decide +kernel⟩
noncomputable def Zk:{ B:RO // aaa 5 CLast "last_rods" Jm ahP 2 (j7 (JH (jN Jm) 3)) B }:=
 ⟨_,fun P w K mg base f Kc A Ko s H E C hr=>
  jC (ahI 7 Zj.nd (ju zH (jb 2) (jh C.rodWorth hr (by decide) (ja (jb 0) (ja (jb 6) je)) (jc (jc jm)))))
  (jC (aku (qI (ahy (jL (Jr hr.units) (ju Qn (jb 7) (jb 3)) ji) (ae2 (adc aaB aaB ji (jb 7) (ju qS (jb 3) (jb 4))))))
   (jC (ad7 (aiN 5 (qY (ja (jb 6) (ja (ju QM (jb 7) (jb 3)) je))))) j6) j6) j6)⟩
noncomputable def ahQ:{ B:RO // qM CLast "last_rods" Jm ahP 2 B }:=
 ⟨_,fun P w K mg base f Kc A Ko s H E C hr=>
  QR (jC (adi (jy 3 Zj.nd (jU (jb 0) ji)))
  (jC (adi (jy 4 Zj.nd (jh C.num hr (Nat.le_refl _) (ja (jb 0) (ja (jh C.full hr (by decide) (ja (jb 0) (ja (jb 1) je)) (jc (jc jm))) je)) (jc (jc jm)))))
  (QU 5 Zj.nd (agv je)
  (jC (Ja PassesOwn.never rfl (abP (jh C.allRods hr (by decide) (ja (jb 0) je) (jc jm))) (QS 6 Zj.nd) (Zk.2 P w K mg base f Kc A Ko s H E C hr))
  (jC (ZV (jb 5)) j6)))))⟩
noncomputable def afv:LP->OP:=jB ahP 3 ahQ.1
structure CChkRods (P:Program) (w:World) (K:Fg) (mg:SV) (base:Heap):Prop where
 isWhole:jk P w K mg base "is_whole" ["thing","least","most"] 1 3 jR
 most:GC K mg "MOST_RODS" (.int 4)
theorem agP:FnScope ["rods"] ["rods"] (jn Qw):=⟨rfl,rfl,rfl,by decide +kernel,rfl,by decide +kernel,by decide +kernel⟩
noncomputable def acg:{ B:RO // qM CChkRods "check_rods" Qw ["rods"] 1 B }:=
 ⟨_,fun P w K mg base f Kc A Ko s H E C hr=>
  jd (jY (qF (qA (jh C.isWhole hr (Nat.le_refl _) (ja (jb 0) (ja ji (ja (Zv C.most) je))) (jc (jc (jc jm)))))) Qk jf) jf⟩
noncomputable def QZ:LP->OP:=jB ["rods"] 1 acg.1
structure CChkNum (P:Program) (w:World) (K:Fg) (mg:SV) (base:Heap):Prop where
 isWhole:jk P w K mg base "is_whole" ["thing","least","most"] 1 3 jR
 most:GC K mg "MOST_NUMBER" (.int 99999)
theorem ai2:FnScope ["number"] ["number"] (jn Jb):=⟨rfl,rfl,rfl,by decide +kernel,rfl,by decide +kernel,by decide +kernel⟩
noncomputable def aek:{ B:RO // qM CChkNum "check_number" Jb ["number"] 1 B }:=
 ⟨_,fun P w K mg base f Kc A Ko s H E C hr=>
  jd (jY (qF (qA (jh C.isWhole hr (Nat.le_refl _) (ja (jb 0) (ja ji (ja (Zv C.most) je))) (jc (jc (jc jm)))))) Qk jf) jf⟩
noncomputable def Jc:LP->OP:=jB ["number"] 1 aek.1
structure CAsked (P:Program) (w:World) (K:Fg) (mg:SV) (base:Heap):Prop where
 check:jk P w K mg base "check_manner" ["thing"] 4 1 ZD
 rods:jk P w K mg base "check_rods" ["rods"] 2 1 QZ
 num:jk P w K mg base "check_number" ["number"] 2 1 Jc
theorem ak3:FnScope ["manner","rods","number"] ["manner","rods","number"] (jn JN):=⟨rfl,rfl,rfl,by decide +kernel,rfl,by decide +kernel,by decide +kernel⟩
noncomputable def agQ:{ B:RO // qM CAsked "check_asked" JN ["manner","rods","number"] 4 B }:=
 ⟨_,fun P w K mg base f Kc A Ko s H E C hr=>
  jd (qm (jh C.check hr (Nat.le_refl _) (ja (jb 0) je) (jc jm)))
  (jd (qm (jh C.rods hr (by decide) (ja (jb 1) je) (jc jm)))
  (jd (qm (jh C.num hr (by decide) (ja (jb 2) je) (jc jm))) jf))⟩
noncomputable def ach:LP->OP:=jB ["manner","rods","number"] 3 agQ.1
noncomputable abbrev ael:Stmt:=top 14
noncomputable abbrev Jz:Stmt:=top 20
noncomputable abbrev zJ:Stmt:=top 21
noncomputable def apR:Stmt->List Stmt
 | .While _ b _ _=>b
 | _=>[]
structure CIsRod (P:Program) (w:World) (K:Fg) (mg:SV) (base:Heap):Prop where
 t:Bare mg
 isWhole:jk P w K mg base "is_whole" ["thing","least","most"] 1 3 jR
theorem ak4:FnScope ["manner","thing"] ["manner","thing"] (jn ael):=⟨rfl,rfl,rfl,by decide +kernel,rfl,by decide +kernel,by decide +kernel⟩
noncomputable def aaK:{ B:RO // qM CIsRod "is_rod" ael ["manner","thing"] 1 B }:=
 ⟨_,fun P w K mg base f Kc A Ko s H E C hr=>
  jd (jY (qI (JW (qF (qA (aaD (.inr (.inr rfl)) C.t.isi C.t.tuple Z5 (jb 1)))) (zG (jL (qL hr.units) (jH qZ C.t.len za (ja (jb 1) je)) ji)))) (jd (jw zo) jf) jf)
  (jd (jw (agB (jh C.isWhole hr (Nat.le_refl _) (ja (jU (jb 1) ji) (ja ji (ja (jU (jb 0) ji) je))) (jc (jc (jc jm)))) (aeb (jh C.isWhole hr (Nat.le_refl _) (ja (jU (jb 1) ji) (ja ji (ja (jU (jb 0) ji) je))) (jc (jc (jc jm))))))) jf)⟩
noncomputable def JY:LP->OP:=jB ["manner","thing"] 2 aaK.1
structure CIsSet (P:Program) (w:World) (K:Fg) (mg:SV) (base:Heap):Prop where
 t:Bare mg
 check:jk P w K mg base "check_manner" ["thing"] 4 1 ZD
 isRod:jk P w K mg base "is_rod" ["manner","thing"] 2 2 JY
 most:GC K mg "MOST_RODS" (.int 4)
theorem ak5:FnScope ["manner","thing"] ["manner","thing"] (jn Jz):=⟨rfl,rfl,rfl,by decide +kernel,rfl,by decide +kernel,by decide +kernel⟩
theorem ndp:(["part","manner"]:List Str).Nodup:=by decide +kernel
noncomputable def aaL:{ B:RO // qM CIsSet "is_setting" Jz ["manner","thing"] 4 B }:=
 ⟨_,fun P w K mg base f Kc A Ko s H E C hr=>
  jd (qm (jh C.check hr (Nat.le_refl _) (ja (jb 0) je) (jc jm)))
  (jd (jY (qI (JW (qF (qA (aaD (.inr (.inr rfl)) C.t.isi C.t.tuple Z5 (jb 1)))) (zG (qF (adc aaB aaB ji (jH qZ C.t.len za (ja (jb 1) je)) (Zv C.most)))))) (jd (jw zo) jf) jf)
  (jd (jw (jH (akj rfl) C.t.all ak0 (ja (zZ ["part","manner"] [none,some 0] rfl (ad2 (jb 1)) (zI (jn Jz) ["manner","thing"] (by decide +kernel))
   fun cl C' s0 H0 fp pn=>⟨jT 0 ndp,Jq,jh C.isRod hr (by decide) (ja (jb 1) (ja (jb 0) je)) (jc (jc jm))⟩) je))) jf))⟩
noncomputable def aem:LP->OP:=jB ["manner","thing"] 2 aaL.1
structure CChkSet (P:Program) (w:World) (K:Fg) (mg:SV) (base:Heap):Prop where
 isSet:jk P w K mg base "is_setting" ["manner","thing"] 5 2 aem
theorem ai3:FnScope ["manner","thing"] ["manner","thing"] (jn zJ):=⟨rfl,rfl,rfl,by decide +kernel,rfl,by decide +kernel,by decide +kernel⟩
noncomputable def abn:{ B:RO // qM CChkSet "check_setting" zJ ["manner","thing"] 5 B }:=
 ⟨_,fun P w K mg base f Kc A Ko s H E C hr=>
  jd (jY (qF (qA (jh C.isSet hr (Nat.le_refl _) (ja (jb 0) (ja (jb 1) je)) (jc (jc jm))))) Qk jf) jf⟩
noncomputable def qe:LP->OP:=jB ["manner","thing"] 2 abn.1
noncomputable abbrev aen:Stmt:=top 25
noncomputable abbrev ahR:Stmt:=top 50
noncomputable abbrev aeo:Stmt:=top 51
noncomputable abbrev abo:Stmt:=top 52
noncomputable abbrev Qc:Stmt:=top 53
noncomputable abbrev nMS:List Str:=["manner","setting"]
structure CValue (P:Program) (w:World) (K:Fg) (mg:SV) (base:Heap):Prop where
 check:jk P w K mg base "check_setting" ["manner","thing"] 6 2 qe
 num:jk P w K mg base "number_on" ["manner","setting"] 2 2 afu
theorem ak6:FnScope nMS nMS (jn aen):=⟨rfl,rfl,rfl,by decide +kernel,rfl,by decide +kernel,by decide +kernel⟩
noncomputable def agR:{ B:RO // qM CValue "value" aen nMS 6 B }:=
 ⟨_,fun P w K mg base f Kc A Ko s H E C hr=>
  jd (qm (jh C.check hr (by decide) (ja (jb 0) (ja (jb 1) je)) (jc (jc jm)))) (jd (jw (jh C.num hr (by decide) (ja (jb 0) (ja (jb 1) je)) (jc (jc jm)))) jf)⟩
noncomputable def ZE:LP->OP:=jB nMS 2 agR.1
theorem anf:FnScope ["_law_script","_law_k"] ["_law_script","_law_k"] (jn ahR):=⟨rfl,rfl,rfl,by decide +kernel,rfl,by decide +kernel,by decide +kernel⟩
noncomputable def ahS:{ B:RO // qM (fun _ _ _ mg _=>Bare mg) "_law_cell" ahR ["_law_script","_law_k"] 0 B }:=
 ⟨_,fun P w K mg base f Kc A Ko s H E C hr=>
  jd (jY (jL (Jr hr.units) (jb 0) (zz je)) (jd (jw (ju qS ji (jb 1))) jf) jf)
  (jd (jw (ju jA (jU (jb 0) (ju Qn (jb 1) (jH qZ C.len za (ja (jb 0) je)))) (ju qS ji (ju QM (jb 1) (jH qZ C.len za (ja (jb 0) je)))))) jf)⟩
noncomputable def afw:LP->OP:=jB ["_law_script","_law_k"] 2 ahS.1
structure CDrawn (P:Program) (w:World) (K:Fg) (mg:SV) (base:Heap):Prop where
 cell:jk P w K mg base "_law_cell" ["_law_script","_law_k"] 1 2 afw
theorem aci:FnScope ["_law_script","_law_k","_law_many","_law_cell_here"] ["_law_script","_law_k","_law_many"] (jn aeo):=⟨rfl,rfl,rfl,by decide +kernel,rfl,by decide +kernel,by decide +kernel⟩
noncomputable def agS:{ B:RO // qM CDrawn "_law_drawn" aeo ["_law_script","_law_k","_law_many","_law_cell_here"] 1 B }:=
 ⟨_,fun P w K mg base f Kc A Ko s H E C hr=>
  jd (jy 3 aci.nd (ju Qn (ju jA (ju qS (ju Qn (jh C.cell hr (Nat.le_refl _) (ja (jb 0) (ja (jb 1) je)) (jc (jc jm))) ji) ji) (ju qS ji (ju jA (jb 1) ji))) ji))
  (jd (jy 3 aci.nd (ju Qn (ju jA (ju qS (jb 3) (jb 3)) (ju QM (jb 3) ji)) ji))
  (jd (jw (ju Qn (ju QM (ju Qn (ju jA (ju qS (jb 3) (jb 3)) (ju QM (jb 3) ji)) ji) ji) (jb 2))) jf))⟩
noncomputable def JA:LP->OP:=jB ["_law_script","_law_k","_law_many","_law_cell_here"] 3 agS.1
noncomputable abbrev aep:List Str:=["_law_script","_law_at","_law_known","_law_way","_law_each","_law_upper","_law_lower"]
structure CManner (P:Program) (w:World) (K:Fg) (mg:SV) (base:Heap):Prop where
 t:Bare mg
 drawn:jk P w K mg base "_law_drawn" ["_law_script","_law_k","_law_many"] 2 3 JA
theorem zB:FnScope aep ["_law_script","_law_at"] (jn abo):=⟨rfl,rfl,rfl,by decide +kernel,rfl,by decide +kernel,by decide +kernel⟩
noncomputable def jp (a b c d:Int):PyData:= .tuple [.int a,.int b,.int c,.int d]
noncomputable def aaM:LP:=[jp 1 5 4 10,jp 2 5 5 10,jp 0 1 9 10,jp 1 5 5 10,jp 0 1 10 10,jp 1 2 1 4,jp 0 1 1 2]
noncomputable def aaN:LP:=[jp 1 4 3 8,jp 1 3 2 5,jp 3 4 3 16,jp 2 3 2 7,jp 1 1 1 3]
noncomputable def abp:{ B:RO // qM CManner "_law_manner" abo aep 2 B }:=
 ⟨_,fun P w K mg base f Kc A Ko s H E C hr=>
  jd (jy 2 zB.nd (agt 3 (.list aaM) (by kernel_rfl)))
  (jd (jy 2 zB.nd (ju jA (jb 2) (agt 3 (.list aaN) (by kernel_rfl))))
  (jd (jy 3 zB.nd (jh C.drawn hr (Nat.le_refl _) (ja (jb 0) (ja (jb 1) (ja (ju qS ji (jH qZ C.t.len za (ja (jb 2) je))) je))) (jc (jc (jc jm)))))
  (jd (jY (jL agl (jb 3) (jH qZ C.t.len za (ja (jb 2) je))) (jd (jw (jU (jb 2) (jb 3))) jf) jf)
  (jd (jy 4 zB.nd (ju jA ji (jh C.drawn hr (Nat.le_refl _) (ja (jb 0) (ja (ju jA (jb 1) ji) (ja ji je))) (jc (jc (jc jm))))))
  (jd (jy 5 zB.nd (jh C.drawn hr (Nat.le_refl _) (ja (jb 0) (ja (ju jA (jb 1) ji) (ja ji je))) (jc (jc (jc jm)))))
  (jd (jy 6 zB.nd (ju jA (jH (ahB rfl) C.t.max ago (ja (ju zH (jb 4) ji) (ja ji je))) (jh C.drawn hr (Nat.le_refl _) (ja (jb 0) (ja (ju jA (jb 1) ji) (ja ji je))) (jc (jc (jc jm))))))
  (jd (jw (qY (ja (jb 5) (ja (jb 4) (ja (jb 6) (ja (ju jA ji (jh C.drawn hr (Nat.le_refl _) (ja (jb 0) (ja (ju jA (jb 1) ji) (ja (jH (amP rfl) C.t.min agn (ja ji (ja (ju jA (ju qS (jb 5) (jb 4)) (jb 6)) je))) je))) (jc (jc (jc jm))))) je)))))) jf)))))))⟩
noncomputable def Zl:LP->OP:=jB aep 2 abp.1
structure CSetting (P:Program) (w:World) (K:Fg) (mg:SV) (base:Heap):Prop where
 t:Bare mg
 drawn:jk P w K mg base "_law_drawn" ["_law_script","_law_k","_law_many"] 2 3 JA
noncomputable abbrev ang:List Str:=["_law_script","_law_at","_law_manner_here","_law_most","_law_rods","_law_found","_law_k","_law_rod"]
theorem aaO:FnScope ang ["_law_script","_law_at","_law_manner_here","_law_most"] (jn Qc):=⟨rfl,rfl,rfl,by decide +kernel,rfl,by decide +kernel,by decide +kernel⟩
noncomputable def aeq:{ B:RO // acf CSetting "_law_setting" Qc ang 2 (j7 (JH (jN Qc) 2)) B }:=
 ⟨_,fun P w K mg base f Kc A Ko s H E C hr=>
  (jd (jy 7 aaO.nd (qY (ja (jh C.drawn hr (by decide) (ja (jb 0) (ja (ju jA (ju jA (jb 1) ji) (ju qS ji (jb 6))) (ja (ju jA (jU (jb 2) ji) ji) je))) (jc (jc (jc jm)))) (ja (jh C.drawn hr (by decide) (ja (jb 0) (ja (ju jA (ju jA (jb 1) ji) (ju qS ji (jb 6))) (ja (ju jA (jU (jb 2) ji) ji) je))) (jc (jc (jc jm)))) je))))
  (jd (jy 5 aaO.nd (ju jA (jb 5) (qY (ja (jb 7) je))))
  jf))⟩
noncomputable def anh:{ B:RO // qM CSetting "_law_setting" Qc ang 2 B }:=
 ⟨_,fun P w K mg base f Kc A Ko s H E C hr=>
  (jd (jy 4 aaO.nd (ju jA ji (jh C.drawn hr (by decide) (ja (jb 0) (ja (jb 1) (ja (jb 3) je))) (jc (jc (jc jm))))))
  (jd (jy 5 aaO.nd (qY je))
  (jd (JK PassesOwn.never rfl (Qm rfl C.t.range (ja (jb 4) je)) (jT 6 aaO.nd) (aeq.2 P w K mg base f Kc A Ko s H E C hr))
  (jd (jw (jb 5))
  jf))))⟩
noncomputable def ani:LP->OP:=jB ang 4 anh.1
noncomputable abbrev arE (C:CC) (qual:Str) (st:Stmt) (N:List Str) (k:Nat) (Fx:Rho->Option Str):Prop:=
 ∀ (P:Program) (w:World) (K:Fg) (mg:SV) (base:Heap) (f:Addr) (Kc:Value) (A:Around) (Ko:List Env) (s:Shared) (H:Hp) (E:XK),C P w K mg base->Room k (A.deeper (envOfC qual (jn st) s.heap.objs.size f Kc))->
  aru (abB (CXt P w) P w K mg base N qual (jn st) f Kc A Ko s H E) (jN st) Fx
noncomputable def qQ (k:Bool):PyData:= .str (if k=true then "lower" else "upper")
noncomputable def mv (r:Int) (k:Bool) (c:Int):PyData:= .tuple [.int r,qQ k,.int c]
theorem QP {ds:LP} (h:∀ d ∈ ds,noL d=true):noLs ds=true:=by
 induction ds with
 | nil=>rfl
 | cons d ds ih=>simp only [noLs,h d List.mem_cons_self,ih fun c hc=>h c (List.mem_cons_of_mem _ hc),Bool.and_self]
noncomputable def ab (i:Int):Int:=if i<0 then -i else i
noncomputable def fd (p q:Int × Int):Int:=ab (q.1 - p.1)+ab (q.2 - p.2)
noncomputable abbrev JO:Stmt:=top 35
structure CNamesBeads (P:Program) (w:World) (K:Fg) (mg:SV) (base:Heap):Prop where
 t:Bare mg
 c_isWhole:jk P w K mg base "is_whole" ["thing","least","most"] 1 3 jR
 k_DECKS:GC K mg "DECKS" (.tuple [.str "upper",.str "lower"])
noncomputable abbrev Q1:List Str:=["setting","thing"]
theorem acT:FnScope Q1 ["setting","thing"] (jn JO):=⟨rfl,rfl,rfl,by decide +kernel,rfl,by decide +kernel,by decide +kernel⟩
noncomputable def qR:{ B:RO // qM CNamesBeads "names_beads" JO Q1 1 B }:=
 ⟨_,fun P w K mg base f Kc A Ko s H E C hr=>
  (jd (jY (qI (JW (qF (qA (aaD (.inr (.inr rfl)) C.t.isi C.t.tuple Z5 (jb 1)))) (zG (jL (qL hr.units) (jH qZ C.t.len za (ja (jb 1) je)) ji)))) (jd (jw zo)
  jf) jf)
  (jd (jY (qI (JW (qF (qA (jh C.c_isWhole hr (by decide) (ja (jU (jb 1) ji) (ja ji (ja (ju zH (jH qZ C.t.len za (ja (jb 0) je)) ji) je))) (jc (jc (jc jm)))))) (zG (jL (adb hr.units) (jU (jb 1) ji) (Zv C.k_DECKS))))) (jd (jw zo)
  jf) jf)
  (jd (jw (agB (jh C.c_isWhole hr (by decide) (ja (jU (jb 1) ji) (ja (aaE ji) (ja ji je))) (jc (jc (jc jm)))) (aeb (Jp (qL hr.units) (jU (jb 1) ji) ji))))
  jf)))⟩
noncomputable def JP:LP->OP:=jB Q1 2 qR.1
noncomputable abbrev abq:Stmt:=top 36
structure CPushed (P:Program) (w:World) (K:Fg) (mg:SV) (base:Heap):Prop where
 tr:True
noncomputable abbrev aer:List Str:=["rod","deck","by"]
theorem ai4:FnScope aer ["rod","deck","by"] (jn abq):=⟨rfl,rfl,rfl,by decide +kernel,rfl,by decide +kernel,by decide +kernel⟩
noncomputable def aab:{ B:RO // qM CPushed "pushed" abq aer 0 B }:=
 ⟨_,fun P w K mg base f Kc A Ko s H E C hr=>
  (jd (jY (jL (Jr hr.units) (jb 1) akd) (jd (jw (qY (ja (ju jA (jU (jb 0) ji) (jb 2)) (ja (jU (jb 0) ji) je))))
  jf) jf)
  (jd (jw (qY (ja (jU (jb 0) ji) (ja (ju jA (jU (jb 0) ji) (jb 2)) je))))
  jf))⟩
noncomputable def abr:LP->OP:=jB aer 3 aab.1
noncomputable abbrev aac:Stmt:=top 34
structure CCanMove (P:Program) (w:World) (K:Fg) (mg:SV) (base:Heap):Prop where
 c_NamesBeads:jk P w K mg base "names_beads" ["setting","thing"] 2 2 JP
 c_isRod:jk P w K mg base "is_rod" ["manner","thing"] 2 2 JY
 c_Pushed:jk P w K mg base "pushed" ["rod","deck","by"] 1 3 abr
noncomputable abbrev acj:List Str:=["manner","setting","thing"]
theorem agT:FnScope acj ["manner","setting","thing"] (jn aac):=⟨rfl,rfl,rfl,by decide +kernel,rfl,by decide +kernel,by decide +kernel⟩
noncomputable def aad:{ B:RO // qM CCanMove "can_move" aac acj 2 B }:=
 ⟨_,fun P w K mg base f Kc A Ko s H E C hr=>
  (jd (jY (qF (qA (jh C.c_NamesBeads hr (by decide) (ja (jb 1) (ja (jb 2) je)) (jc (jc jm))))) (jd (jw zo)
  jf) jf)
  (jd (jw (jh C.c_isRod hr (by decide) (ja (jb 0) (ja (jh C.c_Pushed hr (by decide) (ja (jU (jb 1) (jU (jb 2) ji)) (ja (jU (jb 2) ji) (ja (jU (jb 2) ji) je))) (jc (jc (jc jm)))) je)) (jc (jc jm))))
  jf))⟩
noncomputable def JB:LP->OP:=jB acj 3 aad.1
noncomputable abbrev JQ:Stmt:=top 37
structure CBehindMove (P:Program) (w:World) (K:Fg) (mg:SV) (base:Heap):Prop where
 c_Pushed:jk P w K mg base "pushed" ["rod","deck","by"] 1 3 abr
noncomputable abbrev Q2:List Str:=["setting","move","at"]
theorem Zw:FnScope Q2 ["setting","move"] (jn JQ):=⟨rfl,rfl,rfl,by decide +kernel,rfl,by decide +kernel,by decide +kernel⟩
noncomputable def JR:{ B:RO // qM CBehindMove "behind_move" JQ Q2 1 B }:=
 ⟨_,fun P w K mg base f Kc A Ko s H E C hr=>
  (jd (jy 2 Zw.nd (jU (jb 1) ji))
  (jd (jw (ju jA (ju jA (akQ (jb 0) (jb 2)) (qY (ja (jh C.c_Pushed hr (by decide) (ja (jU (jb 0) (jb 2)) (ja (jU (jb 1) ji) (ja (jU (jb 1) ji) je))) (jc (jc (jc jm)))) je))) (ab7 (jb 0) (ju jA (jb 2) ji))))
  jf))⟩
noncomputable def qD:LP->OP:=jB Q2 2 JR.1
noncomputable abbrev aes:Stmt:=top 38
structure CMoved (P:Program) (w:World) (K:Fg) (mg:SV) (base:Heap):Prop where
 c_chkSet:jk P w K mg base "check_setting" ["manner","thing"] 6 2 qe
 c_CanMove:jk P w K mg base "can_move" ["manner","setting","thing"] 3 3 JB
 c_BehindMove:jk P w K mg base "behind_move" ["setting","move"] 2 2 qD
noncomputable abbrev agU:List Str:=["manner","setting","move"]
theorem ak7:FnScope agU ["manner","setting","move"] (jn aes):=⟨rfl,rfl,rfl,by decide +kernel,rfl,by decide +kernel,by decide +kernel⟩
noncomputable def aet:{ B:RO // qM CMoved "moved" aes agU 6 B }:=
 ⟨_,fun P w K mg base f Kc A Ko s H E C hr=>
  (jd (qm (jh C.c_chkSet hr (by decide) (ja (jb 0) (ja (jb 1) je)) (jc (jc jm))))
  (jd (jY (qF (qA (jh C.c_CanMove hr (by decide) (ja (jb 0) (ja (jb 1) (ja (jb 2) je))) (jc (jc (jc jm)))))) (jd aax
  jf) jf)
  (jd (jw (jh C.c_BehindMove hr (by decide) (ja (jb 1) (ja (jb 2) je)) (jc (jc jm))))
  jf)))⟩
noncomputable def JC:LP->OP:=jB agU 3 aet.1
noncomputable abbrev qJ:Stmt:=top 39
structure CAllMoves (P:Program) (w:World) (K:Fg) (mg:SV) (base:Heap):Prop where
 t:Bare mg
 c_chkSet:jk P w K mg base "check_setting" ["manner","thing"] 6 2 qe
 c_CanMove:jk P w K mg base "can_move" ["manner","setting","thing"] 3 3 JB
 k_DECKS:GC K mg "DECKS" (.tuple [.str "upper",.str "lower"])
 k_WAYS:GC K mg "WAYS" (.tuple [.int 1,.int (-1)])
noncomputable abbrev zC:List Str:=["manner","setting","told","rod","deck","several"]
theorem zP:FnScope zC ["manner","setting"] (jn qJ):=⟨rfl,rfl,rfl,by decide +kernel,rfl,by decide +kernel,by decide +kernel⟩
theorem ak8:(["by","rod","deck"]:List Str).Nodup:=by decide +kernel
theorem ak9:(["move","manner","setting"]:List Str).Nodup:=by decide +kernel
noncomputable def ZF:{ B:RO // aaa 2 CAllMoves "all_moves" qJ zC 6 (j7 (JH (j7 (JH (jN qJ) 2)) 0)) B }:=
 ⟨_,fun P w K mg base f Kc A Ko s H E C hr=>
  (jC (akW 5 ["by","rod","deck"] [none,some 3,some 4] rfl zP.nd (zq (Zv C.k_WAYS)) (zI (jn qJ) zC (by decide +kernel))
   fun cl C' s0 H0 fp pn=>⟨(jT 0 ak8),Jq,(qY (ja (jb 1) (ja (jb 2) (ja (jb 0) je))))⟩)
  (jC (ad7 (adm 2 (zZ ["move","manner","setting"] [none,some 0,some 1] rfl (zq (jb 5)) (zI (jn qJ) zC (by decide +kernel))
   fun cl C' s0 H0 fp pn=>⟨(jT 0 ak9),(abR (qA (jh C.c_CanMove hr (by decide) (ja (jb 1) (ja (jb 2) (ja (jb 0) je))) (jc (jc (jc jm)))))),(jb 0)⟩)))
  j6))⟩
noncomputable def JD:{ B:RO // aaa 2 CAllMoves "all_moves" qJ zC 6 (j7 (JH (jN qJ) 2)) B }:=
 ⟨_,fun P w K mg base f Kc A Ko s H E C hr=>
  (jC (Ja PassesOwn.never rfl (zq (Zv C.k_DECKS)) (QS 4 zP.nd) (ZF.2 P w K mg base f Kc A Ko s H E C hr))
  j6)⟩
noncomputable def Zm:{ B:RO // qM CAllMoves "all_moves" qJ zC 6 B }:=
 ⟨_,fun P w K mg base f Kc A Ko s H E C hr=>
  (jd (qm (jh C.c_chkSet hr (by decide) (ja (jb 0) (ja (jb 1) je)) (jc (jc jm))))
  (QR (QU 2 zP.nd (agv je)
  (jC (Ja PassesOwn.never rfl (Qm rfl C.t.range (ja (jH qZ C.t.len za (ja (jb 1) je)) je)) (QS 3 zP.nd) (JD.2 P w K mg base f Kc A Ko s H E C hr))
  (jC (ZV (jb 2))
  j6)))))⟩
noncomputable def qK:LP->OP:=jB zC 2 Zm.1
noncomputable abbrev ai5:Stmt:=top 40
structure CRun (P:Program) (w:World) (K:Fg) (mg:SV) (base:Heap):Prop where
 t:Bare mg
 c_chkSet:jk P w K mg base "check_setting" ["manner","thing"] 6 2 qe
 c_Moved:jk P w K mg base "moved" ["manner","setting","move"] 7 3 JC
noncomputable abbrev anj:List Str:=["manner","setting","moves","now","move"]
theorem aeu:FnScope anj ["manner","setting","moves"] (jn ai5):=⟨rfl,rfl,rfl,by decide +kernel,rfl,by decide +kernel,by decide +kernel⟩
noncomputable def afx:{ B:RO // acf CRun "run" ai5 anj 7 (j7 (JH (jN ai5) 3)) B }:=
 ⟨_,fun P w K mg base f Kc A Ko s H E C hr=>
  (jd (jy 3 aeu.nd (jh C.c_Moved hr (by decide) (ja (jb 0) (ja (jb 3) (ja (jb 4) je))) (jc (jc (jc jm)))))
  jf)⟩
noncomputable def ank:{ B:RO // qM CRun "run" ai5 anj 7 B }:=
 ⟨_,fun P w K mg base f Kc A Ko s H E C hr=>
  (jd (qm (jh C.c_chkSet hr (by decide) (ja (jb 0) (ja (jb 1) je)) (jc (jc jm))))
  (jd (jY (qF (qA (am7 rfl C.t.isi C.t.list ana (jb 2)))) (jd aax
  jf) jf)
  (jd (jy 3 aeu.nd (jb 1))
  (jd (JK PassesOwn.never rfl (zq (jb 2)) (jT 4 aeu.nd) (afx.2 P w K mg base f Kc A Ko s H E C hr))
  (jd (jw (jb 3))
  jf)))))⟩
noncomputable def ala:LP->OP:=jB anj 3 ank.1
noncomputable abbrev Zn:Stmt:=top 42
structure CRodApart (P:Program) (w:World) (K:Fg) (mg:SV) (base:Heap):Prop where
 t:Bare mg
noncomputable abbrev aaP:List Str:=["rod","goal"]
theorem afy:FnScope aaP ["rod","goal"] (jn Zn):=⟨rfl,rfl,rfl,by decide +kernel,rfl,by decide +kernel,by decide +kernel⟩
noncomputable def Zo:{ B:RO // qM CRodApart "rod_apart" Zn aaP 0 B }:=
 ⟨_,fun P w K mg base f Kc A Ko s H E C hr=>
  (jd (jw (ju jA (jH agE C.t.abs agL (ja (ju zH (jU (jb 1) ji) (jU (jb 0) ji)) je)) (jH agE C.t.abs agL (ja (ju zH (jU (jb 1) ji) (jU (jb 0) ji)) je))))
  jf)⟩
noncomputable def Zp:LP->OP:=jB aaP 2 Zo.1
noncomputable abbrev ack:Stmt:=top 41
structure CApart (P:Program) (w:World) (K:Fg) (mg:SV) (base:Heap):Prop where
 t:Bare mg
 c_RodApart:jk P w K mg base "rod_apart" ["rod","goal"] 1 2 Zp
noncomputable abbrev aev:List Str:=["one","other"]
theorem alb:FnScope aev ["one","other"] (jn ack):=⟨rfl,rfl,rfl,by decide +kernel,rfl,by decide +kernel,by decide +kernel⟩
theorem afz:(["rod","goal"]:List Str).Nodup:=by decide +kernel
noncomputable def aew:{ B:RO // qM CApart "apart" ack aev 1 B }:=
 ⟨_,fun P w K mg base f Kc A Ko s H E C hr=>
  (jd (jw (jH (aoY rfl) C.t.sum apd (ja (zZ ["rod","goal"] [none,none] rfl (akK C.t.zip (ja (jb 0) (ja (jb 1) je))) (zI (jn ack) aev (by decide +kernel))
   fun cl C' s0 H0 fp pn=>⟨(ahz (n:=2) rfl (J9 (jT 0 afz) (J9 (jT 1 afz) ae3))),Jq,(jh C.c_RodApart hr (by decide) (ja (jb 0) (ja (jb 1) je)) (jc (jc jm)))⟩) je)))
  jf)⟩
noncomputable def JZ:LP->OP:=jB aev 2 aew.1
noncomputable abbrev Qx:Stmt:=top 44
structure CDeckMoves (P:Program) (w:World) (K:Fg) (mg:SV) (base:Heap):Prop where
 t:Bare mg
noncomputable abbrev ZG:List Str:=["at","deck","change","by"]
theorem aae:FnScope ZG ["at","deck","change"] (jn Qx):=⟨rfl,rfl,rfl,by decide +kernel,rfl,by decide +kernel,by decide +kernel⟩
noncomputable def JE:{ B:RO // qM CDeckMoves "deck_moves" Qx ZG 0 B }:=
 ⟨_,fun P w K mg base f Kc A Ko s H E C hr=>
  (jd (jy 3 aae.nd (aqq (jL aoW (jb 2) ji) ji (aaE ji)))
  (jd (jw (ju akM (zz (ja (qY (ja (jb 0) (ja (jb 1) (ja (jb 3) je)))) je)) (jH agE C.t.abs agL (ja (jb 2) je))))
  jf))⟩
noncomputable def ZH:LP->OP:=jB ZG 3 JE.1
noncomputable abbrev zQ:Stmt:=top 43
structure CMovesTo (P:Program) (w:World) (K:Fg) (mg:SV) (base:Heap):Prop where
 t:Bare mg
 c_chkSet:jk P w K mg base "check_setting" ["manner","thing"] 6 2 qe
 c_DeckMoves:jk P w K mg base "deck_moves" ["at","deck","change"] 1 3 ZH
 k_DECKS:GC K mg "DECKS" (.tuple [.str "upper",.str "lower"])
noncomputable abbrev Q3:List Str:=["manner","one","other","told","at","rod","deck","name"]
theorem zD:FnScope Q3 ["manner","one","other"] (jn zQ):=⟨rfl,rfl,rfl,by decide +kernel,rfl,by decide +kernel,by decide +kernel⟩
noncomputable def aaQ:{ B:RO // aaa 3 CMovesTo "moves_to" zQ Q3 6 (j7 (JH (j7 (JH (jN zQ) 4)) 0)) B }:=
 ⟨_,fun P w K mg base f Kc A Ko s H E C hr=>
  (jC (ad7 (adm 3 (jh C.c_DeckMoves hr (by decide) (ja (jb 4) (ja (jb 7) (ja (ju zH (jU (jU (jb 2) (jb 4)) (jb 6)) (jU (jb 5) (jb 6))) je))) (jc (jc (jc jm))))))
  j6)⟩
noncomputable def Qd:{ B:RO // aaa 3 CMovesTo "moves_to" zQ Q3 6 (j7 (JH (jN zQ) 4)) B }:=
 ⟨_,fun P w K mg base f Kc A Ko s H E C hr=>
  (jC (Ja PassesOwn.never rfl (adv C.t.enum (ja (Zv C.k_DECKS) je)) (abl (n:=2) rfl (zm 6 zD.nd (zm 7 zD.nd ZW))) (aaQ.2 P w K mg base f Kc A Ko s H E C hr))
  j6)⟩
noncomputable def aaf:{ B:RO // qM CMovesTo "moves_to" zQ Q3 6 B }:=
 ⟨_,fun P w K mg base f Kc A Ko s H E C hr=>
  (jd (qm (jh C.c_chkSet hr (by decide) (ja (jb 0) (ja (jb 1) je)) (jc (jc jm))))
  (jd (qm (jh C.c_chkSet hr (by decide) (ja (jb 0) (ja (jb 2) je)) (jc (jc jm))))
  (jd (jY (jL (qL hr.units) (jH qZ C.t.len za (ja (jb 1) je)) (jH qZ C.t.len za (ja (jb 2) je))) (jd aax
  jf) jf)
  (QR (QU 3 zD.nd (agv je)
  (jC (Ja PassesOwn.never rfl (adv C.t.enum (ja (jb 1) je)) (abl (n:=2) rfl (zm 4 zD.nd (zm 5 zD.nd ZW))) (Qd.2 P w K mg base f Kc A Ko s H E C hr))
  (jC (ZV (jb 3))
  j6)))))))⟩
noncomputable def Q4:LP->OP:=jB Q3 3 aaf.1
noncomputable abbrev qw:Stmt:=top 46
structure CNearestEnds (P:Program) (w:World) (K:Fg) (mg:SV) (base:Heap):Prop where
 c_last:jk P w K mg base "last_rods" ["manner","ahead","number"] 3 3 afv
 c_Apart:jk P w K mg base "apart" ["one","other"] 2 2 JZ
noncomputable abbrev zr:List Str:=["manner","setting","ahead","ends","here","longer","number","rod","left","end"]
theorem qo:FnScope zr ["manner","setting","ahead","ends"] (jn qw):=⟨rfl,rfl,rfl,by decide +kernel,rfl,by decide +kernel,by decide +kernel⟩
noncomputable def zK:{ B:RO // aaa 5 CNearestEnds "nearest_ends" qw zr 3 (j7 (JH (j7 (JH (jN qw) 2)) 0)) B }:=
 ⟨_,fun P w K mg base f Kc A Ko s H E C hr=>
  (jC (ahI 9 qo.nd (ju jA (qY (ja (jb 7) je)) (agy hr.units1 (jb 3) (jb 6))))
  (jC (aku (qI (JW (aiQ (akz hr.units1 (jb 8) (jb 5))) (zG (jL agl (jh C.c_Apart hr (by decide) (ja (jb 4) (ja (jb 9) je)) (jc (jc jm))) (jh C.c_Apart hr (by decide) (ja (jb 4) (ja (agy hr.units1 (jb 5) (jb 8)) je)) (jc (jc jm))))))) (jC (ahJ 5 hr.units1 (jb 8) (jb 9))
  j6) j6)
  j6))⟩
noncomputable def zf:{ B:RO // aaa 5 CNearestEnds "nearest_ends" qw zr 3 (j7 (JH (jN qw) 2)) B }:=
 ⟨_,fun P w K mg base f Kc A Ko s H E C hr=>
  (jC (Ja PassesOwn.never rfl (zq (jh C.c_last hr (by decide) (ja (jb 0) (ja (jb 2) (ja (jb 6) je))) (jc (jc (jc jm))))) (abl (n:=2) rfl (zm 7 qo.nd (zm 8 qo.nd ZW))) (zK.2 P w K mg base f Kc A Ko s H E C hr))
  j6)⟩
noncomputable def Jd:{ B:RO // qM CNearestEnds "nearest_ends" qw zr 3 B }:=
 ⟨_,fun P w K mg base f Kc A Ko s H E C hr=>
  (jd (jy 4 qo.nd (ab7 (jb 1) (jb 2)))
  (QR (QU 5 qo.nd afb
  (jC (Ja PassesOwn.never rfl (afe (jb 3)) (QS 6 qo.nd) (zf.2 P w K mg base f Kc A Ko s H E C hr))
  (jC (ZV (jb 5))
  j6)))))⟩
noncomputable def zt:LP->OP:=jB zr 4 Jd.1
noncomputable abbrev Qe:Stmt:=top 45
structure CNearest (P:Program) (w:World) (K:Fg) (mg:SV) (base:Heap):Prop where
 t:Bare mg
 c_chkSet:jk P w K mg base "check_setting" ["manner","thing"] 6 2 qe
 c_chkNum:jk P w K mg base "check_number" ["number"] 2 1 Jc
 c_NearestEnds:jk P w K mg base "nearest_ends" ["manner","setting","ahead","ends"] 4 4 zt
noncomputable abbrev aag:List Str:=["manner","setting","number","ends","ahead"]
theorem Qy:FnScope aag ["manner","setting","number"] (jn Qe):=⟨rfl,rfl,rfl,by decide +kernel,rfl,by decide +kernel,by decide +kernel⟩
noncomputable def Qf:{ B:RO // acf CNearest "nearest" Qe aag 6 (j7 (JH (jN Qe) 3)) B }:=
 ⟨_,fun P w K mg base f Kc A Ko s H E C hr=>
  (jd (jy 3 Qy.nd (jh C.c_NearestEnds hr (by decide) (ja (jb 0) (ja (jb 1) (ja (jb 4) (ja (jb 3) je)))) (jc (jc (jc (jc jm))))))
  jf)⟩
noncomputable def aah:{ B:RO // qM CNearest "nearest" Qe aag 6 B }:=
 ⟨_,fun P w K mg base f Kc A Ko s H E C hr=>
  (jd (qm (jh C.c_chkSet hr (by decide) (ja (jb 0) (ja (jb 1) je)) (jc (jc jm))))
  (jd (qm (jh C.c_chkNum hr (by decide) (ja (jb 2) je) (jc jm)))
  (jd (jy 3 Qy.nd (aff (jb 2) (qY je)))
  (jd (JK PassesOwn.never rfl (abZ rfl C.t.range (ja (ju zH (jH qZ C.t.len za (ja (jb 1) je)) ji) (ja (aaE ji) (ja (aaE ji) je)))) (jT 4 Qy.nd) (Qf.2 P w K mg base f Kc A Ko s H E C hr))
  (jd (jw (aky hr.units1 (jb 3) ji))
  jf)))))⟩
noncomputable def zg:LP->OP:=jB aag 3 aah.1
noncomputable abbrev Je:Stmt:=top 47
structure CFewestMoves (P:Program) (w:World) (K:Fg) (mg:SV) (base:Heap):Prop where
 c_Nearest:jk P w K mg base "nearest" ["manner","setting","number"] 7 3 zg
 c_Apart:jk P w K mg base "apart" ["one","other"] 2 2 JZ
noncomputable abbrev Qz:List Str:=["manner","setting","number","found"]
theorem Q5:FnScope Qz ["manner","setting","number"] (jn Je):=⟨rfl,rfl,rfl,by decide +kernel,rfl,by decide +kernel,by decide +kernel⟩
noncomputable def qU:{ B:RO // qM CFewestMoves "fewest_moves" Je Qz 7 B }:=
 ⟨_,fun P w K mg base f Kc A Ko s H E C hr=>
  (jd (jy 3 Q5.nd (jh C.c_Nearest hr (by decide) (ja (jb 0) (ja (jb 1) (ja (jb 2) je))) (jc (jc (jc jm)))))
  (jd (jY (jL aec (jb 3) aaw) (jd (jw aaw)
  jf) jf)
  (jd (jw (jh C.c_Apart hr (by decide) (ja (jb 1) (ja (jb 3) je)) (jc (jc jm))))
  jf)))⟩
noncomputable def qx:LP->OP:=jB Qz 3 qU.1
noncomputable abbrev acl:Stmt:=top 48
structure CSlips (P:Program) (w:World) (K:Fg) (mg:SV) (base:Heap):Prop where
 c_chkSet:jk P w K mg base "check_setting" ["manner","thing"] 6 2 qe
 c_chkNum:jk P w K mg base "check_number" ["number"] 2 1 Jc
 c_AllMoves:jk P w K mg base "all_moves" ["manner","setting"] 7 2 qK
 c_num:jk P w K mg base "number_on" ["manner","setting"] 2 2 afu
 c_BehindMove:jk P w K mg base "behind_move" ["setting","move"] 2 2 qD
noncomputable abbrev aex:List Str:=["manner","setting","number","several"]
theorem afA:FnScope aex ["manner","setting","number"] (jn acl):=⟨rfl,rfl,rfl,by decide +kernel,rfl,by decide +kernel,by decide +kernel⟩
theorem alc:(["move","number","manner","setting"]:List Str).Nodup:=by decide +kernel
noncomputable def aey:{ B:RO // qM CSlips "slips" acl aex 7 B }:=
 ⟨_,fun P w K mg base f Kc A Ko s H E C hr=>
  (jd (qm (jh C.c_chkSet hr (by decide) (ja (jb 0) (ja (jb 1) je)) (jc (jc jm))))
  (jd (qm (jh C.c_chkNum hr (by decide) (ja (jb 2) je) (jc jm)))
  (jd (jy 3 afA.nd (jh C.c_AllMoves hr (by decide) (ja (jb 0) (ja (jb 1) je)) (jc (jc jm))))
  (jd (jw (zZ ["move","number","manner","setting"] [none,some 2,some 0,some 1] rfl (zq (jb 3)) (zI (jn acl) aex (by decide +kernel))
   fun cl C' s0 H0 fp pn=>⟨(jT 0 alc),(abR (jL (Jr hr.units) (jh C.c_num hr (by decide) (ja (jb 2) (ja (jh C.c_BehindMove hr (by decide) (ja (jb 3) (ja (jb 0) je)) (jc (jc jm))) je)) (jc (jc jm))) (jb 1))),(jb 0)⟩))
  jf))))⟩
noncomputable def ZI:LP->OP:=jB aex 3 aey.1
noncomputable abbrev qy:Stmt:=top 30
structure CLongerEnds (P:Program) (w:World) (K:Fg) (mg:SV) (base:Heap):Prop where
 c_last:jk P w K mg base "last_rods" ["manner","ahead","number"] 3 3 afv
noncomputable abbrev zn:List Str:=["manner","ahead","ends","longer","number","rod","left"]
theorem zh:FnScope zn ["manner","ahead","ends"] (jn qy):=⟨rfl,rfl,rfl,by decide +kernel,rfl,by decide +kernel,by decide +kernel⟩
theorem ald:(["end","rod"]:List Str).Nodup:=by decide +kernel
noncomputable def Jf:{ B:RO // aaa 3 CLongerEnds "longer_ends" qy zn 3 (j7 (JH (j7 (JH (jN qy) 1)) 0)) B }:=
 ⟨_,fun P w K mg base f Kc A Ko s H E C hr=>
  (jC (ahJ 3 hr.units1 (jb 6) (ju jA (afc hr.units1 (jb 3) (jb 6) (zz je)) (zZ ["end","rod"] [none,some 5] rfl (zq (agy hr.units1 (jb 2) (jb 4))) (zI (jn qy) zn (by decide +kernel))
   fun cl C' s0 H0 fp pn=>⟨(jT 0 ald),Jq,(ju jA (qY (ja (jb 1) je)) (jb 0))⟩)))
  j6)⟩
noncomputable def zu:{ B:RO // aaa 3 CLongerEnds "longer_ends" qy zn 3 (j7 (JH (jN qy) 1)) B }:=
 ⟨_,fun P w K mg base f Kc A Ko s H E C hr=>
  (jC (Ja PassesOwn.never rfl (zq (jh C.c_last hr (by decide) (ja (jb 0) (ja (jb 1) (ja (jb 4) je))) (jc (jc (jc jm))))) (abl (n:=2) rfl (zm 5 zh.nd (zm 6 zh.nd ZW))) (Jf.2 P w K mg base f Kc A Ko s H E C hr))
  j6)⟩
noncomputable def JS:{ B:RO // qM CLongerEnds "longer_ends" qy zn 3 B }:=
 ⟨_,fun P w K mg base f Kc A Ko s H E C hr=>
  (QR (QU 3 zh.nd afb
  (jC (Ja PassesOwn.never rfl (afe (jb 2)) (QS 4 zh.nd) (zu.2 P w K mg base f Kc A Ko s H E C hr))
  (jC (ZV (jb 3))
  j6))))⟩
noncomputable def zR:LP->OP:=jB zn 3 JS.1
noncomputable abbrev qV:Stmt:=top 29
structure CAllSettings (P:Program) (w:World) (K:Fg) (mg:SV) (base:Heap):Prop where
 t:Bare mg
 c_asked:jk P w K mg base "check_asked" ["manner","rods","number"] 5 3 ach
 c_LongerEnds:jk P w K mg base "longer_ends" ["manner","ahead","ends"] 4 3 zR
noncomputable abbrev Jg:List Str:=["manner","rods","number","ends","ahead"]
theorem zv:FnScope Jg ["manner","rods","number"] (jn qV):=⟨rfl,rfl,rfl,by decide +kernel,rfl,by decide +kernel,by decide +kernel⟩
noncomputable def zi:{ B:RO // acf CAllSettings "all_settings" qV Jg 5 (j7 (JH (jN qV) 2)) B }:=
 ⟨_,fun P w K mg base f Kc A Ko s H E C hr=>
  (jd (jy 3 zv.nd (jh C.c_LongerEnds hr (by decide) (ja (jb 0) (ja (jb 4) (ja (jb 3) je))) (jc (jc (jc jm)))))
  jf)⟩
noncomputable def Jh:{ B:RO // qM CAllSettings "all_settings" qV Jg 5 B }:=
 ⟨_,fun P w K mg base f Kc A Ko s H E C hr=>
  (jd (qm (jh C.c_asked hr (by decide) (ja (jb 0) (ja (jb 1) (ja (jb 2) je))) (jc (jc (jc jm)))))
  (jd (jy 3 zv.nd (aff (jb 2) (agt 2 (.list [.tuple []]) (by kernel_rfl))))
  (jd (JK PassesOwn.never rfl (abZ rfl C.t.range (ja (ju zH (jb 1) ji) (ja (aaE ji) (ja (aaE ji) je)))) (jT 4 zv.nd) (zi.2 P w K mg base f Kc A Ko s H E C hr))
  (jd (jw (jH (akY hr.sort) C.t.sorted ai0 (ja (afc hr.units1 (jb 3) ji (zz je)) je)))
  jf))))⟩
noncomputable def qW:LP->OP:=jB Jg 3 Jh.1
noncomputable abbrev acU:Stmt:=top 54
structure CLaw (P:Program) (w:World) (K:Fg) (mg:SV) (base:Heap):Prop where
 t:Bare mg
 c_manner:jk P w K mg base "_law_manner" ["_law_script","_law_at"] 3 2 Zl
 c_setting:jk P w K mg base "_law_setting" ["_law_script","_law_at","_law_manner_here","_law_most"] 3 4 ani
 c_value:jk P w K mg base "value" ["manner","setting"] 7 2 ZE
 c_FewestMoves:jk P w K mg base "fewest_moves" ["manner","setting","number"] 8 3 qx
 c_Nearest:jk P w K mg base "nearest" ["manner","setting","number"] 7 3 zg
 c_drawn:jk P w K mg base "_law_drawn" ["_law_script","_law_k","_law_many"] 2 3 JA
 c_AllSettings:jk P w K mg base "all_settings" ["manner","rods","number"] 6 3 qW
 c_Apart:jk P w K mg base "apart" ["one","other"] 2 2 JZ
 c_MovesTo:jk P w K mg base "moves_to" ["manner","one","other"] 7 3 Q4
 c_Run:jk P w K mg base "run" ["manner","setting","moves"] 8 3 ala
 c_AllMoves:jk P w K mg base "all_moves" ["manner","setting"] 7 2 qK
 c_Moved:jk P w K mg base "moved" ["manner","setting","move"] 7 3 JC
 c_Slips:jk P w K mg base "slips" ["manner","setting","number"] 8 3 ZI
noncomputable abbrev agV:List Str:=["_law_script","_law_manner_here","_law_setting_here","_law_here","_law_k","_law_number","_law_some","_law_best","_law_many","_law_moves","_law_move","_law_ones"]
theorem zW:FnScope agV ["_law_script"] (jn acU):=⟨rfl,rfl,rfl,by decide +kernel,rfl,by decide +kernel,by decide +kernel⟩
theorem ale:(["_law_one","_law_setting_here"]:List Str).Nodup:=by decide +kernel
theorem alf:(["_law_move","_law_number","_law_manner_here","_law_setting_here"]:List Str).Nodup:=by decide +kernel
noncomputable def afB:{ B:RO // acf CLaw "law" acU agV 8 (j7 (JH (aqH (JH (j7 (JH (jN acU) 5)) 5)) 4)) B }:=
 ⟨_,fun P w K mg base f Kc A Ko s H E C hr=>
  (jd (jY (jL agl (jh C.c_FewestMoves hr (by decide) (ja (jb 1) (ja (jh C.c_Moved hr (by decide) (ja (jb 1) (ja (jb 2) (ja (jb 10) je))) (jc (jc (jc jm)))) (ja (jb 5) je))) (jc (jc (jc jm)))) (ju zH (jb 8) ji)) (jd (jw zo)
  jf) jf)
  jf)⟩
noncomputable def acm:{ B:RO // acf CLaw "law" acU agV 8 (j7 (JH (jN acU) 5)) B }:=
 ⟨_,fun P w K mg base f Kc A Ko s H E C hr=>
  (jd (jy 5 zW.nd (jU (zz (ja (jh C.c_drawn hr (by decide) (ja (jb 0) (ja (ju jA ji (jb 4)) (ja ji je))) (jc (jc (jc jm)))) (ja (ju jA (jb 3) ji) (ja (jH (ahB rfl) C.t.max ago (ja ji (ja (ju zH (jb 3) (jU (jb 1) ji)) je))) je)))) (jb 4)))
  (jd (jy 6 zW.nd (jh C.c_AllSettings hr (by decide) (ja (jb 1) (ja (jH qZ C.t.len za (ja (jb 2) je)) (ja (jb 5) je))) (jc (jc (jc jm)))))
  (jd (jy 7 zW.nd (jh C.c_Nearest hr (by decide) (ja (jb 1) (ja (jb 2) (ja (jb 5) je))) (jc (jc (jc jm)))))
  (jd (jy 8 zW.nd (jh C.c_FewestMoves hr (by decide) (ja (jb 1) (ja (jb 2) (ja (jb 5) je))) (jc (jc (jc jm)))))
  (jd (jY (qI (JW (jL (qL hr.units) (Jp aec (jb 7) aaw) (Jp (Jr hr.units) (jb 6) (zz je))) (zG (jL (qL hr.units) (Jp aec (jb 8) aaw) (Jp (Jr hr.units) (jb 6) (zz je)))))) (jd (jw zo)
  jf) jf)
  (jd (jY (jL akF (jb 7) aaw) (jd (jY (qI (JW (jL (adb hr.units) (jb 7) (jb 6)) (zG (jL (qL hr.units) (jb 8) (jh C.c_Apart hr (by decide) (ja (jb 2) (ja (jb 7) je)) (jc (jc jm))))))) (jd (jw zo)
  jf) jf)
  (jd (jY (jL (qL hr.units) (jb 8) (jH (amW rfl) C.t.min agn (ja (zZ ["_law_one","_law_setting_here"] [none,some 2] rfl (zq (jb 6)) (zI (jn acU) agV (by decide +kernel))
   fun cl C' s0 H0 fp pn=>⟨(jT 0 ale),Jq,(jh C.c_Apart hr (by decide) (ja (jb 1) (ja (jb 0) je)) (jc (jc jm)))⟩) je))) (jd (jw zo)
  jf) jf)
  (jd (jy 9 zW.nd (jh C.c_MovesTo hr (by decide) (ja (jb 1) (ja (jb 2) (ja (jb 7) je))) (jc (jc (jc jm)))))
  (jd (jY (qI (JW (jL (qL hr.units) (jH qZ C.t.len za (ja (jb 9) je)) (jb 8)) (zG (jL (qL hr.units) (jh C.c_Run hr (by decide) (ja (jb 1) (ja (jb 2) (ja (jb 9) je))) (jc (jc (jc jm)))) (jb 7))))) (jd (jw zo)
  jf) jf)
  (jd (JK PassesOwn.never rfl (zq (akS (jh C.c_AllMoves hr (by decide) (ja (jb 1) (ja (jb 2) je)) (jc (jc jm))) ji)) (jT 10 zW.nd) (afB.2 P w K mg base f Kc A Ko s H E C hr))
  jf))))) jf)
  (jd (jy 11 zW.nd (jh C.c_Slips hr (by decide) (ja (jb 1) (ja (jb 2) (ja (jb 5) je))) (jc (jc (jc jm)))))
  (jd (jY (jL (qL hr.units) (Jp (qL hr.units) (jb 11) (zz je)) (aqD (Jp (Jr hr.units) (jb 8) ji) (aeb (agB (Jp (Jr hr.units) (jb 5) (jb 3)) (aeb (Jp (qL hr.units) (jb 11) (zz je))))))) (jd (jw zo)
  jf) jf)
  (jd (jY (jL (qL hr.units) (zZ ["_law_move","_law_number","_law_manner_here","_law_setting_here"] [none,some 5,some 1,some 2] rfl (zq (jb 11)) (zI (jn acU) agV (by decide +kernel))
   fun cl C' s0 H0 fp pn=>⟨(jT 0 alf),(abR (jL (qL hr.units) (jh C.c_value hr (by decide) (ja (jb 2) (ja (jh C.c_Moved hr (by decide) (ja (jb 2) (ja (jb 3) (ja (jb 0) je))) (jc (jc (jc jm)))) je)) (jc (jc jm))) (jb 1))),(jb 0)⟩) (zz je)) (jd (jw zo)
  jf) jf)
  (jd (jY (qI (ahy (jL (Jr hr.units) (jb 8) ji) (ae2 (jL (Jr hr.units) (jb 11) (zz je))))) (jd (jw zo)
  jf) jf)
  jf))))))))))⟩
noncomputable def anl:{ B:RO // qM CLaw "law" acU agV 8 B }:=
 ⟨_,fun P w K mg base f Kc A Ko s H E C hr=>
  (jd (jy 1 zW.nd (jh C.c_manner hr (by decide) (ja (jb 0) (ja ji je)) (jc (jc jm))))
  (jd (jy 2 zW.nd (jh C.c_setting hr (by decide) (ja (jb 0) (ja ji (ja (jb 1) (ja ji je)))) (jc (jc (jc (jc jm))))))
  (jd (jy 3 zW.nd (jh C.c_value hr (by decide) (ja (jb 1) (ja (jb 2) je)) (jc (jc jm))))
  (jd (jY (jL (qL hr.units) (jh C.c_FewestMoves hr (by decide) (ja (jb 1) (ja (jb 2) (ja (jb 3) je))) (jc (jc (jc jm)))) ji) (jd (jw zo)
  jf) jf)
  (jd (jY (jL (qL hr.units) (jh C.c_Nearest hr (by decide) (ja (jb 1) (ja (jb 2) (ja (jb 3) je))) (jc (jc (jc jm)))) (jb 2)) (jd (jw zo)
  jf) jf)
  (jd (JK PassesOwn.never rfl (Qm rfl C.t.range (ja ji je)) (jT 4 zW.nd) (acm.2 P w K mg base f Kc A Ko s H E C hr))
  (jd (jw (Jp (Jr hr.units) (jh C.c_Slips hr (by decide) (ja (jb 1) (ja (jb 2) (ja (jb 3) je))) (jc (jc (jc jm)))) (zz je)))
  jf)))))))⟩
noncomputable def alg:LP->OP:=jB agV 1 anl.1
theorem j8 (i a b:Int):jR [.int i,.int a,.int b]=some (.bool (decide (a<=i) && decide (i<=b))):=by
 by_cases h:a<=i <;> simp [jR,jB,Z8,j4,j2,ifS,orB,tst,lkp,Jt,tyn,asB,zU,chn,Js,qO,qG,h]
theorem aai (u e l b x y:Int) (h:-18446744073709551616<x/\x<18446744073709551616):qT [.tuple [.int u,.int e,.int l,.int b],.tuple [.int x,.int y]]=some (.int (x*e+y)):=by
 simp [qT,jB,aaI,j4,j2,op2,lkp,dIx,atI,ixN,qO,qG,cst,QL,Qb,h]
theorem alh {n:Nat}{i:Int} (h0:0<=i) (h:i.toNat<n):ixN n i=some i.toNat:=by
 unfold ixN
 rw [if_pos h0,if_pos (by omega)]
noncomputable def okN (u e l b:Int):Bool:=decide (0<=u) && decide (u<=3) && decide (1<=e) && decide (e<=5) && decide (e - 1<=l) && decide (1<=l) && decide (l<=11) && decide (2<=b) && decide (b<=16) && decide (b<=u*e+l+1)
noncomputable def jD (u l:Int):LP:=JL (u+1).toNat (l+1).toNat
noncomputable def jl (e:Int):PyData->Int
 | .tuple [.int x,.int y]=>x*e+y
 | _=>-1
noncomputable def pr (p:Int × Int):PyData:= .tuple [.int p.1,.int p.2]
noncomputable def jg (ps:List (Int × Int)):PyData:= .tuple (ps.map pr)
noncomputable def okP (u l:Int) (p:Int × Int):Bool:=decide (0<=p.1) && decide (p.1<=u) && decide (0<=p.2) && decide (p.2<=l)
noncomputable def okS (u l:Int) (ps:List (Int × Int)):Bool:=decide (1<=ps.length) && decide (ps.length<=4) && ps.all (okP u l)
noncomputable def wt (e:Int) (p:Int × Int):Int:=p.1*e+p.2
noncomputable def val (b e:Int) (ps:List (Int × Int)):Int:=ps.foldl (fun n p=>n*b+wt e p) 0
noncomputable def aqJ (e:Int):List Int->LP->List Int
 | c,[]=>c
 | c,r::rs=>aqJ e (c.set (jl e r).toNat (c.getD (jl e r).toNat 0+1)) rs
noncomputable def aqK (u e l:Int):List Int:=aqJ e (List.replicate (u*e+l+1).toNat 0) (jD u l)
noncomputable def cnt (u e l n:Int):Int:=((jD u l).filter fun r=>jl e r == n).length
noncomputable def okM (u e l b:Int):Bool:=decide (0<=u) && decide (u<=3) && decide (1<=e) && decide (e<=5) && decide (e - 1<=l) && decide (1<=l) && decide (l<=10) && decide (2<=b) && decide (b<=16) && decide (b<=u*e+l+1)
theorem adx {n m:Nat}{d:PyData} (h:d ∈ JL n m):∃ i j:Nat,i<n/\j<m/\d= .tuple [.int i,.int j]:=by
 obtain ⟨i,hi,hd⟩:=List.mem_flatMap.mp h
 obtain ⟨j,hj,rfl⟩:=List.mem_map.mp hd
 exact ⟨i,j,List.mem_range.mp hi,List.mem_range.mp hj,rfl⟩
theorem JT (i:Int):okD (.int i)=true:=by simp [okD,PyData.canLay0,PyData.depth]
theorem aba {u e l b:Int} (hu:0<=u) (hu':u<100) (hl:0<=l) (hl':l<100):zO [jp u e l b]=some (.list (jD u l)):=by
 simp [zO,jp,jD,hu,hl,show u<1000 by omega,show l<1000 by omega]
theorem afC {u l:Int} (hu':u<100) (hl':l<100):few (jD u l)=true:=by
 simp only [few,jD,ace,decide_eq_true_eq]
 have:(u+1).toNat*(l+1).toNat<=100*100:=Nat.mul_le_mul (by omega) (by omega)
 omega
theorem ady {u e l b:Int} (hu':u<100) {d:PyData} (h:d ∈ jD u l):qT [jp u e l b,d]=some (.int (jl e d)):=by
 obtain ⟨i,j,hi,hj,rfl⟩:=adx h
 exact aai u e l b i j (by omega)
theorem acn {α:Type} (f:α->Int):∀ xs:List α,qN (xs.map fun d=>PyData.int (f d))=some (xs.map f)
 | []=>rfl
 | x::xs=>by simp [qN,acL,acn f xs]
theorem ali (ns:List Int):okD (.list (ns.map PyData.int))=true:=by
 have h1:∀ ns:List Int,PyData.canLayAll0 (ns.map PyData.int)=true:=fun ns=>by
  induction ns with
  | nil=>rfl
  | cons n ns ih=>simp [PyData.canLayAll0,PyData.canLay0,ih]
 have h2:∀ ns:List Int,PyData.depthAll (ns.map PyData.int)=0:=fun ns=>by
  induction ns with
  | nil=>rfl
  | cons n ns ih=>simp [PyData.depthAll,PyData.depth,ih]
 simp [okD,PyData.canLay0,h1,PyData.depth,h2]
theorem alj (ns:List Int) (d:Int):(ns.map PyData.int).any (fun z=>PyData.eqv z (.int d))=ns.any (fun z=>z == d):=by
 induction ns with
 | nil=>rfl
 | cons n ns ih=>simp only [List.map_cons,List.any_cons,ih]; rfl
theorem abt {α:Type} (f:α->Bool):∀ xs:List α,bls (xs.map fun d=>PyData.bool (f d))=some (xs.map f)
 | []=>rfl
 | x::xs=>by simp [bls,asB,abt f xs]
theorem ix0 (u e l b:Int):dIx (jp u e l b) (.int 0)=some (.int u):=rfl
theorem ix1 (u e l b:Int):dIx (jp u e l b) (.int 1)=some (.int e):=rfl
theorem ix2 (u e l b:Int):dIx (jp u e l b) (.int 2)=some (.int l):=rfl
theorem ix3 (u e l b:Int):dIx (jp u e l b) (.int 3)=some (.int b):=rfl
theorem aez {j:Int} (h:0<=j) (h':j<1000000):acK [.int j]=some (Ql 0 j.toNat):=by
 unfold acK
 exact if_pos (by omega)
theorem QA (a b:Int):PyData.eqv (.int a) (.int b)=(a == b):=by unfold PyData.eqv; rfl
theorem aco {u e l b:Int} (hu:0<=u) (hu':u<100) (hl:0<=l) (hl':l<100) (hb:0<=b) (hb':b<100):Z9 [jp u e l b]=some (.bool ((List.range b.toNat).all fun d=>((jD u l).map (jl e)).any fun z=>z == (d:Int))):=by
 have h1:=aba (e:=e) (b:=b) hu hu' hl hl'
 have h2:=afC hu' hl'
 have h4:few (Ql 0 b.toNat)=true:=by simp [few,Ql]; omega
 simp only [Z9,jB,aeg,j4,j2,qO,ze,itL,jP,jr,jJ,lkp,aay,List.length_cons,List.length_nil,zzM,List.map_cons,List.map_nil,List.cons_append,List.nil_append,zzA,zzC,zzD,zzE,h1,h2,QK,zA]
 rw [Zd (fun d=> .int (jl e d))]
 ·simp only [jE,qG,op2,cst,lkp,zzD,zzE,zzF,zzG,List.replicate,List.length_cons,List.length_nil,zzA,zzB,zzC,ix3,aez hb (show b<1000000 by omega),h4,zzM]
  rw [Zd (fun d=> .bool (((jD u l).map (jl e)).any fun z=>z == (acL d).getD 0))]
  ·have:(Ql 0 b.toNat).map (fun d=>PyData.bool (((jD u l).map (jl e)).any fun z=>z == (acL d).getD 0))=(List.range b.toNat).map fun (d:Nat)=>PyData.bool (((jD u l).map (jl e)).any fun z=>z == (d:Int)):=by
    simp [Ql,acL,Function.comp_def]
   simp only [zzE,zzD,this,aki,abt (fun (d:Nat)=>((jD u l).map (jl e)).any fun z=>z == (d:Int)),List.all_map,Function.comp_def,id]
  ·intro d hd
   obtain ⟨k,_,rfl⟩:=List.mem_map.mp hd
   have h5:(jD u l).map (fun d=>PyData.int (jl e d))=((jD u l).map (jl e)).map PyData.int:=by simp
   have h6:=ali ((jD u l).map (jl e))
   simp only [op2,lkp,zzG,zzA,zzB,zzC,zzD,dIn,JT,h5,h6,alj]
   simp [acL]
 ·intro d hd
  simp [jP,jr,jJ,lkp,ady (b:=b) (e:=e) hu' hd]
theorem aeA {u e l b:Int} (hu:0<=u) (hu':u<=3) (he:1<=e) (he':e<=16) (hl:0<=l) (hl':l<=12) (hb:2<=b) (hb':b<=16):Jk [jp u e l b]=Z9 [jp u e l b]:=by
 have g:=aco (e:=e) hu (by omega) hl (by omega) (show 0<=b by omega) (by omega)
 have w1:jR [.int u,.int 0,.int 3]=some (.bool true):=by rw [j8]; simp [hu,hu']
 have w2:jR [.int e,.int 1,.int 16]=some (.bool true):=by rw [j8]; simp [he,he']
 have w3:jR [.int l,.int 0,.int 12]=some (.bool true):=by rw [j8]; simp [hl,hl']
 have w4:jR [.int b,.int 2,.int 16]=some (.bool true):=by rw [j8]; simp [hb,hb']
 have z:ahD [jp u e l b,.tuple [.int 0,.int 1,.int 0,.int 2],.tuple [.int 3,.int 16,.int 12,.int 16]]=some [.tuple [.int u,.int 0,.int 3],.tuple [.int e,.int 1,.int 16],.tuple [.int l,.int 0,.int 12],.tuple [.int b,.int 2,.int 16]]:=rfl
 rw [g]
 rw [show jp u e l b= .tuple [.int u,.int e,.int l,.int b] from rfl] at g z ⊢
 simp [Jk,jB,aaJ,j4,j2,ifS,orB,zU,tst,Jt,tyn,asB,lkp,op2,jP,jr,jJ,zV,cst,dNe,JT,QA,qG,JX,z,jF,Qa,jM,zp,jE,w1,w2,w3,w4,qO,g]
theorem aaR {m:PyData} (h:Jk [m]=some (.bool true)):ZD [m]=some .none:=by
 simp [ZD,jB,agO,j4,j2,ifS,zU,tst,asB,jP,jr,jJ,lkp,h,qG]
theorem qf:few []=true:=by simp [few]
theorem add_int (i j:Int):Qb (.int i) (.int j)=some (.int (i+j)):=rfl
theorem qu {i j:Int} (h:-1000000000000<i/\i<1000000000000):QL (.int i) (.int j)=some (.int (i*j)):=by
 unfold QL; exact if_pos (.inl ⟨by omega,by omega⟩)
theorem aaj {i j:Int} (h:0<j):akf (.int i) (.int j)=some (.int (i % j)):=by unfold akf; exact if_pos h
theorem Q6 {i j:Int} (h:0<j) (h':j<1000000000):ae4 (.int i) (.int j)=some (.int (i / j)):=by unfold ae4; exact if_pos ⟨h,by omega⟩
theorem alk (ns:List Int) (hn:ns.length<1000000) (k:Int) (hk:0<=k):∃ c,afw [scr ns,.int k]=some (.int c):=by
 cases ns with
 | nil=>
  refine ⟨7*k,?_⟩
  simp [afw,jB,ahS,j4,j2,ifS,tst,op2,lkp,JG,jJ,few,dEq,scr,zw,asB,qO,cst,qu,qG]
 | cons n ns=>
  have hl:0<(((n::ns).map fun n=>(PyData.int n,PyData.none)).length:Int):=by simp
  have hl':(((n::ns).map fun n=>(PyData.int n,PyData.none)).length:Int)<1000000:=by simp at hn ⊢; omega
  have hsc:=ada (n::ns)
  have e1:dEq (scr (n::ns)) (.list [])=some (.bool false):=by
   show (if zw ((n::ns).map fun n=>(PyData.int n,PyData.none))=true then some (PyData.bool ((n::ns).map fun n=>(PyData.int n,PyData.none)).isEmpty) else none)=_
   rw [if_pos hsc]; rfl
  have e2:zV [scr (n::ns)]=some (.int (((n::ns).map fun n=>(PyData.int n,PyData.none)).length)):=by
   show (if zw ((n::ns).map fun n=>(PyData.int n,PyData.none))=true then some (PyData.int ((n::ns).map fun n=>(PyData.int n,PyData.none)).length) else none)=_
   rw [if_pos hsc]
  generalize hL:(((n::ns).map fun n=>(PyData.int n,PyData.none)).length:Int)=L at*
  have h0:0<=k % L:=Int.emod_nonneg _ (by omega)
  have h1:k % L<L:=Int.emod_lt_of_pos _ hl
  have e3:∃ c,dIx (scr (n::ns)) (.int (k % L))=some (.int c):=by
   have hlen:((n::ns).map fun n=>(PyData.int n,PyData.none)).length<1000000:=by omega
   have hlt:(k % L).toNat<((n::ns).map fun n=>(PyData.int n,PyData.none)).length:=by omega
   have hx:ixN ((n::ns).map fun n=>(PyData.int n,PyData.none)).length (k % L)=some (k % L).toNat:=alh h0 hlt
   refine ⟨((n::ns)[(k % L).toNat]'(by simpa using hlt)),?_⟩
   show (if ((n::ns).map fun n=>(PyData.int n,PyData.none)).length<1000000/\zw ((n::ns).map fun n=>(PyData.int n,PyData.none))=true then (atI ((n::ns).map fun n=>(PyData.int n,PyData.none)) (k % L)).map (·.1) else none)=_
   rw [if_pos ⟨hlen,hsc⟩]
   unfold atI
   rw [hx,zzD,List.getElem?_eq_getElem hlt,zzE,List.getElem_map]
  obtain ⟨c,e3⟩:=e3
  refine ⟨c+6553*(k / L),?_⟩
  simp [afw,jB,ahS,j4,j2,ifS,tst,op2,lkp,JG,jJ,few,asB,qO,cst,qG,jP,jr,e1,e2,e3,aaj hl,Q6 hl (show L<1000000000 by omega),qu,add_int]
theorem qB (ns:List Int) (hn:ns.length<1000000) (k m:Int) (hk:0<=k) (hm:0<m):∃ r,JA [scr ns,.int k,.int m]=some (.int r)/\0<=r/\r<m:=by
 obtain ⟨c,hc⟩:=alk ns hn k hk
 generalize h1:(c % 2147483563*69069+104723*(k+1)) % 2147483563=a
 generalize h2:(a*a+a / 3) % 2147483399=d
 have ha:0<=a/\a<2147483563:=by rw [←h1]; exact ⟨Int.emod_nonneg _ (by omega),Int.emod_lt_of_pos _ (by omega)⟩
 have hd:0<=d/\d<2147483399:=by rw [←h2]; exact ⟨Int.emod_nonneg _ (by omega),Int.emod_lt_of_pos _ (by omega)⟩
 have hc':0<=c % 2147483563/\c % 2147483563<2147483563:=⟨Int.emod_nonneg _ (by omega),Int.emod_lt_of_pos _ (by omega)⟩
 refine ⟨(d*d+d / 7) % 2147483647 / 11 % m,?_,Int.emod_nonneg _ (by omega),Int.emod_lt_of_pos _ hm⟩
 have m1:QL (.int (c % 2147483563)) (.int 69069)=some (.int (c % 2147483563*69069)):=qu (by omega)
 have m2:QL (.int 104723) (.int (k+1))=some (.int (104723*(k+1))):=qu (by omega)
 have m3:QL (.int a) (.int a)=some (.int (a*a)):=qu (by omega)
 have m4:QL (.int d) (.int d)=some (.int (d*d)):=qu (by omega)
 simp [JA,jB,agS,j4,j2,zA,jE,op2,lkp,jJ,qO,cst,qG,jP,jr,hc,m1,m2,m3,m4,aaj,Q6,add_int,h1,h2,hm]
noncomputable def isInt (t:Int):PyData->Bool
 | .int x=>x == t
 | _=>false
noncomputable def ape (u e l:Int):Bool:=
 isInt (u*e+l) (ao1 none ((jD u l).map (jl e))) &&
 ((List.range (u*e+l+1).toNat).all fun n=>(jD u l).any fun r=>jl e r == (n:Int)) &&
 ((jD u l).all fun r=>decide (0<=jl e r) && decide (jl e r<=u*e+l)) &&
 decide (aqK u e l=(List.range (u*e+l+1).toNat).map fun (n:Nat)=>cnt u e l n)
noncomputable def zS:Bool:=(List.range 4).all fun (i:Nat)=>(List.range 5).all fun (j:Nat)=>(List.range 11).all fun (k:Nat)=>decide (k+1<j) || ape i (j+1) (k+1)
structure Chk (u e l:Int):Prop where
 most:ao1 none ((jD u l).map (jl e))= .int (u*e+l)
 dig:∀ n:Nat,n<(u*e+l+1).toNat->((jD u l).any fun r=>jl e r == (n:Int))=true
 rng:∀ r ∈ jD u l,0<=jl e r/\jl e r<=u*e+l
 lst:aqK u e l=(List.range (u*e+l+1).toNat).map fun (n:Nat)=>cnt u e l n
theorem apf {u e l:Int} (h:ape u e l=true):Chk u e l:=by
 simp only [ape,Bool.and_eq_true,List.all_eq_true,decide_eq_true_eq] at h
 obtain ⟨⟨⟨h1,h2⟩,h3⟩,h4⟩:=h
 refine ⟨?_,fun n hn=>h2 n (List.mem_range.mpr hn),fun r hr=>h3 r hr,h4⟩
 generalize ao1 none ((jD u l).map (jl e))=x at h1
 cases x <;> simp [isInt] at h1
 rw [h1]
theorem jO {u e l b:Int} (h:okN u e l b=true):0<=u/\u<=3/\1<=e/\e<=5/\e - 1<=l/\1<=l/\l<=11/\2<=b/\b<=16/\b<=u*e+l+1:=by
 simp only [okN,Bool.and_eq_true,decide_eq_true_eq] at h
 omega
theorem apg {u e l b:Int} (H:zS=true) (h:okN u e l b=true):Chk u e l:=by
 obtain ⟨a1,a2,a3,a4,a5,a6,a7,_⟩:=jO h
 simp only [zS,List.all_eq_true,Bool.or_eq_true,decide_eq_true_eq] at H
 have:=H u.toNat (List.mem_range.mpr (by omega)) (e - 1).toNat (List.mem_range.mpr (by omega)) (l - 1).toNat (List.mem_range.mpr (by omega))
 rcases this with z | z
 ·exfalso; omega
 ·rw [show ((u.toNat:Nat):Int)=u by omega,show (((e - 1).toNat:Nat):Int)+1=e by omega,show (((l - 1).toNat:Nat):Int)+1=l by omega] at z
  exact apf z
theorem anm {u e l b:Int} (h:okM u e l b=true):okN u e l b=true:=by
 simp only [okM,okN,Bool.and_eq_true,decide_eq_true_eq] at h ⊢
 omega
theorem aph {u e l b:Int} (H:zS=true) (h:okN u e l b=true) {n:Int} (h0:0<=n) (hn:n<b):((jD u l).any fun r=>jl e r == n)=true:=by
 obtain ⟨a1,a2,a3,a4,a5,a6,a7,a8,a9,a10⟩:=jO h
 have:=(apg H h).dig n.toNat (by omega)
 rw [show ((n.toNat:Nat):Int)=n by omega] at this
 exact this
end Rods
theorem Rods.allN_true:Rods.zS=true:=by decide +kernel
namespace Rods
open PySem L2 BX
open PyProof.Rows hiding St
theorem js {F G:RO}{ρ ρ1:Rho} (h:F ρ=some (.nx ρ1)):j2 F G ρ=G ρ1:=by
 unfold j2
 rw [h]
 rfl
theorem jV {N:List Str}{n:Nat}{B:RO}{ds:LP}{d:PyData} (hl:ds.length=n) (h:B (j4 N ds)=some (.rt d)):jB N n B ds=some d:=by
 unfold jB
 rw [if_pos hl,h]
theorem aaS {b:Int} (hb:0<b):∀ r:Nat,0<b ^ r
 | 0=>by simp
 | r+1=>by rw [Int.pow_succ]; exact Int.mul_pos (aaS hb r) hb
theorem an4 {b:Int} (h0:0<b) (h:b<=16):∀ r:Nat,b ^ r<=16 ^ r
 | 0=>by simp
 | r+1=>by
  rw [Int.pow_succ,Int.pow_succ]
  exact Int.mul_le_mul (an4 h0 h r) h (by omega) (Int.le_of_lt (aaS (by decide) r))
theorem api {b:Int} (h0:0<b) (h:b<=16) {r:Nat} (hr:r<=4):b ^ r<=65536:=by
 have:r=0 ∨ r=1 ∨ r=2 ∨ r=3 ∨ r=4:=by omega
 have:=an4 h0 h r
 rcases ‹r=0 ∨ _› with e | e | e | e | e <;> subst e <;> first | (exact Int.le_trans this (by decide))
theorem alm (b e:Int) (ps:List (Int × Int)) (p:Int × Int):val b e (ps++[p])=val b e ps*b+wt e p:=by simp [val]
section
variable {u e l b:Int}
theorem qi {u l:Int}{p:Int × Int} (h:okP u l p=true):0<=p.1/\p.1<=u/\0<=p.2/\p.2<=l:=by
 simp only [okP,Bool.and_eq_true,decide_eq_true_eq] at h
 exact ⟨h.1.1.1,h.1.1.2,h.1.2,h.2⟩
theorem adz {e u l:Int} (he:1<=e) {p:Int × Int} (h:okP u l p=true):0<=wt e p:=by
 obtain ⟨h1,h2,h3,h4⟩:=qi h
 have:=Int.mul_nonneg h1 (show 0<=e by omega)
 unfold wt; omega
theorem aln {e u l:Int} (he:1<=e) (he5:e<=5) (hu:u<=3) (hl:l<=11) {p:Int × Int} (h:okP u l p=true):wt e p<=26:=by
 obtain ⟨h1,h2,h3,h4⟩:=qi h
 have:p.1*e<=3*5:=Int.mul_le_mul (by omega) he5 (by omega) (by omega)
 unfold wt; omega
theorem ahT {b e u l:Int} (h2:2<=b) (hb:b<=16) (he:1<=e) (he5:e<=5) (hu:u<=3) (hl:l<=11):∀ (ps:List (Int × Int)) (acc:Int),ps.all (okP u l)=true->0<=acc->0<=ps.foldl (fun n p=>n*b+wt e p) acc/\ps.foldl (fun n p=>n*b+wt e p) acc+30<=(acc+30)*16 ^ ps.length
 | [],acc,_,h=>⟨h,by simp⟩
 | p::ps,acc,hp,h=>by
  rw [List.all_cons,Bool.and_eq_true] at hp
  have w0:=adz he hp.1
  have w1:=aln he he5 hu hl hp.1
  have ha:0<=acc*b:=Int.mul_nonneg h (by omega)
  have hb2:acc*b<=acc*16:=Int.mul_le_mul_of_nonneg_left hb h
  obtain ⟨h1,h3⟩:=ahT h2 hb he he5 hu hl ps (acc*b+wt e p) hp.2 (by omega)
  refine ⟨h1,Int.le_trans h3 ?_⟩
  rw [List.length_cons,Int.pow_succ,Int.mul_comm (16 ^ ps.length) 16,←Int.mul_assoc]
  refine Int.mul_le_mul_of_nonneg_right ?_ (Int.le_of_lt (aaS (by decide) _))
  omega
theorem apj (h:okN u e l b=true) {ps:List (Int × Int)} (hp:ps.all (okP u l)=true):0<=val b e ps:=by
 obtain ⟨a1,a2,a3,a4,a5,a6,a7,a8,a9,a10⟩:=jO h
 exact (ahT a8 a9 a3 a4 a2 a7 ps 0 hp (by omega)).1
end
theorem Ji {ds:LP} (h:ds.length<10000):few ds=true:=by
 rw [few]
 refine decide_eq_true ?_
 omega
theorem apk {u e l b:Int} (H:zS=true) (h:okN u e l b=true):Jk [jp u e l b]=some (.bool true):=by
 obtain ⟨a1,a2,a3,a4,a5,a6,a7,a8,a9,a10⟩:=jO h
 rw [aeA a1 a2 a3 (by omega) (by omega) (by omega) a8 a9,aco a1 (by omega) (by omega) (by omega) (by omega) (by omega)]
 congr 2
 refine List.all_eq_true.mpr fun d hd=>?_
 have:=aph H h (n:=(d:Int)) (by omega) (by have:=List.mem_range.mp hd; omega)
 simpa [List.any_map,Function.comp_def] using this
theorem j1 {u l:Int}{ps:List (Int × Int)} (h:okS u l ps=true):1<=ps.length/\ps.length<=4/\ps.all (okP u l)=true:=by
 simp only [okS,Bool.and_eq_true,decide_eq_true_eq] at h
 exact ⟨h.1.1,h.1.2,h.2⟩
theorem agW {u l:Int}{ps:List (Int × Int)} (h1:1<=ps.length) (h2:ps.length<=4) (h3:ps.all (okP u l)=true):okS u l ps=true:=by
 simp only [okS,Bool.and_eq_true,decide_eq_true_eq]
 exact ⟨⟨h1,h2⟩,h3⟩
section
variable {u e l b:Int}{ps qs:List (Int × Int)}
theorem afD (h:okN u e l b=true) {S:PyData}:∀ (qs:List (Int × Int)) (acc:Int) (x:OP),qs.all (okP u l)=true->0<=acc->(acc+30)*16 ^ qs.length<=1000000000->
  ∃ y,jF (jE 3) aej.1 (qs.map pr) [some (jp u e l b),some S,some (.int acc),x]=some (.nx [some (jp u e l b),some S,some (.int (qs.foldl (fun n p=>n*b+wt e p) acc)),y])
 | [],acc,x,_,_,_=>⟨x,rfl⟩
 | q::qs,acc,x,hq,h0,hB=>by
  obtain ⟨a1,a2,a3,a4,a5,a6,a7,a8,a9,a10⟩:=jO h
  rw [List.all_cons,Bool.and_eq_true] at hq
  obtain ⟨q1,q2,q3,q4⟩:=qi hq.1
  have w0:=adz a3 hq.1
  have w1:=aln a3 a4 a2 a7 hq.1
  have hp:=aaS (b:=16) (by decide) qs.length
  rw [List.length_cons,Int.pow_succ,Int.mul_comm (16 ^ qs.length) 16,←Int.mul_assoc] at hB
  have ha:0<=acc*b:=Int.mul_nonneg h0 (by omega)
  have hb2:acc*b<=acc*16:=Int.mul_le_mul_of_nonneg_left a9 h0
  have hB':(acc*b+wt e q+30)*16 ^ qs.length<=1000000000:=Int.le_trans (Int.mul_le_mul_of_nonneg_right (by omega) (Int.le_of_lt hp)) hB
  have hacc:acc<=1000000000:=by
   have h1:(acc+30)*16*1<=(acc+30)*16*16 ^ qs.length:=Int.mul_le_mul_of_nonneg_left (by omega) (by omega)
   omega
  have m1:QL (.int acc) (.int b)=some (.int (acc*b)):=qu ⟨by omega,by omega⟩
  have w':qT [jp u e l b,pr q]=some (.int (wt e q)):=aai u e l b q.1 q.2 (by omega)
  have step:aej.1 [some (jp u e l b),some S,some (.int acc),some (pr q)]=some (.nx [some (jp u e l b),some S,some (.int (acc*b+wt e q)),some (pr q)]):=by
   simp only [aej,j2,zA,op2,jP,jr,jJ,lkp,cst,jE,zzA,zzB,zzC,zzD,zzE,ix3,m1,w',add_int,zzF,zzG,qG]
  obtain ⟨y,hy⟩:=afD h (S:=S) qs (acc*b+wt e q) (some (pr q)) hq.2 (by omega) hB'
  refine ⟨y,?_⟩
  rw [List.map_cons]
  simp only [jF,jE,zzD,zzF,zzG,step]
  exact hy
theorem aeB (h:okN u e l b=true) (h4:ps.length<=4) (hp:ps.all (okP u l)=true):afu [jp u e l b,jg ps]=some (.int (val b e ps)):=by
 have hB:(0+30:Int)*16 ^ ps.length<=1000000000:=by
  have:=api (b:=16) (by decide) (by decide) h4
  omega
 obtain ⟨y,hy⟩:=afD h (S:=jg ps) ps 0 none hp (by omega) hB
 refine jV rfl ?_
 show anc.1 [some (jp u e l b),some (jg ps),none,none]=_
 simp only [anc]
 refine (js (ρ1:=[some (jp u e l b),some (jg ps),some (.int 0),none]) ?_).trans ?_
 ·simp only [zA,cst,jE,zzD,zzE,zzF,zzG]
 refine (js (ρ1:=[some (jp u e l b),some (jg ps),some (.int (val b e ps)),y]) ?_).trans ?_
 ·show (itT (lkp 1) _).bind _=_
  rw [show itT (lkp 1) [some (jp u e l b),some (jg ps),some (.int 0),none]=some (ps.map pr) from rfl]
  exact hy
 rfl
theorem ai6 {p:Int × Int} (hp:okP u l p=true):JY [jp u e l b,pr p]=some (.bool true):=by
 obtain ⟨q1,q2,q3,q4⟩:=qi hp
 have w1:jR [.int p.1,.int 0,.int u]=some (.bool true):=by rw [j8]; simp [q1,q2]
 have w2:jR [.int p.2,.int 0,.int l]=some (.bool true):=by rw [j8]; simp [q3,q4]
 simp [JY,jB,aaK,j4,j2,ifS,orB,zU,tst,Jt,tyn,asB,lkp,op2,jP,jr,jJ,zV,cst,dNe,JT,QA,qG,qO,ab0,pr,jp,dIx,atI,ixN,w1,w2]
theorem ai7 (H:zS=true) (h:okN u e l b=true) (hs:okS u l ps=true):aem [jp u e l b,jg ps]=some (.bool true):=by
 obtain ⟨h1,h4,hp⟩:=j1 hs
 have g0:=aaR (apk H h)
 have hf:few (ps.map pr)=true:=Ji (by rw [List.length_map]; omega)
 have c1:Js (fun i j=>decide (i<=j)) (.int 1) (.int ((ps.map pr).length:Int))=some (.bool true):=by
  show some (PyData.bool (decide ((1:Int)<=((ps.map pr).length:Int))))=_
  rw [decide_eq_true (by rw [List.length_map]; omega)]
 have c2:Js (fun i j=>decide (i<=j)) (.int ((ps.map pr).length:Int)) (.int 4)=some (.bool true):=by
  show some (PyData.bool (decide (((ps.map pr).length:Int)<=4)))=_
  rw [decide_eq_true (by rw [List.length_map]; omega)]
 refine jV rfl ?_
 show aaL.1 [some (jp u e l b),some (jg ps)]=_
 simp only [aaL]
 refine (js (ρ1:=[some (jp u e l b),some (jg ps)]) ?_).trans ?_
 ·simp only [abg,jP,jr,jJ,lkp,zzA,zzB,zzC,zzD,zzE,g0]
 refine (js (ρ1:=[some (jp u e l b),some (jg ps)]) ?_).trans ?_
 ·simp [ifS,orB,zU,tst,Jt,tyn,asB,lkp,jg,chn,jP,jr,jJ,zV,cst,qG]
  simp [List.length_map] at c1 c2
  simp [c1,c2]
  rfl
 simp only [j2,qO,jP,jr,jJ,ze,itT,lkp,jg,aaz,zzA,zzB,zzC,zzD,zzE,hf,zzM,QK,List.map_cons,List.map_nil,zzH]
 rw [Zd (fun _=> .bool true)]
 ·have:bls ((ps.map pr).map fun _=>PyData.bool true)=some ((ps.map pr).map fun _=>true):=abt (fun _=>true) _
  simp only [zzE,zzD,aki,this]
  simp
 ·intro d hd
  obtain ⟨p,hp',rfl⟩:=List.mem_map.mp hd
  simp [jP,jr,jJ,lkp,ai6 (e:=e) (b:=b) (List.all_eq_true.mp hp p hp')]
theorem alo (H:zS=true) (h:okN u e l b=true) (hs:okS u l ps=true):qe [jp u e l b,jg ps]=some .none:=by
 have g:=ai7 H h hs
 simp [qe,jB,abn,j4,j2,ifS,zU,tst,asB,jP,jr,jJ,lkp,g,qG]
theorem adA (H:zS=true) (h:okN u e l b=true) (hs:okS u l ps=true):ZE [jp u e l b,jg ps]=some (.int (val b e ps)):=by
 obtain ⟨h1,h4,hp⟩:=j1 hs
 have g:=alo H h hs
 have g2:=aeB h h4 hp
 simp [ZE,jB,agR,j4,j2,abg,qO,jP,jr,jJ,lkp,g,g2,qG]
end
theorem acp {n:Int} (h0:0<=n) (h1:n<=99999):Jc [.int n]=some .none:=by
 have w:jR [.int n,.int 0,.int 99999]=some (.bool true):=by rw [j8]; simp [h0,h1]
 simp [Jc,jB,aek,j4,j2,ifS,zU,tst,asB,jP,jr,jJ,lkp,cst,w,qG]
theorem alp {n:Int} (h0:1<=n) (h1:n<=4):QZ [.int n]=some .none:=by
 have w:jR [.int n,.int 1,.int 4]=some (.bool true):=by rw [j8]; simp [h0,h1]
 simp [QZ,jB,acg,j4,j2,ifS,zU,tst,asB,jP,jr,jJ,lkp,cst,w,qG]
section
variable {u e l b:Int}{ps qs:List (Int × Int)}
theorem Zq (i j:Int):dEq (.int i) (.int j)=some (.bool (decide (i=j))):=by
 have:(i == j)=decide (i=j):=rfl
 simp only [dEq,JT,QA,and_self,zzM,this]
theorem JF (ps:List (Int × Int)):zV [jg ps]=some (.int (ps.length:Int)):=by
 show some (PyData.int ((ps.map pr).length:Int))=_
 rw [List.length_map]
theorem apl (p q:Int × Int):PyData.eqv (pr p) (pr q)=decide (p=q):=by
 obtain ⟨a,b⟩:=p
 obtain ⟨c,d⟩:=q
 simp only [pr,PyData.eqv,PyData.eqvAll,Prod.mk.injEq,Bool.and_true,Bool.decide_and]
 rfl
theorem adB:∀ (ps qs:List (Int × Int)),PyData.eqvAll (ps.map pr) (qs.map pr)=decide (ps=qs)
 | [],[]=>by simp [PyData.eqvAll]
 | [],q::qs=>by simp [PyData.eqvAll]
 | p::ps,[]=>by simp [PyData.eqvAll]
 | p::ps,q::qs=>by simp [PyData.eqvAll,apl,adB ps qs]
theorem acq (ps qs:List (Int × Int)):PyData.eqv (jg ps) (jg qs)=decide (ps=qs):=by
 unfold jg PyData.eqv
 exact adB ps qs
theorem acr (ps:List (Int × Int)):okD (jg ps)=true:=by
 have h1:∀ ps:List (Int × Int),PyData.canLayAll0 (ps.map pr)=true:=fun ps=>by
  induction ps with
  | nil=>rfl
  | cons p ps ih=>simp [PyData.canLayAll0,PyData.canLay0,pr,ih]
 have h2:∀ ps:List (Int × Int),PyData.depthAll (ps.map pr)<=1:=fun ps=>by
  induction ps with
  | nil=>simp [PyData.depthAll]
  | cons p ps ih=>simp [PyData.depthAll,PyData.depth,pr] at ih ⊢; omega
 have:=h2 ps
 simp [okD,jg,PyData.canLay0,h1,PyData.depth]
 omega
theorem ahU (ps qs:List (Int × Int)):dNe (jg ps) (jg qs)=some (.bool (!decide (ps=qs))):=by
 unfold dNe
 rw [if_pos ⟨acr ps,acr qs⟩,acq]
end
theorem alq {α:Type} (x:α):∀ n:Nat,(List.replicate n [x]).flatten=List.replicate n x
 | 0=>rfl
 | n+1=>by rw [List.replicate_succ,List.flatten_cons,alq x n,List.replicate_succ]; rfl
noncomputable def qt (u e l b:Int) (a:Nat):Int:=val b e (List.replicate a (u,l))
theorem alr {u e l b:Int} (h:okN u e l b=true) (a:Nat):(List.replicate a (u,l)).all (okP u l)=true:=by
 obtain ⟨a1,a2,a3,a4,a5,a6,a7,a8,a9,a10⟩:=jO h
 refine List.all_eq_true.mpr fun p hp=>?_
 rw [(List.mem_replicate.mp hp).2]
 simp only [okP,Bool.and_eq_true,decide_eq_true_eq]
 exact ⟨⟨⟨a1,Int.le_refl _⟩,by omega⟩,Int.le_refl _⟩
theorem als {u e l b:Int} (a:Nat) (ha:a<4):ak2 [jp u e l b,.int (a:Int)]=some (jg (List.replicate a (u,l))):=by
 refine jV rfl ?_
 have f1:few [pr (u,l)]=true:=Ji (by simp)
 have f2:few [PyData.int u,.int l]=true:=Ji (by simp)
 have rp:akB (.tuple [.tuple [.int u,.int l]]) (.int (a:Int))=some (jg (List.replicate a (u,l))):=by
  show (if 0<[pr (u,l)].length/\[pr (u,l)].length<1000/\-1000<(a:Int)/\(a:Int)<1000 then some (PyData.tuple (List.replicate (a:Int).toNat [pr (u,l)]).flatten) else none)=_
  rw [if_pos ⟨by simp,by simp,by omega,by omega⟩,alq]
  simp [jg]
 have f1':few [PyData.tuple [.int u,.int l]]=true:=f1
 generalize (a:Int)=aa at*
 show ahO.1 [some (jp u e l b),some (.int aa)]=_
 simp only [ahO,j2,qO,op2,Qj,jr,jJ,lkp,cst,zzA,zzB,zzC,zzD,zzE,ix0,ix2,f1',f2,zzM,rp]
noncomputable def J0 (e n:Int) (r:PyData):Int:=n - jl e r
noncomputable def okL (e b m n:Int) (r:PyData):Bool:=decide (J0 e n r % b=0) && (decide (0<=J0 e n r) && decide (J0 e n r<=b*m))
noncomputable def adC (e b n:Int) (r:PyData):PyData:= .tuple [r,.int (J0 e n r / b)]
theorem ann {u e l b m n:Int} (hu':u<100) (hb:0<b) (hb':b<100) {A x7:OP}{ds:LP} (hds:ds.length<1000000) {R:PyData} (nR:noL R=true) {L:Int}:tst (op2 dEq (op2 akf (lkp 7) (lkp 3)) (cst (.int 0))) [some (jp u e l b),A,some (.int n),some (.int b),some (.int m),some (.list ds),some R,some (.int L)]=some (decide (L % b=0)):=by
 have mb:QL (.int b) (.int m)=some (.int (b*m)):=qu (by omega)
 have md:=fun x=>aaj (i:=x) hb
 have fd:=fun x=>Q6 (i:=x) hb (by omega)
 have sb:∀ x y:Int,aaA (.int x) (.int y)=some (.int (x - y)):=fun _ _=>rfl
 have le:∀ x y:Int,Js (fun i j=>decide (i<=j)) (.int x) (.int y)=some (.bool (decide (x<=y))):=fun _ _=>rfl
 simp only [tst,op2,lkp,cst,zzA,zzB,zzC,zzD,md,Zq,asB]
theorem ano {u e l b m n:Int} (hu':u<100) (hb:0<b) (hb':b<100) {A x7:OP}{ds:LP} (hds:ds.length<1000000) {R:PyData} (nR:noL R=true) {L:Int}:tst (chn (Js fun i j=>decide (i<=j)) (Js fun i j=>decide (i<=j)) (cst (.int 0)) (lkp 7) (op2 QL (lkp 3) (lkp 4))) [some (jp u e l b),A,some (.int n),some (.int b),some (.int m),some (.list ds),some R,some (.int L)]=some (decide (0<=L) && decide (L<=b*m)):=by
 have mb:QL (.int b) (.int m)=some (.int (b*m)):=qu (by omega)
 have md:=fun x=>aaj (i:=x) hb
 have fd:=fun x=>Q6 (i:=x) hb (by omega)
 have sb:∀ x y:Int,aaA (.int x) (.int y)=some (.int (x - y)):=fun _ _=>rfl
 have le:∀ x y:Int,Js (fun i j=>decide (i<=j)) (.int x) (.int y)=some (.bool (decide (x<=y))):=fun _ _=>rfl
 simp only [tst,chn,op2,lkp,cst,zzA,zzB,zzC,zzD,le,mb,asB]
 by_cases c2:0<=L
 ·simp [c2,asB]
 ·simp [c2,asB]
theorem anp {u e l b m n:Int} (hu':u<100) (hb:0<b) (hb':b<100) {A x7:OP}{ds:LP} (hds:ds.length<1000000) {R:PyData} (nR:noL R=true) {L:Int}:ZX 5 (abh 5 (Qj (jr (lkp 6) (jr (op2 ae4 (lkp 7) (lkp 3)) jJ)))) [some (jp u e l b),A,some (.int n),some (.int b),some (.int m),some (.list ds),some R,some (.int L)]=some (.nx [some (jp u e l b),A,some (.int n),some (.int b),some (.int m),some (.list (ds++[.tuple [R,.int (L / b)]])),some R,some (.int L)]):=by
 have mb:QL (.int b) (.int m)=some (.int (b*m)):=qu (by omega)
 have md:=fun x=>aaj (i:=x) hb
 have fd:=fun x=>Q6 (i:=x) hb (by omega)
 have sb:∀ x y:Int,aaA (.int x) (.int y)=some (.int (x - y)):=fun _ _=>rfl
 have le:∀ x y:Int,Js (fun i j=>decide (i<=j)) (.int x) (.int y)=some (.bool (decide (x<=y))):=fun _ _=>rfl
 have hn:noL (.tuple [R,.int (L / b)])=true:=by simp [noL,noLs,nR]
 have hf2:few [R,PyData.int (L / b)]=true:=by simp [few]
 simp only [ZX,abh,Qj,jr,jJ,op2,lkp,zzA,zzB,zzC,zzD,zzE,fd,hf2,zzM,amZ,hn,hds,and_self,zzF,zzG]
theorem agX {u e l b m n:Int} (hu':u<100) (hb:0<b) (hb':b<100) {A x7:OP}{ds:LP} (hds:ds.length<1000000) {R:PyData} (nR:noL R=true) {L:Int} (hL':n - jl e R=L) (hw:qT [jp u e l b,R]=some (.int (jl e R))):
  Zk.1 [some (jp u e l b),A,some (.int n),some (.int b),some (.int m),some (.list ds),some R,x7]=
   some (.nx [some (jp u e l b),A,some (.int n),some (.int b),some (.int m),some (.list (ds++if (decide (L % b=0) && (decide (0<=L) && decide (L<=b*m)))=true then [.tuple [R,.int (L / b)]] else [])),some R,some (.int L)]):=by
 have sb:∀ x y:Int,aaA (.int x) (.int y)=some (.int (x - y)):=fun _ _=>rfl
 simp only [Zk]
 refine (js (ρ1:=[some (jp u e l b),A,some (.int n),some (.int b),some (.int m),some (.list ds),some R,some (.int L)]) ?_).trans ?_
 ·simp only [zA,brw,hid,op2,lkp,jP,jr,jJ,zzF,zzG,zzA,zzB,zzC,zzD,zzE,hw,sb,jE,hL']
 ·have q1:=ann (u:=u) (e:=e) (l:=l) (m:=m) (n:=n) hu' hb hb' (A:=A) (x7:=x7) hds nR (L:=L)
  have q2:=ano (u:=u) (e:=e) (l:=l) (m:=m) (n:=n) hu' hb hb' (A:=A) (x7:=x7) hds nR (L:=L)
  have q3:=anp (u:=u) (e:=e) (l:=l) (m:=m) (n:=n) hu' hb hb' (A:=A) (x7:=x7) hds nR (L:=L)
  cases c1:decide (L % b=0) with
  | false=>simp only [j2,ifS,QJ,q1,c1,zzD,zzL,zzN,qG,Bool.false_and,List.append_nil]
  | true=>
   cases c2:(decide (0<=L) && decide (L<=b*m)) with
   | false=>simp only [j2,ifS,QJ,q1,q2,c1,c2,zzD,zzM,zzL,zzN,qG,Bool.and_false,List.append_nil]
   | true=>simp only [j2,ifS,QJ,q1,q2,q3,c1,c2,zzD,zzM,qG,Bool.and_self]
theorem ai8 {u e l b m n:Int} (hu':u<100) (hb:0<b) (hb':b<100) {A x7:OP}{ds:LP} (hds:ds.length<1000000) {r:PyData} (hr:r ∈ jD u l):
  Zk.1 [some (jp u e l b),A,some (.int n),some (.int b),some (.int m),some (.list ds),some r,x7]=
   some (.nx [some (jp u e l b),A,some (.int n),some (.int b),some (.int m),some (.list (ds++if okL e b m n r=true then [adC e b n r] else [])),some r,some (.int (J0 e n r))]):=by
 have hw:=ady (e:=e) (b:=b) hu' hr
 have nR:noL r=true:=by obtain ⟨i,j,_,_,rfl⟩:=adx hr; simp [noL,noLs]
 exact agX hu' hb hb' hds nR rfl hw
theorem adD {u e l b m n:Int} (hu':u<100) (hb:0<b) (hb':b<100) {A:OP}:∀ (rs ds:LP) (x6 x7:OP),(∀ r ∈ rs,r ∈ jD u l)->ds.length+rs.length<1000000->
  ∃ y6 y7,jF (jE 6) Zk.1 rs [some (jp u e l b),A,some (.int n),some (.int b),some (.int m),some (.list ds),x6,x7]=
   some (.nx [some (jp u e l b),A,some (.int n),some (.int b),some (.int m),some (.list (ds++(rs.filter (okL e b m n)).map (adC e b n))),y6,y7])
 | [],ds,x6,x7,_,_=>⟨x6,x7,by simp [jF]⟩
 | r::rs,ds,x6,x7,h,hl=>by
  have hl':ds.length+(rs.length+1)<1000000:=hl
  have s:=ai8 (l:=l) (e:=e) (m:=m) (n:=n) hu' hb hb' (A:=A) (x7:=x7) (ds:=ds) (by omega) (h r List.mem_cons_self)
  obtain ⟨y6,y7,ih⟩:=adD (l:=l) (e:=e) (m:=m) (n:=n) hu' hb hb' (A:=A) rs (ds++if okL e b m n r=true then [adC e b n r] else []) (some r) (some (.int (J0 e n r))) (fun x hx=>h x (List.mem_cons_of_mem _ hx)) (by split <;> simp <;> omega)
  refine ⟨y6,y7,?_⟩
  rw [jF]
  simp only [jE,zzF,zzG,zzD,s,ih]
  by_cases c:okL e b m n r=true
  ·simp [c,List.filter_cons]
  ·simp [c,List.filter_cons]
theorem alu {u e l b n:Int} (h:okN u e l b=true) (a:Nat) (ha:a<4):
  afv [jp u e l b,.int (a:Int),.int n]=some (.list (((jD u l).filter (okL e b (qt u e l b a) n)).map (adC e b n))):=by
 obtain ⟨a1,a2,a3,a4,a5,a6,a7,a8,a9,a10⟩:=jO h
 have hu:0<=u:=a1
 have hu':u<100:=by omega
 have hl:0<=l:=by omega
 have hl':l<100:=by omega
 have hb:0<b:=by omega
 have hb':b<100:=by omega
 refine jV rfl ?_
 have h1:=als (u:=u) (e:=e) (l:=l) (b:=b) a ha
 have h2:afu [jp u e l b,jg (List.replicate a (u,l))]=some (.int (qt u e l b a)):=aeB h (by rw [List.length_replicate]; omega) (alr h a)
 have h3:=aba (e:=e) (b:=b) hu hu' hl hl'
 have hf:=afC (u:=u) (l:=l) hu' hl'
 have hlen:(jD u l).length<1000000:=by simpa [few] using hf
 obtain ⟨y6,y7,lp⟩:=adD (u:=u) (l:=l) (e:=e) (m:=qt u e l b a) (n:=n) hu' hb hb' (A:=some (.int (a:Int))) (jD u l) [] none none (fun _ h=>h) (by simpa using hlen)
 show ahQ.1 [some (jp u e l b),some (.int (a:Int)),some (.int n),none,none,none,none,none]=_
 simp only [ahQ]
 refine (js (ρ1:=[some (jp u e l b),some (.int (a:Int)),some (.int n),some (.int b),none,none,none,none]) ?_).trans ?_
 ·simp only [zA,op2,lkp,cst,jE,zzA,zzC,zzD,zzE,ix3,zzF,zzG]
 refine (js (ρ1:=[some (jp u e l b),some (.int (a:Int)),some (.int n),some (.int b),some (.int (qt u e l b a)),none,none,none]) ?_).trans ?_
 ·simp only [zA,jP,jr,jJ,lkp,jE,zzA,zzB,zzC,zzD,zzE,h1,h2,zzF,zzG]
 have f0:few ([]:LP)=true:=qf
 simp only [QT,JG,jJ,f0,zzD,zzM,List.length_cons,List.length_nil,Nat.lt_add_one,zzF,zzG]
 have q:j2 (JX (fun ρ=>itL (jP zO (jr (lkp 0) jJ)) (hid (some 5) ρ)) (jE 6) Zk.1) (j2 (qO (lkp 5)) qG) [some (jp u e l b),some (.int (a:Int)),some (.int n),some (.int b),some (.int (qt u e l b a)),some (.list []),none,none]=
   some (.rt (.list (((jD u l).filter (okL e b (qt u e l b a) n)).map (adC e b n)))):=by
  refine (js (ρ1:=[some (jp u e l b),some (.int (a:Int)),some (.int n),some (.int b),some (.int (qt u e l b a)),some (.list ([]++((jD u l).filter (okL e b (qt u e l b a) n)).map (adC e b n))),y6,y7]) ?_).trans ?_
  ·simp only [JX,itL,aay,jP,jr,jJ,lkp,hid,zzF,zzG,zzA,zzC,zzD,zzE,h3,lp]
  ·simp only [j2,qO,lkp,zzA,zzB,zzC,zzE,zzD,List.nil_append]
 rw [if_pos (by decide),q]
 rfl
noncomputable abbrev KI:=List (Int × Int)
noncomputable def aaT (kv:KI) (k:Int):Option Int:=(kv.find? fun p=>decide (p.1=k)).map (·.2)
noncomputable def J1 (kv:KI) (k:Int):Int:=(aaT kv k).getD 0
noncomputable def ai9 (kv:KI) (k v:Int):KI:=if kv.any (fun p=>decide (p.1=k))=true then kv.map (fun p=>if p.1=k then (p.1,v) else p) else kv++[(k,v)]
theorem alv (p:Int × Int) (kv:KI) (x:Int):aaT (p::kv) x=if p.1=x then some p.2 else aaT kv x:=by
 by_cases h:p.1=x <;> simp [aaT,List.find?_cons,h]
noncomputable def rp (u l:Int):List (Int × Int):=(List.range (u+1).toNat).flatMap fun (i:Nat)=>(List.range (l+1).toNat).map fun (j:Nat)=>((i:Int),(j:Int))
theorem abu (u l:Int):jD u l=(rp u l).map pr:=by
 simp [jD,JL,Jy,rp,List.map_flatMap,List.map_map,Function.comp_def,pr]
theorem alw {u l:Int}{p:Int × Int} (h:okP u l p=true):p ∈ rp u l:=by
 obtain ⟨q1,q2,q3,q4⟩:=qi h
 refine List.mem_flatMap.mpr ⟨p.1.toNat,List.mem_range.mpr (by omega),List.mem_map.mpr ⟨p.2.toNat,List.mem_range.mpr (by omega),?_⟩⟩
 exact Prod.ext (by show ((p.1.toNat:Nat):Int)=p.1; omega) (by show ((p.2.toNat:Nat):Int)=p.2; omega)
theorem alx {u l:Int}{p:Int × Int} (h:p ∈ rp u l):okP u l p=true:=by
 obtain ⟨i,hi,h2⟩:=List.mem_flatMap.mp h
 obtain ⟨j,hj,rfl⟩:=List.mem_map.mp h2
 have:=List.mem_range.mp hi
 have:=List.mem_range.mp hj
 simp only [okP,Bool.and_eq_true,decide_eq_true_eq]
 exact ⟨⟨⟨by omega,by omega⟩,by omega⟩,by omega⟩
theorem apm (u l:Int):(rp u l).length=(jD u l).length:=by rw [abu,List.length_map]
theorem agY {u e l b:Int} (h:okN u e l b=true):(rp u l).length<=48:=by
 obtain ⟨a1,a2,a3,a4,a5,a6,a7,a8,a9,a10⟩:=jO h
 rw [apm]
 show (JL (u+1).toNat (l+1).toNat).length<=48
 rw [ace]
 exact Nat.le_trans (Nat.mul_le_mul (show (u+1).toNat<=4 by omega) (show (l+1).toNat<=12 by omega)) (by decide)
noncomputable def okQ (e b M n:Int) (p:Int × Int):Bool:=decide ((n - wt e p) % b=0) && (decide (0<=n - wt e p) && decide (n - wt e p<=b*M))
noncomputable def lps (u e l b:Int) (a:Nat) (n:Int):List ((Int × Int) × Int):=((rp u l).filter (okQ e b (qt u e l b a) n)).map fun p=>(p,(n - wt e p) / b)
noncomputable def agZ (q:(Int × Int) × Int):PyData:= .tuple [pr q.1,.int q.2]
theorem adE {u e l b n:Int} (h:okN u e l b=true) (a:Nat) (ha:a<4):afv [jp u e l b,.int (a:Int),.int n]=some (.list ((lps u e l b a n).map agZ)):=by
 rw [alu h a ha,abu,List.filter_map,List.map_map]
 unfold lps
 rw [List.map_map]
 rfl
theorem aeC (u e l b:Int) (a:Nat) (n:Int):(lps u e l b a n).length<=(rp u l).length:=by unfold lps; rw [List.length_map]; exact List.length_filter_le _ _
noncomputable def arF (d:Option Int) (P:Int->Prop):Prop:=(∀ v,d=some v->P v)/\∀ v,P v->∃ m,d=some m/\m<=v
theorem afE {α β:Type} (f:α->List β) (k:Nat) (hf:∀ x,(f x).length<=k):∀ xs:List α,(xs.flatMap f).length<=xs.length*k
 | []=>by simp
 | x::xs=>by
  rw [List.flatMap_cons,List.length_append,List.length_cons,Nat.succ_mul]
  have:=afE f k hf xs
  have:=hf x
  omega
end Rods
namespace BX
open PySem PySem.Spec L2
open PyProof.Rows hiding St
theorem Qg {ga:PyData->Rho->Option Rho}{F:RO} (Iv:Nat->Rho->Prop):∀ (ds:LP) (i:Nat) (ρ:Rho),Iv i ρ->
  (∀ j d ρ,ds[j]?=some d->Iv (i+j) ρ->∃ ρ1 ρ2,ga d ρ=some ρ1/\F ρ1=some (.nx ρ2)/\Iv (i+j+1) ρ2)->∃ ρ',jF ga F ds ρ=some (.nx ρ')/\Iv (i+ds.length) ρ'
 | [],i,ρ,h,_=>⟨ρ,rfl,h⟩
 | d::ds,i,ρ,h,hs=>by
  obtain ⟨ρ1,ρ2,h1,h2,h3⟩:=hs 0 d ρ rfl h
  obtain ⟨ρ',h4,h5⟩:=Qg Iv ds (i+1) ρ2 h3 fun j d ρ hd hi=>by
   have:=hs (j+1) d ρ (by simpa using hd) (by rw [show i+(j+1)=i+1+j by omega]; exact hi)
   rw [show i+1+j+1=i+(j+1)+1 by omega]; exact this
  refine ⟨ρ',?_,by rw [List.length_cons,show i+(ds.length+1)=i+1+ds.length by omega]; exact h5⟩
  simp [jF,h1,h2,h4]
theorem afF {n j:Nat}{d:PyData} (h:(Ql 0 n)[j]?=some d):j<n/\d= .int j:=by
 simp only [Ql,List.getElem?_map] at h
 cases hj:(List.range n)[j]? with
 | none=>rw [hj] at h; cases h
 | some k=>
  rw [hj] at h
  obtain ⟨h1,h2⟩:=List.getElem?_eq_some_iff.mp hj
  simp at h1 h2
  subst h2
  simp at h
  exact ⟨h1,h.symm⟩
theorem afG (n:Nat):(Ql 0 n).length=n:=by simp [Ql]
end BX
namespace Rods
open PySem L2 BX
open PyProof.Rows hiding St
section
variable {u e l b:Int}
theorem zT (b e:Int) (p:Int × Int) (t:List (Int × Int)):val b e (p::t)=wt e p*b ^ t.length+val b e t:=by
 have key:∀ (t:List (Int × Int)) (acc:Int),t.foldl (fun n p=>n*b+wt e p) acc=acc*b ^ t.length+val b e t:=by
  intro t
  induction t with
  | nil=>intro acc; simp [val]
  | cons q t ih=>
   intro acc
   rw [List.foldl_cons,ih]
   show _=acc*b ^ (q::t).length+(q::t).foldl (fun n p=>n*b+wt e p) 0
   rw [List.foldl_cons,ih,List.length_cons,Int.pow_succ,Int.mul_comm (b ^ t.length) b,←Int.mul_assoc,Int.add_mul,Int.zero_mul,Int.zero_add,Int.add_assoc]
 show (p::t).foldl (fun n p=>n*b+wt e p) 0=_
 rw [List.foldl_cons,key]
 simp
theorem ZJ (a:Nat):qt u e l b (a+1)=qt u e l b a*b+wt e (u,l):=by
 unfold qt
 rw [List.replicate_succ']
 exact alm _ _ _ _
theorem aja (H:zS=true) (h:okN u e l b=true) {r n:Int} (h1:1<=r) (h4:r<=4) (h0:0<=n) (hn:n<=99999):ach [jp u e l b,.int r,.int n]=some .none:=by
 have g1:=aaR (apk H h)
 have g2:QZ [.int r]=some .none:=alp h1 h4
 have g3:Jc [.int n]=some .none:=acp h0 hn
 simp [ach,jB,agQ,j4,j2,abg,jP,jr,jJ,lkp,g1,g2,g3,qG]
theorem adF {r:Nat} (h1:1<=r) (h3:r<=3):aiU [.int ((r:Int) - 1),.int (-1),.int (-1)]=some ((List.range r).map fun (j:Nat)=> .int (((r - (j+1):Nat):Int))):=by
 have:r=1 ∨ r=2 ∨ r=3:=by omega
 rcases this with q | q | q <;> subst q <;> rfl
theorem afH {r j:Nat}{d:PyData} (h:((List.range r).map fun (j:Nat)=>PyData.int (((r - (j+1):Nat):Int)))[j]?=some d):j<r/\d= .int (((r - (j+1):Nat):Int)):=by
 rw [List.getElem?_map] at h
 cases hj:(List.range r)[j]? with
 | none=>rw [hj] at h; cases h
 | some k=>
  rw [hj] at h
  obtain ⟨h1,h2⟩:=List.getElem?_eq_some_iff.mp hj
  simp at h1 h2
  subst h2
  simp at h
  exact ⟨h1,h.symm⟩
end
noncomputable def JU (kv:KI) (k c:Int):KI:=ai9 kv k (J1 kv k+c)
noncomputable def Q7 (u e l b:Int) (a:Nat) (n:Int):List Int:=((jD u l).filter (okL e b (qt u e l b a) n)).map fun x=>J0 e n x / b
noncomputable def aly (u e l b:Int) (a:Nat) (kv:KI):KI:=kv.foldl (fun acc p=>(Q7 u e l b a p.1).foldl (fun x k=>JU x k (J1 kv p.1)) acc) []
theorem Zr (p:Int × Int) (kv:KI) (x:Int):aaT (p::kv) x=if p.1=x then some p.2 else aaT kv x:=by
 by_cases h:p.1=x <;> simp [aaT,h,List.find?_cons]
theorem adG {kv:KI}{k:Int} (h:¬ kv.any (fun p=>decide (p.1=k))=true):aaT kv k=none:=by
 have:kv.find? (fun p=>decide (p.1=k))=none:=by
  rw [List.find?_eq_none]
  intro p hp z
  exact h (List.any_eq_true.mpr ⟨p,hp,z⟩)
 simp [aaT,this]
noncomputable def ndK (kv:KI):Prop:=(kv.map (·.1)).Nodup
theorem ag0 {kv:KI}{k v:Int} (h:ndK kv):ndK (ai9 kv k v):=by
 unfold ai9
 by_cases c:kv.any (fun p=>decide (p.1=k))=true
 ·rw [if_pos c]
  unfold ndK at h ⊢
  have:(kv.map fun p=>if p.1=k then (p.1,v) else p).map (·.1)=kv.map (·.1):=by
   rw [List.map_map]
   apply List.map_congr_left
   intro p _
   by_cases q:p.1=k <;> simp [q]
  rw [this]; exact h
 ·rw [if_neg c]
  unfold ndK at h ⊢
  rw [List.map_append,List.nodup_append]
  refine ⟨h,by simp,?_⟩
  intro x hx y hy
  have hy':y=k:=by simpa using hy
  subst hy'
  intro z
  subst z
  obtain ⟨p,hp,e⟩:=List.mem_map.mp hx
  exact c (List.any_eq_true.mpr ⟨p,hp,by simpa using e⟩)
theorem ahV (c:Int):∀ (ks:List Int) (acc:KI),ndK acc->ndK (ks.foldl (fun a k=>JU a k c) acc)
 | [],acc,h=>h
 | k::ks,acc,h=>ahV c ks _ (ag0 h)
theorem afI:∀ {kv:KI}{p:Int × Int},ndK kv->p ∈ kv->J1 kv p.1=p.2
 | [],p,_,h=>by simp at h
 | q::kv,p,hn,h=>by
  unfold ndK at hn
  rw [List.map_cons,List.nodup_cons] at hn
  unfold J1
  rw [Zr]
  rcases List.mem_cons.mp h with rfl | h
  ·simp
  ·have:¬ q.1=p.1:=fun z=>hn.1 (List.mem_map.mpr ⟨p,h,z.symm⟩)
   rw [if_neg this]
   exact afI hn.2 h
noncomputable def smK (kv:KI) (f:Int->Int):Int:=(kv.map fun p=>p.2*f p.1).sum
theorem ahW (k v:Int) (f:Int->Int):∀ kv:KI,ndK kv->kv.any (fun p=>decide (p.1=k))=true->smK (kv.map fun p=>if p.1=k then (p.1,v) else p) f=smK kv f+(v - J1 kv k)*f k
 | [],_,h=>by simp at h
 | p::kv,hn,h=>by
  unfold ndK at hn
  rw [List.map_cons,List.nodup_cons] at hn
  by_cases h1:p.1=k
  ·have hid:kv.map (fun p=>if p.1=k then (p.1,v) else p)=kv:=by
    conv=>rhs; rw [←List.map_id kv]
    apply List.map_congr_left
    intro q hq
    have:¬ q.1=k:=fun z=>hn.1 (List.mem_map.mpr ⟨q,hq,z.trans h1.symm⟩)
    simp [this]
   rw [List.map_cons,hid]
   have g:J1 (p::kv) k=p.2:=by unfold J1; rw [Zr,if_pos h1]; rfl
   rw [g]
   simp only [h1,zzM,smK,List.map_cons,List.sum_cons,Int.sub_mul]
   omega
  ·have c:kv.any (fun p=>decide (p.1=k))=true:=by simpa [h1] using h
   have ih:=ahW k v f kv hn.2 c
   have g:J1 (p::kv) k=J1 kv k:=by unfold J1; rw [Zr,if_neg h1]
   rw [List.map_cons,if_neg h1,g]
   simp only [smK,List.map_cons,List.sum_cons] at ih ⊢
   rw [ih]
   omega
theorem ahX {kv:KI}{k c:Int}{f:Int->Int} (h:ndK kv):smK (JU kv k c) f=smK kv f+c*f k:=by
 unfold JU ai9
 by_cases q:kv.any (fun p=>decide (p.1=k))=true
 ·rw [if_pos q,ahW k _ f kv h q]
  have:J1 kv k+c - J1 kv k=c:=by omega
  rw [this]
 ·rw [if_neg q]
  have g:J1 kv k=0:=by unfold J1; rw [adG q]; rfl
  rw [g]
  simp [smK]
theorem afJ (c:Int) (f:Int->Int):∀ (ks:List Int) (acc:KI),ndK acc->smK (ks.foldl (fun a k=>JU a k c) acc) f=smK acc f+c*(ks.map f).sum
 | [],acc,_=>by simp
 | k::ks,acc,h=>by
  rw [List.foldl_cons,afJ c f ks (JU acc k c) (ag0 h),ahX h,List.map_cons,List.sum_cons,Int.mul_add]
  omega
theorem QB:∀ {xs:List Int},(∀ x ∈ xs,0<=x)->0<=xs.sum
 | [],_=>by simp
 | x::xs,h=>by
  have:=QB (xs:=xs) fun y hy=>h y (List.mem_cons_of_mem _ hy)
  have:=h x List.mem_cons_self
  rw [List.sum_cons]; omega
theorem alz:∀ {xs:List Int}{y:Int},(∀ x ∈ xs,0<=x)->y ∈ xs->y<=xs.sum
 | [],y,_,h=>by simp at h
 | x::xs,y,h,hy=>by
  have h1:=QB (xs:=xs) fun z hz=>h z (List.mem_cons_of_mem _ hz)
  rw [List.sum_cons]
  rcases List.mem_cons.mp hy with rfl | hy
  ·omega
  ·have h2:=alz (xs:=xs) (fun z hz=>h z (List.mem_cons_of_mem _ hz)) hy
   have:=h x List.mem_cons_self
   omega
theorem acs (p:PyData->Bool) (h:PyData->Int):∀ rs:LP,((rs.filter p).map h).sum=(rs.map fun r=>if p r=true then h r else 0).sum
 | []=>rfl
 | r::rs=>by
  rw [List.map_cons,List.sum_cons,←acs p h rs]
  by_cases c:p r=true
  ·rw [List.filter_cons_of_pos c,if_pos c,List.map_cons,List.sum_cons]
  ·rw [List.filter_cons_of_neg c,if_neg c]; omega
section
variable {u e l b:Int}
noncomputable def CN (u e l b:Int):Nat->Int->Int
 | 0,n=>if n=0 then 1 else 0
 | r+1,n=>((jD u l).map fun x=>if (n - jl e x) % b=0/\0<=n - jl e x then CN u e l b r ((n - jl e x) / b) else 0).sum
theorem adH (f:PyData->Int):∀ ks:LP,(∀ k ∈ ks,f k=0)->(ks.map f).sum=0
 | [],_=>rfl
 | k::ks,h=>by rw [List.map_cons,List.sum_cons,h k List.mem_cons_self,adH f ks fun x hx=>h x (List.mem_cons_of_mem _ hx)]; rfl
theorem aaU (h:okN u e l b=true) {x:PyData} (hx:x ∈ jD u l):0<=jl e x/\jl e x<=u*e+l:=by
 obtain ⟨a1,a2,a3,a4,a5,a6,a7,a8,a9,a10⟩:=jO h
 rw [abu] at hx
 obtain ⟨p,hp,rfl⟩:=List.mem_map.mp hx
 have ok:=alx hp
 obtain ⟨q1,q2,q3,q4⟩:=qi ok
 have w0:=adz a3 ok
 refine ⟨w0,?_⟩
 have:=Int.mul_le_mul_of_nonneg_right q2 (show 0<=e by omega)
 show p.1*e+p.2<=u*e+l
 omega
theorem ahY (h:okN u e l b=true):∀ (r:Nat) (k:Int),qt u e l b r<k->CN u e l b r k=0
 | 0,k,hk=>by
  have:qt u e l b 0=0:=rfl
  show (if k=0 then (1:Int) else 0)=0
  rw [if_neg (by omega)]
 | r+1,k,hk=>by
  obtain ⟨a1,a2,a3,a4,a5,a6,a7,a8,a9,a10⟩:=jO h
  refine adH _ _ fun x hx=>?_
  obtain ⟨w0,w1⟩:=aaU h hx
  by_cases hc:(k - jl e x) % b=0/\0<=k - jl e x
  ·rw [if_pos hc]
   refine ahY h r _ ?_
   rw [ZJ] at hk
   have e1:wt e (u,l)=u*e+l:=rfl
   rw [e1] at hk
   have hd:=Int.mul_ediv_add_emod (k - jl e x) b
   rw [hc.1,Int.mul_comm] at hd
   exact Int.lt_of_mul_lt_mul_right (show qt u e l b r*b<(k - jl e x) / b*b by omega) (by omega)
  ·rw [if_neg hc]
theorem ajb (h:okN u e l b=true) (a:Nat) (n:Int):((Q7 u e l b a n).map (CN u e l b a)).sum=CN u e l b (a+1) n:=by
 obtain ⟨a1,a2,a3,a4,a5,a6,a7,a8,a9,a10⟩:=jO h
 unfold Q7
 rw [List.map_map,acs]
 show _=((jD u l).map fun x=>if (n - jl e x) % b=0/\0<=n - jl e x then CN u e l b a ((n - jl e x) / b) else 0).sum
 congr 1
 refine List.map_congr_left fun x hx=>?_
 by_cases hc:(n - jl e x) % b=0/\0<=n - jl e x
 ·rw [if_pos hc]
  by_cases hM:n - jl e x<=b*qt u e l b a
  ·have ok:okL e b (qt u e l b a) n x=true:=by
    simp only [okL,J0,Bool.and_eq_true]
    exact ⟨decide_eq_true hc.1,decide_eq_true hc.2,decide_eq_true hM⟩
   rw [if_pos ok]; rfl
  ·have ok:¬ okL e b (qt u e l b a) n x=true:=by
    simp only [okL,J0,Bool.and_eq_true]
    exact fun z=>hM (of_decide_eq_true z.2.2)
   rw [if_neg ok]
   refine (ahY h a _ ?_).symm
   have hd:=Int.mul_ediv_add_emod (n - jl e x) b
   rw [hc.1] at hd
   exact Int.lt_of_mul_lt_mul_left (show b*qt u e l b a<b*((n - jl e x) / b) by omega) (by omega)
 ·have ok:¬ okL e b (qt u e l b a) n x=true:=by
   simp only [okL,J0,Bool.and_eq_true]
   exact fun z=>hc ⟨of_decide_eq_true z.1,of_decide_eq_true z.2.1⟩
  rw [if_neg ok,if_neg hc]
theorem afK (a:Nat) (g f:Int->Int):∀ (ps acc:KI),ndK acc->ndK (ps.foldl (fun acc p=>(Q7 u e l b a p.1).foldl (fun x k=>JU x k (g p.1)) acc) acc)/\smK (ps.foldl (fun acc p=>(Q7 u e l b a p.1).foldl (fun x k=>JU x k (g p.1)) acc) acc) f=smK acc f+(ps.map fun p=>g p.1*((Q7 u e l b a p.1).map f).sum).sum
 | [],acc,hn=>⟨hn,by simp⟩
 | p::ps,acc,hn=>by
  obtain ⟨h1,h2⟩:=afK a g f ps ((Q7 u e l b a p.1).foldl (fun x k=>JU x k (g p.1)) acc) (ahV _ _ _ hn)
  refine ⟨h1,?_⟩
  rw [List.foldl_cons,h2,afJ _ _ _ _ hn,List.map_cons,List.sum_cons]
  omega
theorem alA (h:okN u e l b=true) (a:Nat) {kv:KI} (hn:ndK kv):ndK (aly u e l b a kv)/\smK (aly u e l b a kv) (CN u e l b a)=smK kv (CN u e l b (a+1)):=by
 obtain ⟨h1,h2⟩:=afK (u:=u) (e:=e) (l:=l) (b:=b) a (J1 kv) (CN u e l b a) kv [] (by simp [ndK])
 refine ⟨h1,?_⟩
 show smK (kv.foldl _ []) _=_
 rw [h2]
 have e0:smK [] (CN u e l b a)=0:=rfl
 rw [e0,Int.zero_add]
 unfold smK
 congr 1
 refine List.map_congr_left fun p hp=>?_
 rw [ajb h,afI hn hp]
theorem ahZ:∀ {kv:KI},ndK kv->smK kv (CN u e l b 0)=J1 kv 0
 | [],_=>rfl
 | p::kv,hn=>by
  have hn':ndK kv:=by unfold ndK at hn ⊢; rw [List.map_cons] at hn; exact (List.nodup_cons.mp hn).2
  have hne:p.1 ∉ kv.map (·.1):=by unfold ndK at hn; rw [List.map_cons] at hn; exact (List.nodup_cons.mp hn).1
  have ih:=ahZ hn'
  have e1:smK (p::kv) (CN u e l b 0)=p.2*(if p.1=0 then 1 else 0)+smK kv (CN u e l b 0):=by
   unfold smK
   rw [List.map_cons,List.sum_cons]
   rfl
  rw [e1,ih]
  unfold J1
  rw [Zr]
  by_cases h0:p.1=0
  ·rw [if_pos h0,if_pos h0]
   have:aaT kv 0=none:=adG fun z=>by
    obtain ⟨q,hq,hq2⟩:=List.any_eq_true.mp z
    exact hne (List.mem_map.mpr ⟨q,hq,by rw [h0]; simpa using hq2⟩)
   rw [this]
   simp
  ·rw [if_neg h0,if_neg h0]
   simp
end
theorem afL {u e l b:Int} (h:okN u e l b=true):0<=u*e+l/\u*e+l<=26:=by
 obtain ⟨a1,a2,a3,a4,a5,a6,a7,a8,a9,a10⟩:=jO h
 have h1:0<=u*e:=Int.mul_nonneg a1 (by omega)
 have h2:u*e<=3*5:=Int.mul_le_mul (by omega) (by omega) (by omega) (by omega)
 omega
theorem act (ns:List Int):qN (ns.map PyData.int)=some ns:=by
 have:=acn (fun x:Int=>x) ns
 simpa using this
section
variable {u e l b:Int}{ps qs:List (Int × Int)}
theorem aak {xs ys:LP} (hx:xs ≠ [] ∨ True) (hl:xs.length+ys.length<10000):Qb (.tuple xs) (.tuple ys)=some (.tuple (xs++ys)):=by
 cases xs with
 | nil=>rfl
 | cons x xs=>
  have hf:few ((x::xs)++ys)=true:=Ji (by rw [List.length_append]; exact hl)
  show (if few ((x::xs)++ys)=true then some (PyData.tuple ((x::xs)++ys)) else none)=_
  rw [if_pos hf]
theorem apn {ns:List Int} (hn:ns.length<1000000) (h:okN u e l b=true) {at_:Int} (ha:0<=at_) {j:Nat} (hj:j<4) {x3 x4 x7:OP} (hq:qs.length<=4):
  ∃ p,okP u l p=true/\aeq.1 [some (scr ns),some (.int at_),some (jp u e l b),x3,x4,some (jg qs),some (.int (j:Int)),x7]=some (.nx [some (scr ns),some (.int at_),some (jp u e l b),x3,x4,some (jg (qs++[p])),some (.int (j:Int)),some (pr p)]):=by
 obtain ⟨a1,a2,a3,a4,a5,a6,a7,a8,a9,a10⟩:=jO h
 obtain ⟨x,d1,x0,x1⟩:=qB ns hn (at_+1+2*(j:Int)) (u+1) (by omega) (by omega)
 obtain ⟨y,d2,y0,y1⟩:=qB ns hn (at_+2+2*(j:Int)) (l+1) (by omega) (by omega)
 have m1:QL (.int 2) (.int (j:Int))=some (.int (2*(j:Int))):=qu ⟨by omega,by omega⟩
 have f2:few [PyData.int x,.int y]=true:=Ji (by simp)
 have f1:few [PyData.tuple [.int x,.int y]]=true:=Ji (by simp)
 have ad:Qb (jg qs) (.tuple [.tuple [.int x,.int y]])=some (jg (qs++[(x,y)])):=by
  have:=aak (xs:=qs.map pr) (ys:=[pr (x,y)]) (.inr trivial) (by simp; omega)
  rw [show jg (qs++[(x,y)])= .tuple (qs.map pr++[pr (x,y)]) by simp [jg]]
  exact this
 generalize scr ns=S at*
 refine ⟨(x,y),?_,?_⟩
 ·simp only [okP,Bool.and_eq_true,decide_eq_true_eq]
  exact ⟨⟨⟨x0,by omega⟩,y0⟩,by omega⟩
 ·simp only [aeq]
  refine (js (ρ1:=[some S,some (.int at_),some (jp u e l b),x3,x4,some (jg qs),some (.int (j:Int)),some (.tuple [.int x,.int y])]) ?_).trans ?_
  ·simp only [zA,Qj,jP,jr,jJ,op2,lkp,cst,jE,zzA,zzB,zzC,zzD,zzE,ix0,ix2,m1,add_int,d1,d2,f2,zzM,zzF,zzG]
  simp only [j2,zA,Qj,jr,jJ,op2,lkp,jE,zzA,zzB,zzC,zzD,zzE,f1,zzM,ad,zzF,zzG,qG]
  rfl
theorem alB {ns:List Int} (hn:ns.length<1000000) (h:okN u e l b=true) {at_:Int} (ha:0<=at_) {mo:Int} (hm1:1<=mo) (hm4:mo<=4):∃ ps,ani [scr ns,.int at_,jp u e l b,.int mo]=some (jg ps)/\okS u l ps=true/\(ps.length:Int)<=mo:=by
 obtain ⟨r,d0,r0,r1⟩:=qB ns hn at_ mo ha (by omega)
 have hr:acK [.int (1+r)]=some (Ql 0 (1+r).toNat):=aez (by omega) (by omega)
 obtain ⟨ρ',hl,hI⟩:=Qg (ga:=jE 6) (F:=aeq.1) (fun i ρ=>∃ qs x6 x7,ρ=[some (scr ns),some (.int at_),some (jp u e l b),some (.int mo),some (.int (1+r)),some (jg qs),x6,x7]/\qs.length=i/\qs.all (okP u l)=true) (Ql 0 (1+r).toNat) 0
  [some (scr ns),some (.int at_),some (jp u e l b),some (.int mo),some (.int (1+r)),some (jg []),none,none] ⟨[],none,none,rfl,rfl,rfl⟩ (fun j d ρ hd hi=>by
   obtain ⟨hj,rfl⟩:=afF hd
   obtain ⟨qs,x6,x7,rfl,hlen,hall⟩:=hi
   obtain ⟨p,hp,hb⟩:=apn hn h ha (j:=j) (by omega) (x3:=some (.int mo)) (x4:=some (.int (1+r))) (x7:=x7) (qs:=qs) (by omega)
   exact ⟨_,_,rfl,hb,qs++[p],_,_,rfl,by rw [List.length_append,hlen]; rfl,by rw [List.all_append,hall,List.all_cons,hp]; rfl⟩)
 obtain ⟨qs,x6,x7,rfl,hlen,hall⟩:=hI
 rw [afG,Nat.zero_add] at hlen
 refine ⟨qs,jV rfl ?_,agW (by omega) (by omega) hall,by omega⟩
 generalize scr ns=S at*
 show anh.1 [some S,some (.int at_),some (jp u e l b),some (.int mo),none,none,none,none]=_
 simp only [anh]
 refine (js (ρ1:=[some S,some (.int at_),some (jp u e l b),some (.int mo),some (.int (1+r)),none,none,none]) ?_).trans ?_
 ·simp only [zA,jP,jr,jJ,op2,lkp,cst,jE,zzA,zzB,zzC,zzD,zzE,d0,add_int,zzF,zzG]
 refine (js (ρ1:=[some S,some (.int at_),some (jp u e l b),some (.int mo),some (.int (1+r)),some (jg []),none,none]) rfl).trans ?_
 refine (js (ρ1:=[some S,some (.int at_),some (jp u e l b),some (.int mo),some (.int (1+r)),some (jg qs),x6,x7]) ?_).trans ?_
 ·show (Option.bind (Option.bind _ acK) _)=_
  simp only [jr,jJ,lkp,zzA,zzB,zzC,zzD,zzE,hr]
  exact hl
 rfl
theorem ag1 (i j:Int):dNe (.int i) (.int j)=some (.bool (!decide (i=j))):=by
 have:(i == j)=decide (i=j):=rfl
 simp only [dNe,JT,QA,and_self,zzM,this]
theorem apo (h:okN u e l b=true) (hp:ps.all (okP u l)=true):val b e ps+2<=2*16 ^ ps.length:=by
 obtain ⟨a1,a2,a3,a4,a5,a6,a7,a8,a9,a10⟩:=jO h
 have key:∀ (ps:List (Int × Int)) (acc:Int),ps.all (okP u l)=true->0<=acc->ps.foldl (fun n p=>n*b+wt e p) acc+2<=(acc+2)*16 ^ ps.length:=by
  intro ps
  induction ps with
  | nil=>intro acc _ h; simp
  | cons p ps ih=>
   intro acc hp h0
   rw [List.all_cons,Bool.and_eq_true] at hp
   have w0:=adz a3 hp.1
   have w1:=aln a3 a4 a2 a7 hp.1
   have ha:0<=acc*b:=Int.mul_nonneg h0 (by omega)
   have hb2:acc*b<=acc*16:=Int.mul_le_mul_of_nonneg_left a9 h0
   refine Int.le_trans (ih (acc*b+wt e p) hp.2 (by omega)) ?_
   rw [List.length_cons,Int.pow_succ,Int.mul_comm (16 ^ ps.length) 16,←Int.mul_assoc]
   exact Int.mul_le_mul_of_nonneg_right (by omega) (Int.le_of_lt (aaS (by decide) _))
 have:=key ps 0 hp (by omega)
 simpa [val] using this
end
theorem an5 (ds:LP) (k:Nat):Z0 ds none (some (k:Int))=ds.take k:=by
 unfold Z0
 rw [HT.sIx_none,HT.sIx_nat,List.drop_zero,Nat.sub_zero]
 by_cases h:k<=ds.length
 ·rw [Nat.min_eq_left h]
 ·rw [Nat.min_eq_right (by omega),List.take_of_length_le (by omega),List.take_of_length_le (by omega)]
theorem ah0 (ds:LP) (k:Nat):Z0 ds (some (k:Int)) none=ds.drop k:=by
 unfold Z0
 rw [HT.sIx_none,HT.sIx_nat]
 by_cases h:k<=ds.length
 ·rw [Nat.min_eq_left h,List.take_of_length_le (by rw [List.length_drop]; omega)]
 ·rw [Nat.min_eq_right (by omega),List.drop_of_length_le (by omega),List.drop_of_length_le (by omega),List.take_nil]
section
variable {u e l b:Int}{ps qs:List (Int × Int)}
end
noncomputable def whB (a b:Int):PyData->Bool
 | .int i=>decide (a<=i) && decide (i<=b)
 | _=>false
theorem abb (d:PyData) (hd:noD d=true) (a b:Int):jR [d,.int a,.int b]=some (.bool (whB a b d)):=by
 cases d with
 | int i=>exact j8 i a b
 | dict k=>simp [noD] at hd
 | _=>simp [jR,jB,Z8,j4,j2,ifS,orB,tst,lkp,Jt,tyn,asB,zU,chn,Js,qO,qG,whB,cst]
noncomputable def acV (u l:Int):PyData->Bool
 | .tuple [x,y]=>whB 0 u x && whB 0 l y
 | _=>false
theorem alC {ds:LP} (h:noDs ds=true):∀ d ∈ ds,noD d=true:=by
 induction ds with
 | nil=>intro d hd; cases hd
 | cons x xs ih=>
  have h':noD x=true/\noDs xs=true:=by simpa [noDs] using h
  intro d hd
  rcases List.mem_cons.mp hd with rfl | q
  ·exact h'.1
  ·exact ih h'.2 d q
section
variable {u e l b:Int}
theorem ajc (d:PyData) (hd:noD d=true) (h:∀ x y,d ≠ .tuple [x,y]):JY [jp u e l b,d]=some (.bool false):=by
 cases d with
 | dict k=>simp [noD] at hd
 | tuple ds=>
  have hl:¬ (ds.length:Int)=2:=fun z=>by
   have z':ds.length=2:=by omega
   match ds,z' with
   | [x,y],_=>exact h x y rfl
  simp [JY,jB,aaK,j4,j2,ifS,orB,zU,tst,Jt,tyn,asB,lkp,op2,jP,jr,jJ,zV,cst,dNe,JT,QA,qG,qO,hl]
 | _=>simp [JY,jB,aaK,j4,j2,ifS,orB,zU,tst,Jt,tyn,asB,lkp,op2,jP,jr,jJ,zV,cst,dNe,JT,QA,qG,qO]
theorem adI (d:PyData) (hd:noD d=true):JY [jp u e l b,d]=some (.bool (acV u l d)):=by
 by_cases h:∃ x y,d= .tuple [x,y]
 ·obtain ⟨x,y,rfl⟩:=h
  have hx:noD x=true/\noD y=true:=by simpa [noD,noDs] using hd
  have w1:=abb x hx.1 0 u
  have w2:=abb y hx.2 0 l
  cases c1:whB 0 u x <;> rw [c1] at w1 <;> simp [JY,jB,aaK,j4,j2,ifS,orB,zU,tst,Jt,tyn,asB,lkp,op2,jP,jr,jJ,zV,cst,dNe,JT,QA,qG,qO,ab0,jp,dIx,atI,ixN,w1,w2,acV,c1]
 ·rw [ajc d hd fun x y z=>h ⟨x,y,z⟩]
  congr 2
  unfold acV
  split
  ·exact absurd ⟨_,_,rfl⟩ h
  ·rfl
noncomputable def aeD (u l:Int):PyData->Bool
 | .tuple ds=>decide (1<=ds.length) && decide (ds.length<=4) && ds.all (acV u l)
 | _=>false
theorem ajd (hm:ZD [jp u e l b]=some .none) (d:PyData) (hd:noD d=true):aem [jp u e l b,d]=some (.bool (aeD u l d)):=by
 refine jV rfl ?_
 show aaL.1 [some (jp u e l b),some d]=_
 simp only [aaL]
 refine (js (ρ1:=[some (jp u e l b),some d]) ?_).trans ?_
 ·simp only [abg,jP,jr,jJ,lkp,zzA,zzB,zzC,zzD,zzE,hm]
 cases d with
 | dict k=>simp [noD] at hd
 | tuple ds=>
  by_cases h1:1<=ds.length
  ·by_cases h4:ds.length<=4
   ·have hf:few ds=true:=Ji (by omega)
    have c1:Js (fun i j=>decide (i<=j)) (.int 1) (.int (ds.length:Int))=some (.bool true):=by
     show some (PyData.bool (decide ((1:Int)<=(ds.length:Int))))=_
     rw [decide_eq_true (by omega)]
    have c2:Js (fun i j=>decide (i<=j)) (.int (ds.length:Int)) (.int 4)=some (.bool true):=by
     show some (PyData.bool (decide ((ds.length:Int)<=4)))=_
     rw [decide_eq_true (by omega)]
    refine (js (ρ1:=[some (jp u e l b),some (.tuple ds)]) ?_).trans ?_
    ·simp [ifS,orB,zU,tst,Jt,tyn,asB,lkp,chn,jP,jr,jJ,zV,cst,qG,c1,c2]
    simp only [j2,qO,jP,jr,jJ,ze,itT,lkp,aaz,zzA,zzB,zzC,zzD,zzE,hf,zzM,QK,List.map_cons,List.map_nil,zzH]
    rw [Zd (fun d=> .bool (acV u l d))]
    ·have:bls (ds.map fun d=>PyData.bool (acV u l d))=some (ds.map (acV u l)):=abt (acV u l) _
     simp only [zzE,zzD,aki,this,aeD,decide_eq_true h1,decide_eq_true h4,Bool.true_and,List.all_map,Function.comp_def,id]
    ·intro d hd'
     simp [jP,jr,jJ,lkp,adI (e:=e) (b:=b) d (alC (by simpa [noD] using hd) d hd')]
   ·have c1:Js (fun i j=>decide (i<=j)) (.int 1) (.int (ds.length:Int))=some (.bool true):=by
     show some (PyData.bool (decide ((1:Int)<=(ds.length:Int))))=_
     rw [decide_eq_true (by omega)]
    have c2:Js (fun i j=>decide (i<=j)) (.int (ds.length:Int)) (.int 4)=some (.bool false):=by
     show some (PyData.bool (decide ((ds.length:Int)<=4)))=_
     rw [decide_eq_false (by omega)]
    simp [j2,ifS,orB,zU,tst,Jt,tyn,asB,lkp,chn,jP,jr,jJ,zV,cst,qG,c1,c2,qO,aeD,h4]
  ·have c1:Js (fun i j=>decide (i<=j)) (.int 1) (.int (ds.length:Int))=some (.bool false):=by
    show some (PyData.bool (decide ((1:Int)<=(ds.length:Int))))=_
    rw [decide_eq_false (by omega)]
   simp [j2,ifS,orB,zU,tst,Jt,tyn,asB,lkp,chn,jP,jr,jJ,zV,cst,qG,c1,qO,aeD,h1]
 | _=>simp [j2,ifS,orB,zU,tst,Jt,tyn,asB,lkp,chn,jP,jr,jJ,cst,qG,qO,aeD]
theorem ag2 (hm:ZD [jp u e l b]=some .none) (d:PyData) (hd:noD d=true) (hs:aeD u l d=true):qe [jp u e l b,d]=some .none:=by
 have g:=ajd (e:=e) hm d hd
 rw [hs] at g
 simp [qe,jB,abn,j4,j2,ifS,zU,tst,asB,jP,jr,jJ,lkp,g,qG]
end
theorem ah1 {u l:Int} (p:Int × Int):acV u l (pr p)=okP u l p:=by
 simp [acV,pr,whB,okP,Bool.and_assoc]
theorem aje {u l:Int} (ps:List (Int × Int)):aeD u l (jg ps)=okS u l ps:=by
 simp only [aeD,jg,okS,List.length_map,List.all_map]
 congr 2
 funext p
 exact ah1 p
theorem ah2:∀ ps:List (Int × Int),noDs (ps.map pr)=true
 | []=>rfl
 | p::ps=>by simp [noDs,noD,pr,ah2 ps]
theorem afM (ps:List (Int × Int)):noD (jg ps)=true:=by
 simp [noD,jg,ah2]
section
variable {u e l b:Int}
end
noncomputable abbrev rfd (i:Int):PyData:= .tuple [.str "refused",.int i]
theorem ajf {ds:LP} (h:ds.length<50):few ds=true:=Ji (by omega)
theorem fw1 {a:PyData}:few [a]=true:=ajf (by simp)
theorem fw2 {a b:PyData}:few [a,b]=true:=ajf (by simp)
theorem fw3 {a b c:PyData}:few [a,b,c]=true:=ajf (by simp)
theorem n2:dNe (rfd 2) (rfd 2)=some (.bool false):=by kernel_rfl
theorem ng1:aiL (.int 1)=some (.int (-1)):=rfl
noncomputable def shl (n:Nat) (d:PyData):Prop:=d.canLay0=true/\d.depth<=n
theorem abv {ds:LP}:PyData.canLayAll0 ds=true ↔ ∀ d ∈ ds,d.canLay0=true:=by
 induction ds with
 | nil=>simp [PyData.canLayAll0]
 | cons x xs ih=>simp [PyData.canLayAll0,ih]
theorem abw {ds:LP}{n:Nat}:PyData.depthAll ds<=n ↔ ∀ d ∈ ds,d.depth<=n:=by
 induction ds with
 | nil=>simp [PyData.depthAll]
 | cons x xs ih=>simp only [PyData.depthAll,List.mem_cons,forall_eq_or_imp,←ih]; omega
theorem aeE {n:Nat}{ds:LP}:shl (n+1) (.tuple ds) ↔ ∀ d ∈ ds,shl n d:=by
 constructor
 ·rintro ⟨h1,h2⟩ d hd
  refine ⟨abv.mp (by simpa [PyData.canLay0] using h1) d hd,abw.mp ?_ d hd⟩
  simp only [PyData.depth] at h2; omega
 ·intro h
  refine ⟨by simp only [PyData.canLay0]; exact abv.mpr fun d hd=>(h d hd).1,?_⟩
  have:=abw.mpr fun d hd=>(h d hd).2
  simp only [PyData.depth]; omega
theorem ah3 {n:Nat}{ds:LP}:shl (n+1) (.list ds) ↔ ∀ d ∈ ds,shl n d:=by
 constructor
 ·rintro ⟨h1,h2⟩ d hd
  refine ⟨abv.mp (by simpa [PyData.canLay0] using h1) d hd,abw.mp ?_ d hd⟩
  simp only [PyData.depth] at h2; omega
 ·intro h
  refine ⟨by simp only [PyData.canLay0]; exact abv.mpr fun d hd=>(h d hd).1,?_⟩
  have:=abw.mpr fun d hd=>(h d hd).2
  simp only [PyData.depth]; omega
theorem alD {n:Nat}{d:PyData} (h:shl n d) (hn:n<30):okD d=true:=by
 unfold okD
 rw [h.1,decide_eq_true (show d.depth<30 by have:=h.2; omega)]; rfl
theorem aeF (i:Int):shl 1 (.int i):=⟨rfl,by simp [PyData.depth]⟩
theorem apq (p:Int × Int):shl 2 (pr p):=aeE.mpr fun d hd=>by
 simp only [List.mem_cons,List.not_mem_nil,or_false] at hd
 rcases hd with rfl | rfl <;> exact aeF _
theorem anq (ps:List (Int × Int)):shl 3 (jg ps):=aeE.mpr fun d hd=>by
 obtain ⟨p,_,rfl⟩:=List.mem_map.mp hd
 exact apq p
theorem ah4 {ps:List (Int × Int)}{i:Nat}{p:Int × Int} (h4:ps.length<=4) (hd:ps[i]?=some p):dIx (jg ps) (.int (i:Int))=some (pr p):=by
 have hi:i<ps.length:=(List.getElem?_eq_some_iff.mp hd).1
 show (if (ps.map pr).length<1000000 then atI (ps.map pr) (i:Int) else none)=_
 rw [if_pos (by rw [List.length_map]; omega)]
 unfold atI
 rw [alh (by omega) (by rw [List.length_map]; simpa using hi),zzD,List.getElem?_map]
 rw [show ((i:Int)).toNat=i by simp,hd]; rfl
section
variable {m s t:PyData}{c:Str}
theorem alE {d:PyData} (g:qe [m,s]=some .none) (k:JB [m,s,t]=some (.bool true)) (bm:qD [s,t]=some d):JC [m,s,t]=some d:=by
 refine jV rfl ?_
 show aet.1 [some m,some s,some t]=_
 dsimp? [aet,g,k,bm]
end
noncomputable def shP (p:Int × Int) (k:Bool) (c:Int):Int × Int:=if k=true then (p.1,p.2+c) else (p.1+c,p.2)
theorem arx {x y z:PyData}:dIx (.tuple [x,y,z]) (.int 0)=some x:=rfl
theorem ary {x y z:PyData}:dIx (.tuple [x,y,z]) (.int 1)=some y:=rfl
theorem arz {x y z:PyData}:dIx (.tuple [x,y,z]) (.int 2)=some z:=rfl
theorem lnt {x y z:PyData}:zV [.tuple [x,y,z]]=some (.int 3):=rfl
theorem itt {xs:LP}:Zz "tuple" (.tuple xs)=some (.bool true):=rfl
theorem anr:dNe (.int 3) (.int 3)=some (.bool false):=by kernel_rfl
theorem aqL (k:Bool):dIn true (qQ k) (.tuple [.str "upper",.str "lower"])=some (.bool false):=by cases k <;> kernel_rfl
theorem ans {c:Int} (hc:c=1 ∨ c=-1):jR [.int c,.int (-1),.int 1]=some (.bool true)/\dNe (.int c) (.int 0)=some (.bool true)/\dIn true (.int c) (.tuple [.int 1,.int (-1)])=some (.bool false)/\Zz "bool" (.int c)=some (.bool false):=by
 rcases hc with rfl | rfl <;> exact ⟨by kernel_rfl,by kernel_rfl,by kernel_rfl,rfl⟩
section
variable {u e l b:Int}{ps:List (Int × Int)}
theorem alF (x y z:PyData) {X Y Z N:Bool} (ln:zV [jg ps]=some (.int (ps.length:Int))) (wx:jR [x,.int 0,.int ((ps.length:Int) - 1)]=some (.bool X)) (iy:X=true->dIn true y (.tuple [.str "upper",.str "lower"])=some (.bool !Y)) (wz:X=true->Y=true->jR [z,.int (-1),.int 1]=some (.bool Z)) (nz:X=true->Y=true->Z=true->dNe z (.int 0)=some (.bool N)):JP [jg ps,.tuple [x,y,z]]=some (.bool (X && Y && Z && N)):=by
 have sb:aaA (.int (ps.length:Int)) (.int 1)=some (.int ((ps.length:Int) - 1)):=rfl
 have e0:=arx (x:=x) (y:=y) (z:=z)
 have e1:=ary (x:=x) (y:=y) (z:=z)
 have e2:=arz (x:=x) (y:=y) (z:=z)
 have e3:=lnt (x:=x) (y:=y) (z:=z)
 have e4:=itt (xs:=[x,y,z])
 generalize PyData.tuple [x,y,z]=D at*
 generalize (ps.length:Int)=n at*
 refine jV rfl ?_
 show qR.1 [some (jg ps),some D]=_
 cases X with
 | false=>dsimp? [qR,e0,e3,e4,anr,ln,sb,wx,Bool.false_and]
 | true=>
  have iy:=iy rfl
  cases Y with
  | false=>dsimp? [qR,e0,e1,e3,e4,anr,ln,sb,wx,iy,Bool.false_and,Bool.true_and]
  | true=>
   have wz:=wz rfl rfl
   cases Z with
   | false=>dsimp? [qR,ab0,e0,e1,e2,e3,e4,anr,ln,sb,wx,iy,wz,ng1,Bool.false_and,Bool.true_and]
   | true=>
    have nz:=nz rfl rfl rfl
    dsimp? [qR,ab0,e0,e1,e2,e3,e4,anr,ln,sb,wx,iy,wz,nz,ng1,Bool.false_and,Bool.true_and]
theorem arA {r:Nat} (hr:r<ps.length):jR [.int (r:Int),.int 0,.int ((ps.length:Int) - 1)]=some (.bool true):=by
 rw [j8,decide_eq_true (by omega),decide_eq_true (by omega)]; rfl
end
theorem adJ (p:Int × Int) (k:Bool) (c:Int):abr [pr p,qQ k,.int c]=some (pr (shP p k c)):=by
 have i0:dIx (pr p) (.int 0)=some (.int p.1):=rfl
 have i1:dIx (pr p) (.int 1)=some (.int p.2):=rfl
 have a1:Qb (.int p.1) (.int c)=some (.int (p.1+c)):=rfl
 have a2:Qb (.int p.2) (.int c)=some (.int (p.2+c)):=rfl
 refine jV rfl ?_
 show aab.1 [some (pr p),some (qQ k),some (.int c)]=_
 cases k with
 | false=>
  have q:dEq (qQ false) (.str "upper")=some (.bool true):=by kernel_rfl
  dsimp? [aab,q,i0,i1,a1,fw2]
  rfl
 | true=>
  have q:dEq (qQ true) (.str "upper")=some (.bool false):=by kernel_rfl
  dsimp? [aab,q,i0,i1,a2,fw2]
  rfl
theorem adK {α:Type}:∀ (ps:List α) (r:Nat) (q:α),r<ps.length->ps.set r q=ps.take r++[q]++ps.drop (r+1)
 | [],r,q,h=>by simp at h
 | p::ps,0,q,h=>rfl
 | p::ps,r+1,q,h=>by
  simp only [zzF,List.take_succ_cons,List.drop_succ_cons,List.cons_append]
  rw [adK ps r q (by simpa using h)]
section
variable {u e l b:Int}{ps:List (Int × Int)}
theorem arB {r:Nat} (hr:r<ps.length) (h4:ps.length<=4) (q:Int × Int):∃ A1 A2 A3,acS (jg ps) none (some (r:Int))=some A1/\Qb A1 (.tuple [pr q])=some A2/\acS (jg ps) (some ((r:Int)+1)) none=some A3/\Qb A2 A3=some (jg (ps.set r q)):=by
 refine ⟨.tuple ((ps.map pr).take r),.tuple ((ps.map pr).take r++[pr q]),.tuple ((ps.map pr).drop (r+1)),?_,?_,?_,?_⟩
 ·show some (PyData.tuple (Z0 _ none (some (r:Int))))=_
  rw [an5]
 ·exact aak (.inr trivial) (by rw [List.length_take,List.length_map]; simp; omega)
 ·show some (PyData.tuple (Z0 _ (some ((r:Int)+1)) none))=_
  rw [show (r:Int)+1=((r+1:Nat):Int) by omega,ah0]
 ·rw [aak (.inr trivial) (by rw [List.length_append,List.length_take,List.length_drop,List.length_map]; simp only [List.length_cons,List.length_nil]; omega),adK ps r q hr]
  show some (PyData.tuple _)=some (PyData.tuple (List.map pr _))
  rw [List.map_append,List.map_append,List.map_take,List.map_drop]; rfl
theorem ant (hs:okS u l ps=true) (r:Nat) {q:Int × Int} (hq:okP u l q=true):okS u l (ps.set r q)=true:=by
 obtain ⟨h1,h4,hp⟩:=j1 hs
 refine agW (by rw [List.length_set]; exact h1) (by rw [List.length_set]; exact h4) (List.all_eq_true.mpr fun x hx=>?_)
 rcases List.mem_or_eq_of_mem_set hx with z | rfl
 ·exact List.all_eq_true.mp hp x z
 ·exact hq
end
structure Th (u e l b:Int) (ps:List (Int × Int)) (d:PyData) (o:Option (List (Int × Int))):Prop where
 cm:JB [jp u e l b,jg ps,d]=some (.bool o.isSome)
 bm:∀ qs,o=some qs->qD [jg ps,d]=some (jg qs)/\okS u l qs=true
section
variable {u e l b:Int}{ps:List (Int × Int)}
theorem aal (hs:okS u l ps=true) {r:Nat}{p:Int × Int} (hp:ps[r]?=some p) (k:Bool) {c:Int} (hc:c=1 ∨ c=-1):Th u e l b ps (mv (r:Int) k c) (if okP u l (shP p k c)=true then some (ps.set r (shP p k c)) else none):=by
 obtain ⟨h1,h4,hall⟩:=j1 hs
 obtain ⟨hr,hpe⟩:=List.getElem?_eq_some_iff.mp hp
 have hpo:okP u l p=true:=List.all_eq_true.mp hall p (by rw [←hpe]; exact List.getElem_mem _)
 have hpo':0<=p.1/\p.1<=u/\0<=p.2/\p.2<=l:=by simp only [okP,Bool.and_eq_true,decide_eq_true_eq] at hpo; omega
 obtain ⟨f1,f2,f3,f4⟩:=ans hc
 have ixT:=ah4 h4 hp
 have k1:=alF (X:=true) (Y:=true) (Z:=true) (N:=true) (.int (r:Int)) (qQ k) (.int c) (JF ps) (arA hr) (fun _=>aqL k) (fun _ _=>f1) (fun _ _ _=>f2)
 obtain ⟨A1,A2,A3,s1,s2,s3,s4⟩:=arB hr h4 (shP p k c)
 have gr:=adI (u:=u) (e:=e) (l:=l) (b:=b) (pr (shP p k c)) rfl
 rw [ah1] at gr
 refine ⟨?_,fun qs z=>?_⟩
 ·have e0:dIx (mv (r:Int) k c) (.int 0)=some (.int (r:Int)):=rfl
  have e1:dIx (mv (r:Int) k c) (.int 1)=some (qQ k):=rfl
  have e2:dIx (mv (r:Int) k c) (.int 2)=some (.int c):=rfl
  have pu:=adJ p k c
  have k1':JP [jg ps,mv (r:Int) k c]=some (.bool true):=k1
  have io:(if okP u l (shP p k c)=true then some (ps.set r (shP p k c)) else none).isSome=okP u l (shP p k c):=by split <;> simp_all
  rw [io]
  generalize mv (r:Int) k c=D at*
  generalize okP u l (shP p k c)=OK at*
  generalize pr (shP p k c)=Q at*
  refine jV rfl ?_
  show aad.1 [some (jp u e l b),some (jg ps),some D]=_
  dsimp? [aad,k1',e0,e1,e2,ixT,pu,gr]
 ·by_cases ho:okP u l (shP p k c)=true
  ·rw [if_pos ho] at z
   cases z
   refine ⟨?_,ant hs r ho⟩
   have e0:dIx (mv (r:Int) k c) (.int 0)=some (.int (r:Int)):=rfl
   have e1:dIx (mv (r:Int) k c) (.int 1)=some (qQ k):=rfl
   have e2:dIx (mv (r:Int) k c) (.int 2)=some (.int c):=rfl
   have a1:Qb (.int (r:Int)) (.int 1)=some (.int ((r:Int)+1)):=rfl
   have pu:=adJ p k c
   generalize mv (r:Int) k c=D at*
   generalize pr (shP p k c)=Q at*
   generalize jg (ps.set r (shP p k c))=R at*
   refine jV rfl ?_
   show JR.1 [some (jg ps),some D,none]=_
   dsimp? [JR,adp,Qs,inI,e0,e1,e2,a1,ixT,pu,s1,fw1,s2,s3,s4]
  ·rw [if_neg ho] at z; cases z
theorem acu (H:zS=true) (h:okN u e l b=true) (hs:okS u l ps=true):qe [jp u e l b,jg ps]=some .none/\True:=by
 have hM:=apk H h
 have hb:aeD u l (jg ps)=true:=by rw [aje]; exact hs
 exact ⟨ag2 (aaR hM) _ (afM ps) hb,trivial⟩
theorem afN (H:zS=true) (h:okN u e l b=true) {ps qs:List (Int × Int)}{d:PyData} (hs:okS u l ps=true) (t:Th u e l b ps d (some qs)):JC [jp u e l b,jg ps,d]=some (jg qs):=
 alE (acu H h hs).1 t.cm (t.bm _ rfl).1
end
noncomputable def tM (M T d:PyData):Bool:=match JB [M,T,d] with
 | some (.bool x)=>x
 | _=>false
noncomputable def c4 (r:Nat):LP:=[mv (r:Int) false 1,mv (r:Int) false (-1),mv (r:Int) true 1,mv (r:Int) true (-1)]
noncomputable def alG (M T:PyData) (r:Nat):LP:=(c4 r).filter (tM M T)
noncomputable def Q8 (M T:PyData) (n:Nat):LP:=(List.range n).flatMap (alG M T)
theorem adL (M T:PyData) (k:Nat):Q8 M T (k+1)=Q8 M T k++alG M T k:=by
 unfold Q8
 rw [List.range_succ,List.flatMap_append]
 simp
theorem alH (M T:PyData) (r:Nat):(alG M T r).length<=4:=List.length_filter_le _ _
theorem aam (M T:PyData):∀ n:Nat,(Q8 M T n).length<=4*n
 | 0=>by simp [Q8]
 | n+1=>by
  rw [adL,List.length_append]
  have:=alH M T n
  have:=aam M T n
  omega
theorem ah5 {u e l b:Int}{ps:List (Int × Int)}{d:PyData}{o:Option (List (Int × Int))} (t:Th u e l b ps d o):tM (jp u e l b) (jg ps) d=o.isSome:=by
 unfold tM
 rw [t.cm]
section
variable {u e l b:Int}{ps:List (Int × Int)}
theorem an6 (hs:okS u l ps=true) {r:Nat} (hr:r<ps.length):∀ d ∈ c4 r,∃ o,Th u e l b ps d o:=fun d hd=>by
 have hp:ps[r]?=some ps[r]:=List.getElem?_eq_getElem hr
 simp only [c4,List.mem_cons,List.not_mem_nil,or_false] at hd
 rcases hd with rfl | rfl | rfl | rfl
 ·exact ⟨_,aal hs hp false (.inl rfl)⟩
 ·exact ⟨_,aal hs hp false (.inr rfl)⟩
 ·exact ⟨_,aal hs hp true (.inl rfl)⟩
 ·exact ⟨_,aal hs hp true (.inr rfl)⟩
theorem afO (hs:okS u l ps=true) {n:Nat} (hn:n<=ps.length) {d:PyData} (hd:d ∈ Q8 (jp u e l b) (jg ps) n):(∃ qs,Th u e l b ps d (some qs))/\noL d=true/\shl 2 d:=by
 obtain ⟨r,hr,hm⟩:=List.mem_flatMap.mp hd
 obtain ⟨h1,h2⟩:=List.mem_filter.mp hm
 obtain ⟨o,t⟩:=an6 (e:=e) (b:=b) hs (show r<ps.length by have:=List.mem_range.mp hr; omega) d h1
 rw [ah5 t] at h2
 refine ⟨?_,?_⟩
 ·cases o with
  | none=>cases h2
  | some qs=>exact ⟨qs,t⟩
 ·simp only [c4,List.mem_cons,List.not_mem_nil,or_false] at h1
  rcases h1 with rfl | rfl | rfl | rfl
  all_goals exact ⟨by kernel_rfl,aeE.mpr fun x hx=>by
   simp only [List.mem_cons,List.not_mem_nil,or_false] at hx
   rcases hx with rfl | rfl | rfl
   ·exact aeF _
   ·exact ⟨by kernel_rfl,by simp [qQ,PyData.depth]⟩
   ·exact aeF _⟩
theorem ah6 (hs:okS u l ps=true) {r:Nat} (hr:r<ps.length) {F:LP} (hF:F.length<1000) (k:Bool) {x:OP}:∃ y,ZF.1 [some (jp u e l b),some (jg ps),some (.list F),some (.int (r:Int)),some (qQ k),x]=some (.nx [some (jp u e l b),some (jg ps),some (.list (F++[mv (r:Int) k 1,mv (r:Int) k (-1)].filter (tM (jp u e l b) (jg ps)))),some (.int (r:Int)),some (qQ k),y]):=by
 refine ⟨some (.list [mv (r:Int) k 1,mv (r:Int) k (-1)]),?_⟩
 have hin:∀ d ∈ [mv (r:Int) k 1,mv (r:Int) k (-1)],d ∈ c4 r:=fun d hd=>by
  simp only [List.mem_cons,List.not_mem_nil,or_false] at hd
  cases k <;> rcases hd with rfl | rfl <;> simp [c4]
 have cp:=QQ (ft:=tst (jP JB (jr (lkp 1) (jr (lkp 2) (jr (lkp 0) jJ))))) (fe:=lkp 0) (i:=0) (tM (jp u e l b) (jg ps)) id [mv (r:Int) k 1,mv (r:Int) k (-1)] [none,some (jp u e l b),some (jg ps)] (fun d hd=>by
   obtain ⟨o,t⟩:=an6 (e:=e) (b:=b) hs hr d (hin d hd)
   have cm:=t.cm
   rw [ah5 t]
   dsimp? [cm]) (fun d hd _=>by dsimp? [id])
 rw [List.map_id] at cp
 have w1:j0 (jE 0) abQ (Qj (jr (lkp 1) (jr (lkp 2) (jr (lkp 0) jJ)))) [.int 1,.int (-1)] [none,some (.int (r:Int)),some (qQ k)]=some [mv (r:Int) k 1,mv (r:Int) k (-1)]:=by
  dsimp? [j0,abQ,fw3]
  rfl
 have el:akG (some (.list F)) (some (.list ([mv (r:Int) k 1,mv (r:Int) k (-1)].filter (tM (jp u e l b) (jg ps)))))=some (.list (F++[mv (r:Int) k 1,mv (r:Int) k (-1)].filter (tM (jp u e l b) (jg ps)))):=by
  have hl:([mv (r:Int) k 1,mv (r:Int) k (-1)].filter (tM (jp u e l b) (jg ps))).length<=2:=List.length_filter_le _ _
  have hn:noLs ([mv (r:Int) k 1,mv (r:Int) k (-1)].filter (tM (jp u e l b) (jg ps)))=true:=QP fun d hd=>by
   have:=(List.mem_filter.mp hd).1
   simp only [List.mem_cons,List.not_mem_nil,or_false] at this
   rcases this with rfl | rfl <;> rfl
  show (if _/\_ then _ else _)=_
  rw [if_pos ⟨hn,by omega⟩]
 have iw:items (.tuple [.int 1,.int (-1)])=some [.int 1,.int (-1)]:=rfl
 simp only [ZF]
 refine (js (ρ1:=[some (jp u e l b),some (jg ps),some (.list F),some (.int (r:Int)),some (qQ k),some (.list [mv (r:Int) k 1,mv (r:Int) k (-1)])]) ?_).trans ?_
 ·dsimp? [brw,hid,okB,ZX,acQ,abh,ze,itS,iw,QK,List.map_cons,List.map_nil,fw2]
  try simp only [j2,ifS,ifD,ifX,QJ,orB,zU,tst,op2,chn,jP,Qj,JG,jr,jJ,lkp,cst,qO,abg,zA,jE,qG,nxX,orX,akO,agj,asB,zzA,zzB,zzC,zzD,zzH,zzE,zzI,zzF,zzG,zzJ,zzK,zzL,zzM,zzN] at w1
  dsimp? [w1]
 have it:items (.list [mv (r:Int) k 1,mv (r:Int) k (-1)])=some [mv (r:Int) k 1,mv (r:Int) k (-1)]:=rfl
 have f2:few [mv (r:Int) k 1,mv (r:Int) k (-1)]=true:=fw2
 generalize [mv (r:Int) k 1,mv (r:Int) k (-1)]=TWO at*
 generalize PyData.list TWO=C at*
 try simp only [j2,ifS,ifD,ifX,QJ,orB,zU,tst,op2,chn,jP,Qj,JG,jr,jJ,lkp,cst,qO,abg,zA,jE,qG,nxX,orX,akO,agj,asB,zzA,zzB,zzC,zzD,zzH,zzE,zzI,zzF,zzG,zzJ,zzK,zzL,zzM,zzN] at cp
 dsimp? [brw,hid,okB,ZX,acQ,abh,ze,itS,it,QK,List.map_cons,List.map_nil,f2,cp,el]
theorem anu (hs:okS u l ps=true) {r:Nat} (hr:r<ps.length) {F:LP} (hF:F.length<900) {x4 x5:OP}:∃ y4 y5,JD.1 [some (jp u e l b),some (jg ps),some (.list F),some (.int (r:Int)),x4,x5]=some (.nx [some (jp u e l b),some (jg ps),some (.list (F++alG (jp u e l b) (jg ps) r)),some (.int (r:Int)),y4,y5]):=by
 obtain ⟨y,s1⟩:=ah6 (e:=e) (b:=b) hs hr (F:=F) (by omega) false (x:=x5)
 have hl:([mv (r:Int) false 1,mv (r:Int) false (-1)].filter (tM (jp u e l b) (jg ps))).length<=2:=List.length_filter_le _ _
 obtain ⟨y',s2⟩:=ah6 (e:=e) (b:=b) hs hr (F:=F++[mv (r:Int) false 1,mv (r:Int) false (-1)].filter (tM (jp u e l b) (jg ps))) (by rw [List.length_append]; omega) true (x:=y)
 refine ⟨some (qQ true),y',?_⟩
 have iw:items (.tuple [.str "upper",.str "lower"])=some [qQ false,qQ true]:=rfl
 have eR:F++alG (jp u e l b) (jg ps) r=(F++[mv (r:Int) false 1,mv (r:Int) false (-1)].filter (tM (jp u e l b) (jg ps)))++[mv (r:Int) true 1,mv (r:Int) true (-1)].filter (tM (jp u e l b) (jg ps)):=by
  rw [List.append_assoc,←List.filter_append]; rfl
 rw [eR]
 simp only [JD]
 refine (js (ρ1:=[some (jp u e l b),some (jg ps),some (.list ((F++[mv (r:Int) false 1,mv (r:Int) false (-1)].filter (tM (jp u e l b) (jg ps)))++[mv (r:Int) true 1,mv (r:Int) true (-1)].filter (tM (jp u e l b) (jg ps)))),some (.int (r:Int)),some (qQ true),y']) ?_).trans rfl
 generalize mv (r:Int) false 1=m1 at*
 generalize mv (r:Int) false (-1)=m2 at*
 generalize mv (r:Int) true 1=m3 at*
 generalize mv (r:Int) true (-1)=m4 at*
 dsimp? [JX,itS,brw,hid,okB,ZX,acQ,abh,iw,jF,s1,s2]
theorem alI {M T:PyData}{n:Int}{RR F:LP}{x3 x4 x5:OP} (ck:qe [M,T]=some .none) (ln:zV [T]=some (.int n)) (rg:acK [.int n]=some RR) (lp:jF (jE 3) JD.1 RR [some M,some T,some (.list []),none,none,none]=some (.nx [some M,some T,some (.list F),x3,x4,x5])):qK [M,T]=some (.list F):=by
 refine jV rfl ?_
 show Zm.1 [some M,some T,none,none,none,none]=_
 simp only [Zm]
 refine (js (ρ1:=[some M,some T,none,none,none,none]) ?_).trans ?_
 ·dsimp? [ck]
 have key:∀ {Y:RO} {d:PyData},Y [some M,some T,some (.list []),none,none,none]=some (.rt d)->QT 2 (JG jJ) Y [some M,some T,none,none,none,none]=some (.rt d):=fun {Y d} hy=>by
  have l8:2<[some M,some T,none,none,none,none].length:=by simp
  dsimp? [QT,qf,hy]
  rw [if_pos l8]
 refine key ?_
 refine (js (ρ1:=[some M,some T,some (.list F),x3,x4,x5]) ?_).trans ?_
 ·dsimp? [JX,brw,hid,okB,ZX,acQ,abh,ln,rg]
  exact lp
 dsimp? [zzA]
end
inductive Path (u e l b:Int):List (Int × Int)->LP->List (Int × Int)->Prop
 | nil (ps:List (Int × Int)):Path u e l b ps [] ps
 | cons {ps qs rs:List (Int × Int)} {d:PyData} {ms:LP}:Th u e l b ps d (some qs)->Path u e l b qs ms rs->Path u e l b ps (d::ms) rs
theorem Path.snoc {u e l b:Int}{ps qs rs:List (Int × Int)}{d:PyData}{ms:LP} (p:Path u e l b ps ms qs) (t:Th u e l b qs d (some rs)):Path u e l b ps (ms++[d]) rs:=by
 induction p with
 | nil ps=>exact .cons t (.nil _)
 | cons t' _ ih=>exact .cons t' (ih t)
section
variable {u e l b:Int}
theorem Path.ok {ps qs:List (Int × Int)}{ms:LP} (p:Path u e l b ps ms qs) (hs:okS u l ps=true):okS u l qs=true:=by
 induction p with
 | nil ps=>exact hs
 | cons t _ ih=>exact ih (t.bm _ rfl).2
theorem apr {M T0 L N D Q x:PyData} (g:JC [M,N,D]=some Q):afx.1 [some M,some T0,some L,some N,some D]=some (.nx [some M,some T0,some L,some Q,some D]):=by
 dsimp? [afx,g]
theorem afP (H:zS=true) (h:okN u e l b=true) {T0 L:PyData}:∀ (ms:LP) (ps qs:List (Int × Int)) (x:OP),okS u l ps=true->Path u e l b ps ms qs->∃ y,jF (jE 4) afx.1 ms [some (jp u e l b),some T0,some L,some (jg ps),x]=some (.nx [some (jp u e l b),some T0,some L,some (jg qs),y])
 | [],ps,qs,x,_,p=>by cases p; exact ⟨x,rfl⟩
 | d::ms,ps,qs,x,hs,p=>by
  cases p with
  | cons t p'=>
   obtain ⟨y,hy⟩:=afP H h (T0:=T0) (L:=L) ms _ qs (some d) (t.bm _ rfl).2 p'
   refine ⟨y,?_⟩
   have st:=apr (T0:=T0) (L:=L) (x:= .none) (afN H h hs t)
   simp only [jF,jE,zzD,zzF,zzG,st]
   exact hy
theorem alJ {M T T' L:PyData}{ms:LP}{y:OP} (ck:qe [M,T]=some .none) (il:Zz "list" L=some (.bool true)) (it:items L=some ms) (lp:jF (jE 4) afx.1 ms [some M,some T,some L,some T,none]=some (.nx [some M,some T,some L,some T',y])):ala [M,T,L]=some T':=by
 refine jV rfl ?_
 show ank.1 [some M,some T,some L,none,none]=_
 simp only [ank]
 refine (js (ρ1:=[some M,some T,some L,none,none]) ?_).trans ?_
 ·dsimp? [ck]
 refine (js (ρ1:=[some M,some T,some L,none,none]) ?_).trans ?_
 ·dsimp? [il]
 refine (js (ρ1:=[some M,some T,some L,some T,none]) ?_).trans ?_
 ·dsimp? [zzA]
 refine (js (ρ1:=[some M,some T,some L,some T',y]) ?_).trans ?_
 ·dsimp? [JX,itS,it]
  exact lp
 dsimp? [zzA]
end
section
variable {u e l b:Int}{ps:List (Int × Int)}
theorem aan (H:zS=true) (h:okN u e l b=true) (hs:okS u l ps=true):qK [jp u e l b,jg ps]=some (.list (Q8 (jp u e l b) (jg ps) ps.length)):=by
 obtain ⟨h1,h4,hall⟩:=j1 hs
 have ck:=(acu H h hs).1
 have rg:acK [.int (ps.length:Int)]=some (Ql 0 ps.length):=by
  have:acK [.int (ps.length:Int)]=some (Ql 0 (ps.length:Int).toNat):=aez (by omega) (by omega)
  rw [Int.toNat_natCast] at this; exact this
 have ln:=JF ps
 obtain ⟨ρ',lp,x3,x4,x5,e'⟩:=Qg (ga:=jE 3) (F:=JD.1) (fun k ρ=>∃ x3 x4 x5,ρ=[some (jp u e l b),some (jg ps),some (.list (Q8 (jp u e l b) (jg ps) k)),x3,x4,x5]) (Ql 0 ps.length) 0 [some (jp u e l b),some (jg ps),some (.list []),none,none,none] ⟨none,none,none,rfl⟩ (fun j d ρ hd ⟨x3,x4,x5,e⟩=>by
  obtain ⟨hj,rfl⟩:=afF hd
  subst e
  have hl:=aam (jp u e l b) (jg ps) j
  obtain ⟨y4,y5,q⟩:=anu (e:=e) (b:=b) hs (r:=j) hj (F:=Q8 (jp u e l b) (jg ps) (0+j)) (by rw [Nat.zero_add]; omega) (x4:=x4) (x5:=x5)
  refine ⟨_,_,rfl,q,⟨some (.int (j:Int)),y4,y5,?_⟩⟩
  rw [Nat.zero_add,adL])
 rw [afG,Nat.zero_add] at e'
 subst e'
 exact alI ck ln rg lp
theorem anv (H:zS=true) (h:okN u e l b=true) {ps qs:List (Int × Int)}{ms:LP} (hs:okS u l ps=true) (p:Path u e l b ps ms qs):ala [jp u e l b,jg ps,.list ms]=some (jg qs):=by
 obtain ⟨y,lp⟩:=afP H h (T0:=jg ps) (L:= .list ms) ms ps qs none hs p
 exact alJ (acu H h hs).1 rfl rfl lp
end
section
variable {u e l b:Int}
theorem alK (ds:LP):zV [.list ds]=some (.int (ds.length:Int)):=rfl
end
noncomputable abbrev SL:=List (List (Int × Int))
noncomputable abbrev KL:=List (Int × SL)
noncomputable def eS (ss:SL):PyData:= .list (ss.map jg)
noncomputable def J2 (kv:KL):List (PyData × PyData):=kv.map fun p=>(.int p.1,eS p.2)
noncomputable def dL (kv:KL):PyData:= .dict ((.none,.none)::J2 kv)
noncomputable def zb (kv:KL) (k:Int):Option SL:=(kv.find? fun p=>decide (p.1=k)).map (·.2)
noncomputable def jS (kv:KL) (k:Int):SL:=(zb kv k).getD []
noncomputable def aeG (kv:KL) (k:Int) (v:SL):KL:=if kv.any (fun p=>decide (p.1=k))=true then kv.map (fun p=>if p.1=k then (p.1,v) else p) else kv++[(k,v)]
theorem aaV (kv:KL) (k:Int):Ju (J2 kv) k=(zb kv k).map eS:=by
 induction kv with
 | nil=>rfl
 | cons p kv ih=>
  by_cases h:p.1=k
  ·simp [Ju,J2,zb,isI,h]
  ·have e1:Ju (J2 (p::kv)) k=Ju (J2 kv) k:=by simp [Ju,J2,isI,h,List.find?_cons]
   have e2:zb (p::kv) k=zb kv k:=by simp [zb,h,List.find?_cons]
   rw [e1,e2,ih]
theorem ajg (kv:KL) (k:Int) (v:SL):ad9 (J2 kv) k (eS v)=J2 (aeG kv k v):=by
 have h1:(J2 kv).any (fun p=>isI k p.1)=kv.any fun p=>decide (p.1=k):=by simp [J2,List.any_map,Function.comp_def,isI]
 unfold ad9 aeG
 rw [h1]
 by_cases c:kv.any (fun p=>decide (p.1=k))=true
 ·rw [if_pos c,if_pos c]
  simp only [J2,List.map_map]
  apply List.map_congr_left
  intro p _
  by_cases h:p.1=k <;> simp [isI,h]
 ·rw [if_neg c,if_neg c]
  simp [J2]
theorem qX (p:Int × SL) (kv:KL) (x:Int):zb (p::kv) x=if p.1=x then some p.2 else zb kv x:=by
 by_cases h:p.1=x <;> simp [zb,List.find?_cons,h]
theorem afQ (k:Int) (v:SL) (x:Int):∀ kv:KL,zb (kv.map fun p=>if p.1=k then (p.1,v) else p) x=if x=k then (if kv.any (fun p=>decide (p.1=k))=true then some v else none) else zb kv x
 | []=>by simp [zb]
 | p::kv=>by
  rw [List.map_cons,qX,qX,afQ k v x kv]
  by_cases hp:p.1=k
  ·by_cases hx:x=k
   ·subst hx; simp [hp]
   ·have hkx:¬ k=x:=fun z=>hx z.symm
    simp [hp,hx,hkx]
  ·by_cases hx:x=k
   ·subst hx; rw [List.any_cons,decide_eq_false hp,Bool.false_or]; simp [hp]
   ·by_cases hq:p.1=x <;> simp [hp,hx,hq]
theorem afR (k:Int) (v:SL) (x:Int):∀ kv:KL,zb (kv++[(k,v)]) x=if kv.any (fun p=>decide (p.1=x))=true then zb kv x else if k=x then some v else none
 | []=>by rw [List.nil_append,qX]; simp [zb]
 | p::kv=>by
  rw [List.cons_append,qX,qX,afR k v x kv]
  by_cases hp:p.1=x
  ·simp [hp]
  ·rw [List.any_cons,decide_eq_false hp,Bool.false_or,if_neg hp,if_neg hp]
theorem alL (kv:KL) (k:Int) (v:SL) (x:Int):zb (aeG kv k v) x=if x=k then some v else zb kv x:=by
 unfold aeG
 by_cases c:kv.any (fun p=>decide (p.1=k))=true
 ·rw [if_pos c,afQ,if_pos c]
 ·rw [if_neg c,afR]
  by_cases hx:x=k
  ·subst hx
   rw [if_neg c,if_pos rfl,if_pos rfl]
  ·have hkx:¬ k=x:=fun z=>hx z.symm
   rw [if_neg hx,if_neg hkx]
   by_cases c':kv.any (fun p=>decide (p.1=x))=true
   ·rw [if_pos c']
   ·rw [if_neg c']
    unfold zb
    rw [List.find?_eq_none.mpr fun p hp=>by
     have:=fun z=>c' (List.any_eq_true.mpr ⟨p,hp,z⟩)
     exact this]
    rfl
theorem alM (kv:KL) (k:Int) (v:SL) (x:Int):jS (aeG kv k v) x=if x=k then v else jS kv x:=by
 unfold jS
 rw [alL]
 by_cases h:x=k
 ·rw [if_pos h,if_pos h]; rfl
 ·rw [if_neg h,if_neg h]
noncomputable def qd (kv:KL):KI:=kv.map fun p=>(p.1,(p.2.length:Int))
theorem alN (kv:KL) (k:Int):aaT (qd kv) k=(zb kv k).map fun s=>(s.length:Int):=by
 induction kv with
 | nil=>rfl
 | cons p kv ih=>
  have:aaT (qd (p::kv)) k=if p.1=k then some (p.2.length:Int) else aaT (qd kv) k:=alv (p.1,(p.2.length:Int)) (qd kv) k
  rw [this,qX,ih]
  by_cases h:p.1=k
  ·rw [if_pos h,if_pos h]; rfl
  ·rw [if_neg h,if_neg h]
theorem acv (kv:KL) (k:Int):J1 (qd kv) k=((jS kv k).length:Int):=by
 unfold J1 jS
 rw [alN]
 cases zb kv k <;> rfl
theorem alO (kv:KL) (k:Int) (v:SL):qd (aeG kv k v)=ai9 (qd kv) k (v.length:Int):=by
 have h1:(qd kv).any (fun p=>decide (p.1=k))=kv.any fun p=>decide (p.1=k):=by simp [qd,List.any_map,Function.comp_def]
 unfold aeG ai9
 rw [h1]
 by_cases c:kv.any (fun p=>decide (p.1=k))=true
 ·rw [if_pos c,if_pos c]
  simp only [qd,List.map_map]
  apply List.map_congr_left
  intro p _
  by_cases h:p.1=k <;> simp [h]
 ·rw [if_neg c,if_neg c]
  simp [qd]
noncomputable def pls (acc:KL) (q:(Int × Int) × Int) (ts:SL):KL:=aeG acc q.2 (jS acc q.2++ts.map (q.1::·))
theorem afS (acc:KL) (q:(Int × Int) × Int) (ts:SL):qd (pls acc q ts)=JU (qd acc) q.2 (ts.length:Int):=by
 unfold pls JU
 rw [alO,acv,List.length_append,List.length_map]
 congr 1
theorem acw (acc:KL) (q:(Int × Int) × Int) (ts:SL) (x:Int):jS (pls acc q ts) x=if x=q.2 then jS acc x++ts.map (q.1::·) else jS acc x:=by
 unfold pls
 rw [alM]
 by_cases h:x=q.2
 ·rw [if_pos h,if_pos h,h]
 ·rw [if_neg h,if_neg h]
noncomputable def TT (kv:KL):Int:=smK (qd kv) fun _=>1
theorem aps {acc:KL} (hn:ndK (qd acc)) (q:(Int × Int) × Int) (ts:SL):ndK (qd (pls acc q ts))/\TT (pls acc q ts)=TT acc+(ts.length:Int):=by
 unfold TT
 rw [afS]
 refine ⟨ag0 hn,?_⟩
 rw [ahX hn]
 omega
theorem anw (kv:KL) (k:Int):((jS kv k).length:Int)<=TT kv:=by
 have nn:∀ x ∈ (qd kv).map (fun p=>p.2*1),(0:Int)<=x:=fun x hx=>by
  obtain ⟨p,hp,rfl⟩:=List.mem_map.mp hx
  obtain ⟨q,_,rfl⟩:=List.mem_map.mp hp
  show (0:Int)<=(q.2.length:Int)*1
  omega
 unfold jS zb
 cases hq:kv.find? fun p=>decide (p.1=k) with
 | none=>
  show ((0:Nat):Int)<=_
  exact QB nn
 | some p=>
  have hp:=List.mem_of_find?_eq_some hq
  show (p.2.length:Int)<=_
  exact alz nn (List.mem_map.mpr ⟨(p.1,(p.2.length:Int)),List.mem_map.mpr ⟨p,hp,rfl⟩,by simp⟩)
theorem ajh (s:List (Int × Int)):noD (jg s)=true:=by
 show noDs (s.map pr)=true
 induction s with
 | nil=>rfl
 | cons p s ih=>simp only [List.map_cons,noDs,ih,Bool.and_true]; rfl
theorem apt {ds:LP} (h:ds.length<1000000):few ds=true:=decide_eq_true h
theorem apu (ss:SL):noD (eS ss)=true:=by
 show noDs (ss.map jg)=true
 induction ss with
 | nil=>rfl
 | cons s ss ih=>simp only [List.map_cons,noDs,ajh s,ih,Bool.and_self]
theorem adM (p:Int × Int):∀ (ts:SL) (x:OP),(∀ t ∈ ts,t.length<=4)->j0 (jE 0) abQ (op2 Qb (Qj (jr (lkp 1) jJ)) (lkp 0)) (ts.map jg) [x,some (pr p)]=some ((ts.map (p::·)).map jg)
 | [],x,_=>rfl
 | t::ts,x,h=>by
  have ih:=adM p ts (some (jg t)) fun c hc=>h c (List.mem_cons_of_mem _ hc)
  have ad:Qb (.tuple [pr p]) (jg t)=some (jg (p::t)):=aak (.inr trivial) (by have:=h t List.mem_cons_self; rw [List.length_map]; simp; omega)
  dsimp? [List.map_cons,j0,abQ,fw1,ad]
  first | rw [ih] | (simp only [j2,ifS,ifD,ifX,QJ,orB,zU,tst,op2,chn,jP,Qj,JG,jr,jJ,lkp,cst,qO,abg,zA,jE,qG,nxX,orX,akO,agj,asB,zzA,zzB,zzC,zzD,zzH,zzE,zzI,zzF,zzG,zzJ,zzK,zzL,zzM,zzN] at ih; rw [ih])
  rfl
theorem anx {m A:OP}{D acc:KL}{n k:Int}{p:Int × Int}{ts:SL} (hD:zb D n=some ts) (ht:∀ t ∈ ts,t.length<=4) (hl:acc.length<900000) (hs:ts.length+(jS acc k).length<900000):Jf.1 [m,A,some (dL D),some (dL acc),some (.int n),some (pr p),some (.int k)]=some (.nx [m,A,some (dL D),some (dL (pls acc (p,k) ts)),some (.int n),some (pr p),some (.int k)]):=by
 have g1:agx (dL D) (.int n)=some (eS ts):=by
  show Ju (J2 D) n=_
  rw [aaV,hD]; rfl
 have g2:adl (dL acc) (.int k) (.list [])=some (eS (jS acc k)):=by
  show some ((Ju (J2 acc) k).getD (.list []))=_
  rw [aaV]
  unfold jS
  cases zb acc k <;> rfl
 have cp:=adM p ts none ht
 have it:items (eS ts)=some (ts.map jg):=rfl
 have fe:few (ts.map jg)=true:=decide_eq_true (by rw [List.length_map]; omega)
 have ad:Qb (eS (jS acc k)) (.list ((ts.map (p::·)).map jg))=some (eS (jS acc k++ts.map (p::·))):=by
  show (if few ((jS acc k).map jg++(ts.map (p::·)).map jg)=true then some (PyData.list ((jS acc k).map jg++(ts.map (p::·)).map jg)) else none)=_
  rw [if_pos (apt (by rw [List.length_append,List.length_map,List.length_map,List.length_map]; omega)),←List.map_append]
  rfl
 have nd:=apu (jS acc k++ts.map (p::·))
 have pt:aiO (some (dL acc)) (some (eS (jS acc k++ts.map (p::·)))) (some (.int k))=some (dL (pls acc (p,k) ts)):=by
  have hle:(J2 acc).length<1000000:=by simp only [J2,List.length_map]; omega
  show (if (J2 acc).length<1000000 then some (PyData.dict ((.none,.none)::ad9 (J2 acc) k (eS (jS acc k++ts.map (p::·))))) else none)=_
  rw [if_pos hle,ajg]
  rfl
 have dd:∀ d,okB (dL acc) d=noD d:=fun _=>rfl
 generalize pls acc (p,k) ts=acc' at*
 generalize eS (jS acc k++ts.map (p::·))=V at*
 generalize eS (jS acc k)=V1 at*
 generalize (ts.map (p::·)).map jg=V2 at*
 generalize ts.map jg=V3 at*
 generalize eS ts=V4 at*
 generalize dL acc=DA at*
 generalize dL D=DD at*
 simp only [Jf]
 refine (js (ρ1:=[m,A,some DD,some (dL acc'),some (.int n),some (pr p),some (.int k)]) ?_).trans rfl
 try simp only [j2,ifS,ifD,ifX,QJ,orB,zU,tst,op2,chn,jP,Qj,JG,jr,jJ,lkp,cst,qO,abg,zA,jE,qG,nxX,orX,akO,agj,asB,zzA,zzB,zzC,zzD,zzH,zzE,zzI,zzF,zzG,zzJ,zzK,zzL,zzM,zzN] at cp
 dsimp? [agw,brw,hid,abX,ze,itS,QK,List.map_cons,List.map_nil,Option.join_none,g1,g2,it,fe,qf,cp,ad,dd,nd,pt]
theorem anz (acc:KL) (q:(Int × Int) × Int) (ts:SL):(pls acc q ts).length<=acc.length+1:=by
 unfold pls aeG
 split <;> simp
noncomputable def plf (ts:SL) (qs:List ((Int × Int) × Int)) (acc:KL):KL:=qs.foldl (fun a q=>pls a q ts) acc
theorem aji {m A:OP}{D:KL}{n:Int}{ts:SL} (hD:zb D n=some ts) (ht:∀ t ∈ ts,t.length<=4) (qs:List ((Int × Int) × Int)):∀ (acc:KL) (x5 x6:OP),ndK (qd acc)->acc.length+qs.length<900000->TT acc+(qs.length+1:Nat)*(ts.length:Int)<900000->
  ∃ y5 y6,jF (Qa 2 (jM (jE 5) (jM (jE 6) zp))) Jf.1 (qs.map agZ) [m,A,some (dL D),some (dL acc),some (.int n),x5,x6]=some (.nx [m,A,some (dL D),some (dL (plf ts qs acc)),some (.int n),y5,y6])/\ndK (qd (plf ts qs acc))/\TT (plf ts qs acc)=TT acc+qs.length*(ts.length:Int)/\(plf ts qs acc).length<=acc.length+qs.length:=by
 induction qs with
 | nil=>exact fun acc x5 x6 hn _ _=>⟨x5,x6,rfl,hn,by simp [plf],by simp [plf]⟩
 | cons q qs ih=>
  intro acc x5 x6 hn hl hT
  rw [List.length_cons] at hl hT
  obtain ⟨n1,t1⟩:=aps hn q ts
  have l1:=anz acc q ts
  have gl:=anw acc q.2
  have e1:((qs.length+1+1:Nat):Int)*(ts.length:Int)=((qs.length+1:Nat):Int)*(ts.length:Int)+(ts.length:Int):=by
   rw [show ((qs.length+1+1:Nat):Int)=((qs.length+1:Nat):Int)+1 by omega,Int.add_mul,Int.one_mul]
  have e2:((qs.length+1:Nat):Int)*(ts.length:Int)=(qs.length:Int)*(ts.length:Int)+(ts.length:Int):=by
   rw [show ((qs.length+1:Nat):Int)=(qs.length:Int)+1 by omega,Int.add_mul,Int.one_mul]
  have p0:0<=((qs.length+1:Nat):Int)*(ts.length:Int):=Int.mul_nonneg (by omega) (by omega)
  have s:=anx (m:=m) (A:=A) (D:=D) (n:=n) (k:=q.2) (p:=q.1) hD ht (acc:=acc) (by omega) (by omega)
  obtain ⟨y5,y6,lp,a1,a2,a3⟩:=ih (pls acc q ts) (some (pr q.1)) (some (.int q.2)) n1 (by omega) (by rw [t1]; omega)
  refine ⟨y5,y6,?_,a1,?_,?_⟩
  ·rw [List.map_cons]
   have ga:Qa 2 (jM (jE 5) (jM (jE 6) zp)) (agZ q) [m,A,some (dL D),some (dL acc),some (.int n),x5,x6]=some [m,A,some (dL D),some (dL acc),some (.int n),some (pr q.1),some (.int q.2)]:=rfl
   rw [jF,ga,zzD,s,zzD]
   exact lp
  ·show TT (plf ts qs (pls acc q ts))=_
   rw [a2,t1,List.length_cons,e2]; omega
  ·show (plf ts qs (pls acc q ts)).length<=_
   rw [List.length_cons]; omega
section
variable {u e l b:Int}
theorem alP (h:okN u e l b=true) (a:Nat) (ha:a<4) {D acc:KL}{n:Int}{ts:SL} (hD:zb D n=some ts) (ht:∀ t ∈ ts,t.length<=4) (hn:ndK (qd acc)) (hl:acc.length+48<900000) (hT:TT acc+49*(ts.length:Int)<900000) {x5 x6:OP}:
  ∃ y5 y6,zu.1 [some (jp u e l b),some (.int (a:Int)),some (dL D),some (dL acc),some (.int n),x5,x6]=some (.nx [some (jp u e l b),some (.int (a:Int)),some (dL D),some (dL (plf ts (lps u e l b a n) acc)),some (.int n),y5,y6])/\ndK (qd (plf ts (lps u e l b a n) acc))/\TT (plf ts (lps u e l b a n) acc)<=TT acc+48*(ts.length:Int)/\(plf ts (lps u e l b a n) acc).length<=acc.length+48:=by
 have h1:=adE (n:=n) h a ha
 have hq:(lps u e l b a n).length<=48:=Nat.le_trans (aeC u e l b a n) (agY h)
 have m1:((lps u e l b a n).length:Int)*(ts.length:Int)<=48*(ts.length:Int):=Int.mul_le_mul_of_nonneg_right (by omega) (by omega)
 obtain ⟨y5,y6,lp,b1,b2,b3⟩:=aji (m:=some (jp u e l b)) (A:=some (.int (a:Int))) hD ht (lps u e l b a n) acc x5 x6 hn (by omega) (by
  rw [show (((lps u e l b a n).length+1:Nat):Int)=((lps u e l b a n).length:Int)+1 by omega,Int.add_mul,Int.one_mul]; omega)
 refine ⟨y5,y6,?_,b1,by omega,by omega⟩
 generalize plf ts (lps u e l b a n) acc=acc' at*
 simp only [zu]
 refine (js (ρ1:=[some (jp u e l b),some (.int (a:Int)),some (dL D),some (dL acc'),some (.int n),y5,y6]) ?_).trans rfl
 generalize dL D=DD at*
 dsimp? [JX,itS,hid,h1]
 exact lp
noncomputable def zj (u e l b:Int) (a:Nat) (D:KL) (ps acc:KL):KL:=ps.foldl (fun acc p=>plf (jS D p.1) (lps u e l b a p.1) acc) acc
noncomputable def sz (ps:KL):Int:=(ps.map fun p=>(p.2.length:Int)).sum
theorem ajj (h:okN u e l b=true) (a:Nat) (ha:a<4) (D:KL) (ps:KL):∀ (acc:KL) (x4 x5 x6:OP),(∀ p ∈ ps,zb D p.1=some p.2/\∀ t ∈ p.2,t.length<=4)->ndK (qd acc)->acc.length+48*(ps.length+1)<900000->TT acc+49*sz ps<900000->
  ∃ y4 y5 y6,jF (jE 4) zu.1 (ps.map fun p=> .int p.1) [some (jp u e l b),some (.int (a:Int)),some (dL D),some (dL acc),x4,x5,x6]=some (.nx [some (jp u e l b),some (.int (a:Int)),some (dL D),some (dL (zj u e l b a D ps acc)),y4,y5,y6])/\ndK (qd (zj u e l b a D ps acc))/\TT (zj u e l b a D ps acc)<=TT acc+48*sz ps/\(zj u e l b a D ps acc).length<=acc.length+48*ps.length:=by
 induction ps with
 | nil=>exact fun acc x4 x5 x6 _ hn _ _=>⟨x4,x5,x6,rfl,hn,by simp [zj,sz],by simp [zj]⟩
 | cons p ps ih=>
  intro acc x4 x5 x6 hp hn hl hT
  have s0:sz (p::ps)=(p.2.length:Int)+sz ps:=by simp [sz]
  have s1:0<=sz ps:=QB fun x hx=>by obtain ⟨q,_,rfl⟩:=List.mem_map.mp hx; omega
  rw [List.length_cons] at hl
  rw [s0] at hT
  obtain ⟨f1,f2⟩:=hp p List.mem_cons_self
  have gg:jS D p.1=p.2:=by unfold jS; rw [f1]; rfl
  obtain ⟨y5,y6,st,c1,c2,c3⟩:=alP h a ha f1 f2 hn (by omega) (by omega) (x5:=x5) (x6:=x6)
  obtain ⟨z4,z5,z6,lp,d1,d2,d3⟩:=ih (plf p.2 (lps u e l b a p.1) acc) (some (.int p.1)) y5 y6 (fun q hq=>hp q (List.mem_cons_of_mem _ hq)) c1 (by omega) (by omega)
  have eL:zj u e l b a D (p::ps) acc=zj u e l b a D ps (plf p.2 (lps u e l b a p.1) acc):=by
   show zj u e l b a D ps (plf (jS D p.1) (lps u e l b a p.1) acc)=_
   rw [gg]
  rw [eL,s0,List.length_cons]
  refine ⟨z4,z5,z6,?_,d1,by omega,by omega⟩
  rw [List.map_cons,jF]
  simp only [jE,zzF,zzG,zzD]
  rw [st,zzD]
  exact lp
end
theorem ah7 {ts:SL}{x:Int}{t:List (Int × Int)} (qs:List ((Int × Int) × Int)):∀ acc:KL,t ∈ jS (plf ts qs acc) x ↔ t ∈ jS acc x ∨ ∃ q ∈ qs,q.2=x/\∃ t' ∈ ts,t=q.1::t':=by
 induction qs with
 | nil=>exact fun acc=>⟨.inl,fun h=>h.elim id fun ⟨q,hq,_⟩=>nomatch hq⟩
 | cons q qs ih=>
  intro acc
  show t ∈ jS (plf ts qs (pls acc q ts)) x ↔ _
  rw [ih,acw]
  constructor
  ·rintro (h | ⟨q',h1,h2⟩)
   ·by_cases hx:x=q.2
    ·rw [if_pos hx] at h
     rcases List.mem_append.mp h with z | z
     ·exact .inl z
     ·obtain ⟨t',h3,rfl⟩:=List.mem_map.mp z
      exact .inr ⟨q,List.mem_cons_self,hx.symm,t',h3,rfl⟩
    ·rw [if_neg hx] at h; exact .inl h
   ·exact .inr ⟨q',List.mem_cons_of_mem _ h1,h2⟩
  ·rintro (h | ⟨q',h1,h2,t',h3,rfl⟩)
   ·left
    by_cases hx:x=q.2
    ·rw [if_pos hx]; exact List.mem_append_left _ h
    ·rw [if_neg hx]; exact h
   ·rcases List.mem_cons.mp h1 with rfl | z
    ·left
     rw [if_pos h2.symm]
     exact List.mem_append_right _ (List.mem_map.mpr ⟨t',h3,rfl⟩)
    ·exact .inr ⟨q',z,h2,t',h3,rfl⟩
section
variable {u e l b:Int}
theorem ajk {a:Nat}{D:KL}{x:Int}{t:List (Int × Int)} (ps:KL):∀ acc:KL,t ∈ jS (zj u e l b a D ps acc) x ↔ t ∈ jS acc x ∨ ∃ p ∈ ps,∃ q ∈ lps u e l b a p.1,q.2=x/\∃ t' ∈ jS D p.1,t=q.1::t':=by
 induction ps with
 | nil=>exact fun acc=>⟨.inl,fun h=>h.elim id fun ⟨q,hq,_⟩=>nomatch hq⟩
 | cons p ps ih=>
  intro acc
  show t ∈ jS (zj u e l b a D ps (plf (jS D p.1) (lps u e l b a p.1) acc)) x ↔ _
  rw [ih,ah7]
  constructor
  ·rintro ((h | h) | ⟨p',h1,h2⟩)
   ·exact .inl h
   ·exact .inr ⟨p,List.mem_cons_self,h⟩
   ·exact .inr ⟨p',List.mem_cons_of_mem _ h1,h2⟩
  ·rintro (h | ⟨p',h1,h2⟩)
   ·exact .inl (.inl h)
   ·rcases List.mem_cons.mp h1 with rfl | z
    ·exact .inl (.inr h2)
    ·exact .inr ⟨p',z,h2⟩
theorem ajl (a:Nat) (n:Int):Q7 u e l b a n=(lps u e l b a n).map (·.2):=by
 unfold Q7 lps
 rw [abu,List.filter_map,List.map_map,List.map_map]
 rfl
theorem alQ (ts:SL) (qs:List ((Int × Int) × Int)):∀ acc:KL,qd (plf ts qs acc)=(qs.map (·.2)).foldl (fun x k=>JU x k (ts.length:Int)) (qd acc):=by
 induction qs with
 | nil=>exact fun acc=>rfl
 | cons q qs ih=>
  intro acc
  show qd (plf ts qs (pls acc q ts))=_
  rw [ih,afS]; rfl
theorem ag3 (a:Nat) (D:KL) (ps:KL):∀ acc:KL,qd (zj u e l b a D ps acc)=(qd ps).foldl (fun acc p=>(Q7 u e l b a p.1).foldl (fun x k=>JU x k (J1 (qd D) p.1)) acc) (qd acc):=by
 induction ps with
 | nil=>exact fun acc=>rfl
 | cons p ps ih=>
  intro acc
  show qd (zj u e l b a D ps (plf (jS D p.1) (lps u e l b a p.1) acc))=_
  rw [ih,alQ]
  show _=(qd ps).foldl _ ((Q7 u e l b a p.1).foldl (fun x k=>JU x k (J1 (qd D) p.1)) (qd acc))
  rw [ajl,acv]
theorem ajm (a:Nat) (D:KL):qd (zj u e l b a D D [])=aly u e l b a (qd D):=ag3 a D D []
theorem aeH:∀ {D:KL}{p:Int × SL},ndK (qd D)->p ∈ D->zb D p.1=some p.2
 | [],p,_,h=>nomatch h
 | q::D,p,hn,h=>by
  have hn':q.1 ∉ (qd D).map (·.1)/\((qd D).map (·.1)).Nodup:=by
   have:((q.1,(q.2.length:Int))::qd D).map (·.1)=q.1::(qd D).map (·.1):=rfl
   unfold ndK at hn
   exact List.nodup_cons.mp hn
  rw [qX]
  rcases List.mem_cons.mp h with rfl | z
  ·rw [if_pos rfl]
  ·have:¬ q.1=p.1:=fun e=>hn'.1 (by
    rw [e]
    exact List.mem_map.mpr ⟨(p.1,(p.2.length:Int)),List.mem_map.mpr ⟨p,z,rfl⟩,rfl⟩)
   rw [if_neg this]
   exact aeH hn'.2 z
theorem alR {D:KL}{k:Int}{t:List (Int × Int)} (h:t ∈ jS D k):∃ p ∈ D,p.1=k:=by
 unfold jS zb at h
 cases hq:D.find? fun p=>decide (p.1=k) with
 | none=>rw [hq] at h; exact absurd h (by simp)
 | some p=>exact ⟨p,List.mem_of_find?_eq_some hq,by simpa using List.find?_some hq⟩
noncomputable def MkD (u e l b N:Int) (r j:Nat) (D:KL):Prop:=∀ k t,t ∈ jS D k ↔ (j=0 ∨ (0<=k/\k<=qt u e l b (r - j)))/\t.length=j/\t.all (okP u l)=true/\k*b ^ j+val b e t=N
theorem anA (N:Int) (r:Nat):MkD u e l b N r 0 [(N,[[]])]:=fun k t=>by
 have:jS [(N,[[]])] k=if N=k then [[]] else []:=by
  unfold jS
  rw [qX]
  by_cases h:N=k
  ·rw [if_pos h,if_pos h]; rfl
  ·rw [if_neg h,if_neg h]; rfl
 rw [this]
 constructor
 ·intro h
  by_cases hk:N=k
  ·rw [if_pos hk] at h
   rw [List.mem_singleton.mp h]
   exact ⟨.inl rfl,rfl,rfl,by subst hk; simp [val]⟩
  ·rw [if_neg hk] at h; exact absurd h (by simp)
 ·rintro ⟨_,h1,h2,h3⟩
  have:t=[]:=List.eq_nil_of_length_eq_zero h1
  subst this
  have:N=k:=by simp [val] at h3; omega
  rw [if_pos this]
  exact List.mem_singleton.mpr rfl
theorem anB (h:okN u e l b=true) {N:Int}{r j:Nat} (hj:j<r) {D:KL} (H:MkD u e l b N r j D):MkD u e l b N r (j+1) (zj u e l b (r - (j+1)) D D []):=fun k t=>by
 obtain ⟨a1,a2,a3,a4,a5,a6,a7,a8,a9,a10⟩:=jO h
 have hb:0<b:=by omega
 rw [ajk]
 constructor
 ·rintro (z | ⟨q,hq,x,hx,hk,t',ht,rfl⟩)
  ·exact absurd z (by simp [jS,zb])
  ·obtain ⟨p,hp,rfl⟩:=List.mem_map.mp hx
   obtain ⟨hp1,hp2⟩:=List.mem_filter.mp hp
   simp only [okQ,Bool.and_eq_true,decide_eq_true_eq] at hp2
   obtain ⟨o1,o2,o3⟩:=hp2
   obtain ⟨_,t1,t2,t3⟩:=(H _ _).mp ht
   have hd:=Int.mul_ediv_add_emod (q.1 - wt e p) b
   have hk':(q.1 - wt e p) / b=k:=hk
   rw [o1,hk',Int.mul_comm] at hd
   have e1:k*b+wt e p=q.1:=by omega
   refine ⟨.inr ⟨?_,?_⟩,by rw [List.length_cons,t1],by rw [List.all_cons,alx hp1,t2]; rfl,?_⟩
   ·rw [←hk']; exact Int.ediv_nonneg o2 (by omega)
   ·rw [←hk']
    exact Int.le_of_lt_add_one (Int.ediv_lt_of_lt_mul hb (by
     have:(qt u e l b (r - (j+1))+1)*b=b*qt u e l b (r - (j+1))+b:=by rw [Int.add_mul,Int.mul_comm]; omega
     omega))
   ·show k*b ^ (j+1)+val b e (p::t')=N
    rw [zT,t1,←t3,←e1,Int.add_mul,Int.pow_succ,Int.mul_comm (b ^ j) b,←Int.mul_assoc]
    omega
 ·rintro ⟨hk,t1,t2,t3⟩
  right
  obtain ⟨h0,h1⟩:=hk.resolve_left (by omega)
  cases t with
  | nil=>cases t1
  | cons p t=>
   rw [List.all_cons,Bool.and_eq_true] at t2
   have t1':t.length=j:=by simpa using t1
   have w0:=adz a3 t2.1
   obtain ⟨q1,q2,q3,q4⟩:=qi t2.1
   have w1:wt e p<=wt e (u,l):=by
    have:=Int.mul_le_mul_of_nonneg_right q2 (show 0<=e by omega)
    unfold wt; show p.1*e+p.2<=u*e+l; omega
   have hr:r - j=(r - (j+1))+1:=by omega
   have hm:=ZJ (u:=u) (e:=e) (l:=l) (b:=b) (r - (j+1))
   have hkb:k*b<=qt u e l b (r - (j+1))*b:=Int.mul_le_mul_of_nonneg_right h1 (by omega)
   have hkb0:0<=k*b:=Int.mul_nonneg h0 (by omega)
   have ht:t ∈ jS D (k*b+wt e p):=(H _ _).mpr ⟨.inr ⟨by omega,by rw [hr,hm]; omega⟩,t1',t2.2,by
    rw [zT,t1',Int.pow_succ,Int.mul_comm (b ^ j) b,←Int.mul_assoc] at t3
    rw [Int.add_mul]; omega⟩
   obtain ⟨q,hq,hq1⟩:=alR ht
   have e1:q.1 - wt e p=k*b:=by omega
   refine ⟨q,hq,(p,k),List.mem_map.mpr ⟨p,List.mem_filter.mpr ⟨alw t2.1,?_⟩,?_⟩,rfl,t,by rw [hq1]; exact ht,rfl⟩
   ·simp only [okQ,Bool.and_eq_true,decide_eq_true_eq]
    rw [e1]
    refine ⟨Int.mul_emod_left _ _,Int.mul_nonneg h0 (by omega),?_⟩
    rw [Int.mul_comm]
    exact Int.mul_le_mul_of_nonneg_left h1 (by omega)
   ·rw [e1,Int.mul_ediv_cancel _ (by omega)]
theorem an7 (D:KL):TT D=sz D:=by
 unfold TT smK sz qd
 rw [List.map_map]
 congr 1
 exact List.map_congr_left fun p _=>by simp
theorem anC (kv:KL):(BX.zk (dL kv)).map (fun r=>r.map (·.1))=some (kv.map fun p=>PyData.int p.1):=by
 show some ((J2 kv).map (·.1))=_
 simp [J2,List.map_map,Function.comp_def]
theorem ajn {M A DD D':PyData}{ks:LP}{y4 y5 y6:OP} (kk:(BX.zk DD).map (fun r=>r.map (·.1))=some ks) (lp:jF (jE 4) zu.1 ks [some M,some A,some DD,some (.dict [(.none,.none)]),none,none,none]=some (.nx [some M,some A,some DD,some D',y4,y5,y6])):zR [M,A,DD]=some D':=by
 refine jV rfl ?_
 show JS.1 [some M,some A,some DD,none,none,none,none]=_
 simp only [JS]
 have key:∀ {Y:RO} {d:PyData},Y [some M,some A,some DD,some (.dict [(.none,.none)]),none,none,none]=some (.rt d)->QT 3 (cst (.dict [(.none,.none)])) Y [some M,some A,some DD,none,none,none,none]=some (.rt d):=fun {Y d} hy=>by
  have l8:3<[some M,some A,some DD,none,none,none,none].length:=by simp
  dsimp? [QT,hy]
  rw [if_pos l8]
 refine key ?_
 refine (js (ρ1:=[some M,some A,some DD,some D',y4,y5,y6]) ?_).trans ?_
 ·dsimp? [JX,itD,hid,kk]
  exact lp
 dsimp? [zzA]
theorem acx (h:okN u e l b=true) (a:Nat) (ha:a<4) {D:KL} (hn:ndK (qd D)) (ht:∀ p ∈ D,∀ t ∈ p.2,t.length<=4) (hl:48*(D.length+1)<900000) (hT:49*TT D<900000):
  zR [jp u e l b,.int (a:Int),dL D]=some (dL (zj u e l b a D D []))/\ndK (qd (zj u e l b a D D []))/\TT (zj u e l b a D D [])<=48*TT D/\(zj u e l b a D D []).length<=48*D.length:=by
 rw [an7 D] at hT
 have t0:TT []=0:=rfl
 obtain ⟨y4,y5,y6,lp,b1,b2,b3⟩:=ajj h a ha D D [] none none none (fun p hp=>⟨aeH hn hp,ht p hp⟩) (by simp [ndK,qd]) (by simpa using hl) (by rw [t0]; omega)
 refine ⟨ajn (anC D) lp,b1,by rw [an7 D]; omega,by simpa using b3⟩
end
theorem ajo {M R N D0 D' X Y:PyData}{RR:LP}{rr n:Int}{x4:OP} (hR:R= .int rr) (hN:N= .int n) (ga:ach [M,R,N]=some .none) (d0:PyData.dict [(.none,.none),(.int n,.list [.tuple []])]=D0) (rg:aiU [.int (rr - 1),.int (-1),.int (-1)]=some RR)
  (lp:jF (jE 4) zi.1 RR [some M,some R,some N,some D0,none]=some (.nx [some M,some R,some N,some D',x4])) (g2:adl D' (.int 0) (.list [])=some X) (so:aef [X]=some Y):qW [M,R,N]=some Y:=by
 subst hR hN
 have s1:aaA (.int rr) (.int 1)=some (.int (rr - 1)):=rfl
 have ng:aiL (.int 1)=some (.int (-1)):=rfl
 refine jV rfl ?_
 show Jh.1 [some M,some (.int rr),some (.int n),none,none]=_
 simp only [Jh]
 refine (js (ρ1:=[some M,some (.int rr),some (.int n),none,none]) ?_).trans ?_
 ·dsimp? [ga]
 refine (js (ρ1:=[some M,some (.int rr),some (.int n),some D0,none]) ?_).trans ?_
 ·dsimp? [agz,d0]
 refine (js (ρ1:=[some M,some (.int rr),some (.int n),some D',x4]) ?_).trans ?_
 ·dsimp? [JX,s1,ng,rg]
  exact lp
 dsimp? [abX,qf,g2,so]
theorem anD {M A R N DD D':PyData} (g:zR [M,A,DD]=some D'):zi.1 [some M,some R,some N,some DD,some A]=some (.nx [some M,some R,some N,some D',some A]):=by
 dsimp? [zi,g]
section
variable {u e l b:Int}
theorem apv (h:okN u e l b=true) {r:Nat} (h1:1<=r) {t:List (Int × Int)} (hl:t.length=r) (hp:t.all (okP u l)=true):inS r t=true:=by
 obtain ⟨a1,a2,a3,a4,a5,a6,a7,a8,a9,a10⟩:=jO h
 simp only [inS,Bool.and_eq_true,decide_eq_true_eq]
 refine ⟨⟨hl,h1⟩,List.all_eq_true.mpr fun p hpp=>?_⟩
 obtain ⟨q1,q2,q3,q4⟩:=qi (List.all_eq_true.mp hp p hpp)
 simp only [inP,Bool.and_eq_true,decide_eq_true_eq]
 omega
theorem sort_ok {r:Nat} (L:SL) (hL:∀ t ∈ L,inS r t=true) (h64:L.length<64):aef [eS L]=some (eS (aa5 jQ L)):=by
 have e1:L.map jg=L.map QY:=rfl
 show (Jx (L.map jg)).bind _=_
 rw [e1,adu,zzD]
 have ok:akX L=true:=by
  unfold akX
  rw [decide_eq_true h64,Bool.true_and]
  refine List.all_eq_true.mpr fun t ht=>?_
  cases L with
  | nil=>exact nomatch ht
  | cons x L=>
   have hx:=hL x List.mem_cons_self
   have hxl:x.length=r:=by simp only [inS,Bool.and_eq_true,decide_eq_true_eq] at hx; exact hx.1.1
   show inS x.length t=true
   rw [hxl]
   exact hL t ht
 rw [if_pos ok]
 rfl
end
theorem adN:∀ (ns:List Int) (a:Int),let m:=ns.foldl (fun a b=>if decide (b<a)=true then b else a) a; (m=a ∨ m ∈ ns)/\m<=a/\∀ x ∈ ns,m<=x
 | [],a=>⟨.inl rfl,Int.le_refl _,fun _ h=>nomatch h⟩
 | n::ns,a=>by
  obtain ⟨h1,h2,h3⟩:=adN ns (if decide (n<a)=true then n else a)
  simp only [List.foldl_cons]
  by_cases c:n<a
  ·rw [if_pos (decide_eq_true c)] at h1 h2 h3 ⊢
   refine ⟨.inr ?_,by omega,fun x hx=>?_⟩
   ·rcases h1 with z | z
    ·rw [z]; exact List.mem_cons_self
    ·exact List.mem_cons_of_mem _ z
   ·rcases List.mem_cons.mp hx with rfl | z
    ·exact h2
    ·exact h3 x z
  ·rw [if_neg (by simpa using c)] at h1 h2 h3 ⊢
   refine ⟨?_,h2,fun x hx=>?_⟩
   ·rcases h1 with z | z
    ·exact .inl z
    ·exact .inr (List.mem_cons_of_mem _ z)
   ·rcases List.mem_cons.mp hx with rfl | z
    ·omega
    ·exact h3 x z
theorem alS {ns:List Int}{v:Int} (h1:v ∈ ns) (h2:∀ x ∈ ns,v<=x):ae9 (fun i j=>decide (i<j)) [.list (ns.map .int)]=some (.int v):=by
 show (qN (ns.map PyData.int)).bind _=_
 rw [act,zzD]
 cases ns with
 | nil=>exact nomatch h1
 | cons n ns=>
  obtain ⟨k1,k2,k3⟩:=adN ns n
  show (some (PyData.int (ns.foldl (fun a b=>if decide (b<a)=true then b else a) n)))=_
  generalize ns.foldl (fun a b=>if decide (b<a)=true then b else a) n=m at*
  have a1:m<=v:=by
   rcases List.mem_cons.mp h1 with rfl | z
   ·exact k2
   ·exact k3 v z
  have a2:v<=m:=by
   rcases k1 with z | z
   ·rw [z]; exact h2 n List.mem_cons_self
   ·exact h2 m (List.mem_cons_of_mem _ z)
  rw [show m=v by omega]
theorem apw {α:Type}{l1 l2:List α} (h1:l1.Nodup) (h2:l2.Nodup) (h:∀ a ∈ l1,a ∉ l2):(l1++l2).Nodup:=
 List.pairwise_append.mpr ⟨h1,h2,fun a ha b hb e=>h a ha (e ▸ hb)⟩
theorem apx {ts:SL} (hts:ts.Nodup) (qs:List ((Int × Int) × Int)):∀ acc:KL,qs.Nodup->(∀ x,(jS acc x).Nodup)->(∀ q ∈ qs,∀ t' ∈ ts,q.1::t' ∉ jS acc q.2)->∀ x,(jS (plf ts qs acc) x).Nodup:=by
 induction qs with
 | nil=>exact fun acc _ h _ x=>h x
 | cons q qs ih=>
  intro acc hq h hn x
  obtain ⟨q1,q2⟩:=List.nodup_cons.mp hq
  refine ih (pls acc q ts) q2 (fun x=>?_) (fun q' hq' t' ht' hm=>?_) x
  ·rw [acw]
   by_cases hx:x=q.2
   ·rw [if_pos hx]
    refine apw (h x) (List.pairwise_map.mpr (List.Pairwise.imp (fun hne e=>hne (List.cons.inj e).2) hts)) fun a ha hb=>?_
    obtain ⟨t',ht',rfl⟩:=List.mem_map.mp hb
    exact hn q List.mem_cons_self t' ht' (hx ▸ ha)
   ·rw [if_neg hx]; exact h x
  ·rw [acw] at hm
   by_cases hx:q'.2=q.2
   ·rw [if_pos hx] at hm
    rcases List.mem_append.mp hm with z | z
    ·exact hn q' (List.mem_cons_of_mem _ hq') t' ht' z
    ·obtain ⟨t'',_,e⟩:=List.mem_map.mp z
     have e1:q.1=q'.1:=(List.cons.inj e).1
     have:q=q':=by
      obtain ⟨a,b⟩:=q
      obtain ⟨c,d⟩:=q'
      simp only at e1 hx
      rw [e1,hx]
     exact q1 (this ▸ hq')
   ·rw [if_neg hx] at hm
    exact hn q' (List.mem_cons_of_mem _ hq') t' ht' hm
noncomputable def an8:Bool:=(List.range 4).all fun u=>(List.range 13).all fun l=>decide ((rp (u:Int) (l:Int)).Nodup)
theorem ag4:an8=true:=by decide +kernel
section
variable {u e l b:Int}
theorem aqM (h:okN u e l b=true):(rp u l).Nodup:=by
 obtain ⟨a1,a2,a3,a4,a5,a6,a7,a8,a9,a10⟩:=jO h
 have k:=ag4
 unfold an8 at k
 have k1:=of_decide_eq_true (List.all_eq_true.mp (List.all_eq_true.mp k u.toNat (List.mem_range.mpr (by omega))) l.toNat (List.mem_range.mpr (by omega)))
 rw [show ((u.toNat:Nat):Int)=u by omega,show ((l.toNat:Nat):Int)=l by omega] at k1
 exact k1
theorem apy (h:okN u e l b=true) (a:Nat) (n:Int):(lps u e l b a n).Nodup:=by
 unfold lps
 refine List.pairwise_map.mpr (List.Pairwise.imp (fun hne e=>hne (congrArg Prod.fst e)) ((aqM h).filter _))
theorem alT (h:okN u e l b=true) {a:Nat}{D:KL} (ps:KL):∀ acc done:KL,(∀ x,(jS acc x).Nodup)->(∀ x t,t ∈ jS acc x->∃ p ∈ done,∃ q ∈ lps u e l b a p.1,q.2=x/\∃ t',t=q.1::t')->((done++ps).map (·.1)).Nodup->(∀ p ∈ ps,(jS D p.1).Nodup)->∀ x,(jS (zj u e l b a D ps acc) x).Nodup:=by
 obtain ⟨a1,a2,a3,a4,a5,a6,a7,a8,a9,a10⟩:=jO h
 induction ps with
 | nil=>exact fun acc done h1 _ _ _ x=>h1 x
 | cons p ps ih=>
  intro acc done h1 h2 h3 h4 x
  have key:∀ q ∈ lps u e l b a p.1,∀ n q',q' ∈ lps u e l b a n->q'.1=q.1->q'.2=q.2->n=p.1:=fun q hq n q' hq' e1 e2=>by
   obtain ⟨y,hy,rfl⟩:=List.mem_map.mp hq
   obtain ⟨y',hy',rfl⟩:=List.mem_map.mp hq'
   have o1:=(List.mem_filter.mp hy).2
   have o2:=(List.mem_filter.mp hy').2
   simp only [okQ,Bool.and_eq_true,decide_eq_true_eq] at o1 o2
   have d1:=Int.mul_ediv_add_emod (p.1 - wt e y) b
   have d2:=Int.mul_ediv_add_emod (n - wt e y') b
   rw [o1.1] at d1
   rw [o2.1] at d2
   have e1:y'=y:=e1
   have e2:(n - wt e y') / b=(p.1 - wt e y) / b:=e2
   rw [e1] at d2 e2
   rw [e2] at d2
   omega
  refine ih (plf (jS D p.1) (lps u e l b a p.1) acc) (done++[p]) (apx (h4 p List.mem_cons_self) _ acc (apy h a p.1) h1 fun q hq t' ht' hm=>?_) (fun x t ht=>?_) (by rw [List.append_assoc]; exact h3) (fun p' hp'=>h4 p' (List.mem_cons_of_mem _ hp')) x
  ·obtain ⟨p',hp',q',hq',e1,t'',e2⟩:=h2 _ _ hm
   have:p'.1=p.1:=key q hq p'.1 q' hq' (List.cons.inj e2).1.symm e1
   rw [List.map_append,List.map_cons] at h3
   exact (List.pairwise_append.mp h3).2.2 p'.1 (List.mem_map.mpr ⟨p',hp',rfl⟩) p.1 List.mem_cons_self this
  ·rcases (ah7 (lps u e l b a p.1) acc).mp ht with z | ⟨q,hq,e1,t',_,e2⟩
   ·obtain ⟨p',hp',r⟩:=h2 x t z
    exact ⟨p',List.mem_append_left _ hp',r⟩
   ·exact ⟨p,List.mem_append_right _ List.mem_cons_self,q,hq,e1,t',e2⟩
theorem anE (h:okN u e l b=true) {a:Nat}{D:KL} (hn:ndK (qd D)) (hD:∀ x,(jS D x).Nodup):∀ x,(jS (zj u e l b a D D []) x).Nodup:=
 alT h D [] [] (fun x=>by simp [jS,zb]) (fun x t ht=>by simp [jS,zb] at ht) (by
  have:(qd D).map (·.1)=D.map (·.1):=by simp [qd,List.map_map,Function.comp_def]
  unfold ndK at hn
  rw [this] at hn
  simpa using hn) fun p _=>hD p.1
theorem ag5 (H:zS=true) (h:okN u e l b=true) {r:Nat} (h1:1<=r) (h3:r<=3) {n:Int} (h0:0<=n) (hn:n<=99999) (hC:CN u e l b r n<64):∃ L:SL,qW [jp u e l b,.int (r:Int),.int n]=some (eS L)/\(∀ t,t ∈ L ↔ t.length=r/\t.all (okP u l)=true/\val b e t=n)/\(L.length:Int)=CN u e l b r n/\L.Nodup/\L.Pairwise (fun a b=>jQ a<=jQ b):=by
 have ga:=aja H h (r:=(r:Int)) (n:=n) (by omega) (by omega) h0 hn
 have p48:∀ j:Nat,j<=2->(48:Nat) ^ j<=2304:=fun j hj=>by
  rcases (show j=0 ∨ j=1 ∨ j=2 by omega) with rfl | rfl | rfl <;> decide
 obtain ⟨ρ',hl,hI⟩:=Qg (ga:=jE 4) (F:=zi.1) (fun i ρ=>∃ D x4,ρ=[some (jp u e l b),some (.int (r:Int)),some (.int n),some (dL D),x4]/\ndK (qd D)/\MkD u e l b n r i D/\TT D<=((48 ^ i:Nat):Int)/\D.length<=48 ^ i/\smK (qd D) (CN u e l b (r - i))=CN u e l b r n/\∀ x,(jS D x).Nodup) ((List.range r).map fun (j:Nat)=> .int (((r - (j+1):Nat):Int))) 0
  [some (jp u e l b),some (.int (r:Int)),some (.int n),some (dL [(n,[[]])]),none] ⟨_,_,rfl,by simp [ndK,qd],anA n r,by simp [TT,smK,qd],by simp,by simp [smK,qd],fun x=>by
   unfold jS
   rw [qX]
   by_cases hx:n=x
   ·rw [if_pos hx]; simp
   ·rw [if_neg hx]; simp [zb]⟩ (fun j d ρ hd hi=>by
   obtain ⟨hj,rfl⟩:=afH hd
   obtain ⟨D,x4,rfl,i1,i2,i3,i4,i5,i6⟩:=hi
   rw [Nat.zero_add] at i2 i3 i4 i5
   have pj:=p48 j (by omega)
   have ht:∀ p ∈ D,∀ t ∈ p.2,t.length<=4:=fun p hp t htt=>by
    have:=aeH i1 hp
    have gg:jS D p.1=p.2:=by unfold jS; rw [this]; rfl
    have:=(i2 p.1 t).mp (by rw [gg]; exact htt)
    omega
   obtain ⟨g,n1,t1,l1⟩:=acx h (r - (j+1)) (by omega) i1 ht (by omega) (by omega)
   have s2:=(alA h (r - (j+1)) i1).2
   rw [←ajm] at s2
   have ps:(48:Nat) ^ (j+1)=48*48 ^ j:=by rw [Nat.pow_succ,Nat.mul_comm]
   refine ⟨_,_,rfl,anD g,_,_,rfl,n1,by rw [Nat.zero_add]; exact anB h hj i2,?_,?_,?_,anE h i1 i6⟩
   ·rw [Nat.zero_add,ps]; omega
   ·rw [Nat.zero_add,ps]; omega
   ·rw [Nat.zero_add,s2,show r - (j+1)+1=r - j by omega]; exact i5)
 obtain ⟨D,x4,rfl,i1,i2,i3,i4,i5,i6⟩:=hI
 rw [List.length_map,List.length_range,Nat.zero_add] at i2
 rw [List.length_map,List.length_range,Nat.zero_add,Nat.sub_self,ahZ i1,acv] at i5
 have mem:∀ t,t ∈ jS D 0 ↔ t.length=r/\t.all (okP u l)=true/\val b e t=n:=fun t=>by
  rw [i2 0 t]
  constructor
  ·rintro ⟨_,k1,k2,k3⟩
   rw [Int.zero_mul] at k3
   exact ⟨k1,k2,by omega⟩
  ·rintro ⟨k1,k2,k3⟩
   exact ⟨.inr ⟨Int.le_refl _,by rw [Nat.sub_self]; exact Int.le_refl _⟩,k1,k2,by rw [Int.zero_mul]; omega⟩
 have so:=sort_ok (r:=r) (jS D 0) (fun t ht=>by obtain ⟨k1,k2,_⟩:=(mem t).mp ht; exact apv h h1 k1 k2) (by omega)
 have g2:adl (dL D) (.int 0) (.list [])=some (eS (jS D 0)):=by
  show some ((Ju (J2 D) 0).getD (.list []))=_
  rw [aaV]
  unfold jS
  cases zb D 0 <;> rfl
 refine ⟨aa5 jQ (jS D 0),ajo rfl rfl ga rfl (adF h1 h3) hl g2 so,fun t=>?_,?_,(Jw jQ (jS D 0)).nodup_iff.mpr (i6 0),Qt jQ (jS D 0)⟩
 ·rw [←mem t]; exact (Jw jQ (jS D 0)).mem_iff
 ·rw [(Jw jQ (jS D 0)).length_eq]; exact i5
end
noncomputable def an9:Bool:=(List.range 4).all fun u=>(List.range 13).all fun l=>decide (20<=(u+1)*(l+1)) || (List.range 6).all fun e=>e == 0 || (List.range 17).all fun b=>decide (b<2) || (List.range b).all fun c=>decide ((u+1)*((jD (u:Int) (l:Int)).filter fun x=>decide (((c:Int) - jl (e:Int) x) % (b:Int)=0)).length<64)
theorem ag6:an9=true:=by decide +kernel
noncomputable def aqN:Bool:=(List.range 4).all fun u=>(List.range 12).all fun l=>(List.range 6).all fun e=>e == 0 || (List.range 27).all fun k=>decide (cnt (u:Int) (e:Int) (l:Int) (k:Int)<=(u:Int)+1)
theorem ajp:aqN=true:=by decide +kernel
theorem acy (f g:PyData->Int):∀ rs:LP,(∀ x ∈ rs,f x<=g x)->(rs.map f).sum<=(rs.map g).sum
 | [],_=>Int.le_refl _
 | x::rs,h=>by
  have a:=h x List.mem_cons_self
  have c:=acy f g rs fun y hy=>h y (List.mem_cons_of_mem _ hy)
  simp only [List.map_cons,List.sum_cons]
  omega
theorem aao (k:Int) (p:PyData->Bool):∀ rs:LP,(rs.map fun x=>if p x=true then k else 0).sum=k*((rs.filter p).length:Int)
 | []=>by simp
 | x::rs=>by
  rw [List.map_cons,List.sum_cons,aao k p rs]
  by_cases h:p x=true
  ·rw [if_pos h,List.filter_cons_of_pos h,List.length_cons,Int.natCast_add,Int.mul_add]; omega
  ·rw [if_neg h,List.filter_cons_of_neg h]; omega
section
variable {u e l b:Int}
theorem adO (h:okN u e l b=true) (m:Int):CN u e l b 1 m<=u+1:=by
 obtain ⟨a1,a2,a3,a4,a5,a6,a7,a8,a9,a10⟩:=jO h
 have bm:=afL h
 have s1:CN u e l b 1 m<=cnt u e l m:=by
  show ((jD u l).map fun x=>if (m - jl e x) % b=0/\0<=m - jl e x then (if (m - jl e x) / b=0 then (1:Int) else 0) else 0).sum<=_
  have q:=aao 1 (fun x=>jl e x == m) (jD u l)
  rw [Int.one_mul] at q
  refine Int.le_trans (acy _ (fun x=>if (jl e x == m)=true then (1:Int) else 0) (jD u l) fun x _=>?_) (Int.le_of_eq q)
  by_cases c:(m - jl e x) % b=0/\0<=m - jl e x
  ·rw [if_pos c]
   by_cases d:(m - jl e x) / b=0
   ·have:=Int.mul_ediv_add_emod (m - jl e x) b
    rw [d,c.1] at this
    have e1:jl e x=m:=by omega
    rw [if_pos d,if_pos (by simpa using e1)]
    exact Int.le_refl _
   ·rw [if_neg d]; split <;> omega
  ·rw [if_neg c]; split <;> omega
 by_cases hm:0<=m/\m<=26
 ·have k:=ajp
  unfold aqN at k
  have k1:=List.all_eq_true.mp (List.all_eq_true.mp (List.all_eq_true.mp k u.toNat (List.mem_range.mpr (by omega))) l.toNat (List.mem_range.mpr (by omega))) e.toNat (List.mem_range.mpr (by omega))
  rw [Bool.or_eq_true] at k1
  rcases k1 with z | z
  ·have:e.toNat=0:=by simpa using z
   omega
  ·have k2:=of_decide_eq_true (List.all_eq_true.mp z m.toNat (List.mem_range.mpr (by omega)))
   rw [show ((u.toNat:Nat):Int)=u by omega,show ((e.toNat:Nat):Int)=e by omega,show ((l.toNat:Nat):Int)=l by omega,show ((m.toNat:Nat):Int)=m by omega] at k2
   omega
 ·have:cnt u e l m=0:=by
   unfold cnt
   rw [List.filter_eq_nil_iff.mpr fun x hx=>by
    have:=aaU h hx
    simp
    omega]
   rfl
  omega
theorem ajq (h:okN u e l b=true) (hs:(u+1)*(l+1)<20) (n:Int):CN u e l b 2 n<64:=by
 obtain ⟨a1,a2,a3,a4,a5,a6,a7,a8,a9,a10⟩:=jO h
 have s1:CN u e l b 2 n<=(u+1)*(((jD u l).filter fun x=>decide ((n - jl e x) % b=0)).length:Int):=by
  show ((jD u l).map fun x=>if (n - jl e x) % b=0/\0<=n - jl e x then CN u e l b 1 ((n - jl e x) / b) else 0).sum<=_
  rw [←aao (u+1) (fun x=>decide ((n - jl e x) % b=0)) (jD u l)]
  refine acy _ _ (jD u l) fun x _=>?_
  by_cases c:(n - jl e x) % b=0
  ·rw [if_pos (decide_eq_true c)]
   by_cases d:0<=n - jl e x
   ·rw [if_pos ⟨c,d⟩]; exact adO h _
   ·rw [if_neg fun z=>d z.2]; omega
  ·rw [if_neg fun z=>c z.1,if_neg (by simpa using c)]
   exact Int.le_refl _
 have c0:0<=n % b:=Int.emod_nonneg _ (by omega)
 have c1:n % b<b:=Int.emod_lt_of_pos _ (by omega)
 have k:=ag6
 unfold an9 at k
 have k1:=List.all_eq_true.mp (List.all_eq_true.mp k u.toNat (List.mem_range.mpr (by omega))) l.toNat (List.mem_range.mpr (by omega))
 rw [Bool.or_eq_true] at k1
 rcases k1 with z | z
 ·have z:=of_decide_eq_true z
  have:((20:Nat):Int)<=(((u.toNat+1)*(l.toNat+1):Nat):Int):=by exact_mod_cast z
  rw [Int.natCast_mul,Int.natCast_add,Int.natCast_add,show ((u.toNat:Nat):Int)=u by omega,show ((l.toNat:Nat):Int)=l by omega] at this
  exact absurd this (by have e:(((1:Nat)):Int)=1:=rfl; rw [e]; omega)
 ·have k2:=List.all_eq_true.mp z e.toNat (List.mem_range.mpr (by omega))
  rw [Bool.or_eq_true] at k2
  rcases k2 with z | z
  ·have:e.toNat=0:=by simpa using z
   omega
  ·have k3:=List.all_eq_true.mp z b.toNat (List.mem_range.mpr (by omega))
   rw [Bool.or_eq_true] at k3
   rcases k3 with z | z
   ·have:=of_decide_eq_true z
    omega
   ·have k4:=of_decide_eq_true (List.all_eq_true.mp z (n % b).toNat (List.mem_range.mpr (by omega)))
    rw [show ((u.toNat:Nat):Int)=u by omega,show ((e.toNat:Nat):Int)=e by omega,show ((l.toNat:Nat):Int)=l by omega,show ((b.toNat:Nat):Int)=b by omega,show (((n % b).toNat:Nat):Int)=n % b by omega] at k4
    have ef:((jD u l).filter fun x=>decide ((n % b - jl e x) % b=0))=((jD u l).filter fun x=>decide ((n - jl e x) % b=0)):=by
     congr 1
     funext x
     rw [Int.sub_emod (n % b),Int.emod_emod,←Int.sub_emod]
    rw [ef] at k4
    have k5:(((u.toNat+1)*((jD u l).filter fun x=>decide ((n - jl e x) % b=0)).length:Nat):Int)<64:=by exact_mod_cast k4
    rw [Int.natCast_mul,Int.natCast_add,show ((u.toNat:Nat):Int)=u by omega] at k5
    have e1:(((1:Nat)):Int)=1:=rfl
    rw [e1] at k5
    omega
end
theorem abc:∀ (A B:SL),PyData.eqvAll (A.map jg) (B.map jg)=decide (A=B)
 | [],[]=>by simp [PyData.eqvAll]
 | [],b::B=>by simp [PyData.eqvAll]
 | a::A,[]=>by simp [PyData.eqvAll]
 | a::A,b::B=>by
  simp only [List.map_cons,PyData.eqvAll,acq,abc A B]
  by_cases h:a=b <;> by_cases h':A=B <;> simp [h,h']
theorem ag7 (A:SL):okD (eS A)=true:=alD (n:=4) (ah3.mpr fun d hd=>by obtain ⟨t,_,rfl⟩:=List.mem_map.mp hd; exact anq t) (by omega)
theorem apz (A B:SL):PyData.eqv (eS A) (eS B)=decide (A=B):=by
 unfold eS PyData.eqv
 exact abc A B
theorem aqO (A B:SL):dEq (eS A) (eS B)=some (.bool (decide (A=B))):=by
 show (if okD (eS A)=true/\okD (eS B)=true then some (PyData.bool (PyData.eqv (eS A) (eS B))) else none)=_
 rw [if_pos ⟨ag7 A,ag7 B⟩,apz]
noncomputable def far:List (Int × Int)->List (Int × Int)->Int
 | p::ps,q::qs=>fd p q+far ps qs
 | _,_=>0
theorem aeI (p q:Int × Int):Zp [pr p,pr q]=some (.int (fd p q)):=by
 have i0:∀ p:Int × Int,dIx (pr p) (.int 0)=some (.int p.1):=fun _=>rfl
 have i1:∀ p:Int × Int,dIx (pr p) (.int 1)=some (.int p.2):=fun _=>rfl
 have s1:∀ i j:Int,aaA (.int i) (.int j)=some (.int (i - j)):=fun _ _=>rfl
 have a1:∀ i:Int,am3 [.int i]=some (.int (ab i)):=fun _=>rfl
 refine jV rfl ?_
 show Zo.1 [some (pr p),some (pr q)]=_
 dsimp? [Zo,i0,i1,s1,a1,add_int]
 rfl
theorem acz:∀ (ps qs:List (Int × Int)) (x y:OP),j0 (Qa 2 (jM (jE 0) (jM (jE 1) zp))) abQ (jP Zp (jr (lkp 0) (jr (lkp 1) jJ))) (Jv (ps.map pr) (qs.map pr)) [x,y]=some ((List.zipWith fd ps qs).map .int)
 | [],qs,x,y=>rfl
 | p::ps,[],x,y=>rfl
 | p::ps,q::qs,x,y=>by
  have ih:=acz ps qs (some (pr p)) (some (pr q))
  have g:=aeI p q
  have ga:Qa 2 (jM (jE 0) (jM (jE 1) zp)) (.tuple [pr p,pr q]) [x,y]=some [some (pr p),some (pr q)]:=rfl
  simp only [List.map_cons,Jv,j0,ga,zzD,abQ,zzM,List.zipWith_cons_cons]
  generalize pr p=P at*
  generalize pr q=Q at*
  dsimp? [g,ih]
theorem ah8:∀ ps qs:List (Int × Int),(List.zipWith fd ps qs).sum=far ps qs
 | [],qs=>by simp [far]
 | p::ps,[]=>by simp [far]
 | p::ps,q::qs=>by simp [far,ah8 ps qs]
theorem ajr (ps qs:List (Int × Int)) (h:ps.length<=4):few (Jv (ps.map pr) (qs.map pr))=true:=ajf (by rw [aaG,List.length_map]; omega)
theorem Jn (ps qs:List (Int × Int)) (h:ps.length<=4):JZ [jg ps,jg qs]=some (.int (far ps qs)):=by
 have c:=acz ps qs none none
 have z:ahL [jg ps,jg qs]=some (Jv (ps.map pr) (qs.map pr)):=rfl
 have f:=ajr ps qs h
 have sm:aoX [.list ((List.zipWith fd ps qs).map .int)]=some (.int (far ps qs)):=by
  show (qN ((List.zipWith fd ps qs).map PyData.int)).map _=_
  rw [act,←ah8]
  rfl
 refine jV rfl ?_
 show aew.1 [some (jg ps),some (jg qs)]=_
 generalize jg ps=S at*
 generalize jg qs=T at*
 dsimp? [aew,ze,QK,List.map_cons,List.map_nil,z,f,c,sm]
theorem aoa (i:Int):0<=ab i:=by unfold ab; split <;> omega
theorem alU (p q:Int × Int):0<=fd p q:=by have:=aoa (q.1 - p.1); have:=aoa (q.2 - p.2); unfold fd; omega
theorem aaW:∀ ps qs:List (Int × Int),0<=far ps qs
 | [],_=>by simp [far]
 | _::_,[]=>by simp [far]
 | p::ps,q::qs=>by have:=alU p q; have:=aaW ps qs; simp only [far]; omega
theorem apA (p q r:Int × Int):fd p q<=fd p r+fd r q:=by unfold fd ab; repeat (first | omega | split)
theorem ah9:∀ ps qs rs:List (Int × Int),ps.length=rs.length->qs.length=rs.length->far ps qs<=far ps rs+far rs qs
 | [],qs,rs,_,_=>by
  have h1:=aaW rs qs
  have e1:far [] qs=0:=by cases qs <;> rfl
  have e2:far [] rs=0:=by cases rs <;> rfl
  omega
 | p::ps,[],rs,h1,h2=>by rw [←h2] at h1; cases h1
 | p::ps,q::qs,[],h1,h2=>by cases h1
 | p::ps,q::qs,r::rs,h1,h2=>by
  have:=apA p q r
  have:=ah9 ps qs rs (by simpa using h1) (by simpa using h2)
  simp only [far]
  omega
theorem aia {p q:Int × Int} (h:fd p q=0):p=q:=by
 obtain ⟨a,b⟩:=p
 obtain ⟨c,d⟩:=q
 have:c=a/\d=b:=by
  unfold fd ab at h
  simp only at h
  split at h <;> split at h <;> omega
 rw [this.1,this.2]
theorem aap:∀ {ps qs:List (Int × Int)},ps.length=qs.length->far ps qs=0->ps=qs
 | [],[],_,_=>rfl
 | [],_::_,h,_=>by cases h
 | _::_,[],h,_=>by cases h
 | p::ps,q::qs,h,e=>by
  have:=alU p q
  have:=aaW ps qs
  simp only [far] at e
  rw [aia (show fd p q=0 by omega),aap (by simpa using h) (show far ps qs=0 by omega)]
theorem acA:∀ ps:List (Int × Int),far ps ps=0
 | []=>rfl
 | p::ps=>by
  have:fd p p=0:=by unfold fd ab; simp
  simp only [far,this,acA ps]; rfl
noncomputable def sg (i:Int):Int:=if 0<i then 1 else -1
noncomputable def mvD (r:Int) (k:Bool) (c:Int):LP:=List.replicate c.natAbs (mv r k (sg c))
theorem apB (r:Int) (k:Bool) (c:Int):noL (mv r k c)=true:=by cases k <;> rfl
theorem anF (r:Int) (k:Bool) (c:Int):noLs (mvD r k c)=true:=QP fun d hd=>by rw [List.eq_of_mem_replicate hd]; exact apB _ _ _
theorem acW (r:Int) (k:Bool) {c:Int} (hc:-1000<c/\c<1000):ZH [.int r,qQ k,.int c]=some (.list (mvD r k c)):=by
 have gt:Js (fun i j=>decide (i > j)) (.int c) (.int 0)=some (.bool (decide (c > 0))):=rfl
 have ng:aiL (.int 1)=some (.int (-1)):=rfl
 have a1:am3 [.int c]=some (.int (ab c)):=rfl
 have hab:ab c=(c.natAbs:Int):=by unfold ab; split <;> omega
 have rp:∀ s:Int,ahM (.list [mv r k s]) (.int (ab c))=some (.list (List.replicate c.natAbs (mv r k s))):=fun s=>by
  show (if [mv r k s].length<1000/\-1000<ab c/\ab c<1000 then some (PyData.list (List.replicate (ab c).toNat [mv r k s]).flatten) else none)=_
  rw [if_pos ⟨by simp,by omega,by omega⟩,alq,hab,Int.toNat_natCast]
 have rp:∀ s:Int,ahM (.list [.tuple [.int r,qQ k,.int s]]) (.int (ab c))=some (.list (List.replicate c.natAbs (mv r k s))):=rp
 refine jV rfl ?_
 show JE.1 [some (.int r),some (qQ k),some (.int c),none]=_
 unfold mvD sg
 generalize qQ k=K at*
 by_cases h:c > 0
 ·rw [decide_eq_true h] at gt
  rw [if_pos h]
  dsimp? [JE,gt,fw3,fw1,a1,rp]
 ·rw [decide_eq_false h] at gt
  rw [if_neg h]
  dsimp? [JE,gt,ng,fw3,fw1,a1,rp]
noncomputable def mvR (r:Int) (p q:Int × Int):LP:=mvD r false (q.1 - p.1)++mvD r true (q.2 - p.2)
noncomputable def mvL:Nat->List (Int × Int)->List (Int × Int)->LP
 | i,p::ps,q::qs=>mvR (i:Int) p q++mvL (i+1) ps qs
 | _,_,_=>[]
theorem abx (r:Int) (k:Bool) (c:Int):((mvD r k c).length:Int)=ab c:=by
 unfold mvD ab
 rw [List.length_replicate]
 split <;> omega
theorem aib (r:Int) (p q:Int × Int):((mvR r p q).length:Int)=fd p q:=by
 unfold mvR fd
 rw [List.length_append,Int.natCast_add,abx,abx]
theorem aic:∀ (i:Nat) (ps qs:List (Int × Int)),((mvL i ps qs).length:Int)=far ps qs
 | i,[],_=>by simp [mvL,far]
 | i,_::_,[]=>by simp [mvL,far]
 | i,p::ps,q::qs=>by simp only [mvL,far]; rw [List.length_append,Int.natCast_add,aib,aic]
theorem apC {F ms:LP} (hn:noLs ms=true) (hl:F.length+ms.length<1000000):akG (some (.list F)) (some (.list ms))=some (.list (F++ms)):=by
 show (if _/\_ then _ else _)=_
 rw [if_pos ⟨hn,hl⟩]
theorem alV {M T Q Z:PyData}{i c z w:Int}{k:Bool}{F:LP}{jj:Int} (hc:-1000<c/\c<1000) (hF:F.length<900000) (q1:dIx Q (.int i)=some Z) (q2:dIx Z (.int jj)=some (.int z)) (q3:∀ P:PyData,True) {P:PyData} (q4:dIx P (.int jj)=some (.int w)) (hz:z - w=c):
  aaQ.1 [some M,some T,some Q,some (.list F),some (.int i),some P,some (.int jj),some (qQ k)]=some (.nx [some M,some T,some Q,some (.list (F++mvD i k c)),some (.int i),some P,some (.int jj),some (qQ k)]):=by
 have s1:aaA (.int z) (.int w)=some (.int c):=by show some (PyData.int (z - w))=_; rw [hz]
 have g:=acW i k hc
 have hl:(mvD i k c).length<1000:=by have:=abx i k c; unfold ab at this; split at this <;> omega
 have el:=apC (F:=F) (anF i k c) (by omega)
 generalize qQ k=K at*
 dsimp? [aaQ,brw,hid,okB,ZX,abh,acQ,q1,q2,q4,s1,g,el]
theorem ag8:afq [.tuple [.str "upper",.str "lower"]]=some [.tuple [.int 0,qQ false],.tuple [.int 1,qQ true]]:=rfl
theorem apD {M T Q:PyData}{i:Int}{F:LP}{p q:Int × Int}{x6 x7:OP} (hF:F.length<800000) (q1:dIx Q (.int i)=some (pr q)) (h1:-1000<q.1 - p.1/\q.1 - p.1<1000) (h2:-1000<q.2 - p.2/\q.2 - p.2<1000):
  ∃ y6 y7,Qd.1 [some M,some T,some Q,some (.list F),some (.int i),some (pr p),x6,x7]=some (.nx [some M,some T,some Q,some (.list (F++mvR i p q)),some (.int i),some (pr p),y6,y7]):=by
 have hl:(mvD i false (q.1 - p.1)).length<1000:=by have:=abx i false (q.1 - p.1); unfold ab at this; split at this <;> omega
 have a:=alV (M:=M) (T:=T) (k:=false) (F:=F) h1 (by omega) q1 (jj:=0) (show dIx (pr q) (.int 0)=some (.int q.1) from rfl) (fun _=>trivial) (P:=pr p) (show dIx (pr p) (.int 0)=some (.int p.1) from rfl) rfl
 have c:=alV (M:=M) (T:=T) (k:=true) (F:=F++mvD i false (q.1 - p.1)) h2 (by rw [List.length_append]; omega) q1 (jj:=1) (show dIx (pr q) (.int 1)=some (.int q.2) from rfl) (fun _=>trivial) (P:=pr p) (show dIx (pr p) (.int 1)=some (.int p.2) from rfl) rfl
 rw [List.append_assoc] at c
 have g0:∀ x6 x7:OP,Qa 2 (jM (jE 6) (jM (jE 7) zp)) (.tuple [.int 0,qQ false]) [some M,some T,some Q,some (.list F),some (.int i),some (pr p),x6,x7]=some [some M,some T,some Q,some (.list F),some (.int i),some (pr p),some (.int 0),some (qQ false)]:=fun _ _=>rfl
 have g1:∀ (L:PyData) (x6 x7:OP),Qa 2 (jM (jE 6) (jM (jE 7) zp)) (.tuple [.int 1,qQ true]) [some M,some T,some Q,some L,some (.int i),some (pr p),x6,x7]=some [some M,some T,some Q,some L,some (.int i),some (pr p),some (.int 1),some (qQ true)]:=fun _ _ _=>rfl
 refine ⟨some (.int 1),some (qQ true),?_⟩
 show _=some (Out.nx [some M,some T,some Q,some (.list (F++(mvD i false (q.1 - p.1)++mvD i true (q.2 - p.2)))),some (.int i),some (pr p),some (.int 1),some (qQ true)])
 simp only [Qd]
 refine (js ?_).trans rfl
 have e:=ag8
 generalize qQ false=D0 at*
 generalize qQ true=D1 at*
 dsimp? [JX,brw,hid,okB,ZX,abh,acQ,e,jF,g0,g1,a,c]
section
variable {u e l b:Int}
theorem anG {M T:PyData}{Q0:List (Int × Int)} (h4:Q0.length<=4) (ps:List (Int × Int)):∀ (i:Nat) (qs:List (Int × Int)) (F:LP) (x4 x5 x6 x7:OP),Q0.drop i=qs->ps.length=qs.length->ps.length<=4->ps.all (okP u l)=true->qs.all (okP u l)=true->u<=100->l<=100->F.length+500*ps.length<800000->
  ∃ y4 y5 y6 y7,jF (Qa 2 (jM (jE 4) (jM (jE 5) zp))) Qd.1 (QX i (ps.map pr)) [some M,some T,some (jg Q0),some (.list F),x4,x5,x6,x7]=some (.nx [some M,some T,some (jg Q0),some (.list (F++mvL i ps qs)),y4,y5,y6,y7]):=by
 induction ps with
 | nil=>intro i qs F x4 x5 x6 x7 _ _ _ _ _ _ _ _; exact ⟨x4,x5,x6,x7,by simp [QX,jF,mvL]⟩
 | cons p ps ih=>
  intro i qs F x4 x5 x6 x7 hd hl h4' hp hq hu hl2 hF
  cases qs with
  | nil=>cases hl
  | cons q qs=>
   rw [List.all_cons,Bool.and_eq_true] at hp hq
   obtain ⟨p1,p2,p3,p4⟩:=qi hp.1
   obtain ⟨r1,r2,r3,r4⟩:=qi hq.1
   have hget:Q0[i]?=some q:=by
    have:(Q0.drop i)[0]?=some q:=by rw [hd]; rfl
    rw [List.getElem?_drop,Nat.add_zero] at this
    exact this
   have q1:=ah4 h4 hget
   have hr:=aib (i:Int) p q
   have hfd:fd p q<=400:=by unfold fd ab; split <;> split <;> omega
   rw [List.length_cons] at hF
   obtain ⟨y6,y7,st⟩:=apD (M:=M) (T:=T) (Q:=jg Q0) (i:=(i:Int)) (F:=F) (p:=p) (q:=q) (x6:=x6) (x7:=x7) (by omega) q1 (by omega) (by omega)
   have hd2:Q0.drop (i+1)=qs:=by
    have:(Q0.drop i).drop 1=qs:=by rw [hd]; rfl
    rw [List.drop_drop] at this
    exact this
   obtain ⟨z4,z5,z6,z7,hz⟩:=ih (i+1) qs (F++mvR (i:Int) p q) (some (.int (i:Int))) (some (pr p)) y6 y7 hd2 (by simpa using hl) (by rw [List.length_cons] at h4'; omega) hp.2 hq.2 hu hl2 (by rw [List.length_append]; omega)
   refine ⟨z4,z5,z6,z7,?_⟩
   have ga:Qa 2 (jM (jE 4) (jM (jE 5) zp)) (.tuple [.int (i:Int),pr p]) [some M,some T,some (jg Q0),some (.list F),x4,x5,x6,x7]=some [some M,some T,some (jg Q0),some (.list F),some (.int (i:Int)),some (pr p),x6,x7]:=rfl
   rw [List.map_cons]
   simp only [QX,jF,ga,zzD,st,mvL]
   rw [List.append_assoc] at hz
   exact hz
theorem anH {M T Q:PyData}{n:Int}{es F:LP}{y4 y5 y6 y7:OP} (c1:qe [M,T]=some .none) (c2:qe [M,Q]=some .none) (l1:zV [T]=some (.int n)) (l2:zV [Q]=some (.int n)) (en:afq [T]=some es) (lp:jF (Qa 2 (jM (jE 4) (jM (jE 5) zp))) Qd.1 es [some M,some T,some Q,some (.list []),none,none,none,none]=some (.nx [some M,some T,some Q,some (.list F),y4,y5,y6,y7])):Q4 [M,T,Q]=some (.list F):=by
 have nn:dNe (.int n) (.int n)=some (.bool false):=by rw [ag1]; simp
 refine jV rfl ?_
 show aaf.1 [some M,some T,some Q,none,none,none,none,none]=_
 simp only [aaf]
 refine (js (ρ1:=[some M,some T,some Q,none,none,none,none,none]) ?_).trans ?_
 ·dsimp? [c1]
 refine (js (ρ1:=[some M,some T,some Q,none,none,none,none,none]) ?_).trans ?_
 ·dsimp? [c2]
 refine (js (ρ1:=[some M,some T,some Q,none,none,none,none,none]) ?_).trans ?_
 ·dsimp? [l1,l2,nn]
 have key:∀ {Y:RO} {d:PyData},Y [some M,some T,some Q,some (.list []),none,none,none,none]=some (.rt d)->QT 3 (JG jJ) Y [some M,some T,some Q,none,none,none,none,none]=some (.rt d):=fun {Y d} hy=>by
  have l8:3<[some M,some T,some Q,none,none,none,none,none].length:=by simp
  dsimp? [QT,qf,hy]
  rw [if_pos l8]
 refine key ?_
 refine (js (ρ1:=[some M,some T,some Q,some (.list F),y4,y5,y6,y7]) ?_).trans ?_
 ·dsimp? [JX,brw,hid,okB,ZX,abh,acQ,en]
  exact lp
 dsimp? [zzA]
theorem afT (H:zS=true) (h:okN u e l b=true) {ps qs:List (Int × Int)} (hs:okS u l ps=true) (ht:okS u l qs=true) (hl:ps.length=qs.length):Q4 [jp u e l b,jg ps,jg qs]=some (.list (mvL 0 ps qs)):=by
 obtain ⟨a1,a2,a3,a4,a5,a6,a7,a8,a9,a10⟩:=jO h
 obtain ⟨h1,h4,hp⟩:=j1 hs
 obtain ⟨_,h4',hq⟩:=j1 ht
 obtain ⟨y4,y5,y6,y7,lp⟩:=anG (u:=u) (l:=l) (M:=jp u e l b) (T:=jg ps) (Q0:=qs) h4' ps 0 qs [] none none none none rfl hl h4 hp hq (by omega) (by omega) (by simp; omega)
 have l2:=JF qs
 rw [←hl] at l2
 exact anH (acu H h hs).1 (acu H h ht).1 (JF ps) l2 rfl lp
end
section
variable {α:Type}
noncomputable abbrev KV (α:Type):=List (Int × α)
noncomputable def J3 (f:α->PyData) (kv:KV α):List (PyData × PyData):=kv.map fun p=>(.int p.1,f p.2)
noncomputable def dV (f:α->PyData) (kv:KV α):PyData:= .dict ((.none,.none)::J3 f kv)
noncomputable def qj (kv:KV α) (k:Int):Option α:=(kv.find? fun p=>decide (p.1=k)).map (·.2)
noncomputable def aaq (kv:KV α) (k:Int) (v:α):KV α:=if kv.any (fun p=>decide (p.1=k))=true then kv.map (fun p=>if p.1=k then (p.1,v) else p) else kv++[(k,v)]
theorem aaX (f:α->PyData) (kv:KV α) (k:Int):Ju (J3 f kv) k=(qj kv k).map f:=by
 induction kv with
 | nil=>rfl
 | cons p kv ih=>
  by_cases h:p.1=k
  ·simp [Ju,J3,qj,isI,h]
  ·have e1:Ju (J3 f (p::kv)) k=Ju (J3 f kv) k:=by simp [Ju,J3,isI,h,List.find?_cons]
   have e2:qj (p::kv) k=qj kv k:=by simp [qj,h,List.find?_cons]
   rw [e1,e2,ih]
theorem ajs (f:α->PyData) (kv:KV α) (k:Int) (v:α):ad9 (J3 f kv) k (f v)=J3 f (aaq kv k v):=by
 have h1:(J3 f kv).any (fun p=>isI k p.1)=kv.any fun p=>decide (p.1=k):=by simp [J3,List.any_map,Function.comp_def,isI]
 unfold ad9 aaq
 rw [h1]
 by_cases c:kv.any (fun p=>decide (p.1=k))=true
 ·rw [if_pos c,if_pos c]
  simp only [J3,List.map_map]
  apply List.map_congr_left
  intro p _
  by_cases h:p.1=k <;> simp [isI,h]
 ·rw [if_neg c,if_neg c]
  simp [J3]
theorem Jo (p:Int × α) (kv:KV α) (x:Int):qj (p::kv) x=if p.1=x then some p.2 else qj kv x:=by
 by_cases h:p.1=x <;> simp [qj,List.find?_cons,h]
theorem afU (k:Int) (v:α) (x:Int):∀ kv:KV α,qj (kv.map fun p=>if p.1=k then (p.1,v) else p) x=if x=k then (if kv.any (fun p=>decide (p.1=k))=true then some v else none) else qj kv x
 | []=>by simp [qj]
 | p::kv=>by
  rw [List.map_cons,Jo,Jo,afU k v x kv]
  by_cases hp:p.1=k
  ·by_cases hx:x=k
   ·subst hx; simp [hp]
   ·have hkx:¬ k=x:=fun z=>hx z.symm
    simp [hp,hx,hkx]
  ·by_cases hx:x=k
   ·subst hx; rw [List.any_cons,decide_eq_false hp,Bool.false_or]; simp [hp]
   ·by_cases hq:p.1=x <;> simp [hp,hx,hq]
theorem afV (k:Int) (v:α) (x:Int):∀ kv:KV α,qj (kv++[(k,v)]) x=if kv.any (fun p=>decide (p.1=x))=true then qj kv x else if k=x then some v else none
 | []=>by rw [List.nil_append,Jo]; simp [qj]
 | p::kv=>by
  rw [List.cons_append,Jo,Jo,afV k v x kv]
  by_cases hp:p.1=x
  ·simp [hp]
  ·rw [List.any_cons,decide_eq_false hp,Bool.false_or,if_neg hp,if_neg hp]
theorem acB (kv:KV α) (k:Int) (v:α) (x:Int):qj (aaq kv k v) x=if x=k then some v else qj kv x:=by
 unfold aaq
 by_cases c:kv.any (fun p=>decide (p.1=k))=true
 ·rw [if_pos c,afU,if_pos c]
 ·rw [if_neg c,afV]
  by_cases hx:x=k
  ·subst hx
   rw [if_neg c,if_pos rfl,if_pos rfl]
  ·have hkx:¬ k=x:=fun z=>hx z.symm
   rw [if_neg hx,if_neg hkx]
   by_cases c':kv.any (fun p=>decide (p.1=x))=true
   ·rw [if_pos c']
   ·rw [if_neg c']
    unfold qj
    rw [List.find?_eq_none.mpr fun p hp=>by
     have:=fun z=>c' (List.any_eq_true.mpr ⟨p,hp,z⟩)
     exact this]
    rfl
theorem afW (kv:KV α) (k:Int) (v:α):(aaq kv k v).length<=kv.length+1:=by
 unfold aaq; split <;> simp
theorem alW {kv:KV α}{p:Int × α} (h:p ∈ kv):∃ v,qj kv p.1=some v:=by
 unfold qj
 cases hf:kv.find? fun q=>decide (q.1=p.1) with
 | none=>exact absurd (List.find?_eq_none.mp hf p h) (by simp)
 | some q=>exact ⟨_,rfl⟩
theorem anI {kv:KV α}{k:Int}{v:α} (h:qj kv k=some v):∃ p ∈ kv,p.1=k:=by
 unfold qj at h
 cases hf:kv.find? fun q=>decide (q.1=k) with
 | none=>rw [hf] at h; cases h
 | some q=>exact ⟨q,List.mem_of_find?_eq_some hf,by simpa using List.find?_some hf⟩
theorem anJ (f:α->PyData) (kv:KV α):(BX.zk (dV f kv)).map (fun r=>r.map (·.1))=some (kv.map fun p=>PyData.int p.1):=by
 show some ((J3 f kv).map (·.1))=_
 simp [J3,List.map_map,Function.comp_def]
theorem apE {f:α->PyData}{kv:KV α}{k:Int}{v:α} (hl:kv.length<1000000):aiO (some (dV f kv)) (some (f v)) (some (.int k))=some (dV f (aaq kv k v)):=by
 have hle:(J3 f kv).length<1000000:=by simp only [J3,List.length_map]; omega
 show (if (J3 f kv).length<1000000 then some (PyData.dict ((.none,.none)::ad9 (J3 f kv) k (f v))) else none)=_
 rw [if_pos hle,ajs]
 rfl
theorem alX {f:α->PyData}{kv:KV α}{k:Int}{v:α} (h:qj kv k=some v):agx (dV f kv) (.int k)=some (f v):=by
 show Ju (J3 f kv) k=_
 rw [aaX,h]; rfl
theorem apF {f:α->PyData}{kv:KV α}{k:Int}:aiP true (.int k) (dV f kv)=some (.bool (!(qj kv k).isSome)):=by
 show some (PyData.bool (if true=true then !(Ju (J3 f kv) k).isSome else _))=_
 rw [if_pos rfl,aaX]
 cases qj kv k <;> rfl
end
section
variable {u e l b:Int}
theorem Path.app {ps qs rs:List (Int × Int)}{ms ns:LP} (p:Path u e l b ps ms qs) (q:Path u e l b qs ns rs):Path u e l b ps (ms++ns) rs:=by
 induction p with
 | nil ps=>exact q
 | cons t _ ih=>exact .cons t (ih q)
theorem alY {ps:List (Int × Int)}{r:Nat}{p:Int × Int} (h:ps[r]?=some p):ps.set r p=ps:=by
 obtain ⟨hr,rfl⟩:=List.getElem?_eq_some_iff.mp h
 exact List.set_getElem_self hr
theorem alZ (p:Int × Int) (k:Bool):shP p k 0=p:=by unfold shP; cases k <;> simp
theorem aid (p:Int × Int) (k:Bool) (c d:Int):shP (shP p k c) k d=shP p k (c+d):=by
 unfold shP; cases k <;> simp [Int.add_assoc]
theorem afX (k:Bool) {c:Int} (hc:c=1 ∨ c=-1) {r:Nat}:∀ (n:Nat) {ps:List (Int × Int)}{p:Int × Int},okS u l ps=true->ps[r]?=some p->(∀ i:Nat,i<=n->okP u l (shP p k (c*(i:Int)))=true)->Path u e l b ps (List.replicate n (mv (r:Int) k c)) (ps.set r (shP p k (c*(n:Int))))
 | 0,ps,p,hs,hp,_=>by
  rw [show c*((0:Nat):Int)=0 by simp,alZ,alY hp]
  exact .nil _
 | n+1,ps,p,hs,hp,hok=>by
  have h1:=hok 1 (by omega)
  rw [show c*((1:Nat):Int)=c by simp] at h1
  have t:=aal (e:=e) (b:=b) hs hp k hc
  rw [if_pos h1] at t
  obtain ⟨hr,_⟩:=List.getElem?_eq_some_iff.mp hp
  have hp':(ps.set r (shP p k c))[r]?=some (shP p k c):=by rw [List.getElem?_set_self hr]
  have ih:=afX k hc n (t.bm _ rfl).2 hp' fun i hi=>by
   have:=hok (i+1) (by omega)
   rw [aid,show c+c*(i:Int)=c*((i+1:Nat):Int) by rw [Int.natCast_add,Int.mul_add]; omega]
   exact this
  rw [aid,show c+c*(n:Int)=c*((n+1:Nat):Int) by rw [Int.natCast_add,Int.mul_add]; omega,List.set_set] at ih
  exact .cons t ih
theorem afY (k:Bool) {c:Int}{r:Nat}{ps:List (Int × Int)}{p:Int × Int} (hs:okS u l ps=true) (hp:ps[r]?=some p) (h0:okP u l p=true) (h1:okP u l (shP p k c)=true):Path u e l b ps (mvD (r:Int) k c) (ps.set r (shP p k c)):=by
 have hsg:sg c=1 ∨ sg c=-1:=by unfold sg; split <;> simp
 have hn:sg c*(c.natAbs:Int)=c:=by unfold sg; split <;> omega
 have q:=afX (e:=e) (b:=b) k hsg c.natAbs hs hp fun i hi=>by
  obtain ⟨a1,a2,a3,a4⟩:=qi h0
  obtain ⟨b1,b2,b3,b4⟩:=qi h1
  have hb:∃ x:Int,sg c*(i:Int)=x/\((0<=x/\x<=c) ∨ (c<=x/\x<=0)):=by
   refine ⟨_,rfl,?_⟩
   unfold sg
   split <;> omega
  obtain ⟨x,hx,hx'⟩:=hb
  rw [hx]
  cases k <;> simp only [shP,okP,Bool.and_eq_true,decide_eq_true_eq,zzM,zzL,zzN] at*<;> omega
 rw [hn] at q
 exact q
theorem ag9 {p:Int × Int}:okP u l p=true ↔ (0<=p.1/\p.1<=u)/\0<=p.2/\p.2<=l:=by
 simp only [okP,Bool.and_eq_true,decide_eq_true_eq]; omega
theorem al0 (ps:List (Int × Int)):∀ (pre qs:List (Int × Int)),ps.length=qs.length->okS u l (pre++ps)=true->qs.all (okP u l)=true->Path u e l b (pre++ps) (mvL pre.length ps qs) (pre++qs):=by
 induction ps with
 | nil=>
  intro pre qs hl _ _
  cases qs with
  | nil=>exact .nil _
  | cons _ _=>cases hl
 | cons p ps ih=>
  intro pre qs hl hs hq
  cases qs with
  | nil=>cases hl
  | cons q qs=>
   rw [List.all_cons,Bool.and_eq_true] at hq
   have hall:=(j1 hs).2.2
   rw [List.all_append,List.all_cons,Bool.and_eq_true,Bool.and_eq_true] at hall
   have hp:=hall.2.1
   have g0:(pre++p::ps)[pre.length]?=some p:=by simp
   obtain ⟨⟨a1,a2⟩,a3,a4⟩:=ag9.mp hp
   obtain ⟨⟨b1,b2⟩,b3,b4⟩:=ag9.mp hq.1
   have e1:shP p false (q.1 - p.1)=(q.1,p.2):=by
    show (p.1+(q.1 - p.1),p.2)=_
    rw [show p.1+(q.1 - p.1)=q.1 by omega]
   have o1:okP u l (q.1,p.2)=true:=ag9.mpr ⟨⟨b1,b2⟩,a3,a4⟩
   have s1:=afY (e:=e) (b:=b) false (c:=q.1 - p.1) hs g0 hp (by rw [e1]; exact o1)
   rw [e1] at s1
   have e2:(pre++p::ps).set pre.length (q.1,p.2)=pre++(q.1,p.2)::ps:=by simp
   rw [e2] at s1
   have hs1:=Path.ok s1 hs
   have g1:(pre++(q.1,p.2)::ps)[pre.length]?=some (q.1,p.2):=by simp
   have e3:shP (q.1,p.2) true (q.2 - p.2)=q:=by
    show (q.1,p.2+(q.2 - p.2))=_
    rw [show p.2+(q.2 - p.2)=q.2 by omega]
   have s2:=afY (e:=e) (b:=b) true (c:=q.2 - p.2) hs1 g1 o1 (by rw [e3]; exact hq.1)
   rw [e3] at s2
   have e4:(pre++(q.1,p.2)::ps).set pre.length q=pre++q::ps:=by simp
   rw [e4] at s2
   have s12:=Path.app s1 s2
   have hs2:=Path.ok s12 hs
   have r:=ih (pre++[q]) qs (by simpa using hl) (by simpa using hs2) hq.2
   have e5:pre++[q]++ps=pre++q::ps:=by simp
   have e6:pre++[q]++qs=pre++q::qs:=by simp
   rw [e5,e6,List.length_append] at r
   show Path u e l b _ (mvR (pre.length:Int) p q++mvL (pre.length+1) ps qs) _
   exact Path.app s12 r
theorem anK {ps qs:List (Int × Int)} (hs:okS u l ps=true) (hq:okS u l qs=true) (hl:ps.length=qs.length):Path u e l b ps (mvL 0 ps qs) qs:=al0 ps [] qs hl hs (j1 hq).2.2
theorem adP {ps:List (Int × Int)} (hs:okS u l ps=true) {d:PyData}:d ∈ Q8 (jp u e l b) (jg ps) ps.length ↔ ∃ (r:Nat) (k:Bool) (c:Int) (p:Int × Int),ps[r]?=some p/\(c=1 ∨ c=-1)/\okP u l (shP p k c)=true/\d=mv (r:Int) k c:=by
 constructor
 ·intro hd
  obtain ⟨r,hr,hm⟩:=List.mem_flatMap.mp hd
  obtain ⟨h1,h2⟩:=List.mem_filter.mp hm
  have hr:=List.mem_range.mp hr
  have hp:ps[r]?=some ps[r]:=List.getElem?_eq_getElem hr
  have key:∀ (k:Bool) (c:Int),(c=1 ∨ c=-1)->tM (jp u e l b) (jg ps) (mv (r:Int) k c)=true->okP u l (shP ps[r] k c)=true:=fun k c hc ht=>by
   rw [ah5 (aal (e:=e) (b:=b) hs hp k hc)] at ht
   by_cases ho:okP u l (shP ps[r] k c)=true
   ·exact ho
   ·rw [if_neg ho] at ht; cases ht
  simp only [c4,List.mem_cons,List.not_mem_nil,or_false] at h1
  rcases h1 with rfl | rfl | rfl | rfl
  ·exact ⟨r,false,1,_,hp,.inl rfl,key false 1 (.inl rfl) h2,rfl⟩
  ·exact ⟨r,false,-1,_,hp,.inr rfl,key false (-1) (.inr rfl) h2,rfl⟩
  ·exact ⟨r,true,1,_,hp,.inl rfl,key true 1 (.inl rfl) h2,rfl⟩
  ·exact ⟨r,true,-1,_,hp,.inr rfl,key true (-1) (.inr rfl) h2,rfl⟩
 ·rintro ⟨r,k,c,p,hp,hc,ho,rfl⟩
  obtain ⟨hr,_⟩:=List.getElem?_eq_some_iff.mp hp
  refine List.mem_flatMap.mpr ⟨r,List.mem_range.mpr hr,List.mem_filter.mpr ⟨?_,?_⟩⟩
  ·rcases hc with rfl | rfl <;> cases k <;> simp [c4]
  ·rw [ah5 (aal (e:=e) (b:=b) hs hp k hc),if_pos ho]; rfl
theorem aie (b e:Int):∀ (ps:List (Int × Int)) (r:Nat) (p q:Int × Int),ps[r]?=some p->val b e (ps.set r q)=val b e ps+(wt e q - wt e p)*b ^ (ps.length - 1 - r)
 | [],r,p,q,h=>by simp at h
 | a::ps,0,p,q,h=>by
  have:a=p:=by simpa using h
  subst this
  rw [zzG,zT,zT,List.length_cons,Int.sub_mul]
  simp only [Nat.add_sub_cancel,Nat.sub_zero]
  omega
 | a::ps,r+1,p,q,h=>by
  have h':ps[r]?=some p:=by simpa using h
  obtain ⟨hr,_⟩:=List.getElem?_eq_some_iff.mp h'
  rw [zzF,zT,zT,aie b e ps r p q h',List.length_set,List.length_cons,show ps.length+1 - 1 - (r+1)=ps.length - 1 - r by omega]
  omega
theorem aeJ:∀ (ps:List (Int × Int)) (r:Nat) (p q:Int × Int),ps[r]?=some p->far ps (ps.set r q)=fd p q
 | [],r,p,q,h=>by simp at h
 | a::ps,0,p,q,h=>by
  have:a=p:=by simpa using h
  subst this
  rw [zzG]
  simp only [far,acA]
  omega
 | a::ps,r+1,p,q,h=>by
  have h':ps[r]?=some p:=by simpa using h
  have:fd a a=0:=by unfold fd ab; simp
  rw [zzF]
  simp only [far,this,aeJ ps r p q h']
  omega
theorem al1 (p:Int × Int) (k:Bool) {c:Int} (hc:c=1 ∨ c=-1):fd p (shP p k c)=1:=by
 unfold fd shP ab
 cases k with
 | true=>
  show (if p.1 - p.1<0 then -(p.1 - p.1) else p.1 - p.1)+(if p.2+c - p.2<0 then -(p.2+c - p.2) else p.2+c - p.2)=1
  split <;> split <;> omega
 | false=>
  show (if p.1+c - p.1<0 then -(p.1+c - p.1) else p.1+c - p.1)+(if p.2 - p.2<0 then -(p.2 - p.2) else p.2 - p.2)=1
  split <;> split <;> omega
theorem apG {p q:Int × Int} (h:fd p q=1):∃ k c,(c=1 ∨ c=-1)/\q=shP p k c:=by
 obtain ⟨a,b⟩:=p
 obtain ⟨c,d⟩:=q
 have:(c=a/\(d=b+1 ∨ d=b - 1)) ∨ (d=b/\(c=a+1 ∨ c=a - 1)):=by
  unfold fd ab at h
  simp only at h
  split at h <;> split at h <;> omega
 rcases this with ⟨rfl,rfl | rfl⟩ | ⟨rfl,rfl | rfl⟩
 ·exact ⟨true,1,.inl rfl,rfl⟩
 ·exact ⟨true,-1,.inr rfl,rfl⟩
 ·exact ⟨false,1,.inl rfl,rfl⟩
 ·exact ⟨false,-1,.inr rfl,rfl⟩
theorem aif:∀ {ps qs:List (Int × Int)},ps.length=qs.length->far ps qs=1->∃ r p k c,ps[r]?=some p/\(c=1 ∨ c=-1)/\qs=ps.set r (shP p k c)
 | [],[],_,h=>by simp [far] at h
 | [],_::_,h,_=>by cases h
 | _::_,[],h,_=>by cases h
 | p::ps,q::qs,hl,h=>by
  have n1:=alU p q
  have n2:=aaW ps qs
  simp only [far] at h
  have hl':ps.length=qs.length:=by simpa using hl
  by_cases z:fd p q=0
  ·obtain ⟨r,p',k,c,h1,h2,h3⟩:=aif hl' (show far ps qs=1 by omega)
   exact ⟨r+1,p',k,c,by simpa using h1,h2,by rw [zzF,←h3,aia z]⟩
  ·obtain ⟨k,c,hc,hq⟩:=apG (show fd p q=1 by omega)
   exact ⟨0,p,k,c,rfl,hc,by rw [zzG,←hq,aap hl' (show far ps qs=0 by omega)]⟩
end
noncomputable abbrev St1:=List (Int × Int)
noncomputable def Q9 (here:St1) (acc:KV St1) (q:Int × St1):KV St1:=match qj acc q.1 with
 | none=>aaq acc q.1 q.2
 | some t=>if far here q.2<far here t then aaq acc q.1 q.2 else acc
theorem afZ (here:St1) (acc:KV St1) (q:Int × St1):(Q9 here acc q).length<=acc.length+1:=by
 unfold Q9
 split
 ·exact afW _ _ _
 ·split
  ·exact afW _ _ _
  ·omega
theorem adQ (here:St1) (xs:KV St1):∀ acc:KV St1,(xs.foldl (Q9 here) acc).length<=acc.length+xs.length:=by
 induction xs with
 | nil=>intro acc; simp
 | cons q xs ih=>intro acc; have:=ih (Q9 here acc q); have:=afZ here acc q; simp only [List.foldl_cons,List.length_cons]; omega
noncomputable def J4 (here:St1) (d:Option St1) (P:St1->Prop):Prop:=(∀ s,d=some s->P s)/\∀ s,P s->∃ t,d=some t/\far here t<=far here s
theorem J4.iff {here:St1}{d:Option St1}{P P':St1->Prop} (h:J4 here d P) (hi:∀ s,P s ↔ P' s):J4 here d P':=
 ⟨fun s hs=>(hi s).mp (h.1 s hs),fun s hs=>h.2 s ((hi s).mpr hs)⟩
theorem ajt (here:St1) (acc:KV St1) (q:Int × St1) (k:Int) {P:St1->Prop} (h:J4 here (qj acc k) P):J4 here (qj (Q9 here acc q) k) fun s=>P s ∨ (k,s)=q:=by
 obtain ⟨qk,qs⟩:=q
 unfold Q9
 by_cases hk:k=qk
 ·subst hk
  cases hf:qj acc k with
  | none=>
   simp only
   rw [acB,if_pos rfl]
   refine ⟨fun s hs=> .inr (by cases hs; rfl),fun s hs=>⟨qs,rfl,?_⟩⟩
   rcases hs with z | z
   ·obtain ⟨t,ht,_⟩:=h.2 s z
    rw [hf] at ht; cases ht
   ·have:s=qs:=congrArg Prod.snd z
    rw [this]; exact Int.le_refl _
  | some t=>
   simp only
   have ht:=h.1 t hf
   by_cases hlt:far here qs<far here t
   ·rw [if_pos hlt,acB,if_pos rfl]
    refine ⟨fun s hs=> .inr (by cases hs; rfl),fun s hs=>⟨qs,rfl,?_⟩⟩
    rcases hs with z | z
    ·obtain ⟨t',ht',hle⟩:=h.2 s z
     rw [hf] at ht'; cases ht'
     omega
    ·have:s=qs:=congrArg Prod.snd z
     rw [this]; exact Int.le_refl _
   ·rw [if_neg hlt,hf]
    refine ⟨fun s hs=> .inl (by cases hs; exact ht),fun s hs=>⟨t,rfl,?_⟩⟩
    rcases hs with z | z
    ·obtain ⟨t',ht',hle⟩:=h.2 s z
     rw [hf] at ht'; cases ht'
     exact hle
    ·have:s=qs:=congrArg Prod.snd z
     rw [this]; omega
 ·have e1:∀ v,qj (aaq acc qk v) k=qj acc k:=fun v=>by rw [acB,if_neg hk]
  have e2:qj (match qj acc qk with | none=>aaq acc qk qs | some t=>if far here qs<far here t then aaq acc qk qs else acc) k=qj acc k:=by
   split
   ·exact e1 _
   ·split
    ·exact e1 _
    ·rfl
  rw [e2]
  refine h.iff fun s=>⟨.inl,fun z=>z.resolve_right fun z=>hk (congrArg Prod.fst z)⟩
theorem aha (here:St1) (k:Int) (xs:KV St1):∀ (acc:KV St1) (P:St1->Prop),J4 here (qj acc k) P->J4 here (qj (xs.foldl (Q9 here) acc) k) fun s=>P s ∨ (k,s) ∈ xs:=by
 induction xs with
 | nil=>intro acc P h; exact h.iff fun s=>by simp
 | cons q xs ih=>
  intro acc P h
  refine (ih (Q9 here acc q) _ (ajt here acc q k h)).iff fun s=>?_
  rw [List.mem_cons]
  constructor
  ·rintro ((z | z) | z)
   ·exact .inl z
   ·exact .inr (.inl z)
   ·exact .inr (.inr z)
  ·rintro (z | z | z)
   ·exact .inl (.inl z)
   ·exact .inl (.inr z)
   ·exact .inr z
theorem aqP (here:St1) (k:Int) (xs:KV St1):J4 here (qj (xs.foldl (Q9 here) []) k) fun s=>(k,s) ∈ xs:=
 (aha here k xs [] (fun _=>False) ⟨fun s hs=>by simp [qj] at hs,fun s hs=>hs.elim⟩).iff fun s=>by simp
theorem anL {m S A:OP}{D acc:KV St1}{here t:St1}{n k:Int}{p:Int × Int}{x9:OP} (hD:qj D n=some t) (ht:t.length<=4) (hh:here.length<=4) (hl:acc.length<1000000):
  zK.1 [m,S,A,some (dV jg D),some (jg here),some (dV jg acc),some (.int n),some (pr p),some (.int k),x9]=some (.nx [m,S,A,some (dV jg D),some (jg here),some (dV jg (Q9 here acc (k,p::t))),some (.int n),some (pr p),some (.int k),some (jg (p::t))]):=by
 have g1:agx (dV jg D) (.int n)=some (jg t):=alX hD
 have ad:Qb (.tuple [pr p]) (jg t)=some (jg (p::t)):=aak (xs:=[pr p]) (ys:=t.map pr) (.inr trivial) (by rw [List.length_map]; simp; omega)
 have f1:few [pr p]=true:=fw1
 have hs:=apF (f:=jg) (kv:=acc) (k:=k)
 have a1:=Jn here (p::t) hh
 have nd:∀ s:St1,noD (jg s)=true:=fun s=>afM s
 have dd:∀ d,okB (dV jg acc) d=noD d:=fun _=>rfl
 have pt:=apE (f:=jg) (k:=k) (v:=p::t) hl
 simp only [zK]
 refine (js (ρ1:=[m,S,A,some (dV jg D),some (jg here),some (dV jg acc),some (.int n),some (pr p),some (.int k),some (jg (p::t))]) ?_).trans ?_
 ·generalize jg (p::t)=Z at*
  generalize dV jg acc=DA at*
  generalize dV jg D=DD at*
  generalize pr p=PP at*
  dsimp? [brw,hid,okB,ZX,abh,acQ,g1,f1,ad]
 unfold Q9
 cases hf:qj acc k with
 | none=>
  rw [hf] at hs
  have hs:aiP true (.int k) (dV jg acc)=some (.bool true):=hs
  simp only
  have nz:=nd (p::t)
  generalize jg (p::t)=Z at*
  generalize dV jg (aaq acc k (p::t))=DB at*
  generalize dV jg acc=DA at*
  dsimp? [agw,brw,hid,Option.join_none,dd,nz,hs,pt]
 | some t'=>
  rw [hf] at hs
  have hs:aiP true (.int k) (dV jg acc)=some (.bool false):=hs
  have g2:agx (dV jg acc) (.int k)=some (jg t'):=alX hf
  have a2:=Jn here t' hh
  have lt:Js (fun i j=>decide (i<j)) (.int (far here (p::t))) (.int (far here t'))=some (.bool (decide (far here (p::t)<far here t'))):=rfl
  simp only
  have nz:=nd (p::t)
  by_cases c:far here (p::t)<far here t'
  ·rw [if_pos c]
   rw [decide_eq_true c] at lt
   generalize jg (p::t)=Z at*
   generalize dV jg (aaq acc k (p::t))=DB at*
   generalize dV jg acc=DA at*
   generalize jg t'=Z' at*
   generalize jg here=HH at*
   dsimp? [agw,brw,hid,Option.join_none,dd,nz,hs,g2,a1,a2,lt,pt]
  ·rw [if_neg c]
   rw [decide_eq_false c] at lt
   generalize jg (p::t)=Z at*
   generalize dV jg acc=DA at*
   generalize jg t'=Z' at*
   generalize jg here=HH at*
   dsimp? [agw,brw,hid,Option.join_none,dd,nz,hs,g2,a1,a2,lt]
theorem aju {m S A:OP}{D:KV St1}{here t:St1}{n:Int} (hD:qj D n=some t) (ht:t.length<=4) (hh:here.length<=4) (qs:List ((Int × Int) × Int)):∀ (acc:KV St1) (x7 x8 x9:OP),acc.length+qs.length<1000000->
  ∃ y7 y8 y9,jF (Qa 2 (jM (jE 7) (jM (jE 8) zp))) zK.1 (qs.map agZ) [m,S,A,some (dV jg D),some (jg here),some (dV jg acc),some (.int n),x7,x8,x9]=some (.nx [m,S,A,some (dV jg D),some (jg here),some (dV jg ((qs.map fun q=>(q.2,q.1::t)).foldl (Q9 here) acc)),some (.int n),y7,y8,y9]):=by
 induction qs with
 | nil=>intro acc x7 x8 x9 _; exact ⟨x7,x8,x9,rfl⟩
 | cons q qs ih=>
  intro acc x7 x8 x9 hl
  rw [List.length_cons] at hl
  have h2:=afZ here acc (q.2,q.1::t)
  obtain ⟨y7,y8,y9,ih⟩:=ih (Q9 here acc (q.2,q.1::t)) (some (pr q.1)) (some (.int q.2)) (some (jg (q.1::t))) (by omega)
  refine ⟨y7,y8,y9,?_⟩
  have s:=anL (m:=m) (S:=S) (A:=A) (acc:=acc) (k:=q.2) (p:=q.1) (x9:=x9) hD ht hh (by omega)
  have ga:Qa 2 (jM (jE 7) (jM (jE 8) zp)) (agZ q) [m,S,A,some (dV jg D),some (jg here),some (dV jg acc),some (.int n),x7,x8,x9]=some [m,S,A,some (dV jg D),some (jg here),some (dV jg acc),some (.int n),some (pr q.1),some (.int q.2),x9]:=rfl
  rw [List.map_cons,jF,ga,zzD,s,zzD]
  exact ih
noncomputable def acC (D:KV St1) (k:Int):St1:=(qj D k).getD []
noncomputable def ntr (u e l b:Int) (a:Nat) (D:KV St1) (p:Int × St1):KV St1:=(lps u e l b a p.1).map fun q=>(q.2,q.1::acC D p.1)
theorem aig (u e l b:Int) (a:Nat) (D:KV St1) (p:Int × St1):(ntr u e l b a D p).length<=(rp u l).length:=by unfold ntr; rw [List.length_map]; exact aeC ..
noncomputable def aih (u e l b:Int) (a:Nat) (here:St1) (D:KV St1):KV St1:=(D.flatMap (ntr u e l b a D)).foldl (Q9 here) []
section
variable {u e l b:Int}
theorem acD {D:KV St1}{p:Int × St1} (hp:p ∈ D):qj D p.1=some (acC D p.1):=by
 obtain ⟨v,hv⟩:=alW hp
 unfold acC
 rw [hv]; rfl
theorem al2 (h:okN u e l b=true) (a:Nat) (ha:a<4) {S:OP}{D acc:KV St1}{here:St1} (hh:here.length<=4) {p:Int × St1} (hp:p ∈ D) (ht:(acC D p.1).length<=4) (hacc:acc.length+(rp u l).length<1000000) {x7 x8 x9:OP}:
  ∃ y7 y8 y9,zf.1 [some (jp u e l b),S,some (.int (a:Int)),some (dV jg D),some (jg here),some (dV jg acc),some (.int p.1),x7,x8,x9]=some (.nx [some (jp u e l b),S,some (.int (a:Int)),some (dV jg D),some (jg here),some (dV jg ((ntr u e l b a D p).foldl (Q9 here) acc)),some (.int p.1),y7,y8,y9]):=by
 have h1:=adE (n:=p.1) h a ha
 have hq:=aeC u e l b a p.1
 obtain ⟨y7,y8,y9,lp⟩:=aju (m:=some (jp u e l b)) (S:=S) (A:=some (.int (a:Int))) (acD hp) ht hh (lps u e l b a p.1) acc x7 x8 x9 (by omega)
 refine ⟨y7,y8,y9,?_⟩
 unfold ntr
 have it:items (.list ((lps u e l b a p.1).map agZ))=some ((lps u e l b a p.1).map agZ):=rfl
 simp only [zf]
 refine (js ?_).trans rfl
 generalize dV jg D=DD at*
 generalize dV jg acc=DA at*
 generalize jp u e l b=M at*
 generalize jg here=HH at*
 dsimp? [JX,itS,brw,hid,okB,ZX,abh,acQ,h1,it]
 exact lp
theorem ajv (h:okN u e l b=true) (a:Nat) (ha:a<4) {S:OP}{D:KV St1}{here:St1} (hh:here.length<=4) (ps:KV St1):∀ (acc:KV St1) (x6 x7 x8 x9:OP),(∀ p ∈ ps,p ∈ D/\(acC D p.1).length<=4)->acc.length+(ps.length+1)*48<1000000->
  ∃ y6 y7 y8 y9,jF (jE 6) zf.1 (ps.map fun p=> .int p.1) [some (jp u e l b),S,some (.int (a:Int)),some (dV jg D),some (jg here),some (dV jg acc),x6,x7,x8,x9]=some (.nx [some (jp u e l b),S,some (.int (a:Int)),some (dV jg D),some (jg here),some (dV jg ((ps.flatMap (ntr u e l b a D)).foldl (Q9 here) acc)),y6,y7,y8,y9]):=by
 have h48:=agY h
 induction ps with
 | nil=>intro acc x6 x7 x8 x9 _ _; exact ⟨x6,x7,x8,x9,rfl⟩
 | cons p ps ih=>
  intro acc x6 x7 x8 x9 hp hl
  rw [List.length_cons] at hl
  obtain ⟨hp1,hp2⟩:=hp p List.mem_cons_self
  obtain ⟨y7,y8,y9,s⟩:=al2 h a ha (S:=S) (D:=D) (acc:=acc) hh hp1 hp2 (x7:=x7) (x8:=x8) (x9:=x9) (by omega)
  have h2:=adQ here (ntr u e l b a D p) acc
  have h3:=aig u e l b a D p
  obtain ⟨z6,z7,z8,z9,ih⟩:=ih ((ntr u e l b a D p).foldl (Q9 here) acc) (some (.int p.1)) y7 y8 y9 (fun q hq=>hp q (List.mem_cons_of_mem _ hq)) (by omega)
  refine ⟨z6,z7,z8,z9,?_⟩
  have ga:jE 6 (.int p.1) [some (jp u e l b),S,some (.int (a:Int)),some (dV jg D),some (jg here),some (dV jg acc),x6,x7,x8,x9]=some [some (jp u e l b),S,some (.int (a:Int)),some (dV jg D),some (jg here),some (dV jg acc),some (.int p.1),x7,x8,x9]:=rfl
  rw [List.map_cons,jF,ga,zzD,s,zzD,List.flatMap_cons,List.foldl_append]
  exact ih
theorem ajw {M S DD HH D':PyData}{a:Int}{ks:LP}{y6 y7 y8 y9:OP} (sl:acS S (some a) none=some HH) (kk:(BX.zk DD).map (fun r=>r.map (·.1))=some ks) (lp:jF (jE 6) zf.1 ks [some M,some S,some (.int a),some DD,some HH,some (.dict [(.none,.none)]),none,none,none,none]=some (.nx [some M,some S,some (.int a),some DD,some HH,some D',y6,y7,y8,y9])):zt [M,S,.int a,DD]=some D':=by
 refine jV rfl ?_
 show Jd.1 [some M,some S,some (.int a),some DD,none,none,none,none,none,none]=_
 simp only [Jd]
 refine (js (ρ1:=[some M,some S,some (.int a),some DD,some HH,none,none,none,none,none]) ?_).trans ?_
 ·dsimp? [Qs,inI,sl]
 have key:∀ {Y:RO} {d:PyData},Y [some M,some S,some (.int a),some DD,some HH,some (.dict [(.none,.none)]),none,none,none,none]=some (.rt d)->QT 5 (cst (.dict [(.none,.none)])) Y [some M,some S,some (.int a),some DD,some HH,none,none,none,none,none]=some (.rt d):=fun {Y d} hy=>by
  have l8:5<[some M,some S,some (.int a),some DD,some HH,none,none,none,none,none].length:=by simp
  dsimp? [QT,hy]
  rw [if_pos l8]
 refine key ?_
 refine (js (ρ1:=[some M,some S,some (.int a),some DD,some HH,some D',y6,y7,y8,y9]) ?_).trans ?_
 ·dsimp? [JX,itD,hid,kk]
  exact lp
 dsimp? [zzA]
theorem aeK (h:okN u e l b=true) (a:Nat) (ha:a<4) {ps:St1} (h4:ps.length<=4) {D:KV St1} (hD:∀ p ∈ D,(acC D p.1).length<=4) (hl:(D.length+1)*48<1000000):zt [jp u e l b,jg ps,.int (a:Int),dV jg D]=some (dV jg (aih u e l b a (ps.drop a) D)):=by
 obtain ⟨y6,y7,y8,y9,lp⟩:=ajv h a ha (S:=some (jg ps)) (D:=D) (here:=ps.drop a) (by rw [List.length_drop]; omega) D [] none none none none (fun p hp=>⟨hp,hD p hp⟩) (by simpa using hl)
 have sl:acS (jg ps) (some (a:Int)) none=some (jg (ps.drop a)):=by
  show some (PyData.tuple (Z0 _ (some (a:Int)) none))=_
  rw [ah0,←List.map_drop]; rfl
 exact ajw sl (anJ jg D) lp
theorem aii {a:Nat}{D:KV St1}{k:Int}{s:St1} (hb:0<b):(k,s) ∈ D.flatMap (ntr u e l b a D) ↔ ∃ p t,okP u l p=true/\qj D (k*b+wt e p)=some t/\0<=k/\k<=qt u e l b a/\s=p::t:=by
 constructor
 ·intro h
  obtain ⟨q,hq,h2⟩:=List.mem_flatMap.mp h
  obtain ⟨x,hx,h3⟩:=List.mem_map.mp h2
  obtain ⟨p,hp,rfl⟩:=List.mem_map.mp hx
  obtain ⟨hp1,hp2⟩:=List.mem_filter.mp hp
  simp only [okQ,Bool.and_eq_true,decide_eq_true_eq] at hp2
  obtain ⟨o1,o2,o3⟩:=hp2
  have hk:(q.1 - wt e p) / b=k:=congrArg Prod.fst h3
  have hv:p::acC D q.1=s:=congrArg Prod.snd h3
  have hd:=Int.mul_ediv_add_emod (q.1 - wt e p) b
  rw [o1,hk,Int.mul_comm] at hd
  have e1:k*b+wt e p=q.1:=by omega
  refine ⟨p,acC D q.1,alx hp1,by rw [e1]; exact acD hq,?_,?_,hv.symm⟩
  ·rw [←hk]; exact Int.ediv_nonneg o2 (by omega)
  ·rw [←hk]
   exact Int.le_of_lt_add_one (Int.ediv_lt_of_lt_mul hb (by
    have:(qt u e l b a+1)*b=b*qt u e l b a+b:=by rw [Int.add_mul,Int.mul_comm]; omega
    omega))
 ·rintro ⟨p,t,hp,hc,h0,h1,rfl⟩
  obtain ⟨q,hq,hq1⟩:=anI hc
  have hg:acC D q.1=t:=by unfold acC; rw [hq1,hc]; rfl
  refine List.mem_flatMap.mpr ⟨q,hq,List.mem_map.mpr ⟨(p,k),?_,?_⟩⟩
  ·refine List.mem_map.mpr ⟨p,List.mem_filter.mpr ⟨alw hp,?_⟩,?_⟩
   ·simp only [okQ,Bool.and_eq_true,decide_eq_true_eq]
    have e1:q.1 - wt e p=k*b:=by omega
    rw [e1]
    refine ⟨Int.mul_emod_left _ _,Int.mul_nonneg h0 (by omega),?_⟩
    rw [Int.mul_comm]
    exact Int.mul_le_mul_of_nonneg_left h1 (by omega)
   ·have e1:q.1 - wt e p=k*b:=by omega
    rw [e1,Int.mul_ediv_cancel _ (by omega)]
  ·rw [hg]
noncomputable def NkD (u e l b N:Int) (ps:St1) (j:Nat) (D:KV St1):Prop:=∀ k,J4 (ps.drop (ps.length - j)) (qj D k) fun t=>(j=0 ∨ (0<=k/\k<=qt u e l b (ps.length - j)))/\t.length=j/\t.all (okP u l)=true/\k*b ^ j+val b e t=N
theorem anM (N:Int) (ps:St1):NkD u e l b N ps 0 [(N,[])]:=fun k=>by
 rw [Jo]
 refine ⟨fun s hs=>?_,fun s ⟨_,h1,h2,h3⟩=>?_⟩
 ·by_cases hk:N=k
  ·rw [if_pos hk] at hs
   cases hs
   exact ⟨.inl rfl,rfl,rfl,by subst hk; simp [val]⟩
  ·rw [if_neg hk] at hs; simp [qj] at hs
 ·have:s=[]:=List.eq_nil_of_length_eq_zero h1
  subst this
  have:N=k:=by simp [val] at h3; omega
  exact ⟨[],by rw [if_pos this],Int.le_refl _⟩
theorem anN (h:okN u e l b=true) {N:Int}{ps:St1}{j:Nat} (hj:j<ps.length) {D:KV St1} (H:NkD u e l b N ps j D):NkD u e l b N ps (j+1) (aih u e l b (ps.length - (j+1)) (ps.drop (ps.length - (j+1))) D):=fun k=>by
 obtain ⟨a1,a2,a3,a4,a5,a6,a7,a8,a9,a10⟩:=jO h
 have hb:0<b:=by omega
 obtain ⟨p0,hp0⟩:∃ p0,ps.drop (ps.length - (j+1))=p0::ps.drop (ps.length - j):=by
  have hlt:ps.length - (j+1)<ps.length:=by omega
  refine ⟨ps[ps.length - (j+1)],?_⟩
  rw [List.drop_eq_getElem_cons hlt,show ps.length - (j+1)+1=ps.length - j by omega]
 have q:=aqP (ps.drop (ps.length - (j+1))) k (D.flatMap (ntr u e l b (ps.length - (j+1)) D))
 refine ⟨fun s hs=>?_,fun s hs=>?_⟩
 ·obtain ⟨p,t,hp,hc,h0,h1,rfl⟩:=(aii hb).mp (q.1 s hs)
  obtain ⟨_,t1,t2,t3⟩:=(H _).1 t hc
  refine ⟨.inr ⟨h0,h1⟩,by rw [List.length_cons,t1],by rw [List.all_cons,hp,t2]; rfl,?_⟩
  rw [zT,t1,←t3,Int.add_mul,Int.pow_succ,Int.mul_comm (b ^ j) b,←Int.mul_assoc]
  omega
 ·obtain ⟨hk,t1,t2,t3⟩:=hs
  obtain ⟨h0,h1⟩:=hk.resolve_left (by omega)
  cases s with
  | nil=>cases t1
  | cons p t=>
   rw [List.all_cons,Bool.and_eq_true] at t2
   have t1':t.length=j:=by simpa using t1
   have w0:=adz a3 t2.1
   obtain ⟨q1,q2,q3,q4⟩:=qi t2.1
   have w1:wt e p<=wt e (u,l):=by
    have:=Int.mul_le_mul_of_nonneg_right q2 (show 0<=e by omega)
    unfold wt; show p.1*e+p.2<=u*e+l; omega
   have hr:ps.length - j=(ps.length - (j+1))+1:=by omega
   have hm:=ZJ (u:=u) (e:=e) (l:=l) (b:=b) (ps.length - (j+1))
   have hkb:k*b<=qt u e l b (ps.length - (j+1))*b:=Int.mul_le_mul_of_nonneg_right h1 (by omega)
   have hkb0:0<=k*b:=Int.mul_nonneg h0 (by omega)
   obtain ⟨c,hc,hl⟩:=(H (k*b+wt e p)).2 t ⟨.inr ⟨by omega,by rw [hr,hm]; omega⟩,t1',t2.2,by
    rw [zT,t1',Int.pow_succ,Int.mul_comm (b ^ j) b,←Int.mul_assoc] at t3
    rw [Int.add_mul]; omega⟩
   obtain ⟨x,hx,hx2⟩:=q.2 (p::c) ((aii hb).mpr ⟨p,c,t2.1,hc,h0,h1,rfl⟩)
   refine ⟨x,hx,?_⟩
   rw [hp0] at hx2 ⊢
   have e1:far (p0::ps.drop (ps.length - j)) (p::c)=fd p0 p+far (ps.drop (ps.length - j)) c:=rfl
   have e2:far (p0::ps.drop (ps.length - j)) (p::t)=fd p0 p+far (ps.drop (ps.length - j)) t:=rfl
   omega
theorem ajx (a:Nat) (here:St1) (D:KV St1) (h:okN u e l b=true):(aih u e l b a here D).length<=D.length*48:=by
 have h48:=agY h
 unfold aih
 have h1:=adQ here (D.flatMap (ntr u e l b a D)) []
 have h2:=afE (ntr u e l b a D) 48 (fun x=>Nat.le_trans (aig u e l b a D x) h48) D
 rw [List.length_nil] at h1
 omega
noncomputable def oS:Option St1->PyData
 | some s=>jg s
 | none=> .none
theorem ajy {M S N A DD D':PyData} (g:zt [M,S,A,DD]=some D'):Qf.1 [some M,some S,some N,some DD,some A]=some (.nx [some M,some S,some N,some D',some A]):=by
 dsimp? [Qf,g]
theorem aeL {M S D0 D' X:PyData}{n r:Int}{RR:LP}{x4:OP} (c1:qe [M,S]=some .none) (c2:Jc [.int n]=some .none) (d0:PyData.dict [(.none,.none),(.int n,.tuple [])]=D0) (ln:zV [S]=some (.int r)) (rg:aiU [.int (r - 1),.int (-1),.int (-1)]=some RR) (lp:jF (jE 4) Qf.1 RR [some M,some S,some (.int n),some D0,none]=some (.nx [some M,some S,some (.int n),some D',x4])) (g1:afd D' (.int 0)=some X):zg [M,S,.int n]=some X:=by
 have s1:aaA (.int r) (.int 1)=some (.int (r - 1)):=rfl
 have ng:aiL (.int 1)=some (.int (-1)):=rfl
 have fn:few ([]:LP)=true:=qf
 refine jV rfl ?_
 show aah.1 [some M,some S,some (.int n),none,none]=_
 simp only [aah]
 refine (js (ρ1:=[some M,some S,some (.int n),none,none]) ?_).trans ?_
 ·dsimp? [c1]
 refine (js (ρ1:=[some M,some S,some (.int n),none,none]) ?_).trans ?_
 ·dsimp? [c2]
 refine (js (ρ1:=[some M,some S,some (.int n),some D0,none]) ?_).trans ?_
 ·dsimp? [agz,fn,d0]
 refine (js (ρ1:=[some M,some S,some (.int n),some D',x4]) ?_).trans ?_
 ·dsimp? [JX,ln,s1,ng,rg]
  exact lp
 dsimp? [g1]
theorem Za (H:zS=true) (h:okN u e l b=true) {ps:St1} (hs:okS u l ps=true) (h3:ps.length<=3) {n:Int} (h0:0<=n) (hn:n<=99999):∃ d,zg [jp u e l b,jg ps,.int n]=some (oS d)/\J4 ps d fun t=>t.length=ps.length/\t.all (okP u l)=true/\val b e t=n:=by
 obtain ⟨h1,h4,hp⟩:=j1 hs
 have p48:∀ j:Nat,j<=2->(48:Nat) ^ j<=2304:=fun j hj=>by
  rcases (show j=0 ∨ j=1 ∨ j=2 by omega) with rfl | rfl | rfl <;> decide
 obtain ⟨ρ',hl,hI⟩:=Qg (ga:=jE 4) (F:=Qf.1) (fun i ρ=>∃ D x4,ρ=[some (jp u e l b),some (jg ps),some (.int n),some (dV jg D),x4]/\NkD u e l b n ps i D/\D.length<=48 ^ i) ((List.range ps.length).map fun (j:Nat)=> .int (((ps.length - (j+1):Nat):Int))) 0
  [some (jp u e l b),some (jg ps),some (.int n),some (dV jg [(n,[])]),none] ⟨_,_,rfl,anM n ps,by simp⟩ (fun j d ρ hd hi=>by
   obtain ⟨hj,rfl⟩:=afH hd
   obtain ⟨D,x4,rfl,i2,i4⟩:=hi
   rw [Nat.zero_add] at i2 i4
   have pj:=p48 j (by omega)
   have ht:∀ p ∈ D,(acC D p.1).length<=4:=fun p hp=>by
    have:=((i2 p.1).1 _ (acD hp)).2.1
    omega
   have g:=aeK h (ps.length - (j+1)) (by omega) h4 ht (by omega)
   refine ⟨_,_,rfl,ajy g,_,_,rfl,by rw [Nat.zero_add]; exact anN h hj i2,?_⟩
   have:=ajx (ps.length - (j+1)) (ps.drop (ps.length - (j+1))) D h
   rw [Nat.zero_add,Nat.pow_succ]
   omega)
 obtain ⟨D,x4,rfl,i2,i4⟩:=hI
 rw [List.length_map,List.length_range,Nat.zero_add] at i2
 refine ⟨qj D 0,?_,?_⟩
 ·have g1:afd (dV jg D) (.int 0)=some (oS (qj D 0)):=by
   show some ((Ju (J3 jg D) 0).getD .none)=_
   rw [aaX]
   cases qj D 0 <;> rfl
  exact aeL (acu H h hs).1 (acp h0 hn) rfl (JF ps) (adF h1 h3) hl g1
 ·have q:=i2 0
  rw [Nat.sub_self,List.drop_zero] at q
  refine q.iff fun t=>?_
  constructor
  ·rintro ⟨_,t1,t2,t3⟩
   exact ⟨t1,t2,by rw [Int.zero_mul] at t3; omega⟩
  ·rintro ⟨t1,t2,t3⟩
   exact ⟨.inr ⟨Int.le_refl _,Int.le_refl _⟩,t1,t2,by rw [Int.zero_mul]; omega⟩
theorem ZK {M S N Z:PyData}{v:Int} (g:zg [M,S,N]=some Z) (nz:acP Z=false) (a:JZ [S,Z]=some (.int v)):qx [M,S,N]=some (.int v):=by
 have is:akD Z .none=some (.bool false):=by show some (PyData.bool (acP Z))=_; rw [nz]
 refine jV rfl ?_
 show qU.1 [some M,some S,some N,none]=_
 dsimp? [qU,g,is,a]
noncomputable def nuB (b e:Int) (ps:St1) (d:PyData):Int:=match qD [jg ps,d] with
 | some (.tuple xs)=>match qv xs with
  | some qs=>val b e qs
  | none=>0
 | _=>0
theorem af0:∀ qs:St1,qv (qs.map pr)=some qs
 | []=>rfl
 | q::qs=>by
  have:=af0 qs
  simp only [List.map_cons,qv]
  have e1:abm (pr q)=some q:=rfl
  rw [e1,this]
  rfl
theorem ahb {ps qs:St1}{d:PyData} (t:Th u e l b ps d (some qs)):nuB b e ps d=val b e qs:=by
 unfold nuB
 rw [(t.bm _ rfl).1]
 show (match qv (qs.map pr) with | some qs=>val b e qs | none=>0)=_
 rw [af0]
noncomputable def zY (u e l b:Int) (ps:St1) (n:Int):LP:=(Q8 (jp u e l b) (jg ps) ps.length).filter fun d=>decide (nuB b e ps d=n)
theorem ahc {M S:PyData}{ms zs:LP}{n:Int} (c1:qe [M,S]=some .none) (c2:Jc [.int n]=some .none) (am:qK [M,S]=some (.list ms)) (fw:few ms=true) (cp:j0 (jE 0) (tst (op2 dEq (jP afu (jr (lkp 2) (jr (jP qD (jr (lkp 3) (jr (lkp 0) jJ))) jJ))) (lkp 1))) (lkp 0) ms [none,some (.int n),some M,some S]=some zs):ZI [M,S,.int n]=some (.list zs):=by
 have it:items (.list ms)=some ms:=rfl
 refine jV rfl ?_
 show aey.1 [some M,some S,some (.int n),none]=_
 simp only [aey]
 refine (js (ρ1:=[some M,some S,some (.int n),none]) ?_).trans ?_
 ·dsimp? [c1]
 refine (js (ρ1:=[some M,some S,some (.int n),none]) ?_).trans ?_
 ·dsimp? [c2]
 refine (js (ρ1:=[some M,some S,some (.int n),some (.list ms)]) ?_).trans ?_
 ·dsimp? [am]
 dsimp? [ze,itS,QK,List.map_cons,List.map_nil,it,fw,cp]
theorem adR (H:zS=true) (h:okN u e l b=true) {ps:St1} (hs:okS u l ps=true) {n:Int} (h0:0<=n) (hn:n<=99999):ZI [jp u e l b,jg ps,.int n]=some (.list (zY u e l b ps n)):=by
 obtain ⟨h1,h4,hp⟩:=j1 hs
 have ml:=aam (jp u e l b) (jg ps) ps.length
 refine ahc (acu H h hs).1 (acp h0 hn) (aan H h hs) (ajf (by omega)) ?_
 have cp:=QQ (ft:=tst (op2 dEq (jP afu (jr (lkp 2) (jr (jP qD (jr (lkp 3) (jr (lkp 0) jJ))) jJ))) (lkp 1))) (fe:=lkp 0) (i:=0) (fun d=>decide (nuB b e ps d=n)) id (Q8 (jp u e l b) (jg ps) ps.length) [none,some (.int n),some (jp u e l b),some (jg ps)] (fun d hd=>by
   obtain ⟨⟨qs,t⟩,_⟩:=afO hs (Nat.le_refl _) hd
   obtain ⟨bm,ok⟩:=t.bm _ rfl
   obtain ⟨_,q4,qp⟩:=j1 ok
   have g:=aeB (e:=e) h q4 qp
   have dq:=Zq (val b e qs) n
   rw [ahb t]
   generalize jp u e l b=M at*
   generalize jg ps=T at*
   generalize jg qs=Q at*
   dsimp? [bm,g,dq]) (fun d hd _=>by dsimp? [id])
 rw [List.map_id] at cp
 exact cp
theorem apH {ms:LP} (h:∀ d ∈ ms,shl 2 d):dEq (.list ms) (.list [])=some (.bool (decide (ms=[])))/\dNe (.list ms) (.list [])=some (.bool (!decide (ms=[]))):=by
 have o1:okD (.list ms)=true:=alD (n:=3) (ah3.mpr h) (by omega)
 have o2:okD (.list [])=true:=rfl
 have e:PyData.eqv (.list ms) (.list [])=decide (ms=[]):=by cases ms <;> simp [PyData.eqv,PyData.eqvAll]
 constructor
 ·show (if okD (.list ms)=true/\okD (.list [])=true then some (PyData.bool (PyData.eqv (.list ms) (.list []))) else none)=_
  rw [if_pos ⟨o1,o2⟩,e]
 ·show (if okD (.list ms)=true/\okD (.list [])=true then some (PyData.bool (!PyData.eqv (.list ms) (.list []))) else none)=_
  rw [if_pos ⟨o1,o2⟩,e]
end
theorem aqQ {tt:Rho->Option Bool}{A B:RO}{ρ:Rho} (h:tt ρ=some true):ifS tt A B ρ=A ρ:=by
 show (tt ρ).bind _=_
 rw [h]; rfl
theorem ZL {tt:Rho->Option Bool}{A:RO}{ρ:Rho} (h:tt ρ=some false):ifS tt A (fun ρ=>some (.nx ρ)) ρ=some (.nx ρ):=by
 show (tt ρ).bind _=_
 rw [h]; rfl
theorem qP {i:Nat}{f:RP}{ρ:Rho}{d:PyData} (h:f ρ=some d):zA f (jE i) ρ=some (.nx (ρ.set i (some d))):=by
 show (f ρ).bind _=_
 rw [h]; rfl
theorem jI {g:PyData->PyData->OP}{f1 f2:RP}{ρ:Rho}{x y z:PyData} (h1:f1 ρ=some x) (h2:f2 ρ=some y) (h3:g x y=some z):op2 g f1 f2 ρ=some z:=by
 show (f1 ρ).bind _=_
 rw [h1,zzD,h2,zzD,h3]
theorem aeM {fi:Rho->Option (LP)}{cap:List (Option Nat)}{ga:PyData->Rho->Option Rho}{ft:Rho->Option Bool}{fe:RP}{ρ:Rho}{ds ys:LP} (h1:fi ρ=some ds) (hf:few ds=true) (h2:j0 ga ft fe ds (QK cap ρ)=some ys):ze fi cap ga ft fe ρ=some (.list ys):=by
 show (fi ρ).bind _=_
 rw [h1,zzD,if_pos hf,h2]; rfl
theorem jZ {g:LP->OP}{fs:Rho->Option (LP)}{ρ:Rho}{ds:LP}{d:PyData} (h1:fs ρ=some ds) (h2:g ds=some d):jP g fs ρ=some d:=by
 show (fs ρ).bind _=_
 rw [h1,zzD,h2]
theorem qz {f:RP}{fs:Rho->Option (LP)}{ρ:Rho}{d:PyData}{ds:LP} (h1:f ρ=some d) (h2:fs ρ=some ds):jr f fs ρ=some (d::ds):=by
 unfold jr
 rw [h1,zzD,h2]; rfl
theorem qq {f:RP}{ρ:Rho}{c:Bool} (h:f ρ=some (.bool c)):tst f ρ=some c:=by
 show (f ρ).bind _=_
 rw [h]; rfl
theorem al3 {fi:Rho->Option (LP)}{ga:PyData->Rho->Option Rho}{F:RO}{ρ:Rho}{ds:LP}{o:Option Out} (h1:fi ρ=some ds) (h2:jF ga F ds ρ=o):JX fi ga F ρ=o:=by
 show (fi ρ).bind _=_
 rw [h1,zzD]; exact h2
theorem apI {f:RP}{G:RO}{ρ:Rho}{d:PyData} (h:f ρ=some d):j2 (qO f) G ρ=some (.rt d):=by
 unfold j2 qO
 rw [h]; rfl
theorem zE {fs:Rho->Option (LP)}{ρ:Rho}{ds:LP} (h:fs ρ=some ds) (hf:few ds=true):JG fs ρ=some (.list ds):=by
 unfold JG; rw [h,zzD,if_pos hf]
theorem aij {A B:Rho->Option Bool}{ρ:Rho} (h1:A ρ=some false) (h2:B ρ=some false):orB A B ρ=some false:=by
 unfold orB
 rw [h1,zzD,if_neg (by decide),h2]
theorem aob {A B:Rho->Option Bool}{ρ:Rho} (h1:A ρ=some false):QJ A B ρ=some false:=by
 unfold QJ
 rw [h1,zzD,if_neg (by decide)]
theorem aqR {A B:Rho->Option Bool}{ρ:Rho}{c:Bool} (h1:A ρ=some true) (h2:B ρ=some c):QJ A B ρ=some c:=by
 unfold QJ
 rw [h1,zzD,if_pos rfl,h2]
theorem apJ {A B:Rho->Option Bool}{ρ:Rho}{c d:Bool} (h1:A ρ=some c) (h2:c=true->B ρ=some d):QJ A B ρ=some (c && d):=by
 cases c with
 | false=>exact aob h1
 | true=>exact aqR h1 (h2 rfl)
theorem al4 {A B:RP}{ρ:Rho}{c d:Bool} (h1:A ρ=some (.bool c)) (h2:c=false->B ρ=some (.bool d)):orV A B ρ=some (.bool (c || d)):=by
 unfold orV
 rw [h1]
 cases c with
 | false=>exact h2 rfl
 | true=>rfl
theorem aik {A B:RP}{ρ:Rho}{c d:Bool} (h1:A ρ=some (.bool c)) (h2:c=true->B ρ=some (.bool d)):ab0 A B ρ=some (.bool (c && d)):=by
 unfold ab0
 rw [h1]
 cases c with
 | true=>exact h2 rfl
 | false=>rfl
noncomputable def nar (u e l:Int):Prop:=u=0 ∨ l<=e+3
theorem ajz (w:Int) (h0:0<=w) (h:w<12):∃ u e l b,dIx (.list (aaM++aaN)) (.int w)=some (jp u e l b)/\okM u e l b=true/\(u=0 ∨ l<=e+3):=by
 obtain ⟨n,rfl⟩:=Int.eq_ofNat_of_zero_le h0
 have hn:n<12:=by omega
 have:∀ n<12,∃ u e l b,dIx (.list (aaM++aaN)) (.int (n:Nat))=some (jp u e l b)/\okM u e l b=true/\(u=0 ∨ l<=e+3):=by
  intro n hn
  match n,hn with
  | 0,_=>exact ⟨_,_,_,_,rfl,by decide,by decide⟩
  | 1,_=>exact ⟨_,_,_,_,rfl,by decide,by decide⟩
  | 2,_=>exact ⟨_,_,_,_,rfl,by decide,by decide⟩
  | 3,_=>exact ⟨_,_,_,_,rfl,by decide,by decide⟩
  | 4,_=>exact ⟨_,_,_,_,rfl,by decide,by decide⟩
  | 5,_=>exact ⟨_,_,_,_,rfl,by decide,by decide⟩
  | 6,_=>exact ⟨_,_,_,_,rfl,by decide,by decide⟩
  | 7,_=>exact ⟨_,_,_,_,rfl,by decide,by decide⟩
  | 8,_=>exact ⟨_,_,_,_,rfl,by decide,by decide⟩
  | 9,_=>exact ⟨_,_,_,_,rfl,by decide,by decide⟩
  | 10,_=>exact ⟨_,_,_,_,rfl,by decide,by decide⟩
  | 11,_=>exact ⟨_,_,_,_,rfl,by decide,by decide⟩
  | k+12,h=>omega
 exact this n hn
theorem af1 (ns:List Int) (hn:ns.length<1000000) (k:Int) (hk:0<=k):∃ u e l b,Zl [scr ns,.int k]=some (jp u e l b)/\okM u e l b=true/\nar u e l:=by
 obtain ⟨w,hw,hw0,hw1⟩:=qB ns hn k 24 hk (by omega)
 have a1:Qb (.list aaM) (.list aaN)=some (.list (aaM++aaN)):=rfl
 have a2:zV [.list (aaM++aaN)]=some (.int 12):=rfl
 have a3:QL (.int 2) (.int 12)=some (.int 24):=rfl
 by_cases hlt:w<12
 ·obtain ⟨u,e,l,b,h1,h2⟩:=ajz w hw0 hlt
  refine ⟨u,e,l,b,?_,h2⟩
  simp [Zl,jB,abp,j4,j2,zA,jE,op2,lkp,jJ,qO,cst,qG,jP,jr,ifS,tst,asB,a1,a2,a3,hw,Js,hlt,h1]
 ·obtain ⟨r1,e1,p1,q1⟩:=qB ns hn (k+1) 5 (by omega) (by omega)
  obtain ⟨r2,e2,p2,q2⟩:=qB ns hn (k+2) 4 (by omega) (by omega)
  obtain ⟨r3,e3,p3,q3⟩:=qB ns hn (k+3) 4 (by omega) (by omega)
  generalize hlo:(if (1:Int) > 1+r1 - 1 then 1 else 1+r1 - 1)+r3=lo
  have hlo1:1<=lo/\r1<=lo/\lo<=10/\lo<=1+r1+3:=by
   rw [←hlo]; split <;> omega
  have hue:0<=r2*(1+r1)/\r2*(1+r1)<=3*5:=⟨Int.mul_nonneg p2 (by omega),Int.mul_le_mul (by omega) (by omega) (by omega) (by omega)⟩
  generalize hmn:(if r2*(1+r1)+lo<15 then r2*(1+r1)+lo else 15)=mn
  have hmn1:0<mn/\mn<=15/\mn<=r2*(1+r1)+lo:=by
   rw [←hmn]; split <;> omega
  obtain ⟨r4,e4,p4,q4⟩:=qB ns hn (k+4) mn (by omega) (by omega)
  refine ⟨r2,1+r1,lo,2+r4,?_,?_⟩
  ·have m1:QL (.int r2) (.int (1+r1))=some (.int (r2*(1+r1))):=qu (by omega)
   have x1:ZR [.int (1+r1 - 1),.int 1]=some (.int (if (1:Int) > 1+r1 - 1 then 1 else 1+r1 - 1)):=rfl
   have x2:akh [.int 15,.int (r2*(1+r1)+lo)]=some (.int (if r2*(1+r1)+lo<15 then r2*(1+r1)+lo else 15)):=rfl
   have x3:aaA (.int (1+r1)) (.int 1)=some (.int (1+r1 - 1)):=rfl
   simp only [Zl,jB,abp,j4,j2,zA,jE,op2,lkp,jJ,qO,cst,qG,jP,jr,ifS,tst,asB,a1,a2,a3,hw,Js,hlt,zzD,zzE,zzF,zzG,List.replicate,List.length_cons,List.length_nil,zzM,List.map_cons,List.map_nil,List.cons_append,List.nil_append,zzA,zzB,zzC,add_int,e1,e2,e3,m1,x1,x2,x3,decide_false,hlo,hmn,e4]
   simp [e1,e2,e3,m1,x1,x2,x3,hlo,hmn,e4,add_int,lkp,Qj,jr,jJ,few,jp]
   simp only [Qj,jr,jJ,lkp,op2,jP,cst,zzD,zzE,zzA,zzB,zzC,add_int,m1,x2,hmn,e4]
   simp
  ·have:=hue.1
   refine ⟨?_,.inr hlo1.2.2.2⟩
   simp [okM]
   omega
noncomputable def aqS:Bool:=(List.range 4).all fun u=>(List.range 6).all fun e=>e == 0 || (List.range 9).all fun l=>decide (e+3<l) || ((List.range 27).all fun k=>decide (cnt (u:Int) (e:Int) (l:Int) (k:Int)<=((min (u+1) (l / e+1):Nat):Int)))
theorem ajA:aqS=true:=by decide +kernel
noncomputable def aqT:Bool:=(List.range 4).all fun u=>(List.range 6).all fun e=>e == 0 || (List.range 9).all fun l=>decide (e+3<l) || (List.range 17).all fun b=>decide (b<2) || (List.range b).all fun c=>decide (min (u+1) (l / e+1)*((jD (u:Int) (l:Int)).filter fun x=>decide (((c:Int) - jl (e:Int) x) % (b:Int)=0)).length<64)
theorem ajB:aqT=true:=by decide +kernel
section
variable {u e l b:Int}
theorem ahd (h:okN u e l b=true) (hd:l<=e+3) (m:Int):CN u e l b 1 m<=((min (u.toNat+1) (l.toNat / e.toNat+1):Nat):Int):=by
 obtain ⟨a1,a2,a3,a4,a5,a6,a7,a8,a9,a10⟩:=jO h
 have bm:=afL h
 have s1:CN u e l b 1 m<=cnt u e l m:=by
  show ((jD u l).map fun x=>if (m - jl e x) % b=0/\0<=m - jl e x then (if (m - jl e x) / b=0 then (1:Int) else 0) else 0).sum<=_
  have q:=aao 1 (fun x=>jl e x == m) (jD u l)
  rw [Int.one_mul] at q
  refine Int.le_trans (acy _ (fun x=>if (jl e x == m)=true then (1:Int) else 0) (jD u l) fun x _=>?_) (Int.le_of_eq q)
  by_cases c:(m - jl e x) % b=0/\0<=m - jl e x
  ·rw [if_pos c]
   by_cases d:(m - jl e x) / b=0
   ·have:=Int.mul_ediv_add_emod (m - jl e x) b
    rw [d,c.1] at this
    have e1:jl e x=m:=by omega
    rw [if_pos d,if_pos (by simpa using e1)]
    exact Int.le_refl _
   ·rw [if_neg d]; split <;> omega
  ·rw [if_neg c]; split <;> omega
 by_cases hm:0<=m/\m<=26
 ·have k:=ajA
  unfold aqS at k
  have k1:=List.all_eq_true.mp (List.all_eq_true.mp k u.toNat (List.mem_range.mpr (by omega))) e.toNat (List.mem_range.mpr (by omega))
  rw [Bool.or_eq_true] at k1
  rcases k1 with z | z
  ·have:e.toNat=0:=by simpa using z
   omega
  ·have k2:=List.all_eq_true.mp z l.toNat (List.mem_range.mpr (by omega))
   rw [Bool.or_eq_true] at k2
   rcases k2 with z | z
   ·have:=of_decide_eq_true z
    omega
   ·have k3:=of_decide_eq_true (List.all_eq_true.mp z m.toNat (List.mem_range.mpr (by omega)))
    rw [show ((u.toNat:Nat):Int)=u by omega,show ((e.toNat:Nat):Int)=e by omega,show ((l.toNat:Nat):Int)=l by omega,show ((m.toNat:Nat):Int)=m by omega] at k3
    exact Int.le_trans s1 k3
 ·have:cnt u e l m=0:=by
   unfold cnt
   rw [List.filter_eq_nil_iff.mpr fun x hx=>by
    have:=aaU h hx
    simp
    omega]
   rfl
  exact Int.le_trans s1 (by rw [this]; exact Int.natCast_nonneg _)
theorem ahe (h:okN u e l b=true) (hd:l<=e+3) (n:Int):CN u e l b 2 n<64:=by
 obtain ⟨a1,a2,a3,a4,a5,a6,a7,a8,a9,a10⟩:=jO h
 generalize hcap:(min (u.toNat+1) (l.toNat / e.toNat+1):Nat)=cap
 have one:∀ m,CN u e l b 1 m<=(cap:Int):=fun m=>by rw [←hcap]; exact ahd h hd m
 have s1:CN u e l b 2 n<=(cap:Int)*(((jD u l).filter fun x=>decide ((n - jl e x) % b=0)).length:Int):=by
  show ((jD u l).map fun x=>if (n - jl e x) % b=0/\0<=n - jl e x then CN u e l b 1 ((n - jl e x) / b) else 0).sum<=_
  rw [←aao (cap:Int) (fun x=>decide ((n - jl e x) % b=0)) (jD u l)]
  refine acy _ _ (jD u l) fun x _=>?_
  by_cases c:(n - jl e x) % b=0
  ·rw [if_pos (decide_eq_true c)]
   by_cases d:0<=n - jl e x
   ·rw [if_pos ⟨c,d⟩]; exact one _
   ·rw [if_neg fun z=>d z.2]; omega
  ·rw [if_neg fun z=>c z.1,if_neg (by simpa using c)]
   exact Int.le_refl _
 have c0:0<=n % b:=Int.emod_nonneg _ (by omega)
 have c1:n % b<b:=Int.emod_lt_of_pos _ (by omega)
 have k:=ajB
 unfold aqT at k
 have k1:=List.all_eq_true.mp (List.all_eq_true.mp k u.toNat (List.mem_range.mpr (by omega))) e.toNat (List.mem_range.mpr (by omega))
 rw [Bool.or_eq_true] at k1
 rcases k1 with z | z
 ·have:e.toNat=0:=by simpa using z
  omega
 ·have k2:=List.all_eq_true.mp z l.toNat (List.mem_range.mpr (by omega))
  rw [Bool.or_eq_true] at k2
  rcases k2 with z | z
  ·have:=of_decide_eq_true z
   omega
  ·have k3:=List.all_eq_true.mp z b.toNat (List.mem_range.mpr (by omega))
   rw [Bool.or_eq_true] at k3
   rcases k3 with z | z
   ·have:=of_decide_eq_true z
    omega
   ·have k4:=of_decide_eq_true (List.all_eq_true.mp z (n % b).toNat (List.mem_range.mpr (by omega)))
    rw [hcap,show ((u.toNat:Nat):Int)=u by omega,show ((e.toNat:Nat):Int)=e by omega,show ((l.toNat:Nat):Int)=l by omega,show ((b.toNat:Nat):Int)=b by omega,show (((n % b).toNat:Nat):Int)=n % b by omega] at k4
    have ef:((jD u l).filter fun x=>decide ((n % b - jl e x) % b=0))=((jD u l).filter fun x=>decide ((n - jl e x) % b=0)):=by
     congr 1
     funext x
     rw [Int.sub_emod (n % b),Int.emod_emod,←Int.sub_emod]
    rw [ef] at k4
    have k5:((cap*((jD u l).filter fun x=>decide ((n - jl e x) % b=0)).length:Nat):Int)<64:=by exact_mod_cast k4
    rw [Int.natCast_mul] at k5
    omega
theorem aoc (h:okN u e l b=true) (hd:nar u e l) {r:Nat} (h1:1<=r) (h2:r<=2) (n:Int):CN u e l b r n<64:=by
 obtain ⟨a1,a2,a3,a4,a5,a6,a7,a8,a9,a10⟩:=jO h
 rcases (show r=1 ∨ r=2 by omega) with rfl | rfl
 ·have:=adO h n
  omega
 ·rcases hd with z | z
  ·refine ajq h ?_ n
   subst z
   omega
  ·exact ahe h z n
end
theorem acE {f:RP}{ρ:Rho}{d:PyData}{c:Bool} (h:f ρ=some d) (hc:acP d=c):op2 akD f (cst .none) ρ=some (.bool c):=jI h rfl (by show some (PyData.bool (acP d))=_; rw [hc])
theorem ail {f:RP}{ρ:Rho}{d:PyData}{c:Bool} (h:f ρ=some d) (hc:acP d=c):op2 akE f (cst .none) ρ=some (.bool (!c)):=jI h rfl (by show some (PyData.bool (!acP d))=_; rw [hc])
theorem af2 (c:Bool):dNe (.bool c) (.bool c)=some (.bool false):=by cases c <;> rfl
section
variable {S M T:PyData}{v k n w e mx r:Int}{x5 x6 x7 x8 x9 x10 x11:OP}
theorem al5 (d20:JA [S,.int (20+k),.int 60]=some (.int w)) (i1:dIx M (.int 1)=some (.int e)) (hm:ZR [.int 0,.int (v - e)]=some (.int mx)) (ix:dIx (.list [.int w,.int (v+1),.int mx]) (.int k)=some (.int n)):
  op2 dIx (JG (jr (jP JA (jr (lkp 0) (jr (op2 Qb (cst (.int 20)) (lkp 4)) (jr (cst (.int 60)) jJ)))) (jr (op2 Qb (lkp 3) (cst (.int 1))) (jr (jP ZR (jr (cst (.int 0)) (jr (op2 aaA (lkp 3) (op2 dIx (lkp 1) (cst (.int 1)))) jJ))) jJ)))) (lkp 4) [some S,some M,some T,some (.int v),some (.int k),x5,x6,x7,x8,x9,x10,x11]=some (.int n):=
 jI (zE (qz (jZ rfl d20) (qz (jI rfl rfl rfl) (qz (jZ (qz rfl (qz (jI rfl (jI rfl rfl i1) rfl) rfl)) hm) rfl))) fw3) rfl ix
theorem anO (d20:JA [S,.int (20+k),.int 60]=some (.int w)) (i1:dIx M (.int 1)=some (.int e)) (hm:ZR [.int 0,.int (v - e)]=some (.int mx)) (ix:dIx (.list [.int w,.int (v+1),.int mx]) (.int k)=some (.int n)) (ln:zV [T]=some (.int r))
  (as:qW [M,.int r,.int n]=some (.list [])) (ne:zg [M,T,.int n]=some .none) (fm:qx [M,T,.int n]=some .none) (sl:ZI [M,T,.int n]=some (.list [])):
  acm.1 [some S,some M,some T,some (.int v),some (.int k),x5,x6,x7,x8,x9,x10,x11]=some (.nx [some S,some M,some T,some (.int v),some (.int k),some (.int n),some (.list []),some .none,some .none,x9,x10,some (.list [])]):=by
 simp only [acm]
 refine (js (ρ1:=[some S,some M,some T,some (.int v),some (.int k),some (.int n),x6,x7,x8,x9,x10,x11]) (qP (i:=5) (al5 d20 i1 hm ix))).trans ?_
 refine (js (ρ1:=[some S,some M,some T,some (.int v),some (.int k),some (.int n),some (.list []),x7,x8,x9,x10,x11]) (qP (i:=6) (jZ (qz rfl (qz (jZ rfl ln) rfl)) as))).trans ?_
 refine (js (ρ1:=[some S,some M,some T,some (.int v),some (.int k),some (.int n),some (.list []),some .none,x8,x9,x10,x11]) (qP (i:=7) (jZ rfl ne))).trans ?_
 refine (js (ρ1:=[some S,some M,some T,some (.int v),some (.int k),some (.int n),some (.list []),some .none,some .none,x9,x10,x11]) (qP (i:=8) (jZ rfl fm))).trans ?_
 refine (js (ρ1:=[some S,some M,some T,some (.int v),some (.int k),some (.int n),some (.list []),some .none,some .none,x9,x10,x11]) (ZL (aij (qq (jI (acE rfl rfl) (jI rfl (zE rfl qf) rfl) (af2 true))) (qq (jI (acE rfl rfl) (jI rfl (zE rfl qf) rfl) (af2 true)))))).trans ?_
 refine (js (ρ1:=[some S,some M,some T,some (.int v),some (.int k),some (.int n),some (.list []),some .none,some .none,x9,x10,x11]) (ZL (qq (ail (c:=true) rfl rfl)))).trans ?_
 refine (js (ρ1:=[some S,some M,some T,some (.int v),some (.int k),some (.int n),some (.list []),some .none,some .none,x9,x10,some (.list [])]) (qP (i:=11) (jZ rfl sl))).trans ?_
 refine (js (ρ1:=[some S,some M,some T,some (.int v),some (.int k),some (.int n),some (.list []),some .none,some .none,x9,x10,some (.list [])]) (ZL (qq (jI (x:= .bool false) (y:= .bool (false || (decide (n=v) && false))) (jI rfl (zE rfl qf) rfl) (al4 (jI rfl rfl rfl) fun _=>aik (jI rfl rfl (Zq n v)) fun _=>jI rfl (zE rfl qf) rfl) (by rw [Bool.and_false]; rfl))))).trans ?_
 refine (js (ρ1:=[some S,some M,some T,some (.int v),some (.int k),some (.int n),some (.list []),some .none,some .none,x9,x10,some (.list [])]) (ZL (qq (jI (aeM (fi:=itS (lkp 11)) (ds:=[]) rfl qf rfl) (zE rfl qf) rfl)))).trans ?_
 exact (js (ZL (aob (qq (jI rfl rfl rfl))))).trans rfl
theorem al6 {SO B:PyData}{f:Int}{ss ds ml ms m4 os:LP}{c:Bool}{y10:OP} (d20:JA [S,.int (20+k),.int 60]=some (.int w)) (i1:dIx M (.int 1)=some (.int e)) (hm:ZR [.int 0,.int (v - e)]=some (.int mx)) (ix:dIx (.list [.int w,.int (v+1),.int mx]) (.int k)=some (.int n)) (ln:zV [T]=some (.int r))
  (as:qW [M,.int r,.int n]=some SO) (sne:dEq SO (.list [])=some (.bool false)) (gn:zg [M,T,.int n]=some B) (bn:acP B=false) (fm:qx [M,T,.int n]=some (.int f)) (bin:dIn true B SO=some (.bool false)) (ap:JZ [T,B]=some (.int f)) (it:items SO=some ss) (fw:few ss=true)
  (cp:j0 (jE 0) abQ (jP JZ (jr (lkp 1) (jr (lkp 0) jJ))) ss [none,some T]=some ds) (mn:ae9 (fun i j=>decide (i<j)) [.list ds]=some (.int f)) (mt:Q4 [M,T,B]=some (.list ml)) (lm:zV [.list ml]=some (.int f)) (rn:ala [M,T,.list ml]=some B) (nb:dNe B B=some (.bool false))
  (am:qK [M,T]=some (.list ms)) (sl4:akL (.list ms) none (some 4)=some (.list m4)) (lp:jF (jE 10) afB.1 m4 [some S,some M,some T,some (.int v),some (.int k),some (.int n),some SO,some B,some (.int f),some (.list ml),x10,x11]=some (.nx [some S,some M,some T,some (.int v),some (.int k),some (.int n),some SO,some B,some (.int f),some (.list ml),y10,x11]))
  (sl:ZI [M,T,.int n]=some (.list os)) (on:dNe (.list os) (.list [])=some (.bool c)) (oe:dEq (.list os) (.list [])=some (.bool !c)) (c1:(decide (f=1) || (decide (n=v) && c))=c)
  (fo:few os=true) (c2:j0 (jE 0) (tst (op2 dNe (jP ZE (jr (lkp 2) (jr (jP JC (jr (lkp 2) (jr (lkp 3) (jr (lkp 0) jJ)))) jJ))) (lkp 1))) (lkp 0) os [none,some (.int n),some M,some T]=some []) (c3:(decide (f=1) && !c)=false):
  acm.1 [some S,some M,some T,some (.int v),some (.int k),x5,x6,x7,x8,x9,x10,x11]=some (.nx [some S,some M,some T,some (.int v),some (.int k),some (.int n),some SO,some B,some (.int f),some (.list ml),y10,some (.list os)]):=by
 have ff:dNe (.int f) (.int f)=some (.bool false):=by rw [ag1]; simp
 simp only [acm]
 refine (js (ρ1:=[some S,some M,some T,some (.int v),some (.int k),some (.int n),x6,x7,x8,x9,x10,x11]) (qP (i:=5) (al5 d20 i1 hm ix))).trans ?_
 refine (js (ρ1:=[some S,some M,some T,some (.int v),some (.int k),some (.int n),some SO,x7,x8,x9,x10,x11]) (qP (i:=6) (jZ (qz rfl (qz (jZ rfl ln) rfl)) as))).trans ?_
 refine (js (ρ1:=[some S,some M,some T,some (.int v),some (.int k),some (.int n),some SO,some B,x8,x9,x10,x11]) (qP (i:=7) (jZ rfl gn))).trans ?_
 refine (js (ρ1:=[some S,some M,some T,some (.int v),some (.int k),some (.int n),some SO,some B,some (.int f),x9,x10,x11]) (qP (i:=8) (jZ rfl fm))).trans ?_
 refine (js (ρ1:=[some S,some M,some T,some (.int v),some (.int k),some (.int n),some SO,some B,some (.int f),x9,x10,x11]) (ZL (aij (qq (jI (acE rfl bn) (jI rfl (zE rfl qf) sne) (af2 false))) (qq (jI (acE rfl rfl) (jI rfl (zE rfl qf) sne) (af2 false)))))).trans ?_
 refine (js (ρ1:=[some S,some M,some T,some (.int v),some (.int k),some (.int n),some SO,some B,some (.int f),some (.list ml),y10,x11]) ((aqQ (qq (ail rfl bn))).trans ?_)).trans ?_
 ·refine (js (ρ1:=[some S,some M,some T,some (.int v),some (.int k),some (.int n),some SO,some B,some (.int f),x9,x10,x11]) (ZL (aij (qq (jI rfl rfl bin)) (qq (jI rfl (jZ rfl ap) ff))))).trans ?_
  refine (js (ρ1:=[some S,some M,some T,some (.int v),some (.int k),some (.int n),some SO,some B,some (.int f),x9,x10,x11]) (ZL (qq (jI rfl (jZ (qz (aeM (fi:=itS (lkp 6)) (cap:=[none,some 2]) (ds:=ss) it fw cp) rfl) mn) ff)))).trans ?_
  refine (js (ρ1:=[some S,some M,some T,some (.int v),some (.int k),some (.int n),some SO,some B,some (.int f),some (.list ml),x10,x11]) (qP (i:=9) (jZ rfl mt))).trans ?_
  refine (js (ρ1:=[some S,some M,some T,some (.int v),some (.int k),some (.int n),some SO,some B,some (.int f),some (.list ml),x10,x11]) (ZL (aij (qq (jI (jZ rfl lm) rfl ff)) (qq (jI (jZ rfl rn) rfl nb))))).trans ?_
  have it4:itS (Z3 (jP qK (jr (lkp 1) (jr (lkp 2) jJ))) (cst (.int 4))) [some S,some M,some T,some (.int v),some (.int k),some (.int n),some SO,some B,some (.int f),some (.list ml),x10,x11]=some m4:=by
   have e1:Z3 (jP qK (jr (lkp 1) (jr (lkp 2) jJ))) (cst (.int 4)) [some S,some M,some T,some (.int v),some (.int k),some (.int n),some SO,some B,some (.int f),some (.list ml),x10,x11]=some (.list m4):=by
    unfold Z3
    rw [jZ (ds:=[M,T]) rfl am]
    exact sl4
   show (Z3 (jP qK (jr (lkp 1) (jr (lkp 2) jJ))) (cst (.int 4)) _).bind items=_
   rw [e1]; rfl
  exact (js (al3 it4 lp)).trans rfl
 refine (js (ρ1:=[some S,some M,some T,some (.int v),some (.int k),some (.int n),some SO,some B,some (.int f),some (.list ml),y10,some (.list os)]) (qP (i:=11) (jZ rfl sl))).trans ?_
 refine (js (ρ1:=[some S,some M,some T,some (.int v),some (.int k),some (.int n),some SO,some B,some (.int f),some (.list ml),y10,some (.list os)]) (ZL (qq (jI (x:= .bool c) (y:= .bool (decide (f=1) || (decide (n=v) && c))) (jI rfl (zE rfl qf) on) (al4 (jI rfl rfl (Zq f 1)) fun _=>aik (jI rfl rfl (Zq n v)) fun _=>jI rfl (zE rfl qf) on) (by rw [c1]; exact af2 c))))).trans ?_
 refine (js (ρ1:=[some S,some M,some T,some (.int v),some (.int k),some (.int n),some SO,some B,some (.int f),some (.list ml),y10,some (.list os)]) (ZL (qq (jI (aeM (fi:=itS (lkp 11)) (cap:=[none,some 5,some 1,some 2]) (ds:=os) rfl fo c2) (zE rfl qf) rfl)))).trans ?_
 refine (js (ZL ?_)).trans rfl
 rw [←c3]
 exact apJ (qq (jI rfl rfl (Zq f 1))) fun _=>qq (jI rfl (zE rfl qf) oe)
theorem aqU {SO B ML D T2:PyData}{f g:Int} (mv:JC [M,T,D]=some T2) (fm:qx [M,T2,.int n]=some (.int g)) (hg:f - 1<=g):
  afB.1 [some S,some M,some T,some (.int v),some (.int k),some (.int n),some SO,some B,some (.int f),some ML,some D,x11]=some (.nx [some S,some M,some T,some (.int v),some (.int k),some (.int n),some SO,some B,some (.int f),some ML,some D,x11]):=by
 simp only [afB]
 refine (js (ZL (qq (jI (jZ (qz rfl (qz (jZ rfl mv) rfl)) fm) (jI rfl rfl rfl) ?_)))).trans rfl
 show some (PyData.bool (decide (g<f - 1)))=_
 rw [decide_eq_false (by omega)]
theorem al7 {x4 x5 x6 x7 x8 x9 x10 x11:OP} (mn:Zl [S,.int 0]=some M) (st:ani [S,.int 10,M,.int 2]=some T) (gv:ZE [M,T]=some (.int v)) (fm:qx [M,T,.int v]=some (.int 0)) (gn:zg [M,T,.int v]=some T) (nt:dNe T T=some (.bool false))
  (lp:jF (jE 4) acm.1 [.int 0,.int 1,.int 2] [some S,some M,some T,some (.int v),none,none,none,none,none,none,none,none]=some (.nx [some S,some M,some T,some (.int v),x4,x5,x6,x7,x8,x9,x10,x11])) (sl:ZI [M,T,.int v]=some (.list [])):alg [S]=some (.bool true):=by
 refine jV rfl ?_
 show anl.1 [some S,none,none,none,none,none,none,none,none,none,none,none]=_
 simp only [anl]
 refine (js (ρ1:=[some S,some M,none,none,none,none,none,none,none,none,none,none]) (qP (i:=1) (jZ rfl mn))).trans ?_
 refine (js (ρ1:=[some S,some M,some T,none,none,none,none,none,none,none,none,none]) (qP (i:=2) (jZ rfl st))).trans ?_
 refine (js (ρ1:=[some S,some M,some T,some (.int v),none,none,none,none,none,none,none,none]) (qP (i:=3) (jZ rfl gv))).trans ?_
 refine (js (ρ1:=[some S,some M,some T,some (.int v),none,none,none,none,none,none,none,none]) (ZL (qq (jI (jZ rfl fm) rfl rfl)))).trans ?_
 refine (js (ρ1:=[some S,some M,some T,some (.int v),none,none,none,none,none,none,none,none]) (ZL (qq (jI (jZ rfl gn) rfl nt)))).trans ?_
 refine (js (al3 (ds:=[.int 0,.int 1,.int 2]) rfl lp)).trans ?_
 exact apI (jI (jZ rfl sl) (zE rfl qf) rfl)
end
theorem ahf {M S N:PyData} (g:zg [M,S,N]=some .none):qx [M,S,N]=some .none:=by
 refine jV rfl ?_
 show qU.1 [some M,some S,some N,none]=_
 simp only [qU]
 refine (js (ρ1:=[some M,some S,some N,some .none]) (qP (i:=3) (jZ rfl g))).trans ?_
 have t:tst (op2 akD (lkp 3) (cst .none)) [some M,some S,some N,some .none]=some true:=qq (acE rfl rfl)
 unfold j2
 rw [aqQ t]; rfl
theorem aim (ps:List (Int × Int)) (h4:ps.length<=4):∀ (L:SL) (x:OP),j0 (jE 0) abQ (jP JZ (jr (lkp 1) (jr (lkp 0) jJ))) (L.map jg) [x,some (jg ps)]=some ((L.map (far ps)).map .int)
 | [],_=>rfl
 | t::L,x=>by
  have ih:=aim ps h4 L (some (jg t))
  have f1:jP JZ (jr (lkp 1) (jr (lkp 0) jJ)) [some (jg t),some (jg ps)]=some (.int (far ps t)):=jZ rfl (Jn ps t h4)
  show j0 _ _ _ (jg t::L.map jg) _=_
  rw [j0]
  simp only [jE,zzG,zzD,abQ,zzM,f1,ih,zzE]
  rfl
theorem aqV {t:List (Int × Int)}{L:SL} (h:t ∈ L):dIn true (jg t) (eS L)=some (.bool false):=by
 have o1:okD (jg t)=true:=acr t
 have o2:okD (.list (L.map jg))=true:=ag7 L
 have ha:((L.map jg).any fun z=>PyData.eqv z (jg t))=true:=List.any_eq_true.mpr ⟨jg t,List.mem_map.mpr ⟨t,h,rfl⟩,by rw [acq]; simp⟩
 show (if okD (jg t)=true/\okD (.list (L.map jg))=true then some (PyData.bool (if true=true then !((L.map jg).any fun z=>PyData.eqv z (jg t)) else (L.map jg).any fun z=>PyData.eqv z (jg t))) else none)=_
 rw [if_pos ⟨o1,o2⟩,ha]; rfl
section
variable {u e l b:Int}
theorem aeN (H:zS=true) (h:okN u e l b=true) {ps:St1} (hs:okS u l ps=true) {d:PyData} (hd:d ∈ Q8 (jp u e l b) (jg ps) ps.length):∃ r k c p,ps[r]?=some p/\(c=1 ∨ c=-1)/\okS u l (ps.set r (shP p k c))=true/\JC [jp u e l b,jg ps,d]=some (jg (ps.set r (shP p k c)))/\nuB b e ps d=val b e (ps.set r (shP p k c)):=by
 obtain ⟨r,k,c,p,p1,p2,ho,rfl⟩:=(adP hs).mp hd
 have th:=aal (e:=e) (b:=b) hs p1 k p2
 rw [if_pos ho] at th
 exact ⟨r,k,c,p,p1,p2,(th.bm _ rfl).2,afN H h hs th,ahb th⟩
theorem apK {p:Int × Int}{k:Bool}{c:Int}:wt e (shP p k c) - wt e p=c*(if k=false then e else 1):=by
 unfold wt shP
 cases k with
 | true=>simp; omega
 | false=>simp [Int.add_mul]; omega
theorem ajC (H:zS=true) (h:okN u e l b=true) {ps:St1} (hs:okS u l ps=true):zY u e l b ps (val b e ps)=[]:=by
 obtain ⟨a1,a2,a3,a4,a5,a6,a7,a8,a9,a10⟩:=jO h
 refine List.eq_nil_iff_forall_not_mem.mpr fun d hd=>?_
 obtain ⟨m1,m2⟩:=List.mem_filter.mp hd
 obtain ⟨r,k,c,p,p1,p2,ho,mv,nu⟩:=aeN H h hs m1
 have m2:=of_decide_eq_true m2
 rw [nu,aie b e ps r p _ p1,apK] at m2
 have hp:=aaS (b:=b) (by omega) (ps.length - 1 - r)
 have hc:c*(if k=false then e else 1) ≠ 0:=by
  rcases p2 with rfl | rfl <;> cases k <;> simp <;> omega
 have:c*(if k=false then e else 1)*b ^ (ps.length - 1 - r) ≠ 0:=Int.mul_ne_zero hc (by omega)
 omega
theorem turn (H:zS=true) (h:okN u e l b=true) (hn:nar u e l) {ps:St1} (hs:okS u l ps=true) (h2:ps.length<=2) {S:PyData}{k n w mx:Int} (d20:JA [S,.int (20+k),.int 60]=some (.int w)) (hm:ZR [.int 0,.int (val b e ps - e)]=some (.int mx)) (ix:dIx (.list [.int w,.int (val b e ps+1),.int mx]) (.int k)=some (.int n)) (n0:0<=n) (n9:n<=99999) {x5 x6 x7 x8 x9 x10 x11:OP}:
  ∃ y5 y6 y7 y8 y9 y10 y11,acm.1 [some S,some (jp u e l b),some (jg ps),some (.int (val b e ps)),some (.int k),x5,x6,x7,x8,x9,x10,x11]=some (.nx [some S,some (jp u e l b),some (jg ps),some (.int (val b e ps)),some (.int k),y5,y6,y7,y8,y9,y10,y11]):=by
 obtain ⟨h1,h4,hp⟩:=j1 hs
 obtain ⟨L,as,mem,len,_,_⟩:=ag5 H h (r:=ps.length) h1 (by omega) n0 n9 (aoc h hn h1 h2 n)
 obtain ⟨d,gn,near⟩:=Za H h hs (by omega) n0 n9
 have sl:=adR H h hs n0 n9
 have msl:∀ d ∈ zY u e l b ps n,shl 2 d:=fun d hd=>(afO hs (Nat.le_refl _) (List.mem_filter.mp hd).1).2.2
 have hd1:∀ d ∈ zY u e l b ps n,∃ q,okS u l q=true/\q.length=ps.length/\far ps q=1/\val b e q=n/\JC [jp u e l b,jg ps,d]=some (jg q):=fun d hd=>by
  obtain ⟨m1,m2⟩:=List.mem_filter.mp hd
  obtain ⟨r,k,c,p,p1,p2,ho,mv,nu⟩:=aeN H h hs m1
  refine ⟨_,ho,by rw [List.length_set],by rw [aeJ ps r p _ p1,al1 p k p2],?_,mv⟩
  rw [←nu]; exact of_decide_eq_true m2
 cases d with
 | none=>
  have no:∀ t:St1,¬ (t.length=ps.length/\t.all (okP u l)=true/\val b e t=n):=fun t ht=>by
   obtain ⟨t',z,_⟩:=near.2 t ht
   cases z
  have hL:L=[]:=List.eq_nil_iff_forall_not_mem.mpr fun t ht=>no t ((mem t).mp ht)
  have hsl:zY u e l b ps n=[]:=List.eq_nil_iff_forall_not_mem.mpr fun d hd=>by
   obtain ⟨q,q1,q2,q3,q4,_⟩:=hd1 d hd
   exact no q ⟨q2,(j1 q1).2.2,q4⟩
  subst hL
  rw [hsl] at sl
  exact ⟨_,_,_,_,_,_,_,anO d20 (ix1 u e l b) hm ix (JF ps) as gn (ahf gn) sl⟩
 | some t=>
  obtain ⟨tl,tp,tv⟩:=near.1 t rfl
  have ht:okS u l t=true:=agW (by omega) (by omega) tp
  have htL:t ∈ L:=(mem t).mpr ⟨tl,tp,tv⟩
  have hne:L ≠ []:=fun z=>by rw [z] at htL; cases htL
  have ap:=Jn ps t h4
  have fm:=ZK gn rfl ap
  have hLl:L.length<64:=by have:=aoc h hn h1 h2 n; omega
  have mn:=alS (ns:=L.map (far ps)) (v:=far ps t) (List.mem_map.mpr ⟨t,htL,rfl⟩) (fun x hx=>by
   obtain ⟨q,hq,rfl⟩:=List.mem_map.mp hx
   obtain ⟨t',e1,le⟩:=near.2 q ((mem q).mp hq)
   cases e1
   exact le)
  have mt:=afT H h hs ht tl.symm
  have rn:=anv H h hs (anK (e:=e) (b:=b) hs ht tl.symm)
  have lm:zV [.list (mvL 0 ps t)]=some (.int (far ps t)):=by rw [alK,aic]
  obtain ⟨oe,on⟩:=apH msl
  have sl4:akL (.list (Q8 (jp u e l b) (jg ps) ps.length)) none (some 4)=some (.list ((Q8 (jp u e l b) (jg ps) ps.length).take 4)):=by
   show some (PyData.list (Z0 _ none (some ((4:Nat):Int))))=_
   rw [an5]
  obtain ⟨ρ',lp,y10,e'⟩:=Qg (ga:=jE 10) (F:=afB.1) (fun _ ρ=>∃ y10,ρ=[some S,some (jp u e l b),some (jg ps),some (.int (val b e ps)),some (.int k),some (.int n),some (eS L),some (jg t),some (.int (far ps t)),some (.list (mvL 0 ps t)),y10,x11]) ((Q8 (jp u e l b) (jg ps) ps.length).take 4) 0
   [some S,some (jp u e l b),some (jg ps),some (.int (val b e ps)),some (.int k),some (.int n),some (eS L),some (jg t),some (.int (far ps t)),some (.list (mvL 0 ps t)),x10,x11] ⟨x10,rfl⟩ (fun j d ρ hd hi=>by
    obtain ⟨y10,rfl⟩:=hi
    obtain ⟨r,k',c,p,p1,p2,ho,mv,nu⟩:=aeN H h hs (List.mem_of_mem_take (List.mem_of_getElem? hd))
    have ql:(ps.set r (shP p k' c)).length=ps.length:=List.length_set
    obtain ⟨d',gn',near'⟩:=Za H h ho (by omega) n0 n9
    obtain ⟨t',e1,le⟩:=near'.2 t ⟨by omega,tp,tv⟩
    subst e1
    obtain ⟨tl',tp',tv'⟩:=near'.1 t' rfl
    obtain ⟨t2,e2,le2⟩:=near.2 t' ⟨by omega,tp',tv'⟩
    cases e2
    have tri:=ah9 ps t' (ps.set r (shP p k' c)) ql.symm tl'
    rw [aeJ ps r p _ p1,al1 p k' p2] at tri
    exact ⟨_,_,rfl,aqU mv (ZK gn' rfl (Jn _ t' (by omega))) (by omega),_,rfl⟩)
  subst e'
  have fo:few (zY u e l b ps n)=true:=ajf (by
   have:=aam (jp u e l b) (jg ps) ps.length
   have:=List.length_filter_le (fun d=>decide (nuB b e ps d=n)) (Q8 (jp u e l b) (jg ps) ps.length)
   unfold zY
   omega)
  have c2:=QQ (ft:=tst (op2 dNe (jP ZE (jr (lkp 2) (jr (jP JC (jr (lkp 2) (jr (lkp 3) (jr (lkp 0) jJ)))) jJ))) (lkp 1))) (fe:=lkp 0) (i:=0) (fun _=>false) id (zY u e l b ps n) [none,some (.int n),some (jp u e l b),some (jg ps)] (fun d hd=>by
   obtain ⟨q,q1,q2,q3,q4,mv⟩:=hd1 d hd
   have gv:=adA H h q1
   rw [q4] at gv
   exact qq (jI (jZ (qz rfl (qz (jZ rfl mv) rfl)) gv) rfl (by rw [ag1]; simp))) (fun d hd z=>by cases z)
  rw [List.filter_eq_nil_iff.mpr (fun a _=>by simp)] at c2
  have f0:=aaW ps t
  have hsl:zY u e l b ps n ≠ []->far ps t=1 ∨ (n=val b e ps):=fun z=>by
   cases hc:zY u e l b ps n with
   | nil=>exact absurd hc z
   | cons d ds=>
    obtain ⟨q,q1,q2,q3,q4,_⟩:=hd1 d (by rw [hc]; exact List.mem_cons_self)
    obtain ⟨t',e1,le⟩:=near.2 q ⟨q2,(j1 q1).2.2,q4⟩
    cases e1
    by_cases z:far ps t=0
    ·exact .inr (by rw [aap tl.symm z,tv])
    ·exact .inl (by omega)
  have hsl2:far ps t=1->zY u e l b ps n ≠ []:=fun z=>by
   obtain ⟨r,p,k,c,p1,p2,p3⟩:=aif tl.symm z
   have ho:okP u l (shP p k c)=true:=by
    obtain ⟨hr',_⟩:=List.getElem?_eq_some_iff.mp p1
    refine List.all_eq_true.mp tp _ ?_
    rw [p3]
    exact List.mem_of_getElem? (List.getElem?_set_self hr')
   have hm:mv (r:Int) k c ∈ zY u e l b ps n:=by
    refine List.mem_filter.mpr ⟨(adP hs).mpr ⟨r,k,c,p,p1,p2,ho,rfl⟩,?_⟩
    have th:=aal (e:=e) (b:=b) hs p1 k p2
    rw [if_pos ho,←p3] at th
    rw [ahb th,tv]
    simp
   exact fun z=>by rw [z] at hm; cases hm
  have c1:(decide (far ps t=1) || (decide (n=val b e ps) && !decide (zY u e l b ps n=[])))=!decide (zY u e l b ps n=[]):=by
   by_cases z:zY u e l b ps n=[]
   ·rw [decide_eq_true z,decide_eq_false (fun y=>hsl2 y z)]; simp
   ·rw [decide_eq_false z]
    rcases hsl z with y | y
    ·rw [decide_eq_true y]; rfl
    ·rw [decide_eq_true y]; simp
  have c3:(decide (far ps t=1) && !(!decide (zY u e l b ps n=[])))=false:=by
   by_cases z:far ps t=1
   ·rw [decide_eq_false (hsl2 z)]; simp
   ·rw [decide_eq_false z]; rfl
  refine ⟨_,_,_,_,_,_,_,al6 d20 (ix1 u e l b) hm ix (JF ps) as ?_ gn rfl fm (aqV htL) ap rfl ?_ (aim ps h4 L none) mn mt lm rn ?_ (aan H h hs) sl4 lp sl on ?_ c1 fo c2 c3⟩
  ·have:=aqO L []
   rw [decide_eq_false hne] at this
   exact this
  ·exact Ji (by rw [List.length_map]; omega)
  ·show dNe (jg t) (jg t)=_
   rw [ahU]; simp
  ·rw [oe,Bool.not_not]
end
theorem ajD (H:zS=true) (ns:List Int) (hn:ns.length<1000000):alg [scr ns]=some (.bool true):=by
 obtain ⟨u,e,l,b,d0,om,nr⟩:=af1 ns hn 0 (by omega)
 have h:=anm om
 obtain ⟨a1,a2,a3,a4,a5,a6,a7,a8,a9,a10⟩:=jO h
 obtain ⟨ps,d1,hs,hr2⟩:=alB hn h (at_:=10) (by omega) (mo:=2) (by omega) (by omega)
 obtain ⟨h1,h4,hp⟩:=j1 hs
 have v0:=apj (e:=e) h hp
 have vb:=apo (e:=e) h hp
 have p16:(2:Int)*16 ^ ps.length<=512:=by
  rcases (show ps.length=1 ∨ ps.length=2 by omega) with z | z <;> rw [z] <;> decide
 obtain ⟨d,gn,near⟩:=Za H h hs (by omega) v0 (by omega)
 obtain ⟨t,rfl,le⟩:=near.2 ps ⟨rfl,hp,rfl⟩
 rw [acA] at le
 have f0:=aaW ps t
 have ft:far ps t=0:=by omega
 have et:=aap (near.1 t rfl).1.symm ft
 subst et
 have fm:=ZK gn rfl (Jn ps ps h4)
 rw [ft] at fm
 have sl:=adR H h hs v0 (by omega)
 rw [ajC H h hs] at sl
 obtain ⟨w0,e0,p0,q0⟩:=qB ns hn 20 60 (by omega) (by omega)
 obtain ⟨w1,e1,_,_⟩:=qB ns hn 21 60 (by omega) (by omega)
 obtain ⟨w2,e2,_,_⟩:=qB ns hn 22 60 (by omega) (by omega)
 have hm:ZR [.int 0,.int (val b e ps - e)]=some (.int (if val b e ps - e > 0 then val b e ps - e else 0)):=rfl
 have hmx:0<=(if val b e ps - e > 0 then val b e ps - e else 0)/\(if val b e ps - e > 0 then val b e ps - e else 0)<=512:=by split <;> omega
 generalize (if val b e ps - e > 0 then val b e ps - e else 0)=mx at hm hmx
 obtain ⟨y5,y6,y7,y8,y9,y10,y11,t0⟩:=turn H h nr hs (by omega) (k:=0) e0 hm (n:=w0) rfl p0 (by omega) (x5:=none) (x6:=none) (x7:=none) (x8:=none) (x9:=none) (x10:=none) (x11:=none)
 obtain ⟨z5,z6,z7,z8,z9,z10,z11,t1⟩:=turn H h nr hs (by omega) (k:=1) e1 hm (n:=val b e ps+1) rfl (by omega) (by omega) (x5:=y5) (x6:=y6) (x7:=y7) (x8:=y8) (x9:=y9) (x10:=y10) (x11:=y11)
 obtain ⟨w5,w6,w7,w8,w9,w10,w11,t2⟩:=turn H h nr hs (by omega) (k:=2) e2 hm (n:=mx) rfl hmx.1 (by omega) (x5:=z5) (x6:=z6) (x7:=z7) (x8:=z8) (x9:=z9) (x10:=z10) (x11:=z11)
 refine al7 (x4:=some (.int 2)) (x5:=w5) (x6:=w6) (x7:=w7) (x8:=w8) (x9:=w9) (x10:=w10) (x11:=w11) d0 d1 (adA H h hs) fm gn (by rw [ahU]; simp) ?_ sl
 simp only [jF,jE,zzF,zzG,zzD,t0,t1,t2]
end Rods
end
section
namespace BX
open PySem L2
open PyProof.Rows hiding St
end BX
namespace Rods
open PySem L2 BX
open PyProof.Rows hiding St
structure Tops (K:Fg):Prop where
 isWhole:jX K "is_whole" Z6
 rodWorth:jX K "rod_worth" Zf
 allRods:jX K "all_rods" Z7
 hasAll:jX K "has_all_digits" Zg
 isManner:jX K "is_manner" Zh
 check:jX K "check_manner" aeh
 chkRods:jX K "check_rods" Qw
 chkNum:jX K "check_number" Jb
 asked:jX K "check_asked" JN
 num:jX K "number_on" Jl
 full:jX K "full_rods" Zi
 last:jX K "last_rods" Jm
 isRod:jX K "is_rod" ael
 isSet:jX K "is_setting" Jz
 chkSet:jX K "check_setting" zJ
 cell:jX K "_law_cell" ahR
 drawn:jX K "_law_drawn" aeo
 manner:jX K "_law_manner" abo
 value:jX K "value" aen
 setting:jX K "_law_setting" Qc
 NamesBeads:jX K "names_beads" JO
 Pushed:jX K "pushed" abq
 CanMove:jX K "can_move" aac
 BehindMove:jX K "behind_move" JQ
 Moved:jX K "moved" aes
 AllMoves:jX K "all_moves" qJ
 Run:jX K "run" ai5
 RodApart:jX K "rod_apart" Zn
 Apart:jX K "apart" ack
 DeckMoves:jX K "deck_moves" Qx
 MovesTo:jX K "moves_to" zQ
 NearestEnds:jX K "nearest_ends" qw
 Nearest:jX K "nearest" Qe
 FewestMoves:jX K "fewest_moves" Je
 Slips:jX K "slips" acl
 LongerEnds:jX K "longer_ends" qy
 AllSettings:jX K "all_settings" qV
 law:jX K "law" acU
structure Consts (K:Fg) (mg:SV):Prop where
 b:Bare mg
 least:GC K mg "LEAST_PARTS" (.tuple [.int 0,.int 1,.int 0,.int 2])
 most:GC K mg "MOST_PARTS" (.tuple [.int 3,.int 16,.int 12,.int 16])
 mostRods:GC K mg "MOST_RODS" (.int 4)
 mostNumber:GC K mg "MOST_NUMBER" (.int 99999)
 decks:GC K mg "DECKS" (.tuple [.str "upper",.str "lower"])
 ways:GC K mg "WAYS" (.tuple [.int 1,.int (-1)])
theorem ahg:jv "is_whole" Z6 ["thing","least","most"]:=fun _ _ _ _ _ _ us hl=>by obtain ⟨v0,v1,v2,rfl⟩:=Zs us hl; rfl
theorem af3:jv "rod_worth" Zf ["manner","rod"]:=fun _ _ _ _ _ _ us hl=>by obtain ⟨v0,v1,rfl⟩:=Zy us hl; rfl
theorem ahh:jv "all_rods" Z7 ["manner"]:=fun _ _ _ _ _ _ us hl=>by obtain ⟨v0,rfl⟩:=agd us hl; rfl
theorem ajE:jv "has_all_digits" Zg ["manner"]:=fun _ _ _ _ _ _ us hl=>by obtain ⟨v0,rfl⟩:=agd us hl; rfl
theorem af4:jv "is_manner" Zh ["thing"]:=fun _ _ _ _ _ _ us hl=>by obtain ⟨v0,rfl⟩:=agd us hl; rfl
theorem al8:jv "check_manner" aeh ["thing"]:=fun _ _ _ _ _ _ us hl=>by obtain ⟨v0,rfl⟩:=agd us hl; rfl
theorem ahi:jv "check_rods" Qw ["rods"]:=fun _ _ _ _ _ _ us hl=>by obtain ⟨v0,rfl⟩:=agd us hl; rfl
theorem ajF:jv "check_number" Jb ["number"]:=fun _ _ _ _ _ _ us hl=>by obtain ⟨v0,rfl⟩:=agd us hl; rfl
theorem al9:jv "check_asked" JN ["manner","rods","number"]:=fun _ _ _ _ _ _ us hl=>by obtain ⟨v0,v1,v2,rfl⟩:=Zs us hl; rfl
theorem apL:jv "number_on" Jl ["manner","setting"]:=fun _ _ _ _ _ _ us hl=>by obtain ⟨v0,v1,rfl⟩:=Zy us hl; rfl
theorem anP:jv "full_rods" Zi ["manner","rods"]:=fun _ _ _ _ _ _ us hl=>by obtain ⟨v0,v1,rfl⟩:=Zy us hl; rfl
theorem anQ:jv "last_rods" Jm ["manner","ahead","number"]:=fun _ _ _ _ _ _ us hl=>by obtain ⟨v0,v1,v2,rfl⟩:=Zs us hl; rfl
theorem ama:jv "is_rod" ael ["manner","thing"]:=fun _ _ _ _ _ _ us hl=>by obtain ⟨v0,v1,rfl⟩:=Zy us hl; rfl
theorem amb:jv "is_setting" Jz ["manner","thing"]:=fun _ _ _ _ _ _ us hl=>by obtain ⟨v0,v1,rfl⟩:=Zy us hl; rfl
theorem ajG:jv "check_setting" zJ ["manner","thing"]:=fun _ _ _ _ _ _ us hl=>by obtain ⟨v0,v1,rfl⟩:=Zy us hl; rfl
theorem anR:jv "_law_cell" ahR ["_law_script","_law_k"]:=fun _ _ _ _ _ _ us hl=>by obtain ⟨v0,v1,rfl⟩:=Zy us hl; rfl
theorem amc:jv "_law_drawn" aeo ["_law_script","_law_k","_law_many"]:=fun _ _ _ _ _ _ us hl=>by obtain ⟨v0,v1,v2,rfl⟩:=Zs us hl; rfl
theorem ajH:jv "_law_manner" abo ["_law_script","_law_at"]:=fun _ _ _ _ _ _ us hl=>by obtain ⟨v0,v1,rfl⟩:=Zy us hl; rfl
theorem amd:jv "value" aen ["manner","setting"]:=fun _ _ _ _ _ _ us hl=>by obtain ⟨v0,v1,rfl⟩:=Zy us hl; rfl
theorem ahj:jv "_law_setting" Qc ["_law_script","_law_at","_law_manner_here","_law_most"]:=fun _ _ _ _ _ _ us hl=>by obtain ⟨v0,v1,v2,v3,rfl⟩:=aqb us hl; rfl
theorem acX:jv "names_beads" JO ["setting","thing"]:=fun _ _ _ _ _ _ us hl=>by obtain ⟨v0,v1,rfl⟩:=Zy us hl; rfl
theorem ajI:jv "pushed" abq ["rod","deck","by"]:=fun _ _ _ _ _ _ us hl=>by obtain ⟨v0,v1,v2,rfl⟩:=Zs us hl; rfl
theorem ahk:jv "can_move" aac ["manner","setting","thing"]:=fun _ _ _ _ _ _ us hl=>by obtain ⟨v0,v1,v2,rfl⟩:=Zs us hl; rfl
theorem acY:jv "behind_move" JQ ["setting","move"]:=fun _ _ _ _ _ _ us hl=>by obtain ⟨v0,v1,rfl⟩:=Zy us hl; rfl
theorem ame:jv "moved" aes ["manner","setting","move"]:=fun _ _ _ _ _ _ us hl=>by obtain ⟨v0,v1,v2,rfl⟩:=Zs us hl; rfl
theorem af5:jv "all_moves" qJ ["manner","setting"]:=fun _ _ _ _ _ _ us hl=>by obtain ⟨v0,v1,rfl⟩:=Zy us hl; rfl
theorem apM:jv "run" ai5 ["manner","setting","moves"]:=fun _ _ _ _ _ _ us hl=>by obtain ⟨v0,v1,v2,rfl⟩:=Zs us hl; rfl
theorem af6:jv "rod_apart" Zn ["rod","goal"]:=fun _ _ _ _ _ _ us hl=>by obtain ⟨v0,v1,rfl⟩:=Zy us hl; rfl
theorem amf:jv "apart" ack ["one","other"]:=fun _ _ _ _ _ _ us hl=>by obtain ⟨v0,v1,rfl⟩:=Zy us hl; rfl
theorem aeO:jv "deck_moves" Qx ["at","deck","change"]:=fun _ _ _ _ _ _ us hl=>by obtain ⟨v0,v1,v2,rfl⟩:=Zs us hl; rfl
theorem ahl:jv "moves_to" zQ ["manner","one","other"]:=fun _ _ _ _ _ _ us hl=>by obtain ⟨v0,v1,v2,rfl⟩:=Zs us hl; rfl
theorem acF:jv "nearest_ends" qw ["manner","setting","ahead","ends"]:=fun _ _ _ _ _ _ us hl=>by obtain ⟨v0,v1,v2,v3,rfl⟩:=aqb us hl; rfl
theorem ahm:jv "nearest" Qe ["manner","setting","number"]:=fun _ _ _ _ _ _ us hl=>by obtain ⟨v0,v1,v2,rfl⟩:=Zs us hl; rfl
theorem acG:jv "fewest_moves" Je ["manner","setting","number"]:=fun _ _ _ _ _ _ us hl=>by obtain ⟨v0,v1,v2,rfl⟩:=Zs us hl; rfl
theorem amg:jv "slips" acl ["manner","setting","number"]:=fun _ _ _ _ _ _ us hl=>by obtain ⟨v0,v1,v2,rfl⟩:=Zs us hl; rfl
theorem acZ:jv "longer_ends" qy ["manner","ahead","ends"]:=fun _ _ _ _ _ _ us hl=>by obtain ⟨v0,v1,v2,rfl⟩:=Zs us hl; rfl
theorem acH:jv "all_settings" qV ["manner","rods","number"]:=fun _ _ _ _ _ _ us hl=>by obtain ⟨v0,v1,v2,rfl⟩:=Zs us hl; rfl
theorem arC (HT:zS=true) {P:Program}{w:World}{K:Fg}{h:Heap}{mg:SV}{base:Heap} (X:K.In h) (G:h.Ns mainGlobals mg) (T:Tops K) (C:Consts K mg):CLaw P w K mg base:=by
 have c_isWhole:jk P w K mg base "is_whole" ["thing","least","most"] 1 3 jR:=T.isWhole.callee X G ahg fun f fd F=>jz F agM fun Kc A Ko s H E hr=>Z8.2 P w K mg base f Kc A Ko s H E C.b hr
 have c_rodWorth:jk P w K mg base "rod_worth" ["manner","rod"] 1 2 qT:=T.rodWorth.callee X G af3 fun f fd F=>jz F afr fun Kc A Ko s H E hr=>aaI.2 P w K mg base f Kc A Ko s H E trivial hr
 have c_allRods:jk P w K mg base "all_rods" ["manner"] 1 1 zO:=T.allRods.callee X G ahh fun f fd F=>agN F C.b
 have c_hasAll:jk P w K mg base "has_all_digits" ["manner"] 2 1 Z9:=T.hasAll.callee X G ajE fun f fd F=>jz F adw fun Kc A Ko s H E hr=>aeg.2 P w K mg base f Kc A Ko s H E ⟨C.b,c_allRods,c_rodWorth⟩ hr
 have c_isManner:jk P w K mg base "is_manner" ["thing"] 3 1 Jk:=T.isManner.callee X G af4 fun f fd F=>jz F JM fun Kc A Ko s H E hr=>aaJ.2 P w K mg base f Kc A Ko s H E ⟨C.b,C.least,C.most,c_isWhole,c_hasAll⟩ hr
 have c_check:jk P w K mg base "check_manner" ["thing"] 4 1 ZD:=T.check.callee X G al8 fun f fd F=>jz F ak1 fun Kc A Ko s H E hr=>agO.2 P w K mg base f Kc A Ko s H E ⟨c_isManner⟩ hr
 have c_chkRods:jk P w K mg base "check_rods" ["rods"] 2 1 QZ:=T.chkRods.callee X G ahi fun f fd F=>jz F agP fun Kc A Ko s H E hr=>acg.2 P w K mg base f Kc A Ko s H E ⟨c_isWhole,C.mostRods⟩ hr
 have c_chkNum:jk P w K mg base "check_number" ["number"] 2 1 Jc:=T.chkNum.callee X G ajF fun f fd F=>jz F ai2 fun Kc A Ko s H E hr=>aek.2 P w K mg base f Kc A Ko s H E ⟨c_isWhole,C.mostNumber⟩ hr
 have c_asked:jk P w K mg base "check_asked" ["manner","rods","number"] 5 3 ach:=T.asked.callee X G al9 fun f fd F=>jz F ak3 fun Kc A Ko s H E hr=>agQ.2 P w K mg base f Kc A Ko s H E ⟨c_check,c_chkRods,c_chkNum⟩ hr
 have c_num:jk P w K mg base "number_on" ["manner","setting"] 2 2 afu:=T.num.callee X G apL fun f fd F=>jz F aei fun Kc A Ko s H E hr=>anc.2 P w K mg base f Kc A Ko s H E ⟨c_rodWorth⟩ hr
 have c_full:jk P w K mg base "full_rods" ["manner","rods"] 1 2 ak2:=T.full.callee X G anP fun f fd F=>jz F ane fun Kc A Ko s H E hr=>ahO.2 P w K mg base f Kc A Ko s H E trivial hr
 have c_last:jk P w K mg base "last_rods" ["manner","ahead","number"] 3 3 afv:=T.last.callee X G anQ fun f fd F=>jz F Zj fun Kc A Ko s H E hr=>ahQ.2 P w K mg base f Kc A Ko s H E ⟨c_allRods,c_rodWorth,c_num,c_full⟩ hr
 have c_isRod:jk P w K mg base "is_rod" ["manner","thing"] 2 2 JY:=T.isRod.callee X G ama fun f fd F=>jz F ak4 fun Kc A Ko s H E hr=>aaK.2 P w K mg base f Kc A Ko s H E ⟨C.b,c_isWhole⟩ hr
 have c_isSet:jk P w K mg base "is_setting" ["manner","thing"] 5 2 aem:=T.isSet.callee X G amb fun f fd F=>jz F ak5 fun Kc A Ko s H E hr=>aaL.2 P w K mg base f Kc A Ko s H E ⟨C.b,c_check,c_isRod,C.mostRods⟩ hr
 have c_chkSet:jk P w K mg base "check_setting" ["manner","thing"] 6 2 qe:=T.chkSet.callee X G ajG fun f fd F=>jz F ai3 fun Kc A Ko s H E hr=>abn.2 P w K mg base f Kc A Ko s H E ⟨c_isSet⟩ hr
 have c_cell:jk P w K mg base "_law_cell" ["_law_script","_law_k"] 1 2 afw:=T.cell.callee X G anR fun f fd F=>jz F anf fun Kc A Ko s H E hr=>ahS.2 P w K mg base f Kc A Ko s H E C.b hr
 have c_drawn:jk P w K mg base "_law_drawn" ["_law_script","_law_k","_law_many"] 2 3 JA:=T.drawn.callee X G amc fun f fd F=>jz F aci fun Kc A Ko s H E hr=>agS.2 P w K mg base f Kc A Ko s H E ⟨c_cell⟩ hr
 have c_manner:jk P w K mg base "_law_manner" ["_law_script","_law_at"] 3 2 Zl:=T.manner.callee X G ajH fun f fd F=>jz F zB fun Kc A Ko s H E hr=>abp.2 P w K mg base f Kc A Ko s H E ⟨C.b,c_drawn⟩ hr
 have c_value:jk P w K mg base "value" ["manner","setting"] 7 2 ZE:=T.value.callee X G amd fun f fd F=>jz F ak6 fun Kc A Ko s H E hr=>agR.2 P w K mg base f Kc A Ko s H E ⟨c_chkSet,c_num⟩ hr
 have c_setting:jk P w K mg base "_law_setting" ["_law_script","_law_at","_law_manner_here","_law_most"] 3 4 ani:=T.setting.callee X G ahj fun f fd F=>jz F aaO fun Kc A Ko s H E hr=>anh.2 P w K mg base f Kc A Ko s H E ⟨C.b,c_drawn⟩ hr
 have c_NamesBeads:jk P w K mg base "names_beads" ["setting","thing"] 2 2 JP:=T.NamesBeads.callee X G acX fun f fd F=>jz F acT fun Kc A Ko s H E hr=>qR.2 P w K mg base f Kc A Ko s H E ⟨C.b,c_isWhole,C.decks⟩ hr
 have c_Pushed:jk P w K mg base "pushed" ["rod","deck","by"] 1 3 abr:=T.Pushed.callee X G ajI fun f fd F=>jz F ai4 fun Kc A Ko s H E hr=>aab.2 P w K mg base f Kc A Ko s H E ⟨trivial⟩ hr
 have c_CanMove:jk P w K mg base "can_move" ["manner","setting","thing"] 3 3 JB:=T.CanMove.callee X G ahk fun f fd F=>jz F agT fun Kc A Ko s H E hr=>aad.2 P w K mg base f Kc A Ko s H E ⟨c_NamesBeads,c_isRod,c_Pushed⟩ hr
 have c_BehindMove:jk P w K mg base "behind_move" ["setting","move"] 2 2 qD:=T.BehindMove.callee X G acY fun f fd F=>jz F Zw fun Kc A Ko s H E hr=>JR.2 P w K mg base f Kc A Ko s H E ⟨c_Pushed⟩ hr
 have c_Moved:jk P w K mg base "moved" ["manner","setting","move"] 7 3 JC:=T.Moved.callee X G ame fun f fd F=>jz F ak7 fun Kc A Ko s H E hr=>aet.2 P w K mg base f Kc A Ko s H E ⟨c_chkSet,c_CanMove,c_BehindMove⟩ hr
 have c_AllMoves:jk P w K mg base "all_moves" ["manner","setting"] 7 2 qK:=T.AllMoves.callee X G af5 fun f fd F=>jz F zP fun Kc A Ko s H E hr=>Zm.2 P w K mg base f Kc A Ko s H E ⟨C.b,c_chkSet,c_CanMove,C.decks,C.ways⟩ hr
 have c_Run:jk P w K mg base "run" ["manner","setting","moves"] 8 3 ala:=T.Run.callee X G apM fun f fd F=>jz F aeu fun Kc A Ko s H E hr=>ank.2 P w K mg base f Kc A Ko s H E ⟨C.b,c_chkSet,c_Moved⟩ hr
 have c_RodApart:jk P w K mg base "rod_apart" ["rod","goal"] 1 2 Zp:=T.RodApart.callee X G af6 fun f fd F=>jz F afy fun Kc A Ko s H E hr=>Zo.2 P w K mg base f Kc A Ko s H E ⟨C.b⟩ hr
 have c_Apart:jk P w K mg base "apart" ["one","other"] 2 2 JZ:=T.Apart.callee X G amf fun f fd F=>jz F alb fun Kc A Ko s H E hr=>aew.2 P w K mg base f Kc A Ko s H E ⟨C.b,c_RodApart⟩ hr
 have c_DeckMoves:jk P w K mg base "deck_moves" ["at","deck","change"] 1 3 ZH:=T.DeckMoves.callee X G aeO fun f fd F=>jz F aae fun Kc A Ko s H E hr=>JE.2 P w K mg base f Kc A Ko s H E ⟨C.b⟩ hr
 have c_MovesTo:jk P w K mg base "moves_to" ["manner","one","other"] 7 3 Q4:=T.MovesTo.callee X G ahl fun f fd F=>jz F zD fun Kc A Ko s H E hr=>aaf.2 P w K mg base f Kc A Ko s H E ⟨C.b,c_chkSet,c_DeckMoves,C.decks⟩ hr
 have c_NearestEnds:jk P w K mg base "nearest_ends" ["manner","setting","ahead","ends"] 4 4 zt:=T.NearestEnds.callee X G acF fun f fd F=>jz F qo fun Kc A Ko s H E hr=>Jd.2 P w K mg base f Kc A Ko s H E ⟨c_last,c_Apart⟩ hr
 have c_Nearest:jk P w K mg base "nearest" ["manner","setting","number"] 7 3 zg:=T.Nearest.callee X G ahm fun f fd F=>jz F Qy fun Kc A Ko s H E hr=>aah.2 P w K mg base f Kc A Ko s H E ⟨C.b,c_chkSet,c_chkNum,c_NearestEnds⟩ hr
 have c_FewestMoves:jk P w K mg base "fewest_moves" ["manner","setting","number"] 8 3 qx:=T.FewestMoves.callee X G acG fun f fd F=>jz F Q5 fun Kc A Ko s H E hr=>qU.2 P w K mg base f Kc A Ko s H E ⟨c_Nearest,c_Apart⟩ hr
 have c_Slips:jk P w K mg base "slips" ["manner","setting","number"] 8 3 ZI:=T.Slips.callee X G amg fun f fd F=>jz F afA fun Kc A Ko s H E hr=>aey.2 P w K mg base f Kc A Ko s H E ⟨c_chkSet,c_chkNum,c_AllMoves,c_num,c_BehindMove⟩ hr
 have c_LongerEnds:jk P w K mg base "longer_ends" ["manner","ahead","ends"] 4 3 zR:=T.LongerEnds.callee X G acZ fun f fd F=>jz F zh fun Kc A Ko s H E hr=>JS.2 P w K mg base f Kc A Ko s H E ⟨c_last⟩ hr
 have c_AllSettings:jk P w K mg base "all_settings" ["manner","rods","number"] 6 3 qW:=T.AllSettings.callee X G acH fun f fd F=>jz F zv fun Kc A Ko s H E hr=>Jh.2 P w K mg base f Kc A Ko s H E ⟨C.b,c_asked,c_LongerEnds⟩ hr
 exact ⟨C.b,c_manner,c_setting,c_value,c_FewestMoves,c_Nearest,c_drawn,c_AllSettings,c_Apart,c_MovesTo,c_Run,c_AllMoves,c_Moved,c_Slips⟩
theorem apN (HT:zS=true) {P:Program}{w:World}{K:Fg}{h:Heap}{mg:SV}{fa:Addr} (X:K.In h) (G:h.Ns mainGlobals mg) (hfa:mg "law"=some (.ref fa)) (T:Tops K) (C:Consts K mg):
  ∃ fd:FuncData,(∀ (s:Shared) (v:Value),BindsTo s fd ⟨[v],[]⟩ [("_law_script",v)])/\∀ base:Heap,K.In base->base.Ns mainGlobals mg->FnOk P w K mg base CX0 9 fa fd ["_law_script"] (Pur K 1 alg):=by
 have Q:∀ base:Heap,CLaw P w K mg base:=fun base=>arC HT X G T C
 obtain ⟨f,oc,od,an,kV,doc,pm,Kc,ct,osl,a,l,c,kp⟩:=T.law
 have e:=hfa.symm.trans (PySem.W.mg_of X G a)
 cases e
 have F1:=aj5 (st:=acU) l c kp
 exact ⟨_,fun s v=> .of_eq rfl,fun base _ _=>jz F1 zW fun Kc A Ko s H E hr=>anl.2 P w K mg base fa Kc A Ko s H E (Q base) hr⟩
theorem aqW (HT:zS=true) (K:Fg) (H:Hp) (a:Addr) (ns:List Int) (hl:ns.length<=63) (hS:SqL K H a (ns.map V.int)):Pur K 1 alg [.ref a] H (fun v _=>v= .bl true) fun _ _ _=>False:=
 ⟨[scr ns],.bool true,rfl,⟨_,_,rfl,⟨a,rfl,.inl ⟨ns,hS,rfl⟩⟩,rfl⟩,ajD HT ns (by omega),fun v H' _ r=>r⟩
theorem arD (HT:zS=true) {l:PySem.W.OpenLaw}{q:Program}{loose:List Str}{XP:(SV)->Heap->Prop}{YP:World->Heap->Prop}{d:DefRec}{K:Params->Fg} (hn:l.most=some 63) (hdf:d.params.defaults=[])
  (hY:∀ (w:World) (h:Heap),YP w h->(K w.params).In h) (hnm:d.name="law")
  (F:∀ (w:World) (mg:SV) (h:Heap),(K w.params).In h->h.Ns mainGlobals mg->Tops (K w.params)/\Consts (K w.params) mg):
  PySem.W.WalkO q loose XP YP l.row.toRowW d [] (fun f vs=>PySem.call f vs):=
 L2.amy (n:=63) (k:=9) (x:="_law_script") (CX:=fun _=>CX0) (sp:=fun w=>Pur (K w.params) 1 alg) hn (by decide) hdf ⟨rfl,by decide,by decide⟩ hY (fun w mg fa h KX G hm=>by
  obtain ⟨T,C⟩:=F w mg h KX G
  rw [hnm] at hm
  exact apN HT KX G hm T C) (fun w H a ns hl _ hS=>aqW HT (K w.params) H a ns hl hS) fun _ _ _ _ _ z=>z
theorem anS {K:Fg}{mg:SV}{h:Heap} (X:K.In h) (G:h.Ns mainGlobals mg) (z1:PySem.W.nsIn K mainGlobals "isinstance"=some none) (z2:PySem.W.nsIn K mainGlobals "bool"=some none) (z3:PySem.W.nsIn K mainGlobals "int"=some none) (z4:PySem.W.nsIn K mainGlobals "tuple"=some none) (z5:PySem.W.nsIn K mainGlobals "zip"=some none) (z6:PySem.W.nsIn K mainGlobals "range"=some none) (z7:PySem.W.nsIn K mainGlobals "all"=some none) (z8:PySem.W.nsIn K mainGlobals "len"=some none) (z9:PySem.W.nsIn K mainGlobals "max"=some none) (z10:PySem.W.nsIn K mainGlobals "min"=some none) (z11:PySem.W.nsIn K mainGlobals "sum"=some none) (z12:PySem.W.nsIn K mainGlobals "sorted"=some none) (z13:PySem.W.nsIn K mainGlobals "abs"=some none) (z14:PySem.W.nsIn K mainGlobals "list"=some none) (z15:PySem.W.nsIn K mainGlobals "enumerate"=some none) (z16:PySem.W.nsIn K mainGlobals "ValueError"=some none) (z17:PySem.W.nsIn K mainGlobals "str"=some none) (z18:PySem.W.nsIn K mainGlobals "set"=some none) (z19:PySem.W.nsIn K mainGlobals "dict"=some none):Bare mg:=
 have f:∀ {x:Str},PySem.W.nsIn K mainGlobals x=some none->mg x=none:=fun z=>PySem.W.mg_none_of X G z
 ⟨f z1,f z2,f z3,f z4,f z5,f z6,f z7,f z8,f z9,f z10,f z11,f z12,f z13,f z14,f z15,f z16,f z17,f z18,f z19⟩
theorem gc4 {K:Fg}{mg:SV}{h:Heap}{x:Str}{a:Addr}{od:Option Addr}{n:Nat}{osl:Array (Option Value)}{i1 i2 i3 i4:Int}{t1 t2 t3 t4:Tok} (X:K.In h) (G:h.Ns mainGlobals mg) (e:PySem.W.nsIn K mainGlobals x=some (some (.ref a)))
  (l:K.lookup a=some ⟨.type "tuple",od,.seq #[.int i1 t1,.int i2 t2,.int i3 t3,.int i4 t4] n,osl⟩):GC K mg x (.tuple [.int i1,.int i2,.int i3,.int i4]):=
 abW X G e l rfl ⟨_,_,[.int i1,.int i2,.int i3,.int i4],rfl,(by show 4<=sizeLine; rw [sizeLine_eq]; decide),.cons ⟨_,rfl⟩ (.cons ⟨_,rfl⟩ (.cons ⟨_,rfl⟩ (.cons ⟨_,rfl⟩ .nil))),fun H=>⟨_,_,rfl,rfl,_,_,rfl,rfl,_,_,rfl,rfl,_,_,rfl,rfl,rfl⟩⟩
theorem gcI {K:Fg}{mg:SV}{h:Heap}{x:Str}{i:Int}{t:Tok} (X:K.In h) (G:h.Ns mainGlobals mg) (e:PySem.W.nsIn K mainGlobals x=some (some (.int i t))):GC K mg x (.int i):=
 ⟨.int i,_,PySem.W.mg_of X G e,⟨t,rfl⟩,fun H=>rfl⟩
theorem amh {K:Fg}{mg:SV}{h:Heap}{x:Str}{a:Addr}{od:Option Addr}{n:Nat}{osl:Array (Option Value)}{i1 i2:Str}{t1 t2:Tok} (X:K.In h) (G:h.Ns mainGlobals mg) (e:PySem.W.nsIn K mainGlobals x=some (some (.ref a)))
  (l:K.lookup a=some ⟨.type "tuple",od,.seq #[.str i1 t1,.str i2 t2] n,osl⟩):GC K mg x (.tuple [.str i1,.str i2]):=
 abW X G e l rfl ⟨_,_,[.str i1,.str i2],rfl,(by show 2<=sizeLine; rw [sizeLine_eq]; decide),.cons ⟨_,rfl⟩ (.cons ⟨_,rfl⟩ .nil),fun H=>⟨_,_,rfl,rfl,_,_,rfl,rfl,rfl⟩⟩
theorem anT {K:Fg}{mg:SV}{h:Heap}{x:Str}{a:Addr}{od:Option Addr}{n:Nat}{osl:Array (Option Value)}{i1 i2:Int}{t1 t2:Tok} (X:K.In h) (G:h.Ns mainGlobals mg) (e:PySem.W.nsIn K mainGlobals x=some (some (.ref a)))
  (l:K.lookup a=some ⟨.type "tuple",od,.seq #[.int i1 t1,.int i2 t2] n,osl⟩):GC K mg x (.tuple [.int i1,.int i2]):=
 abW X G e l rfl ⟨_,_,[.int i1,.int i2],rfl,(by show 2<=sizeLine; rw [sizeLine_eq]; decide),.cons ⟨_,rfl⟩ (.cons ⟨_,rfl⟩ .nil),fun H=>⟨_,_,rfl,rfl,_,_,rfl,rfl,rfl⟩⟩
end Rods
def PySem.W.Fast.tw11947417130431500141:Unit:=()
def PySem.W.Fast.tw11120825625275245249:Unit:=()
def PySem.W.Fast.tw7953530405901241966:Unit:=()
def PySem.W.Fast.tw4953092323832034876:Unit:=()
def PySem.W.Fast.tw9492716369974219356:Unit:=()
def PySem.W.Fast.tw13386190206186851717:Unit:=()
def PySem.W.Fast.tw10102325684000562886:Unit:=()
def PySem.W.Fast.tw18389887778117808936:Unit:=()
open PySem PySem.W PyProof.Rows
set_option maxRecDepth 100000 in
set_option maxHeartbeats 0 in
theorem PySem.Challenge.cw_beadrods_k24_whole_nearest_holds : PySem.Challenge.rw_beadrods_k24_whole_nearest.Holds := by
  w_on; o_law; k_head; (case hw => w_witness2)
  k_fill
  refine Rods.arD Rods.allN_true (l := PySem.Challenge.rw_beadrods_k24_whole_nearest) rfl rfl (fun w h Y => PySem.W.kIn_of Y) rfl ?F
  case F =>
    intro w mg h KX G
    refine ⟨⟨?f1, ?f2, ?f3, ?f4, ?f5, ?f6, ?f7, ?f8, ?f9, ?f10, ?f11, ?f12, ?f13, ?f14, ?f15, ?f16, ?f17, ?f18, ?f19, ?f20, ?f21, ?f22, ?f23, ?f24, ?f25, ?f26, ?f27, ?f28, ?f29, ?f30, ?f31, ?f32, ?f33, ?f34, ?f35, ?f36, ?f37, ?f38⟩, ⟨?b, ?c1, ?c2, ?c3, ?c4, ?c5, ?c6⟩⟩
    case b => refine' Rods.anS KX G ?_ ?_ ?_ ?_ ?_ ?_ ?_ ?_ ?_ ?_ ?_ ?_ ?_ ?_ ?_ ?_ ?_ ?_ ?_ <;> k_is
    case c1 =>
      refine' Rods.gc4 KX G ?a ?l
      (case a => k_is); (case l => k_is)
    case c2 =>
      refine' Rods.gc4 KX G ?a ?l
      (case a => k_is); (case l => k_is)
    case c3 =>
      refine' Rods.gcI KX G ?a
      (case a => k_is)
    case c4 =>
      refine' Rods.gcI KX G ?a
      (case a => k_is)
    case c5 =>
      refine' Rods.amh KX G ?a ?l
      (case a => k_is); (case l => k_is)
    case c6 =>
      refine' Rods.anT KX G ?a ?l
      (case a => k_is); (case l => k_is)
    all_goals
      refine' BX.akt ?a ?l ?c ?k
      (case a => k_is); (case l => k_is); (case c => k_is); (case k => k_is)
#print axioms PySem.Challenge.cw_beadrods_k24_whole_nearest_holds
end
