import PyProof.Rows.All
import Wide.All
import OpenK.AllK
import Wide.FinOn
import Lean
import PyProof.EqAt
import PyProof.EqKinds
import PyProof.TupleCall
import PyProof.DictWalks
import PyProof.ListMulRoad
import PyProof.Rows.Range3
import PyProof.StationsW
import OpenK.KOwn
import PyProof.ExcBaseAll.ValueError
import PyProof.MaxThree
import KE.KIsAll
import KE.KIsNot
import PyProof.RulesAs
import PyProof.ExcArgsOwn
import PyProof.ExcAttrAll.ValueError
import KE.KRevSl
import PyProof.ListRange
import PyProof.StrBlock2
import PyProof.StrBlockH
import PyProof.StrBlockL
import PyProof.StrCalls2
import PyProof.SliceStr2
import PyProof.StrBlockI
import PyProof.StrLawsTight
import PyProof.StrLawsChain
import PyProof.Rows.StrItems
import PyProof.StrWalks
import PyProof.EnumMake
import PyProof.Draws
import PyProof.StrLawsJoin
import PyProof.Rows.StrFirst
import PySem.Challenge.RW_beadrods_k61_whole_read
set_option Elab.async false
set_option linter.all false
set_option maxRecDepth 100000
set_option maxHeartbeats 4000000
abbrev Fg:=PySem.W.Frag
abbrev SV:=PySem.Str->Option PySem.Value
abbrev OP:=Option PySem.PyData
abbrev LP:=List PySem.PyData
abbrev SP0:=PySem.Shared->Prop
theorem zzA {α : Type _} {a : α} {l : List α} : (a :: l)[0]? = some a := rfl
theorem zzB {α : Type _} {a : α} {i : Nat} {l : List α} : (a :: l)[i + 1]? = l[i]? := rfl
theorem zzC {α : Type _} {o : Option α} : (some o).join = o := rfl
theorem zzD {α β : Type _} (a : α) (f : α → Option β) : (some a).bind f = f a := rfl
theorem zzE {α β : Type _} (a : α) (f : α → β) : Option.map f (some a) = some (f a) := rfl
theorem zzF {α : Type _} {x : α} {xs : List α} {i : Nat} {a : α} : (x :: xs).set (i + 1) a = x :: xs.set i a := rfl
theorem zzG {α : Type _} {x : α} {xs : List α} {a : α} : (x :: xs).set 0 a = a :: xs := rfl
theorem zzH {α β : Type _} (f : α → Option β) : (none : Option α).bind f = none := rfl
theorem zzI {α β : Type _} (f : α → β) : Option.map f (none : Option α) = none := rfl
theorem zzJ : (!true) = false := rfl
theorem zzK : (!false) = true := rfl
theorem zzL : (false = true) = False := Bool.false_eq_true
theorem zzM {α : Sort _} {x : Decidable True} (a b : α) : ite True a b = a := if_true a b
theorem zzN {α : Sort _} {x : Decidable False} (a b : α) : ite False a b = b := if_false a b
section
namespace L2
open PySem PySem.Spec PyProof.Rows
noncomputable abbrev Key:=Sum Int Str
noncomputable def abn:Key->Value->Bool
 | .inl k,v=>Value.isInt k v
 | .inr x,v=>Value.isStrOf x v
noncomputable def amC (w:World):Key->Int
 | .inl k=>hashInt k
 | .inr x=>hashStr w x
theorem j6:∀ {k:Key}{v:Value},abn k v=true->(∃ i t,k=Sum.inl i/\v=Value.int i t) ∨ (∃ x t,k=Sum.inr x/\v=Value.str x t)
 | .inl i,v,h=>by
  obtain ⟨t,e⟩:=Value.isInt_shape (k:=i) (v:=v) h
  exact .inl ⟨i,t,rfl,e⟩
 | .inr x,v,h=>by
  obtain ⟨t,e⟩:=Value.isStrOf_shape (x:=x) (v:=v) h
  exact .inr ⟨x,t,rfl,e⟩
theorem afJ (i:Int) (t:Tok):abn (.inl i) (.int i t)=true:=by simp [abn,Value.isInt]
theorem afK (x:Str) (t:Tok):abn (.inr x) (.str x t)=true:=by simp [abn,Value.isStrOf]
theorem aj7 (a b:Int):decide ((Sum.inl a:Key)=Sum.inl b)=(a == b):=by
 by_cases e:a=b
 ·subst e; simp
 ·have h:¬ (Sum.inl a:Key)=Sum.inl b:=fun q=>e (Sum.inl.inj q)
  rw [decide_eq_false h]
  exact (beq_eq_false_iff_ne.mpr e).symm
theorem aj8 (a b:Str):decide ((Sum.inr a:Key)=Sum.inr b)=decide (a=b):=by
 by_cases e:a=b
 ·subst e; simp
 ·have h:¬ (Sum.inr a:Key)=Sum.inr b:=fun q=>e (Sum.inr.inj q)
  rw [decide_eq_false h,decide_eq_false e]
theorem aj9 (a:Int) (b:Str):decide ((Sum.inl a:Key)=Sum.inr b)=false:=decide_eq_false (fun q=>nomatch q)
theorem aka (a:Str) (b:Int):decide ((Sum.inr a:Key)=Sum.inl b)=false:=decide_eq_false (fun q=>nomatch q)
noncomputable def qB (prog:Program) (w:World):PySem.KeyKind prog w Key where
 is:=abn
 hash:=amC w
 inj:=fun v a b ha hb=>by
  rcases j6 ha with ⟨i,t,rfl,rfl⟩ | ⟨x,t,rfl,rfl⟩
  ·rcases j6 hb with ⟨j,u,rfl,e⟩ | ⟨y,u,rfl,e⟩
   ·injection e with e1 _; rw [e1]
   ·exact nomatch e
  ·rcases j6 hb with ⟨j,u,rfl,e⟩ | ⟨y,u,rfl,e⟩
   ·exact nomatch e
   ·injection e with e1 _; rw [e1]
 byValue:=fun k v h=>by
  rcases j6 h with ⟨i,t,rfl,rfl⟩ | ⟨x,t,rfl,rfl⟩ <;> rfl
 pyHash:=fun hv h=>by
  rcases j6 hv with ⟨i,t,rfl,rfl⟩ | ⟨x,t,rfl,rfl⟩
  ·exact wpAny_pyHash_int h
  ·exact wpAny_pyHash_str h
 eqBool:=fun hu hv h=>by
  rcases j6 hu with ⟨i,t,rfl,rfl⟩ | ⟨x,t,rfl,rfl⟩
  ·rcases j6 hv with ⟨j,u,rfl,rfl⟩ | ⟨y,u,rfl,rfl⟩
   ·rw [aj7] at h; exact wpAny_eqBool_int h
   ·rw [aj9] at h; exact SeqAt.EqAt.int_str i t y u _ _ _ _ h
  ·rcases j6 hv with ⟨j,u,rfl,rfl⟩ | ⟨y,u,rfl,rfl⟩
   ·rw [aka] at h; exact SeqAt.EqAt.str_int x t j u _ _ _ _ h
   ·rw [aj8] at h; exact wpAny_eqBool_str h
 «strs»:=fun k x t v h=>by
  rcases j6 h with ⟨i,u,rfl,e⟩ | ⟨y,u,rfl,e⟩
  ·exact nomatch e
  ·injection e with e1 _
   subst e1
   cases v <;> rfl
theorem acV (prog:Program) (w:World) (i:Int) (t:Tok):(qB prog w).is (.inl i) (.int i t)=true:=afJ i t
theorem acW (prog:Program) (w:World) (x:Str) (t:Tok):(qB prog w).is (.inr x) (.str x t)=true:=afK x t
inductive V where
 | non | bl (b:Bool) | int (i:Int) | str (x:Str) | byt (b:Array UInt8) | flt (b:UInt64) | ref (a:Addr) | ty (n:String)
 deriving DecidableEq
noncomputable def jL:V->Value->Prop
 | .non,u=>u=Value.none
 | .bl b,u=>u=Value.bool b
 | .int i,u=>∃ t,u=Value.int i t
 | .str x,u=>∃ t,u=Value.str x t
 | .byt b,u=>∃ t,u=Value.bytes b t
 | .flt b,u=>∃ t,u=Value.float b t
 | .ref a,u=>u=Value.ref a
 | .ty n,u=>u=Value.type n
noncomputable abbrev jD:List V->List Value->Prop:=Paired jL
theorem jD.length {xs:List V}{us:List Value} (r:jD xs us):xs.length=us.length:=Paired.length r
theorem jD.get:∀ {xs:List V}{us:List Value}{i:Nat}{x:V},jD xs us->xs[i]?=some x->∃ u,us[i]?=some u/\jL x u
 | _,_,_,_,.nil,e=>by simp at e
 | _,_,0,_,.cons r _,e=>by simp at e; subst e; exact ⟨_,rfl,r⟩
 | _,_,i+1,x,.cons _ t,e=>by
  obtain ⟨u,h1,h2⟩:=jD.get (i:=i) (x:=x) t (by simpa using e)
  exact ⟨u,by simpa using h1,h2⟩
theorem jD.set {x:V}{u:Value} (r:jL x u):∀ {xs:List V}{us:List Value} (i:Nat),jD xs us->jD (xs.set i x) (us.set i u)
 | _,_,_,.nil=> .nil
 | _,_,0,.cons _ t=> .cons r t
 | _,_,i+1,.cons q t=> .cons q (jD.set r i t)
theorem jD.append:∀ {xs ys:List V}{us ws:List Value},jD xs us->jD ys ws->jD (xs++ys) (us++ws)
 | _,_,_,_,.nil,s=>s
 | _,_,_,_,.cons r t,s=> .cons r (jD.append t s)
theorem jD.take:∀ {xs:List V}{us:List Value} (n:Nat),jD xs us->jD (xs.take n) (us.take n)
 | _,_,0,_=> .nil
 | _,_,_+1,.nil=> .nil
 | _,_,n+1,.cons r t=> .cons r (jD.take n t)
theorem jD.drop:∀ {xs:List V}{us:List Value} (n:Nat),jD xs us->jD (xs.drop n) (us.drop n)
 | _,_,0,r=>r
 | _,_,_+1,.nil=> .nil
 | _,_,n+1,.cons _ t=>jD.drop n t
noncomputable def Z9:Option V->Option Value->Prop
 | some v,some u=>jL v u
 | none,none=>True
 | _,_=>False
noncomputable def KV {κ:Type}:List (κ × V)->List (κ × Value)->Prop:=Paired fun (p:κ × V) (q:κ × Value)=>p.1=q.1/\jL p.2 q.2
noncomputable def kV:Key->V
 | .inl i=> .int i
 | .inr x=> .str x
inductive HO where
 | lst (xs:List V)
 | tup (xs:List V)
 | dK (kvs:List (Key × V)) | dT (kvs:List (List Key × V))
 | set (S:Int->Bool) (n:Nat)
 | ins (C dx:Addr) (fs:List (Str × V))
 | own (x:Addr)
 | xd (fs:List (Str × V))
 | met (f x:Addr)
 | rng (lo hi:Int)
 | frz (o:Obj) (u:HO)
 | tbl (ps:Array Value)
 | ext (φ:Heap->Prop)
noncomputable abbrev Hp:=Addr->Option HO
noncomputable def upd (H:Hp) (a:Addr) (o:HO):Hp:=fun b=>if b=a then some o else H b
theorem jr {H:Hp}{a:Addr}{o:HO}:upd H a o a=some o:=by unfold upd; rw [if_pos rfl]
theorem jm {H:Hp}{a b:Addr}{o:HO} (h:b ≠ a):upd H a o b=H b:=by unfold upd; rw [if_neg h]
theorem Q0 {H:Hp}{a:Addr}{o u:HO}:upd (upd H a o) a u=upd H a u:=by
 funext b; unfold upd; split <;> rfl
theorem alA {H:Hp}{a b:Addr}{o u:HO} (h:H a=some o) (h':H b=some u) (d:o ≠ u):a ≠ b:=by
 intro e; subst e; rw [h] at h'; exact d (Option.some.inj h')
theorem qq {H:Hp}{a b:Addr}{o:HO} (h:H a=some o) (h':H b=none):a ≠ b:=by
 intro e; subst e; rw [h] at h'; cases h'
section
variable (P:Program) (w:World)
noncomputable def qx (H:Hp) (h:Heap) (a:Addr):HO->Prop
 | .lst xs=>xs.length<=sizeLine/\∃ (its:List Value) (n:Nat),jD xs its/\h.get? a=some { cls:= .type "list",data:= .seq its.toArray n }
 | .tup xs=>xs.length<=sizeLine/\∃ its:List Value,jD xs its/\IsTup h a its.toArray
 | .dK kvs=>kvs.length<=sizeLine/\(a == sysModules)=false/\∃ vs,KV kvs vs/\h.DictOf (qB P w) a vs
 | .dT kvs=>kvs.length<=sizeLine/\(a == sysModules)=false/\∃ xs:List (List Key × Addr × Value),
   Paired (fun (p:List Key × V) (q:List Key × Addr × Value)=>p.1=q.1/\H q.2.1=some (.tup (p.1.map kV))/\jL p.2 q.2.2) kvs xs/\
   ∃ o es ep,h.get? a=some o/\o.ExactDict/\o.data= .dict es ep/\es.toList=xs.map (entryOfKey (tupleKind (qB P w)))/\(xs.map (·.1)).Nodup
 | .set S n=>h.SetOf (intKind P w) a S n
 | .ins C dx fs=>H dx=some (.own a)/\fs.length<=1000/\dx ≠ a/\h.get? a=some (PySem.W.instObj C dx)/\
   ∃ mA,h.Ns1 dx mA/\(∀ f,Z9 (fs.lookup f) (mA f))/\PySem.Within mA (fs.map (·.1))
 | .own _=>∃ o,h.get? a=some o
 | .xd fs=>∃ mA,h.Ns1 a mA/\∀ f,Z9 (fs.lookup f) (mA f)
 | .rng lo hi=>∃ t u v,h.get? a=some { cls:= .type "range",data:= .fields #[.int lo t,.int hi u,.int 1 v] }
 | .frz o u=>h.get? a=some o/\qx H h a u
 | .tbl ps=>h.get? a=some { cls:= .none,data:= .fields ps }
 | .met f x=>h.get? a=some (PySem.W.methodObj (.ref f) (.ref x))
 | .ext φ=>φ h/\(∃ o,h.get? a=some o)/\∀ h1 h2:Heap,φ h1->(∀ o,h1.get? a=some o->h2.get? a=some o)->φ h2
noncomputable def HOk (H:Hp) (h:Heap):Prop:=∀ a o,H a=some o->qx P w H h a o
end
section
variable {P:Program}{w:World}{H H':Hp}{h h':Heap}{a:Addr}{o:HO}
theorem qx.lt (x:qx P w H h a o):a<h.objs.size:=by
 cases o with
 | lst xs=>obtain ⟨_,_,_,_,e⟩:=x; exact Heap.lt_size e
 | tup xs=>obtain ⟨_,_,_,p⟩:=x; exact p.lt
 | dK kvs=>obtain ⟨_,_,_,_,o,_,_,e,_⟩:=x; exact Heap.lt_size e
 | dT kvs=>obtain ⟨_,_,_,_,o,_,_,e,_⟩:=x; exact Heap.lt_size e
 | set S n=>obtain ⟨o,_,_,_,e,_⟩:=x; exact Heap.lt_size e
 | ins C dx fs=>obtain ⟨_,_,_,e,_⟩:=x; exact Heap.lt_size e
 | own y=>obtain ⟨_,e⟩:=x; exact Heap.lt_size e
 | xd fs=>obtain ⟨_,⟨_,_,_,e,_⟩,_⟩:=x; exact Heap.lt_size e
 | rng lo hi=>obtain ⟨_,_,_,e⟩:=x; exact Heap.lt_size e
 | frz ob u=>obtain ⟨e,_⟩:=x; exact Heap.lt_size e
 | tbl ps=>exact Heap.lt_size (show h.get? a=some _ from x)
 | met f y=>exact Heap.lt_size (show h.get? a=some _ from x)
 | ext φ=>obtain ⟨_,⟨_,e⟩,_⟩:=x; exact Heap.lt_size e
theorem Paired.mapP {α β:Type}{F G:α->β->Prop}:∀ {l₁:List α}{l₂:List β},Paired F l₁ l₂->(∀ a b,F a b->G a b)->Paired G l₁ l₂
 | _,_,.nil,_=> .nil
 | _,_,.cons r t,f=> .cons (f _ _ r) (Paired.mapP t f)
theorem qx.stay (x:qx P w H h a o) (k:∀ b u,(b=a ∨ H b=some (.own a))->h.get? b=some u->h'.get? b=some u)
  (ho:∀ b,H b=some (.own a)->H' b=some (.own a)) (ht:∀ b xs,H b=some (.tup xs)->H' b=some (.tup xs)):qx P w H' h' a o:=by
 induction o with
 | lst xs=>obtain ⟨z,its,n,r,e⟩:=x; exact ⟨z,its,n,r,k _ _ (.inl rfl) e⟩
 | tup xs=>obtain ⟨z,its,r,ob,e,c⟩:=x; exact ⟨z,its,r,ob,k _ _ (.inl rfl) e,c⟩
 | dK kvs=>obtain ⟨z,y,vs,r,ob,es,ep,e,c⟩:=x; exact ⟨z,y,vs,r,ob,es,ep,k _ _ (.inl rfl) e,c⟩
 | dT kvs=>
  obtain ⟨z,y,xs,r,ob,es,ep,e,c⟩:=x
  exact ⟨z,y,xs,Paired.mapP r fun p q z=>⟨z.1,ht _ _ z.2.1,z.2.2⟩,ob,es,ep,k _ _ (.inl rfl) e,c⟩
 | set S n=>obtain ⟨ob,es,ep,t,e,c⟩:=x; exact ⟨ob,es,ep,t,k _ _ (.inl rfl) e,c⟩
 | ins C dx fs=>
  obtain ⟨d,z,ne,e,mA,⟨od,es,ep,e2,c⟩,r⟩:=x
  exact ⟨ho _ d,z,ne,k _ _ (.inl rfl) e,mA,⟨od,es,ep,k _ _ (.inr d) e2,c⟩,r⟩
 | own y=>obtain ⟨ob,e⟩:=x; exact ⟨ob,k _ _ (.inl rfl) e⟩
 | xd fs=>obtain ⟨mA,⟨od,es,ep,e,c⟩,r⟩:=x; exact ⟨mA,⟨od,es,ep,k _ _ (.inl rfl) e,c⟩,r⟩
 | rng lo hi=>obtain ⟨t,u,v,e⟩:=x; exact ⟨t,u,v,k _ _ (.inl rfl) e⟩
 | frz ob u ih=>obtain ⟨e,q⟩:=x; exact ⟨k _ _ (.inl rfl) e,ih q⟩
 | tbl ps=>
  have e:h.get? a=some { cls:= .none,data:= .fields ps }:=x
  show h'.get? a=some { cls:= .none,data:= .fields ps }
  exact k a _ (.inl rfl) e
 | met f y=>
  have e:h.get? a=some (PySem.W.methodObj (.ref f) (.ref y)):=x
  show h'.get? a=some (PySem.W.methodObj (.ref f) (.ref y))
  exact k a _ (.inl rfl) e
 | ext φ=>obtain ⟨p,⟨o,e⟩,st⟩:=x; exact ⟨st _ _ p fun o q=>k _ _ (.inl rfl) q,⟨o,k _ _ (.inl rfl) e⟩,st⟩
theorem HOk.lt (x:HOk P w H h) (e:H a=some o):a<h.objs.size:=(x a o e).lt
theorem HOk.fresh (x:HOk P w H h) (e:h.objs.size<=a):H a=none:=by
 cases q:H a with
 | none=>rfl
 | some u=>exact absurd (Nat.lt_of_lt_of_le (x.lt q) e) (Nat.lt_irrefl _)
theorem HOk.kept (x:HOk P w H h) (k:∀ b u,h.get? b=some u->h'.get? b=some u):HOk P w H h':=fun a o e=>
 (x a o e).stay (fun b u _ q=>k b u q) (fun _ q=>q) fun _ _ q=>q
theorem HOk.laid (x:HOk P w H h) (k:∀ b u,h.get? b=some u->h'.get? b=some u) (hp:h.objs.size<=a) (new:qx P w (upd H a o) h' a o):HOk P w (upd H a o) h':=fun b u e=>by
 have hn:=x.fresh hp
 by_cases hb:b=a
 ·subst hb; rw [jr] at e; cases e; exact new
 ·rw [jm hb] at e
  exact (x b u e).stay (fun c v _ q=>k c v q) (fun c q=>by rw [jm (qq q hn)]; exact q) fun c xs q=>by rw [jm (qq q hn)]; exact q
end
noncomputable def Rd (H:Hp) (a:Addr) (u:HO):Prop:=H a=some u ∨ ∃ o,H a=some (.frz o u)
theorem Rd.of {H:Hp}{a:Addr}{u:HO} (h:H a=some u):Rd H a u:= .inl h
theorem Rd.ok {P:Program}{w:World}{H:Hp}{h:Heap}{a:Addr}{u:HO} (r:Rd H a u) (x:HOk P w H h):qx P w H h a u:=by
 rcases r with r | ⟨o,r⟩
 ·exact x a u r
 ·obtain ⟨_,q⟩:=x a _ r
  exact q
noncomputable def Mut:Option HO->Prop
 | some (.lst _)=>True
 | some (.dK _)=>True
 | some (.dT _)=>True
 | some (.set _ _)=>True
 | some (.ins _ _ _)=>True
 | some (.ext _)=>True
 | _=>False
section
variable {P:Program}{w:World}{H:Hp}{h h':Heap}{x e:Addr}{o':HO}
theorem HOk.write (ok:HOk P w H h) (mu:Mut (H x)) (he:e=x ∨ H e=some (.own x)) (k:∀ b u,b ≠ e->h.get? b=some u->h'.get? b=some u) (heo:∃ u,h'.get? e=some u)
  (new:qx P w (upd H x o') h' x o'):HOk P w (upd H x o') h':=fun b u q=>by
 have nown:∀ c y,H c=some (.own y)->c ≠ x:=fun c y r z=>by subst z; rw [r] at mu; exact mu
 have ntup:∀ c xs,H c=some (.tup xs)->c ≠ x:=fun c xs r z=>by subst z; rw [r] at mu; exact mu
 by_cases hb:b=x
 ·subst hb; rw [jr] at q; cases q; exact new
 ·rw [jm hb] at q
  by_cases hbe:b=e
  ·have q':H b=some (.own x):=by
    rcases he with z | z
    ·exact absurd (hbe.trans z) hb
    ·rw [hbe]; exact z
   rw [q] at q'; cases q'
   obtain ⟨v,hv⟩:=heo
   exact ⟨v,by rw [hbe]; exact hv⟩
  ·refine (ok b u q).stay (fun c v hc r=>k c v ?_ r) (fun c r=>by rw [jm (nown c b r)]; exact r) fun c xs r=>by rw [jm (ntup c xs r)]; exact r
   rcases hc with rfl | hc
   ·exact hbe
   ·rintro rfl
    rcases he with z | z
    ·exact nown c b hc z
    ·rw [hc] at z; cases z; exact hb rfl
end
structure Un (fs ex:List Addr) (H H':Hp) (h h':Heap):Prop where
 keep:∀ b o,h.get? b=some o->H b=none->b ∉ fs->b ∉ ex->h'.get? b=some o
 slot:∀ b o,h.get? b=some o->H b=none->b ∈ fs->b ∉ ex->∃ sl,h'.get? b=some { o with slots:=sl }
 free:∀ b o,h.get? b=some o->H b=none->b ∉ ex->H' b=none
 there:∀ b o,h.get? b=some o->b ∉ ex->∃ o',h'.get? b=some o'
 tups:∀ b xs,H b=some (.tup xs)->H' b=some (.tup xs)
 frzs:∀ b o u,H b=some (.frz o u)->H' b=some (.frz o u)
 tbls:∀ b ps,H b=some (.tbl ps)->∃ more,H' b=some (.tbl (ps++more))
section
variable {fs fs' ex ex':List Addr}{H H1 H2:Hp}{h h1 h2 h':Heap}{a x e:Addr}{o:HO}
theorem Un.any (u:Un fs ex H H1 h h1) {b:Addr}{ob:Obj} (q:h.get? b=some ob) (n:H b=none) (hx:b ∉ ex):∃ sl,h1.get? b=some { ob with slots:=sl }:=by
 by_cases hb:b ∈ fs
 ·exact u.slot b ob q n hb hx
 ·exact ⟨ob.slots,u.keep b ob q n hb hx⟩
theorem Un.trans (a:Un fs ex H H1 h h1) (b:Un fs ex H1 H2 h1 h2):Un fs ex H H2 h h2 where
 keep:=fun c ob q n hc hx=>b.keep c ob (a.keep c ob q n hc hx) (a.free c ob q n hx) hc hx
 slot:=fun c ob q n hc hx=>by
  obtain ⟨sl,e1⟩:=a.slot c ob q n hc hx
  obtain ⟨sl',e2⟩:=b.slot c _ e1 (a.free c ob q n hx) hc hx
  exact ⟨sl',e2⟩
 free:=fun c ob q n hx=>by
  obtain ⟨o',e1⟩:=a.there c ob q hx
  exact b.free c o' e1 (a.free c ob q n hx) hx
 there:=fun c ob q hx=>by
  obtain ⟨o',e1⟩:=a.there c ob q hx
  exact b.there c o' e1 hx
 tups:=fun c xs q=>b.tups c xs (a.tups c xs q)
 frzs:=fun c ob xs q=>b.frzs c ob xs (a.frzs c ob xs q)
 tbls:=fun c ps q=>by
  obtain ⟨m1,e1⟩:=a.tbls c ps q
  obtain ⟨m2,e2⟩:=b.tbls c _ e1
  exact ⟨m1++m2,by rw [e2,Array.append_assoc]⟩
theorem Un.kept (k:∀ b u,h.get? b=some u->h'.get? b=some u):Un fs ex H H h h':=
 ⟨fun b ob q _ _ _=>k b ob q,fun b ob q _ _ _=>⟨ob.slots,k b ob q⟩,fun _ _ _ n _=>n,fun b ob q _=>⟨ob,k b ob q⟩,fun _ _ q=>q,fun _ _ _ q=>q,fun _ ps q=>⟨#[],by rw [q]; simp⟩⟩
theorem Un.refl:Un fs ex H H h h:=Un.kept fun _ _ q=>q
theorem Un.laid (k:∀ b u,h.get? b=some u->h'.get? b=some u) (hp:h.objs.size<=a) (hn:H a=none):Un fs ex H (upd H a o) h h' where
 keep:=fun b u q _ _ _=>k b u q
 slot:=fun b u q _ _ _=>⟨u.slots,k b u q⟩
 free:=fun b u q n _=>by rw [jm (Nat.ne_of_lt (Nat.lt_of_lt_of_le (Heap.lt_size q) hp))]; exact n
 there:=fun b u q _=>⟨u,k b u q⟩
 tups:=fun b xs q=>by rw [jm (qq q hn)]; exact q
 frzs:=fun b u xs q=>by rw [jm (qq q hn)]; exact q
 tbls:=fun b ps q=>⟨#[],by rw [jm (qq q hn),q]; simp⟩
theorem Un.write (mu:Mut (H x)) (he:e=x ∨ H e=some (.own x)) (k:∀ b u,b ≠ e->h.get? b=some u->h'.get? b=some u) (heo:∃ u,h'.get? e=some u):Un fs ex H (upd H x o) h h':=by
 have hx:∀ b,H b=none->b ≠ x:=fun b n z=>by subst z; rw [n] at mu; exact mu
 have hb:∀ b,H b=none->b ≠ e:=fun b n z=>by
  subst z
  rcases he with r | r
  ·exact hx b n r
  ·rw [n] at r; cases r
 have hm:∀ b u,H b=some u->¬ Mut (some u)->b ≠ x:=fun b u q nm z=>by subst z; rw [q] at mu; exact nm mu
 refine ⟨fun b u q n _ _=>k b u (hb b n) q,fun b u q n _ _=>⟨u.slots,k b u (hb b n) q⟩,fun b u q n _=>by rw [jm (hx b n)]; exact n,fun b u q _=>?_,
  fun b xs q=>by rw [jm (hm b _ q fun z=>z)]; exact q,fun b u xs q=>by rw [jm (hm b _ q fun z=>z)]; exact q,fun b ps q=>⟨#[],by rw [jm (hm b _ q fun z=>z),q]; simp⟩⟩
 by_cases hbe:b=e
 ·subst hbe; exact heo
 ·exact ⟨u,k b u hbe q⟩
theorem Un.mono (u:Un fs ex H H1 h h1) (hs:∀ b ∈ fs,b ∈ fs') (hx:∀ b ∈ ex,b ∈ ex'):Un fs' ex' H H1 h h1:=
 ⟨fun b ob q n hb he=>u.keep b ob q n (fun z=>hb (hs b z)) fun z=>he (hx b z),fun _ _ q n _ he=>u.any q n fun z=>he (hx _ z),fun b ob q n he=>u.free b ob q n fun z=>he (hx b z),fun b ob q he=>u.there b ob q fun z=>he (hx b z),u.tups,u.frzs,u.tbls⟩
end
noncomputable def trk (h:Heap) (H:Hp):List Addr:=(List.range h.objs.size).filter fun a=>(H a).isSome
noncomputable def ab1 (h:Heap) (H:Hp):Heap:=PySem.W.hideAll h (trk h H)
theorem afL (h:Heap) (H:Hp):(ab1 h H).objs.size=h.objs.size:=PySem.W.hideAll_size _ _
theorem agB {h:Heap}{H:Hp}{b:Addr}{o:Obj} (e:h.get? b=some o) (n:H b=none):(ab1 h H).get? b=some o:=
 PySem.W.hideAll_get _ e fun hm=>by
  have q:(H b).isSome=true:=(List.mem_filter.mp hm).2
  rw [n] at q; simp at q
theorem aiy {h:Heap}{H:Hp}{b:Addr}{o:Obj} (e:(ab1 h H).get? b=some o):h.get? b=some o/\H b=none:=by
 have e':h.get? b=some o:=PySem.W.of_hideAll (trk h H) e
 refine ⟨e',?_⟩
 cases q:H b with
 | none=>rfl
 | some x=>
  have hm:b ∈ trk h H:=List.mem_filter.mpr ⟨List.mem_range.mpr (Heap.lt_size e'),by simp [q]⟩
  have z:(ab1 h H).get? b=none:=PySem.W.hideAll_none (trk h H) hm
  rw [z] at e; cases e
noncomputable def aiz (g h:Heap) (L:Addr):List (Addr × Obj):=(List.range h.objs.size).filterMap fun a=>if a=L ∨ (g.get? a).isSome=true then none else (h.get? a).map fun o=>(a,o)
noncomputable def jZ (g h:Heap) (L d:Addr):List (Addr × Obj):=(aiz g h L).filter fun p=>decide (p.1 ≠ d)
structure Mod (K:Fg) (mg:SV) (base:Heap):Prop where
 kin:K.In base
 glob:base.Ns mainGlobals mg
 blt:∃ mb,base.Ns builtinsNs mb/\∀ x:Str,x ≠ "__name__"->mb x=bootBuiltins x
 nolimit:base.NoLimit
structure Cx where
 prog:Program
 w:World
 K:Fg
 mg:SV
 base:Heap
 A:Around
 N:List Str
 s₀:Shared
 H₀:Hp
 env:Env
 Ko:List Env
 stack:List Env
 ex:List Addr
 fn:Str->Bool
 calm:Bool
 pn:List (Addr × Obj)
 xe:Value->SP0
noncomputable def frs (l:List Env):List Addr:=l.filterMap (·.frame)
noncomputable abbrev Cx.fs (X:Cx):List Addr:=frs X.Ko
noncomputable def Vis (sc:Scope) (x:Str):Prop:=sc.names.lookup x=some .local ∨ sc.names.lookup x=some .cell ∨ sc.names.lookup x=some .free
noncomputable def Loc (sc:Scope) (x:Str):Prop:=sc.names.lookup x=some .local ∨ sc.names.lookup x=some .cell
noncomputable def amD (env:Env) (h:Heap) (m:SV) (x:Str) (u:Value):Prop:=
 (env.kindOf x=some .local/\m x=some u) ∨ ((env.kindOf x=some .cell ∨ env.kindOf x=some .free)/\∃ c,env.cells.lookup x=some c/\h.IsCell c (some u))
structure Cx.Ok (X:Cx):Prop where
 mod:Mod X.K X.mg X.base
 kind:X.env.scope.kind= .function
 glob:X.env.globals=mainGlobals
 blt:X.env.builtins=builtinsNs
 above:X.s₀.heap.objs.size<=X.env.locals
 inj:∀ x y c,X.env.cells.lookup x=some c->X.env.cells.lookup y=some c->x=y
 has:∀ x,(X.env.kindOf x=some .cell ∨ X.env.kindOf x=some .free)->∃ c,X.env.cells.lookup x=some c
 cab:∀ x c,X.fn x=true->X.env.cells.lookup x=some c->X.s₀.heap.objs.size<=c
 hd:X.calm=true->X.A.handled=none
 frames:X.A.frames=some X.stack
 stk:X.stack=X.Ko ∨ (X.stack=X.env::X.Ko/\X.env.frame=some X.env.locals)
 exf:∀ b ∈ X.ex,b ≠ X.env.locals/\∀ x c,X.env.cells.lookup x=some c->c ≠ b
 bs:∀ b o,X.base.get? b=some o->X.s₀.heap.get? b=some o/\X.H₀ b=none
 bsz:X.base.objs.size<=X.s₀.heap.objs.size
 noex:∀ b o,X.base.get? b=some o->b ∉ X.ex
 exfs:∀ b ∈ X.ex,b ∉ X.fs
 funs:X.s₀.heap.FunFrames X.base X.Ko
 frf:∀ b ∈ X.fs,X.H₀ b=none
structure Inv (X:Cx) (Kp:List (Addr × Obj)) (σ:List (Option V)) (H:Hp) (s:Shared):Prop where
 ok:X.Ok
 os:s.os=X.s₀.os
 bare:AllBare s.gens
 base:Un X.fs X.ex X.H₀ H X.s₀.heap s.heap
 loc:∃ m,s.heap.Ns X.env.locals m/\∀ (i:Nat) (x:Str) (v:V),X.N[i]?=some x->σ[i]?=some (some v)->Vis X.env.scope x->∃ u,jL v u/\amD X.env s.heap m x u
 cell:∀ x c,X.env.cells.lookup x=some c->∃ v,s.heap.IsCell c v
 free:H X.env.locals=none
 freeC:∀ x c,X.env.cells.lookup x=some c->H c=none
 pin:∀ p ∈ X.pn++Kp,s.heap.get? p.1=some p.2/\H p.1=none/\p.1 ≠ X.env.locals/\p.1 ∉ X.fs/\∀ v,p.2.data ≠ .cell v
 hok:HOk X.prog X.w H s.heap
 len:σ.length=X.N.length
section
variable {X:Cx}{Kp:List (Addr × Obj)}{σ:List (Option V)}{H H':Hp}{s:Shared}{h':Heap}
theorem Cx.Ok.nofr (ok:X.Ok) {b:Addr}{o:Obj} (e:X.base.get? b=some o):b ∉ X.fs:=fun hb=>by
 have:=(ok.funs.mem hb).1
 rw [e] at this; cases this
theorem Inv.bs (I:Inv X Kp σ H s):∀ b o,X.base.get? b=some o->s.heap.get? b=some o/\H b=none:=fun b o e=>
 ⟨I.base.keep b o (I.ok.bs b o e).1 (I.ok.bs b o e).2 (I.ok.nofr e) (I.ok.noex b o e),I.base.free b o (I.ok.bs b o e).1 (I.ok.bs b o e).2 (I.ok.noex b o e)⟩
theorem Inv.bk (I:Inv X Kp σ H s):∀ b o,X.base.get? b=some o->s.heap.get? b=some o:=fun b o e=>(I.bs b o e).1
theorem Inv.mod (I:Inv X Kp σ H s):Mod X.K X.mg X.base:=I.ok.mod
theorem Inv.kIn (I:Inv X Kp σ H s):X.K.In s.heap:=I.ok.mod.kin.keeps I.bk
theorem Inv.nolimit (I:Inv X Kp σ H s):s.heap.NoLimit:=I.ok.mod.nolimit.keeps I.bk
theorem Inv.fr (I:Inv X Kp σ H s):∃ m,Fr X.base X.env.locals s.heap m:=
 let ⟨m,hn,_⟩:=I.loc
 ⟨m,hn,I.bk,Nat.le_trans I.ok.bsz I.ok.above⟩
theorem Inv.lt (I:Inv X Kp σ H s):X.env.locals<s.heap.objs.size:=let ⟨_,hn,_⟩:=I.loc; hn.lt
theorem Inv.sz (I:Inv X Kp σ H s):X.s₀.heap.objs.size<=s.heap.objs.size:=Nat.le_trans I.ok.above (Nat.le_of_lt I.lt)
theorem Inv.nofs (I:Inv X Kp σ H s) {a:Addr} (h:s.heap.objs.size<=a):a ∉ X.fs:=fun hb=>by
 obtain ⟨_,o,ho,_⟩:=I.ok.funs.mem hb
 exact absurd (Nat.lt_of_lt_of_le (Heap.lt_size ho) (Nat.le_trans I.sz h)) (Nat.lt_irrefl _)
theorem Inv.cne (I:Inv X Kp σ H s):∀ x c,X.env.cells.lookup x=some c->c ≠ X.env.locals:=fun x c e z=>by
 obtain ⟨v,o,ho,hd⟩:=I.cell x c e
 obtain ⟨m,⟨o',es,ep,ho',hd',_⟩,_⟩:=I.loc
 rw [z,ho'] at ho; cases ho; rw [hd'] at hd; cases hd
theorem Inv.funs (I:Inv X Kp σ H s):s.heap.FunFrames X.base X.Ko:=by
 have all:∀ (l:List Env),(∀ b ∈ frs l,b ∈ X.fs)->X.s₀.heap.FunFrames X.base l->s.heap.FunFrames X.base l:=by
  intro l
  induction l with
  | nil=>intro _ _; trivial
  | cons env r ih=>
   intro hs hl
   obtain ⟨hk,⟨L,o,hf,hn,ho,hd⟩,hr⟩:=hl
   have hL:L ∈ X.fs:=hs L (by unfold frs; rw [List.filterMap_cons,hf]; exact List.mem_cons_self)
   obtain ⟨sl,e⟩:=I.base.slot L o ho (I.ok.frf L hL) hL fun z=>I.ok.exfs L z hL
   exact ⟨hk,⟨L,_,hf,hn,e,hd⟩,ih (fun b hb=>hs b (by unfold frs; rw [List.filterMap_cons,hf]; exact List.mem_cons_of_mem _ hb)) hr⟩
 exact all X.Ko (fun _ hb=>hb) I.ok.funs
theorem Inv.stack (I:Inv X Kp σ H s):s.heap.FunFrames X.base X.stack:=by
 rcases I.ok.stk with e | ⟨e,hf⟩
 ·rw [e]; exact I.funs
 ·rw [e]
  obtain ⟨m,hn,_⟩:=I.loc
  refine .cons (by rw [I.ok.kind]; decide) hf hn ?_ I.funs
  exact Heap.get?_none_of_le (Nat.le_trans I.ok.bsz I.ok.above)
theorem Inv.stkSub (I:Inv X Kp σ H s):∀ b ∈ frs X.stack,b ∈ X.env.locals::X.fs:=fun b hb=>by
 rcases I.ok.stk with e | ⟨e,hf⟩
 ·rw [e] at hb; exact List.mem_cons_of_mem _ hb
 ·rw [e] at hb
  unfold frs at hb
  rw [List.filterMap_cons,hf] at hb
  exact hb
theorem Inv.stkFree (I:Inv X Kp σ H s):∀ b ∈ frs X.stack,H b=none:=fun b hb=>by
 rcases List.mem_cons.mp (I.stkSub b hb) with e | hb
 ·rw [e]; exact I.free
 ·obtain ⟨_,o,ho,_⟩:=I.ok.funs.mem hb
  exact I.base.free b o ho (I.ok.frf b hb) fun z=>I.ok.exfs b z hb
theorem Inv.step {g':Array GenState}{t':Nat}{d':Drawn}{ch:List Addr} (I:Inv X Kp σ H s)
  (hch:∀ b ∈ ch,(b ∈ X.ex ∨ X.s₀.heap.objs.size<=b)/\b ≠ X.env.locals/\(∀ x c,X.env.cells.lookup x=some c->c ≠ b)/\∀ p ∈ X.pn++Kp,p.1 ≠ b)
  (keep:∀ b o,b ≠ X.env.locals->b ∉ X.fs->b ∉ ch->s.heap.get? b=some o->H b=none->h'.get? b=some o)
  (slot:∀ b o,b ≠ X.env.locals->b ∈ X.fs->b ∉ ch->s.heap.get? b=some o->H b=none->∃ sl,h'.get? b=some { o with slots:=sl }) (free:∀ b o,b ∉ ch->s.heap.get? b=some o->H b=none->H' b=none)
  (there:∀ b o,b ∉ ch->s.heap.get? b=some o->∃ o',h'.get? b=some o')
  (tups:∀ b xs,H b=some (.tup xs)->H' b=some (.tup xs)) (frzs:∀ b o u,H b=some (.frz o u)->H' b=some (.frz o u)) (tbls:∀ b ps,H b=some (.tbl ps)->∃ more,H' b=some (.tbl (ps++more)))
  (ns:∀ m,s.heap.Ns X.env.locals m->h'.Ns X.env.locals m) (hok:HOk X.prog X.w H' h') (hg:AllBare g'):
  Inv X Kp σ H' { s with heap:=h',gens:=g',drawn:=d',toks:=t' }:=by
 have neL:∀ b o,X.s₀.heap.get? b=some o->b ≠ X.env.locals:=fun b o e=>Nat.ne_of_lt (Nat.lt_of_lt_of_le (Heap.lt_size e) I.ok.above)
 have neC:∀ b o,X.s₀.heap.get? b=some o->b ∉ X.ex->b ∉ ch:=fun b o e hx hb=>by
  rcases (hch b hb).1 with z | z
  ·exact hx z
  ·exact absurd (Nat.lt_of_lt_of_le (Heap.lt_size e) z) (Nat.lt_irrefl _)
 have cellK:∀ x c,X.env.cells.lookup x=some c->∀ v,s.heap.IsCell c v->h'.IsCell c v:=fun x c e v ⟨o,ho,hd⟩=>by
  have nch:c ∉ ch:=fun z=>(hch c z).2.2.1 x c e rfl
  by_cases hc:c ∈ X.fs
  ·obtain ⟨sl,q⟩:=slot c o (I.cne x c e) hc nch ho (I.freeC x c e)
   exact ⟨_,q,hd⟩
  ·exact ⟨o,keep c o (I.cne x c e) hc nch ho (I.freeC x c e),hd⟩
 refine ⟨I.ok,I.os,hg,⟨fun b o e n hb hx=>?_,fun b o e n hb hx=>?_,fun b o e n hx=>?_,fun b o e hx=>?_,fun b xs e=>tups b xs (I.base.tups b xs e),fun b o xs e=>frzs b o xs (I.base.frzs b o xs e),fun b ps e=>?_⟩,?_,fun x c e=>?_,?_,fun x c e=>?_,fun p hp=>?_,hok,I.len⟩
 ·exact keep b o (neL b o e) hb (neC b o e hx) (I.base.keep b o e n hb hx) (I.base.free b o e n hx)
 ·obtain ⟨sl,e1⟩:=I.base.slot b o e n hb hx
  obtain ⟨sl',e2⟩:=slot b _ (neL b o e) hb (neC b o e hx) e1 (I.base.free b o e n hx)
  exact ⟨sl',e2⟩
 ·obtain ⟨o',e1⟩:=I.base.there b o e hx
  exact free b o' (neC b o e hx) e1 (I.base.free b o e n hx)
 ·obtain ⟨o',e1⟩:=I.base.there b o e hx
  exact there b o' (neC b o e hx) e1
 ·obtain ⟨m1,e1⟩:=I.base.tbls b ps e
  obtain ⟨m2,e2⟩:=tbls b _ e1
  exact ⟨m1++m2,by rw [e2,Array.append_assoc]⟩
 ·obtain ⟨m,hn,hl⟩:=I.loc
  refine ⟨m,ns m hn,fun i x v e1 e2 e3=>?_⟩
  obtain ⟨u,r,l⟩:=hl i x v e1 e2 e3
  refine ⟨u,r,?_⟩
  rcases l with l | ⟨k,c,e,z⟩
  ·exact .inl l
  ·exact .inr ⟨k,c,e,cellK x c e _ z⟩
 ·obtain ⟨v,z⟩:=I.cell x c e
  exact ⟨v,cellK x c e v z⟩
 ·obtain ⟨m,⟨o,_,_,ho,_⟩,_⟩:=I.loc
  exact free _ o (fun z=>(hch _ z).2.1 rfl) ho I.free
 ·obtain ⟨v,o,ho,hd⟩:=I.cell x c e
  exact free c o (fun z=>(hch c z).2.2.1 x c e rfl) ho (I.freeC x c e)
 ·obtain ⟨e,n,ne,nf,d⟩:=I.pin p hp
  have nch:p.1 ∉ ch:=fun z=>(hch p.1 z).2.2.2 p hp rfl
  exact ⟨keep p.1 p.2 ne nf nch e n,free p.1 p.2 nch e n,ne,nf,d⟩
theorem Inv.un {t':Nat} (I:Inv X Kp σ H s) (u:Un X.fs [] H H' s.heap h') (hok:HOk X.prog X.w H' h'):Inv X Kp σ H' { s with heap:=h',toks:=t' }:=by
 obtain ⟨m,⟨o,es,ep,ho,r⟩,_⟩:=id I.loc
 obtain ⟨sl,hL⟩:=u.any ho I.free (by simp)
 exact I.step (g':=s.gens) (d':=s.drawn) (ch:=[]) (fun _ z=>nomatch z) (fun b o _ hb _ e n=>u.keep b o e n hb (by simp)) (fun b o _ hb _ e n=>u.slot b o e n hb (by simp)) (fun b o _ e n=>u.free b o e n (by simp)) (fun b o _ e=>u.there b o e (by simp)) u.tups u.frzs u.tbls (fun m' hm=>by
  obtain ⟨o',es',ep',ho',r'⟩:=hm
  rw [ho] at ho'; cases ho'
  exact ⟨_,es',ep',hL,r'⟩) hok I.bare
theorem Inv.call {g':Array GenState}{t':Nat}{d':Drawn}{ch:List Addr} (I:Inv X Kp σ H s) (u:Un (frs X.stack) ch H H' s.heap h') (hok:HOk X.prog X.w H' h') (hg:AllBare g')
  (hch:∀ b ∈ ch,(b ∈ X.ex ∨ X.s₀.heap.objs.size<=b)/\b ≠ X.env.locals/\(∀ x c,X.env.cells.lookup x=some c->c ≠ b)/\∀ p ∈ X.pn++Kp,p.1 ≠ b):
  Inv X Kp σ H' { s with heap:=h',gens:=g',drawn:=d',toks:=t' }:=by
 obtain ⟨m,⟨o,es,ep,ho,r⟩,_⟩:=id I.loc
 obtain ⟨sl,hL⟩:=u.any ho I.free fun z=>(hch _ z).2.1 rfl
 exact I.step (ch:=ch) hch (fun b o hL hb hc e n=>u.keep b o e n (fun z=>(List.mem_cons.mp (I.stkSub b z)).elim hL hb) hc) (fun b o _ _ hc e n=>u.any e n hc) (fun b o hc e n=>u.free b o e n hc) (fun b o hc e=>u.there b o e hc) u.tups u.frzs u.tbls (fun m' hm=>by
  obtain ⟨o',es',ep',ho',r'⟩:=hm
  rw [ho] at ho'; cases ho'
  exact ⟨_,es',ep',hL,r'⟩) hok hg
theorem Inv.turned {t':Nat}{it:Addr} (I:Inv X Kp σ H s) (k:∀ b o,b ≠ it->s.heap.get? b=some o->h'.get? b=some o) (hn:H it=none) (hL:it ≠ X.env.locals)
  (h1:it ∈ X.ex ∨ X.s₀.heap.objs.size<=it) (h2:∀ x c,X.env.cells.lookup x=some c->c ≠ it) (h3:∀ p ∈ X.pn++Kp,p.1 ≠ it):Inv X Kp σ H { s with heap:=h',toks:=t' }:=by
 have nit:∀ b u,H b=some u->b ≠ it:=fun b u e z=>by rw [z,hn] at e; cases e
 refine I.step (g':=s.gens) (d':=s.drawn) (ch:=[it]) (fun b hb=>?_) (fun b o _ _ hc e _=>k b o (fun z=>hc (by simp [z])) e) (fun b o _ _ hc e _=>⟨o.slots,k b o (fun z=>hc (by simp [z])) e⟩) (fun _ _ _ _ n=>n)
  (fun b o hc e=>⟨o,k b o (fun z=>hc (by simp [z])) e⟩) (fun _ _ e=>e) (fun _ _ _ e=>e) (fun b ps e=>⟨#[],by rw [e]; simp⟩) (fun m hm=>?_) (fun b u e=>?_) I.bare
 ·have e:b=it:=by simpa using hb
  subst e
  exact ⟨h1,hL,h2,h3⟩
 ·obtain ⟨o,es,ep,ho,r⟩:=hm
  exact ⟨o,es,ep,k _ o (Ne.symm hL) ho,r⟩
 ·refine (I.hok b u e).stay (fun c v hc q=>k c v ?_ q) (fun _ q=>q) fun _ _ q=>q
  rcases hc with z | z
  ·rw [z]; exact nit b u e
  ·exact nit c _ z
theorem Inv.tok (I:Inv X Kp σ H s) (t:Nat):Inv X Kp σ H { s with toks:=t }:=I.un (h':=s.heap) (t':=t) Un.refl I.hok
theorem Inv.kept {t':Nat} (I:Inv X Kp σ H s) (k:∀ b u,s.heap.get? b=some u->h'.get? b=some u):Inv X Kp σ H { s with heap:=h',toks:=t' }:=I.un (Un.kept k) (I.hok.kept k)
theorem Inv.laid {a:Addr}{o:HO}{t':Nat} (I:Inv X Kp σ H s) (k:∀ b u,s.heap.get? b=some u->h'.get? b=some u) (hp:s.heap.objs.size<=a) (new:qx X.prog X.w (upd H a o) h' a o):
  Inv X Kp σ (upd H a o) { s with heap:=h',toks:=t' }:=I.un (Un.laid k hp (I.hok.fresh hp)) (I.hok.laid k hp new)
theorem Inv.write {x e:Addr}{o:HO}{t':Nat} (I:Inv X Kp σ H s) (mu:Mut (H x)) (he:e=x ∨ H e=some (.own x)) (k:∀ b u,b ≠ e->s.heap.get? b=some u->h'.get? b=some u) (heo:∃ u,h'.get? e=some u)
  (new:qx X.prog X.w (upd H x o) h' x o):Inv X Kp σ (upd H x o) { s with heap:=h',toks:=t' }:=I.un (Un.write mu he k heo) (I.hok.write mu he k heo new)
theorem Inv.pins_of {pins':List (Addr × Obj)} (I:Inv X Kp σ H s) (h:∀ p ∈ pins',s.heap.get? p.1=some p.2/\H p.1=none/\p.1 ≠ X.env.locals/\p.1 ∉ X.fs/\∀ v,p.2.data ≠ .cell v):Inv X pins' σ H s:=
 ⟨I.ok,I.os,I.bare,I.base,I.loc,I.cell,I.free,I.freeC,fun p hp=>(List.mem_append.mp hp).elim (fun z=>I.pin p (List.mem_append_left _ z)) (h p),I.hok,I.len⟩
theorem acX {N:List Str} (hN:N.Nodup) {i j:Nat}{x:Str} (a:N[i]?=some x) (b:N[j]?=some x):i=j:=by
 obtain ⟨h1,e1⟩:=List.getElem?_eq_some_iff.mp a
 obtain ⟨h2,e2⟩:=List.getElem?_eq_some_iff.mp b
 exact (List.getElem_inj hN).mp (e1.trans e2.symm)
theorem afM {M:Model}{A:Around}{E:Value->SP0}{i:Nat}{x:Str}{v:V}{u:Value}{Q:Unit->SP0} (I:Inv X Kp σ H s) (hN:X.N.Nodup) (hi:X.N[i]?=some x) (hx:Loc X.env.scope x) (r:jL v u)
  (h:∀ s',Inv X Kp (σ.set i (some v)) H s'->(∃ a,Heap.SameBut a s.heap s'.heap/\(a=X.env.locals ∨ X.env.cells.lookup x=some a))->Q () s') (hf:X.fn x=true ∨ X.env.scope.names.lookup x=some .local:=by first | exact .inl rfl | exact .inr rfl | assumption):wpAny M A (storeName X.env x u) Q E s:=by
 obtain ⟨m,hn,hl⟩:=id I.loc
 have hcls:(X.env.scope.kind == .class || (X.env.scope.kind == .module && X.env.locals != X.env.globals))=false:=by rw [I.ok.kind]; rfl
 have hiσ:i < σ.length:=by rw [I.len]; exact (List.getElem?_eq_some_iff.mp hi).1
 have cne:=I.cne
 have tracked:∀ {a:Addr} {h':Heap},(∃ o,s.heap.get? a=some o/\H a=none)->Heap.SameBut a s.heap h'->HOk X.prog X.w H h':=fun {a h'} ha hs b ob e=>by
  obtain ⟨_,_,hfree⟩:=ha
  refine (I.hok b ob e).stay (fun c w' hc q=>(hs.2 c ?_).trans q) (fun _ q=>q) fun _ _ q=>q
  rintro rfl
  rcases hc with rfl | hc
  ·rw [hfree] at e; cases e
  ·rw [hfree] at hc; cases hc
 rcases hx with hk | hk
 ·refine wpAny_storeName_local hk hn (fun h' hn' hs=>?_) hcls
  obtain ⟨oL,_,_,hoL,_⟩:=id hn
  refine h _ ⟨I.ok,I.os,I.bare,⟨fun b o e n hb hx=>?_,fun b o e n hb hx=>?_,I.base.free,fun b o e hx=>?_,I.base.tups,I.base.frzs,I.base.tbls⟩,⟨_,hn',fun j y v' e1 e2 e3=>?_⟩,fun y c e=>?_,I.free,I.freeC,fun p hp=>?_,tracked ⟨oL,hoL,I.free⟩ hs,by simpa using I.len⟩ ⟨_,hs,.inl rfl⟩
  ·exact (hs.2 b (Nat.ne_of_lt (Nat.lt_of_lt_of_le (Heap.lt_size e) I.ok.above))).trans (I.base.keep b o e n hb hx)
  ·obtain ⟨sl,e1⟩:=I.base.slot b o e n hb hx
   exact ⟨sl,(hs.2 b (Nat.ne_of_lt (Nat.lt_of_lt_of_le (Heap.lt_size e) I.ok.above))).trans e1⟩
  ·obtain ⟨o',e1⟩:=I.base.there b o e hx
   exact ⟨o',(hs.2 b (Nat.ne_of_lt (Nat.lt_of_lt_of_le (Heap.lt_size e) I.ok.above))).trans e1⟩
  ·by_cases hj:j=i
   ·subst hj
    rw [hi] at e1; cases e1
    rw [List.getElem?_set_self hiσ] at e2
    cases e2
    exact ⟨u,r,.inl ⟨hk,by simp⟩⟩
   ·rw [List.getElem?_set_ne (Ne.symm hj)] at e2
    obtain ⟨u',r',q⟩:=hl j y v' e1 e2 e3
    refine ⟨u',r',?_⟩
    rcases q with ⟨k,e⟩ | ⟨k,c,e,z⟩
    ·refine .inl ⟨k,?_⟩
     have:y ≠ x:=fun e=>hj (acX hN e1 (e ▸ hi))
     simp [this,e]
    ·exact .inr ⟨k,c,e,z.sameBut hs (cne y c e)⟩
  ·obtain ⟨w',z⟩:=I.cell y c e
   exact ⟨w',z.sameBut hs (cne y c e)⟩
  ·obtain ⟨e,n,ne,nf,d⟩:=I.pin p hp
   exact ⟨(hs.2 p.1 ne).trans e,n,ne,nf,d⟩
 ·have hfn:X.fn x=true:=by
   rcases hf with z | z
   ·exact z
   ·rw [z] at hk; cases hk
  obtain ⟨c,hc⟩:=I.ok.has x (.inl hk)
  obtain ⟨w',z⟩:=I.cell x c hc
  refine wpAny_storeName_cell I.ok.kind hk hc z (fun h' hc' hs=>?_)
  obtain ⟨oc,hoc,hocd⟩:=id z
  refine h { s with heap:=h' } ⟨I.ok,I.os,I.bare,⟨fun b o e n hb hx=>?_,fun b o e n hb hx=>?_,I.base.free,fun b o e hx=>?_,I.base.tups,I.base.frzs,I.base.tbls⟩,⟨m,hn.sameBut hs (Ne.symm (cne x c hc)),fun j y v' e1 e2 e3=>?_⟩,fun y c' e=>?_,I.free,I.freeC,fun p hp=>?_,tracked ⟨oc,hoc,I.freeC x c hc⟩ hs,by simpa using I.len⟩ ⟨c,hs,.inr hc⟩
  ·exact (hs.2 b (Nat.ne_of_lt (Nat.lt_of_lt_of_le (Heap.lt_size e) (I.ok.cab x c hfn hc)))).trans (I.base.keep b o e n hb hx)
  ·obtain ⟨sl,e1⟩:=I.base.slot b o e n hb hx
   exact ⟨sl,(hs.2 b (Nat.ne_of_lt (Nat.lt_of_lt_of_le (Heap.lt_size e) (I.ok.cab x c hfn hc)))).trans e1⟩
  ·obtain ⟨o',e1⟩:=I.base.there b o e hx
   exact ⟨o',(hs.2 b (Nat.ne_of_lt (Nat.lt_of_lt_of_le (Heap.lt_size e) (I.ok.cab x c hfn hc)))).trans e1⟩
  ·by_cases hj:j=i
   ·subst hj
    rw [hi] at e1; cases e1
    rw [List.getElem?_set_self hiσ] at e2
    cases e2
    exact ⟨u,r,.inr ⟨.inl hk,c,hc,hc'⟩⟩
   ·rw [List.getElem?_set_ne (Ne.symm hj)] at e2
    obtain ⟨u',r',q⟩:=hl j y v' e1 e2 e3
    refine ⟨u',r',?_⟩
    rcases q with q | ⟨k,c',e,z'⟩
    ·exact .inl q
    ·refine .inr ⟨k,c',e,z'.sameBut hs ?_⟩
     rintro rfl
     exact hj (acX hN e1 (I.ok.inj _ _ _ e hc ▸ hi))
  ·by_cases hcc:c'=c
   ·subst hcc; exact ⟨_,hc'⟩
   ·obtain ⟨w2,z2⟩:=I.cell y c' e
    exact ⟨w2,z2.sameBut hs hcc⟩
  ·obtain ⟨e,n,ne,nf,d⟩:=I.pin p hp
   refine ⟨(hs.2 p.1 ?_).trans e,n,ne,nf,d⟩
   intro q
   rw [q,hoc] at e
   have q':oc=p.2:=Option.some.inj e
   exact d w' (by rw [←q']; exact hocd)
theorem aau {M:Model}{A:Around}{E:Value->SP0}{i:Nat}{x:Str}{v:V}{u:Value}{Q:Unit->SP0} (I:Inv X Kp σ H s) (hN:X.N.Nodup) (hi:X.N[i]?=some x) (hx:Loc X.env.scope x) (r:jL v u)
  (h:∀ s',Inv X Kp (σ.set i (some v)) H s'->Q () s') (hf:X.fn x=true ∨ X.env.scope.names.lookup x=some .local:=by first | exact .inl rfl | exact .inr rfl | assumption):wpAny M A (storeName X.env x u) Q E s:=
 afM I hN hi hx r (fun s' I' _=>h s' I') hf
theorem Inv.call' {s':Shared}{ch:List Addr} (I:Inv X Kp σ H s) (ho:s'.os=s.os) (u:Un (frs X.stack) ch H H' s.heap s'.heap) (hok:HOk X.prog X.w H' s'.heap) (hg:AllBare s'.gens)
  (hch:∀ b ∈ ch,(b ∈ X.ex ∨ X.s₀.heap.objs.size<=b)/\b ≠ X.env.locals/\(∀ x c,X.env.cells.lookup x=some c->c ≠ b)/\∀ p ∈ X.pn++Kp,p.1 ≠ b):Inv X Kp σ H' s':=by
 obtain ⟨h',g',d',t',o'⟩:=s'
 have e:o'=s.os:=ho
 subst e
 exact I.call (g':=g') (t':=t') (d':=d') u hok hg hch
end
noncomputable abbrev XK:=Value->Option Addr->Hp->Prop
noncomputable abbrev St:=List (Option V)
noncomputable abbrev VK:=V->Hp->Prop
noncomputable abbrev TE:=St->Hp->VK->Prop
noncomputable abbrev TT:=St->Hp->(Bool->Hp->Prop)->Prop
noncomputable abbrev TA:=St->Hp->(List V->Hp->Prop)->Prop
structure Ends where
 nx:St->Hp->Prop
 rt:VK
 bk:St->Hp->Prop:=fun _ _=>False
 ct:St->Hp->Prop:=fun _ _=>False
noncomputable abbrev TS:=Ends->St->Hp->Prop
noncomputable def EP (X:Cx) (Kp:List (Addr × Obj)) (σ:St) (Q:VK) (u:Value) (s':Shared):Prop:=∃ v H',Inv X Kp σ H' s'/\jL v u/\Q v H'
noncomputable def TP (X:Cx) (Kp:List (Addr × Obj)) (σ:St) (Q:Bool->Hp->Prop) (b:Bool) (s':Shared):Prop:=∃ H',Inv X Kp σ H' s'/\Q b H'
noncomputable def AP (X:Cx) (Kp:List (Addr × Obj)) (σ:St) (Q:List V->Hp->Prop) (us:List Value) (s':Shared):Prop:=∃ vs H',Inv X Kp σ H' s'/\jD vs us/\Q vs H'
noncomputable def SP (X:Cx) (Kp:List (Addr × Obj)) (D:Ends) (f:Flow) (s':Shared):Prop:=
 match f with
 | .next=>∃ σ' H',Inv X Kp σ' H' s'/\D.nx σ' H'
 | .brk=>∃ σ' H',Inv X Kp σ' H' s'/\D.bk σ' H'
 | .cont=>∃ σ' H',Inv X Kp σ' H' s'/\D.ct σ' H'
 | .ret u=>∃ v σ' H',Inv X Kp σ' H' s'/\jL v u/\D.rt v H'
noncomputable def PE (X:Cx) (e:Expr) (t:TE):Prop:=
 ∀ (Kp:List (Addr × Obj)) (s:Shared) (σ:St) (H:Hp) (Q:VK),Inv X Kp σ H s->t σ H Q->wpAny (model X.prog X.w) X.A (eval e X.env) (EP X Kp σ Q) X.xe s
noncomputable def PT (X:Cx) (e:Expr) (t:TT):Prop:=
 ∀ (Kp:List (Addr × Obj)) (s:Shared) (σ:St) (H:Hp) (Q:Bool->Hp->Prop),Inv X Kp σ H s->t σ H Q->wpAny (model X.prog X.w) X.A (isTrue e X.env (eval e X.env)) (TP X Kp σ Q) X.xe s
noncomputable def PW (X:Cx) (e:Expr) (t:TT):Prop:=
 ∀ (whole:Sem Value) (Kp:List (Addr × Obj)) (s:Shared) (σ:St) (H:Hp) (Q:Bool->Hp->Prop),Inv X Kp σ H s->t σ H Q->wpAny (model X.prog X.w) X.A (isTrue e X.env whole) (TP X Kp σ Q) X.xe s
theorem PW.pt {X:Cx}{e:Expr}{t:TT} (h:PW X e t):PT X e t:=h _
noncomputable def PA (X:Cx) (es:List Expr) (t:TA):Prop:=
 ∀ (pos:Pos) (Kp:List (Addr × Obj)) (s:Shared) (σ:St) (H:Hp) (Q:List V->Hp->Prop),Inv X Kp σ H s->t σ H Q->wpAny (model X.prog X.w) X.A (spliced (backTo pos (starEach es X.env))) (AP X Kp σ Q) X.xe s
noncomputable def PS (X:Cx) (st:Stmt) (t:TS):Prop:=
 ∀ (Kp:List (Addr × Obj)) (s:Shared) (σ:St) (H:Hp) (D:Ends),Inv X Kp σ H s->t D σ H->wpAny (model X.prog X.w) X.A (exec st X.env) (SP X Kp D) X.xe s
noncomputable def PSs (X:Cx) (st:List Stmt) (t:TS):Prop:=
 ∀ (Kp:List (Addr × Obj)) (s:Shared) (σ:St) (H:Hp) (D:Ends),Inv X Kp σ H s->t D σ H->wpAny (model X.prog X.w) X.A (execs st X.env) (SP X Kp D) X.xe s
theorem thn {α:Type}{t:Sem α}{Q Q':α->SP0}{M:Model}{A:Around}{E:Value->SP0}{s:Shared} (h:wpAny M A t Q E s) (hQ:∀ a s,Q a s->Q' a s):wpAny M A t Q' E s:=wpAny_mono h hQ fun _ _ x=>x
section
variable {X:Cx}
noncomputable def alB (i:Nat):TE:=fun σ H Q=>∃ v,σ[i]?=some (some v)/\Q v H
noncomputable def tC (v:V):TE:=fun _ H Q=>Q v H
theorem ab2 {i:Nat}{x:Str}{pos:Pos} (hN:X.N[i]?=some x) (hv:Vis X.env.scope x) (hd:(x == ("__debug__":Str))=false:=by decide) (hcd:(x == ("__classdict__":Str))=false:=by decide):PE X (.Name x pos) (alB i):=by
 intro Kp s σ H Q I h
 obtain ⟨v,e,h⟩:=h
 obtain ⟨m,hn,hl⟩:=I.loc
 obtain ⟨u,r,l⟩:=hl i x v hN e hv
 have fin:EP X Kp σ Q u s:=⟨v,H,I,r,h⟩
 rcases l with ⟨hk,hm⟩ | ⟨hk,c,hc,hcell⟩
 ·exact wpAny_Name (wpAny_loadName_local I.ok.kind hk hn hm fin) hd
 ·rcases hk with hk | hk
  ·exact wpAny_Name (wpAny_loadName_cell I.ok.kind hk hc hcell fin) hd
  ·exact wpAny_Name (wpAny_loadName_free I.ok.kind hk hc hcell fin hcd) hd
theorem ad1 {i j pos}:PE X (.Constant (.int i) j pos) (tC (.int i)):=fun _ _ _ H _ I h=>wpAny_Constant_int ⟨.int i,H,I.tok _,⟨_,rfl⟩,h⟩
theorem alC {b j pos}:PE X (.Constant (.bool b) j pos) (tC (.bl b)):=fun _ _ _ H _ I h=>Constant_bool ⟨.bl b,H,I,rfl,h⟩
theorem akb {j pos}:PE X (.Constant .none j pos) (tC .non):=fun _ _ _ H _ I h=>Constant_none ⟨.non,H,I,rfl,h⟩
theorem agC {x j pos}:PE X (.Constant (.str x) j pos) (tC (.str x)):=fun _ _ _ H _ I h=>Calls.Constant_str ⟨.str x,H,I.tok _,⟨_,rfl⟩,h⟩
noncomputable def Gl (X:Cx) (x:Str):Prop:=X.env.kindOf x=some .globalImplicit
theorem aaj {E:Value->SP0}{Kp:List (Addr × Obj)}{s:Shared}{σ:St}{H:Hp}{x:Str}{u:Value}{pos:Pos}{Q:Value->SP0} (I:Inv X Kp σ H s) (hg:Gl X x) (hm:X.mg x=some u) (h:Q u s)
  (hd:(x == ("__debug__":Str))=false:=by decide):wpAny (model X.prog X.w) X.A (eval (.Name x pos) X.env) Q E s:=
 Calls.Name_function_global I.ok.kind hg (Calls.loadGlobal_global (by rw [I.ok.glob]; exact I.mod.glob.keeps I.bk) hm h) hd
theorem aav {E:Value->SP0}{Kp:List (Addr × Obj)}{s:Shared}{σ:St}{H:Hp}{x:Str}{u:Value}{pos:Pos}{Q:Value->SP0} (I:Inv X Kp σ H s) (hg:Gl X x) (hm:X.mg x=none) (hv:bootBuiltins x=some u) (h:Q u s)
  (hn:x ≠ "__name__":=by decide) (hd:(x == ("__debug__":Str))=false:=by decide):wpAny (model X.prog X.w) X.A (eval (.Name x pos) X.env) Q E s:=by
 obtain ⟨mb,h1,h2⟩:=I.mod.blt
 exact Calls.Name_function_global I.ok.kind hg (Calls.loadGlobal_builtin (by rw [I.ok.glob]; exact I.mod.glob.keeps I.bk) hm (by rw [I.ok.blt]; exact h1.keeps I.bk) ((h2 x hn).trans hv) h) hd
theorem ab3 {x:Str}{v:V}{u:Value}{pos:Pos} (hg:Gl X x) (hm:X.mg x=some u) (r:jL v u) (hd:(x == ("__debug__":Str))=false:=by decide):PE X (.Name x pos) (tC v):=
 fun _ _ _ H _ I h=>aaj I hg hm ⟨v,H,I,r,h⟩ hd
theorem ab4 {x:Str}{v:V}{u:Value}{pos:Pos} (hg:Gl X x) (hm:X.mg x=none) (hv:bootBuiltins x=some u) (r:jL v u) (hn:x ≠ "__name__":=by decide) (hd:(x == ("__debug__":Str))=false:=by decide):PE X (.Name x pos) (tC v):=
 fun _ _ _ H _ I h=>aav I hg hm hv ⟨v,H,I,r,h⟩ hn hd
variable {a b:Expr}{ta tb:TE}{pos:Pos}
noncomputable def PC (X:Cx) (op:CmpOp) (a b:Expr) (t:TE):Prop:=
 ∀ (Kp:List (Addr × Obj)) (s:Shared) (σ:St) (H:Hp) (Q:VK),Inv X Kp σ H s->t σ H Q->
  wpAny (model X.prog X.w) X.A (eval a X.env) (fun v s₁=>wpAny (model X.prog X.w) X.A (eval b X.env) (fun u s₂=>wpAny (model X.prog X.w) X.A (compareOp op v u) (EP X Kp σ Q) X.xe s₂) X.xe s₁) X.xe s
theorem agD (b:Expr) {op:CmpOp} (h:op ≠ .In) (h2:op ≠ .NotIn):behindInMarks op b=false:=by
 have e1:(op == CmpOp.In)=false:=by cases op <;> first | rfl | exact absurd rfl h
 have e2:(op == CmpOp.NotIn)=false:=by cases op <;> first | rfl | exact absurd rfl h2
 cases b <;> simp [behindInMarks,e1,e2]
noncomputable def tB (t:TE):TT:=fun σ H Q=>t σ H fun x H1=>∃ c,x= .bl c/\Q c H1
theorem akc {op:CmpOp}{t:TE} (h:PC X op a b t) (h1:behindInMarks op b=false:=by first | exact agD _ (by decide) (by decide) | rfl):PE X (.Compare a [op] [b] pos) t:=fun Kp s σ H Q I hw=>wpAny_Compare1 (h Kp s σ H Q I hw) h1
theorem akd {e:Expr}{t:TE} (h:PE X e t) (he:∀ whole,isTrue e X.env whole=(do let v ←whole; standAt e.pos; holding [v] (truthy v)):=by intro _; rfl):PT X e (tB t):=by
 intro Kp s σ H Q I hw
 refine isTrue_plain (thn (h Kp s σ H _ I hw) fun v s1 ⟨x,H1,I1,r1,q1⟩=>?_) (he _)
 obtain ⟨d,rfl,q⟩:=q1
 cases r1
 exact wpAny_truthy_bool ⟨H1,I1,q⟩
variable {tA tB':TT}{jZ:List Expr}
noncomputable def amE (t u:TT):TT:=fun σ H Q=>t σ H fun c H1=>if c=true then u σ H1 Q else Q false H1
noncomputable def tOr (t u:TT):TT:=fun σ H Q=>t σ H fun c H1=>if c=true then Q true H1 else u σ H1 Q
noncomputable def amF (t:TT):TT:=fun σ H Q=>t σ H fun c H1=>Q (!c) H1
theorem aiA (ha:PT X a tA):PW X (.BoolOp .And [a] pos) tA:=by
 intro wh Kp s σ H Q I h
 refine isTrue_and (thn (ha Kp s σ H Q I h) fun c s1 e=>?_)
 cases c with
 | true=>exact isTrue_and_nil e
 | false=>exact e
theorem ake (ha:PT X a tA):PW X (.BoolOp .Or [a] pos) tA:=by
 intro wh Kp s σ H Q I h
 refine isTrue_or (thn (ha Kp s σ H Q I h) fun c s1 e=>?_)
 cases c with
 | false=>exact isTrue_or_nil e
 | true=>exact e
theorem akf (ha:PT X a tA) (hb:PW X (.BoolOp .And (b::jZ) pos) tB'):PW X (.BoolOp .And (a::b::jZ) pos) (amE tA tB'):=by
 intro wh Kp s σ H Q I h
 refine isTrue_and (thn (ha Kp s σ H _ I h) fun c s1 ⟨H1,I1,q1⟩=>?_)
 cases c with
 | true=>exact hb wh Kp s1 σ H1 Q I1 q1
 | false=>exact ⟨H1,I1,q1⟩
theorem alD (ha:PT X a tA) (hb:PW X (.BoolOp .Or (b::jZ) pos) tB'):PW X (.BoolOp .Or (a::b::jZ) pos) (tOr tA tB'):=by
 intro wh Kp s σ H Q I h
 refine isTrue_or (thn (ha Kp s σ H _ I h) fun c s1 ⟨H1,I1,q1⟩=>?_)
 cases c with
 | true=>exact ⟨H1,I1,q1⟩
 | false=>exact hb wh Kp s1 σ H1 Q I1 q1
theorem akg (ha:PT X a tA):PT X (.UnaryOp .Not a pos) (amF tA):=by
 intro Kp s σ H Q I h
 exact isTrue_not (ha Kp s σ H (fun c H1=>Q (!c) H1) I h)
noncomputable def alE (ta tb:TE):TE:=fun σ H Q=>ta σ H fun x H1=>∃ c,x= .bl c/\if c=true then tb σ H1 Q else Q (.bl false) H1
theorem akh {op}{t:TE} (h:PE X a t):PE X (.BoolOp op [a] pos) t:=fun Kp s σ H Q I hw=>BoolOp_one (h Kp s σ H Q I hw)
theorem aki (ha:PE X a ta) (hb:PE X (.BoolOp .And (b::jZ) pos) tb):PE X (.BoolOp .And (a::b::jZ) pos) (alE ta tb):=by
 intro Kp s σ H Q I h
 refine BoolOp_and (thn (ha Kp s σ H _ I h) fun v s1 ⟨x,H1,I1,r1,q1⟩=>?_)
 obtain ⟨c,rfl,q1⟩:=q1
 cases r1
 refine wpAny_truthy_bool ?_
 cases c with
 | true=>exact hb Kp s1 σ H1 Q I1 q1
 | false=>exact ⟨.bl false,H1,I1,rfl,q1⟩
noncomputable def tIf (t:TT) (ta tb:TE):TE:=fun σ H Q=>t σ H fun c H1=>if c=true then ta σ H1 Q else tb σ H1 Q
theorem agE {c:Expr} (hc:PT X c tA) (ha:PE X a ta) (hb:PE X b tb):PE X (.IfExp c a b pos) (tIf tA ta tb):=by
 intro Kp s σ H Q I h
 refine wpAny_IfExp (thn (hc Kp s σ H _ I h) fun d s1 ⟨H1,I1,q1⟩=>?_)
 cases d with
 | true=>exact ha Kp s1 σ H1 Q I1 q1
 | false=>exact hb Kp s1 σ H1 Q I1 q1
end
noncomputable def SqL (K:Fg) (H:Hp) (a:Addr) (xs:List V):Prop:=
 Rd H a (.lst xs) ∨
  ∃ (o:Obj) (its:Array Value) (n:Nat),K.lookup a=some o/\o.cls= .type "list"/\o.dict=none/\o.data= .seq its n/\its.size<=sizeLine/\jD xs its.toList
noncomputable def SqT (K:Fg) (H:Hp) (a:Addr) (xs:List V):Prop:=
 Rd H a (.tup xs) ∨
  ∃ (o:Obj) (its:Array Value) (n:Nat),K.lookup a=some o/\o.cls= .type "tuple"/\o.data= .seq its n/\its.size<=sizeLine/\jD xs its.toList
noncomputable def amG:Value->Option V
 | .none=>some .non
 | .bool b=>some (.bl b)
 | .int i _=>some (.int i)
 | .str x _=>some (.str x)
 | .bytes b _=>some (.byt b)
 | .float b _=>some (.flt b)
 | .ref a=>some (.ref a)
 | .type n=>some (.ty n)
 | _=>none
theorem jL.abs {x:V}{u:Value} (r:jL x u):amG u=some x:=by
 cases x with
 | non=>cases r; rfl
 | bl _=>cases r; rfl
 | int _=>obtain ⟨t,rfl⟩:=r; rfl
 | str _=>obtain ⟨t,rfl⟩:=r; rfl
 | byt _=>obtain ⟨t,rfl⟩:=r; rfl
 | flt _=>obtain ⟨t,rfl⟩:=r; rfl
 | ref _=>cases r; rfl
 | ty _=>cases r; rfl
theorem jL.inj {x y:V}{u:Value} (r:jL x u) (q:jL y u):x=y:=Option.some.inj (r.abs.symm.trans q.abs)
theorem jD.inj:∀ {xs ys:List V}{us:List Value},jD xs us->jD ys us->xs=ys
 | _,_,_,.nil,.nil=>rfl
 | _,_,_,.cons r t,.cons r' t'=>by rw [r.inj r',jD.inj t t']
section
variable {X:Cx}{Kp:List (Addr × Obj)}{σ:St}{H:Hp}{s:Shared}{a:Addr}{xs ys:List V}
theorem SqL.of {K:Fg} (h:H a=some (.lst xs)):SqL K H a xs:= .inl (.inl h)
theorem SqT.of {K:Fg} (h:H a=some (.tup xs)):SqT K H a xs:= .inl (.inl h)
theorem Inv.list (I:Inv X Kp σ H s) (h:SqL X.K H a xs):∃ its:List Value,jD xs its/\PlainL s.heap a its.toArray/\xs.length<=sizeLine:=by
 rcases h with h | ⟨o,its,n,hk,hc,hd,hs,hz,r⟩
 ·obtain ⟨z,its,n,r,e⟩:=h.ok I.hok
  exact ⟨its,r,⟨_,n,e,rfl,rfl,rfl⟩,z⟩
 ·refine ⟨its.toList,r,⟨o,n,I.kIn a o hk,hc,hd,by simpa using hs⟩,?_⟩
  have e:=r.length
  simp only [Array.length_toList] at e
  omega
theorem Inv.tuple (I:Inv X Kp σ H s) (h:SqT X.K H a xs):∃ its:List Value,jD xs its/\IsTup s.heap a its.toArray/\xs.length<=sizeLine:=by
 rcases h with h | ⟨o,its,n,hk,hc,hs,hz,r⟩
 ·obtain ⟨z,its,r,p⟩:=h.ok I.hok
  exact ⟨its,r,p,z⟩
 ·refine ⟨its.toList,r,⟨o,I.kIn a o hk,hc,n,by simpa using hs⟩,?_⟩
  have e:=r.length
  simp only [Array.length_toList] at e
  omega
theorem Inv.list_inj (I:Inv X Kp σ H s) (h:SqL X.K H a xs) (h':SqL X.K H a ys):xs=ys:=by
 obtain ⟨its,r,⟨o,n,e,_,_,d⟩,_⟩:=I.list h
 obtain ⟨its',r',⟨o',n',e',_,_,d'⟩,_⟩:=I.list h'
 rw [e] at e'; cases e'
 rw [d] at d'
 injection d' with d1 _
 have:its=its':=by simpa using congrArg Array.toList d1
 subst this
 exact r.inj r'
theorem Inv.tuple_inj (I:Inv X Kp σ H s) (h:SqT X.K H a xs) (h':SqT X.K H a ys):xs=ys:=by
 obtain ⟨its,r,⟨o,e,_,n,d⟩,_⟩:=I.tuple h
 obtain ⟨its',r',⟨o',e',_,n',d'⟩,_⟩:=I.tuple h'
 rw [e] at e'; cases e'
 rw [d] at d'
 injection d' with d1 _
 have:its=its':=by simpa using congrArg Array.toList d1
 subst this
 exact r.inj r'
end
noncomputable abbrev Cx.wish (X:Cx) (E:Value->SP0):Cx:={ X with xe:=E }
noncomputable abbrev Cx.nox (X:Cx):Cx:=X.wish fun _ _=>False
theorem Cx.Ok.wish {X:Cx} (ok:X.Ok) (E:Value->SP0):(X.wish E).Ok:=
 ⟨ok.mod,ok.kind,ok.glob,ok.blt,ok.above,ok.inj,ok.has,ok.cab,ok.hd,ok.frames,ok.stk,ok.exf,ok.bs,ok.bsz,ok.noex,ok.exfs,ok.funs,ok.frf⟩
theorem Cx.Ok.unwish {X:Cx}{E:Value->SP0} (ok:(X.wish E).Ok):X.Ok:=
 ⟨ok.mod,ok.kind,ok.glob,ok.blt,ok.above,ok.inj,ok.has,ok.cab,ok.hd,ok.frames,ok.stk,ok.exf,ok.bs,ok.bsz,ok.noex,ok.exfs,ok.funs,ok.frf⟩
section
variable {X:Cx}{Kp:List (Addr × Obj)}{σ:St}{H:Hp}{s:Shared}{E:Value->SP0}
theorem Inv.wish (I:Inv X Kp σ H s) (E:Value->SP0):Inv (X.wish E) Kp σ H s:=⟨I.ok.wish E,I.os,I.bare,I.base,I.loc,I.cell,I.free,I.freeC,I.pin,I.hok,I.len⟩
theorem Inv.unwish (I:Inv (X.wish E) Kp σ H s):Inv X Kp σ H s:=⟨I.ok.unwish,I.os,I.bare,I.base,I.loc,I.cell,I.free,I.freeC,I.pin,I.hok,I.len⟩
theorem SP.unwish {D:Ends}{f:Flow}{s':Shared} (h:SP (X.wish E) Kp D f s'):SP X Kp D f s':=by
 cases f with
 | next=>obtain ⟨σ',H',I,q⟩:=h; exact ⟨σ',H',I.unwish,q⟩
 | brk=>obtain ⟨σ',H',I,q⟩:=h; exact ⟨σ',H',I.unwish,q⟩
 | cont=>obtain ⟨σ',H',I,q⟩:=h; exact ⟨σ',H',I.unwish,q⟩
 | ret u=>obtain ⟨v,σ',H',I,r,q⟩:=h; exact ⟨v,σ',H',I.unwish,r,q⟩
theorem PE.nox {e:Expr}{t:TE} (h:PE X.nox e t):PE X e t:=fun Kp s σ H Q I hw=>
 wpAny_mono (h Kp s σ H Q (I.wish _) hw) (fun _ _ ⟨v,H',I',r,q⟩=>⟨v,H',I'.unwish,r,q⟩) fun _ _ z=>False.elim z
theorem PT.nox {e:Expr}{t:TT} (h:PT X.nox e t):PT X e t:=fun Kp s σ H Q I hw=>
 wpAny_mono (h Kp s σ H Q (I.wish _) hw) (fun _ _ ⟨H',I',q⟩=>⟨H',I'.unwish,q⟩) fun _ _ z=>False.elim z
theorem PSs.nox {st:List Stmt}{t:TS} (h:PSs X.nox st t):PSs X st t:=fun Kp s σ H D I hw=>
 wpAny_mono (h Kp s σ H D (I.wish _) hw) (fun _ _ q=>q.unwish) fun _ _ z=>False.elim z
end
section
variable {X:Cx}{st:Stmt}{jZ:List Stmt}{t u:TS}{e:Expr}{te:TE}{pos:Pos}
noncomputable def alF:TS:=fun D σ H=>D.nx σ H
noncomputable def amH (t u:TS):TS:=fun D σ H=>t { D with nx:=u D } σ H
theorem aeR:PSs X [] alF:=fun _ _ σ H _ I h=>wpAny_execs_nil ⟨σ,H,I,h⟩
theorem JW (h1:PS X st t) (h2:PSs X jZ u):PSs X (st::jZ) (amH t u):=by
 intro Kp s σ H D I h
 refine wpAny_execs_cons (thn (h1 Kp s σ H { D with nx:=u D } I h) fun f s1 q=>?_)
 cases f with
 | next=>
  obtain ⟨σ',H',I',q⟩:=q
  exact h2 Kp s1 σ' H' D I' q
 | ret v=>exact q
 | brk=>exact q
 | cont=>exact q
theorem ab5 (h1:PS X st t):PSs X [st] t:=by
 intro Kp s σ H D I h
 refine wpAny_execs_cons (thn (h1 Kp s σ H D I h) fun f s1 q=>?_)
 cases f with
 | next=>exact wpAny_execs_nil q
 | ret v=>exact q
 | brk=>exact q
 | cont=>exact q
theorem Inv.quiet {Kp:List (Addr × Obj)}{σ:St}{H:Hp}{s:Shared} (I:Inv X Kp σ H s):interactive X.env=false:=by simp [interactive,I.ok.kind]
noncomputable def alG (te:TE):TS:=fun D σ H=>te σ H fun _ H1=>D.nx σ H1
theorem ab6 (he:PE X e te) (hs:swapsWith e none pos.line X.env=pure false:=by rfl):PS X (.Expr e pos) (alG te):=by
 intro Kp s σ H D I h
 exact wpAny_Expr_any (thn (he Kp s σ H _ I h) fun v s1 ⟨x,H1,I1,r1,q1⟩=>⟨σ,H1,I1,q1⟩) I.quiet hs
noncomputable def amI (te:TE):TS:=fun D σ H=>te σ H D.rt
theorem ad2 (he:PE X e te):PS X (.Return (some e) pos) (amI te):=by
 intro Kp s σ H D I h
 exact wpAny_Return_some (thn (he Kp s σ H _ I h) fun v s1 ⟨x,H1,I1,r1,q1⟩=>⟨x,σ,H1,I1,r1,q1⟩)
noncomputable def amJ (c:TT) (t u:TS):TS:=fun D σ H=>c σ H fun b H1=>if b=true then t D σ H1 else u D σ H1
theorem alH {c:Expr}{a b:List Stmt}{tc:TT} (hc:PT X c tc) (ha:PSs X a t) (hb:PSs X b u):PS X (.If c a b pos) (amJ tc t u):=by
 intro Kp s σ H D I h
 refine wpAny_If (thn (hc Kp s σ H _ I h) fun d s1 ⟨H1,I1,q1⟩=>?_)
 cases d with
 | true=>exact ha Kp s1 σ H1 D I1 q1
 | false=>exact hb Kp s1 σ H1 D I1 q1
noncomputable def agF:TS:=fun _ _ _=>False
theorem agG:PS X st agF:=fun _ _ _ _ _ _ h=>h.elim
theorem afN {sts:List Stmt}:PSs X sts agF:=fun _ _ _ _ _ _ h=>h.elim
end
noncomputable abbrev TG:=V->St->Hp->(St->Hp->Prop)->Prop
noncomputable abbrev TGs:=List V->St->Hp->(St->Hp->Prop)->Prop
noncomputable def PG (X:Cx) (target:Expr) (t:TG):Prop:=
 ∀ (Kp:List (Addr × Obj)) (s:Shared) (σ:St) (H:Hp) (v:V) (u:Value) (Q:St->Hp->Prop),Inv X Kp σ H s->jL v u->t v σ H Q->
  wpAny (model X.prog X.w) X.A (assign target X.env u) (fun _ s'=>∃ σ' H',Inv X Kp σ' H' s'/\Q σ' H') X.xe s
noncomputable def PGs (X:Cx) (ts:List Expr) (t:TGs):Prop:=
 ∀ (Kp:List (Addr × Obj)) (s:Shared) (σ:St) (H:Hp) (vs:List V) (us:List Value) (Q:St->Hp->Prop),Inv X Kp σ H s->jD vs us->t vs σ H Q->
  wpAny (model X.prog X.w) X.A (assignInOrder ((assignEach ts X.env).map (·.2)) us) (fun _ s'=>∃ σ' H',Inv X Kp σ' H' s'/\Q σ' H') X.xe s
noncomputable abbrev akj:=V->V->V->Hp->(Hp->Prop)->Prop
noncomputable def alI (X:Cx) (t:akj):Prop:=
 ∀ (Kp:List (Addr × Obj)) (s:Shared) (σ:St) (H:Hp) (o i v:V) (ov iv u:Value) (Q:Hp->Prop),Inv X Kp σ H s->jL o ov->jL i iv->jL v u->t o i v H Q->
  wpAny (model X.prog X.w) X.A (setItem ov iv u) (fun _ s'=>∃ H',Inv X Kp σ H' s'/\Q H') X.xe s
section
variable {X:Cx}{pos:Pos}
noncomputable def ajU (i:Nat):TG:=fun v σ H Q=>Q (σ.set i (some v)) H
theorem aak {i:Nat}{x:Str} (hN:X.N.Nodup) (hi:X.N[i]?=some x) (hx:Loc X.env.scope x) (hf:X.fn x=true ∨ X.env.scope.names.lookup x=some .local:=by first | exact .inl rfl | exact .inr rfl | assumption):PG X (.Name x pos) (ajU i):=by
 intro Kp s σ H v u Q I r h
 exact wpAny_assign_Name (aau I hN hi hx r (fun s' I'=>⟨_,H,I',h⟩) hf)
noncomputable def amK:TGs:=fun vs σ H Q=>vs=[]/\Q σ H
noncomputable def alJ (t:TG) (u:TGs):TGs:=fun vs σ H Q=>∃ v r,vs=v::r/\t v σ H fun σ' H'=>u r σ' H' Q
theorem aiB:PGs X [] amK:=by
 intro Kp s σ H vs us Q I r h
 obtain ⟨e,h⟩:=h
 subst e
 cases r
 exact assignInOrder_nil ⟨σ,H,I,h⟩
theorem agH {e:Expr}{es:List Expr}{t:TG}{u:TGs} (h1:PG X e t) (h2:PGs X es u)
  (hs:(assignEach (e::es) X.env).map (·.2)=assign e X.env::(assignEach es X.env).map (·.2):=by rfl):PGs X (e::es) (alJ t u):=by
 intro Kp s σ H vs us Q I r h
 obtain ⟨v,vr,e1,h⟩:=h
 subst e1
 cases r with
 | cons r rr=>
  rw [hs]
  refine assignInOrder_cons (thn (h1 Kp s σ H _ _ _ I r h) fun _ s1 ⟨σ1,H1,I1,q1⟩=>?_)
  exact h2 Kp s1 σ1 H1 _ _ Q I1 rr q1
noncomputable def amL (K:Fg) (n:Nat) (t:TGs):TG:=fun v σ H Q=>∃ a xs,v= .ref a/\SqT K H a xs/\xs.length=n/\t xs σ H Q
theorem akk {es:List Expr}{k:Nat}{t:TGs}{n:Nat} (hc:X.calm=true) (h:PGs X es t)
  (hn:(assignEach es X.env).length=n:=by rfl) (hst:(assignEach es X.env).findIdx? (·.1)=none:=by rfl):PG X (.Tuple es k pos) (amL X.K n t):=by
 intro Kp s σ H v u Q I r hw
 obtain ⟨a,xs,e1,hq,hl,hw⟩:=hw
 subst e1
 cases r
 obtain ⟨its,rv,ht,hz⟩:=I.tuple hq
 refine assign_Tuple_tuple (I.ok.hd hc) ht (by simp [hn,←hl,rv.length]) hst fun h' hx=>?_
 have I1:Inv X Kp σ H { s with heap:=h' }:=I.kept (t':=s.toks) fun b o e=>hx b o (Nat.ne_of_lt (Heap.lt_size e)) e
 exact h Kp _ σ H xs _ Q I1 (by simpa using rv) hw
noncomputable def amM (to ti:TE) (t:akj):TG:=fun v σ H Q=>to σ H fun o H1=>ti σ H1 fun i H2=>t o i v H2 fun H3=>Q σ H3
theorem akl {o i:Expr}{to ti:TE}{t:akj} (ho:PE X o to) (hi:PE X i ti) (hs:alI X t)
  (ha:∀ v,assign (.Subscript o i pos) X.env v=(do
   let ov ←holding [v] (eval o X.env)
   let iv ←holding [v,ov] (eval i X.env)
   standAt pos
   holding [v,ov,iv] (setItem ov iv v)
   release [v,ov,iv] []):=by intro _; rfl):PG X (.Subscript o i pos) (amM to ti t):=by
 intro Kp s σ H v u Q I r h
 rw [ha]
 refine wpAny_bind (wpAny_holding (thn (ho Kp s σ H _ I h) fun ov s1 ⟨x,H1,I1,r1,q1⟩=>?_))
 refine wpAny_bind (wpAny_holding (thn (hi Kp s1 σ H1 _ I1 q1) fun iv s2 ⟨y,H2,I2,r2,q2⟩=>?_))
 refine wpAny_bind (wpAny_standAt (wpAny_bind (wpAny_holding (thn (hs Kp s2 σ H2 x y v ov iv u _ I2 r1 r2 r q2) fun _ s3 ⟨H3,I3,q3⟩=>?_))))
 exact wpAny_release ⟨σ,H3,I3,q3⟩
noncomputable def alK (te:TE) (g:TG):TS:=fun D σ H=>te σ H fun x H1=>g x σ H1 D.nx
theorem akm {tg e:Expr}{te:TE}{g:TG} (he:PE X e te) (hg:PG X tg g) (hs:swapsWithSole [tg] e pos.line X.env=pure false:=by rfl) (hw:swappedStores [tg] e X.env=pure none:=by rfl)
  (h1:(assignEach [tg] X.env).map (·.2)=[assign tg X.env]:=by rfl):PS X (.Assign [tg] e pos) (alK te g):=by
 intro Kp s σ H D I h
 refine wpAny_Assign_stores (thn (he Kp s σ H _ I h) fun v s1 ⟨x,H1,I1,r1,q1⟩=>?_) hs hw
 rw [h1]
 exact thn (hg Kp s1 σ H1 x v _ I1 r1 q1) fun _ s2 q=>q
theorem ab7 {i:Nat}{x:Str}{e:Expr}{te:TE}{pos':Pos} (hN:X.N.Nodup) (hi:X.N[i]?=some x) (hx:Loc X.env.scope x) (he:PE X e te) (hs:swapsWith e (some (.Name x pos')) pos.line X.env=pure false:=by rfl) (hf:X.fn x=true ∨ X.env.scope.names.lookup x=some .local:=by first | exact .inl rfl | exact .inr rfl | assumption):
  PS X (.Assign [.Name x pos'] e pos) (alK te (ajU i)):=by
 intro Kp s σ H D I h
 refine wpAny_Assign_Name (thn (he Kp s σ H _ I h) fun v s1 ⟨y,H1,I1,r1,q1⟩=>?_) hs
 exact aau I1 hN hi hx r1 (fun s2 I2=>⟨_,H1,I2,q1⟩) hf
end
section
variable {X:Cx}{pos:Pos}
end
structure It where
 go:Nat->Hp->Prop
 yld:Nat->Hp->V->Hp->Prop
 stop:Nat->Hp->Prop
noncomputable def ad3 (X:Cx) (Kp:List (Addr × Obj)) (H:Hp) (b:Addr):Prop:=
 H b=none/\b ≠ X.env.locals/\b ∉ X.fs/\(b ∈ X.ex ∨ X.s₀.heap.objs.size<=b)/\(∀ x c,X.env.cells.lookup x=some c->c ≠ b)/\∀ p ∈ X.pn++Kp,p.1 ≠ b
theorem Inv.fpOk {X:Cx}{Kp:List (Addr × Obj)}{σ:St}{H H':Hp}{s:Shared}{b:Addr} (I:Inv X Kp σ H s) (hb:s.heap.objs.size<=b) (hn:H' b=none):ad3 X Kp H' b:=by
 refine ⟨hn,Nat.ne_of_gt (Nat.lt_of_lt_of_le I.lt hb),I.nofs hb,.inr (Nat.le_trans I.sz hb),fun x c e z=>?_,fun p hp z=>?_⟩
 ·obtain ⟨v,q⟩:=I.cell x c e
  exact absurd (Nat.lt_of_lt_of_le q.lt (by rw [z]; exact hb)) (Nat.lt_irrefl _)
 ·exact absurd (Nat.lt_of_lt_of_le (Heap.lt_size (I.pin p hp).1) (by rw [z]; exact hb)) (Nat.lt_irrefl _)
structure Turn (P:Program) (w:World) (K:Fg) (tg:Expr) (J:It) (fp:List Addr) (it:Addr) (tn:Nat->Heap->Prop):Prop where
 mem:it ∈ fp
 obj:∀ i h,tn i h->∀ b ∈ fp,∃ o,h.get? b=some o/\∀ v,o.data ≠ .cell v
 keep:∀ i h h',tn i h->(∀ b ∈ fp,∀ o,h.get? b=some o->h'.get? b=some o)->tn i h'
 item:∀ (X:Cx),X.prog=P->X.w=w->X.K=K->X.calm=true->∀ (i:Nat) (Kp:List (Addr × Obj)) (s:Shared) (σ:St) (H:Hp) (E:Value->SP0),Inv X Kp σ H s->(∀ b ∈ fp,ad3 X Kp H b)->tn i s.heap->J.go i H->
  wpAny (model P w) X.A (pyNext (.ref it)) (fun r s1=>∃ u,r=some u/\
   wpAny (model P w) X.A (letOwnedTupleGo tg (.ref it) u) (fun _ s2=>∃ x H',Inv X Kp σ H' s2/\jL x u/\J.yld i H x H'/\tn (i+1) s2.heap/\∀ b ∈ fp,H' b=none) E s1) E s
 done:∀ (X:Cx),X.prog=P->X.w=w->X.K=K->X.calm=true->∀ (i:Nat) (Kp:List (Addr × Obj)) (s:Shared) (σ:St) (H:Hp) (E:Value->SP0),Inv X Kp σ H s->(∀ b ∈ fp,ad3 X Kp H b)->tn i s.heap->J.stop i H->
  wpAny (model P w) X.A (pyNext (.ref it)) (fun r s1=>r=none/\Inv X Kp σ H s1) E s
 self:∀ (A:Around) (i:Nat) (s:Shared) (Q:Value->SP0) (E:Value->SP0),tn i s.heap->Q (.ref it) s->wpAny (model P w) A (pyIter (.ref it)) Q E s
noncomputable abbrev TI:=St->Hp->(It->Hp->Prop)->Prop
noncomputable def PIE (X:Cx) (Kp:List (Addr × Obj)) (σ:St) (tg:Expr) (R:It->Hp->Prop) (itv:Value) (s2:Shared):Prop:=
 ∃ (it:Addr) (fp:List Addr) (tn:Nat->Heap->Prop) (J:It) (H':Hp),itv= .ref it/\Inv X Kp σ H' s2/\Turn X.prog X.w X.K tg J fp it tn/\tn 0 s2.heap/\(∀ b ∈ fp,ad3 X Kp H' b)/\R J H'
noncomputable def PI (X:Cx) (tg iter:Expr) (wi:TI):Prop:=
 ∀ (Kp:List (Addr × Obj)) (s:Shared) (σ:St) (H:Hp) (R:It->Hp->Prop),Inv X Kp σ H s->wi σ H R->
  wpAny (model X.prog X.w) X.A (eval iter X.env) (fun v s1=>wpAny (model X.prog X.w) X.A (pyIter v) (PIE X Kp σ tg R) X.xe s1) X.xe s
theorem agI {M : Model} {A : Around} {E : Value -> Shared -> Prop} {s : Shared} {tg : Expr} {it : Addr} {u : Value} {o : Obj} {n : String} {vs : Array Value} {Q : Unit -> Shared -> Prop} (ho : s.heap.get? it = some o) (hc : o.cls = .type n) (hd : o.data = .fields vs)
    (hn : ["enumerate", "zip", "dict_itemiterator", "dict_reverseitemiterator", "odict_iterator", "itertools.zip_longest", "itertools.pairwise"].contains n = false) (hQ : Q () s) : wpAny M A (letOwnedTupleGo tg (.ref it) u) Q E s := by
  unfold letOwnedTupleGo
  cases tg <;> first
    | exact wpAny_pure hQ
    | (cases u <;> first
        | exact wpAny_pure hQ
        | (refine wpAny_bind (wpAny_load ho ?_)
           rw [hc, hd]
           show wpAny M A (if (["enumerate", "zip", "dict_itemiterator", "dict_reverseitemiterator", "odict_iterator", "itertools.zip_longest", "itertools.pairwise"].contains n && vs[0]? == some (rawInt _)) = true then _ else _) Q E s
           rw [if_neg (by intro h; rw [hn, Bool.false_and] at h; cases h)]
           exact wpAny_pure hQ))
noncomputable def Itl (K:Fg) (a:Addr):It:=
 ⟨fun i H=>∃ xs x,SqL K H a xs/\xs[i]?=some x,fun i H x H'=>H'=H/\∀ xs,SqL K H a xs->xs[i]?=some x,fun i H=>∃ xs,SqL K H a xs/\xs.length<=i⟩
noncomputable def Itt (K:Fg) (a:Addr):It:=
 ⟨fun i H=>∃ xs x,SqT K H a xs/\xs[i]?=some x,fun i H x H'=>H'=H/\∀ xs,SqT K H a xs->xs[i]?=some x,fun i H=>∃ xs,SqT K H a xs/\xs.length<=i⟩
noncomputable def Itr (lo:Int) (n:Nat):It:=⟨fun i _=>i<n,fun i H x H'=>H'=H/\x= .int (lo+i),fun i _=>n<=i⟩
theorem afO {P:Program}{w:World}{K:Fg}{tg:Expr} (a it:Addr):Turn P w K tg (Itl K a) [it] it (fun i h=>h.IsListIter it a i) where
 mem:=by simp
 obj:=fun i h st b hb=>by
  have e:b=it:=by simpa using hb
  subst e
  obtain ⟨o,e,c,d⟩:=st
  exact ⟨o,e,fun v z=>by rw [d] at z; cases z⟩
 keep:=fun i h h' st k=>st.at fun o e=>k it (by simp) o e
 item:=by
  intro X hP hw hK hc i Kp s σ H E I hf st hg
  subst hP hw hK
  obtain ⟨xs,x,hq,hx⟩:=hg
  obtain ⟨its,rv,p,hz⟩:=I.list hq
  obtain ⟨u,hu,ru⟩:=rv.get hx
  obtain ⟨f0,f1,f2,f3,f4,f5⟩:=hf it (by simp)
  refine wpAny_pyNext_list_item st p.isList (x:=u) (by simpa using hu) fun h' st' sb=>?_
  have I1:Inv X Kp σ H { s with heap:=h' }:=I.turned (t':=s.toks) (fun b o hb e=>(sb.2 b hb).trans e) f0 f1 f3 f4 f5
  obtain ⟨o,e,c,d⟩:=id st'
  exact ⟨u,rfl,agI (s:={ s with heap:=h' }) e c d (by decide) ⟨x,H,I1,ru,⟨rfl,fun ys hy=>by rw [I.list_inj hy hq]; exact hx⟩,st',fun b hb=>(hf b hb).1⟩⟩
 done:=by
  intro X hP hw hK hc i Kp s σ H E I hf st hg
  subst hP hw hK
  obtain ⟨xs,hq,hx⟩:=hg
  obtain ⟨its,rv,p,hz⟩:=I.list hq
  obtain ⟨f0,f1,f2,f3,f4,f5⟩:=hf it (by simp)
  have hl:=rv.length
  exact wpAny_pyNext_list_end (I.ok.hd hc) st p.isList (by simp; omega) fun h' eb=>⟨rfl,I.turned (t':=s.toks) (fun b o hb e=>eb b o hb e) f0 f1 f3 f4 f5⟩
 self:=fun _ _ _ _ _ st h=>wpAny_pyIter_listiter st h
theorem ad4 {P:Program}{w:World}{K:Fg}{tg:Expr} (a it:Addr):Turn P w K tg (Itt K a) [it] it (fun i h=>h.IsTupleIter it a i) where
 mem:=by simp
 obj:=fun i h st b hb=>by
  have e:b=it:=by simpa using hb
  subst e
  obtain ⟨o,e,c,d⟩:=st
  exact ⟨o,e,fun v z=>by rw [d] at z; cases z⟩
 keep:=fun i h h' st k=>st.at fun o e=>k it (by simp) o e
 item:=by
  intro X hP hw hK hc i Kp s σ H E I hf st hg
  subst hP hw hK
  obtain ⟨xs,x,hq,hx⟩:=hg
  obtain ⟨its,rv,p,hz⟩:=I.tuple hq
  obtain ⟨u,hu,ru⟩:=rv.get hx
  obtain ⟨f0,f1,f2,f3,f4,f5⟩:=hf it (by simp)
  refine wpAny_pyNext_tuple_item st (show s.heap.IsTuple a its.toArray from p) (x:=u) (by simpa using hu) fun h' st' sb=>?_
  have I1:Inv X Kp σ H { s with heap:=h' }:=I.turned (t':=s.toks) (fun b o hb e=>(sb.2 b hb).trans e) f0 f1 f3 f4 f5
  obtain ⟨o,e,c,d⟩:=id st'
  exact ⟨u,rfl,agI (s:={ s with heap:=h' }) e c d (by decide) ⟨x,H,I1,ru,⟨rfl,fun ys hy=>by rw [I.tuple_inj hy hq]; exact hx⟩,st',fun b hb=>(hf b hb).1⟩⟩
 done:=by
  intro X hP hw hK hc i Kp s σ H E I hf st hg
  subst hP hw hK
  obtain ⟨xs,hq,hx⟩:=hg
  obtain ⟨its,rv,p,hz⟩:=I.tuple hq
  obtain ⟨f0,f1,f2,f3,f4,f5⟩:=hf it (by simp)
  have hl:=rv.length
  exact wpAny_pyNext_tuple_end (I.ok.hd hc) st (show s.heap.IsTuple a its.toArray from p) (by simp; omega) fun h' eb=>⟨rfl,I.turned (t':=s.toks) (fun b o hb e=>eb b o hb e) f0 f1 f3 f4 f5⟩
 self:=fun _ _ _ _ _ st h=>wpAny_pyIter_tupleiter st h
theorem ad5 {P:Program}{w:World}{K:Fg}{tg:Expr} (it:Addr) (lo:Int) (n:Nat):Turn P w K tg (Itr lo n) [it] it (fun i h=>IsRangeIter h it (lo+(i:Nat)*1) ((n:Int) - (i:Nat)) 1) where
 mem:=by simp
 obj:=fun i h st b hb=>by
  have e:b=it:=by simpa using hb
  subst e
  exact ⟨_,st,fun v z=>by
   have z':Data.fields _=Data.cell v:=z
   cases z'⟩
 keep:=fun i h h' st k=>k it (by simp) _ st
 item:=by
  intro X hP hw hK hc i Kp s σ H E I hf st hg
  subst hP hw hK
  obtain ⟨f0,f1,f2,f3,f4,f5⟩:=hf it (by simp)
  have W:=Walks.range (prog:=X.prog) (w:=X.w) (I.ok.hd hc) it lo 1 n
  refine W.item i s _ _ hg st fun v h' tk hv st' kk=>?_
  obtain ⟨t,rfl⟩:=hv
  have I1:Inv X Kp σ H { s with heap:=h',toks:=tk }:=I.turned (fun b o hb e=>kk b o (by simpa using hb) e) f0 f1 f3 f4 f5
  refine ⟨_,rfl,agI (s:={ s with heap:=h',toks:=tk }) (n:="range_iterator") st' rfl rfl (by decide) ⟨.int (lo+i),H,I1,⟨t,?_⟩,⟨rfl,rfl⟩,st',fun b hb=>(hf b hb).1⟩⟩
  rw [Int.mul_one]
 done:=by
  intro X hP hw hK hc i Kp s σ H E I hf st hg
  subst hP hw hK
  obtain ⟨f0,f1,f2,f3,f4,f5⟩:=hf it (by simp)
  exact wpAny_pyNext_range_end (I.ok.hd hc) st (by have:n<=i:=hg; omega) fun h' eb=>⟨rfl,I.turned (t':=s.toks) (fun b o hb e=>eb b o hb e) f0 f1 f3 f4 f5⟩
 self:=fun _ _ _ _ _ st h=>wpAny_pyIter_rangeiter st h
section
variable {X:Cx}{tg:Expr}
noncomputable def alL (K:Fg) (tl:TE):TI:=fun σ H R=>tl σ H fun x H1=>∃ a,x= .ref a/\(∃ xs,SqL K H1 a xs)/\R (Itl K a) H1
noncomputable def amN (K:Fg) (tl:TE):TI:=fun σ H R=>tl σ H fun x H1=>∃ a,x= .ref a/\(∃ xs,SqT K H1 a xs)/\R (Itt K a) H1
theorem aiC {l:Expr}{tl:TE} (hl:PE X l tl):PI X tg l (alL X.K tl):=by
 intro Kp s σ H R I h
 refine thn (hl Kp s σ H _ I h) fun v s1 ⟨x,H1,I1,r1,q1⟩=>?_
 obtain ⟨a,e,⟨xs,hq⟩,q⟩:=q1
 subst e
 cases r1
 obtain ⟨its,rv,p,hz⟩:=I1.list hq
 refine wpAny_pyIter_list p.isList ?_
 refine ⟨s1.heap.objs.size,[s1.heap.objs.size],_,_,H1,rfl,I1.kept (t':=s1.toks) fun b o e=>Heap.get?_push_of_some _ e,afO a _,⟨_,Heap.get?_push_size _ rfl,rfl,rfl⟩,fun b hb=>?_,q⟩
 have e:b=s1.heap.objs.size:=by simpa using hb
 subst e
 exact I1.fpOk (Nat.le_refl _) (I1.hok.fresh (Nat.le_refl _))
theorem akn {l:Expr}{tl:TE} (hl:PE X l tl):PI X tg l (amN X.K tl):=by
 intro Kp s σ H R I h
 refine thn (hl Kp s σ H _ I h) fun v s1 ⟨x,H1,I1,r1,q1⟩=>?_
 obtain ⟨a,e,⟨xs,hq⟩,q⟩:=q1
 subst e
 cases r1
 obtain ⟨its,rv,p,hz⟩:=I1.tuple hq
 refine wpAny_pyIter_tuple (show s1.heap.IsTuple a its.toArray from p) ?_
 refine ⟨s1.heap.objs.size,[s1.heap.objs.size],_,_,H1,rfl,I1.kept (t':=s1.toks) fun b o e=>Heap.get?_push_of_some _ e,ad4 a _,⟨_,Heap.get?_push_size _ rfl,rfl,rfl⟩,fun b hb=>?_,q⟩
 have e:b=s1.heap.objs.size:=by simpa using hb
 subst e
 exact I1.fpOk (Nat.le_refl _) (I1.hok.fresh (Nat.le_refl _))
theorem agJ {Kp:List (Addr × Obj)}{σ:St}{H:Hp}{s:Shared}{R:It->Hp->Prop}{E:Value->SP0}{lo hi:Int}{t u v:Tok}{tk:Nat} (I:Inv X Kp σ H s) (h1:-(2 ^ 62)<=lo) (h2:lo<2 ^ 62) (h3:-(2 ^ 62)<=hi) (h4:hi<2 ^ 62)
  (q:R (Itr lo (hi - lo).toNat) H):wpAny (model X.prog X.w) X.A (pyIter (.ref s.heap.objs.size)) (PIE X Kp σ tg R) E { s with heap:=s.heap.push { cls:= .type "range",data:= .fields #[.int lo t,.int hi u,.int 1 v] },toks:=tk }:=by
 refine wpAny_pyIter_range (IsRange.new ..) (small_one h1 h2 h3 h4) ?_
 have I1:Inv X Kp σ H { s with heap:=s.heap.push { cls:= .type "range",data:= .fields #[.int lo t,.int hi u,.int 1 v] },toks:=tk }:=I.kept fun b o e=>Heap.get?_push_of_some _ e
 refine ⟨(s.heap.push { cls:= .type "range",data:= .fields #[.int lo t,.int hi u,.int 1 v] }).objs.size,[(s.heap.push { cls:= .type "range",data:= .fields #[.int lo t,.int hi u,.int 1 v] }).objs.size],_,_,H,rfl,
  I1.kept (t':=tk) fun b o e=>Heap.get?_push_of_some _ e,ad5 _ lo (hi - lo).toNat,?_,fun b hb=>?_,q⟩
 ·have e1:lo+((0:Nat):Int)*1=lo:=by simp
  have e2:(((hi - lo).toNat:Nat):Int) - ((0:Nat):Int)=Builtin.Range.rangeSize lo hi 1:=by rw [rangeSize_one]; split <;> omega
  show IsRangeIter _ _ (lo+((0:Nat):Int)*1) ((((hi - lo).toNat:Nat):Int) - ((0:Nat):Int)) 1
  rw [e1,e2]
  exact Heap.get?_push_size _ rfl
 ·have e:b=(s.heap.push { cls:= .type "range",data:= .fields #[.int lo t,.int hi u,.int 1 v] }).objs.size:=by simpa using hb
  subst e
  exact I1.fpOk (Nat.le_refl _) (I1.hok.fresh (Nat.le_refl _))
noncomputable def alM (ta:TA):TI:=fun σ H R=>ta σ H fun vs H1=>∃ j:Int,vs=[.int j]/\-(2 ^ 62)<=j/\j<2 ^ 62/\R (Itr 0 j.toNat) H1
theorem Zw {a:Expr}{ta:TA}{p pos:Pos} (hg:Gl X "range") (hm:X.mg "range"=none) (ha:PA X [a] ta) (hs:starEach [a] X.env=[(false,eval a X.env)]:=by rfl):PI X tg (.Call (.Name "range" p) [a] [] pos) (alM ta):=by
 intro Kp s σ H R I h
 refine Call_ (aav I hg hm boot_range (PyProof.Rows.callWith_type1 (thn (ha pos Kp s σ H _ I h) fun us s1 ⟨vs,H1,I1,r1,q1⟩=>?_) hs rfl))
 obtain ⟨j,e,q1,q2,q⟩:=q1
 subst e
 cases r1 with
 | cons r rr=>
  cases rr
  obtain ⟨t,rfl⟩:=r
  exact call_range_1 (agJ I1 (by omega) (by omega) q1 q2 (by simpa using q))
noncomputable def amO (wi:TI) (g:TG) (tb:TS):TS:=fun D σ H=>wi σ H fun J H1=>∃ W:Nat->Nat->St->Hp->Prop,(∃ m,W 0 m σ H1)/\∀ i m σ H,W i m σ H->
 (J.stop i H/\D.nx σ H) ∨ (J.go i H/\∃ N:St->Hp->Prop,(∀ σ' H',N σ' H'->∃ m',m' < m/\W (i+1) m' σ' H')/\∀ x H',J.yld i H x H'->g x σ H' fun σ2 H2=>tb { D with nx:=N,ct:=N,bk:=D.nx } σ2 H2)
noncomputable def aaw (fp:List Addr) (h:Heap):List (Addr × Obj):=fp.filterMap fun b=>(h.get? b).map fun o=>(b,o)
theorem JB {fp:List Addr}{h:Heap}{b:Addr}{o:Obj} (hb:b ∈ fp) (e:h.get? b=some o):(b,o) ∈ aaw fp h:=List.mem_filterMap.mpr ⟨b,hb,by rw [e]; rfl⟩
theorem afP {fp:List Addr}{h:Heap}{p:Addr × Obj} (hp:p ∈ aaw fp h):p.1 ∈ fp/\h.get? p.1=some p.2:=by
 obtain ⟨b,hb,e⟩:=List.mem_filterMap.mp hp
 cases q:h.get? b with
 | none=>rw [q] at e; cases e
 | some o=>
  rw [q] at e
  have e':(b,o)=p:=Option.some.inj e
  subst e'
  exact ⟨hb,q⟩
theorem Inv.pinned {Kp:List (Addr × Obj)}{σ:St}{H:Hp}{s:Shared}{fp:List Addr} (I:Inv X Kp σ H s) (hf:∀ b ∈ fp,ad3 X Kp H b) (ho:∀ b ∈ fp,∃ o,s.heap.get? b=some o/\∀ v,o.data ≠ .cell v):Inv X (Kp++aaw fp s.heap) σ H s:=
 I.pins_of fun p hp=>(List.mem_append.mp hp).elim (fun z=>I.pin p (List.mem_append_right _ z)) fun z=>by
  obtain ⟨hb,e⟩:=afP z
  obtain ⟨f0,f1,f2,_⟩:=hf p.1 hb
  obtain ⟨o,e',d⟩:=ho p.1 hb
  rw [e] at e'; cases e'
  exact ⟨e,f0,f1,f2,d⟩
theorem Inv.unpinned {Kp pl:List (Addr × Obj)}{σ:St}{H:Hp}{s:Shared} (I:Inv X (Kp++pl) σ H s):Inv X Kp σ H s:=I.pins_of fun p hp=>I.pin p (List.mem_append_right _ (List.mem_append_left _ hp))
theorem ab8 {iter:Expr}{body:List Stmt}{wi:TI}{g:TG}{tb:TS}{pos:Pos} (hp:PassesOwn (model X.prog X.w) X.A X.env X.xe) (hc:X.calm=true) (hi:PI X tg iter wi) (hg:PG X tg g) (hb:PSs X body tb)
  (hs:∀ x,foldedSetIterable iter X.env x=pure x:=by intro _; rfl):PS X (.For tg iter body [] pos) (amO wi g tb):=by
 intro Kp s σ H D I h
 refine wpAny_For (thn (hi Kp s σ H _ I h) fun v s1 h1=>thn h1 fun itv s2 h2=>?_) hs
 obtain ⟨it,fp,tn,J,H2,e,I2,T,st2,f2,W,⟨m0,w0⟩,turn⟩:=h2
 subst e
 have stat:∀ {H':Hp},(∀ b ∈ fp,H' b=none)->∀ b ∈ fp,ad3 X Kp H' b:=fun hn b hb=>⟨hn b hb,(f2 b hb).2⟩
 refine codeAny_forLoop_any (fun n s'=>∃ i σ' H',Inv X Kp σ' H' s'/\tn i s'.heap/\(∀ b ∈ fp,H' b=none)/\W i n σ' H') ?_ m0 ⟨0,σ,H2,I2,st2,fun b hb=>(f2 b hb).1,w0⟩
 rintro n s3 ⟨i,σ3,H3,I3,st3,fr3,w3⟩
 rcases turn i n σ3 H3 w3 with ⟨stop,qn⟩ | ⟨go,N,hN,step⟩
 ·refine wpAny_passesOwn hp (thn (T.done X rfl rfl rfl hc i Kp s3 σ3 H3 X.xe I3 (stat fr3) st3 stop) fun r s4 ⟨hr,I4⟩=>?_)
  subst hr
  exact wpAny_execs_nil ⟨σ3,H3,I4,qn⟩
 ·refine wpAny_passesOwn hp (thn (T.item X rfl rfl rfl hc i Kp s3 σ3 H3 X.xe I3 (stat fr3) st3 go) fun r s4 ⟨u,hr,h4⟩=>?_)
  subst hr
  refine wpAny_passesOwn hp (thn h4 fun _ s5 ⟨x,H5,I5,r5,y5,st5,fr5⟩=>?_)
  have I5':=I5.pinned (stat fr5) (T.obj _ _ st5)
  refine wpAny_passesOwn hp (thn (hg _ s5 σ3 H5 x u _ I5' r5 (step x H5 y5)) fun _ s6 ⟨σ6,H6,I6,q6⟩=>?_)
  refine wpAny_passesOwn hp (thn (hb _ s6 σ6 H6 _ I6 q6) fun f s7 q7=>?_)
  have again:∀ {σ7:St} {H7:Hp},Inv X (Kp++aaw fp s5.heap) σ7 H7 s7->N σ7 H7->∃ m,m<n/\∃ i σ' H',Inv X Kp σ' H' s7/\tn i s7.heap/\(∀ b ∈ fp,H' b=none)/\W i m σ' H':=fun {σ7 H7} I7 n7=>by
   obtain ⟨m',hm,w7⟩:=hN σ7 H7 n7
   refine ⟨m',hm,i+1,σ7,H7,I7.unpinned,T.keep _ _ _ st5 fun b hb o e=>(I7.pin (b,o) (List.mem_append_right _ (List.mem_append_right _ (JB hb e)))).1,fun b hb=>?_,w7⟩
   obtain ⟨o,e,d⟩:=T.obj _ _ st5 b hb
   exact (I7.pin (b,o) (List.mem_append_right _ (List.mem_append_right _ (JB hb e)))).2.1
  cases f with
  | next=>obtain ⟨σ7,H7,I7,n7⟩:=q7; exact again I7 n7
  | cont=>obtain ⟨σ7,H7,I7,n7⟩:=q7; exact again I7 n7
  | brk=>obtain ⟨σ7,H7,I7,q7⟩:=q7; exact ⟨σ7,H7,I7.unpinned,q7⟩
  | ret v=>obtain ⟨x7,σ7,H7,I7,r7,q7⟩:=q7; exact ⟨x7,σ7,H7,I7.unpinned,r7,q7⟩
end
theorem abo {lo:Int}{n:Nat}{g:TG}{tb:TS}{D:Ends}{σ:St}{H:Hp} (Pv:Nat->St->Hp->Prop) (h0:Pv 0 σ H)
  (hs:∀ i σ H,i<n->Pv i σ H->g (.int (lo+i)) σ H fun σ2 H2=>tb { D with nx:=Pv (i+1),ct:=Pv (i+1),bk:=D.nx } σ2 H2) (hd:∀ σ H,Pv n σ H->D.nx σ H):
  ∃ W:Nat->Nat->St->Hp->Prop,(∃ m,W 0 m σ H)/\∀ i m σ H,W i m σ H->
   ((Itr lo n).stop i H/\D.nx σ H) ∨ ((Itr lo n).go i H/\∃ N:St->Hp->Prop,(∀ σ' H',N σ' H'->∃ m',m' < m/\W (i+1) m' σ' H')/\∀ x H',(Itr lo n).yld i H x H'->g x σ H' fun σ2 H2=>tb { D with nx:=N,ct:=N,bk:=D.nx } σ2 H2):=by
 refine ⟨fun i m σ H=>m=n - i/\i<=n/\Pv i σ H,⟨n,by simp,Nat.zero_le _,h0⟩,?_⟩
 rintro i m σ H ⟨rfl,hi,p⟩
 by_cases hlt:i<n
 ·refine .inr ⟨hlt,Pv (i+1),fun σ' H' p'=>⟨n - (i+1),by omega,rfl,hlt,p'⟩,fun x H' y=>?_⟩
  obtain ⟨e,y⟩:=y
  subst e y
  exact hs i σ _ hlt p
 ·have e:i=n:=by omega
  subst e
  exact .inl ⟨Nat.le_refl _,hd σ H p⟩
noncomputable abbrev R2:=V->V->Hp->VK->Prop
noncomputable def OpR (X:Cx) (f:Value->Value->Sem Value) (r:R2):Prop:=
 ∀ (Kp:List (Addr × Obj)) (s:Shared) (σ:St) (H:Hp) (x y:V) (v u:Value) (Q:VK),Inv X Kp σ H s->jL x v->jL y u->r x y H Q->
  wpAny (model X.prog X.w) X.A (f v u) (EP X Kp σ Q) X.xe s
noncomputable def UnR (X:Cx) (f:Value->Sem Value) (r:V->Hp->VK->Prop):Prop:=
 ∀ (Kp:List (Addr × Obj)) (s:Shared) (σ:St) (H:Hp) (x:V) (v:Value) (Q:VK),Inv X Kp σ H s->jL x v->r x H Q->
  wpAny (model X.prog X.w) X.A (f v) (EP X Kp σ Q) X.xe s
noncomputable def zL (X:Cx) (f:Value) (r:List V->Hp->VK->Prop):Prop:=
 ∀ (Kp:List (Addr × Obj)) (s:Shared) (σ:St) (H:Hp) (xs:List V) (us:List Value) (Q:VK),Inv X Kp σ H s->jD xs us->r xs H Q->
  wpAny (model X.prog X.w) X.A (call f us) (EP X Kp σ Q) X.xe s
noncomputable def tOp (r:R2) (ta tb:TE):TE:=fun σ H Q=>ta σ H fun x H1=>tb σ H1 fun y H2=>r x y H2 Q
noncomputable def tUn (r:V->Hp->VK->Prop) (ta:TE):TE:=fun σ H Q=>ta σ H fun x H1=>r x H1 Q
noncomputable def rI (C:Int->Int->Prop) (g:Int->Int->V):R2:=fun x y H Q=>∃ i j,x= .int i/\y= .int j/\C i j/\Q (g i j) H
noncomputable def rI0 (g:Int->Int->V):R2:=fun x y H Q=>∃ i j,x= .int i/\y= .int j/\Q (g i j) H
noncomputable def rU (g:Int->V):V->Hp->VK->Prop:=fun x H Q=>∃ i,x= .int i/\Q (g i) H
section
variable {X:Cx}{a b c:Expr}{ta tb tc:TE}{pos:Pos}
theorem aiD (ha:PE X a ta) (hb:PE X b tb) {Kp:List (Addr × Obj)}{s:Shared}{σ:St}{H:Hp}{R:V->V->Hp->Prop} (I:Inv X Kp σ H s)
  (h:ta σ H fun x H1=>tb σ H1 fun y H2=>R x y H2) {Q:Value->SP0} {f:Value->Value->Sem Value}
  (hf:∀ v u s2 x y H2,Inv X Kp σ H2 s2->jL x v->jL y u->R x y H2->wpAny (model X.prog X.w) X.A (f v u) Q X.xe s2):
  wpAny (model X.prog X.w) X.A (eval a X.env) (fun v s₁=>wpAny (model X.prog X.w) X.A (eval b X.env) (fun u s₂=>wpAny (model X.prog X.w) X.A (f v u) Q X.xe s₂) X.xe s₁) X.xe s:=by
 refine thn (ha Kp s σ H _ I h) fun v s1 ⟨x,H1,I1,r1,q1⟩=>?_
 refine thn (hb Kp s1 σ H1 _ I1 q1) fun u s2 ⟨y,H2,I2,r2,q2⟩=>?_
 exact hf v u s2 x y H2 I2 r1 r2 q2
theorem ajV {op:Operator}{r:R2} (ho:OpR X (binaryOp op) r) (ha:PE X a ta) (hb:PE X b tb):PE X (.BinOp a op b pos) (tOp r ta tb):=by
 intro Kp s σ H Q I h
 exact wpAny_BinOp (aiD ha hb I h fun v u s2 x y H2 I2 rx ry q=>ho Kp s2 σ H2 x y v u Q I2 rx ry q)
theorem agK {op:UnaryOp}{r:V->Hp->VK->Prop} (ho:UnR X (unaryOp op) r) (ha:PE X a ta):PE X (.UnaryOp op a pos) (tUn r ta):=by
 intro Kp s σ H Q I h
 exact UnaryOp_ (thn (ha Kp s σ H _ I h) fun v s1 ⟨x,H1,I1,r1,q1⟩=>ho Kp s1 σ H1 x v Q I1 r1 q1)
theorem opI {f:Value->Value->Sem Value}{C:Int->Int->Prop}{g:Int->Int->Int}
  (rule:∀ (i j:Int) (t u:Tok) (s:Shared) (Q:Value->SP0) (E:Value->SP0),C i j->Q (.int (g i j) s.toks) { s with toks:=s.toks+1 }->wpAny (model X.prog X.w) X.A (f (.int i t) (.int j u)) Q E s):
  OpR X f (rI C fun i j=> .int (g i j)):=by
 intro Kp s σ H x y v u Q I rx ry h
 obtain ⟨i,j,rfl,rfl,hc,q⟩:=h
 obtain ⟨t,rfl⟩:=rx
 obtain ⟨t',rfl⟩:=ry
 exact rule i j t t' s _ _ hc ⟨.int (g i j),H,I.tok _,⟨_,rfl⟩,q⟩
theorem alN {f:Value->Value->Sem Value}{g:Int->Int->Int}
  (rule:∀ (i j:Int) (t u:Tok) (s:Shared) (Q:Value->SP0) (E:Value->SP0),Q (.int (g i j) s.toks) { s with toks:=s.toks+1 }->wpAny (model X.prog X.w) X.A (f (.int i t) (.int j u)) Q E s):
  OpR X f (rI0 fun i j=> .int (g i j)):=by
 intro Kp s σ H x y v u Q I rx ry h
 obtain ⟨i,j,rfl,rfl,q⟩:=h
 obtain ⟨t,rfl⟩:=rx
 obtain ⟨t',rfl⟩:=ry
 exact rule i j t t' s _ _ ⟨.int (g i j),H,I.tok _,⟨_,rfl⟩,q⟩
theorem ako {f:Value->Value->Sem Value}{g:Int->Int->Bool}
  (rule:∀ (i j:Int) (t u:Tok) (s:Shared) (Q:Value->SP0) (E:Value->SP0),Q (.bool (g i j)) s->wpAny (model X.prog X.w) X.A (f (.int i t) (.int j u)) Q E s):
  OpR X f (rI0 fun i j=> .bl (g i j)):=by
 intro Kp s σ H x y v u Q I rx ry h
 obtain ⟨i,j,rfl,rfl,q⟩:=h
 obtain ⟨t,rfl⟩:=rx
 obtain ⟨t',rfl⟩:=ry
 exact rule i j t t' s _ _ ⟨.bl (g i j),H,I,rfl,q⟩
noncomputable def amP (i j:Int):Prop:=0<j/\j<1073741824
noncomputable def akp (i j:Int):Prop:=(-(2 ^ 64)<i/\i<2 ^ 64) ∨ (-(2 ^ 64)<j/\j<2 ^ 64)
theorem akp.ok {i j:Int} (h:akp i j):IntMulOk i j:=by
 rcases h with ⟨h1,h2⟩ | ⟨h1,h2⟩
 ·exact .of_left (intBits_le_64 h1 h2)
 ·exact .of_right (intBits_le_64 h1 h2)
theorem akq:OpR X (binaryOp .Add) (rI0 fun i j=> .int (i+j)):=alN fun _ _ _ _ _ _ _ q=>add_int q
theorem akr:OpR X (binaryOp .Sub) (rI0 fun i j=> .int (i - j)):=alN fun _ _ _ _ _ _ _ q=>sub_int q
theorem aks:OpR X (binaryOp .Mult) (rI akp fun i j=> .int (i*j)):=opI fun _ _ _ _ _ _ _ hc q=>mul_int q hc.ok
theorem aiE:OpR X (binaryOp .FloorDiv) (rI amP fun i j=> .int (i / j)):=opI fun i j _ _ _ _ _ hc q=>by
 have h1:(0:Int)<j:=hc.1
 have h2:j<1073741824:=hc.2
 exact floordiv_int (by omega) (by rw [Int.fdiv_eq_ediv_of_nonneg i (by omega)]; exact q) (.inl (PyProof.noPylong_small (by omega)))
theorem akt:OpR X (binaryOp .Mod) (rI (fun _ j=>0<j) fun i j=> .int (i % j)):=opI fun i j _ _ _ _ _ hc q=>by
 have h1:(0:Int)<j:=hc
 exact mod_int' (by omega) (by rw [Int.fmod_eq_emod_of_nonneg i (by omega)]; exact q)
theorem unI {f:Value->Sem Value}{g:Int->Int}
  (rule:∀ (i:Int) (t:Tok) (s:Shared) (Q:Value->SP0) (E:Value->SP0),Q (.int (g i) s.toks) { s with toks:=s.toks+1 }->wpAny (model X.prog X.w) X.A (f (.int i t)) Q E s):
  UnR X f (rU fun i=> .int (g i)):=by
 intro Kp s σ H x v Q I rx h
 obtain ⟨i,rfl,q⟩:=h
 obtain ⟨t,rfl⟩:=rx
 exact rule i t s _ _ ⟨.int (g i),H,I.tok _,⟨_,rfl⟩,q⟩
theorem ad6:UnR X (unaryOp .USub) (rU fun i=> .int (-i)):=unI fun _ _ _ _ _ q=>neg_int q
end
section
variable {X:Cx}{a b c:Expr}{ta tb tc:TE}{pos:Pos}
theorem aku {Kp:List (Addr × Obj)}{σ:St}{H:Hp}{s:Shared}{Q:VK}{k k':Bool} (I:Inv X Kp σ H s) (q:Q (.bl k) H) (e:k=k'):EP X Kp σ Q (.bool k') s:=by
 subst e
 exact ⟨.bl k,H,I,rfl,q⟩
theorem alO:OpR X (compareOp .Lt) (rI0 fun i j=> .bl (decide (i<j))):=ako fun _ _ _ _ _ _ _ q=>lt_int q
theorem alP:OpR X (compareOp .LtE) (rI0 fun i j=> .bl (decide (i<=j))):=ako fun _ _ _ _ _ _ _ q=>le_int q
theorem alQ:OpR X (compareOp .Gt) (rI0 fun i j=> .bl (decide (j<i))):=ako fun _ _ _ _ _ _ _ q=>gt_int q
theorem akv:OpR X (compareOp .Is) (fun x y H Q=>y= .non/\Q (.bl (decide (x= .non))) H):=by
 intro Kp s σ H x y v u Q I rx ry h
 obtain ⟨rfl,q⟩:=h
 cases ry
 refine is_none_gen (aku I q ?_)
 cases x <;> first
  | (cases rx; rfl)
  | (obtain ⟨t,rfl⟩:=rx; rfl)
theorem OpR.or {f:Value->Value->Sem Value}{r r':R2} (h:OpR X f r) (h':OpR X f r'):OpR X f (fun x y H Q=>r x y H Q ∨ r' x y H Q):=by
 intro Kp s σ H x y v u Q I rx ry q
 rcases q with q | q
 ·exact h Kp s σ H x y v u Q I rx ry q
 ·exact h' Kp s σ H x y v u Q I rx ry q
theorem ad7 (b:Expr) {op:CmpOp} (h:op ≠ .In:=by decide) (h2:op ≠ .NotIn:=by decide):behindInMarks op b=false:=by
 have e1:(op == CmpOp.In)=false:=by cases op <;> first | rfl | exact absurd rfl h
 have e2:(op == CmpOp.NotIn)=false:=by cases op <;> first | rfl | exact absurd rfl h2
 cases b <;> simp [behindInMarks,e1,e2]
theorem aiF {op:CmpOp}{r:R2} (ho:OpR X (compareOp op) r) (ha:PE X a ta) (hb:PE X b tb) (hm:behindInMarks op b=false):PE X (.Compare a [op] [b] pos) (tOp r ta tb):=by
 intro Kp s σ H Q I h
 exact wpAny_Compare1 (aiD ha hb I h fun v u s2 x y H2 I2 rx ry q=>ho Kp s2 σ H2 x y v u Q I2 rx ry q) hm
noncomputable def ajW (t:TE):TT:=fun σ H Q=>t σ H fun x H'=>∃ k,x= .bl k/\Q k H'
theorem aiG {op:CmpOp}{r:R2} (ho:OpR X (compareOp op) r) (ha:PE X a ta) (hb:PE X b tb) (hm:behindInMarks op b=false):PT X (.Compare a [op] [b] pos) (ajW (tOp r ta tb)):=by
 intro Kp s σ H Q I h
 refine wpAny_isTrue_Compare1 (thn (ha Kp s σ H _ I h) fun v s1 ⟨x,H1,I1,r1,q1⟩=>thn (hb Kp s1 σ H1 _ I1 q1) fun u s2 ⟨y,H2,I2,r2,q2⟩=>
  thn (ho Kp s2 σ H2 x y v u _ I2 r1 r2 q2) fun c s3 ⟨z,H3,I3,r3,k,e,q3⟩=>?_) hm
 subst e
 cases r3
 exact wpAny_truthy_bool ⟨H3,I3,q3⟩
noncomputable def ad8 (r r':R2) (ta tb tc:TE):TE:=fun σ H Q=>ta σ H fun x H1=>tb σ H1 fun y H2=>r x y H2 fun z H3=>∃ k,z= .bl k/\
 (if k=true then tc σ H3 fun w' H4=>r' y w' H4 Q else Q (.bl false) H3)
theorem agL {op op':CmpOp}{r r':R2} (ho:OpR X (compareOp op) r) (ho':OpR X (compareOp op') r') (ha:PE X a ta) (hb:PE X b tb) (hc:PE X c tc)
  (hm:lastMarks [op,op'] [b,c]=false:=by with_unfolding_all rfl):PE X (.Compare a [op,op'] [b,c] pos) (ad8 r r' ta tb tc):=by
 intro Kp s σ H Q I h
 refine Compare_chain (thn (ha Kp s σ H _ I h) fun v s1 ⟨x,H1,I1,r1,q1⟩=>chain_link (thn (hb Kp s1 σ H1 _ I1 q1) fun u s2 ⟨y,H2,I2,r2,q2⟩=>
  thn (ho Kp s2 σ H2 x y v u _ I2 r1 r2 q2) fun d s3 ⟨z,H3,I3,r3,k,e,q3⟩=>?_)) hm
 subst e
 cases r3
 refine wpAny_truthy_bool ?_
 cases k with
 | false=>exact ite_ff ⟨.bl false,H3,I3,rfl,q3⟩
 | true=>exact ite_tt (chain_last (thn (hc Kp s3 σ H3 _ I3 q3) fun w' s4 ⟨z',H4,I4,r4,q4⟩=>ho' Kp s4 σ H4 y z' u w' Q I4 r2 r4 q4))
theorem agM {op op':CmpOp}{r r':R2} (ho:OpR X (compareOp op) r) (ho':OpR X (compareOp op') r') (ha:PE X a ta) (hb:PE X b tb) (hc:PE X c tc)
  (hm:lastMarks [op,op'] [b,c]=false:=by with_unfolding_all rfl):PT X (.Compare a [op,op'] [b,c] pos) (ajW (ad8 r r' ta tb tc)):=by
 intro Kp s σ H Q I h
 refine isTrue_chain (thn (ha Kp s σ H _ I h) fun v s1 ⟨x,H1,I1,r1,q1⟩=>test_link (thn (hb Kp s1 σ H1 _ I1 q1) fun u s2 ⟨y,H2,I2,r2,q2⟩=>
  thn (ho Kp s2 σ H2 x y v u _ I2 r1 r2 q2) fun d s3 ⟨z,H3,I3,r3,k,e,q3⟩=>?_)) hm
 subst e
 cases r3
 refine wpAny_truthy_bool ?_
 cases k with
 | false=>
  obtain ⟨k',e',q'⟩:=q3
  cases e'
  exact ite_ff ⟨H3,I3,q'⟩
 | true=>
  refine ite_tt (test_last (thn (hc Kp s3 σ H3 _ I3 q3) fun w' s4 ⟨z',H4,I4,r4,q4⟩=>thn (ho' Kp s4 σ H4 y z' u w' _ I4 r2 r4 q4) fun d' s5 ⟨z2,H5,I5,r5,k2,e2,q5⟩=>?_))
  subst e2
  cases r5
  exact wpAny_truthy_bool ⟨H5,I5,q5⟩
theorem aax:(sizeLine:Nat)<2 ^ 63:=by rw [sizeLine_eq]; decide
theorem ad9:OpR X (binaryOp .Add) (fun x y H Q=>∃ i j,x= .str i/\y= .str j/\i.length+j.length<=sizeLine/\Q (.str (i++j)) H):=by
 intro Kp s σ H x y v u Q I rx ry h
 obtain ⟨i,j,rfl,rfl,hz,q⟩:=h
 obtain ⟨t,rfl⟩:=rx
 obtain ⟨t',rfl⟩:=ry
 exact add_str (fun t' tk=>⟨.str (i++j),H,I.tok _,⟨_,rfl⟩,q⟩) hz
noncomputable def acY (b:Expr):Prop:=∀ o i,subscripted b false o i=operate [o,i] (getItem o i)
theorem acZ (ha:PE X a ta) (hb:PE X b tb) (hs:acY b):
  PE X (.Subscript a b pos) (tOp (fun x y H Q=>∃ z i c,x= .str z/\y= .int i/\0<=i/\i<2 ^ 63/\i<z.length/\z.cps[i.toNat]?=some c/\Q (.str ⟨#[c]⟩) H) ta tb):=by
 intro Kp s σ H Q I h
 refine Subscript_ (aiD ha hb I h fun v u s2 x y H2 I2 rx ry q=>?_)
 obtain ⟨z,i,c,rfl,rfl,h0,h63,h1,hc,q⟩:=q
 obtain ⟨t,rfl⟩:=rx
 obtain ⟨t',rfl⟩:=ry
 have e:seqIndex? i z.length=some i.toNat:=PySem.StrLaws.seqIndex_nonneg h0 h1
 exact tail_any (typeIs_str s2 z t) slot_str_getitem.lookup (getItem_str (c:=c) (by
  have e1:decide (i < -(2 ^ 63:Int))=false:=decide_eq_false (by omega)
  have e2:decide (i >= 2 ^ 63)=false:=decide_eq_false (by omega)
  rw [e1,e2] <;> rfl) (by rw [e]; exact hc) ⟨.str ⟨#[c]⟩,H2,I2.tok _,⟨_,rfl⟩,q⟩) (hs _ _)
theorem aeS {x:V}{us:List Value} (r:jD [x] us):∃ u,us=[u]/\jL x u:=by
 cases r with
 | cons r1 r2=>cases r2; exact ⟨_,rfl,r1⟩
theorem aeT {x y:V}{us:List Value} (r:jD [x,y] us):∃ u w',us=[u,w']/\jL x u/\jL y w':=by
 cases r with
 | cons r1 r2=>
  cases r2 with
  | cons r3 r4=>cases r4; exact ⟨_,_,rfl,r1,r3⟩
theorem afQ (hc:X.calm=true):zL X (.builtin "max") (fun xs H Q=>∃ i j,xs=[.int i,.int j]/\Q (.int (if j > i then j else i)) H):=by
 intro Kp s σ H xs us Q I r h
 obtain ⟨i,j,rfl,q⟩:=h
 obtain ⟨u,w',rfl,⟨t,rfl⟩,⟨t',rfl⟩⟩:=aeT r
 refine max_two_ints (I.ok.hd hc) fun h' tk k=>⟨_,H,I.kept k,?_,q⟩
 by_cases hj:j > i
 ·rw [if_pos hj,if_pos hj]; exact ⟨_,rfl⟩
 ·rw [if_neg hj,if_neg hj]; exact ⟨_,rfl⟩
theorem afR (hc:X.calm=true):zL X (.builtin "min") (fun xs H Q=>∃ i j,xs=[.int i,.int j]/\Q (.int (if j<i then j else i)) H):=by
 intro Kp s σ H xs us Q I r h
 obtain ⟨i,j,rfl,q⟩:=h
 obtain ⟨u,w',rfl,⟨t,rfl⟩,⟨t',rfl⟩⟩:=aeT r
 refine min_two_ints (I.ok.hd hc) fun h' tk k=>⟨_,H,I.kept k,?_,q⟩
 by_cases hj:j<i
 ·rw [if_pos hj,if_pos hj]; exact ⟨_,rfl⟩
 ·rw [if_neg hj,if_neg hj]; exact ⟨_,rfl⟩
end
structure ObjM (h:Heap) (x dx C:Addr) (mA:SV):Prop where
 obj:h.get? x=some (PySem.W.instObj C dx)
 ns:h.Ns1 dx mA
 ne:dx ≠ x
section
variable {prog:Program}{w:World}{A:Around}{E:Value->SP0}{s:Shared}{K:Fg}{x dx C f:Addr}{mA:SV}{name:Str}{v:Value}
end
noncomputable def akw (f:Str) (v:V):List (Str × V)->List (Str × V)
 | []=>[(f,v)]
 | (g,x)::r=>if g=f then (g,v)::r else (g,x)::akw f v r
theorem Z9.some_of {v:V}{o:Option Value} (r:Z9 (some v) o):∃ u,o=some u/\jL v u:=by
 cases o with
 | none=>exact (show False from r).elim
 | some u=>exact ⟨u,rfl,r⟩
section
variable {P:Program}{w:World}{H H':Hp}{h h':Heap}{a C dx:Addr}{fs fs':List (Str × V)}
end
structure Cls (K:Fg) (C:Addr):Prop where
 pg:PySem.W.plainGet K C Str.empty=true
 hd:PySem.W.hasDictIn K C=true
 po:PySem.W.plainOver K C=true
 sa:PySem.W.findIn K (.ref C) "__setattr__"=some (some (.builtin "object.__setattr__"))
theorem Cls.get {K:Fg}{C:Addr} (c:Cls K C) (f:Str):PySem.W.plainGet K C f=true:=c.pg
noncomputable def akx (K:Fg) (C:Addr) (f:Str):Prop:=PySem.W.findIn K (.ref C) f=some none
structure Con (K:Fg) (C:Addr) (f:Str) (v:V) (u:Value):Prop where
 at_:PySem.W.findIn K (.ref C) f=some (some u)
 rel:jL v u
 get:PySem.W.specialIn K u "__get__"=some none
 cp:PySem.W.copiedNames.contains f=false
structure Meth (K:Fg) (C:Addr) (m:Str) (f:Addr):Prop where
 at_:PySem.W.findIn K (.ref C) m=some (some (.ref f))
 fn:PySem.W.isFn K (.ref f)=true
 kp:PySem.W.keepIn K (.ref f)=true
section
variable {X:Cx}{Kp:List (Addr × Obj)}{σ:St}{H:Hp}{s:Shared}{a C dx:Addr}{fs:List (Str × V)}{f:Str}{v:V}{A:Around}{E:Value->SP0}
end
section
variable {X:Cx}{o e value:Expr}{f:Str}{pos pos' tpos:Pos}{ta tv:TE}
end
section
variable {X:Cx}{Kp:List (Addr × Obj)}{σ:St}{H:Hp}{s:Shared}{A:Around}{E:Value->SP0}{Q:Value->SP0}{c:Value}{b:Bool}
inductive TyOf (K:Fg) (H:Hp):V->Value->Prop where
 | non:TyOf K H .non (.type "NoneType")
 | bl (x:Bool):TyOf K H (.bl x) (.type "bool")
 | int (i:Int):TyOf K H (.int i) (.type "int")
 | str (x:Str):TyOf K H (.str x) (.type "str")
 | flt (x:UInt64):TyOf K H (.flt x) (.type "float")
 | lst {a:Addr} {xs:List V} (e:H a=some (.lst xs)):TyOf K H (.ref a) (.type "list")
 | frz {a:Addr} {o:Obj} {xs:List V} (e:H a=some (.frz o (.lst xs))):TyOf K H (.ref a) (.type "list")
 | tup {a:Addr} {xs:List V} (e:H a=some (.tup xs)):TyOf K H (.ref a) (.type "tuple")
 | dK {a:Addr} {kvs:List (Key × V)} (e:H a=some (.dK kvs)):TyOf K H (.ref a) (.type "dict")
 | dT {a:Addr} {kvs:List (List Key × V)} (e:H a=some (.dT kvs)):TyOf K H (.ref a) (.type "dict")
 | ins {a C dx:Addr} {fs:List (Str × V)} (e:H a=some (.ins C dx fs)) (cl:Cls K C) (ha:PySem.W.findIn K (.ref C) "__class__"=some (some (.builtin "object.__class__")))
   (hn:PySem.W.specialIn K (.builtin "object.__class__") "__get__"=some (some (.builtin "getset_descriptor.__get__"))) (htk:PySem.W.takesIn K (.builtin "object.__class__")=some true)
   (hm:PySem.W.mroIn K C (.type "object")=some true):TyOf K H (.ref a) (.ref C)
end
structure Room (k:Nat) (A:Around):Prop where
 hd:A.handled=none
 dp:A.depth+3*k+5<recursionLimit
 un:A.units+16*k+200<cLine
theorem Room.mono {j k:Nat}{A:Around} (r:Room k A) (h:j<=k):Room j A:=⟨r.hd,by have:=r.dp; omega,by have:=r.un; omega⟩
theorem Room.deeper {k:Nat}{A:Around} (r:Room (k+1) A) (env:Env):Room k (A.deeper env):=
 ⟨r.hd,by have:=r.dp; show A.depth+1+3*k+5<_; omega,by have:=r.un; show A.units+3+16*k+200<_; omega⟩
theorem Room.in1 {k:Nat}{A:Around} (r:Room (k+1) A):Room k A.in1:=
 ⟨r.hd,by have:=r.dp; show A.depth+3*k+5<_; omega,by have:=r.un; show A.units+1+16*k+200<_; omega⟩
theorem Room.depth {k:Nat}{A:Around} (r:Room k A):A.depth<recursionLimit:=by have:=r.dp; omega
theorem Room.units {k:Nat}{A:Around} (r:Room k A):A.units+64<cLine:=by have:=r.un; omega
noncomputable def amQ:TA:=fun _ H Q=>Q [] H
noncomputable def alR (ta:TE) (tr:TA):TA:=fun σ H Q=>ta σ H fun x H1=>tr σ H1 fun xs H2=>Q (x::xs) H2
section
variable {X:Cx}{e:Expr}{es:List Expr}{te:TE}{t:TA}{pos:Pos}
theorem aea {α:Type}:∀ (us:List α),us.length=1->∃ a,us=[a]
 | [a],_=>⟨a,rfl⟩
theorem Zx {α:Type} (us:List α) (h:us.length=2):∃ a b,us=[a,b]:=by
 cases us with
 | nil=>cases h
 | cons a r=>obtain ⟨b,rfl⟩:=aea r (Nat.succ.inj h); exact ⟨a,b,rfl⟩
theorem aky {α:Type} (us:List α) (h:us.length=3):∃ a b c,us=[a,b,c]:=by
 cases us with
 | nil=>cases h
 | cons a r=>obtain ⟨b,c,rfl⟩:=Zx r (Nat.succ.inj h); exact ⟨a,b,c,rfl⟩
theorem amR {α:Type} (us:List α) (h:us.length=4):∃ a b c d,us=[a,b,c,d]:=by
 cases us with
 | nil=>cases h
 | cons a r=>obtain ⟨b,c,d,rfl⟩:=aky r (Nat.succ.inj h); exact ⟨a,b,c,d,rfl⟩
theorem zM:PA X [] amQ:=fun _ _ _ _ H Q I h=>Calls.spliced_nil ⟨[],H,I,.nil,h⟩
theorem qr (ha:PE X e te) (hr:PA X es t) (hs:starEach (e::es) X.env=(false,eval e X.env)::starEach es X.env:=by rfl):PA X (e::es) (alR te t):=by
 intro pos Kp s σ H Q I h
 rw [hs]
 show wpAny _ _ (spliced ((false,eval e X.env)::backTo pos (starEach es X.env))) _ _ s
 refine Calls.spliced_cons (thn (ha Kp s σ H _ I h) fun u s1 ⟨x,H1,I1,r1,q1⟩=>?_)
 exact thn (hr pos Kp s1 σ H1 _ I1 q1) fun us s2 ⟨xs,H2,I2,r2,q2⟩=>⟨x::xs,H2,I2,.cons r1 r2,q2⟩
noncomputable def amS (t:TA):TE:=fun σ H Q=>t σ H fun xs H1=>xs.length<=sizeLine/\∀ p,H1 p=none->Q (.ref p) (upd H1 p (.tup xs))
noncomputable def amT (t:TA):TE:=fun σ H Q=>t σ H fun xs H1=>xs.length<=sizeLine/\∀ p,H1 p=none->Q (.ref p) (upd H1 p (.lst xs))
theorem agN {x1} (h:PA X es t):PE X (.Tuple es x1 pos) (amS t):=by
 intro Kp s σ H Q I hq
 refine wpAny_Tuple_spliced (thn (h pos Kp s σ H _ I hq) fun us s1 ⟨xs,H1,I1,r,z,q⟩=>⟨by rw [←r.length]; exact z,?_⟩)
 have hf:H1 s1.heap.objs.size=none:=I1.hok.fresh (Nat.le_refl _)
 refine ⟨.ref s1.heap.objs.size,upd H1 s1.heap.objs.size (.tup xs),I1.laid (t':=s1.toks) (fun b u e=>Heap.get?_push_of_some _ e) (Nat.le_refl _) ?_,rfl,q _ hf⟩
 exact ⟨z,us,r,⟨_,Heap.get?_push_size _ rfl,rfl,_,rfl⟩⟩
theorem agO (h:PA X es t):PE X (.List es pos) (amT t):=by
 intro Kp s σ H Q I hq
 refine wpAny_List_spliced (thn (h pos Kp s σ H _ I hq) fun us s1 ⟨xs,H1,I1,r,z,q⟩=>⟨by rw [←r.length]; exact z,?_⟩)
 have hf:H1 s1.heap.objs.size=none:=I1.hok.fresh (Nat.le_refl _)
 refine ⟨.ref s1.heap.objs.size,upd H1 s1.heap.objs.size (.lst xs),I1.laid (t':=s1.toks) (fun b u e=>Heap.get?_push_of_some _ e) (Nat.le_refl _) ?_,rfl,q _ hf⟩
 exact ⟨z,us,0,r,Heap.get?_push_size _ rfl⟩
end
noncomputable abbrev Sp:=List V->Hp->VK->XK->Prop
noncomputable abbrev CXT:=List Env->Hp->Shared->XK->Value->SP0
structure Env0 (P:Program) (w:World) (K:Fg) (mg:SV) (base:Heap) (A:Around) (Ko:List Env) (s:Shared) (H:Hp):Prop where
 frames:A.frames=some Ko
 mod:Mod K mg base
 bs:∀ b o,base.get? b=some o->s.heap.get? b=some o/\H b=none
 bsz:base.objs.size<=s.heap.objs.size
 funs:s.heap.FunFrames base Ko
 frf:∀ b ∈ frs Ko,H b=none
 hok:HOk P w H s.heap
 bare:AllBare s.gens
noncomputable def CE (Ko:List Env) (P:Program) (w:World) (H:Hp) (s:Shared) (Q:VK) (u:Value) (s':Shared):Prop:=
 ∃ v H',s'.os=s.os/\AllBare s'.gens/\Un (frs Ko) [] H H' s.heap s'.heap/\HOk P w H' s'.heap/\jL v u/\Q v H'
noncomputable def CR (CX:CXT) (Ko:List Env) (P:Program) (w:World) (H:Hp) (s:Shared) (Q:VK) (E:XK) (r:Result) (s':Shared):Prop:=
 match r with
 | .ok (.ret u)=>CE Ko P w H s Q u s'
 | .ok _=>False
 | .error e=>CX Ko H s E e s'
structure FnOk (P:Program) (w:World) (K:Fg) (mg:SV) (base:Heap) (CX:CXT) (k:Nat) (f:Addr) (fd:FuncData) (ps:List Str) (sp:Sp):Prop where
 len:∀ vs H Q E,sp vs H Q E->vs.length=ps.length
 run:∀ (A:Around) (Ko:List Env) (s:Shared) (H:Hp) (args:Args) (us:List Value) (vs:List V) (Q:VK) (E:XK),Room k A->Env0 P w K mg base A Ko s H->BindsTo s fd args (ps.zip us)->jD vs us->sp vs H Q E->
  codeAny (model P w) A (.call (.ref f) args) (CR CX Ko P w H s Q E) s
theorem FnOk.mono {P:Program}{w:World}{K:Fg}{mg:SV}{base:Heap}{CX:CXT}{j k:Nat}{f:Addr}{fd:FuncData}{ps:List Str}{sp:Sp} (F:FnOk P w K mg base CX j f fd ps sp) (h:j<=k):
  FnOk P w K mg base CX k f fd ps sp:=⟨F.len,fun A Ko s H args us vs Q E hr=>F.run A Ko s H args us vs Q E (hr.mono h)⟩
theorem FnOk.imp {P:Program}{w:World}{K:Fg}{mg:SV}{base:Heap}{CX:CXT}{k:Nat}{f:Addr}{fd:FuncData}{ps:List Str}{sp sp':Sp} (F:FnOk P w K mg base CX k f fd ps sp)
  (h:∀ vs H Q E,sp' vs H Q E->sp vs H Q E):FnOk P w K mg base CX k f fd ps sp':=
 ⟨fun vs H Q E q=>F.len vs H Q E (h _ _ _ _ q),fun A Ko s H args us vs Q E hr he hb hv hs=>F.run A Ko s H args us vs Q E hr he hb hv (h _ _ _ _ hs)⟩
theorem Env0.in1 {P:Program}{w:World}{K:Fg}{mg:SV}{base:Heap}{A:Around}{Ko:List Env}{s:Shared}{H:Hp} (e:Env0 P w K mg base A Ko s H):
  Env0 P w K mg base A.in1 Ko s H:=⟨e.frames,e.mod,e.bs,e.bsz,e.funs,e.frf,e.hok,e.bare⟩
section
variable {X:Cx}{Kp:List (Addr × Obj)}{σ:St}{H:Hp}{s s':Shared}
theorem Inv.env0 (I:Inv X Kp σ H s):Env0 X.prog X.w X.K X.mg X.base X.A X.stack s H:=
 ⟨I.ok.frames,I.ok.mod,I.bs,Nat.le_trans I.ok.bsz I.sz,I.stack,I.stkFree,I.hok,I.bare⟩
theorem Inv.after {Q:VK}{u:Value} (I:Inv X Kp σ H s) (h:CE X.stack X.prog X.w H s Q u s'):EP X Kp σ Q u s':=by
 obtain ⟨v,H',os,bare,un,hok,r,q⟩:=h
 obtain ⟨hh,g,d,t,os'⟩:=s'
 obtain rfl:os'=s.os:=os
 exact ⟨v,H',I.call (h':=hh) (g':=g) (d':=d) (t':=t) (ch:=[]) un hok bare (fun b z=>absurd z (by simp)),r,q⟩
end
noncomputable def alS (sp:Sp) (dvs:List V) (E:XK) (t:TA):TE:=fun σ H Q=>t σ H fun vs H1=>sp (vs++dvs) H1 Q E
noncomputable def QJ (K:Fg) (fd:FuncData) (ps:List Str) (ds:List Value):Prop:=
 ∀ (s:Shared) (us:List Value),K.In s.heap->(us++ds).length=ps.length->BindsTo s fd ⟨us,[]⟩ (ps.zip (us++ds))
theorem QJ.all {K:Fg}{fd:FuncData}{ps:List Str} (h:∀ us:List Value,us.length=ps.length->bindArgs fd ⟨us,[]⟩=pure (ps.zip us)):QJ K fd ps []:=fun s us _ hl=>by
 rw [List.append_nil] at hl ⊢
 exact .of_eq (h us hl)
noncomputable def aeb (CX:CXT) (X:Cx) (E:XK):Prop:=∀ (Kp:List (Addr × Obj)) (σ:St) (H:Hp) (s:Shared) (e:Value) (s':Shared),Inv X Kp σ H s->CX X.stack H s E e s'->X.xe e s'
section
variable {X:Cx}{CX:CXT}{k:Nat}{f C:Addr}{fd:FuncData}{ps:List Str}{sp:Sp}{dvs:List V}{ds:List Value}{E:XK}{x m:Str}{p pos apos:Pos}{e o:Expr}{es:List Expr}{ta:TE}{t:TA}
theorem akz {Kp:List (Addr × Obj)}{σ:St}{H:Hp}{s:Shared}{Q:VK}{us:List Value}{vs:List V} (F:FnOk X.prog X.w X.K X.mg X.base CX k f fd ps sp) (hr:Room k X.A) (hb:QJ X.K fd ps ds) (hd:jD dvs ds) (hx:aeb CX X E)
  (I:Inv X Kp σ H s) (r:jD vs us) (h:sp (vs++dvs) H Q E):wpAny (model X.prog X.w) X.A (call (.ref f) us) (EP X Kp σ Q) X.xe s:=by
 have r2:jD (vs++dvs) (us++ds):=r.append hd
 have hl:(us++ds).length=ps.length:=by rw [←r2.length]; exact F.len _ _ _ _ h
 refine wpAny_call (codeAny_mono (F.run X.A X.stack s H ⟨us,[]⟩ (us++ds) (vs++dvs) Q E hr I.env0 (hb s us I.kIn hl) r2 h) fun r s' hq=>?_)
 cases r with
 | error e=>exact hx Kp σ H s e s' I hq
 | ok fl=>
  cases fl with
  | ret u=>exact I.after hq
  | next=>exact False.elim hq
  | brk=>exact False.elim hq
  | cont=>exact False.elim hq
theorem aiH (F:FnOk X.prog X.w X.K X.mg X.base CX k f fd ps sp) (hr:Room k X.A) (hg:Gl X x) (hm:X.mg x=some (.ref f)) (hk:PySem.W.keepIn X.K (.ref f)=true) (hb:QJ X.K fd ps ds) (hd:jD dvs ds) (hx:aeb CX X E)
  (ha:PA X (e::es) t) (hdb:(x == ("__debug__":Str))=false:=by decide) (he:starEach (e::es) X.env=(false,eval e X.env)::starEach es X.env:=by rfl) (hpl:(backTo pos (starEach es X.env)).any (·.1)=false:=by rfl):
  PE X (.Call (.Name x p) (e::es) [] pos) (alS sp dvs E t):=by
 intro Kp s σ H Q I h
 refine wpAny_Call_Name_kw (aaj I hg hm ?_ hdb)
 refine PySem.W.callWith_K (h₀:=X.base) I.ok.mod.kin hk (thn (ha pos Kp s σ H _ I h) fun us s1 ⟨vs,H1,I1,r,q⟩=>⟨I1.kIn,?_⟩) he hpl
 exact akz F hr hb hd hx I1 r q
structure Mk (K:Fg) (C f:Addr):Prop where
 makes:PySem.W.makesIn K C=true
 init:PySem.W.findIn K (.ref C) "__init__"=some (some (.ref f))
 fn:PySem.W.isFn K (.ref f)=true
 kp:PySem.W.keepIn K (.ref C)=true
end
section
variable {X:Cx}{CX:CXT}{k:Nat}{f C:Addr}{fd:FuncData}{ps ks:List Str}{sp:Sp}{E:XK}{x m:Str}{p pos apos kpos:Pos}{e o:Expr}{es:List Expr}{kws:List Keyword}{te ta:TE}{t tk:TA}{nm:Option Str}
structure KBinds (K:Fg) (fd:FuncData) (ps ks:List Str) (g:List Value->List Value->List Value) (gV:List V->List V->List V):Prop where
 to:∀ (s:Shared) (us ws:List Value),K.In s.heap->(g us ws).length=ps.length->BindsTo s fd ⟨us,ks.zip ws⟩ (ps.zip (g us ws))
 rel:∀ {vs:List V} {us:List Value} {zs:List V} {ws:List Value},jD vs us->jD zs ws->jD (gV vs zs) (g us ws)
variable {g:List Value->List Value->List Value}{gV:List V->List V->List V}
end
structure FnScope (N P:List Str) (sc:Scope):Prop where
 kind:sc.kind= .function
 co:sc.isCoroutine=false
 gen:sc.isGenerator=false
 nd:N.Nodup
 pre:N.take P.length=P
 par:∀ x ∈ P,sc.names.lookup x=some .local ∨ sc.names.lookup x=some .cell
 nofree:∀ y ∈ sc.names,y.2 ≠ .free
theorem abp {kindOf:Str->Option NameKind}{x:Str}:∀ {binds:List (Str × Value)}{m:SV},(∀ v,(x,v) ∉ binds)->bindL kindOf binds m x=m x
 | [],_,_=>rfl
 | (n,v)::r,m,h=>by
  unfold bindL
  rw [abp fun w hw=>h w (List.mem_cons_of_mem _ hw)]
  split
  ·have:x ≠ n:=by rintro rfl; exact h v List.mem_cons_self
   simp [this]
  ·rfl
theorem abq {kindOf:Str->Option NameKind}{x:Str}:∀ {binds:List (Str × Value)}{m:SV},(∀ v,(x,v) ∉ binds)->bindC kindOf binds m x=m x
 | [],_,_=>rfl
 | (n,v)::r,m,h=>by
  unfold bindC
  rw [abq fun w hw=>h w (List.mem_cons_of_mem _ hw)]
  split
  ·rfl
  ·have:x ≠ n:=by rintro rfl; exact h v List.mem_cons_self
   simp [this]
theorem abr {kindOf:Str->Option NameKind}{x:Str}{v:Value}:∀ {P:List Str}{vs:List Value}{i:Nat}{m:SV},P.Nodup->P[i]?=some x->vs[i]?=some v->kindOf x=some .local->
  bindL kindOf (P.zip vs) m x=some v
 | [],_,_,_,_,h,_,_=>by simp at h
 | _::_,[],_,_,_,_,h,_=>by simp at h
 | p::P,w::vs,0,m,nd,h1,h2,hk=>by
  simp at h1 h2; subst h1; subst h2
  show bindL kindOf ((p,w)::P.zip vs) m p=_
  unfold bindL
  rw [abp fun v hv=>(List.nodup_cons.mp nd).1 (List.of_mem_zip hv).1,if_pos hk]
  simp
 | p::P,w::vs,i+1,m,nd,h1,h2,hk=>by
  show bindL kindOf ((p,w)::P.zip vs) m x=_
  unfold bindL
  exact abr (i:=i) (List.nodup_cons.mp nd).2 (by simpa using h1) (by simpa using h2) hk
theorem abt {kindOf:Str->Option NameKind}{x:Str}{v:Value}:∀ {P:List Str}{vs:List Value}{i:Nat}{m:SV},P.Nodup->P[i]?=some x->vs[i]?=some v->kindOf x ≠ some .local->
  bindC kindOf (P.zip vs) m x=some v
 | [],_,_,_,_,h,_,_=>by simp at h
 | _::_,[],_,_,_,_,h,_=>by simp at h
 | p::P,w::vs,0,m,nd,h1,h2,hk=>by
  simp at h1 h2; subst h1; subst h2
  show bindC kindOf ((p,w)::P.zip vs) m p=_
  unfold bindC
  rw [abq fun v hv=>(List.nodup_cons.mp nd).1 (List.of_mem_zip hv).1,if_neg hk]
  simp
 | p::P,w::vs,i+1,m,nd,h1,h2,hk=>by
  show bindC kindOf ((p,w)::P.zip vs) m x=_
  unfold bindC
  exact abt (i:=i) (List.nodup_cons.mp nd).2 (by simpa using h1) (by simpa using h2) hk
noncomputable def zN (N:List Str) (vs:List V):St:=vs.map some++List.replicate (N.length - vs.length) none
noncomputable def Jf (CX:CXT) (P:Program) (w:World) (K:Fg) (mg:SV) (base:Heap) (N:List Str) (qual:Str) (scope:Scope) (f:Addr) (cd:Value) (A:Around) (Ko:List Env) (s:Shared) (H:Hp) (E:XK):Cx where
 prog:=P
 w:=w
 K:=K
 mg:=mg
 base:=base
 A:=A.deeper (envOfC qual scope s.heap.objs.size f cd)
 N:=N
 s₀:=s
 H₀:=H
 env:=envOfC qual scope s.heap.objs.size f cd
 Ko:=Ko
 stack:=envOfC qual scope s.heap.objs.size f cd::Ko
 ex:=[]
 calm:=true
 fn:=fun _=>true
 pn:=[]
 xe:=fun e s'=>wpAny (model P w) (A.deeper (envOfC qual scope s.heap.objs.size f cd)) (leaving (envOfC qual scope s.heap.objs.size f cd) e) (fun _ s''=>CX Ko H s E e s'') (fun e' s''=>CX Ko H s E e' s'') s'
theorem ac0 {sc:Scope}{n:Nat}{x:Str} (h:sc.names.lookup x=some .cell):∃ c,(cellsFrom n sc.names []).lookup x=some c:=by
 have q:=PySem.W.cellsFrom_some sc.names n [] (.inl h)
 exact Option.isSome_iff_exists.mp q
theorem abu {CX:CXT}{P:Program}{w:World}{K:Fg}{mg:SV}{base:Heap}{N ps:List Str}{qual:Str}{scope:Scope}{f:Addr}{cd:Value}{A:Around}{Ko:List Env}{s s1:Shared}{H:Hp}{E:XK}{us:List Value}{vs:List V}
  (S:FnScope N ps scope) (hd:A.handled=none) (e0:Env0 P w K mg base A Ko s H) (hl:vs.length=ps.length) (r:jD vs us)
  (x:InCallC s s.heap.objs.size (bindL (envOfC qual scope s.heap.objs.size f cd).kindOf (ps.zip us) fun _=>none) (cellsFrom (s.heap.objs.size+1) scope.names []) (bindC (envOfC qual scope s.heap.objs.size f cd).kindOf (ps.zip us) fun _=>none) s1):
  Inv (Jf CX P w K mg base N qual scope f cd A Ko s H E) [] (zN N vs) H s1:=by
 have hpl:ps.length<=N.length:=by have:=congrArg List.length S.pre; rw [List.length_take] at this; omega
 obtain ⟨h1,tk,rfl,hk⟩:=x.done
 have noA:∀ b:Addr,b ∉ (Jf CX P w K mg base N qual scope f cd A Ko s H E).ex:=fun b z=>absurd (show b ∈ ([]:List Addr) from z) (by simp)
 refine ⟨⟨e0.mod,S.kind,rfl,rfl,Nat.le_refl _,fun y z c h1 h2=>?_,fun y hy=>?_,fun y c _ h=>?_,fun _=>hd,Around.frames_deeper e0.frames,.inr ⟨rfl,rfl⟩,fun b z=>absurd z (noA b),e0.bs,e0.bsz,fun b _ _=>noA b,fun b z=>absurd z (noA b),e0.funs,e0.frf⟩,
  rfl,e0.bare,Un.kept hk,⟨_,x.toInCall.ns,fun i y v h1 h2 h3=>?_⟩,fun y c h=>⟨_,x.cell y c h⟩,e0.hok.fresh (Nat.le_refl _),fun y c h=>?_,fun p hp=>absurd (show p ∈ ([]:List (Addr × Obj)) from hp) (by simp),e0.hok.kept hk,?_⟩
 ·exact name_of_addr x.apart (PySem.mem_of_lookup h1) (PySem.mem_of_lookup h2)
 ·have hy:scope.names.lookup y=some .cell ∨ scope.names.lookup y=some .free:=hy
  rcases hy with hy | hy
  ·exact ac0 hy
  ·exact absurd rfl (S.nofree _ (PySem.mem_of_lookup hy))
 ·exact Nat.le_of_lt (x.above y c (PySem.mem_of_lookup h))
 ·have hi:i<vs.length:=by
   unfold zN at h2
   by_cases hi:i<vs.length
   ·exact hi
   ·rw [List.getElem?_append_right (by simpa using hi)] at h2
    rw [List.getElem?_replicate] at h2
    split at h2 <;> cases h2
  have ha:vs[i]?=some v:=by
   unfold zN at h2
   rw [List.getElem?_append_left (by simpa using hi),List.getElem?_map] at h2
   cases e:vs[i]? with
   | none=>rw [e] at h2; cases h2
   | some a=>rw [e] at h2; cases h2; rfl
  obtain ⟨u,hu,rv⟩:=r.get ha
  have hp:ps[i]?=some y:=by
   rw [←S.pre,List.getElem?_take_of_lt (by omega)]; exact h1
  have ndP:ps.Nodup:=by rw [←S.pre]; exact S.nd.sublist (List.take_sublist _ _)
  refine ⟨u,rv,?_⟩
  rcases S.par y (List.mem_of_getElem? hp) with k | k
  ·exact .inl ⟨k,abr ndP hp hu k⟩
  ·obtain ⟨c,e⟩:=ac0 (n:=s.heap.objs.size+1) k
   refine .inr ⟨.inl k,c,e,?_⟩
   have q:=x.cell y c e
   rw [abt ndP hp hu (by show scope.names.lookup y ≠ _; rw [k]; decide)] at q
   exact q
 ·exact e0.hok.fresh (Nat.le_of_lt (x.above y c (PySem.mem_of_lookup h)))
 ·unfold zN
  show _=N.length
  rw [List.length_append,List.length_map,List.length_replicate]
  omega
theorem alT {CX:CXT}{P:Program}{w:World}{K:Fg}{mg:SV}{base:Heap}{k:Nat}{f:Addr}{name qual:Str}{params:Arguments}{body:List Stmt}{scope:Scope}{dV kV doc pm Kc ct oc:Value}{an od:Option Addr}
  {osl:Array (Option Value)} {N ps:List Str} {sp:Sp} (lk:K.lookup f=some ⟨oc,od,.func (PySem.W.fnOf name qual params body scope dV kV doc pm an Kc ct),osl⟩) (hcd:PySem.W.codeIn K Kc qual=true) (S:FnScope N ps scope)
  (len:∀ vs H Q E,sp vs H Q E->vs.length=ps.length)
  (hbody:∀ (A:Around) (Ko:List Env) (s:Shared) (H:Hp) (vs:List V) (Q:VK) (E:XK),Room k (A.deeper (envOfC qual scope s.heap.objs.size f Kc))->sp vs H Q E->
   ∃ t,PSs (Jf CX P w K mg base N qual scope f Kc A Ko s H E) body t/\t { nx:=fun _ H'=>Q .non H',rt:=Q } (zN N vs) H):
  FnOk P w K mg base CX (k+1) f (PySem.W.fnOf name qual params body scope dV kV doc pm an Kc ct) ps sp:=by
 refine ⟨len,fun A Ko s H args us vs Q E hr e0 hb r hsp=>?_⟩
 have hl:=len _ _ _ _ hsp
 have KX:K.In s.heap:=e0.mod.kin.keeps fun b o e=>(e0.bs b o e).1
 have lim:s.heap.NoLimit:=e0.mod.nolimit.keeps fun b o e=>(e0.bs b o e).1
 have hkind:∀ y ∈ ps.zip us,scope.names.lookup y.1=some .local ∨ (scope.names.lookup y.1=some .cell/\((cellsFrom (s.heap.objs.size+1) scope.names []).lookup y.1).isSome=true):=fun ⟨n,v⟩ hy=>by
  rcases S.par n (List.of_mem_zip hy).1 with q | q
  ·exact .inl q
  ·exact .inr ⟨q,PySem.W.cellsFrom_some _ _ _ (.inl q)⟩
 refine codeAny_call_function hr.depth (KX _ _ lk) rfl S.co S.gen rfl (PySem.W.codeRec_of KX hcd) (hb _ _ _ _ ?_)
 refine wpAny_newFunctionEnv_cells S.kind hkind fun env he s1 x=>?_
 subst he
 refine ⟨lim.keeps x.toInCall.keep,codeAny_func ?_⟩
 obtain ⟨t,ht,hq⟩:=hbody A Ko s H vs Q E (hr.deeper _) hsp
 have I:Inv (Jf CX P w K mg base N qual scope f Kc A Ko s H E) [] (zN N vs) H s1:=abu S hr.hd e0 hl r x
 refine wpAny_mono (ht [] s1 (zN N vs) H _ I hq) (fun fl s' hs=>?_) fun e s' hs=>hs
 have fin:∀ {σ':St} {H':Hp} {v:V} {u:Value},Inv (Jf CX P w K mg base N qual scope f Kc A Ko s H E) [] σ' H' s'->jL v u->Q v H'->CE Ko P w H s Q u s':=
  fun {σ' H' v u} J rv q=>⟨v,H',J.os,J.bare,J.base,J.hok,rv,q⟩
 cases fl with
 | ret u=>
  obtain ⟨v,σ',H',J,rv,q⟩:=hs
  exact fin J rv q
 | next=>
  obtain ⟨σ',H',J,q⟩:=hs
  exact fin (v:=V.non) (u:=Value.none) J rfl q
 | brk=>
  obtain ⟨_,_,_,q⟩:=hs
  exact False.elim q
 | cont=>
  obtain ⟨_,_,_,q⟩:=hs
  exact False.elim q
section
variable {X:Cx}{x:Str}{p pos:Pos}{e:Expr}{es:List Expr}{t:TA}{id T:String}{r:List V->Hp->VK->Prop}
noncomputable def tCB (r:List V->Hp->VK->Prop) (t:TA):TE:=fun σ H Q=>t σ H fun vs H1=>r vs H1 Q
theorem JX (hc:zL X (.builtin id) r) (hg:Gl X x) (hm:X.mg x=none) (hv:bootBuiltins x=some (.builtin id)) (ha:PA X (e::es) t) (hn:x ≠ "__name__":=by decide) (hdb:(x == ("__debug__":Str))=false:=by decide)
  (he:starEach (e::es) X.env=(false,eval e X.env)::starEach es X.env:=by rfl) (hpl:(backTo pos (starEach es X.env)).any (·.1)=false:=by rfl):PE X (.Call (.Name x p) (e::es) [] pos) (tCB r t):=by
 intro Kp s σ H Q I h
 refine wpAny_Call_Name_kw (aav I hg hm hv ?_ hn hdb)
 exact PyProof.Rows.callWith_builtin1 (thn (ha pos Kp s σ H _ I h) fun us s1 ⟨vs,H1,I1,r1,q1⟩=>hc Kp s1 σ H1 vs us Q I1 r1 q1) he hpl
theorem afS (hc:zL X (.type T) r) (hg:Gl X x) (hm:X.mg x=none) (hv:bootBuiltins x=some (.type T)) (ha:PA X (e::es) t) (hn:x ≠ "__name__":=by decide) (hdb:(x == ("__debug__":Str))=false:=by decide)
  (he:starEach (e::es) X.env=(false,eval e X.env)::starEach es X.env:=by rfl) (hpl:(backTo pos (starEach es X.env)).any (·.1)=false:=by rfl):PE X (.Call (.Name x p) (e::es) [] pos) (tCB r t):=by
 intro Kp s σ H Q I h
 refine wpAny_Call_Name_kw (aav I hg hm hv ?_ hn hdb)
 exact PyProof.Rows.callWith_type1 (thn (ha pos Kp s σ H _ I h) fun us s1 ⟨vs,H1,I1,r1,q1⟩=>hc Kp s1 σ H1 vs us Q I1 r1 q1) he hpl
end
end L2
namespace HT
open PySem PyProof.Rows
section
open PySem.SeqAt
open PySem.AutoSeq1 (wpAny_loadPart')
open PySem.MeetsSeq PySem.MeetsSeq2 PySem.MeetsSeq3
end
section
variable {prog:Program}{w:World}{A:Around}{E:Value->SP0}{s:Shared}
theorem cat_tup {t b:Addr}{vs ws:List Value}{Q:Value->SP0} (ht:IsTup s.heap t vs.toArray) (hb:IsTup s.heap b ws.toArray) (hv:vs ≠ [])
  (h1:ws=[]->Q (.ref t) s) (h2:ws ≠ []->Q (.ref s.heap.objs.size) { s with heap:=s.heap.push { cls:= .type "tuple",data:= .seq (vs++ws).toArray } })
  (hsz:vs.length+ws.length<=sizeLine):wpAny (model prog w) A (binaryOp .Add (.ref t) (.ref b)) Q E s:=by
 obtain ⟨⟨cls,dd,data,sl⟩,ho,hc,n,hd⟩:=id ht
 obtain ⟨⟨cls2,dd2,data2,sl2⟩,ho2,hc2,n2,hd2⟩:=id hb
 simp only at hc hd hc2 hd2
 subst hc hd hc2 hd2
 have e:vs.toArray++ws.toArray=(vs++ws).toArray:=by simp
 by_cases hw:ws=[]
 ·exact concat_meets ⟨_,ho,rfl⟩ ⟨_,ho2,rfl⟩ noFill_tuple_add seq_tuple_add PySem.F.slot_tuple_add PySem.F.entry_tuple_add (PySem.F.args_tuple_add_2 _ _)
   (tuple_addW1 t b vs.toArray ws.toArray n n2 dd dd2 sl sl2 (by simpa using hv) (by simp [hw])) ⟨ho,ho2,h1 hw⟩
 ·refine concat_meets ⟨_,ho,rfl⟩ ⟨_,ho2,rfl⟩ noFill_tuple_add seq_tuple_add PySem.F.slot_tuple_add PySem.F.entry_tuple_add (PySem.F.args_tuple_add_2 _ _)
   (tuple_addW2 t b vs.toArray ws.toArray n n2 dd dd2 sl sl2 (by simpa using hv) (by simpa using hw) (by rw [List.size_toArray,List.size_toArray]; exact hsz)) ⟨ho,ho2,?_⟩
  rw [e]
  exact h2 hw
noncomputable def sIx (n d:Nat):Option Int->Nat
 | none=>d
 | some v=>if v<0 then (v+(n:Int)).toNat else min v.toNat n
theorem slicePart_ {v:Value}{o:Option Int}{Q:Option Int->SP0} (p:IsPart v o) (h:Q o s):wpAny (model prog w) A (Builtin.Slice.slicePartIndex v) Q E s:=by
 cases p with
 | none=>exact slicePart_none h
 | int i t=>exact slicePart_int h
end
end HT
namespace L2
open PySem PySem.Spec PyProof.Rows
noncomputable abbrev TO:=St->Hp->(Option Int->Hp->Prop)->Prop
noncomputable def PO (X:Cx) (e:Option Expr) (t:TO):Prop:=
 ∀ (Kp:List (Addr × Obj)) (s:Shared) (σ:St) (H:Hp) (Q:Option Int->Hp->Prop),Inv X Kp σ H s->t σ H Q->
  wpAny (model X.prog X.w) X.A (evalPart e X.env) (fun u s'=>∃ o H',Inv X Kp σ H' s'/\IsPart u o/\Q o H') X.xe s
noncomputable def aiI:TO:=fun _ H Q=>Q none H
noncomputable def alU (t:TE):TO:=fun σ H Q=>t σ H fun x H1=>∃ i,x= .int i/\Q (some i) H1
section
variable {X:Cx}{e:Expr}{te:TE}{lo hi:Option Expr}{tl th:TO}{pos p2:Pos}
theorem aal:PO X none aiI:=by
 intro Kp s σ H Q I h
 rw [evalPart_none]
 exact wpAny_pure ⟨none,H,I,.none,h⟩
theorem zt (h:PE X e te):PO X (some e) (alU te):=by
 intro Kp s σ H Q I hw
 rw [evalPart_some]
 refine thn (h Kp s σ H _ I hw) fun u s1 ⟨x,H1,I1,r1,q1⟩=>?_
 obtain ⟨i,rfl,q⟩:=q1
 obtain ⟨t,rfl⟩:=r1
 exact ⟨some i,H1,I1,.int i t,q⟩
noncomputable def SlR (X:Cx) (r:V->Option Int->Option Int->Hp->VK->Prop):Prop:=
 ∀ (Kp:List (Addr × Obj)) (s:Shared) (σ:St) (H:Hp) (x:V) (v vl vu:Value) (lo hi:Option Int) (sl:Addr) (Q:VK),Inv X Kp σ H s->jL x v->s.heap.IsSliceOf sl vl vu .none->IsPart vl lo->IsPart vu hi->r x lo hi H Q->
  ∃ T id,typeLookup (.type T) "__getitem__"=pure (some (.builtin id))/\s.TypeIs v T/\wpAny (model X.prog X.w) X.A (getItem v (.ref sl)) (EP X Kp σ Q) X.xe s
theorem SlR.or {r r':V->Option Int->Option Int->Hp->VK->Prop} (h:SlR X r) (h':SlR X r'):SlR X (fun x lo hi H Q=>r x lo hi H Q ∨ r' x lo hi H Q):=by
 intro Kp s σ H x v vl vu lo hi sl Q I rx hs pl pu q
 rcases q with q | q
 ·exact h Kp s σ H x v vl vu lo hi sl Q I rx hs pl pu q
 ·exact h' Kp s σ H x v vl vu lo hi sl Q I rx hs pl pu q
noncomputable def tSl (r:V->Option Int->Option Int->Hp->VK->Prop) (te:TE) (tl th:TO):TE:=fun σ H Q=>te σ H fun x H1=>tl σ H1 fun l H2=>th σ H2 fun u H3=>r x l u H3 Q
theorem Jn {r:V->Option Int->Option Int->Hp->VK->Prop} (hr:SlR X r) (he:PE X e te) (hl:PO X lo tl) (hu:PO X hi th):PE X (.Subscript e (.Slice lo hi none p2) pos) (tSl r te tl th):=by
 intro Kp s σ H Q I h
 refine Subscript_ (thn (he Kp s σ H _ I h) fun v s1 ⟨x,H1,I1,r1,q1⟩=>?_)
 refine wpAny_Slice (thn (hl Kp s1 σ H1 _ I1 q1) fun vl s2 ⟨l,H2,I2,pl,q2⟩=>thn (hu Kp s2 σ H2 _ I2 q2) fun vu s3 ⟨u,H3,I3,pu,q3⟩=>?_)
 rw [evalPart_none]
 refine wpAny_pure ?_
 have I4:Inv X Kp σ H3 { s3 with heap:=s3.heap.push { cls:= .type "slice",data:= .fields #[vl,vu,.none] } }:=I3.kept (t':=s3.toks) fun b ob q=>Heap.get?_push_of_some _ q
 obtain ⟨T,id,hT,ht,hg⟩:=hr Kp { s3 with heap:=s3.heap.push { cls:= .type "slice",data:= .fields #[vl,vu,.none] } } σ H3 x v vl vu l u s3.heap.objs.size Q I4 r1 (Heap.IsSliceOf.new ..) pl pu q3
 show wpAny (model X.prog X.w) X.A (subscriptTail e (.Slice lo hi none p2) v (.ref s3.heap.objs.size)) (EP X Kp σ Q) X.xe { s3 with heap:=s3.heap.push { cls:= .type "slice",data:= .fields #[vl,vu,.none] } }
 exact tail_any (ops:=[.ref s3.heap.objs.size,v]) ht hT hg (by with_unfolding_all rfl)
noncomputable def Zy (xs:List V) (lo hi:Option Int):List V:=(xs.drop (HT.sIx xs.length 0 lo)).take (HT.sIx xs.length xs.length hi - HT.sIx xs.length 0 lo)
theorem ac1 (xs:List V) (lo hi:Option Int):(Zy xs lo hi).length<=xs.length:=by
 unfold Zy
 rw [List.length_take,List.length_drop]
 omega
noncomputable def alV (K:Fg):R2:=fun x y H Q=>∃ a b xs ys,x= .ref a/\y= .ref b/\SqT K H a xs/\SqT K H b ys/\xs ≠ []/\xs.length+ys.length<=sizeLine/\
 (ys=[]->Q (.ref a) H)/\(ys ≠ []->∀ p,H p=none->Q (.ref p) (upd H p (.tup (xs++ys))))
theorem jD.nil_iff {xs:List V}{us:List Value} (r:jD xs us):us=[] ↔ xs=[]:=by
 cases r with
 | nil=>simp
 | cons _ _=>simp
theorem aiJ:OpR X (binaryOp .Add) (alV X.K):=by
 intro Kp s σ H x y v u Q I rx ry h
 obtain ⟨a,b,xs,ys,rfl,rfl,ha,hb,hx,hz,q1,q2⟩:=h
 cases rx
 cases ry
 obtain ⟨its,r1,p1,_⟩:=I.tuple ha
 obtain ⟨its2,r2,p2,_⟩:=I.tuple hb
 refine HT.cat_tup p1 p2 (fun z=>hx (r1.nil_iff.mp z)) (fun z=>⟨.ref a,H,I,rfl,q1 (r2.nil_iff.mp z)⟩) (fun z=>?_) (by rw [←r1.length,←r2.length]; exact hz)
 refine ⟨.ref s.heap.objs.size,_,I.laid (t':=s.toks) (o:= .tup (xs++ys)) (fun b ob q=>Heap.get?_push_of_some _ q) (Nat.le_refl _) ?_,rfl,q2 (fun w=>z (r2.nil_iff.mpr w)) _ (I.hok.fresh (Nat.le_refl _))⟩
 exact ⟨by rw [List.length_append]; exact hz,_,r1.append r2,IsTup.new _ _⟩
end
noncomputable def ixN (n:Nat) (i:Int):Option Nat:=if 0<=i then (if i<n then some i.toNat else none) else if -(n:Int)<=i then some (i+n).toNat else none
noncomputable def atI {α:Type} (xs:List α) (i:Int):Option α:=(ixN xs.length i).bind fun j=>xs[j]?
theorem aiK {n:Nat}{i:Int}{j:Nat} (h:ixN n i=some j):seqIndex? i n=some j/\j<n/\-(n:Int)<=i/\i<n:=by
 unfold ixN at h
 by_cases h0:0<=i
 ·rw [if_pos h0] at h
  by_cases h1:i<n
  ·rw [if_pos h1] at h
   have e:i.toNat=j:=Option.some.inj h
   exact ⟨by rw [seqIndex_of h0 h1,e],by omega,by omega,h1⟩
  ·rw [if_neg h1] at h; cases h
 ·rw [if_neg h0] at h
  by_cases h1:-(n:Int)<=i
  ·rw [if_pos h1] at h
   have e:(i+n).toNat=j:=Option.some.inj h
   exact ⟨by rw [seqIndex_neg (by omega) h1,e],by omega,h1,by omega⟩
  ·rw [if_neg h1] at h; cases h
theorem ab9 {α:Type}{xs:List α}{i:Int}{v:α} (h:atI xs i=some v):∃ j,seqIndex? i xs.length=some j/\xs[j]?=some v/\j<xs.length/\-(xs.length:Int)<=i/\i<xs.length:=by
 unfold atI at h
 cases e:ixN xs.length i with
 | none=>rw [e] at h; cases h
 | some j=>
  rw [e] at h
  obtain ⟨h1,h2,h3,h4⟩:=aiK e
  exact ⟨j,h1,h,h2,h3,h4⟩
noncomputable def aeU (b:Expr):Prop:=∀ o i,subscripted b false o i=operate [o,i] (getItem o i)
noncomputable def IxR (X:Cx) (r:R2):Prop:=
 ∀ (value slice:Expr) (Kp:List (Addr × Obj)) (s:Shared) (σ:St) (H:Hp) (x y:V) (v u:Value) (Q:VK),Inv X Kp σ H s->jL x v->jL y u->r x y H Q->
  subscripted slice false v u=operate [v,u] (getItem v u)->wpAny (model X.prog X.w) X.A (subscriptTail value slice v u) (EP X Kp σ Q) X.xe s
noncomputable def MtR (X:Cx) (id:String) (r:V->List V->Hp->VK->Prop):Prop:=
 ∀ (Kp:List (Addr × Obj)) (s:Shared) (σ:St) (H:Hp) (x:V) (xs:List V) (v:Value) (us:List Value) (Q:VK),Inv X Kp σ H s->jL x v->jD xs us->r x xs H Q->
  wpAny (model X.prog X.w) X.A (call (.builtin id) (v::us)) (EP X Kp σ Q) X.xe s
section
variable {X:Cx}{a b:Expr}{ta tb:TE}{pos:Pos}
theorem IxR.or {r r':R2} (h:IxR X r) (h':IxR X r'):IxR X (fun x y H Q=>r x y H Q ∨ r' x y H Q):=by
 intro value slice Kp s σ H x y v u Q I rx ry q hs
 rcases q with q | q
 ·exact h value slice Kp s σ H x y v u Q I rx ry q hs
 ·exact h' value slice Kp s σ H x y v u Q I rx ry q hs
theorem MtR.or {id:String}{r r':V->List V->Hp->VK->Prop} (h:MtR X id r) (h':MtR X id r'):MtR X id (fun x xs H Q=>r x xs H Q ∨ r' x xs H Q):=by
 intro Kp s σ H x xs v us Q I rx rs q
 rcases q with q | q
 ·exact h Kp s σ H x xs v us Q I rx rs q
 ·exact h' Kp s σ H x xs v us Q I rx rs q
theorem alW {r:R2} (hr:IxR X r) (ha:PE X a ta) (hb:PE X b tb) (hs:aeU b):PE X (.Subscript a b pos) (tOp r ta tb):=by
 intro Kp s σ H Q I h
 exact Subscript_ (aiD ha hb I h fun v u s2 x y H2 I2 rx ry q=>hr a b Kp s2 σ H2 x y v u Q I2 rx ry q (hs _ _))
noncomputable def amU (K:Fg):R2:=fun x y H Q=>∃ p xs i v,x= .ref p/\y= .int i/\SqL K H p xs/\atI xs i=some v/\Q v H
noncomputable def amV (K:Fg):R2:=fun x y H Q=>∃ p xs i v,x= .ref p/\y= .int i/\SqT K H p xs/\atI xs i=some v/\Q v H
noncomputable def amW:R2:=fun x y H Q=>∃ z i c,x= .str z/\y= .int i/\z.length<=sizeLine/\atI z.cps.toList i=some c/\Q (.str ⟨#[c]⟩) H
theorem aiL:IxR X (amU X.K):=by
 intro value slice Kp s σ H x y v u Q I rx ry h hs
 obtain ⟨p,xs,i,z,rfl,rfl,hq,he,q⟩:=h
 cases rx
 obtain ⟨t,rfl⟩:=ry
 obtain ⟨its,r,pl,hz⟩:=I.list hq
 obtain ⟨j,h1,h2,h3,h4,h5⟩:=ab9 he
 obtain ⟨w,ew,rw'⟩:=r.get h2
 have hl:=r.length
 have hn:=aax
 have fin:EP X Kp σ Q w s:=⟨z,H,I,rw',q⟩
 by_cases h0:0<=i
 ·have hj:i.toNat=j:=by
   rw [seqIndex_of h0 h5] at h1
   exact Option.some.inj h1
  exact item_listR pl.isList h0 (by omega) (by rw [hj]; simpa using ew) fin hs
 ·have hj:(i+(its.toArray.size:Int)).toNat=j:=by
   rw [seqIndex_neg (by omega) h4] at h1
   rw [List.size_toArray,←hl]
   exact Option.some.inj h1
  exact subscriptTail_builtinR (x:=w) pl.isList.typeIs slot_list_getitem.lookup
   (wpAny_getItem_list_neg (Q:=fun r s'=>r=w/\EP X Kp σ Q r s') pl.isList (by omega) (by rw [List.size_toArray] <;> omega) (by omega) (by rw [hj]; simpa using ew) ⟨rfl,fin⟩) hs
theorem akA:IxR X (amV X.K):=by
 intro value slice Kp s σ H x y v u Q I rx ry h hs
 obtain ⟨p,xs,i,z,rfl,rfl,hq,he,q⟩:=h
 cases rx
 obtain ⟨t,rfl⟩:=ry
 obtain ⟨its,r,pl,hz⟩:=I.tuple hq
 obtain ⟨j,h1,h2,h3,h4,h5⟩:=ab9 he
 obtain ⟨w,ew,rw'⟩:=r.get h2
 have hl:=r.length
 have hn:=aax
 have fin:EP X Kp σ Q w s:=⟨z,H,I,rw',q⟩
 exact subscriptTail_builtinR (x:=w) pl.typeIs slot_tuple_getitem.lookup
  (getItem_tuple (j:=j) (Q:=fun r s'=>r=w/\EP X Kp σ Q r s') pl (by omega) (by omega) (by rw [List.size_toArray,←hl]; exact h1) (by simpa using ew) ⟨rfl,fin⟩) hs
theorem aec:IxR X amW:=by
 intro value slice Kp s σ H x y v u Q I rx ry h hs
 obtain ⟨z,i,c,rfl,rfl,hz,he,q⟩:=h
 obtain ⟨t,rfl⟩:=rx
 obtain ⟨t',rfl⟩:=ry
 obtain ⟨j,h1,h2,h3,h4,h5⟩:=ab9 he
 have hl:z.cps.toList.length=z.length:=by simp [Str.length]
 rw [hl] at h1 h4 h5
 have hn:=aax
 exact tail_any (typeIs_str s z t) slot_str_getitem.lookup (getItem_str (c:=c) (by
  have e1:decide (i < -(2 ^ 63:Int))=false:=decide_eq_false (by omega)
  have e2:decide (i >= 2 ^ 63)=false:=decide_eq_false (by omega)
  rw [e1,e2,Bool.or_false]) (by rw [h1]; simpa using h2) ⟨.str ⟨#[c]⟩,H,I.tok _,⟨_,rfl⟩,q⟩) hs
theorem Inv.lst {Kp:List (Addr × Obj)}{σ:St}{H:Hp}{s:Shared}{p:Addr}{xs:List V} (I:Inv X Kp σ H s) (h:H p=some (.lst xs)):
  ∃ (its:List Value) (n:Nat),jD xs its/\s.heap.get? p=some { cls:= .type "list",data:= .seq its.toArray n }/\xs.length<=sizeLine:=by
 obtain ⟨z,its,n,r,e⟩:=I.hok p _ h
 exact ⟨its,n,r,e,z⟩
theorem aca (lo hi:Option Int) (n:Nat):(sliceBounds lo hi none n).1=((HT.sIx n 0 lo:Nat):Int)/\(sliceBounds lo hi none n).2.1=((HT.sIx n n hi:Nat):Int)/\(sliceBounds lo hi none n).2.2=1:=by
 refine ⟨?_,?_,rfl⟩
 ·cases lo with
  | none=>simp [sliceBounds,HT.sIx]
  | some i=>
   simp only [sliceBounds,HT.sIx,Option.getD_none,show (1:Int) > 0 by decide,zzM]
   by_cases h:i<0
   ·simp only [h,zzM] <;> omega
   ·simp only [h,zzN] <;> omega
 ·cases hi with
  | none=>simp [sliceBounds,HT.sIx]
  | some i=>
   simp only [sliceBounds,HT.sIx,Option.getD_none,show (1:Int) > 0 by decide,zzM]
   by_cases h:i<0
   ·simp only [h,zzM] <;> omega
   ·simp only [h,zzN] <;> omega
theorem abc (its:List Value) (lo hi:Option Int):slicePick its.toArray lo hi none=((its.drop (HT.sIx its.length 0 lo)).take (HT.sIx its.length its.length hi - HT.sIx its.length 0 lo)).toArray:=by
 obtain ⟨h1,h2,h3⟩:=aca lo hi its.toArray.size
 unfold slicePick
 rw [h1,h2,h3]
 simp only [sliceRange_one,pick_run,List.size_toArray] <;> rfl
noncomputable def amX (K:Fg):V->Option Int->Option Int->Hp->VK->Prop:=fun x lo hi H Q=>∃ a xs,x= .ref a/\SqL K H a xs/\∀ p,H p=none->Q (.ref p) (upd H p (.lst (Zy xs lo hi)))
theorem acb:SlR X (amX X.K):=by
 intro Kp s σ H x v vl vu lo hi sl Q I rx hs pl pu h
 obtain ⟨a,xs,rfl,hx,q⟩:=h
 cases rx
 obtain ⟨its,r,ht,hz⟩:=I.list hx
 have hlen:=r.length
 refine ⟨"list",_,slot_list_getitem.lookup,ht.isList.typeIs,?_⟩
 refine wpAny_getItem_list_slice ht.isList hs pl pu .none (by simp) ?_ (by rw [List.size_toArray] <;> omega)
 rw [abc,←hlen]
 refine ⟨.ref s.heap.objs.size,_,I.laid (t':=s.toks) (o:= .lst (Zy xs lo hi)) (fun b ob q=>Heap.get?_push_of_some _ q) (Nat.le_refl _) ?_,rfl,q _ (I.hok.fresh (Nat.le_refl _))⟩
 exact ⟨Nat.le_trans (ac1 xs lo hi) hz,_,0,(r.drop (HT.sIx xs.length 0 lo)).take (HT.sIx xs.length xs.length hi - HT.sIx xs.length 0 lo),Heap.get?_push_size _ rfl⟩
theorem acd:zL X (.builtin "len") (fun xs H Q=>∃ p ys,xs=[.ref p]/\(SqL X.K H p ys ∨ SqT X.K H p ys)/\Q (.int ys.length) H):=by
 intro Kp s σ H xs us Q I r h
 obtain ⟨p,ys,rfl,hq,q⟩:=h
 obtain ⟨u,rfl,rx⟩:=aeS r
 cases rx
 have hn:=aax
 rcases hq with hq | hq
 ·obtain ⟨its,r',pl,hz⟩:=I.list hq
  have hlen:=r'.length
  exact Calls.call_len_list pl.isList (by simp only [List.size_toArray] <;> omega) ⟨.int ys.length,H,I.tok _,⟨s.toks+1,by rw [List.size_toArray,hlen]⟩,q⟩
 ·obtain ⟨its,r',pl,hz⟩:=I.tuple hq
  have hlen:=r'.length
  exact len_tuple pl (by simp only [List.size_toArray] <;> omega) ⟨.int ys.length,H,I.tok _,⟨s.toks+1,by rw [List.size_toArray,hlen]⟩,q⟩
theorem ace:zL X (.builtin "len") (fun xs H Q=>∃ z,xs=[.str z]/\z.length<=sizeLine/\Q (.int z.length) H):=by
 intro Kp s σ H xs us Q I r h
 obtain ⟨z,rfl,hz,q⟩:=h
 obtain ⟨u,rfl,t,rfl⟩:=aeS r
 have hn:=aax
 exact len_str (by omega) ⟨.int z.length,H,I.tok _,⟨_,rfl⟩,q⟩
theorem zL.or {f:Value}{r r':List V->Hp->VK->Prop} (h:zL X f r) (h':zL X f r'):zL X f (fun xs H Q=>r xs H Q ∨ r' xs H Q):=by
 intro Kp s σ H xs us Q I rs q
 rcases q with q | q
 ·exact h Kp s σ H xs us Q I rs q
 ·exact h' Kp s σ H xs us Q I rs q
theorem abd:zL X (.type "tuple") (fun xs H Q=>∃ p ys,xs=[.ref p]/\((SqL X.K H p ys/\∀ l,H l=none->Q (.ref l) (upd H l (.tup ys))) ∨ (SqT X.K H p ys/\Q (.ref p) H))):=by
 intro Kp s σ H xs us Q I r h
 obtain ⟨p,ys,rfl,h⟩:=h
 obtain ⟨u,rfl,rx⟩:=aeS r
 cases rx
 rcases h with ⟨hq,q⟩ | ⟨hq,q⟩
 ·obtain ⟨its,r',pl,hz⟩:=I.list hq
  have hlen:=r'.length
  refine call_tuple_list pl.isList (fun h' kp=>?_) (by simp only [List.size_toArray] <;> omega)
  have I1:Inv X Kp σ H { s with heap:=h' }:=I.kept (t':=s.toks) kp
  have I2:Inv X Kp σ (upd H h'.objs.size (.tup ys)) { s with heap:=h'.push { cls:= .type "tuple",data:= .seq its.toArray } }:=
   I1.laid (t':=s.toks) (fun b o e=>Heap.get?_push_of_some _ e) (Nat.le_refl _) (show qx X.prog X.w _ _ _ (.tup ys) from ⟨hz,its,r',IsTup.new _ _⟩)
  exact ⟨.ref h'.objs.size,_,I2,rfl,q _ (I1.hok.fresh (Nat.le_refl _))⟩
 ·obtain ⟨its,r',pl,hz⟩:=I.tuple hq
  exact call_tuple_same pl ⟨.ref p,H,I,rfl,q⟩
noncomputable def tyV (K:Fg) (T:String) (x:V) (H:Hp):Prop:=match x with
 | .str _=>T="str"
 | .int _=>T="int"
 | .ref p=>(T="list"/\∃ xs,SqL K H p xs) ∨ (T="tuple"/\∃ o,K.lookup p=some o/\o.cls= .type "tuple"/\o.dict=none) ∨
   (T="dict"/\((∃ kvs,H p=some (.dK kvs)) ∨ ∃ kvs,H p=some (.dT kvs))) ∨ (T="set"/\∃ S n,H p=some (.set S n))
 | _=>False
theorem akB {Kp:List (Addr × Obj)}{σ:St}{H:Hp}{s:Shared}{T:String}{x:V}{v:Value} (I:Inv X Kp σ H s) (r:jL x v) (ty:tyV X.K T x H):
  s.TypeIs v T/\∀ a,v= .ref a->∃ ob,s.heap.get? a=some ob/\ob.dict=none:=by
 cases x with
 | str z=>
  obtain ⟨t,rfl⟩:=r
  cases (show T="str" from ty)
  exact ⟨typeIs_str s z t,fun _ e=>nomatch e⟩
 | int i=>
  obtain ⟨t,rfl⟩:=r
  cases (show T="int" from ty)
  exact ⟨typeIs_int s i t,fun _ e=>nomatch e⟩
 | ref p=>
  cases r
  rcases ty with ⟨rfl,xs,hq⟩ | ⟨rfl,o,hk,hc,hd⟩ | ⟨rfl,hk⟩ | ⟨rfl,S,n,hk⟩
  ·obtain ⟨its,_,pl,_⟩:=I.list hq
   refine ⟨pl.isList.typeIs,fun a e=>?_⟩
   cases e
   obtain ⟨o,n,e,c,hd,_⟩:=pl
   exact ⟨o,e,hd⟩
  ·refine ⟨⟨o,I.kIn p o hk,hc⟩,fun a e=>?_⟩
   cases e
   exact ⟨o,I.kIn _ o hk,hd⟩
  ·have z:∃ o,s.heap.get? p=some o/\o.ExactDict:=by
    rcases hk with ⟨kvs,hk⟩ | ⟨kvs,hk⟩
    ·obtain ⟨_,_,_,_,o,_,_,e,ex,_⟩:=I.hok p _ hk
     exact ⟨o,e,ex⟩
    ·obtain ⟨_,_,_,_,o,_,_,e,ex,_⟩:=I.hok p _ hk
     exact ⟨o,e,ex⟩
   obtain ⟨o,e,ex⟩:=z
   refine ⟨⟨o,e,ex.1⟩,fun a e2=>?_⟩
   cases e2
   exact ⟨o,e,ex.2.1⟩
  ·obtain ⟨o,_,_,_,e,ex,_⟩:=I.hok p _ hk
   refine ⟨⟨o,e,ex.1⟩,fun a e2=>?_⟩
   cases e2
   exact ⟨o,e,ex.2.1⟩
 | _=>exact False.elim ty
noncomputable def tBM (K:Fg) (T:String) (r:V->List V->Hp->VK->Prop) (to:TE) (t:TA):TE:=fun σ H Q=>to σ H fun x H1=>tyV K T x H1/\t σ H1 fun xs H2=>r x xs H2 Q
variable {o e:Expr}{es:List Expr}{to:TE}{t:TA}{name:Str}{apos cpos:Pos}{T id:String}{r:V->List V->Hp->VK->Prop}
theorem agP (pa:PlainAttrs T) (slot:Slot T name id) (hty:typeOf (.builtin id)=pure (.type "method_descriptor")) (hm:MtR X id r) (ho:PE X o to) (ha:PA X (e::es) t)
  (hbase:attributeBase o name X.env (eval o X.env)=eval o X.env:=by rfl)
  (hfew:((backTo cpos (starEach (e::es) X.env)).all (fun x=>!x.1) && (backToKw cpos (keywordEach [] X.env)).all (fun x=>x.1.isSome)
   && decide ((e::es).length+([]:List Keyword).length+(if ([]:List Keyword).isEmpty then 0 else 1)<30))=true:=by rfl)
  (hline:(apos.endLine == cpos.line)=true:=by rfl) (hs:starEach (e::es) X.env=(false,eval e X.env)::starEach es X.env:=by rfl) (hplain:(backTo cpos (starEach es X.env)).any (·.1)=false:=by rfl):
  PE X (.Call (.Attribute o name apos) (e::es) [] cpos) (tBM X.K T r to t):=by
 intro Kp s σ H Q I h
 refine wpAny_Call_method_late hbase hfew hline rfl (thn (ho Kp s σ H _ I h) fun v s1 ⟨x,H1,I1,r1,ty,q1⟩=>?_)
 obtain ⟨h1,h2⟩:=akB I1 r1 ty
 refine ⟨T,id,pa,slot,hty,h1,h2,?_⟩
 have hA:=ha cpos Kp s1 σ H1 _ I1 q1
 rw [hs] at hA ⊢
 refine Calls.callWith_builtin (by show (false || (backTo cpos (starEach es X.env)).any (·.1))=false; rw [hplain] <;> rfl) (Calls.evalArgs_plain ?_)
 exact thn hA fun us s2 ⟨vs,H2,I2,r2,q2⟩=>hm Kp s2 σ H2 x vs v us Q I2 r1 r2 q2
end
noncomputable def MtM (X:Cx) (id:String) (r:V->List V->Hp->VK->Prop):Prop:=
 ∀ (Kp:List (Addr × Obj)) (s:Shared) (σ:St) (H:Hp) (x:V) (xs:List V) (v:Value) (us:List Value) (Q:VK),Inv X Kp σ H s->jL x v->jD xs us->r x xs H Q->
  wpAny (model X.prog X.w) X.A (call (.builtin id) (v::us)) (EP X Kp σ Q) X.xe s
theorem jD.one:∀ {x:V}{us:List Value},jD [x] us->∃ u,us=[u]/\jL x u
 | _,_,.cons r .nil=>⟨_,rfl,r⟩
theorem jD.reverse {xs:List V}{us:List Value} (h:jD xs us):jD xs.reverse us.reverse:=by
 induction h with
 | nil=>exact .nil
 | cons r t ih=>rw [List.reverse_cons,List.reverse_cons]; exact jD.append ih (.cons r .nil)
theorem jD.rep {xs:List V}{us:List Value} (h:jD xs us):∀ k:Nat,jD (List.replicate k xs).flatten (List.replicate k us).flatten
 | 0=> .nil
 | k+1=>by
  rw [List.replicate_succ,List.replicate_succ,List.flatten_cons,List.flatten_cons]
  exact jD.append h (jD.rep h k)
theorem abv (its:List Value):∀ (k:Nat) (acc:List Value),
  List.foldl (fun x1 x2=>x1++x2) acc.toArray (List.replicate k its.toArray)=(acc++(List.replicate k its).flatten).toArray
 | 0,acc=>by simp
 | k+1,acc=>by
  have e:acc.toArray++its.toArray=(acc++its).toArray:=by simp
  have e2:(acc++its)++(List.replicate k its).flatten=acc++(List.replicate (k+1) its).flatten:=by
   rw [List.replicate_succ,List.flatten_cons,List.append_assoc]
  rw [←e2,←abv its k (acc++its),←e,List.replicate_succ,List.foldl_cons]
section
variable {X:Cx}{Kp:List (Addr × Obj)}{σ:St}{H:Hp}{s:Shared}{l b:Addr}{xs ys zs:List V}
theorem Inv.lset {its its':List Value}{n:Nat}{f:Array Value->Array Value}{t':Nat} (I:Inv X Kp σ H s) (hH:H l=some (.lst xs))
  (e:s.heap.get? l=some { cls:= .type "list",data:= .seq its.toArray n }) (hf:f its.toArray=its'.toArray) (hv:jD ys its') (hz:ys.length<=sizeLine):
  Inv X Kp σ (upd H l (.lst ys)) { s with heap:=s.heap.update l (Obj.mapSeq f),toks:=t' }:=by
 have q:=PySem.IsL.update e f
 rw [hf] at q
 refine I.write (x:=l) (e:=l) (by rw [hH]; exact trivial) (.inl rfl) (fun b' u hb hu=>(Heap.get?_update_other s.heap (Obj.mapSeq f) (Ne.symm hb)).trans hu) ⟨_,q⟩ ?_
 exact ⟨hz,its',_,hv,q⟩
theorem Inv.lnew {its:List Value}{t':Nat} (I:Inv X Kp σ H s) (hv:jD ys its) (hz:ys.length<=sizeLine):
  Inv X Kp σ (upd H s.heap.objs.size (.lst ys)) { s with heap:=s.heap.push { cls:= .type "list",data:= .seq its.toArray },toks:=t' }:=
 I.laid (fun _ _ q=>Heap.get?_push_of_some _ q) (Nat.le_refl _) ⟨hz,its,0,hv,Heap.get?_push_size _ rfl⟩
theorem Inv.fresh (I:Inv X Kp σ H s):H s.heap.objs.size=none:=I.hok.fresh (Nat.le_refl _)
theorem Inv.lstM (I:Inv X Kp σ H s) (hH:H l=some (.lst xs)):xs.length<=sizeLine/\∃ (its:List Value) (n:Nat),jD xs its/\xs.length=its.length/\s.heap.get? l=some { cls:= .type "list",data:= .seq its.toArray n }:=by
 obtain ⟨z,its,n,r,e⟩:=I.hok l _ hH
 exact ⟨z,its,n,r,r.length,e⟩
theorem agQ {n:Nat} (h:n<=sizeLine):Builtin.List.listTooLong n=false:=by
 unfold Builtin.List.listTooLong
 exact decide_eq_false (by omega)
end
section
variable {X:Cx}
noncomputable def aiM:V->List V->Hp->VK->Prop:=fun x vs H Q=>∃ l xs y,x= .ref l/\vs=[y]/\H l=some (.lst xs)/\xs.length<sizeLine/\Q .non (upd H l (.lst (xs++[y])))
theorem abw:MtM X "list.append" aiM:=by
 intro Kp s σ H x vs v us Q I rx rv h
 obtain ⟨l,xs,y,rfl,rfl,hH,hz,q⟩:=h
 cases rx
 obtain ⟨u,rfl,ru⟩:=rv.one
 obtain ⟨z,its,n,r,hl,e⟩:=I.lstM hH
 refine call_meets F.slot_list_append ⟨_,e,rfl⟩ F.entry_list_append (F.args_list_append_2 _ _) (PySem.list_append l its.toArray n u (by rw [List.size_toArray]; omega)) ⟨e,?_⟩
 refine ⟨.non,_,I.lset (its':=its++[u]) hH e (by simp) (r.append (.cons ru .nil)) ?_,rfl,q⟩
 rw [List.length_append,List.length_singleton]
 omega
noncomputable def amY:R2:=fun x y H Q=>∃ l b xs zs,x= .ref l/\y= .ref b/\H l=some (.lst xs)/\H b=some (.lst zs)/\xs.length+zs.length<=sizeLine/\∀ p,H p=none->Q (.ref p) (upd H p (.lst (xs++zs)))
theorem agR:OpR X (binaryOp .Add) amY:=by
 intro Kp s σ H x y v u Q I rx ry h
 obtain ⟨l,b,xs,zs,rfl,rfl,hH,hB,hz,q⟩:=h
 cases rx
 cases ry
 obtain ⟨z,its,n,r,hl,e⟩:=I.lstM hH
 obtain ⟨z2,its2,n2,r2,hl2,e2⟩:=I.lstM hB
 refine PySem.P.add_list e e2 ?_ (by rw [List.size_toArray,List.size_toArray]; omega)
 have ea:its.toArray++its2.toArray=(its++its2).toArray:=by simp
 rw [ea]
 exact ⟨.ref _,_,I.lnew (t':=s.toks) (r.append r2) (by rw [List.length_append]; omega),rfl,q _ I.fresh⟩
noncomputable def amZ:R2:=fun x y H Q=>∃ l k xs,x= .ref l/\y= .int k/\H l=some (.lst xs)/\-(2 ^ 63)<=k/\k<2 ^ 63/\xs.length*k.toNat<=sizeLine/\
 ∀ p,H p=none->Q (.ref p) (upd H p (.lst (List.replicate k.toNat xs).flatten))
theorem aiN {α:Type} (xs:List α) (k:Nat):(List.replicate k xs).flatten.length=k*xs.length:=by
 induction k with
 | zero=>simp
 | succ k ih=>rw [List.replicate_succ,List.flatten_cons,List.length_append,ih,Nat.succ_mul,Nat.add_comm]
theorem akC:OpR X (binaryOp .Mult) amZ:=by
 intro Kp s σ H x y v u Q I rx ry h
 obtain ⟨l,k,xs,rfl,rfl,hH,h1,h2,hz,q⟩:=h
 cases rx
 obtain ⟨t,rfl⟩:=ry
 obtain ⟨z,its,n,r,hl,e⟩:=I.lstM hH
 have hlen:its.toArray.size*k.toNat<=sizeLine:=by rw [List.size_toArray,←hl]; exact hz
 have hcap:¬ its.toArray.size*k.toNat > (2 ^ 63 - 1) / 8:=by
  have:(sizeLine:Nat)<=(2 ^ 63 - 1) / 8:=by decide
  omega
 have hfit:¬ (!Builtin.List.listFitsIndex k)=true:=by
  rw [fitsIndex_both h1 h2]
  exact Bool.false_ne_true
 have hlong:¬ Builtin.List.listTooLong (its.toArray.size*k.toNat)=true:=by
  rw [agQ hlen]
  exact Bool.false_ne_true
 have hnew:List.foldl (fun x1 x2=>x1++x2) #[] (List.replicate (if its.toArray.isEmpty=true then 0 else k.toNat) its.toArray)=(List.replicate k.toNat its).flatten.toArray:=by
  have f0:∀ m:Nat,List.foldl (fun x1 x2=>x1++x2) #[] (List.replicate m its.toArray)=(List.replicate m its).flatten.toArray:=fun m=>by
   have:=abv its m []
   rw [List.nil_append] at this
   exact this
  rw [f0]
  cases its with
  | nil=>simp
  | cons a r'=>rw [if_neg (by simp)]
 refine wpAny_binaryOp_repeat_ref (T:="list") (U:="int") (by decide) ⟨_,e,rfl⟩ (fun s'=>typeIs_int s' k t) noFill_list_mul F.fills_int_mul F.slot_int_rmul repeat_list F.slot_int_index.lookup
  (call_meets F.slot_int_rmul (typeIs_int s k t) F.entry_int_rmul (F.args_int_rmul_2 _ _) (int___rmul___int_list k t l its.toArray n)
   ⟨e,rfl,⟨_,e,rfl⟩,call_meets F.slot_list_mul ⟨_,e,rfl⟩ F.entry_list_mul (F.args_list_mul_2 _ _) (AutoListH.list___mul___list_int_3 l its.toArray n k t hfit hcap hlong) ⟨e,?_⟩⟩)
 rw [hnew]
 exact ⟨.ref _,_,I.lnew (t':=s.toks) (r.rep k.toNat) (by rw [aiN,Nat.mul_comm]; exact hz),rfl,q _ I.fresh⟩
end
section
variable {prog:Program}{w:World}{A:Around}{E:Value->SP0}{s:Shared}
set_option maxRecDepth 100000 in
end
section
variable {X:Cx}
end
end L2
namespace Att
open PySem PySem.W PySem.Calls PyProof.Rows
theorem aaa {P:Params}{h:Heap}:∀ (ns:List Int) (vs:List Value),WellAll P h vs (ns.map WData.int)->IntsAre vs ns:=by
 intro ns
 induction ns with
 | nil=>
  intro vs w
  rw [List.map_nil] at w
  cases w
  exact .nil
 | cons n ns ih=>
  intro vs w
  rw [List.map_cons] at w
  cases w with
  | cons a b=>
   cases a
   exact .cons _ _ (ih _ b)
theorem afT {l:OpenLaw}{n:Nat} (hn:l.most=some n) {P:Params}{h:Heap}{args:List WData}{vals:List Value}
  (hpre:l.row.toRowW.claim.pre args=true) (hwl:WellAll P h vals args):
  ∃ a vs ns,vals=[Value.ref a]/\args=[WData.list (ns.map WData.int)]/\h.get? a=some { cls:= .type "list",data:= .seq vs.toArray }/\IntsAre vs ns/\ns.length<=n:=by
 have hsh:WShape.hasAll [] args [.list .int]=true:=(pre_splitW hpre).1
 have hc:l.pre.holds [] { args:=args }=true:=(pre_splitW hpre).2
 obtain ⟨d,r,rfl,h1,h2⟩:=hasAllW_cons hsh
 obtain rfl:=hasAllW_nil h2
 obtain ⟨xs,rfl,h3⟩:=hasW_list h1
 obtain ⟨ns,rfl⟩:=items_int h3
 have hlen:ns.length<=n:=by
  unfold OpenLaw.pre at hc
  have h4:(WTm.not (.lt (.lit (.int (n:Int))) (.len (.arg 0)))).holds [] { args:=[.list (ns.map .int)] }=true:=by
   have h4:=(holds_andW hc).1
   rw [hn] at h4
   exact h4
  have h5:=condW_of h4 (w_not (w_lt w_lit (w_len_list (w_arg rfl))))
  rw [List.length_map] at h5
  refine Nat.le_of_not_lt fun q=>?_
  have q':(n:Int)<((ns.length:Nat):Int):=by omega
  first
   | (rw [decide_eq_true q'] at h5; exact absurd h5 (by decide))
   | (simp at h5; omega)
 cases hwl with
 | cons w1 w2=>
  cases w2
  cases w1 with
  | list ho hall=>exact ⟨_,_,ns,rfl,rfl,ho,aaa ns _ hall,hlen⟩
theorem afU (l:OpenLaw) (args:List WData):l.row.toRowW.claim.post args (.bool true) args=true:=
 postW_of (r:=l.row.toRowW) (X:=(true == true))
  (show WShape.has [] (.bool true) .bool=true by first | rfl | decide | simp [WShape.has,WShape.arms,WShape.armsAll])
  (show (WTm.eq .res (.lit (.bool true))).value [] { args:=args,res:=some (.bool true),after:=args }=some (.bool (true == true)) from w_eq_bool (w_res rfl) w_lit) rfl
theorem attach_call {l:OpenLaw}{n:Nat}{q:Program}{loose:List Str}{XP:(SV)->Heap->Prop}{YP:World->Heap->Prop}{d:DefRec}
  (hn:l.most=some n) (hdf:d.params.defaults=[])
  (call:∀ (w:World) (s₀ s₁:Shared) (mg mb:SV) (fa:Addr) (o:Obj) (pm cd doc:Value) (a:Addr) (vs:List Value) (ns:List Int),
   Ground q loose [] XP w s₀ mg mb s₁.heap->YP w s₁.heap->
   s₁.heap.get? fa=some o->o.data= .func (docDef d.name d.params d.body d.scope pm cd doc)->s₁.heap.CodeRec cd d.name->mg d.name=some (.ref fa)->
   s₁.heap.get? a=some { cls:= .type "list",data:= .seq vs.toArray }->IntsAre vs ns->ns.length<=n->s₁.gens=#[]->
   codeAny (model l.prog w) callerA (.call (.ref fa) ⟨[.ref a],[]⟩) (fun r s'=>r= .ok (.ret (.bool true))/\OldK s₁.heap s'.heap/\s'.os=s₁.os/\AllBare s'.gens) s₁):
  WalkO q loose XP YP l.row.toRowW d [] (fun f vs=>PySem.call f vs):=by
 intro w s₀ s₁ mg mb G Y fa o pm cd doc dV kV ho hd hcd hD hmg hg args vals as hpre hlay hrd hwl hlo
 obtain rfl:dV= .none:=Dflts.none hD hdf
 obtain rfl:kV= .none:=Dflts.noKw hD
 obtain ⟨a,vs,ns,rfl,rfl,hobj,hints,hlen⟩:=afT hn hpre hwl
 refine enter_call (codeAny_mono (call w s₀ s₁ mg mb fa o pm cd doc a vs ns G Y ho (fd_plain hd) hcd hmg hobj hints hlen hg) fun r s' hq=>?_)
 obtain ⟨rfl,h2,h3,h4⟩:=hq
 exact ⟨.inl ⟨.bool true,.bool true,[],rfl,fun _=>rfl,.bool true,afU l _,fun _=>⟨List.Pairwise.nil,fun _ hm=>(nomatch hm)⟩⟩,h2,h3,h4⟩
section
variable {prog:Program}{w:World}{A:Around}{E:Value->SP0}{s:Shared}{K:Frag}
noncomputable def am0 (h:Heap) (L d:Addr):List (Addr × Obj):=(List.range h.objs.size).filterMap fun a=>if a=L ∨ a=d then none else (h.get? a).map fun o=>(a,o)
end
end Att
namespace L2
open PySem PySem.Spec PyProof.Rows
theorem Qp:∀ {vs:List Value}{ns:List Int},IntsAre vs ns->jD (ns.map V.int) vs
 | _,_,.nil=> .nil
 | _,_,.cons n t h=> .cons ⟨t,rfl⟩ (Qp h)
noncomputable def akD (H:Hp):Prop:=∀ b,H b=none ∨ ∃ o xs,H b=some (.frz o (.lst xs))
theorem agS {P:Program}{w:World}{K:Fg}{mg mb:SV}{CX:CXT}{k:Nat}{fa a:Addr}{fd:FuncData}{x:Str}{sp:Sp}{s₁:Shared}{vs:List Value}{ns:List Int}
  (KX:K.In s₁.heap) (hns:s₁.heap.Ns mainGlobals mg) (hb:s₁.heap.Ns builtinsNs mb) (hbb:∀ x:Str,x ≠ "__name__"->mb x=bootBuiltins x) (hlim:s₁.heap.NoLimit) (hg:s₁.gens=#[])
  (ha:s₁.heap.get? a=some { cls:= .type "list",data:= .seq vs.toArray }) (hi:IntsAre vs ns) (hl:ns.length<=sizeLine) (hr:Room k callerA)
  (F:∀ base:Heap,K.In base->base.Ns mainGlobals mg->FnOk P w K mg base CX k fa fd [x] sp) (hbind:∀ (s:Shared) (u:Value),BindsTo s fd ⟨[u],[]⟩ [(x,u)])
  (hsp:∀ H:Hp,akD H->SqL K H a (ns.map V.int)->sp [.ref a] H (fun v _=>v= .bl true) fun _ _ _=>False)
  (hCX:∀ H e s',CX [] H s₁ (fun _ _ _=>False) e s'->False):
  codeAny (model P w) callerA (.call (.ref fa) ⟨[.ref a],[]⟩) (fun r s'=>r= .ok (.ret (.bool true))/\OldK s₁.heap s'.heap/\s'.os=s₁.os/\AllBare s'.gens) s₁:=by
 have rv:=Qp hi
 have lenV:=hi.length
 have core:∀ H:Hp,akD H->SqL K H a (ns.map V.int)->HOk P w H s₁.heap->(∀ b,H b ≠ none->b=a)->(H a ≠ none->K.lookup a=none)->
   codeAny (model P w) callerA (.call (.ref fa) ⟨[.ref a],[]⟩) (fun r s'=>r= .ok (.ret (.bool true))/\OldK s₁.heap s'.heap/\s'.os=s₁.os/\AllBare s'.gens) s₁:=by
  intro H hO hS hok hA hK
  have base_of:∀ {b:Addr} {o:Obj},s₁.heap.get? b=some o->H b=none->(ab1 s₁.heap H).get? b=some o:=fun e n=>agB e n
  have noA:∀ {b:Addr} {o:Obj} {es:Array DictEntry} {ep:Nat},s₁.heap.get? b=some o->o.data= .dict es ep->H b=none:=fun {b o es ep} e d=>by
   cases q:H b with
   | none=>rfl
   | some u=>
    have e':b=a:=hA b (by rw [q]; simp)
    subst e'
    rw [ha] at e; cases e
    have d':Data.seq vs.toArray _=Data.dict es ep:=d
    cases d'
  have nsK:∀ {b:Addr} {m:SV},s₁.heap.Ns b m->(ab1 s₁.heap H).Ns b m:=fun {b m} ⟨o,es,ep,e,d,r⟩=>⟨o,es,ep,base_of e (noA e d),d,r⟩
  have hKb:K.In (ab1 s₁.heap H):=fun b o e=>base_of (KX b o e) (by
   cases q:H b with
   | none=>rfl
   | some u=>
    have e':b=a:=hA b (by rw [q]; simp)
    subst e'
    rw [hK (by rw [q]; simp)] at e; cases e)
  have hM:Mod K mg (ab1 s₁.heap H):=⟨hKb,nsK hns,⟨mb,nsK hb,hbb⟩,let ⟨mc,h1,h2⟩:=hlim; ⟨mc,nsK h1,h2⟩⟩
  have e0:Env0 P w K mg (ab1 s₁.heap H) callerA [] s₁ H:=⟨rfl,hM,fun b o e=>aiy e,Nat.le_of_eq (afL _ _),trivial,fun b hb=>absurd (show b ∈ ([]:List Addr) from hb) (by simp),hok,.of_eq hg⟩
  refine codeAny_mono ((F _ hKb (nsK hns)).run callerA [] s₁ H ⟨[.ref a],[]⟩ [.ref a] [.ref a] _ _ hr e0 (hbind s₁ (.ref a)) (.cons rfl .nil) (hsp H hO hS)) fun r s' h=>?_
  cases r with
  | error e=>exact (hCX H e s' h).elim
  | ok fl=>
   cases fl with
   | next=>exact False.elim h
   | brk=>exact False.elim h
   | cont=>exact False.elim h
   | ret u=>
    obtain ⟨v,H',os,bare,un,hok',r',q⟩:=h
    have q':v= .bl true:=q
    subst q'
    obtain rfl:u=Value.bool true:=r'
    refine ⟨rfl,OldK.of_keep fun b o e=>?_,os,bare⟩
    cases q:H b with
    | none=>exact un.keep b o e q (by intro z; exact absurd (show b ∈ ([]:List Addr) from z) (by simp)) (by simp)
    | some u=>
     rcases hO b with z | ⟨ob,xs,z⟩
     ·rw [q] at z; cases z
     ·have z2:=un.frzs b ob _ z
      obtain ⟨e1,_⟩:=hok b _ z
      obtain ⟨e2,_⟩:=hok' b _ z2
      rw [e] at e1; cases e1
      exact e2
 cases hk:K.lookup a with
 | some o=>
  have e:=KX a o hk
  rw [ha] at e
  cases e
  refine core (fun _=>none) (fun _=> .inl rfl) (.inr ⟨_,vs.toArray,_,hk,rfl,rfl,rfl,by rw [List.size_toArray,lenV]; exact hl,by simpa using rv⟩) (fun b u z=>by have z':(none:Option HO)=some u:=z; cases z') (fun b z=>absurd rfl z) fun z=>absurd rfl z
 | none=>
  refine core (fun b=>if b=a then some (.frz { cls:= .type "list",data:= .seq vs.toArray } (.lst (ns.map V.int))) else none) (fun b=>?_) (.inl (.inr ⟨{ cls:= .type "list",data:= .seq vs.toArray },if_pos rfl⟩)) (fun b u z=>?_) (fun b z=>?_) fun _=>hk
  ·by_cases hb:b=a
   ·exact .inr ⟨_,_,if_pos hb⟩
   ·exact .inl (if_neg hb)
  ·by_cases hb:b=a
   ·have z':=(if_pos hb).symm.trans z
    cases z'
    subst hb
    exact ⟨ha,by rw [List.length_map]; exact hl,vs,_,rv,ha⟩
   ·have z':=(if_neg hb).symm.trans z
    cases z'
  ·by_cases hb:b=a
   ·exact hb
   ·exact absurd (if_neg hb) z
theorem aiO {l:PySem.W.OpenLaw}{n k:Nat}{q:Program}{loose:List Str}{XP:(SV)->Heap->Prop}{YP:World->Heap->Prop}{d:DefRec}{K:Params->Fg}{CX:World->CXT}{sp:World->Sp}{x:Str}
  (hn:l.most=some n) (hn2:n<=sizeLine) (hdf:d.params.defaults=[]) (hr:Room k callerA)
  (hY:∀ (w:World) (h:Heap),YP w h->(K w.params).In h)
  (F:∀ (w:World) (mg:SV) (fa:Addr) (h:Heap),(K w.params).In h->h.Ns mainGlobals mg->mg d.name=some (.ref fa)->
   ∃ fd:FuncData,(∀ (s:Shared) (u:Value),BindsTo s fd ⟨[u],[]⟩ [(x,u)])/\
    ∀ base:Heap,(K w.params).In base->base.Ns mainGlobals mg->FnOk l.prog w (K w.params) mg base (CX w) k fa fd [x] (sp w))
  (hsp:∀ (w:World) (H:Hp) (a:Addr) (ns:List Int),ns.length<=n->akD H->SqL (K w.params) H a (ns.map V.int)->sp w [.ref a] H (fun v _=>v= .bl true) fun _ _ _=>False)
  (hCX:∀ (w:World) (H:Hp) (s:Shared) (e:Value) (s':Shared),CX w [] H s (fun _ _ _=>False) e s'->False):
  PySem.W.WalkO q loose XP YP l.row.toRowW d [] (fun f vs=>PySem.call f vs):=by
 refine Att.attach_call hn hdf fun w s₀ s₁ mg mb fa o pm cd doc a vs ns G Y ho hd hcd hmg hobj hints hlen hg=>?_
 have KX:=hY w _ Y
 obtain ⟨fd,hb,hF⟩:=F w mg fa _ KX G.T.g hmg
 exact agS KX G.T.g G.T.b G.T.builtins G.T.nolimit hg hobj hints (Nat.le_trans hlen hn2) hr hF hb (fun H hO hS=>hsp w H a ns hlen hO hS) fun H e s'=>hCX w H s₁ e s'
noncomputable def zG (s:Stmt):Arguments:=match s with
 | .FunctionDef _ a _ _ _ _ _ _ _ _=>a
 | _=>{ posonlyargs:=[],args:=[],vararg:=none,kwonlyargs:=[],kw_defaults:=[],kwarg:=none,defaults:=[] }
noncomputable def jU (s:Stmt):List Stmt:=match s with
 | .FunctionDef _ _ b _ _ _ _ _ _ _=>b
 | _=>[]
noncomputable def jg (s:Stmt):Scope:=match s with
 | .FunctionDef _ _ _ _ _ _ sc _ _ _=>sc
 | _=>{ kind:= .function,names:=[],isGenerator:=false,isCoroutine:=false }
noncomputable abbrev CX0:CXT:=fun _ _ _ _ _ _=>False
noncomputable abbrev E0:XK:=fun _ _ _=>False
theorem alX {X:Cx}:aeb CX0 X E0:=fun _ _ _ _ _ _ _ h=>h.elim
structure Fun (K:Fg) (x qual:Str) (st:Stmt) (f:Addr) (fd:FuncData):Prop where
 ex:∃ (oc:Value) (od:Option Addr) (kV doc pm:Value) (an:Option Addr) (Kc ct:Value) (osl:Array (Option Value)),
  fd=PySem.W.fnOf x qual (zG st) (jU st) (jg st) .none kV doc pm an Kc ct/\K.lookup f=some ⟨oc,od,.func fd,osl⟩/\PySem.W.codeIn K Kc qual=true
 kp:PySem.W.keepIn K (.ref f)=true
section
variable {P:Program}{w:World}{K:Fg}{mg:SV}{base:Heap}
theorem Fun.ok {x qual:Str}{st:Stmt}{f:Addr}{fd:FuncData}{N ps:List Str}{k:Nat}{sp:Sp} (F:Fun K x qual st f fd) (S:FnScope N ps (jg st)) (len:∀ vs H Q E,sp vs H Q E->vs.length=ps.length)
  (hbody:∀ (Kc:Value) (A:Around) (Ko:List Env) (s:Shared) (H:Hp) (vs:List V) (Q:VK) (E:XK),Room k (A.deeper (envOfC qual (jg st) s.heap.objs.size f Kc))->sp vs H Q E->
   ∃ t,PSs (Jf CX0 P w K mg base N qual (jg st) f Kc A Ko s H E).nox (jU st) t/\t { nx:=fun _ H'=>Q .non H',rt:=Q } (zN N vs) H):FnOk P w K mg base CX0 (k+1) f fd ps sp:=by
 obtain ⟨oc,od,kV,doc,pm,an,Kc,ct,osl,rfl,lk,hcd⟩:=F.ex
 refine alT lk hcd S len fun A Ko s H vs Q E hr hsp=>?_
 obtain ⟨t,h,q⟩:=hbody Kc A Ko s H vs Q E hr hsp
 exact ⟨t,h.nox,q⟩
theorem Fun.binds {x qual:Str}{st:Stmt}{f:Addr}{fd:FuncData}{ps:List Str} (F:Fun K x qual st f fd)
  (h:∀ (kV doc pm:Value) (an:Option Addr) (Kc ct:Value) (us:List Value),us.length=ps.length->bindArgs (PySem.W.fnOf x qual (zG st) (jU st) (jg st) .none kV doc pm an Kc ct) ⟨us,[]⟩=pure (ps.zip us)):QJ K fd ps []:=by
 obtain ⟨oc,od,kV,doc,pm,an,Kc,ct,osl,rfl,lk,hcd⟩:=F.ex
 exact .all (h kV doc pm an Kc ct)
theorem acf {x qual:Str}{st:Stmt}{f:Addr}{oc:Value}{od an:Option Addr}{osl:Array (Option Value)}{kV doc pm Kc ct:Value} (l:K.lookup f=some ⟨oc,od,.func (PySem.W.fnOf x qual (zG st) (jU st) (jg st) .none kV doc pm an Kc ct),osl⟩)
  (c:PySem.W.codeIn K Kc qual=true) (k:PySem.W.keepIn K (.ref f)=true):Fun K x qual st f (PySem.W.fnOf x qual (zG st) (jU st) (jg st) .none kV doc pm an Kc ct):=⟨⟨oc,od,kV,doc,pm,an,Kc,ct,osl,rfl,l,c⟩,k⟩
end
section
variable {X:Cx}
theorem pv (i:Nat) {x:Str}{pos:Pos} (hN:X.N[i]?=some x:=by rfl) (hv:Vis X.env.scope x:=by first | exact Or.inl rfl | exact Or.inr (Or.inl rfl) | exact Or.inr (Or.inr rfl)) (hd:(x == ("__debug__":Str))=false:=by decide)
  (hcd:(x == ("__classdict__":Str))=false:=by decide):PE X (.Name x pos) (alB i):=ab2 hN hv hd hcd
end
theorem am1 {A B:Prop} (h:B):if false=true then A else B:=by
 rw [if_neg Bool.false_ne_true]
 exact h
theorem am2 {A B:Prop} (h:A):if true=true then A else B:=by
 rw [if_pos rfl]
 exact h
noncomputable def jj (H H':Hp):Prop:=∀ b o,H b=some o->H' b=some o
theorem jj.refl (H:Hp):jj H H:=fun _ _ h=>h
theorem jj.trans {H H1 H2:Hp} (a:jj H H1) (b:jj H1 H2):jj H H2:=fun c o h=>b c o (a c o h)
theorem jj.free {H H':Hp} (e:jj H H') {l:Addr} (h:H' l=Option.none):H l=Option.none:=by
 cases q:H l with
 | none=>rfl
 | some o=>
  rw [e l o q] at h
  cases h
theorem jj.seq {K:Fg}{H H':Hp}{a:Addr}{xs:List V} (e:jj H H') (h:SqL K H a xs):SqL K H' a xs:=by
 rcases h with (h | ⟨o,h⟩) | h
 ·exact .inl (.inl (e _ _ h))
 ·exact .inl (.inr ⟨o,e _ _ h⟩)
 ·exact .inr h
section
variable {κ:Type} [DecidableEq κ]
noncomputable def JC (kvs:List (κ × V)) (k:κ):Option V:=(kvs.find? fun kv=>decide (kv.1=k)).map (·.2)
noncomputable def putK (kvs:List (κ × V)) (k:κ) (v:V):List (κ × V):=
 if (kvs.any fun kv=>decide (kv.1=k))=true then kvs.map (fun kv=>if kv.1=k then (kv.1,v) else kv) else kvs++[(k,v)]
noncomputable def ajX (kvs:List (κ × V)) (k:κ):List (κ × V):=kvs.filter fun kv=>decide (kv.1 ≠ k)
theorem aay {p:κ × V}{r:List (κ × V)}{k:κ} (e:p.1=k):JC (p::r) k=some p.2:=by simp [JC,List.find?_cons,e]
theorem aaz {p:κ × V}{r:List (κ × V)}{k:κ} (e:¬ p.1=k):JC (p::r) k=JC r k:=by simp [JC,List.find?_cons,e]
theorem ac2 (k:κ):∀ kvs:List (κ × V),(kvs.any fun kv=>decide (kv.1=k))=(JC kvs k).isSome
 | []=>rfl
 | p::r=>by
  rw [List.any_cons]
  by_cases e:p.1=k
  ·simp only [aay e,decide_eq_true e,Bool.true_or,Option.isSome_some]
  ·rw [aaz e,decide_eq_false e,Bool.false_or]; exact ac2 k r
theorem ZX (kvs:List (κ × V)) (k:κ) (v:V):(putK kvs k v).length<=kvs.length+1:=by
 unfold putK
 split
 ·rw [List.length_map]; omega
 ·rw [List.length_append,List.length_cons,List.length_nil]; omega
theorem Z9.isSome_eq {o:Option V}{u:Option Value} (r:Z9 o u):o.isSome=u.isSome:=by
 cases o with
 | none=>cases u with
  | none=>rfl
  | some _=>exact (show False from r).elim
 | some _=>cases u with
  | none=>exact (show False from r).elim
  | some _=>rfl
theorem Z9.getD {o:Option V}{u:Option Value}{d:V}{d':Value} (r:Z9 o u) (rd:jL d d'):jL (o.getD d) (u.getD d'):=by
 cases o with
 | none=>cases u with
  | none=>exact rd
  | some _=>exact (show False from r).elim
 | some _=>cases u with
  | none=>exact (show False from r).elim
  | some _=>exact r
theorem KV.val {kvs:List (κ × V)}{vs:List (κ × Value)} (r:KV kvs vs) (k:κ):Z9 (JC kvs k) (valueAt vs k):=by
 unfold KV at r
 induction r with
 | nil=>exact True.intro
 | @cons p q ps qs h t ih=>
  obtain ⟨h1,h2⟩:=h
  by_cases e:p.1=k
  ·have e':q.1=k:=h1.symm.trans e
   have b:valueAt (q::qs) k=some q.2:=by simp [valueAt,List.find?_cons,e']
   rw [aay e,b]; exact h2
  ·have e':¬ q.1=k:=fun z=>e (h1.trans z)
   have b:valueAt (q::qs) k=valueAt qs k:=by simp [valueAt,List.find?_cons,e']
   rw [aaz e,b]; exact ih
theorem KV.any {kvs:List (κ × V)}{vs:List (κ × Value)} (r:KV kvs vs) (k:κ):(kvs.any fun kv=>decide (kv.1=k))=vs.any fun kv=>decide (kv.1=k):=by
 unfold KV at r
 induction r with
 | nil=>rfl
 | cons h t ih=>rw [List.any_cons,List.any_cons,ih,h.1]
theorem KV.repl {kvs:List (κ × V)}{vs:List (κ × Value)} (r:KV kvs vs) (k:κ) {y:V}{u:Value} (ry:jL y u):
  KV (kvs.map fun kv=>if kv.1=k then (kv.1,y) else kv) (vs.map fun kv=>if kv.1=k then (kv.1,u) else kv):=by
 unfold KV at r ⊢
 induction r with
 | nil=>exact .nil
 | @cons p q ps qs h t ih=>
  rw [List.map_cons,List.map_cons]
  refine .cons ?_ ih
  obtain ⟨h1,h2⟩:=h
  by_cases e:p.1=k
  ·rw [if_pos e,if_pos (h1.symm.trans e)]; exact ⟨h1,ry⟩
  ·rw [if_neg e,if_neg (fun z=>e (h1.trans z))]; exact ⟨h1,h2⟩
theorem KV.put {kvs:List (κ × V)}{vs:List (κ × Value)} (r:KV kvs vs) (k:κ) {y:V}{u:Value} (ry:jL y u):KV (putK kvs k y) (stored vs k u):=by
 unfold putK stored
 rw [r.any k]
 by_cases e:(vs.any fun kv=>decide (kv.1=k))=true
 ·rw [if_pos e,if_pos e]; exact r.repl k ry
 ·rw [if_neg e,if_neg e]; exact Paired.snoc r ⟨rfl,ry⟩
theorem KV.drop {kvs:List (κ × V)}{vs:List (κ × Value)} (r:KV kvs vs) (k:κ):KV (ajX kvs k) (without vs k):=by
 unfold KV at r ⊢
 unfold ajX without
 induction r with
 | nil=>exact .nil
 | @cons p q ps qs h t ih=>
  obtain ⟨h1,h2⟩:=h
  rw [List.filter_cons,List.filter_cons]
  by_cases e:p.1=k
  ·have a:¬ decide (p.1 ≠ k)=true:=by simp [e]
   have b:¬ decide (q.1 ≠ k)=true:=by simp [h1.symm.trans e]
   rw [if_neg a,if_neg b]; exact ih
  ·have e':¬ q.1=k:=fun z=>e (h1.trans z)
   have a:decide (p.1 ≠ k)=true:=by simp [e]
   have b:decide (q.1 ≠ k)=true:=by simp [e']
   rw [if_pos a,if_pos b]; exact .cons ⟨h1,h2⟩ ih
theorem KV.length {kvs:List (κ × V)}{vs:List (κ × Value)} (r:KV kvs vs):kvs.length=vs.length:=Paired.length r
end
theorem aeV {P:Program}{w:World}{k:Key}{u:Value} (r:jL (kV k) u):(qB P w).is k u=true:=by
 cases k with
 | inl i=>obtain ⟨t,e⟩:=(show ∃ t,u=Value.int i t from r); subst e; exact acV P w i t
 | inr x=>obtain ⟨t,e⟩:=(show ∃ t,u=Value.str x t from r); subst e; exact acW P w x t
theorem abx {P:Program}{w:World}:∀ {ks:List Key}{us:List Value},jD (ks.map kV) us->ItemsAre (qB P w) ks us
 | [],_,r=>by rw [List.map_nil] at r; cases r; exact .nil
 | k::ks,_,r=>by
  rw [List.map_cons] at r
  cases r with
  | cons h t=>exact .cons (aeV h) (abx t)
noncomputable abbrev KT (H:Hp):List (List Key × V)->List (List Key × Addr × Value)->Prop:=Paired fun p q=>p.1=q.1/\H q.2.1=some (.tup (p.1.map kV))/\jL p.2 q.2.2
theorem KT.val {H:Hp}{kvs:List (List Key × V)}{xs:List (List Key × Addr × Value)} (r:KT H kvs xs) (k:List Key):Z9 (JC kvs k) ((atKey xs k).map (·.2)):=by
 induction r with
 | nil=>exact True.intro
 | @cons p q ps qs h t ih=>
  obtain ⟨h1,_,h2⟩:=h
  by_cases e:p.1=k
  ·have e':q.1=k:=h1.symm.trans e
   have b:atKey (q::qs) k=some q.2:=by simp [atKey,List.find?_cons,e']
   rw [aay e,b]; exact h2
  ·have e':¬ q.1=k:=fun z=>e (h1.trans z)
   have b:atKey (q::qs) k=atKey qs k:=by simp [atKey,List.find?_cons,e']
   rw [aaz e,b]; exact ih
theorem KT.repl {H:Hp}{kvs:List (List Key × V)}{xs:List (List Key × Addr × Value)} (r:KT H kvs xs) (k:List Key) {y:V}{u:Value} (ry:jL y u):
  KT H (kvs.map fun kv=>if kv.1=k then (kv.1,y) else kv) (xs.map (putAt k u)):=by
 induction r with
 | nil=>exact .nil
 | @cons p q ps qs h t ih=>
  rw [List.map_cons,List.map_cons]
  refine .cons ?_ ih
  obtain ⟨h1,h2,h3⟩:=h
  unfold putAt
  by_cases e:p.1=k
  ·rw [if_pos e,if_pos (h1.symm.trans e)]; exact ⟨h1,h2,ry⟩
  ·rw [if_neg e,if_neg (fun z=>e (h1.trans z))]; exact ⟨h1,h2,h3⟩
theorem KT.put {H:Hp}{kvs:List (List Key × V)}{xs:List (List Key × Addr × Value)} (r:KT H kvs xs) (k:List Key) {b:Addr}{y:V}{u:Value} (hb:H b=some (.tup (k.map kV))) (ry:jL y u):
  KT H (putK kvs k y) (storedH xs k b u):=by
 have e:(kvs.any fun kv=>decide (kv.1=k))=(atKey xs k).isSome:=by
  rw [ac2,(r.val k).isSome_eq,Option.isSome_map]
 unfold putK storedH
 rw [e]
 by_cases q:(atKey xs k).isSome=true
 ·rw [if_pos q,if_pos q]; exact r.repl k ry
 ·rw [if_neg q,if_neg q]; exact Paired.snoc r ⟨rfl,hb,ry⟩
theorem KT.keeps {H H':Hp}{kvs:List (List Key × V)}{xs:List (List Key × Addr × Value)} (r:KT H kvs xs) (ht:∀ b ys,H b=some (.tup ys)->H' b=some (.tup ys)):KT H' kvs xs:=
 Paired.mapP r fun _ _ z=>⟨z.1,ht _ _ z.2.1,z.2.2⟩
section
variable {P:Program}{w:World}{H:Hp}{h:Heap}{a:Addr}
theorem ajY {u:HO} (ok:HOk P w H h) (e:Rd H a u):qx P w H h a u:=e.ok ok
theorem ac3 {kvs:List (Key × V)} (ok:HOk P w H h) (e:Rd H a (.dK kvs)):kvs.length<=sizeLine/\(a == sysModules)=false/\∃ vs,KV kvs vs/\h.DictOf (qB P w) a vs:=
 show qx P w H h a (.dK kvs) from ajY ok e
theorem alY {kvs:List (Key × V)} (ok:HOk P w H h) (e:H a=some (.dK kvs)):kvs.length<=sizeLine/\(a == sysModules)=false/\∃ vs,KV kvs vs/\h.DictOf (qB P w) a vs:=ac3 ok (.inl e)
theorem acg {ks:List Key} (ok:HOk P w H h) (e:H a=some (.tup (ks.map kV))):(tupleKind (qB P w)).is h ks a:=by
 obtain ⟨_,its,r,o,h1,h2,n,h3⟩:=(show qx P w H h a (.tup (ks.map kV)) from ok a _ e)
 exact ⟨o,its.toArray,n,h1,h2,h3,by simpa using abx r⟩
theorem aeW {kvs:List (List Key × V)} (ok:HOk P w H h) (e:Rd H a (.dT kvs)):kvs.length<=sizeLine/\(a == sysModules)=false/\
  ∃ xs,KT H kvs xs/\h.DictOfH (tupleKind (qB P w)) a xs:=by
 obtain ⟨z,y,xs,r,o,es,ep,h1,h2,h3,h4,h5⟩:=(show qx P w H h a (.dT kvs) from ajY ok e)
 refine ⟨z,y,xs,r,o,es,ep,h1,h2,h3,h4,fun x hx=>?_,h5⟩
 have all:∀ {l:List (List Key × V)} {m:List (List Key × Addr × Value)},KT H l m->∀ x ∈ m,(tupleKind (qB P w)).is h x.1 x.2.1:=by
  intro l m q
  induction q with
  | nil=>intro x hx; exact nomatch hx
  | @cons p q ps qs hq t ih=>
   intro x hx
   rcases List.mem_cons.mp hx with e | hx
   ·subst e
    exact acg ok (by rw [←hq.1]; exact hq.2.1)
   ·exact ih x hx
 exact all r x hx
theorem alZ {kvs:List (List Key × V)} (ok:HOk P w H h) (e:H a=some (.dT kvs)):kvs.length<=sizeLine/\(a == sysModules)=false/\
  ∃ xs,KT H kvs xs/\h.DictOfH (tupleKind (qB P w)) a xs:=aeW ok (.inl e)
end
noncomputable def abe (H:Hp) (a:Addr) (y:V) (r:Option V):Prop:=
 (∃ kvs k,Rd H a (.dK kvs)/\y=kV k/\r=JC kvs k) ∨ ∃ kvs k b,Rd H a (.dT kvs)/\y= .ref b/\H b=some (.tup (k.map kV))/\r=JC kvs k
noncomputable def afV (H:Hp) (a:Addr) (y v:V) (H':Hp):Prop:=
 (∃ kvs k,H a=some (.dK kvs)/\y=kV k/\kvs.length<sizeLine/\H'=upd H a (.dK (putK kvs k v))) ∨
 ∃ kvs k b,H a=some (.dT kvs)/\y= .ref b/\H b=some (.tup (k.map kV))/\kvs.length<sizeLine/\H'=upd H a (.dT (putK kvs k v))
theorem abe.k {H:Hp}{a:Addr}{kvs:List (Key × V)}{k:Key} (e:H a=some (.dK kvs)):abe H a (kV k) (JC kvs k):= .inl ⟨kvs,k,.inl e,rfl,rfl⟩
theorem abe.t {H:Hp}{a b:Addr}{kvs:List (List Key × V)}{k:List Key} (e:H a=some (.dT kvs)) (eb:H b=some (.tup (k.map kV))):abe H a (.ref b) (JC kvs k):= .inr ⟨kvs,k,b,.inl e,rfl,eb,rfl⟩
theorem afV.k {H:Hp}{a:Addr}{kvs:List (Key × V)}{k:Key}{v:V} (e:H a=some (.dK kvs)) (hl:kvs.length<sizeLine):afV H a (kV k) v (upd H a (.dK (putK kvs k v))):= .inl ⟨kvs,k,e,rfl,hl,rfl⟩
theorem afV.t {H:Hp}{a b:Addr}{kvs:List (List Key × V)}{k:List Key}{v:V} (e:H a=some (.dT kvs)) (eb:H b=some (.tup (k.map kV))) (hl:kvs.length<sizeLine):
  afV H a (.ref b) v (upd H a (.dT (putK kvs k v))):= .inr ⟨kvs,k,b,e,rfl,eb,hl,rfl⟩
section
variable {X:Cx}{Kp:List (Addr × Obj)}{σ:St}{H:Hp}{s:Shared}{a:Addr}{y v:V}{u r:Value}{o:Option V}{A:Around}{E:Value->SP0}
theorem Inv.big (I:Inv X Kp σ H s):sysModules<s.heap.objs.size:=by
 have h:mainGlobals<s.heap.objs.size:=(I.mod.glob.keeps I.bk).lt
 exact Nat.lt_trans (by decide) h
theorem afW {Q:Value->SP0} (hu:A.units+1<cLine) (I:Inv X Kp σ H s) (g:abe H a y (some v)) (ry:jL y u) (h:∀ w' s',Inv X Kp σ H s'->jL v w'->Q w' s'):
  wpAny (model X.prog X.w) A (getItem (.ref a) u) Q E s:=by
 rcases g with ⟨kvs,k,e,ey,l⟩ | ⟨kvs,k,b,e,ey,eb,l⟩
 ·subst ey
  obtain ⟨z,hd,vs,rel,dd⟩:=ac3 I.hok e
  obtain ⟨w',hw,rw'⟩:=Z9.some_of (v:=v) (o:=valueAt vs k) (by rw [l]; exact rel.val k)
  exact wpAny_getItem_of (aeV ry) dd.mapOf hw (h w' _ (I.tok _) rw')
 ·subst ey
  cases (show u=Value.ref b from ry)
  obtain ⟨z,hd,xs,rel,dd⟩:=aeW I.hok e
  obtain ⟨w',hw,rw'⟩:=Z9.some_of (v:=v) (o:=(atKey xs k).map (·.2)) (by rw [l]; exact rel.val k)
  obtain ⟨p,hp,hp2⟩:=Option.map_eq_some_iff.mp hw
  refine wpAny_getItem_heap (tupleKind_room_in1 hu) (acg I.hok eb) dd hp ?_
  rw [hp2]
  exact h w' _ (I.tok _) rw'
theorem am3 {Q:Value->SP0} (hu:A.units+1<cLine) (I:Inv X Kp σ H s) (g:abe H a y o) (ry:jL y u) (h:∀ s',Inv X Kp σ H s'->Q (.bool o.isSome) s'):
  wpAny (model X.prog X.w) A (compareOp .In u (.ref a)) Q E s:=by
 rcases g with ⟨kvs,k,e,ey,l⟩ | ⟨kvs,k,b,e,ey,eb,l⟩
 ·subst ey
  obtain ⟨z,hd,vs,rel,dd⟩:=ac3 I.hok e
  refine wpAny_in_of (aeV ry) hd dd.mapOf ?_
  rw [←(rel.val k).isSome_eq,←l]
  exact h _ (I.tok _)
 ·subst ey
  cases (show u=Value.ref b from ry)
  obtain ⟨z,hd,xs,rel,dd⟩:=aeW I.hok e
  refine wpAny_in_heap (tupleKind_room_in1 hu) (acg I.hok eb) hd dd ?_
  have q:=(rel.val k).isSome_eq
  rw [Option.isSome_map] at q
  rw [←q,←l]
  exact h _ (I.tok _)
theorem aeX {h':Heap}{t':Nat}{ob:HO} (I:Inv X Kp σ H s) (mu:Mut (H a)) (hs:Heap.SameBut a s.heap h') (he:∃ q,h'.get? a=some q) (new:qx X.prog X.w (upd H a ob) h' a ob):
  Inv X Kp σ (upd H a ob) { s with heap:=h',toks:=t' }:=
 I.write (x:=a) (e:=a) mu (.inl rfl) (fun b q hb z=>(hs.2 b hb).trans z) he new
theorem akE {P:Program}{w:World}{H':Hp}{h':Heap}{kvs:List (Key × V)}{vs:List (Key × Value)} (z:kvs.length<=sizeLine) (hd:(a == sysModules)=false) (rel:KV kvs vs) (dd:h'.DictOf (qB P w) a vs):
  qx P w H' h' a (.dK kvs):=⟨z,hd,vs,rel,dd⟩
theorem afX {H':Hp}{Q:Unit->SP0} (hu:A.units+1<cLine) (I:Inv X Kp σ H s) (g:afV H a y v H') (ry:jL y u) (rv:jL v r) (h:∀ s',Inv X Kp σ H' s'->Q () s'):
  wpAny (model X.prog X.w) A (setItem (.ref a) u r) Q E s:=by
 rcases g with ⟨kvs,k,e,ey,l,eH⟩ | ⟨kvs,k,b,e,ey,eb,l,eH⟩
 ·subst ey eH
  obtain ⟨z,hd,vs,rel,dd⟩:=alY I.hok e
  have hz:vs.length<=sizeLine:=by rw [←rel.length]; exact z
  have hl:(putK kvs k v).length<=sizeLine:=by have:=ZX kvs k v; omega
  refine wpAny_setItem_pairs (hsz:=hz) (aeV ry) dd fun h' dd' hs=>h _ ?_
  have he:∃ q,h'.get? a=some q:=let ⟨q,_,_,hq,_⟩:=dd'; ⟨q,hq⟩
  exact aeX I (by rw [e]; exact True.intro) hs he (akE hl hd (rel.put k rv) dd')
 ·subst ey eH
  cases (show u=Value.ref b from ry)
  obtain ⟨z,hd,xs,rel,dd⟩:=alZ I.hok e
  have hz:xs.length<=sizeLine:=by rw [←Paired.length rel]; exact z
  have hl:(putK kvs k v).length<=sizeLine:=by have:=ZX kvs k v; omega
  refine wpAny_setItem_heap (hsz:=hz) (tupleKind_room_in1 hu) (acg I.hok eb) dd fun h' dd' hs=>h _ ?_
  obtain ⟨q,es,ep,hq,h2,h3,h4,_,h5⟩:=dd'
  refine aeX I (by rw [e]; exact True.intro) hs ⟨q,hq⟩ ⟨hl,hd,_,(rel.put k eb rv).keeps fun c ys ec=>?_,q,es,ep,hq,h2,h3,h4,h5⟩
  rw [jm (alA ec e (fun z=>nomatch z))]
  exact ec
end
section
variable {X:Cx}{Kp:List (Addr × Obj)}{σ:St}{H:Hp}{s:Shared}{a:Addr}{kvs:List (Key × V)}{k:Key}{u:Value}{A:Around}{E:Value->SP0}
end
noncomputable def akF (i:Expr):Prop:=∀ ov iv,subscripted i false ov iv=operate [ov,iv] (getItem ov iv)
theorem aiP {prog:Program}{w:World}{A:Around}{E:Value->SP0}{s:Shared}{env:Env}{value slice:Expr}{pos:Pos}{T id:String}{Q:Value->SP0}
  (hl:typeLookup (.type T) "__getitem__"=pure (some (.builtin id))) (hs:akF slice)
  (h:wpAny (model prog w) A (eval value env) (fun o s₁=>wpAny (model prog w) A (eval slice env) (fun i s₂=>s₂.TypeIs o T/\wpAny (model prog w) A (getItem o i) Q E s₂) E s₁) E s):
  wpAny (model prog w) A (eval (.Subscript value slice pos) env) Q E s:=by
 refine Subscript_ (wpAny_mono h (fun o s₁ h₁=>wpAny_mono h₁ (fun i s₂ h₂=>?_) fun _ _ x=>x) fun _ _ x=>x)
 obtain ⟨hT,h₂⟩:=h₂
 unfold subscriptTail
 refine wpAny_bind ?_
 rw [getitemInPython_of_ne hT.not_modules]
 refine wpAny_bind (wpAny_specialOf hT hl ?_)
 have fin:wpAny (model prog w) A (subscripted slice false o i) (fun r s₃=>wpAny (model prog w) A (letTemporaryGo value o r >>= fun _=>pure r) Q E s₃) E s₂:=by
  rw [hs o i]
  exact wpAny_operating (wpAny_mono h₂ (fun r s₃ h₃=>wpAny_bind (wpAny_letTemporaryGo (wpAny_pure h₃))) fun _ _ x=>x)
 first
  | exact wpAny_pure (wpAny_bind fin)
  | exact wpAny_bind (wpAny_pure (wpAny_bind fin))
  | exact wpAny_bind fin
theorem ac4 {X:Cx}{Kp:List (Addr × Obj)}{σ:St}{H:Hp}{s:Shared}{a:Addr}{y:V}{o:Option V} (I:Inv X Kp σ H s) (g:abe H a y o):s.TypeIs (.ref a) "dict":=by
 rcases g with ⟨kvs,k,e,_,_⟩ | ⟨kvs,k,b,e,_,_,_⟩
 ·obtain ⟨_,_,vs,_,dd⟩:=ac3 I.hok e
  exact dd.typeIs
 ·obtain ⟨_,_,xs,_,dd⟩:=aeW I.hok e
  exact dd.typeIs
noncomputable def al0 (td ty:TE):TE:=fun σ H Q=>td σ H fun x H1=>ty σ H1 fun y H2=>∃ a v,x= .ref a/\abe H2 a y (some v)/\Q v H2
noncomputable def am4 (ty td:TE):TE:=fun σ H Q=>ty σ H fun y H1=>td σ H1 fun x H2=>∃ a o,x= .ref a/\abe H2 a y o/\Q (.bl o.isSome) H2
section
variable {X:Cx}{o i e value:Expr}{pos pos' tpos:Pos}{td ty tv:TE}
theorem aiQ (hu:X.A.units+1<cLine) (ho:PE X o td) (hi:PE X i ty) (hs:akF i):PE X (.Subscript o i pos) (al0 td ty):=by
 intro Kp s σ H Q I h
 refine aiP PySem.F.slot_dict_getitem.lookup hs (thn (ho Kp s σ H _ I h) fun u s1 ⟨x,H1,I1,rx,q1⟩=>thn (hi Kp s1 σ H1 _ I1 q1) fun iv s2 ⟨y,H2,I2,ry,a,v,ex,g,q2⟩=>?_)
 subst ex
 obtain rfl:u=Value.ref a:=rx
 exact ⟨ac4 I2 g,afW hu I2 g ry fun w' s3 I3 rw'=>⟨v,H2,I3,rw',q2⟩⟩
theorem akG (hu:X.A.units+1<cLine) (hi:PE X i ty) (ho:PE X o td):PC X .In i o (am4 ty td):=by
 intro Kp s σ H Q I h
 refine thn (hi Kp s σ H _ I h) fun iv s1 ⟨y,H1,I1,ry,q1⟩=>thn (ho Kp s1 σ H1 _ I1 q1) fun u s2 ⟨x,H2,I2,rx,a,ov,ex,g,q2⟩=>?_
 subst ex
 obtain rfl:u=Value.ref a:=rx
 exact am3 hu I2 g ry fun s3 I3=>⟨.bl ov.isSome,H2,I3,rfl,q2⟩
end
theorem agT {P:Program}{w:World}{H:Hp} (h:Heap) (hb:sysModules<h.objs.size):qx P w H (h.push { cls:= .type "dict",data:= .dict #[] }) h.objs.size (.dK []):=
 ⟨Nat.zero_le _,beq_eq_false_iff_ne.mpr (Ne.symm (Nat.ne_of_lt hb)),[],.nil,Heap.DictOf.new h⟩
noncomputable def akH:TE:=fun _ H Q=>∀ p,H p=none->Q (.ref p) (upd H p (.dK []))
section
variable {X:Cx}{pos:Pos}
theorem agU:PE X (.Dict [] [] pos) akH:=fun Kp s σ H Q I h=>
 wpAny_Dict_empty ⟨.ref s.heap.objs.size,_,I.laid (a:=s.heap.objs.size) (o:= .dK []) (t':=s.toks) (fun _ _ q=>Heap.get?_push_of_some _ q) (Nat.le_refl _) (agT s.heap I.big),rfl,h _ (I.hok.fresh (Nat.le_refl _))⟩
end
structure M1 (X:Cx) (o:Expr) (m:Str) (apos:Pos) (e:Expr) (cpos:Pos):Prop where
 base:attributeBase o m X.env (eval o X.env)=eval o X.env
 few:((backTo cpos (starEach [e] X.env)).all (fun x=>!x.1) && (backToKw cpos (keywordEach [] X.env)).all (fun x=>x.1.isSome)
  && decide (([e]:List Expr).length+([]:List Keyword).length+(if ([]:List Keyword).isEmpty then 0 else 1)<30))=true
 line:(apos.endLine == cpos.line)=true
 trees:backTo cpos (starEach [e] X.env)=[(false,eval e X.env)]
structure M2 (X:Cx) (o:Expr) (m:Str) (apos:Pos) (e f:Expr) (cpos:Pos):Prop where
 base:attributeBase o m X.env (eval o X.env)=eval o X.env
 few:((backTo cpos (starEach [e,f] X.env)).all (fun x=>!x.1) && (backToKw cpos (keywordEach [] X.env)).all (fun x=>x.1.isSome)
  && decide (([e,f]:List Expr).length+([]:List Keyword).length+(if ([]:List Keyword).isEmpty then 0 else 1)<30))=true
 line:(apos.endLine == cpos.line)=true
 trees:backTo cpos (starEach [e,f] X.env)=[(false,eval e X.env),(false,eval f X.env)]
section
variable {X:Cx}{Kp:List (Addr × Obj)}{σ:St}{H:Hp}{s:Shared}{a:Addr}{y d:V}{u r:Value}{o:Option V}{A:Around}{E:Value->SP0}
end
section
variable {X:Cx}{o e f:Expr}{apos cpos:Pos}{td ty tx:TE}
end
section
variable {X:Cx}{Kp:List (Addr × Obj)}{σ:St}{H:Hp}{s:Shared}{a:Addr}{kvs:List (Key × V)}{A:Around}{E:Value->SP0}
end
section
variable {X:Cx}{Kp:List (Addr × Obj)}{σ:St}{H:Hp}{s:Shared}{a:Addr}{y:V}{u:Value}{A:Around}{E:Value->SP0}
end
section
variable {X:Cx}
end
section
variable {κ:Type} [DecidableEq κ]
end
end L2
end
section
namespace BX
open PySem PySem.Spec L2
open PyProof.Rows hiding St
noncomputable abbrev NoX:Value->SP0:=fun _ _=>False
noncomputable def aeY (ts:List Expr) (en:Env):Sem Bool:=
 forIn ts true fun c r=>if r=true then do let ok ←isTrue c en (eval c en); pure (ForInStep.yield ok) else pure (ForInStep.yield r)
section
variable {prog:Program}{w:World}{A:Around}{s:Shared}{R:Result->SP0}
theorem afY {el tg src:Expr}{ts:List Expr}{sc:Scope}{ps:Pos}{it acc:Value}{en:Env} (J:Nat->SP0)
  (turn:∀ n s,J n s->wpAny (model prog w) A (pyNext it) (fun r s1=>match r with
   | none=>R (.ok .next) s1
   | some v=>wpAny (model prog w) A (letOwnedTupleGo tg it v) (fun _ sg=>wpAny (model prog w) A (assign tg en v) (fun _ s2=>
     wpAny (model prog w) A (aeY ts en) (fun ok s3=>
      if ok=true then wpAny (model prog w) A (eval el en) (fun y s4=>
       wpAny (model prog w) A (call (.builtin "list.append") [acc,y]) (fun _ s5=>∃ m,m<n/\J m s5) NoX s4) NoX s3
      else ∃ m,m<n/\J m s3) NoX s2) NoX sg) NoX s1) NoX s)
  (n:Nat) (h:J n s):
  codeAny (model prog w) A (.compLoop (.ListComp el [⟨tg,src,ts,0⟩] sc ps) 0 it acc en) R s:=by
 refine codeAny_loop rfl J (fun n s hJ=>?_) n h
 show wpAny _ A
  ((compTurn (.ListComp el [⟨tg,src,ts,0⟩] sc ps) 0 it acc en).onRaise
   (fun x=>do noteFrame x en; theTreesLotGoes x)) _ _ s
 refine wpAny_noted ?_
 rw [compTurn_list]
 have no:∀ {E:Value->SP0} (e:Value) (s':Shared),NoX e s'->E e s':=fun _ _ z=>z.elim
 refine wpAny_bind (wpAny_standAt (wpAny_bind (wpAny_mono (turn n s hJ) (fun r s1 h1=>?_) no)))
 cases r with
 | none=>exact wpAny_pure h1
 | some v=>
  refine wpAny_bind (wpAny_mono h1 (fun _ sg hg=>?_) no)
  refine wpAny_bind (wpAny_mono hg (fun _ s2 h2=>?_) no)
  refine wpAny_bind (wpAny_mono h2 (fun ok s3 h3=>?_) no)
  cases ok with
  | false=>exact wpAny_pure ⟨rfl,h3⟩
  | true=>
   refine wpAny_bind (wpAny_bind (wpAny_mono h3 (fun y s4 h4=>?_) no))
   exact wpAny_bind (wpAny_mono h4 (fun _ s5 h5=>wpAny_pure (wpAny_pure ⟨rfl,h5⟩)) no)
end
noncomputable def QK (en:Env):List (Str × NameKind)->List (Str × Addr)->List (Str × Addr)
 | [],cs=>cs
 | (n,k)::r,cs=>QK en r (if k == .free then (n,(en.cells.lookup n).getD 0)::cs else cs)
theorem aiR (sc:Scope) (en:Env) (h:∀ x ∈ sc.names,x.2= .free->∃ c,en.cells.lookup x.1=some c):closureFor sc en=pure (QK en sc.names []):=by
 have go:∀ (l:List (Str × NameKind)) (cs:List (Str × Addr)),(∀ x ∈ l,x.2= .free->∃ c,en.cells.lookup x.1=some c)->
   (forIn l cs (fun (x:Str × NameKind) (r:List (Str × Addr))=>(do
    if x.2 == .free then do
     let c ←cellOf en x.1
     pure (ForInStep.yield ((x.1,c)::r))
    else pure (ForInStep.yield r):Sem (ForInStep (List (Str × Addr))))):Sem _)=pure (QK en l cs):=by
  intro l
  induction l with
  | nil=>intro cs _; rfl
  | cons x l ih=>
   intro cs hl
   obtain ⟨n,k⟩:=x
   rw [List.forIn_cons]
   by_cases hk:(k == NameKind.free)=true
   ·obtain ⟨c,e⟩:=hl (n,k) List.mem_cons_self (by simpa using hk)
    have e':en.cells.lookup n=some c:=e
    simp only [hk,zzM,cellOf,e',pure_bind,QK,Option.getD_some]
    exact ih _ fun y hy=>hl y (List.mem_cons_of_mem _ hy)
   ·simp only [hk,pure_bind,QK,zzL,zzN]
    exact ih _ fun y hy=>hl y (List.mem_cons_of_mem _ hy)
 have:=go sc.names [] h
 unfold closureFor
 rw [←this]
 first
  | (simp only [bind_pure_comp,id_map',map_pure]; done)
  | (simp only [bind_pure_comp,id_map',map_pure]; exact bind_pure _)
theorem aby (en:Env):∀ (l:List (Str × NameKind)) (cs:List (Str × Addr)),(∀ x ∈ l,x.2= .free->∃ c,en.cells.lookup x.1=some c)->(∀ p ∈ cs,en.cells.lookup p.1=some p.2)->
  ∀ p ∈ QK en l cs,en.cells.lookup p.1=some p.2
 | [],_,_,h,p,hp=>h p hp
 | (n,k)::r,cs,hl,h,p,hp=>by
  refine aby en r _ (fun y hy=>hl y (List.mem_cons_of_mem _ hy)) (fun q hq=>?_) p hp
  by_cases hk:(k == NameKind.free)=true
  ·rw [if_pos hk] at hq
   rcases List.mem_cons.mp hq with rfl | hq
   ·obtain ⟨c,e⟩:=hl (n,k) List.mem_cons_self (by simpa using hk)
    have e':en.cells.lookup n=some c:=e
    show en.cells.lookup n=some ((en.cells.lookup n).getD 0)
    rw [e']; rfl
   ·exact h q hq
  ·rw [if_neg hk] at hq
   exact h q hq
theorem ZY (en:Env):∀ (l:List (Str × NameKind)) (cs:List (Str × Addr)) (x:Str),(∃ c,(x,c) ∈ cs)->∃ c,(x,c) ∈ QK en l cs
 | [],_,_,h=>h
 | (n,k)::r,cs,x,⟨c,h⟩=>by
  refine ZY en r _ x ?_
  by_cases hk:(k == NameKind.free)=true
  ·rw [if_pos hk]; exact ⟨c,List.mem_cons_of_mem _ h⟩
  ·rw [if_neg hk]; exact ⟨c,h⟩
theorem Zz (en:Env):∀ (l:List (Str × NameKind)) (cs:List (Str × Addr)) (x:Str),(x,NameKind.free) ∈ l->∃ c,(x,c) ∈ QK en l cs
 | (n,k)::r,cs,x,h=>by
  rcases List.mem_cons.mp h with e | h
  ·obtain ⟨e1,e2⟩:=Prod.mk.inj e
   subst e1; subst e2
   exact ZY en r _ _ ⟨_,by rw [if_pos (by rfl)]; exact List.mem_cons_self⟩
  ·exact Zz en r _ x h
theorem Jg {β:Type}:∀ {l:List (Str × β)}{x:Str}{c:β},(x,c) ∈ l->∃ d,l.lookup x=some d
 | (n,k)::r,x,c,h=>by
  by_cases e:x=n
  ·subst e; exact ⟨k,by simp [List.lookup_cons]⟩
  ·have eb:(x == n)=false:=by simpa using e
   rcases List.mem_cons.mp h with z | h
   ·cases z; exact absurd rfl e
   ·obtain ⟨d,hd⟩:=Jg h
    exact ⟨d,by simp only [List.lookup_cons,eb]; exact hd⟩
theorem ZZ {sc:Scope}{en:Env}{x:Str}{k:NameKind} (h:(x,k) ∈ (relabel sc en).names) (hc:∀ y ∈ sc.names,y.2 ≠ .cell) (hk:k= .cell ∨ k= .free):(x,NameKind.free) ∈ sc.names:=by
 obtain ⟨⟨n,j⟩,hm,e⟩:=List.mem_map.mp h
 by_cases q:(j == NameKind.free && en.scope.kind == .function && en.kindOf n == some .cell)=true
 ·have e1:(n,NameKind.cell)=(x,k):=by simpa only [q,zzM] using e
  cases e1
  have hj:j= .free:=by
   simp only [Bool.and_eq_true] at q
   simpa using q.1.1
  rw [←hj]; exact hm
 ·have e1:(n,j)=(x,k):=by simpa only [q,zzL,zzN] using e
  cases e1
  rcases hk with rfl | rfl
  ·exact absurd rfl (hc _ hm)
  ·exact hm
theorem Q1 {en:Env}:∀ {l:List (Str × NameKind)}{x:Str},l.lookup x=some .free->
  (l.map fun (n,k)=>if (k == NameKind.free && en.scope.kind == .function && en.kindOf n == some .cell) then (n,NameKind.cell) else (n,k)).lookup x=some .cell ∨
  (l.map fun (n,k)=>if (k == NameKind.free && en.scope.kind == .function && en.kindOf n == some .cell) then (n,NameKind.cell) else (n,k)).lookup x=some .free
 | (n,k)::r,x,h=>by
  rw [List.map_cons]
  cases hx:x == n with
  | true=>
   simp only [List.lookup_cons,hx] at h
   cases h
   by_cases q:(NameKind.free == NameKind.free && en.scope.kind == .function && en.kindOf n == some .cell)=true
   ·left; simp only [q,zzM,List.lookup_cons,hx]
   ·right; simp only [q,zzL,zzN,List.lookup_cons,hx]
  | false=>
   simp only [List.lookup_cons,hx] at h
   rcases Q1 (en:=en) h with g | g
   ·left
    by_cases q:(k == NameKind.free && en.scope.kind == .function && en.kindOf n == some .cell)=true
    ·simp only [q,zzM,List.lookup_cons,hx]; exact g
    ·simp only [q,zzL,zzN,List.lookup_cons,hx]; exact g
   ·right
    by_cases q:(k == NameKind.free && en.scope.kind == .function && en.kindOf n == some .cell)=true
    ·simp only [q,zzM,List.lookup_cons,hx]; exact g
    ·simp only [q,zzL,zzN,List.lookup_cons,hx]; exact g
noncomputable def blk (X:Cx) (N':List Str) (sc:Scope) (cl:List (Str × Addr)) (C:Addr) (s0:Shared) (H0:Hp) (fp:List Addr) (pn:List (Addr × Obj)):Cx:=
 { X with N:=N',s₀:=s0,H₀:=H0,env:=compEnvC sc cl C X.env,Ko:=X.stack,ex:=fp,fn:=fun _=>false,pn:=pn,xe:=NoX }
noncomputable def ac5 (cap:List (Option Nat)) (σ:St):St:=cap.map fun o=>o.bind fun i=>(σ[i]?).join
noncomputable def PTs (X:Cx) (ts:List Expr) (t:TT):Prop:=
 ∀ (Kp:List (Addr × Obj)) (s:Shared) (σ:St) (H:Hp) (Q:Bool->Hp->Prop),Inv X Kp σ H s->t σ H Q->wpAny (model X.prog X.w) X.A (aeY ts X.env) (TP X Kp σ Q) X.xe s
noncomputable def al1:TT:=fun _ H Q=>Q true H
theorem aiS {X:Cx}:PTs X [] al1:=fun _ _ _ H _ I h=>wpAny_pure ⟨H,I,h⟩
structure CompOk (X:Cx) (sc:Scope) (N':List Str) (cap:List (Option Nat)):Prop where
 fr:∀ x ∈ sc.names,x.2= .free->X.env.kindOf x.1=some .cell ∨ X.env.kindOf x.1=some .free
 nc:∀ x ∈ sc.names,x.2 ≠ .cell
 kind:sc.kind= .function
 nm:∀ x ∈ sc.names,x.2= .local->sc.names.lookup x.1=some .local
 len:cap.length=N'.length
 cp:∀ (j i:Nat) (x:Str),N'[j]?=some x->cap[j]?=some (some i)->X.N[i]?=some x/\sc.names.lookup x=some .free
noncomputable def al3 (wi:TI) (cap:List (Option Nat)) (g:TG) (tt:TT) (te:TE):TE:=fun σ H Q=>wi σ H fun J H1=>
 ∃ W:Nat->Nat->St->List V->Hp->Prop,(∃ m,W 0 m (ac5 cap σ) [] H1)/\∀ i m τ ys H,W i m τ ys H->ys.length<sizeLine/\
  ((J.stop i H/\∀ l,H l=none->Q (.ref l) (upd H l (.lst ys))) ∨
   (J.go i H/\∀ x H',J.yld i H x H'->g x τ H' fun τ2 H2=>tt τ2 H2 fun b H3=>if b=true then te τ2 H3 fun y H4=>∃ m',m' < m/\W (i+1) m' τ2 (ys++[y]) H4 else ∃ m',m' < m/\W (i+1) m' τ2 ys H3))
theorem Inv.track {X:Cx}{Kp:List (Addr × Obj)}{σ:St}{H:Hp}{s:Shared}{D:Addr}{o:HO} (I:Inv X Kp σ H s) (hn:H D=none) (h1:X.s₀.heap.objs.size<=D) (h2:D ≠ X.env.locals) (h3:∀ x c,X.env.cells.lookup x=some c->c ≠ D)
  (h4:∀ p ∈ X.pn++Kp,p.1 ≠ D) (new:qx X.prog X.w (upd H D o) s.heap D o):Inv X Kp σ (upd H D o) s:=by
 have nd:∀ b u,H b=some u->b ≠ D:=fun b u e z=>by rw [z,hn] at e; cases e
 have hok:HOk X.prog X.w (upd H D o) s.heap:=fun b u e=>by
  by_cases hb:b=D
  ·subst hb; rw [jr] at e; cases e; exact new
  ·rw [jm hb] at e
   exact (I.hok b u e).stay (fun _ _ _ q=>q) (fun c q=>by rw [jm (nd c _ q)]; exact q) fun c xs q=>by rw [jm (nd c _ q)]; exact q
 refine I.step (h':=s.heap) (g':=s.gens) (d':=s.drawn) (t':=s.toks) (ch:=[D]) (fun b hb=>?_) (fun b o _ _ _ e _=>e) (fun b o _ _ _ e _=>⟨o.slots,e⟩) (fun b o hc _ n=>?_) (fun b o _ e=>⟨o,e⟩) (fun b xs e=>by rw [jm (nd b _ e)]; exact e)
  (fun b ob u e=>by rw [jm (nd b _ e)]; exact e) (fun b ps e=>⟨#[],by rw [jm (nd b _ e),e]; simp⟩) (fun m hm=>hm) hok I.bare
 ·have e:b=D:=by simpa using hb
  subst e
  exact ⟨.inr h1,h2,h3,h4⟩
 ·have e:b ≠ D:=by simpa using hc
  rw [jm e]; exact n
theorem aiT {X : Cx} {el tg src : Expr} {ts : List Expr} {sc : Scope} {ps : Pos} {wi : TI} {g : TG} {tt : TT} {te : TE} {N' : List Str} {cap : List (Option Nat)} (hc : X.calm = true) (hi : PI X tg src wi) (ok : CompOk X sc N' cap)
    (body : ∀ cl C s0 H0 fp pn, PG (blk X N' sc cl C s0 H0 fp pn) tg g /\ PTs (blk X N' sc cl C s0 H0 fp pn) ts tt /\ PE (blk X N' sc cl C s0 H0 fp pn) el te)
    (hs : ∀ x, foldedSetIterable src X.env x = pure x := by intro _; rfl) : PE X (.ListComp el [⟨tg, src, ts, 0⟩] sc ps) (al3 wi cap g tt te) := by
  intro Kp s σ H Q I h
  have hfr : ∀ x ∈ sc.names, x.2 = .free -> ∃ c, X.env.cells.lookup x.1 = some c := fun x hx e => I.ok.has x.1 (ok.fr x hx e)
  have hcl := aiR sc X.env hfr
  have clm : ∀ x c, (QK X.env sc.names []).lookup x = some c -> X.env.cells.lookup x = some c := fun x c e =>
    aby X.env sc.names [] hfr (fun _ z => nomatch z) (x, c) (PySem.mem_of_lookup e)
  generalize hgl : QK X.env sc.names [] = cl at hcl clm
  rw [eval_ListComp]
  refine wpAny_comprehension_free (use := none) rfl hs hcl ok.kind ok.nm ?_
  refine thn (hi Kp s σ H _ I h) fun v s1 h1 => thn h1 fun itv s2 h2 => ?_
  obtain ⟨it, fp, tn, J, H2, e, I2, T, st2, f2, W, ⟨m0, w0⟩, turn⟩ := h2
  subst e
  refine wpAny_newObj_type (wpAny_newFunctionEnv ok.nc (by intro y hy; simp at hy) (fun h4 hns hsb => ?_) ok.kind)
  dsimp only at hns hsb ⊢
  generalize hH3 : s2.heap.push { cls := .type "list", dict := none, data := .seq ([] : List Value).toArray } = h3 at hns hsb ⊢
  have hC : h3.objs.size = s2.heap.objs.size + 1 := by rw [← hH3, Heap.size_push]
  generalize hCC : h3.objs.size = C at hns hsb hC ⊢
  generalize hDD : s2.heap.objs.size = D at hC ⊢
  have hDC : D ≠ C := by rw [hC]; exact Nat.ne_of_lt (Nat.lt_succ_self _)
  have old : ∀ b o, s2.heap.get? b = some o -> h4.get? b = some o := fun b o e => hsb.extBut b o (by have := Heap.lt_size e; rw [hDD] at this; rw [hC]; exact Nat.ne_of_lt (Nat.lt_succ_of_lt this)) (Heap.get?_push_of_some _ (hH3 ▸ Heap.get?_push_of_some _ e))
  have accO : h4.get? D = some { cls := .type "list", data := .seq ([] : List Value).toArray 0 } := hsb.extBut _ _ hDC (Heap.get?_push_of_some _ (by rw [← hH3, ← hDD]; exact Heap.get?_push_size _ rfl))
  have H2D : H2 D = none := I2.hok.fresh (by rw [hDD]; exact Nat.le_refl _)
  have H2C : H2 C = none := I2.hok.fresh (by rw [hDD, hC]; exact Nat.le_succ _)
  have cellsLt : ∀ x c, X.env.cells.lookup x = some c -> c<D := fun x c e => by
    obtain ⟨v, q⟩ := I2.cell x c e
    rw [← hDD]; exact q.lt
  have pinLt : ∀ p ∈ X.pn ++ Kp, p.1<D := fun p hp => by rw [← hDD]; exact Heap.lt_size (I2.pin p hp).1
  have stkLt : ∀ b ∈ frs X.stack, b<D := fun b hb => by
    obtain ⟨_, o, ho, _⟩ := I2.stack.mem hb
    rw [← hDD]; exact Heap.lt_size ho
  have fpLt : ∀ b ∈ fp, b<D := fun b hb => by
    obtain ⟨o, ho, _⟩ := T.obj _ _ st2 b hb
    rw [← hDD]; exact Heap.lt_size ho
  have ltC : ∀ {b : Addr}, b<D -> b ≠ C := fun hb => by rw [hC]; exact Nat.ne_of_lt (Nat.lt_succ_of_lt hb)
  have locLt : X.env.locals<D := by rw [← hDD]; exact I2.lt
  have hDge : s2.heap.objs.size <= D := by rw [hDD]; exact Nat.le_refl _
  have hCge : s2.heap.objs.size <= C := by rw [hDD, hC]; exact Nat.le_succ _
  have bok : (blk X N' sc cl C s2 H2 fp (X.pn ++ Kp)).Ok := by
    refine ⟨I2.ok.mod, ok.kind, I2.ok.glob, I2.ok.blt, hCge, fun x y c e1 e2 => I2.ok.inj x y c (clm x c e1) (clm y c e2), fun x hx => ?_, fun x c z _ => ?_, I2.ok.hd, I2.ok.frames, .inl rfl, fun b hb => ?_, I2.bs, Nat.le_trans I2.ok.bsz I2.sz, fun b o e hb => ?_, fun b hb z => ?_, I2.stack, I2.stkFree⟩
    · have hx' : (relabel sc X.env).names.lookup x = some .cell ∨ (relabel sc X.env).names.lookup x = some .free := hx
      have hm : (x, NameKind.free) ∈ sc.names := by
        rcases hx' with z | z
        · exact ZZ (PySem.mem_of_lookup z) ok.nc (.inl rfl)
        · exact ZZ (PySem.mem_of_lookup z) ok.nc (.inr rfl)
      obtain ⟨c, hc⟩ := Zz X.env sc.names [] x hm
      rw [hgl] at hc
      exact Jg hc
    · exact absurd (show false = true from z) Bool.false_ne_true
    · exact ⟨ltC (fpLt b hb), fun x c e => (f2 b hb).2.2.2.2.1 x c (clm x c e)⟩
    · rcases (f2 b hb).2.2.2.1 with z | z
      · exact I2.ok.noex b o e z
      · have := Heap.lt_size e
        exact absurd (Nat.lt_of_lt_of_le this (Nat.le_trans I2.ok.bsz z)) (Nat.lt_irrefl _)
    · rcases List.mem_cons.mp (I2.stkSub b z) with q | q
      · exact (f2 b hb).2.1 q
      · exact (f2 b hb).2.2.1 q
  have pinB : ∀ p ∈ X.pn ++ Kp, p.1 ≠ C /\ p.1 ∉ frs X.stack := fun p hp => ⟨ltC (pinLt p hp), fun z => by
    rcases List.mem_cons.mp (I2.stkSub p.1 z) with q | q
    · exact (I2.pin p hp).2.2.1 q
    · exact (I2.pin p hp).2.2.2.1 q⟩
  have I4 : Inv (blk X N' sc cl C s2 H2 fp (X.pn ++ Kp)) [] (ac5 cap σ) H2 { s2 with heap := h4, toks := s2.toks + ([] : List (Str × Value)).length } := by
    refine ⟨bok, rfl, I2.bare, Un.kept old, ⟨_, hns, fun j x v e1 e2 e3 => ?_⟩, fun x c e => ?_, H2C, fun x c e => I2.freeC x c (clm x c e), fun p hp => ?_, I2.hok.kept old, ?_⟩
    · unfold ac5 at e2
      rw [List.getElem?_map] at e2
      cases e4 : cap[j]? with
      | none => rw [e4] at e2; cases e2
      | some o =>
        rw [e4] at e2
        cases o with
        | none => cases e2
        | some i =>
          obtain ⟨hNi, hf⟩ := ok.cp j i x e1 e4
          have e5 : (σ[i]?).join = some v := by
            have := Option.some.inj e2
            simpa using this
          have e6 : σ[i]? = some (some v) := by
            cases e7 : σ[i]? with
            | none => rw [e7] at e5; cases e5
            | some z => rw [e7] at e5; cases z with
              | none => cases e5
              | some z => cases e5; rfl
          have hk := ok.fr (x, .free) (PySem.mem_of_lookup hf) rfl
          obtain ⟨m, hn, hl⟩ := I2.loc
          have hv : Vis X.env.scope x := by
            rcases hk with z | z
            · exact .inr (.inl z)
            · exact .inr (.inr z)
          obtain ⟨u, r, lk⟩ := hl i x v hNi e6 hv
          have cellX : ∃ c, X.env.cells.lookup x = some c /\ s2.heap.IsCell c (some u) := by
            rcases lk with ⟨k1, _⟩ | ⟨_, c, e, z⟩
            · rcases hk with z | z
              · have z' : X.env.kindOf x = some .cell := z
                rw [k1] at z'; cases z'
              · have z' : X.env.kindOf x = some .free := z
                rw [k1] at z'; cases z'
            · exact ⟨c, e, z⟩
          obtain ⟨c, hc1, ob, hc2, hc3⟩ := cellX
          obtain ⟨c', hc'⟩ := Zz X.env sc.names [] x (PySem.mem_of_lookup hf)
          rw [hgl] at hc'
          obtain ⟨d, hd⟩ := Jg hc'
          have ed : d = c := by
            have := clm x d hd
            rw [hc1] at this; cases this; rfl
          subst ed
          refine ⟨u, r, .inr ⟨?_, d, hd, ob, old _ _ hc2, hc3⟩⟩
          exact Q1 hf
    · obtain ⟨v, ob, ho, hd⟩ := I2.cell x c (clm x c e)
      exact ⟨v, ob, old _ _ ho, hd⟩
    · have hp' : p ∈ X.pn ++ Kp := by simpa [blk] using hp
      obtain ⟨e1, e2, e3, e4, e5⟩ := I2.pin p hp'
      exact ⟨old _ _ e1, e2, (pinB p hp').1, (pinB p hp').2, e5⟩
    · show (ac5 cap σ).length = N'.length
      unfold ac5
      rw [List.length_map]; exact ok.len
  have fpB : ∀ {H' : Hp} {pl : List (Addr × Obj)}, (∀ b ∈ fp, H' b = none) -> (∀ p ∈ pl, p.1 ∉ fp) -> ∀ b ∈ fp, ad3 (blk X N' sc cl C s2 H2 fp (X.pn ++ Kp)) pl H' b := fun {H' pl} hn hpl b hb =>
    ⟨hn b hb, ltC (fpLt b hb), bok.exfs b hb, .inl hb, fun x c e => (f2 b hb).2.2.2.2.1 x c (clm x c e), fun p hp z => by
      rcases List.mem_append.mp (show p ∈ (X.pn ++ Kp) ++ pl from hp) with q | q
      · exact (f2 b hb).2.2.2.2.2 p q z
      · exact hpl p q (by rw [z]; exact hb)⟩
  have Dfp : ∀ (o : Obj), ∀ p ∈ [(D, o)], p.1 ∉ fp := fun o p hp z => by
    have e : p = (D, o) := by simpa using hp
    subst e
    exact Nat.lt_irrefl _ (fpLt D z)
  have Dfs : D ∉ frs X.stack := fun z => Nat.lt_irrefl _ (stkLt D z)
  obtain ⟨bG, bT, bE⟩ := body cl C s2 H2 fp (X.pn ++ Kp)
  have loop : codeAny (model X.prog X.w) X.A (.compLoop (.ListComp el [⟨tg, src, ts, 0⟩] sc ps) 0 (.ref it) (.ref D) (compEnvC sc cl C X.env)) (compPost (model X.prog X.w) X.A X.xe none (EP X Kp σ Q) (.ref D) C)
      { s2 with heap := h4, toks := s2.toks + ([] : List (Str × Value)).length } := by
    refine afY (fun n s' => ∃ i τ ys us k H', Inv (blk X N' sc cl C s2 H2 fp (X.pn ++ Kp)) [] τ H' s' /\ tn i s'.heap /\ (∀ b ∈ fp, H' b = none) /\ jD ys us /\ s'.heap.get? D = some { cls := .type "list", data := .seq us.toArray k } /\ H' D = none /\ W i n τ ys H') ?_ m0
      ⟨0, _, [], [], 0, H2, I4, T.keep _ _ _ st2 (fun b _ o e => old b o e), fun b hb => (f2 b hb).1, .nil, accO, H2D, w0⟩
    rintro n s5 ⟨i, τ, ys, us, k, H5, I5, st5, fr5, rv5, ho5, hD5, w5⟩
    obtain ⟨hsz, alt⟩ := turn i n τ ys H5 w5
    have I5p : Inv (blk X N' sc cl C s2 H2 fp (X.pn ++ Kp)) [(D, { cls := .type "list", data := .seq us.toArray k })] τ H5 s5 := I5.pins_of fun p hp => by
      have e : p = (D, { cls := .type "list", data := .seq us.toArray k }) := by simpa using hp
      subst e
      exact ⟨ho5, hD5, hDC, Dfs, fun v z => by cases z⟩
    rcases alt with ⟨stop, fin⟩ | ⟨go, step⟩
    · refine thn (T.done (blk X N' sc cl C s2 H2 fp (X.pn ++ Kp)) rfl rfl rfl hc i _ s5 τ H5 NoX I5p (fpB fr5 (Dfp _)) st5 stop) fun r s6 ⟨hr, I6⟩ => ?_
      subst hr
      have ho6 := (I6.pin (D, _) (List.mem_append_right _ (List.mem_singleton.mpr rfl))).1
      obtain ⟨m6, hn6, _⟩ := I6.loc
      refine ⟨m6, hn6, fun h7 hs7 => ?_⟩
      have J6 : Inv X Kp σ H5 s6 := I2.call' (ch := fp) I6.os I6.base I6.hok I6.bare fun b hb => ⟨(f2 b hb).2.2.2.1, (f2 b hb).2.1, (f2 b hb).2.2.2.2.1, (f2 b hb).2.2.2.2.2⟩
      have H5C : H5 C = none := I6.free
      have cne : ∀ {b : Addr}, b<D -> b ≠ C := ltC
      have J7 : Inv X Kp σ H5 { s6 with heap := h7, toks := s6.toks } := J6.turned (it := C) (fun b o hb e => hs7.extBut b o hb e) H5C (Ne.symm (ltC locLt)) (.inr (Nat.le_trans I2.sz hCge)) (fun x c e => ltC (cellsLt x c e)) (fun p hp => ltC (pinLt p hp))
      have ho7 : h7.get? D = some { cls := .type "list", data := .seq us.toArray k } := hs7.extBut D _ hDC ho6
      refine ⟨.ref D, upd H5 D (.lst ys), ?_, rfl, fin D hD5⟩
      exact Inv.track J7 hD5 (Nat.le_trans I2.sz hDge) (Ne.symm (Nat.ne_of_lt locLt)) (fun x c e => Nat.ne_of_lt (cellsLt x c e)) (fun p hp => Nat.ne_of_lt (pinLt p hp)) ⟨Nat.le_of_lt hsz, us, k, rv5, ho7⟩
    · refine thn (T.item (blk X N' sc cl C s2 H2 fp (X.pn ++ Kp)) rfl rfl rfl hc i _ s5 τ H5 NoX I5p (fpB fr5 (Dfp _)) st5 go) fun r s6 ⟨u, hr, h6⟩ => ?_
      subst hr
      refine thn h6 fun _ s7 ⟨x, H7, I7, r7, y7, st7, fr7⟩ => ?_
      have I7p := I7.pinned (fpB fr7 (Dfp _)) (T.obj _ _ st7)
      refine thn (bG _ s7 τ H7 x u _ I7p r7 (step x H7 y7)) fun _ s8 ⟨τ8, H8, I8, q8⟩ => ?_
      have back : ∀ {τ9 : St} {H9 : Hp} {s9 : Shared}, Inv (blk X N' sc cl C s2 H2 fp (X.pn ++ Kp)) ([(D, { cls := .type "list", data := .seq us.toArray k })] ++ aaw fp s7.heap) τ9 H9 s9 ->
          tn (i + 1) s9.heap /\ (∀ b ∈ fp, H9 b = none) /\ s9.heap.get? D = some { cls := .type "list", data := .seq us.toArray k } /\ H9 D = none := fun {τ9 H9 s9} I9 => by
        have pD := I9.pin (D, { cls := .type "list", data := .seq us.toArray k }) (List.mem_append_right _ (List.mem_append_left _ (List.mem_singleton.mpr rfl)))
        refine ⟨T.keep _ _ _ st7 fun b hb o e => (I9.pin (b, o) (List.mem_append_right _ (List.mem_append_right _ (JB hb e)))).1, fun b hb => ?_, pD.1, pD.2.1⟩
        obtain ⟨o, e, _⟩ := T.obj _ _ st7 b hb
        exact (I9.pin (b, o) (List.mem_append_right _ (List.mem_append_right _ (JB hb e)))).2.1
      have drop : ∀ {τ9 : St} {H9 : Hp} {s9 : Shared} {pl : List (Addr × Obj)}, Inv (blk X N' sc cl C s2 H2 fp (X.pn ++ Kp)) pl τ9 H9 s9 -> Inv (blk X N' sc cl C s2 H2 fp (X.pn ++ Kp)) [] τ9 H9 s9 := fun I9 => I9.pins_of fun p hp => nomatch hp
      refine thn (bT _ s8 τ8 H8 _ I8 q8) fun b s9 ⟨H9, I9, q9⟩ => ?_
      cases b with
      | false =>
        rw [if_neg Bool.false_ne_true] at q9 ⊢
        obtain ⟨m', hm, w9⟩ := q9
        obtain ⟨t9, f9, o9, d9⟩ := back I9
        exact ⟨m', hm, i + 1, τ8, ys, us, k, H9, drop I9, t9, f9, rv5, o9, d9, w9⟩
      | true =>
        rw [if_pos rfl] at q9 ⊢
        refine thn (bE _ s9 τ8 H9 _ I9 q9) fun y s10 ⟨z, H10, I10, r10, q10⟩ => ?_
        obtain ⟨m', hm, w10⟩ := q10
        obtain ⟨t10, f10, o10, d10⟩ := back I10
        have hl := rv5.length
        refine append_at (hsz := by show us.toArray.size <= sizeLine; rw [List.size_toArray, ← hl]; exact Nat.le_of_lt hsz) o10 fun h11 hs11 hD11 => ?_
        have I11 : Inv (blk X N' sc cl C s2 H2 fp (X.pn ++ Kp)) [] τ8 H10 { s10 with heap := h11, toks := s10.toks } := (drop I10).turned (it := D) (fun b o hb e => hs11.extBut b o hb e) d10 hDC (.inr hDge) (fun x c e => Nat.ne_of_lt (cellsLt x c (clm x c e)))
          (fun p hp => by have hp' : p ∈ X.pn ++ Kp := by simpa [blk] using hp
                          exact Nat.ne_of_lt (pinLt p hp'))
        refine ⟨m', hm, i + 1, τ8, ys ++ [z], us ++ [y], k + 1, H10, I11, T.keep _ _ _ t10 (fun b hb o e => hs11.extBut b o (Nat.ne_of_lt (fpLt b hb)) e), f10, rv5.append (.cons r10 .nil), ?_, d10, w10⟩
        rw [hD11]
        simp
  refine codeAny_compStart_list loop ?_
  exact T.self _ 0 _ _ _ (T.keep _ _ _ st2 (fun b _ o e => old b o e)) loop
theorem jj.tup {K:Fg}{H H':Hp}{a:Addr}{xs:List V} (e:jj H H') (h:SqT K H a xs):SqT K H' a xs:=by
 rcases h with (h | ⟨o,h⟩) | h
 ·exact .inl (.inl (e _ _ h))
 ·exact .inl (.inr ⟨o,e _ _ h⟩)
 ·exact .inr h
noncomputable def scr (ns:List Int):PyData:= .dict (ns.map fun n=>(.int n,.none))
noncomputable def aaA:Key->PyData
 | .inl i=> .int i
 | .inr t=> .str t
mutual
noncomputable def Rep (K:Fg) (H:Hp):PyData->V->Prop
 | .none,v=>v= .non
 | .bool b,v=>v= .bl b
 | .int i,v=>v= .int i
 | .str x,v=>v= .str x
 | .tuple ds,v=>∃ a xs,v= .ref a/\SqT K H a xs/\Reps K H ds xs
 | .list ds,v=>∃ a xs,v= .ref a/\H a=some (.lst xs)/\Reps K H ds xs
 | .dict kvs,v=>∃ a,v= .ref a/\((∃ ns:List Int,SqL K H a (List.map V.int ns)/\kvs=ns.map (fun n=>(PyData.int n,PyData.none))) ∨ (∃ ks ob,H a=some (.frz ob (.dK ks))/\RepD K H kvs ks) ∨ (∃ x:Str,kvs=[(.str x,.none)]/\PySem.W.nsIn K mainGlobals x=some (some (.ref a))) ∨ (∃ (x:Str) (C:Addr) (oe:Obj),kvs=[(.str x,.bool true)]/\H a=some (.frz oe (.own a))/\PySem.W.nsIn K mainGlobals x=some (some (.ref C))/\oe.cls= .ref C/\oe.dict=none/\∃ vs,oe.data= .fields vs) ∨ kvs=[(.bool true,.int (a:Int))])
noncomputable def Reps (K:Fg) (H:Hp):LP->List V->Prop
 | [],xs=>xs=[]
 | d::ds,xs=>∃ x r,xs=x::r/\Rep K H d x/\Reps K H ds r
noncomputable def RepD (K:Fg) (H:Hp):List (PyData × PyData)->List (Key × V)->Prop
 | [],_=>False
 | (.none,_)::r,ks=>RepM K H r ks
 | _::_,_=>False
noncomputable def RepM (K:Fg) (H:Hp):List (PyData × PyData)->List (Key × V)->Prop
 | [],ks=>ks=[]
 | (k,d)::r,ks=>∃ i x s,k=aaA i/\ks=(i,x)::s/\Rep K H d x/\RepM K H r s
end
noncomputable def zk (kvs:List (PyData × PyData)):Bool:=kvs.all fun p=>match p with
 | (.int _,.none)=>true
 | _=>false
theorem abz (ns:List Int):zk (ns.map fun n=>(PyData.int n,PyData.none))=true:=by
 simp [zk]
theorem RepD.out {K:Fg}{H:Hp}:∀ {kvs:List (PyData × PyData)}{ks:List (Key × V)},RepD K H kvs ks->∃ c r,kvs=(.none,c)::r/\RepM K H r ks
 | [],_,h=>h.elim
 | (.none,c)::r,ks,h=>⟨c,r,rfl,h⟩
 | (.bool _,_)::_,_,h=>h.elim
 | (.int _,_)::_,_,h=>h.elim
 | (.str _,_)::_,_,h=>h.elim
 | (.list _,_)::_,_,h=>h.elim
 | (.tuple _,_)::_,_,h=>h.elim
 | (.dict _,_)::_,_,h=>h.elim
theorem Rep.scrOut {K:Fg}{H:Hp}{kvs:List (PyData × PyData)}{v:V} (h:Rep K H (.dict kvs) v) (hs:zk kvs=true):∃ a ns,v= .ref a/\SqL K H a (List.map V.int ns)/\kvs=ns.map (fun n=>(PyData.int n,PyData.none)):=by
 obtain ⟨a,h1,h2 | ⟨ks,ob,h2,h3⟩ | ⟨x,h2,_⟩ | ⟨x,_,_,h2,_⟩ | h2⟩:=h
 ·obtain ⟨ns,q1,q2⟩:=h2; exact ⟨a,ns,h1,q1,q2⟩
 ·obtain ⟨c,r,rfl,_⟩:=h3.out
  simp [zk] at hs
 ·subst h2; simp [zk] at hs
 ·subst h2; simp [zk] at hs
 ·subst h2; simp [zk] at hs
noncomputable def am5 (a:Addr):PyData:= .dict [(.bool true,.int (a:Int))]
noncomputable def ach (x:Str):PyData:= .dict [(.str x,.bool true)]
noncomputable def fnD (x:Str):PyData:= .dict [(.str x,.none)]
noncomputable def jP (H H':Hp):Prop:=∀ b o,H b=some o->(∀ φ,o ≠ .ext φ)->H' b=some o
theorem jj.e {H H':Hp} (s:jj H H'):jP H H':=fun b o h _=>s b o h
theorem jP.refl (H:Hp):jP H H:=fun _ _ h _=>h
theorem jP.trans {H H1 H2:Hp} (a:jP H H1) (b:jP H1 H2):jP H H2:=fun c o h n=>b c o (a c o h n) n
theorem jP.tup {K:Fg}{H H':Hp}{a:Addr}{xs:List V} (e:jP H H') (h:SqT K H a xs):SqT K H' a xs:=by
 rcases h with (h | ⟨o,h⟩) | h
 ·exact .inl (.inl (e _ _ h fun _ z=>nomatch z))
 ·exact .inl (.inr ⟨o,e _ _ h fun _ z=>nomatch z⟩)
 ·exact .inr h
theorem jP.sql {K:Fg}{H H':Hp}{a:Addr}{xs:List V} (e:jP H H') (h:SqL K H a xs):SqL K H' a xs:=by
 rcases h with (h | ⟨o,h⟩) | h
 ·exact .inl (.inl (e _ _ h fun _ z=>nomatch z))
 ·exact .inl (.inr ⟨o,e _ _ h fun _ z=>nomatch z⟩)
 ·exact .inr h
section
variable {K:Fg}{H H':Hp}
mutual
theorem Rep.mono (e:jj H H'):∀ (d:PyData) (v:V),Rep K H d v->Rep K H' d v
 | .none,v,h=>h
 | .bool _,v,h=>h
 | .int _,v,h=>h
 | .str _,v,h=>h
 | .tuple ds,v,⟨a,xs,h1,h2,h3⟩=>⟨a,xs,h1,jj.tup e h2,Reps.mono e ds xs h3⟩
 | .list ds,v,⟨a,xs,h1,h2,h3⟩=>⟨a,xs,h1,e _ _ h2,Reps.mono e ds xs h3⟩
 | .dict kvs,v,⟨a,h1,h2⟩=>⟨a,h1,h2.imp (fun ⟨ns,q1,q2⟩=>⟨ns,e.seq q1,q2⟩) fun z=>z.imp (fun ⟨ks,ob,q1,q2⟩=>⟨ks,ob,e _ _ q1,RepD.mono e kvs ks q2⟩) fun y=>y.imp id fun z=>z.imp (fun ⟨x,C,oe,q1,q2,q3⟩=>⟨x,C,oe,q1,e _ _ q2,q3⟩) id⟩
theorem Reps.mono (e:jj H H'):∀ (ds:LP) (xs:List V),Reps K H ds xs->Reps K H' ds xs
 | [],xs,h=>h
 | d::ds,xs,⟨x,r,h1,h2,h3⟩=>⟨x,r,h1,Rep.mono e d x h2,Reps.mono e ds r h3⟩
theorem RepD.mono (e:jj H H'):∀ (kvs:List (PyData × PyData)) (ks:List (Key × V)),RepD K H kvs ks->RepD K H' kvs ks
 | [],_,h=>h
 | (.none,c)::r,ks,h=>RepM.mono e r ks h
 | (.bool _,_)::_,_,h=>h
 | (.int _,_)::_,_,h=>h
 | (.str _,_)::_,_,h=>h
 | (.list _,_)::_,_,h=>h
 | (.tuple _,_)::_,_,h=>h
 | (.dict _,_)::_,_,h=>h
theorem RepM.mono (e:jj H H'):∀ (kvs:List (PyData × PyData)) (ks:List (Key × V)),RepM K H kvs ks->RepM K H' kvs ks
 | [],_,h=>h
 | (k,d)::r,ks,⟨i,x,s,h1,h2,h3,h4⟩=>⟨i,x,s,h1,h2,Rep.mono e d x h3,RepM.mono e r s h4⟩
end
mutual
theorem Rep.monoE (e:jP H H'):∀ (d:PyData) (v:V),Rep K H d v->Rep K H' d v
 | .none,v,h=>h
 | .bool _,v,h=>h
 | .int _,v,h=>h
 | .str _,v,h=>h
 | .tuple ds,v,⟨a,xs,h1,h2,h3⟩=>⟨a,xs,h1,jP.tup e h2,Reps.monoE e ds xs h3⟩
 | .list ds,v,⟨a,xs,h1,h2,h3⟩=>⟨a,xs,h1,e _ _ h2 (fun _ z=>nomatch z),Reps.monoE e ds xs h3⟩
 | .dict kvs,v,⟨a,h1,h2⟩=>⟨a,h1,h2.imp (fun ⟨ns,q1,q2⟩=>⟨ns,jP.sql e q1,q2⟩) fun z=>z.imp (fun ⟨ks,ob,q1,q2⟩=>⟨ks,ob,e _ _ q1 (fun _ z=>nomatch z),RepD.monoE e kvs ks q2⟩) fun y=>y.imp id fun z=>z.imp (fun ⟨x,C,oe,q1,q2,q3⟩=>⟨x,C,oe,q1,e _ _ q2 (fun _ z=>nomatch z),q3⟩) id⟩
theorem Reps.monoE (e:jP H H'):∀ (ds:LP) (xs:List V),Reps K H ds xs->Reps K H' ds xs
 | [],xs,h=>h
 | d::ds,xs,⟨x,r,h1,h2,h3⟩=>⟨x,r,h1,Rep.monoE e d x h2,Reps.monoE e ds r h3⟩
theorem RepD.monoE (e:jP H H'):∀ (kvs:List (PyData × PyData)) (ks:List (Key × V)),RepD K H kvs ks->RepD K H' kvs ks
 | [],_,h=>h
 | (.none,c)::r,ks,h=>RepM.monoE e r ks h
 | (.bool _,_)::_,_,h=>h
 | (.int _,_)::_,_,h=>h
 | (.str _,_)::_,_,h=>h
 | (.list _,_)::_,_,h=>h
 | (.tuple _,_)::_,_,h=>h
 | (.dict _,_)::_,_,h=>h
theorem RepM.monoE (e:jP H H'):∀ (kvs:List (PyData × PyData)) (ks:List (Key × V)),RepM K H kvs ks->RepM K H' kvs ks
 | [],_,h=>h
 | (k,d)::r,ks,⟨i,x,s,h1,h2,h3,h4⟩=>⟨i,x,s,h1,h2,Rep.monoE e d x h3,RepM.monoE e r s h4⟩
end
end
noncomputable def agV:HO->Bool
 | .lst _=>true
 | .tup _=>true
 | .frz _ _=>true
 | _=>false
noncomputable def jB (H H':Hp):Prop:=∀ b o,H b=some o->agV o=true->H' b=some o
section
variable {K:Fg}{H H':Hp}
theorem jB.tup {a:Addr}{xs:List V} (e:jB H H') (h:SqT K H a xs):SqT K H' a xs:=by
 rcases h with (h | ⟨o,h⟩) | h
 ·exact .inl (.inl (e _ _ h rfl))
 ·exact .inl (.inr ⟨o,e _ _ h rfl⟩)
 ·exact .inr h
theorem jB.sql {a:Addr}{xs:List V} (e:jB H H') (h:SqL K H a xs):SqL K H' a xs:=by
 rcases h with (h | ⟨o,h⟩) | h
 ·exact .inl (.inl (e _ _ h rfl))
 ·exact .inl (.inr ⟨o,e _ _ h rfl⟩)
 ·exact .inr h
mutual
theorem Rep.monoA (e:jB H H'):∀ (d:PyData) (v:V),Rep K H d v->Rep K H' d v
 | .none,v,h=>h
 | .bool _,v,h=>h
 | .int _,v,h=>h
 | .str _,v,h=>h
 | .tuple ds,v,⟨a,xs,h1,h2,h3⟩=>⟨a,xs,h1,jB.tup e h2,Reps.monoA e ds xs h3⟩
 | .list ds,v,⟨a,xs,h1,h2,h3⟩=>⟨a,xs,h1,e _ _ h2 rfl,Reps.monoA e ds xs h3⟩
 | .dict kvs,v,⟨a,h1,h2⟩=>⟨a,h1,h2.imp (fun ⟨ns,q1,q2⟩=>⟨ns,jB.sql e q1,q2⟩) fun z=>z.imp (fun ⟨ks,ob,q1,q2⟩=>⟨ks,ob,e _ _ q1 rfl,RepD.monoA e kvs ks q2⟩) fun y=>y.imp id fun z=>z.imp (fun ⟨x,C,oe,q1,q2,q3⟩=>⟨x,C,oe,q1,e _ _ q2 rfl,q3⟩) id⟩
theorem Reps.monoA (e:jB H H'):∀ (ds:LP) (xs:List V),Reps K H ds xs->Reps K H' ds xs
 | [],xs,h=>h
 | d::ds,xs,⟨x,r,h1,h2,h3⟩=>⟨x,r,h1,Rep.monoA e d x h2,Reps.monoA e ds r h3⟩
theorem RepD.monoA (e:jB H H'):∀ (kvs:List (PyData × PyData)) (ks:List (Key × V)),RepD K H kvs ks->RepD K H' kvs ks
 | [],_,h=>h
 | (.none,c)::r,ks,h=>RepM.monoA e r ks h
 | (.bool _,_)::_,_,h=>h
 | (.int _,_)::_,_,h=>h
 | (.str _,_)::_,_,h=>h
 | (.list _,_)::_,_,h=>h
 | (.tuple _,_)::_,_,h=>h
 | (.dict _,_)::_,_,h=>h
theorem RepM.monoA (e:jB H H'):∀ (kvs:List (PyData × PyData)) (ks:List (Key × V)),RepM K H kvs ks->RepM K H' kvs ks
 | [],_,h=>h
 | (k,d)::r,ks,⟨i,x,s,h1,h2,h3,h4⟩=>⟨i,x,s,h1,h2,Rep.monoA e d x h3,RepM.monoA e r s h4⟩
end
end
theorem jj.a {H H':Hp} (s:jj H H'):jB H H':=fun b o h _=>s b o h
theorem jP.a {H H':Hp} (s:jP H H'):jB H H':=fun b o h q=>s b o h fun φ z=>by subst z; cases q
theorem jB.refl (H:Hp):jB H H:=fun _ _ h _=>h
theorem jB.trans {H H1 H2:Hp} (a:jB H H1) (b:jB H1 H2):jB H H2:=fun c o h n=>b c o (a c o h n) n
section
variable {K:Fg}{H H':Hp}
theorem Rep.cel (a:Addr):Rep K H (am5 a) (.ref a):=⟨a,rfl,.inr (.inr (.inr (.inr rfl)))⟩
theorem Reps.length:∀ {ds:LP}{xs:List V},Reps K H ds xs->xs.length=ds.length
 | [],xs,h=>by cases h; rfl
 | d::ds,xs,⟨x,r,h1,h2,h3⟩=>by subst h1; simp [Reps.length h3]
theorem Reps.get:∀ {ds:LP}{xs:List V}{i:Nat}{d:PyData},Reps K H ds xs->ds[i]?=some d->∃ x,xs[i]?=some x/\Rep K H d x
 | [],xs,i,d,h,e=>by simp at e
 | c::ds,xs,0,d,⟨x,r,h1,h2,h3⟩,e=>by subst h1; simp at e; subst e; exact ⟨x,rfl,h2⟩
 | c::ds,xs,i+1,d,⟨x,r,h1,h2,h3⟩,e=>by
  subst h1
  obtain ⟨y,e1,e2⟩:=Reps.get (i:=i) h3 (by simpa using e)
  exact ⟨y,by simpa using e1,e2⟩
theorem Reps.append:∀ {ds es:LP}{xs ys:List V},Reps K H ds xs->Reps K H es ys->Reps K H (ds++es) (xs++ys)
 | [],es,xs,ys,h,g=>by cases h; exact g
 | d::ds,es,xs,ys,⟨x,r,h1,h2,h3⟩,g=>by subst h1; exact ⟨x,r++ys,rfl,h2,Reps.append h3 g⟩
theorem Reps.take:∀ {ds:LP}{xs:List V} (n:Nat),Reps K H ds xs->Reps K H (ds.take n) (xs.take n)
 | ds,xs,0,h=>by simp; rfl
 | [],xs,n+1,h=>by cases h; rfl
 | d::ds,xs,n+1,⟨x,r,h1,h2,h3⟩=>by subst h1; exact ⟨x,_,rfl,h2,Reps.take n h3⟩
theorem Reps.drop:∀ {ds:LP}{xs:List V} (n:Nat),Reps K H ds xs->Reps K H (ds.drop n) (xs.drop n)
 | ds,xs,0,h=>by simpa using h
 | [],xs,n+1,h=>by cases h; rfl
 | d::ds,xs,n+1,⟨x,r,h1,h2,h3⟩=>by subst h1; simpa using Reps.drop n h3
end
section
variable {X:Cx}{Kp:List (Addr × Obj)}{σ:St}{H:Hp}{s:Shared}
mutual
theorem zb (I:Inv X Kp σ H s):∀ (d:PyData) (v:V) (u:Value),Rep X.K H d v->jL v u->d.canLay0=true->∃ as,Reads s.heap u d as
 | .none,v,u,h,r,_=>by cases h; cases r; exact ⟨_,.none⟩
 | .bool b,v,u,h,r,_=>by cases h; cases r; exact ⟨_,.bool b⟩
 | .int i,v,u,h,r,_=>by cases h; obtain ⟨t,rfl⟩:=r; exact ⟨_,.int i t⟩
 | .str x,v,u,h,r,_=>by cases h; obtain ⟨t,rfl⟩:=r; exact ⟨_,.str x t⟩
 | .tuple ds,v,u,⟨a,xs,h1,h2,h3⟩,r,hc=>by
  subst h1; cases r
  obtain ⟨its,rv,⟨o,e1,e2,n,e3⟩,_⟩:=I.tuple h2
  obtain ⟨as,ra⟩:=readsAll_of I ds xs its h3 rv (by simpa [PyData.canLay0] using hc)
  exact ⟨as,.tuple e1 e2 e3 (by simpa using ra)⟩
 | .list ds,v,u,⟨a,xs,h1,h2,h3⟩,r,hc=>by
  subst h1; cases r
  obtain ⟨its,rv,⟨o,n,e1,e2,e3,e4⟩,_⟩:=I.list (SqL.of h2)
  obtain ⟨as,ra⟩:=readsAll_of I ds xs its h3 rv (by simpa [PyData.canLay0] using hc)
  exact ⟨a::as,.list e1 e2 e4 (by simpa using ra)⟩
 | .dict kvs,v,u,h,r,hc=>by simp [PyData.canLay0] at hc
theorem readsAll_of (I:Inv X Kp σ H s):∀ (ds:LP) (xs:List V) (us:List Value),Reps X.K H ds xs->jD xs us->PyData.canLayAll0 ds=true->∃ as,ReadsAll s.heap us ds as
 | [],xs,us,h,r,_=>by cases h; cases r; exact ⟨_,.nil⟩
 | d::ds,xs,us,⟨x,q,h1,h2,h3⟩,r,hc=>by
  subst h1
  cases r with
  | cons r1 r2=>
   have hc':d.canLay0=true/\PyData.canLayAll0 ds=true:=by simpa [PyData.canLayAll0] using hc
   obtain ⟨as,ra⟩:=zb I d x _ h2 r1 hc'.1
   obtain ⟨bs,rb⟩:=readsAll_of I ds q _ h3 r2 hc'.2
   exact ⟨_,.cons ra rb⟩
end
end
noncomputable abbrev Rho:=List (OP)
abbrev RP:=Rho->OP
structure EnvR (K:Fg) (H:Hp) (ρ:Rho) (σ:St):Prop where
 len:ρ.length=σ.length
 at':∀ (i:Nat) (d:PyData),ρ[i]?=some (some d)->∃ v,σ[i]?=some (some v)/\Rep K H d v
theorem EnvR.mono {K:Fg}{H H':Hp}{ρ:Rho}{σ:St} (e:EnvR K H ρ σ) (h:jj H H'):EnvR K H' ρ σ:=
 ⟨e.len,fun i d q=>let ⟨v,e1,e2⟩:=e.at' i d q; ⟨v,e1,Rep.mono h d v e2⟩⟩
theorem EnvR.set {K:Fg}{H:Hp}{ρ:Rho}{σ:St} (e:EnvR K H ρ σ) {i:Nat}{d:PyData}{v:V} (r:Rep K H d v):EnvR K H (ρ.set i (some d)) (σ.set i (some v)):=by
 refine ⟨by simp [e.len],fun j c q=>?_⟩
 by_cases hj:i=j
 ·subst hj
  rw [List.getElem?_set] at q ⊢
  simp only [zzM] at q ⊢
  by_cases hl:i < ρ.length
  ·rw [if_pos hl] at q
   rw [if_pos (by rw [←e.len]; exact hl)]
   cases q
   exact ⟨v,rfl,r⟩
  ·rw [if_neg hl] at q; cases q
 ·rw [List.getElem?_set_ne hj] at q ⊢
  exact e.at' j c q
noncomputable def lkp (i:Nat) (ρ:Rho):OP:=(ρ[i]?).join
theorem zy {i:Nat}{ρ:Rho}{d:PyData} (h:lkp i ρ=some d):ρ[i]?=some (some d):=by
 unfold lkp at h
 cases e:ρ[i]? with
 | none=>rw [e] at h; cases h
 | some o=>rw [e] at h; cases o with
  | none=>cases h
  | some c=>cases h; rfl
noncomputable def tD (K:Fg) (f:RP):TE:=fun σ H Q=>∃ ρ d,EnvR K H ρ σ/\f ρ=some d/\∀ v H',jj H H'->Rep K H' d v->Q v H'
@[irreducible] noncomputable def PD (X:Cx) (e:Expr) (f:RP):Prop:=PE X e (tD X.K f)
noncomputable def tDT (K:Fg) (f:Rho->Option Bool):TT:=fun σ H Q=>∃ ρ b,EnvR K H ρ σ/\f ρ=some b/\∀ H',jj H H'->Q b H'
@[irreducible] noncomputable def PTD (X:Cx) (e:Expr) (f:Rho->Option Bool):Prop:=PT X e (tDT X.K f)
noncomputable def tDA (K:Fg) (f:Rho->Option (LP)):TA:=fun σ H Q=>∃ ρ ds,EnvR K H ρ σ/\f ρ=some ds/\∀ vs H',jj H H'->Reps K H' ds vs->Q vs H'
@[irreducible] noncomputable def PAD (X:Cx) (es:List Expr) (f:Rho->Option (LP)):Prop:=PA X es (tDA X.K f)
inductive Out where
 | nx (ρ:Rho) | rt (d:PyData) | bk (ρ:Rho) | ct (ρ:Rho)
abbrev RO:=Rho->Option Out
noncomputable def aeZ (K:Fg) (D:Ends) (H:Hp):Out->Prop
 | .nx ρ=>∀ σ H',jj H H'->EnvR K H' ρ σ->D.nx σ H'
 | .rt d=>∀ v H',jj H H'->Rep K H' d v->D.rt v H'
 | .bk ρ=>∀ σ H',jj H H'->EnvR K H' ρ σ->D.bk σ H'
 | .ct ρ=>∀ σ H',jj H H'->EnvR K H' ρ σ->D.ct σ H'
theorem aeZ.mono {K:Fg}{D:Ends}{H H':Hp}{o:Out} (h:aeZ K D H o) (e:jj H H'):aeZ K D H' o:=by
 cases o with
 | nx ρ=>exact fun σ H2 e2 r=>h σ H2 (e.trans e2) r
 | rt d=>exact fun v H2 e2 r=>h v H2 (e.trans e2) r
 | bk ρ=>exact fun σ H2 e2 r=>h σ H2 (e.trans e2) r
 | ct ρ=>exact fun σ H2 e2 r=>h σ H2 (e.trans e2) r
noncomputable def tDS (K:Fg) (F:RO):TS:=fun D σ H=>∃ ρ o,EnvR K H ρ σ/\F ρ=some o/\aeZ K D H o
@[irreducible] noncomputable def PSD (X:Cx) (st:Stmt) (F:RO):Prop:=PS X st (tDS X.K F)
@[irreducible] noncomputable def QR (X:Cx) (st:List Stmt) (F:RO):Prop:=PSs X st (tDS X.K F)
noncomputable def tDG (K:Fg) (ga:PyData->Rho->Option Rho):TG:=fun v σ H Q=>∃ ρ d ρ',EnvR K H ρ σ/\Rep K H d v/\ga d ρ=some ρ'/\∀ σ' H',jj H H'->EnvR K H' ρ' σ'->Q σ' H'
@[irreducible] noncomputable def PGD (X:Cx) (tg:Expr) (ga:PyData->Rho->Option Rho):Prop:=PG X tg (tDG X.K ga)
section
variable {X:Cx}{e a b c:Expr}{es:List Expr}{fa fb fc:RP}{pos:Pos}
theorem PE.imp {t t':TE} (h:PE X e t) (hi:∀ σ H Q,t' σ H Q->t σ H Q):PE X e t':=fun Kp s σ H Q I q=>h Kp s σ H Q I (hi σ H Q q)
theorem PT.imp {t t':TT} (h:PT X e t) (hi:∀ σ H Q,t' σ H Q->t σ H Q):PT X e t':=fun Kp s σ H Q I q=>h Kp s σ H Q I (hi σ H Q q)
theorem PA.imp {t t':TA} (h:PA X es t) (hi:∀ σ H Q,t' σ H Q->t σ H Q):PA X es t':=fun pos Kp s σ H Q I q=>h pos Kp s σ H Q I (hi σ H Q q)
theorem PS.imp {st:Stmt}{t t':TS} (h:PS X st t) (hi:∀ D σ H,t' D σ H->t D σ H):PS X st t':=fun Kp s σ H D I q=>h Kp s σ H D I (hi D σ H q)
theorem PSs.imp {st:List Stmt}{t t':TS} (h:PSs X st t) (hi:∀ D σ H,t' D σ H->t D σ H):PSs X st t':=fun Kp s σ H D I q=>h Kp s σ H D I (hi D σ H q)
theorem PG.imp {t t':TG} (h:PG X e t) (hi:∀ v σ H Q,t' v σ H Q->t v σ H Q):PG X e t':=fun Kp s σ H v u Q I r q=>h Kp s σ H v u Q I r (hi v σ H Q q)
theorem ja (i:Nat) {x:Str}{pos:Pos} (hN:X.N[i]?=some x:=by rfl) (hv:Vis X.env.scope x:=by first | exact Or.inl rfl | exact Or.inr (Or.inl rfl) | exact Or.inr (Or.inr rfl)) (hd:(x == ("__debug__":Str))=false:=by decide)
  (hcd:(x == ("__classdict__":Str))=false:=by decide):PD X (.Name x pos) (lkp i):=by
 with_unfolding_all exact (PE.imp (ab2 hN hv hd hcd) fun σ H Q ⟨ρ,d,e,h,k⟩=>let ⟨v,e1,e2⟩:=e.at' i d (zy h); ⟨v,e1,k v H (jj.refl H) e2⟩)
noncomputable def cst (d:PyData) (_:Rho):OP:=some d
theorem jh {i j pos}:PD X (.Constant (.int i) j pos) (cst (.int i)):=by
 with_unfolding_all exact (PE.imp ad1 fun σ H Q ⟨ρ,d,e,h,k⟩=>by cases h; exact k _ H (jj.refl H) rfl)
theorem Z0 {i j pos}:PD X (.Constant (.bool i) j pos) (cst (.bool i)):=by
 with_unfolding_all exact (PE.imp alC fun σ H Q ⟨ρ,d,e,h,k⟩=>by cases h; exact k _ H (jj.refl H) rfl)
theorem JY {j pos}:PD X (.Constant .none j pos) (cst .none):=by
 with_unfolding_all exact (PE.imp akb fun σ H Q ⟨ρ,d,e,h,k⟩=>by cases h; exact k _ H (jj.refl H) rfl)
theorem jN {i j pos}:PD X (.Constant (.str i) j pos) (cst (.str i)):=by
 with_unfolding_all exact (PE.imp agC fun σ H Q ⟨ρ,d,e,h,k⟩=>by cases h; exact k _ H (jj.refl H) rfl)
theorem aiU {x:Str}{v:V}{u:Value}{d:PyData} (hg:Gl X x) (hm:X.mg x=some u) (r:jL v u) (hr:∀ H,Rep X.K H d v) (hd:(x == ("__debug__":Str))=false:=by decide):PD X (.Name x pos) (cst d):=by
 with_unfolding_all exact (PE.imp (ab3 hg hm r hd) fun σ H Q ⟨ρ,d',e,h,k⟩=>by cases h; exact k _ H (jj.refl H) (hr H))
noncomputable def op2 (g:PyData->PyData->OP) (fa fb:RP):RP:=fun ρ=>(fa ρ).bind fun x=>(fb ρ).bind fun y=>g x y
noncomputable def OpD (X:Cx) (f:Value->Value->Sem Value) (g:PyData->PyData->OP):Prop:=
 ∃ r,OpR X f r/\∀ p q d x y H Q,g p q=some d->Rep X.K H p x->Rep X.K H q y->(∀ v H',jj H H'->Rep X.K H' d v->Q v H')->r x y H Q
theorem agW {g:PyData->PyData->OP}{K:Fg}{r:R2} (hr:∀ p q d x y H Q,g p q=some d->Rep K H p x->Rep K H q y->(∀ v H',jj H H'->Rep K H' d v->Q v H')->r x y H Q)
  {σ:St} {H:Hp} {Q:VK} (h:tD K (op2 g fa fb) σ H Q):tOp r (tD K fa) (tD K fb) σ H Q:=by
 obtain ⟨ρ,d,e,h,k⟩:=h
 unfold op2 at h
 cases ha:fa ρ with
 | none=>rw [ha] at h; cases h
 | some p=>
  rw [ha] at h
  cases hb:fb ρ with
  | none=>rw [hb] at h; cases h
  | some q=>
   rw [hb] at h
   refine ⟨ρ,p,e,ha,fun x H1 s1 r1=>⟨ρ,q,e.mono s1,hb,fun y H2 s2 r2=>?_⟩⟩
   exact hr p q d x y H2 Q h (Rep.mono s2 p x r1) r2 fun v H' s3 r3=>k v H' (s1.trans (s2.trans s3)) r3
theorem jf {op:Operator}{g:PyData->PyData->OP} (ho:OpD X (binaryOp op) g) (ha:PD X a fa) (hb:PD X b fb):PD X (.BinOp a op b pos) (op2 g fa fb):=by
 with_unfolding_all
  obtain ⟨r,h1,h2⟩:=ho
  exact PE.imp (ajV h1 ha hb) fun σ H Q h=>agW h2 h
theorem agX {op:CmpOp}{g:PyData->PyData->OP} (ho:OpD X (compareOp op) g) (ha:PD X a fa) (hb:PD X b fb) (hm:behindInMarks op b=false:=by first | exact ad7 _ | with_unfolding_all rfl):PD X (.Compare a [op] [b] pos) (op2 g fa fb):=by
 with_unfolding_all
  obtain ⟨r,h1,h2⟩:=ho
  exact PE.imp (aiF h1 ha hb hm) fun σ H Q h=>agW h2 h
noncomputable def asB:PyData->Option Bool
 | .bool b=>some b
 | _=>none
noncomputable def tst (f:RP):Rho->Option Bool:=fun ρ=>(f ρ).bind asB
theorem Jo {d:PyData}{b:Bool} (h:asB d=some b):d= .bool b:=by
 cases d <;> simp [asB] at h
 rw [h]
theorem qt {op:CmpOp}{g:PyData->PyData->OP} (ho:OpD X (compareOp op) g) (ha:PD X a fa) (hb:PD X b fb) (hm:behindInMarks op b=false:=by first | exact ad7 _ | with_unfolding_all rfl):PTD X (.Compare a [op] [b] pos) (tst (op2 g fa fb)):=by
 with_unfolding_all
  obtain ⟨r,h1,h2⟩:=ho
  refine PT.imp (aiG h1 ha hb hm) fun σ H Q ⟨ρ,t,e,h,k⟩=>?_
  cases hd:op2 g fa fb ρ with
  | none=>simp [tst,hd] at h
  | some d=>
   have ht:d= .bool t:=Jo (by simpa [tst,hd] using h)
   subst ht
   exact agW h2 ⟨ρ,_,e,hd,fun v H' s r=>⟨t,r,k H' s⟩⟩
theorem j2 (h:PD X e fa) (he:∀ whole,isTrue e X.env whole=(do let v ←whole; standAt e.pos; holding [v] (truthy v)):=by intro _; rfl):PTD X e (tst fa):=by
 with_unfolding_all
  refine PT.imp (akd h he) fun σ H Q ⟨ρ,t,e,h,k⟩=>?_
  cases hd:fa ρ with
  | none=>simp [tst,hd] at h
  | some d=>
   have ht:d= .bool t:=Jo (by simpa [tst,hd] using h)
   subst ht
   exact ⟨ρ,_,e,hd,fun v H' s r=>⟨t,r,k H' s⟩⟩
variable {ta tb:Rho->Option Bool}{jZ:List Expr}
@[irreducible] noncomputable def PWD (X:Cx) (e:Expr) (f:Rho->Option Bool):Prop:=PW X e (tDT X.K f)
theorem PW.imp {t t':TT} (h:PW X e t) (hi:∀ σ H Q,t' σ H Q->t σ H Q):PW X e t':=fun wh Kp s σ H Q I q=>h wh Kp s σ H Q I (hi σ H Q q)
noncomputable def abf (ta tb:Rho->Option Bool):Rho->Option Bool:=fun ρ=>(ta ρ).bind fun x=>if x=true then tb ρ else some false
noncomputable def orB (ta tb:Rho->Option Bool):Rho->Option Bool:=fun ρ=>(ta ρ).bind fun x=>if x=true then some true else tb ρ
noncomputable def zi (ta:Rho->Option Bool):Rho->Option Bool:=fun ρ=>(ta ρ).map (!·)
theorem ac6 (ha:PTD X a ta):PWD X (.BoolOp .And [a] pos) ta:=by
 with_unfolding_all exact (aiA ha)
theorem zu (ha:PTD X a ta):PWD X (.BoolOp .Or [a] pos) ta:=by
 with_unfolding_all exact (ake ha)
theorem ae0 (ha:PTD X a ta) (hb:PWD X (.BoolOp .And (b::jZ) pos) tb):PWD X (.BoolOp .And (a::b::jZ) pos) (abf ta tb):=by
 with_unfolding_all
  refine PW.imp (akf ha hb) fun σ H Q ⟨ρ,t,e,h,k⟩=>?_
  cases h1:ta ρ with
  | none=>simp [abf,h1] at h
  | some x=>
   refine ⟨ρ,x,e,h1,fun H' s=>?_⟩
   cases x with
   | true=>rw [if_pos rfl]; exact ⟨ρ,t,e.mono s,by simpa [abf,h1] using h,fun H2 s2=>k H2 (s.trans s2)⟩
   | false=>
    rw [if_neg Bool.false_ne_true]
    have:t=false:=by simpa [abf,h1] using h.symm
    subst this
    exact k H' s
theorem zO (ha:PTD X a ta) (hb:PWD X (.BoolOp .Or (b::jZ) pos) tb):PWD X (.BoolOp .Or (a::b::jZ) pos) (orB ta tb):=by
 with_unfolding_all
  refine PW.imp (alD ha hb) fun σ H Q ⟨ρ,t,e,h,k⟩=>?_
  cases h1:ta ρ with
  | none=>simp [orB,h1] at h
  | some x=>
   refine ⟨ρ,x,e,h1,fun H' s=>?_⟩
   cases x with
   | false=>rw [if_neg Bool.false_ne_true]; exact ⟨ρ,t,e.mono s,by simpa [orB,h1] using h,fun H2 s2=>k H2 (s.trans s2)⟩
   | true=>
    rw [if_pos rfl]
    have:t=true:=by simpa [orB,h1] using h.symm
    subst this
    exact k H' s
theorem qy {op:BoolOp}{l:List Expr} (h:PWD X (.BoolOp op l pos) ta):PTD X (.BoolOp op l pos) ta:=by
 with_unfolding_all exact (h.pt)
theorem qg (ha:PTD X a ta):PTD X (.UnaryOp .Not a pos) (zi ta):=by
 with_unfolding_all
  refine PT.imp (akg ha) fun σ H Q ⟨ρ,t,e,h,k⟩=>?_
  cases h1:ta ρ with
  | none=>simp [zi,h1] at h
  | some x=>
   have:(!x)=t:=by simpa [zi,h1] using h
   subst this
   exact ⟨ρ,x,e,h1,fun H' s=>k H' s⟩
noncomputable def ifD (tc:Rho->Option Bool) (fa fb:RP):RP:=fun ρ=>(tc ρ).bind fun x=>if x=true then fa ρ else fb ρ
theorem al4 {tc:Rho->Option Bool} (hc:PTD X c tc) (ha:PD X a fa) (hb:PD X b fb):PD X (.IfExp c a b pos) (ifD tc fa fb):=by
 with_unfolding_all
  refine PE.imp (agE hc ha hb) fun σ H Q ⟨ρ,d,e,h,k⟩=>?_
  cases h1:tc ρ with
  | none=>simp [ifD,h1] at h
  | some x=>
   refine ⟨ρ,x,e,h1,fun H' s=>?_⟩
   cases x with
   | true=>rw [if_pos rfl]; exact ⟨ρ,d,e.mono s,by simpa [ifD,h1] using h,fun v H2 s2=>k v H2 (s.trans s2)⟩
   | false=>rw [if_neg Bool.false_ne_true]; exact ⟨ρ,d,e.mono s,by simpa [ifD,h1] using h,fun v H2 s2=>k v H2 (s.trans s2)⟩
noncomputable def jM (_:Rho):Option (LP):=some []
noncomputable def jp (fa:RP) (fr:Rho->Option (LP)):Rho->Option (LP):=fun ρ=>(fa ρ).bind fun x=>(fr ρ).map fun r=>x::r
theorem je:PAD X [] jM:=by
 with_unfolding_all exact (PA.imp zM fun σ H Q ⟨ρ,d,e,h,k⟩=>by cases h; exact k [] H (jj.refl H) rfl)
theorem jb {fr:Rho->Option (LP)} (ha:PD X e fa) (hr:PAD X es fr) (hs:starEach (e::es) X.env=(false,eval e X.env)::starEach es X.env:=by rfl):PAD X (e::es) (jp fa fr):=by
 with_unfolding_all
  refine PA.imp (qr ha hr hs) fun σ H Q ⟨ρ,ds,en,h,k⟩=>?_
  cases h1:fa ρ with
  | none=>simp [jp,h1] at h
  | some x=>
   cases h2:fr ρ with
   | none=>simp [jp,h1,h2] at h
   | some r=>
    have:x::r=ds:=by simpa [jp,h1,h2] using h
    subst this
    exact ⟨ρ,x,en,h1,fun v H1 s1 r1=>⟨ρ,r,en.mono s1,h2,fun vs H2 s2 r2=>k _ H2 (s1.trans s2) ⟨v,vs,rfl,Rep.mono s2 x v r1,r2⟩⟩⟩
noncomputable def few (ds:LP):Bool:=decide (ds.length<1000000)
theorem aaB {n:Nat} (h:n<1000000):n<=sizeLine:=Nat.le_of_lt (Nat.lt_of_lt_of_le h (by rw [sizeLine_eq]; decide))
theorem jA {H:Hp}{p:Addr}{o:HO} (hp:H p=none):jj H (upd H p o):=fun b u h=>by rw [jm (qq h hp)]; exact h
noncomputable def aaC (fr:Rho->Option (LP)):RP:=fun ρ=>(fr ρ).bind fun ds=>if few ds=true then some (.tuple ds) else none
noncomputable def ZA (fr:Rho->Option (LP)):RP:=fun ρ=>(fr ρ).bind fun ds=>if few ds=true then some (.list ds) else none
theorem JD {x1}{fr:Rho->Option (LP)} (h:PAD X es fr):PD X (.Tuple es x1 pos) (aaC fr):=by
 with_unfolding_all
  refine PE.imp (agN h) fun σ H Q ⟨ρ,d,e,h,k⟩=>?_
  cases h1:fr ρ with
  | none=>simp [aaC,h1] at h
  | some ds=>
   by_cases hf:few ds=true
   ·have:PyData.tuple ds=d:=by simpa [aaC,h1,hf] using h
    subst this
    refine ⟨ρ,ds,e,h1,fun vs H1 s1 r1=>⟨aaB (by rw [r1.length]; simpa [few] using hf),fun p hp=>k _ _ (s1.trans (jA hp)) ⟨p,vs,rfl,SqT.of jr,Reps.mono (jA hp) _ _ r1⟩⟩⟩
   ·simp [aaC,h1,hf] at h
theorem JZ {fr:Rho->Option (LP)} (h:PAD X es fr):PD X (.List es pos) (ZA fr):=by
 with_unfolding_all
  refine PE.imp (agO h) fun σ H Q ⟨ρ,d,e,h,k⟩=>?_
  cases h1:fr ρ with
  | none=>simp [ZA,h1] at h
  | some ds=>
   by_cases hf:few ds=true
   ·have:PyData.list ds=d:=by simpa [ZA,h1,hf] using h
    subst this
    refine ⟨ρ,ds,e,h1,fun vs H1 s1 r1=>⟨aaB (by rw [r1.length]; simpa [few] using hf),fun p hp=>k _ _ (s1.trans (jA hp)) ⟨p,vs,rfl,jr,Reps.mono (jA hp) _ _ r1⟩⟩⟩
   ·simp [ZA,h1,hf] at h
end
end BX
end
section
namespace BX
open PySem PySem.Spec L2
open PyProof.Rows hiding St
section
variable {X:Cx}{e a b c tg src:Expr}{es:List Expr}{st:Stmt}{sts jZ:List Stmt}{fa fb fc:RP}{F G:RO}{pos:Pos}
noncomputable def za (fa:RP):RO:=fun ρ=>(fa ρ).map Out.rt
theorem jF (h:PD X e fa):PSD X (.Return (some e) pos) (za fa):=by
 with_unfolding_all
  refine PS.imp (ad2 h) fun D σ H ⟨ρ,o,en,q,k⟩=>?_
  cases h1:fa ρ with
  | none=>simp [za,h1] at q
  | some d=>
   have:Out.rt d=o:=by simpa [za,h1] using q
   subst this
   exact ⟨ρ,d,en,h1,k⟩
noncomputable def ifS (tc:Rho->Option Bool) (F G:RO):RO:=fun ρ=>(tc ρ).bind fun x=>if x=true then F ρ else G ρ
theorem qN {l r:List Stmt}{tc:Rho->Option Bool} (hc:PTD X c tc) (hl:QR X l F) (hr:QR X r G):PSD X (.If c l r pos) (ifS tc F G):=by
 with_unfolding_all
  refine PS.imp (alH hc hl hr) fun D σ H ⟨ρ,o,en,q,k⟩=>?_
  cases h1:tc ρ with
  | none=>simp [ifS,h1] at q
  | some x=>
   refine ⟨ρ,x,en,h1,fun H1 s1=>?_⟩
   cases x with
   | true=>rw [if_pos rfl]; exact ⟨ρ,o,en.mono s1,by simpa [ifS,h1] using q,k.mono s1⟩
   | false=>rw [if_neg Bool.false_ne_true]; exact ⟨ρ,o,en.mono s1,by simpa [ifS,h1] using q,k.mono s1⟩
noncomputable def zj:RO:=fun ρ=>some (.nx ρ)
noncomputable def jV (F G:RO):RO:=fun ρ=>(F ρ).bind fun o=>match o with
 | .nx ρ'=>G ρ'
 | o=>some o
theorem ji:QR X [] zj:=by
 with_unfolding_all
  refine PSs.imp aeR fun D σ H ⟨ρ,o,en,q,k⟩=>?_
  cases q
  exact k σ H (jj.refl H) en
theorem jd (h1 : PSD X st F) (h2 : QR X jZ G) : QR X (st :: jZ) (jV F G) := by
  with_unfolding_all
   refine PSs.imp (JW h1 h2) fun D σ H ⟨ρ, o, en, q, k⟩ => ?_
   cases hf : F ρ with
   | none => simp [jV, hf] at q
   | some p =>
     refine ⟨ρ, p, en, hf, ?_⟩
     cases p with
     | nx ρ' => exact fun σ' H' s' r' => ⟨ρ', o, r', by simpa [jV, hf] using q, k.mono s'⟩
     | rt d => have : Out.rt d = o := by simpa [jV, hf] using q
               subst this; exact k
     | bk d => have : Out.bk d = o := by simpa [jV, hf] using q
               subst this; exact k
     | ct d => have : Out.ct d = o := by simpa [jV, hf] using q
               subst this; exact k
noncomputable def al5:RO:=fun _=>none
theorem abA:PSD X st al5:=by
 with_unfolding_all exact (PS.imp agG fun D σ H ⟨ρ,o,en,q,k⟩=>by cases q)
theorem aaD:QR X sts al5:=by
 with_unfolding_all exact (PSs.imp afN fun D σ H ⟨ρ,o,en,q,k⟩=>by cases q)
noncomputable def aab (fa:RP):RO:=fun ρ=>(fa ρ).map fun _=> .nx ρ
theorem Jp (h:PD X e fa) (hs:swapsWith e none pos.line X.env=pure false:=by rfl):PSD X (.Expr e pos) (aab fa):=by
 with_unfolding_all
  refine PS.imp (ab6 h hs) fun D σ H ⟨ρ,o,en,q,k⟩=>?_
  cases h1:fa ρ with
  | none=>simp [aab,h1] at q
  | some d=>
   have:Out.nx ρ=o:=by simpa [aab,h1] using q
   subst this
   exact ⟨ρ,d,en,h1,fun v H' s r=>k σ H' s (en.mono s)⟩
noncomputable def j0 (i:Nat) (d:PyData) (ρ:Rho):Option Rho:=some (ρ.set i (some d))
theorem qi (i:Nat) {x:Str} (hN:X.N.Nodup) (hi:X.N[i]?=some x:=by rfl) (hx:Loc X.env.scope x:=by first | exact Or.inl rfl | exact Or.inr rfl)
  (hf:X.fn x=true ∨ X.env.scope.names.lookup x=some .local:=by first | exact .inl rfl | exact .inr rfl | assumption):PGD X (.Name x pos) (j0 i):=by
 with_unfolding_all
  refine PG.imp (aak hN hi hx hf) fun v σ H Q ⟨ρ,d,ρ',en,r,q,k⟩=>?_
  cases q
  exact k _ H (jj.refl H) (en.set r)
@[irreducible] noncomputable def aiV (X:Cx) (ts:List Expr) (ga:LP->Rho->Option Rho):Prop:=PGs X ts fun vs σ H Q=>∃ ρ ds ρ',EnvR X.K H ρ σ/\Reps X.K H ds vs/\ga ds ρ=some ρ'/\∀ σ' H',jj H H'->EnvR X.K H' ρ' σ'->Q σ' H'
noncomputable def agY (ds:LP) (ρ:Rho):Option Rho:=match ds with
 | []=>some ρ
 | _=>none
noncomputable def aam (ga:PyData->Rho->Option Rho) (gr:LP->Rho->Option Rho) (ds:LP) (ρ:Rho):Option Rho:=match ds with
 | d::r=>(ga d ρ).bind fun ρ1=>gr r ρ1
 | []=>none
theorem PGs.imp {ts:List Expr}{t t':TGs} (h:PGs X ts t) (hi:∀ v σ H Q,t' v σ H Q->t v σ H Q):PGs X ts t':=fun Kp s σ H v u Q I r q=>h Kp s σ H v u Q I r (hi v σ H Q q)
theorem agZ:aiV X [] agY:=by
 with_unfolding_all
  refine PGs.imp aiB fun vs σ H Q ⟨ρ,ds,ρ',en,r,q,k⟩=>?_
  cases ds with
  | nil=>cases r; cases q; exact ⟨rfl,k σ H (jj.refl H) en⟩
  | cons d ds=>cases q
theorem ZB {ga:PyData->Rho->Option Rho}{gr:LP->Rho->Option Rho} (h1:PGD X e ga) (h2:aiV X es gr)
  (hs:(assignEach (e::es) X.env).map (·.2)=assign e X.env::(assignEach es X.env).map (·.2):=by rfl):aiV X (e::es) (aam ga gr):=by
 with_unfolding_all
  refine PGs.imp (agH h1 h2 hs) fun vs σ H Q ⟨ρ,ds,ρ',en,r,q,k⟩=>?_
  cases ds with
  | nil=>cases q
  | cons d ds=>
   obtain ⟨x,rr,e1,r1,r2⟩:=r
   subst e1
   cases h3:ga d ρ with
   | none=>simp [aam,h3] at q
   | some ρ1=>
    refine ⟨x,rr,rfl,ρ,d,ρ1,en,r1,h3,fun σ1 H1 s1 e1=>⟨ρ1,ds,ρ',e1,Reps.mono s1 ds rr r2,by simpa [aam,h3] using q,fun σ2 H2 s2 e2=>k σ2 H2 (s1.trans s2) e2⟩⟩
noncomputable def ag0 (n:Nat) (gr:LP->Rho->Option Rho) (d:PyData) (ρ:Rho):Option Rho:=match d with
 | .tuple ds=>if ds.length=n then gr ds ρ else none
 | _=>none
theorem aiW {k n:Nat}{gr:LP->Rho->Option Rho} (hc:X.calm=true) (h:aiV X es gr) (hn:(assignEach es X.env).length=n:=by rfl) (hst:(assignEach es X.env).findIdx? (·.1)=none:=by rfl):
  PGD X (.Tuple es k pos) (ag0 n gr):=by
 with_unfolding_all
  refine PG.imp (akk hc h hn hst) fun v σ H Q ⟨ρ,d,ρ',en,r,q,k⟩=>?_
  cases d with
  | tuple ds=>
   obtain ⟨a,xs,e1,e2,e3⟩:=r
   by_cases hl:ds.length=n
   ·exact ⟨a,xs,e1,e2,by rw [e3.length]; exact hl,ρ,ds,ρ',en,e3,by simpa [ag0,hl] using q,k⟩
   ·simp [ag0,hl] at q
  | _=>simp [ag0] at q
noncomputable def Q2 (fa:RP) (ga:PyData->Rho->Option Rho):RO:=fun ρ=>(fa ρ).bind fun d=>(ga d ρ).map Out.nx
theorem jz (i:Nat) {x:Str}{pos':Pos} (hN:X.N.Nodup) (he:PD X e fa) (hi:X.N[i]?=some x:=by rfl) (hx:Loc X.env.scope x:=by first | exact Or.inl rfl | exact Or.inr rfl) (hs:swapsWith e (some (.Name x pos')) pos.line X.env=pure false:=by rfl)
  (hf:X.fn x=true ∨ X.env.scope.names.lookup x=some .local:=by first | exact .inl rfl | exact .inr rfl | assumption):PSD X (.Assign [.Name x pos'] e pos) (Q2 fa (j0 i)):=by
 with_unfolding_all
  refine PS.imp (ab7 hN hi hx he hs hf) fun D σ H ⟨ρ,o,en,q,k⟩=>?_
  cases h1:fa ρ with
  | none=>simp [Q2,h1] at q
  | some d=>
   have:Out.nx (ρ.set i (some d))=o:=by simpa [Q2,h1,j0] using q
   subst this
   exact ⟨ρ,d,en,h1,fun v H1 s1 r1=>k _ H1 s1 ((en.mono s1).set r1)⟩
noncomputable def ag1 (K:Fg) (J:It) (ds:LP) (H0:Hp):Prop:=∀ i H,jB H0 H->(i<ds.length->J.go i H)/\(ds.length<=i->J.stop i H)/\∀ x H',J.yld i H x H'->jj H H'/\∀ d,ds[i]?=some d->Rep K H' d x
noncomputable def tDI (K:Fg) (fi:Rho->Option (LP)):TI:=fun σ H R=>∃ ρ ds,EnvR K H ρ σ/\fi ρ=some ds/\∀ J H',jj H H'->ag1 K J ds H'->R J H'
@[irreducible] noncomputable def PID (X:Cx) (tg src:Expr) (fi:Rho->Option (LP)):Prop:=PI X tg src (tDI X.K fi)
theorem PI.imp {t t':TI} (h:PI X tg src t) (hi:∀ σ H R,t' σ H R->t σ H R):PI X tg src t':=fun Kp s σ H R I q=>h Kp s σ H R I (hi σ H R q)
noncomputable def aaE:PyData->Option (LP)
 | .list ds=>some ds
 | _=>none
noncomputable def ZC:PyData->Option (LP)
 | .tuple ds=>some ds
 | _=>none
noncomputable def itL (fa:RP):Rho->Option (LP):=fun ρ=>(fa ρ).bind aaE
noncomputable def itT (fa:RP):Rho->Option (LP):=fun ρ=>(fa ρ).bind ZC
theorem ac7 (h:PD X e fa):PID X tg e (itL fa):=by
 with_unfolding_all
  refine PI.imp (aiC h) fun σ H R ⟨ρ,ds,en,q,k⟩=>?_
  cases h1:fa ρ with
  | none=>simp [itL,h1] at q
  | some d=>
   cases d with
   | list es=>
    have:es=ds:=by simpa [itL,h1,aaE] using q
    subst this
    refine ⟨ρ,_,en,h1,fun v H1 s1 r1=>?_⟩
    obtain ⟨a,xs,e1,e2,e3⟩:=r1
    refine ⟨a,e1,⟨xs,SqL.of e2⟩,k _ H1 s1 fun i H2 s2=>⟨fun hi=>?_,fun hi=>?_,fun x H' y=>?_⟩⟩
    ·exact ⟨xs,xs[i]'(by rw [e3.length]; exact hi),SqL.of (s2 _ _ e2 rfl),by simp [e3.length,hi]⟩
    ·exact ⟨xs,SqL.of (s2 _ _ e2 rfl),by rw [e3.length]; exact hi⟩
    ·obtain ⟨z1,z2⟩:=y
     subst z1
     refine ⟨jj.refl _,fun d hd=>?_⟩
     obtain ⟨y,e4,e5⟩:=(Reps.monoA s2 _ _ e3).get hd
     have:=z2 xs (SqL.of (s2 _ _ e2 rfl))
     rw [e4] at this; cases this
     exact e5
   | _=>simp [itL,h1,aaE] at q
theorem ae1 (h:PD X e fa):PID X tg e (itT fa):=by
 with_unfolding_all
  refine PI.imp (akn h) fun σ H R ⟨ρ,ds,en,q,k⟩=>?_
  cases h1:fa ρ with
  | none=>simp [itT,h1] at q
  | some d=>
   cases d with
   | tuple es=>
    have:es=ds:=by simpa [itT,h1,ZC] using q
    subst this
    refine ⟨ρ,_,en,h1,fun v H1 s1 r1=>?_⟩
    obtain ⟨a,xs,e1,e2,e3⟩:=r1
    refine ⟨a,e1,⟨xs,e2⟩,k _ H1 s1 fun i H2 s2=>⟨fun hi=>?_,fun hi=>?_,fun x H' y=>?_⟩⟩
    ·exact ⟨xs,xs[i]'(by rw [e3.length]; exact hi),jB.tup s2 e2,by simp [e3.length,hi]⟩
    ·exact ⟨xs,jB.tup s2 e2,by rw [e3.length]; exact hi⟩
    ·obtain ⟨z1,z2⟩:=y
     subst z1
     refine ⟨jj.refl _,fun d hd=>?_⟩
     obtain ⟨y,e4,e5⟩:=(Reps.monoA s2 _ _ e3).get hd
     have:=z2 xs (jB.tup s2 e2)
     rw [e4] at this; cases this
     exact e5
   | _=>simp [itT,h1,ZC] at q
noncomputable def JV (lo:Int) (n:Nat):LP:=(List.range n).map fun (k:Nat)=>PyData.int (lo+(k:Int))
noncomputable def aaF (ds:LP):Option (LP):=match ds with
 | [.int j]=>if -(2 ^ 62)<=j/\j<2 ^ 62 then some (JV 0 j.toNat) else none
 | _=>none
theorem aci {K:Fg}{H:Hp} (lo:Int) (n:Nat):ag1 K (Itr lo n) (JV lo n) H:=fun i H2 s2=>by
 have hl:(JV lo n).length=n:=by simp [JV]
 refine ⟨fun hi=>by rw [hl] at hi; exact hi,fun hi=>by rw [hl] at hi; exact hi,fun x H' y=>?_⟩
 obtain ⟨z1,z2⟩:=y
 subst z1
 refine ⟨jj.refl _,fun d hd=>?_⟩
 have hi:i<n:=by
  have:=(List.getElem?_eq_some_iff.mp hd).1
  rw [hl] at this; exact this
 have:d= .int (lo+i):=by
  simp [JV,hi] at hd
  exact hd.symm
 subst this
 exact z2
theorem QS {p pos:Pos}{fr:Rho->Option (LP)} (hg:Gl X "range") (hm:X.mg "range"=none) (ha:PAD X [a] fr) (hs:starEach [a] X.env=[(false,eval a X.env)]:=by rfl):PID X tg (.Call (.Name "range" p) [a] [] pos) (fun ρ=>(fr ρ).bind aaF):=by
 with_unfolding_all
  refine PI.imp (Zw hg hm ha hs) fun σ H R ⟨ρ,ds,en,q,k⟩=>?_
  cases h1:fr ρ with
  | none=>simp [h1] at q
  | some as=>
   have q':aaF as=some ds:=by simpa [h1] using q
   refine ⟨ρ,as,en,h1,fun vs H1 s1 r1=>?_⟩
   unfold aaF at q'
   split at q'
   ·rename_i j
    split at q'
    ·rename_i hj
     cases q'
     obtain ⟨x,r,e1,e2,e3⟩:=r1
     cases (show x=V.int j from e2)
     cases (show r=[] from e3)
     exact ⟨j,e1,hj.1,hj.2,k _ H1 s1 (aci 0 j.toNat)⟩
    ·cases q'
   ·cases q'
noncomputable def jI (ga:PyData->Rho->Option Rho) (F:RO):LP->RO
 | [],ρ=>some (.nx ρ)
 | d::r,ρ=>(ga d ρ).bind fun ρ1=>(F ρ1).bind fun o=>match o with
  | .nx ρ2=>jI ga F r ρ2
  | .ct ρ2=>jI ga F r ρ2
  | .bk ρ2=>some (.nx ρ2)
  | .rt d=>some (.rt d)
noncomputable def ac8 (fi:Rho->Option (LP)) (ga:PyData->Rho->Option Rho) (F:RO):RO:=fun ρ=>(fi ρ).bind fun ds=>jI ga F ds ρ
theorem aan {body:List Stmt}{fi:Rho->Option (LP)}{ga:PyData->Rho->Option Rho} (hp:PassesOwn (model X.prog X.w) X.A X.env X.xe) (hc:X.calm=true) (hi:PID X tg src fi) (hg:PGD X tg ga) (hb:QR X body F)
  (hs:∀ x,foldedSetIterable src X.env x=pure x:=by intro _; rfl):PSD X (.For tg src body [] pos) (ac8 fi ga F):=by
 with_unfolding_all
  refine PS.imp (ab8 hp hc hi hg hb hs) fun D σ H ⟨ρ,o,en,q,k⟩=>?_
  cases h1:fi ρ with
  | none=>simp [ac8,h1] at q
  | some ds=>
   have q':jI ga F ds ρ=some o:=by simpa [ac8,h1] using q
   refine ⟨ρ,ds,en,h1,fun J H1 s1 Y=>?_⟩
   refine ⟨fun i m σ H2=>m=ds.length - i/\i<=ds.length/\jj H1 H2/\∃ ρ2,EnvR X.K H2 ρ2 σ/\jI ga F (ds.drop i) ρ2=some o,⟨ds.length,by simp,Nat.zero_le _,jj.refl _,ρ,en.mono s1,by simpa using q'⟩,?_⟩
   rintro i m σ2 H2 ⟨rfl,hi,s2,ρ2,en2,q2⟩
   obtain ⟨g1,g2,g3⟩:=Y i H2 (jj.a s2)
   by_cases hlt:i<ds.length
   ·right
    have hd:ds.drop i=ds[i]::ds.drop (i+1):=List.drop_eq_getElem_cons hlt
    rw [hd] at q2
    refine ⟨g1 hlt,fun σ3 H3=>jj H1 H3/\∃ ρ3,EnvR X.K H3 ρ3 σ3/\jI ga F (ds.drop (i+1)) ρ3=some o,fun σ3 H3 ⟨a1,ρ3,a2,a3⟩=>⟨ds.length - (i+1),by omega,rfl,hlt,a1,ρ3,a2,a3⟩,fun x H3 y=>?_⟩
    obtain ⟨s3,r3⟩:=g3 x H3 y
    have r3':=r3 ds[i] (by simp [hlt])
    cases h4:ga ds[i] ρ2 with
    | none=>simp [jI,h4] at q2
    | some ρ4=>
     refine ⟨ρ2,ds[i],ρ4,en2.mono s3,r3',h4,fun σ5 H5 s5 en5=>?_⟩
     cases h5:F ρ4 with
     | none=>simp [jI,h4,h5] at q2
     | some p=>
      refine ⟨ρ4,p,en5,h5,?_⟩
      have s15:=s2.trans (s3.trans s5)
      cases p with
      | nx ρ6=>exact fun σ6 H6 s6 en6=>⟨s15.trans s6,ρ6,en6,by simpa [jI,h4,h5] using q2⟩
      | ct ρ6=>exact fun σ6 H6 s6 en6=>⟨s15.trans s6,ρ6,en6,by simpa [jI,h4,h5] using q2⟩
      | bk ρ6=>
       have:Out.nx ρ6=o:=by simpa [jI,h4,h5] using q2
       subst this
       exact fun σ6 H6 s6 en6=>k σ6 H6 (s1.trans (s15.trans s6)) en6
      | rt d=>
       have:Out.rt d=o:=by simpa [jI,h4,h5] using q2
       subst this
       exact fun v H6 s6 r6=>k v H6 (s1.trans (s15.trans s6)) r6
   ·left
    have he:i=ds.length:=by omega
    have hn:ds.drop i=[]:=by rw [he]; simp
    rw [hn] at q2
    have:Out.nx ρ2=o:=by simpa [jI] using q2
    subst this
    exact ⟨g2 (by omega),k σ2 H2 (s1.trans s2) en2⟩
noncomputable def abg (cap:List (Option Nat)) (ρ:Rho):Rho:=cap.map fun o=>o.bind fun i=>(ρ[i]?).join
theorem EnvR.cap {K:Fg}{H:Hp}{ρ:Rho}{σ:St} (e:EnvR K H ρ σ) (cap:List (Option Nat)):EnvR K H (abg cap ρ) (ac5 cap σ):=by
 refine ⟨by simp [abg,ac5],fun j d q=>?_⟩
 unfold abg at q
 unfold ac5
 rw [List.getElem?_map] at q ⊢
 cases h1:cap[j]? with
 | none=>rw [h1] at q; cases q
 | some o=>
  rw [h1] at q
  cases o with
  | none=>cases q
  | some i=>
   have q':lkp i ρ=some d:=by simpa [lkp] using q
   obtain ⟨v,e1,e2⟩:=e.at' i d (zy q')
   exact ⟨v,by simp [e1],e2⟩
noncomputable def jY (ga:PyData->Rho->Option Rho) (ft:Rho->Option Bool) (fe:RP):LP->Rho->Option (LP)
 | [],_=>some []
 | d::r,τ=>(ga d τ).bind fun τ2=>(ft τ2).bind fun b=>if b=true then (fe τ2).bind fun y=>(jY ga ft fe r τ2).map fun ys=>y::ys else jY ga ft fe r τ2
noncomputable def QL (fi:Rho->Option (LP)) (cap:List (Option Nat)) (ga:PyData->Rho->Option Rho) (ft:Rho->Option Bool) (fe:RP):RP:=fun ρ=>(fi ρ).bind fun ds=>
 if few ds=true then (jY ga ft fe ds (abg cap ρ)).map PyData.list else none
@[irreducible] noncomputable def al6 (X:Cx) (ts:List Expr) (f:Rho->Option Bool):Prop:=PTs X ts (tDT X.K f)
noncomputable def QT (_:Rho):Option Bool:=some true
theorem zP:al6 X [] QT:=by
 with_unfolding_all exact (fun Kp s σ H Q I ⟨ρ,b,en,q,k⟩=>by cases q; exact aiS Kp s σ H Q I (k H (jj.refl H)))
theorem JE {el:Expr}{ts:List Expr}{sc:Scope}{ps:Pos}{fi:Rho->Option (LP)}{ga:PyData->Rho->Option Rho}{ft:Rho->Option Bool}{fe:RP} (N':List Str) (cap:List (Option Nat)) (hc:X.calm=true) (hi:PID X tg src fi) (ok:CompOk X sc N' cap)
  (body:∀ cl C s0 H0 fp pn,PGD (blk X N' sc cl C s0 H0 fp pn) tg ga/\al6 (blk X N' sc cl C s0 H0 fp pn) ts ft/\PD (blk X N' sc cl C s0 H0 fp pn) el fe)
  (hs:∀ x,foldedSetIterable src X.env x=pure x:=by intro _; rfl):PD X (.ListComp el [⟨tg,src,ts,0⟩] sc ps) (QL fi cap ga ft fe):=by
 with_unfolding_all
  refine PE.imp (aiT (g:=tDG X.K ga) (tt:=tDT X.K ft) (te:=tD X.K fe) hc hi ok (fun cl C s0 H0 fp pn=>body cl C s0 H0 fp pn) hs) fun σ H Q ⟨ρ,d,en,q,k⟩=>?_
  cases h1:fi ρ with
  | none=>simp [QL,h1] at q
  | some ds=>
   by_cases hf:few ds=true
   ·cases h2:jY ga ft fe ds (abg cap ρ) with
    | none=>simp [QL,h1,hf,h2] at q
    | some ys=>
     have:PyData.list ys=d:=by simpa [QL,h1,hf,h2] using q
     subst this
     refine ⟨ρ,ds,en,h1,fun J H1 s1 Y=>?_⟩
     refine ⟨fun i m τ us H2=>m=ds.length - i/\i<=ds.length/\jj H1 H2/\us.length<=i/\∃ ρ2 zs ws,EnvR X.K H2 ρ2 τ/\Reps X.K H2 zs us/\jY ga ft fe (ds.drop i) ρ2=some ws/\ys=zs++ws,
      ⟨ds.length,by simp,Nat.zero_le _,jj.refl _,Nat.le_refl _,abg cap ρ,[],ys,(en.mono s1).cap cap,rfl,by simpa using h2,rfl⟩,?_⟩
     rintro i m τ us H2 ⟨rfl,hi',s2,hu,ρ2,zs,ws,en2,r2,q2,ey⟩
     have hsm:us.length<sizeLine:=Nat.lt_of_le_of_lt (Nat.le_trans hu hi') (Nat.lt_of_lt_of_le (by simpa [few] using hf) (by rw [sizeLine_eq]; decide:1000000<=sizeLine))
     obtain ⟨g1,g2,g3⟩:=Y i H2 (jj.a s2)
     refine ⟨hsm,?_⟩
     by_cases hlt:i<ds.length
     ·right
      have hd:ds.drop i=ds[i]::ds.drop (i+1):=List.drop_eq_getElem_cons hlt
      rw [hd] at q2
      refine ⟨g1 hlt,fun x H3 y=>?_⟩
      obtain ⟨s3,r3⟩:=g3 x H3 y
      have r3':=r3 ds[i] (by simp [hlt])
      cases h4:ga ds[i] ρ2 with
      | none=>simp [jY,h4] at q2
      | some ρ4=>
       refine ⟨ρ2,ds[i],ρ4,en2.mono s3,r3',h4,fun σ5 H5 s5 en5=>?_⟩
       cases h5:ft ρ4 with
       | none=>simp [jY,h4,h5] at q2
       | some b=>
        refine ⟨ρ4,b,en5,h5,fun H6 s6=>?_⟩
        have s26:=s3.trans (s5.trans s6)
        cases b with
        | false=>
         refine am1 ?_
         exact ⟨ds.length - (i+1),by omega,rfl,hlt,s2.trans s26,by omega,ρ4,zs,ws,en5.mono s6,Reps.mono s26 _ _ r2,by simpa [jY,h4,h5] using q2,ey⟩
        | true=>
         refine am2 ?_
         cases h6:fe ρ4 with
         | none=>simp [jY,h4,h5,h6] at q2
         | some y=>
          cases h7:jY ga ft fe (ds.drop (i+1)) ρ4 with
          | none=>simp [jY,h4,h5,h6,h7] at q2
          | some ws'=>
           have hw:y::ws'=ws:=by simpa [jY,h4,h5,h6,h7] using q2
           refine ⟨ρ4,y,en5.mono s6,h6,fun v H7 s7 r7=>?_⟩
           refine ⟨ds.length - (i+1),by omega,rfl,hlt,s2.trans (s26.trans s7),by rw [List.length_append]; simp; omega,ρ4,zs++[y],ws',(en5.mono s6).mono s7,(Reps.mono (s26.trans s7) _ _ r2).append ⟨v,[],rfl,r7,rfl⟩,h7,?_⟩
           rw [ey,←hw]; simp
     ·left
      have he:i=ds.length:=by omega
      have hn:ds.drop i=[]:=by rw [he]; simp
      rw [hn] at q2
      have hw:[]=ws:=by simpa [jY] using q2
      subst hw
      have ey':ys=zs:=by simpa using ey
      subst ey'
      exact ⟨g2 (by omega),fun l hl=>k _ _ (s1.trans (s2.trans (jA hl))) ⟨l,us,rfl,jr,Reps.mono (jA hl) _ _ r2⟩⟩
   ·simp [QL,h1,hf] at q
noncomputable def Pur (K:Fg) (n:Nat) (g:LP->OP):Sp:=fun vs H Q _=>∃ ds d,ds.length=n/\Reps K H ds vs/\g ds=some d/\∀ v H',jj H H'->Rep K H' d v->Q v H'
noncomputable def jS (g:LP->OP) (fr:Rho->Option (LP)):RP:=fun ρ=>(fr ρ).bind g
theorem aiX {k n:Nat}{f:Addr}{fd:FuncData}{ps:List Str}{g:LP->OP}{x:Str}{p:Pos}{fr:Rho->Option (LP)} (FO:FnOk X.prog X.w X.K X.mg X.base CX0 k f fd ps (Pur X.K n g)) (hr:Room k X.A) (hm:X.mg x=some (.ref f)) (hk:PySem.W.keepIn X.K (.ref f)=true)
  (hb:QJ X.K fd ps []) (hn:(e::es).length=n) (ha:PAD X (e::es) fr) (hl:∀ ρ ds,fr ρ=some ds->ds.length=(e::es).length) (hg:Gl X x:=by rfl) (hdb:(x == ("__debug__":Str))=false:=by decide) (he:starEach (e::es) X.env=(false,eval e X.env)::starEach es X.env:=by rfl)
  (hpl:(backTo pos (starEach es X.env)).any (·.1)=false:=by rfl):PD X (.Call (.Name x p) (e::es) [] pos) (jS g fr):=by
 with_unfolding_all
  refine PE.imp (aiH FO hr hg hm hk hb .nil alX ha hdb he hpl) fun σ H Q ⟨ρ,d,en,q,k⟩=>?_
  cases h1:fr ρ with
  | none=>simp [jS,h1] at q
  | some ds=>
   refine ⟨ρ,ds,en,h1,fun vs H1 s1 r1=>?_⟩
   refine ⟨ds,d,by rw [hl ρ ds h1,hn],by rw [List.append_nil]; exact r1,by simpa [jS,h1] using q,fun v H' s r=>k v H' (s1.trans s) r⟩
noncomputable def Z1 (X:Cx) (f:Value) (g:LP->OP):Prop:=∃ r,zL X f r/\∀ ds d xs H Q,g ds=some d->Reps X.K H ds xs->(∀ v H',jj H H'->Rep X.K H' d v->Q v H')->r xs H Q
theorem jJ {id:String}{g:LP->OP}{x:Str}{p:Pos}{fr:Rho->Option (LP)} (hc:Z1 X (.builtin id) g) (hm:X.mg x=none) (hv:bootBuiltins x=some (.builtin id)) (ha:PAD X (e::es) fr) (hg:Gl X x:=by rfl) (hn:x ≠ "__name__":=by decide) (hdb:(x == ("__debug__":Str))=false:=by decide)
  (he:starEach (e::es) X.env=(false,eval e X.env)::starEach es X.env:=by rfl) (hpl:(backTo pos (starEach es X.env)).any (·.1)=false:=by rfl):PD X (.Call (.Name x p) (e::es) [] pos) (jS g fr):=by
 with_unfolding_all
  obtain ⟨r,h1,h2⟩:=hc
  refine PE.imp (JX h1 hg hm hv ha hn hdb he hpl) fun σ H Q ⟨ρ,d,en,q,k⟩=>?_
  cases h3:fr ρ with
  | none=>simp [jS,h3] at q
  | some ds=>exact ⟨ρ,ds,en,h3,fun vs H1 s1 r1=>h2 ds d vs H1 Q (by simpa [jS,h3] using q) r1 fun v H' s r=>k v H' (s1.trans s) r⟩
theorem afZ {T:String}{g:LP->OP}{x:Str}{p:Pos}{fr:Rho->Option (LP)} (hc:Z1 X (.type T) g) (hm:X.mg x=none) (hv:bootBuiltins x=some (.type T)) (ha:PAD X (e::es) fr) (hg:Gl X x:=by rfl) (hn:x ≠ "__name__":=by decide) (hdb:(x == ("__debug__":Str))=false:=by decide)
  (he:starEach (e::es) X.env=(false,eval e X.env)::starEach es X.env:=by rfl) (hpl:(backTo pos (starEach es X.env)).any (·.1)=false:=by rfl):PD X (.Call (.Name x p) (e::es) [] pos) (jS g fr):=by
 with_unfolding_all
  obtain ⟨r,h1,h2⟩:=hc
  refine PE.imp (afS h1 hg hm hv ha hn hdb he hpl) fun σ H Q ⟨ρ,d,en,q,k⟩=>?_
  cases h3:fr ρ with
  | none=>simp [jS,h3] at q
  | some ds=>exact ⟨ρ,ds,en,h3,fun vs H1 s1 r1=>h2 ds d vs H1 Q (by simpa [jS,h3] using q) r1 fun v H' s r=>k v H' (s1.trans s) r⟩
end
noncomputable def jO (N:List Str) (ds:LP):Rho:=ds.map some++List.replicate (N.length - ds.length) none
theorem ZD {K:Fg}{H:Hp}{N:List Str}{ds:LP}{vs:List V} (r:Reps K H ds vs):EnvR K H (jO N ds) (L2.zN N vs):=by
 have hl:=r.length
 refine ⟨by simp [jO,L2.zN,hl],fun i d q=>?_⟩
 unfold jO at q
 by_cases hi:i<ds.length
 ·rw [List.getElem?_append_left (by simpa using hi),List.getElem?_map] at q
  cases e:ds[i]? with
  | none=>rw [e] at q; cases q
  | some c=>
   rw [e] at q; cases q
   obtain ⟨x,e1,e2⟩:=r.get e
   refine ⟨x,?_,e2⟩
   unfold L2.zN
   rw [List.getElem?_append_left (by simp; omega),List.getElem?_map,e1]; rfl
 ·rw [List.getElem?_append_right (by simpa using hi),List.getElem?_replicate] at q
  split at q <;> cases q
noncomputable def jH (N:List Str) (n:Nat) (B:RO) (ds:LP):OP:=if ds.length=n then match B (jO N ds) with
 | some (.rt d)=>some d
 | some (.nx _)=>some .none
 | _=>none else none
section
variable {P:Program}{w:World}{K:Fg}{mg:SV}{base:Heap}
theorem jW {x qual:Str}{st:Stmt}{f:Addr}{fd:FuncData}{N ps:List Str}{k:Nat}{B:RO} (F:Fun K x qual st f fd) (S:FnScope N ps (jg st))
  (body:∀ (Kc:Value) (A:Around) (Ko:List Env) (s:Shared) (H:Hp) (E:XK),Room k (A.deeper (envOfC qual (jg st) s.heap.objs.size f Kc))->
   QR (Jf CX0 P w K mg base N qual (jg st) f Kc A Ko s H E).nox (jU st) B):FnOk P w K mg base CX0 (k+1) f fd ps (Pur K ps.length (jH N ps.length B)):=by
 with_unfolding_all
  refine F.ok S (fun vs H Q E h=>?_) (fun Kc A Ko s H vs Q E hr h=>?_)
  ·obtain ⟨ds,d,h1,h2,_⟩:=h
   rw [h2.length]; exact h1
  ·obtain ⟨ds,d,h1,h2,h3,h4⟩:=h
   refine ⟨_,body Kc A Ko s H E hr,?_⟩
   unfold jH at h3
   rw [if_pos h1] at h3
   cases hB:B (jO N ds) with
   | none=>rw [hB] at h3; cases h3
   | some o=>
    refine ⟨jO N ds,o,ZD h2,hB,?_⟩
    rw [hB] at h3
    cases o with
    | rt c=>cases h3; exact fun v H' s r=>h4 v H' s r
    | nx ρ=>cases h3; exact fun σ H' s r=>h4 .non H' s rfl
    | bk ρ=>cases h3
    | ct ρ=>cases h3
theorem al7 {k n:Nat}{f:Addr}{fd:FuncData}{ps:List Str}{g g':LP->OP} (F:FnOk P w K mg base CX0 k f fd ps (Pur K n g)) (h:∀ ds d,ds.length=n->g' ds=some d->g ds=some d):FnOk P w K mg base CX0 k f fd ps (Pur K n g'):=
 F.imp fun vs H Q E ⟨ds,d,h1,h2,h3,h4⟩=>⟨ds,d,h1,h2,h ds d h1 h3,h4⟩
end
section
variable {X:Cx}
noncomputable def al8 (K:Fg):R2:=fun x y H Q=>∃ a b ys,x= .ref a/\y= .ref b/\SqT K H a []/\SqT K H b ys/\Q (.ref b) H
theorem aiY:OpR X (binaryOp .Add) (al8 X.K):=by
 intro Kp s σ H x y v u Q I rx ry h
 obtain ⟨a,b,ys,rfl,rfl,ha,hb,q⟩:=h
 cases rx
 cases ry
 obtain ⟨its,r1,p1,_⟩:=I.tuple ha
 obtain ⟨its2,r2,p2,_⟩:=I.tuple hb
 cases r1
 obtain ⟨⟨c1,d1,t1,l1⟩,ho,hc,n,hd⟩:=id p1
 obtain ⟨⟨c2,d2,t2,l2⟩,ho2,hc2,n2,hd2⟩:=id p2
 simp only at hc hd hc2 hd2
 subst hc hd hc2 hd2
 exact concat_meets ⟨_,ho,rfl⟩ ⟨_,ho2,rfl⟩ noFill_tuple_add seq_tuple_add PySem.F.slot_tuple_add PySem.F.entry_tuple_add (PySem.F.args_tuple_add_2 _ _)
  (tuple_addW0 a b _ _ n n2 d1 d2 l1 l2 (by simp)) ⟨ho,ho2,⟨.ref b,H,I,rfl,q⟩⟩
noncomputable def qA:PyData->PyData->OP
 | .int i,.int j=>some (.int (i+j))
 | .list xs,.list ys=>if few (xs++ys)=true then some (.list (xs++ys)) else none
 | .tuple [],.tuple ys=>some (.tuple ys)
 | .tuple (x::xs),.tuple ys=>if few ((x::xs)++ys)=true then some (.tuple ((x::xs)++ys)) else none
 | _,_=>none
theorem js:OpD X (binaryOp .Add) qA:=by
 refine ⟨_,akq.or (agR.or (aiY.or aiJ)),fun p q d x y H Q h rx ry k=>?_⟩
 unfold qA at h
 split at h
 ·cases h
  cases (show x=_ from rx)
  cases (show y=_ from ry)
  exact .inl ⟨_,_,rfl,rfl,k _ H (jj.refl H) rfl⟩
 ·rename_i xs ys
  split at h
  ·rename_i hf
   cases h
   obtain ⟨a,us,e1,e2,e3⟩:=rx
   obtain ⟨b,ws,e4,e5,e6⟩:=ry
   have hl:us.length+ws.length<1000000:=by
    rw [e3.length,e6.length]
    simp [few] at hf
    try simp only [List.length_cons]
    omega
   exact .inr (.inl ⟨a,b,us,ws,e1,e4,e2,e5,aaB hl,fun p hp=>k _ _ (jA hp) ⟨p,_,rfl,jr,Reps.mono (jA hp) _ _ (e3.append e6)⟩⟩)
  ·cases h
 ·rename_i ys
  cases h
  obtain ⟨a,us,e1,e2,e3⟩:=rx
  cases (show us=[] from e3)
  obtain ⟨b,ws,e4,e5,e6⟩:=ry
  exact .inr (.inr (.inl ⟨a,b,ws,e1,e4,e2,e5,k _ H (jj.refl H) ⟨b,ws,rfl,e5,e6⟩⟩))
 ·rename_i z xs ys
  split at h
  ·rename_i hf
   cases h
   obtain ⟨a,us,e1,e2,e3⟩:=rx
   obtain ⟨b,ws,e4,e5,e6⟩:=ry
   have hl:us.length+ws.length<1000000:=by
    rw [e3.length,e6.length]
    simp [few] at hf
    try simp only [List.length_cons]
    omega
   refine .inr (.inr (.inr ⟨a,b,us,ws,e1,e4,e2,e5,fun z=>?_,aaB hl,fun z=>?_,fun _ p hp=>?_⟩))
   ·have:=e3.length; rw [z] at this; simp at this
   ·subst z
    have:=e6.length
    have hy:ys=[]:=List.length_eq_zero_iff.mp (by simpa using this.symm)
    subst hy
    exact k _ H (jj.refl H) ⟨a,us,rfl,e2,by simpa using e3⟩
   ·exact k _ _ (jA hp) ⟨p,_,rfl,SqT.of jr,Reps.mono (jA hp) _ _ (e3.append e6)⟩
  ·cases h
 ·cases h
noncomputable def ag2:PyData->PyData->OP
 | .int i,.int j=>some (.int (i - j))
 | _,_=>none
theorem Qq:OpD X (binaryOp .Sub) ag2:=by
 refine ⟨_,akr,fun p q d x y H Q h rx ry k=>?_⟩
 unfold ag2 at h
 split at h
 ·cases h; cases (show x=_ from rx); cases (show y=_ from ry); exact ⟨_,_,rfl,rfl,k _ H (jj.refl H) rfl⟩
 ·cases h
theorem Reps.rep {K:Fg}{H:Hp}{ds:LP}{xs:List V} (h:Reps K H ds xs):∀ (n:Nat),Reps K H (List.replicate n ds).flatten (List.replicate n xs).flatten
 | 0=>rfl
 | n+1=>by rw [List.replicate_succ,List.replicate_succ,List.flatten_cons,List.flatten_cons]; exact h.append (Reps.rep h n)
noncomputable def aac:PyData->PyData->OP
 | .int i,.int j=>if (-(2 ^ 64)<i/\i<2 ^ 64) ∨ (-(2 ^ 64)<j/\j<2 ^ 64) then some (.int (i*j)) else none
 | .list xs,.int k=>if k<1000/\xs.length<1000/\-1000<k then some (.list (List.replicate k.toNat xs).flatten) else none
 | _,_=>none
theorem zc:OpD X (binaryOp .Mult) aac:=by
 refine ⟨_,aks.or akC,fun p q d x y H Q h rx ry k=>?_⟩
 unfold aac at h
 split at h
 ·split at h
  ·rename_i hc
   cases h; cases (show x=_ from rx); cases (show y=_ from ry); exact .inl ⟨_,_,rfl,rfl,hc,k _ H (jj.refl H) rfl⟩
  ·cases h
 ·rename_i xs n
  split at h
  ·rename_i hc
   cases h
   obtain ⟨a,us,e1,e2,e3⟩:=rx
   cases (show y=_ from ry)
   have hl:=e3.length
   have hs:us.length*n.toNat<=sizeLine:=by
    rw [sizeLine_eq]
    have h1:us.length<=1000:=by omega
    have h2:n.toNat<=1000:=by omega
    exact Nat.le_trans (Nat.mul_le_mul h1 h2) (by decide)
   exact .inr ⟨a,n,us,e1,rfl,e2,by omega,by omega,hs,fun p hp=>k _ _ (jA hp) ⟨p,_,rfl,jr,Reps.mono (jA hp) _ _ (Reps.rep e3 n.toNat)⟩⟩
  ·cases h
 ·cases h
noncomputable def ae2:PyData->PyData->OP
 | .int i,.int j=>if 0<j/\j<1073741824 then some (.int (i / j)) else none
 | _,_=>none
theorem Q3:OpD X (binaryOp .FloorDiv) ae2:=by
 refine ⟨_,aiE,fun p q d x y H Q h rx ry k=>?_⟩
 unfold ae2 at h
 split at h
 ·split at h
  ·rename_i hc
   cases h; cases (show x=_ from rx); cases (show y=_ from ry); exact ⟨_,_,rfl,rfl,hc,k _ H (jj.refl H) rfl⟩
  ·cases h
 ·cases h
noncomputable def aiZ:PyData->PyData->OP
 | .int i,.int j=>if 0<j then some (.int (i % j)) else none
 | _,_=>none
theorem Qr:OpD X (binaryOp .Mod) aiZ:=by
 refine ⟨_,akt,fun p q d x y H Q h rx ry k=>?_⟩
 unfold aiZ at h
 split at h
 ·split at h
  ·rename_i hc
   cases h; cases (show x=_ from rx); cases (show y=_ from ry); exact ⟨_,_,rfl,rfl,hc,k _ H (jj.refl H) rfl⟩
  ·cases h
 ·cases h
noncomputable def okD (d:PyData):Bool:=d.canLay0 && decide (d.depth<30)
noncomputable def al9 (K:Fg) (neg:Bool):R2:=fun x y H Q=>∃ p q,Rep K H p x/\Rep K H q y/\okD p=true/\okD q=true/\Q (.bl (if neg then !PyData.eqv p q else PyData.eqv p q)) H
theorem qH {d:PyData} (h:okD d=true):d.canLay0=true:=by simp [okD] at h; exact h.1
theorem acj {d:PyData} (h:okD d=true):d.depth<30:=by simp [okD] at h; exact h.2
theorem akI (hu:X.A.units+64<cLine):OpR X (compareOp .Eq) (al9 X.K false):=by
 intro Kp s σ H x y v u Q I rx ry ⟨p,q,h1,h2,h3,h4,k⟩
 obtain ⟨as,ra⟩:=zb I p x v h1 rx (qH h3)
 obtain ⟨bs,rb⟩:=zb I q y u h2 ry (qH h4)
 have d1:=acj h3
 exact SeqAt.compareEq_reads ra rb (qH h3) (qH h4) (by omega) ⟨.bl _,H,I,rfl,k⟩
theorem akJ (hu:X.A.units+64<cLine):OpR X (compareOp .NotEq) (al9 X.K true):=by
 intro Kp s σ H x y v u Q I rx ry ⟨p,q,h1,h2,h3,h4,k⟩
 obtain ⟨as,ra⟩:=zb I p x v h1 rx (qH h3)
 obtain ⟨bs,rb⟩:=zb I q y u h2 ry (qH h4)
 have d1:=acj h3
 exact SeqAt.compareNe_reads ra rb (qH h3) (qH h4) (by omega) ⟨.bl _,H,I,rfl,k⟩
noncomputable def ama (K:Fg):R2:=fun x y H Q=>∃ a b ns,x= .ref a/\y= .ref b/\SqL K H a (List.map V.int ns)/\H b=some (.lst [])/\Q (.bl ns.isEmpty) H
theorem QM (h:Heap):∀ (ns:List Int) (us:List Value),jD (List.map V.int ns) us->∃ as,ReadsAll h us (ns.map PyData.int) as
 | [],us,r=>by cases r; exact ⟨_,.nil⟩
 | n::ns,us,r=>by
  cases r with
  | cons r1 r2=>
   obtain ⟨t,rfl⟩:=r1
   obtain ⟨as,ra⟩:=QM h ns _ r2
   exact ⟨_,.cons (.int n t) ra⟩
theorem ac9:∀ ns:List Int,PyData.canLayAll0 (ns.map PyData.int)=true
 | []=>rfl
 | n::ns=>by simp [PyData.canLayAll0,PyData.canLay0,ac9 ns]
theorem ai0 (hu:X.A.units+64<cLine):OpR X (compareOp .Eq) (ama X.K):=by
 intro Kp s σ H x y v u Q I rx ry ⟨a,b,ns,e1,e2,h1,h2,k⟩
 subst e1; subst e2
 cases rx; cases ry
 obtain ⟨its,rv,⟨o,n,g1,g2,g3,g4⟩,_⟩:=I.list h1
 obtain ⟨as,ra⟩:=QM s.heap ns its rv
 obtain ⟨bs,rb⟩:=zb I (.list []) (.ref b) (.ref b) ⟨b,[],rfl,h2,rfl⟩ rfl rfl
 have ra':Reads s.heap (.ref a) (.list (ns.map PyData.int)) (a::as):= .list g1 g2 g4 (by simpa using ra)
 refine SeqAt.compareEq_reads ra' rb (by simpa [PyData.canLay0] using ac9 ns) rfl ?_ ⟨.bl _,H,I,rfl,?_⟩
 ·have:(PyData.list []).depth=1:=rfl
  rw [this]; omega
 ·have:PyData.eqv (.list (ns.map PyData.int)) (.list [])=ns.isEmpty:=by cases ns <;> simp [PyData.eqv,PyData.eqvAll]
  rw [this]; exact k
noncomputable def dEq:PyData->PyData->OP
 | .dict kvs,.list []=>if zk kvs=true then some (.bool kvs.isEmpty) else none
 | p,q=>if okD p=true/\okD q=true then some (.bool (PyData.eqv p q)) else none
theorem ack (hu:X.A.units+64<cLine):OpD X (compareOp .Eq) dEq:=by
 refine ⟨_,(ai0 hu).or (akI hu),fun p q d x y H Q h rx ry k=>?_⟩
 unfold dEq at h
 split at h
 ·split at h
  ·rename_i hs
   cases h
   obtain ⟨a,ns,e1,e2,e3⟩:=rx.scrOut hs
   obtain ⟨b,ws,e4,e5,e6⟩:=ry
   cases (show ws=[] from e6)
   refine .inl ⟨a,b,ns,e1,e4,e2,e5,?_⟩
   have:ns.isEmpty=(ns.map fun n=>(PyData.int n,PyData.none)).isEmpty:=by simp
   subst e3
   rw [this]
   exact k _ H (jj.refl H) rfl
  ·cases h
 ·split at h
  ·rename_i hc
   cases h
   exact .inr ⟨p,q,rx,ry,hc.1,hc.2,k _ H (jj.refl H) rfl⟩
  ·cases h
noncomputable def dNe:PyData->PyData->OP:=fun p q=>if okD p=true/\okD q=true then some (.bool (!PyData.eqv p q)) else none
theorem ZE (hu:X.A.units+64<cLine):OpD X (compareOp .NotEq) dNe:=by
 refine ⟨_,akJ hu,fun p q d x y H Q h rx ry k=>?_⟩
 unfold dNe at h
 split at h
 ·rename_i hc
  cases h
  exact ⟨p,q,rx,ry,hc.1,hc.2,k _ H (jj.refl H) rfl⟩
 ·cases h
noncomputable def amb (K:Fg) (neg:Bool):R2:=fun x y H Q=>∃ p ds,Rep K H p x/\(Rep K H (.list ds) y ∨ Rep K H (.tuple ds) y)/\okD p=true/\okD (.list ds)=true/\Q (.bl (if neg then !(ds.any fun z=>PyData.eqv z p) else ds.any fun z=>PyData.eqv z p)) H
theorem akK (hu:X.A.units+64<cLine):OpR X (compareOp .In) (amb X.K false):=by
 intro Kp s σ H x y v u Q I rx ry ⟨p,ds,h1,h2,h3,h4,k⟩
 obtain ⟨as,ra⟩:=zb I p x v h1 rx (qH h3)
 have d1:=acj h3
 have hc:PyData.canLayAll0 ds=true:=by simpa [PyData.canLay0] using qH h4
 rcases h2 with h2 | h2
 ·obtain ⟨bs,rb⟩:=zb I (.list ds) y u h2 ry (qH h4)
  exact SeqAt.in_list_reads rb ra hc (qH h3) (by omega) ⟨.bl _,H,I,rfl,k⟩
 ·obtain ⟨bs,rb⟩:=zb I (.tuple ds) y u h2 ry (by simpa [PyData.canLay0] using hc)
  exact SeqAt.in_tuple_reads rb ra hc (qH h3) (by omega) ⟨.bl _,H,I,rfl,k⟩
noncomputable def dIn (neg:Bool):PyData->PyData->OP:=fun p q=>match q with
 | .list ds=>if okD p=true/\okD (.list ds)=true then some (.bool (if neg then !(ds.any fun z=>PyData.eqv z p) else ds.any fun z=>PyData.eqv z p)) else none
 | .tuple ds=>if okD p=true/\okD (.list ds)=true then some (.bool (if neg then !(ds.any fun z=>PyData.eqv z p) else ds.any fun z=>PyData.eqv z p)) else none
 | _=>none
theorem amc {neg:Bool}{p q d:PyData}{x y:V}{H:Hp}{Q:VK}{K:Fg} (h:dIn neg p q=some d) (rx:Rep K H p x) (ry:Rep K H q y) (k:∀ v H',jj H H'->Rep K H' d v->Q v H'):amb K neg x y H Q:=by
 unfold dIn at h
 split at h
 ·split at h
  ·rename_i ds hc
   cases h
   exact ⟨p,ds,rx,.inl ry,hc.1,hc.2,k _ H (jj.refl H) rfl⟩
  ·cases h
 ·split at h
  ·rename_i ds hc
   cases h
   exact ⟨p,ds,rx,.inr ry,hc.1,hc.2,k _ H (jj.refl H) rfl⟩
  ·cases h
 ·cases h
theorem akL (hu:X.A.units+64<cLine):OpD X (compareOp .In) (dIn false):=⟨_,akK hu,fun p q d x y H Q h rx ry k=>amc h rx ry k⟩
noncomputable def Jh (f:Int->Int->Bool):PyData->PyData->OP
 | .int i,.int j=>some (.bool (f i j))
 | _,_=>none
theorem aed {f:Int->Int->Bool}{p q d:PyData}{x y:V}{H:Hp}{Q:VK}{K:Fg} (h:Jh f p q=some d) (rx:Rep K H p x) (ry:Rep K H q y) (k:∀ v H',jj H H'->Rep K H' d v->Q v H'):rI0 (fun i j=> .bl (f i j)) x y H Q:=by
 unfold Jh at h
 split at h
 ·cases h; cases (show x=_ from rx); cases (show y=_ from ry); exact ⟨_,_,rfl,rfl,k _ H (jj.refl H) rfl⟩
 ·cases h
theorem ag3:OpD X (compareOp .Lt) (Jh fun i j=>decide (i<j)):=⟨_,alO,fun p q d x y H Q h rx ry k=>aed h rx ry k⟩
theorem acl:OpD X (compareOp .LtE) (Jh fun i j=>decide (i<=j)):=⟨_,alP,fun p q d x y H Q h rx ry k=>aed h rx ry k⟩
theorem ag4:OpD X (compareOp .Gt) (Jh fun i j=>decide (j<i)):=⟨_,alQ,fun p q d x y H Q h rx ry k=>aed h rx ry k⟩
noncomputable def chn (g g':PyData->PyData->OP) (fa fb fc:RP):RP:=fun ρ=>(fa ρ).bind fun x=>(fb ρ).bind fun y=>(g x y).bind fun z=>(asB z).bind fun t=>if t=true then (fc ρ).bind fun w=>g' y w else some (.bool false)
variable {a b c e:Expr}{fa fb fc:RP}{pos:Pos}
theorem ajZ {g g':PyData->PyData->OP}{K:Fg}{r r':R2} (hr:∀ p q d x y H Q,g p q=some d->Rep K H p x->Rep K H q y->(∀ v H',jj H H'->Rep K H' d v->Q v H')->r x y H Q)
  (hr':∀ p q d x y H Q,g' p q=some d->Rep K H p x->Rep K H q y->(∀ v H',jj H H'->Rep K H' d v->Q v H')->r' x y H Q) {σ:St} {H:Hp} {Q:VK} (h:tD K (chn g g' fa fb fc) σ H Q):ad8 r r' (tD K fa) (tD K fb) (tD K fc) σ H Q:=by
 obtain ⟨ρ,d,en,h,k⟩:=h
 unfold chn at h
 cases ha:fa ρ with
 | none=>rw [ha] at h; cases h
 | some p=>
  cases hb:fb ρ with
  | none=>rw [ha,hb] at h; cases h
  | some q=>
   rw [ha,hb] at h
   cases hg:g p q with
   | none=>simp [hg] at h
   | some z=>
    cases ht:asB z with
    | none=>simp [hg,ht] at h
    | some t=>
     have hz:=Jo ht
     subst hz
     refine ⟨ρ,p,en,ha,fun x H1 s1 r1=>⟨ρ,q,en.mono s1,hb,fun y H2 s2 r2=>?_⟩⟩
     refine hr p q _ x y H2 _ hg (Rep.mono s2 p x r1) r2 fun v H3 s3 r3=>⟨t,r3,?_⟩
     have s13:=s1.trans (s2.trans s3)
     cases t with
     | false=>
      rw [if_neg Bool.false_ne_true]
      have hd:PyData.bool false=d:=by simpa [hg,asB] using h
      subst hd
      exact k _ H3 s13 rfl
     | true=>
      rw [if_pos rfl]
      cases hc:fc ρ with
      | none=>simp [hg,asB,hc] at h
      | some w=>
       refine ⟨ρ,w,en.mono s13,hc,fun z H4 s4 r4=>?_⟩
       exact hr' q w d y z H4 Q (by simpa [hg,asB,hc] using h) (Rep.mono (s3.trans s4) q y r2) r4 fun v H5 s5 r5=>k v H5 (s13.trans (s4.trans s5)) r5
theorem ag5 {op op':CmpOp}{g g':PyData->PyData->OP} (ho:OpD X (compareOp op) g) (ho':OpD X (compareOp op') g') (ha:PD X a fa) (hb:PD X b fb) (hc:PD X c fc)
  (hm:lastMarks [op,op'] [b,c]=false:=by with_unfolding_all rfl):PD X (.Compare a [op,op'] [b,c] pos) (chn g g' fa fb fc):=by
 with_unfolding_all
  obtain ⟨r,h1,h2⟩:=ho
  obtain ⟨r',h3,h4⟩:=ho'
  exact PE.imp (agL h1 h3 ha hb hc hm) fun σ H Q h=>ajZ h2 h4 h
theorem af0 {op op':CmpOp}{g g':PyData->PyData->OP} (ho:OpD X (compareOp op) g) (ho':OpD X (compareOp op') g') (ha:PD X a fa) (hb:PD X b fb) (hc:PD X c fc)
  (hm:lastMarks [op,op'] [b,c]=false:=by with_unfolding_all rfl):PTD X (.Compare a [op,op'] [b,c] pos) (tst (chn g g' fa fb fc)):=by
 with_unfolding_all
  obtain ⟨r,h1,h2⟩:=ho
  obtain ⟨r',h3,h4⟩:=ho'
  refine PT.imp (agM h1 h3 ha hb hc hm) fun σ H Q ⟨ρ,t,en,h,k⟩=>?_
  cases hd:chn g g' fa fb fc ρ with
  | none=>simp [tst,hd] at h
  | some d=>
   have ht:d= .bool t:=Jo (by simpa [tst,hd] using h)
   subst ht
   exact ajZ h2 h4 ⟨ρ,_,en,hd,fun v H' s r=>⟨t,r,k H' s⟩⟩
noncomputable def dIx:PyData->PyData->OP
 | .list ds,.int i=>if ds.length<1000000 then atI ds i else none
 | .tuple ds,.int i=>if ds.length<1000000 then atI ds i else none
 | .dict kvs,.int i=>if kvs.length<1000000/\zk kvs=true then (atI kvs i).map (·.1) else none
 | _,_=>none
theorem ae3 {K:Fg}{H:Hp}{ds:LP}{xs:List V}{i:Int}{d:PyData} (r:Reps K H ds xs) (h:atI ds i=some d):∃ x,atI xs i=some x/\Rep K H d x:=by
 have hl:=r.length
 unfold atI at h ⊢
 rw [hl]
 cases e:ixN ds.length i with
 | none=>rw [e] at h; cases h
 | some j=>
  rw [e] at h
  obtain ⟨x,e1,e2⟩:=r.get (show ds[j]?=some d from h)
  exact ⟨x,e1,e2⟩
noncomputable def IxD (X:Cx) (g:PyData->PyData->OP):Prop:=∃ r,IxR X r/\∀ p q d x y H Q,g p q=some d->Rep X.K H p x->Rep X.K H q y->(∀ v H',jj H H'->Rep X.K H' d v->Q v H')->r x y H Q
theorem ixd:IxD X dIx:=by
 refine ⟨_,aiL.or akA,fun p q d x y H Q h rx ry k=>?_⟩
 unfold dIx at h
 split at h
 ·split at h
  ·obtain ⟨a,us,e1,e2,e3⟩:=rx
   cases (show y=_ from ry)
   obtain ⟨z,g1,g2⟩:=ae3 e3 h
   exact .inl ⟨a,us,_,z,e1,rfl,SqL.of e2,g1,k z H (jj.refl H) g2⟩
  ·cases h
 ·split at h
  ·obtain ⟨a,us,e1,e2,e3⟩:=rx
   cases (show y=_ from ry)
   obtain ⟨z,g1,g2⟩:=ae3 e3 h
   exact .inr ⟨a,us,_,z,e1,rfl,e2,g1,k z H (jj.refl H) g2⟩
  ·cases h
 ·split at h
  ·rename_i hs
   obtain ⟨a,ns,e1,e2,e3⟩:=rx.scrOut hs.2
   cases (show y=_ from ry)
   subst e3
   rename_i i
   unfold atI at h
   rw [List.length_map] at h
   cases e:ixN ns.length i with
   | none=>rw [e] at h; cases h
   | some j=>
    rw [e] at h
    have h':((ns.map fun n=>(PyData.int n,PyData.none))[j]?).map (·.1)=some d:=h
    rw [List.getElem?_map] at h'
    cases e4:ns[j]? with
    | none=>rw [e4] at h'; cases h'
    | some n=>
     rw [e4] at h'
     cases h'
     refine .inl ⟨a,List.map V.int ns,i,.int n,e1,rfl,e2,?_,k _ H (jj.refl H) rfl⟩
     unfold atI
     rw [List.length_map,e]
     show (List.map V.int ns)[j]?=_
     rw [List.getElem?_map,e4]; rfl
  ·cases h
 ·cases h
theorem j7 (ha:PD X a fa) (hb:PD X b fb) (hs:aeU b:=by intro _ _; rfl):PD X (.Subscript a b pos) (op2 dIx fa fb):=by
 with_unfolding_all
  obtain ⟨r,h1,h2⟩:=ixd (X:=X)
  exact PE.imp (alW h1 ha hb hs) fun σ H Q h=>agW h2 h
noncomputable def zH (ds:LP):OP:=match ds with
 | [.list xs]=>some (.int xs.length)
 | [.tuple xs]=>some (.int xs.length)
 | [.dict xs]=>if zk xs=true then some (.int xs.length) else none
 | _=>none
theorem zn:Z1 X (.builtin "len") zH:=by
 refine ⟨_,acd,fun ds d xs H Q h r k=>?_⟩
 unfold zH at h
 split at h
 ·cases h
  obtain ⟨x,q,e1,e2,e3⟩:=r
  cases (show q=[] from e3)
  obtain ⟨a,us,g1,g2,g3⟩:=e2
  subst g1
  exact ⟨a,us,e1,.inl (SqL.of g2),k _ H (jj.refl H) (by show _=_; rw [g3.length])⟩
 ·cases h
  obtain ⟨x,q,e1,e2,e3⟩:=r
  cases (show q=[] from e3)
  obtain ⟨a,us,g1,g2,g3⟩:=e2
  subst g1
  exact ⟨a,us,e1,.inr g2,k _ H (jj.refl H) (by show _=_; rw [g3.length])⟩
 ·split at h
  ·rename_i hs
   cases h
   obtain ⟨x,q,e1,e2,e3⟩:=r
   cases (show q=[] from e3)
   obtain ⟨a,ns,g1,g2,g3⟩:=e2.scrOut hs
   subst g1; subst g3
   exact ⟨a,_,e1,.inl g2,k _ H (jj.refl H) (by show _=_; simp)⟩
  ·cases h
 ·cases h
noncomputable def ag6 (ds:LP):OP:=match ds with
 | [.int i,.int j]=>some (.int (if j > i then j else i))
 | _=>none
noncomputable def ag7 (ds:LP):OP:=match ds with
 | [.int i,.int j]=>some (.int (if j<i then j else i))
 | _=>none
theorem ai1 (hc:X.calm=true):Z1 X (.builtin "max") ag6:=by
 refine ⟨_,afQ hc,fun ds d xs H Q h r k=>?_⟩
 unfold ag6 at h
 split at h
 ·cases h
  obtain ⟨x,q,e1,e2,y,q',e3,e4,e5⟩:=r
  cases (show x=_ from e2); cases (show y=_ from e4); cases (show q'=[] from e5); subst e3
  exact ⟨_,_,e1,k _ H (jj.refl H) rfl⟩
 ·cases h
theorem ai2 (hc:X.calm=true):Z1 X (.builtin "min") ag7:=by
 refine ⟨_,afR hc,fun ds d xs H Q h r k=>?_⟩
 unfold ag7 at h
 split at h
 ·cases h
  obtain ⟨x,q,e1,e2,y,q',e3,e4,e5⟩:=r
  cases (show x=_ from e2); cases (show y=_ from e4); cases (show q'=[] from e5); subst e3
  exact ⟨_,_,e1,k _ H (jj.refl H) rfl⟩
 ·cases h
end
section
variable {X:Cx}{Kp:List (Addr × Obj)}{σ:St}{H:Hp}{s:Shared}
theorem af1 {prog:Program}{w:World}{A:Around}{E:Value->SP0}{l:Addr}{its:Array Value}{Q:Value->SP0} (hl:s.heap.IsList l its)
  (h:∀ (h2:Heap) (it:Addr),(h2.IsListIter it l 0/\h2.IsList l its)->(∀ b ∈ [it,l],b<h2.objs.size)->l ≠ it->(∀ b o,s.heap.get? b=some o->h2.get? b=some o)->s.heap.get? it=none->Q (.ref it) { s with heap:=h2 }):
  wpAny (model prog w) A (pyIter (.ref l)) Q E s:=by
 have hlt:l<s.heap.objs.size:=by
  obtain ⟨_,e,_⟩:=hl
  exact Heap.lt_size e
 refine wpAny_pyIter_list hl (h _ _ ⟨⟨_,Heap.get?_push_size _ rfl,rfl,rfl⟩,hl.push _⟩ (fun b hb=>?_) (Nat.ne_of_lt hlt) (fun b o e=>Heap.get?_push_of_some _ e) (Heap.get?_none_of_le (Nat.le_refl _)))
 rw [Heap.size_push]
 rcases List.mem_cons.mp hb with e | hb
 ·rw [e]; exact Nat.lt_succ_self _
 ·have e:b=l:=by simpa using hb
  rw [e]; exact Nat.lt_succ_of_lt hlt
theorem ai3 {h h2 h3 : Heap} {it : Addr} (k1 : ∀ b o, h.get? b = some o -> h2.get? b = some o) (hn : h.get? it = none) (k2 : ∀ b o, b ∉ [it] -> h2.get? b = some o -> h3.get? b = some o) : ∀ b o, h.get? b = some o -> h3.get? b = some o := fun b o e =>
  k2 b o (fun z => by have e1 : b = it := by simpa using z
                      rw [e1, hn] at e; cases e) (k1 b o e)
theorem ae4:∀ {bs:List Bool}{us:List Value},jD (bs.map V.bl) us->us=bs.map Value.bool
 | [],us,r=>by cases r; rfl
 | b::bs,us,r=>by
  cases r with
  | cons r1 r2=>cases (show _=_ from r1); rw [ae4 r2]; rfl
theorem af2 (bs:List Bool):(List.range bs.length).all (fun i=>bs.getD i false)=bs.all id:=by
 have:bs=(List.range bs.length).map (fun i=>bs.getD i false):=by
  apply List.ext_getElem?
  intro i
  rw [List.getElem?_map]
  by_cases h:i<bs.length
  ·rw [List.getElem?_range h]; simp [List.getD,h]
  ·simp [h]
 conv=>rhs; rw [this]
 rw [List.all_map]; rfl
noncomputable def am6 (K:Fg):List V->Hp->VK->Prop:=fun xs H Q=>∃ a bs,xs=[.ref a]/\SqL K H a (List.map V.bl bs)/\Q (.bl (bs.all id)) H
theorem af3 (hc:X.calm=true):zL X (.builtin "all") (am6 X.K):=by
 intro Kp s σ H xs us Q I r ⟨a,bs,e,hq,q⟩
 subst e
 obtain ⟨u,rfl,rx⟩:=aeS r
 cases rx
 obtain ⟨its,rv,pl,hz⟩:=I.list hq
 have ei:=ae4 rv
 have hh:=I.ok.hd hc
 refine call_all_walk (af1 pl.isList fun h2 it st hlt hne k1 hn=>?_)
 refine ⟨it,[it,a],[it],its.toArray.size,(fun i v=>its.toArray[i]?=some v),_,fun i=>bs.getD i false,rfl,Walks.list (A:=X.A.in1) hh it a hne its.toArray,st,?_,fun h3 tk k2=>?_⟩
 ·intro i v s' Q' E' hP hq'
  have:v= .bool (bs.getD i false):=by
   have hP':its[i]?=some v:=by simpa using hP
   rw [ei,List.getElem?_map] at hP'
   cases hb:bs[i]? with
   | none=>rw [hb] at hP'; cases hP'
   | some b=>rw [hb] at hP'; cases hP'; simp [List.getD,hb]
  subst this
  exact wpAny_truthy_bool hq'
 ·have I3:=I.kept (t':=tk) (ai3 k1 hn k2)
  have hl:its.toArray.size=bs.length:=by rw [ei]; simp
  refine ⟨.bl (bs.all id),H,I3,?_,q⟩
  show _=_
  rw [hl,af2]
noncomputable def bls:LP->Option (List Bool)
 | []=>some []
 | d::r=>(asB d).bind fun b=>(bls r).map fun q=>b::q
theorem Reps.bls {K:Fg}{H:Hp}:∀ {ds:LP}{bs:List Bool}{xs:List V},BX.bls ds=some bs->Reps K H ds xs->xs=bs.map V.bl
 | [],bs,xs,h,r=>by simp [BX.bls] at h; subst h; exact r
 | d::ds,bs,xs,h,⟨x,q,e1,e2,e3⟩=>by
  subst e1
  cases h1:asB d with
  | none=>simp [BX.bls,h1] at h
  | some b=>
   cases h2:BX.bls ds with
   | none=>simp [BX.bls,h1,h2] at h
   | some r=>
    have:b::r=bs:=by simpa [BX.bls,h1,h2] using h
    subst this
    have hd:=Jo h1
    subst hd
    cases (show x=_ from e2)
    rw [Reps.bls h2 e3]; rfl
noncomputable def aad (ds:LP):OP:=match ds with
 | [.list xs]=>(bls xs).map fun bs=> .bool (bs.all id)
 | _=>none
theorem acm (hc:X.calm=true):Z1 X (.builtin "all") aad:=by
 refine ⟨_,af3 hc,fun ds d xs H Q h r k=>?_⟩
 unfold aad at h
 split at h
 ·rename_i ys
  cases hb:bls ys with
  | none=>simp [hb] at h
  | some bs=>
   have:PyData.bool (bs.all id)=d:=by simpa [hb] using h
   subst this
   obtain ⟨x,q,e1,e2,e3⟩:=r
   cases (show q=[] from e3)
   obtain ⟨a,us,g1,g2,g3⟩:=e2
   subst g1
   have:=Reps.bls hb g3
   subst this
   exact ⟨a,bs,e1,SqL.of g2,k _ H (jj.refl H) rfl⟩
 ·cases h
noncomputable def ag8:PyData->Option Int
 | .int i=>some i
 | _=>none
noncomputable def amd:LP->Option (List Int)
 | []=>some []
 | d::r=>(ag8 d).bind fun b=>(amd r).map fun q=>b::q
end
section
variable {prog:Program}{w:World}{A:Around}{E:Value->SP0}{s:Shared}
theorem QU {it t:Addr}{i:Nat}{ys:Array Value}{x:Value}{Q:Value->SP0} (hit:s.heap.IsTupleIter it t i) (ht:s.heap.IsTuple t ys) (hx:ys[i]?=some x)
  (hQ:∀ h',h'.IsTupleIter it t (i+1)->Heap.SameBut it s.heap h'->Q x { s with heap:=h' }):wpAny (model prog w) A (Builtin.SmallTypes.nextOf (.ref it)) Q E s:=by
 obtain ⟨o,ho,hc,hd⟩:=id hit
 obtain ⟨ot,hot,_,nt,hdt⟩:=ht
 unfold Builtin.SmallTypes.nextOf
 refine wpAny_bind (wpAny_callSpecial?_slot (name:=Str.ofString "__next__") hit.typeIs F.slot_tuple_iterator_next
  (wpAny_call_entry F.slot_tuple_iterator_next hit.typeIs F.entry_tuple_iterator_next ?_
   (F.args_tuple_iterator_next_1 _)))
 refine wpAny_bind (m:=field (.ref it) 0) (wpAny_field ho hd (x:= .ref t) rfl ?_)
 have no:¬ ((Value.ref t == Value.none)=true):=Bool.false_ne_true
 show wpAny _ _ (if (Value.ref t == Value.none)=true then _ else
  _) _ _ s
 rw [if_neg no]
 refine wpAny_bind (m:=field (.ref it) 1) (wpAny_field ho hd (x:= .int i 0) rfl ?_)
 refine wpAny_bind (m:=seqItems? (.ref t)) (wpAny_seqItems hot hdt ?_)
 simp only [Int.toNat_natCast,hx]
 refine wpAny_bind (wpAny_setField ho hd (by simp) (wpAny_pure ⟨x,rfl,wpAny_pure (hQ _ ?_ (Heap.SameBut.update ..))⟩))
 refine ⟨_,Heap.get?_update_self _ ho (Obj.isFreed_of_fields (Obj.data_mapFields hd _)),(Obj.cls_mapFields ..).trans hc,?_⟩
 rw [Obj.data_mapFields hd]
 simp [rawInt]
theorem af4 {it t:Addr}{i:Nat}{ys:Array Value}{Q:Value->SP0} (hh:A.handled=none) (hit:s.heap.IsTupleIter it t i) (ht:s.heap.IsTuple t ys) (hx:ys[i]?=none)
  (hE:∀ h' e,Heap.ExtBut it s.heap h'->(∃ o,h'.get? e=some o/\o.cls= .type "StopIteration")->E (.ref e) { s with heap:=h' }):wpAny (model prog w) A (Builtin.SmallTypes.nextOf (.ref it)) Q E s:=by
 obtain ⟨o,ho,hc,hd⟩:=id hit
 obtain ⟨ot,hot,_,nt,hdt⟩:=ht
 unfold Builtin.SmallTypes.nextOf
 refine wpAny_bind (wpAny_callSpecial?_slot (name:=Str.ofString "__next__") hit.typeIs F.slot_tuple_iterator_next
  (wpAny_call_entry F.slot_tuple_iterator_next hit.typeIs F.entry_tuple_iterator_next ?_
   (F.args_tuple_iterator_next_1 _)))
 refine wpAny_bind (m:=field (.ref it) 0) (wpAny_field ho hd (x:= .ref t) rfl ?_)
 have no:¬ ((Value.ref t == Value.none)=true):=Bool.false_ne_true
 show wpAny _ _ (if (Value.ref t == Value.none)=true then _ else
  _) _ _ s
 rw [if_neg no]
 refine wpAny_bind (m:=field (.ref it) 1) (wpAny_field ho hd (x:= .int i 0) rfl ?_)
 refine wpAny_bind (m:=seqItems? (.ref t)) (wpAny_seqItems hot hdt ?_)
 simp only [Int.toNat_natCast,hx]
 refine wpAny_bind (wpAny_rule (wpAny_bind (wpAny_setField ho hd (by simp) ?_)))
 refine wpAny_bind (m:=newExc (.type "StopIteration") []) ?_
 simp only [newExc,newTuple]
 refine wpAny_bind (wpAny_newObj_type ?_ (by size_fits))
 refine wpAny_bind (m:=firstArgMember _ _) (wpAny_of_eq (a:=Value.none)
  (by first | rfl | (simp only [firstArgMember]; rfl)) ?_)
 refine wpAny_newObj_type ?_ (by size_fits)
 simp only [raiseNew]
 refine wpAny_bind (wpAny_handled ?_)
 rw [show A.in1.handled=none from hh]
 refine wpAny_bind (wpAny_pure (wpAny_throw ?_))
 exact hE _ _ (((Heap.SameBut.update ..).extBut.push _).push _) ⟨_,Heap.get?_push_size _ rfl,rfl⟩
noncomputable abbrev Q4 (h:Heap) (T:Addr) (a b c:Value):Prop:=h.get? T=some { cls:= .type "tuple",data:= .seq #[a,b,c] }
theorem aaG {T:Addr}{a b c x:Value}{k:Nat}{Q:Unit->SP0} (hT:Q4 s.heap T a b c)
  (h:∀ h',h'.get? T=some { cls:= .type "tuple",data:= .seq ((#[a,b,c]:Array Value).setIfInBounds k x) }->Heap.SameBut T s.heap h'->Q () { s with heap:=h' }):
  wpAny (model prog w) A (updateSeq T (·.setIfInBounds k x)) Q E s:=by
 refine wpAny_updateSeq hT rfl (h _ ?_ (Heap.SameBut.update ..))
 rw [Heap.get?_update_self _ hT rfl]
 simp [Obj.mapSeq]
structure Apart3 (z TI TO i1 i2 i3 t1 t2 t3:Addr):Prop where
 nd:[z,TO,i1,i2,i3].Nodup
 ti:TI ∉ [z,TO,i1,i2,i3]
 s1:t1 ∉ [z,TO,i1,i2,i3]
 s2:t2 ∉ [z,TO,i1,i2,i3]
 s3:t3 ∉ [z,TO,i1,i2,i3]
structure Zip3 (h:Heap) (z TI TO i1 i2 i3 t1 t2 t3:Addr) (xs ys zs:Array Value) (f0:Value) (k:Nat):Prop where
 hz:IsZip h z TI TO f0
 hTI:Q4 h TI (.ref i1) (.ref i2) (.ref i3)
 hTO:∃ a b c,Q4 h TO a b c
 g1:h.IsTupleIter i1 t1 k
 g2:h.IsTupleIter i2 t2 k
 g3:h.IsTupleIter i3 t3 k
 a1:h.IsTuple t1 xs
 a2:h.IsTuple t2 ys
 a3:h.IsTuple t3 zs
theorem Zip3.keep {h h':Heap}{z TI TO i1 i2 i3 t1 t2 t3:Addr}{xs ys zs:Array Value}{f0:Value}{k:Nat} (S:Zip3 h z TI TO i1 i2 i3 t1 t2 t3 xs ys zs f0 k)
  (kp:∀ b ∈ [z,TI,TO,i1,i2,i3,t1,t2,t3],∀ o,h.get? b=some o->h'.get? b=some o):Zip3 h' z TI TO i1 i2 i3 t1 t2 t3 xs ys zs f0 k:=by
 obtain ⟨hz,hTI,⟨a,b,c,hTO⟩,⟨o1,e1,r1⟩,⟨o2,e2,r2⟩,⟨o3,e3,r3⟩,⟨p1,f1,q1⟩,⟨p2,f2,q2⟩,⟨p3,f3,q3⟩⟩:=S
 exact ⟨kp z (by simp) _ hz,kp TI (by simp) _ hTI,⟨a,b,c,kp TO (by simp) _ hTO⟩,⟨o1,kp i1 (by simp) _ e1,r1⟩,⟨o2,kp i2 (by simp) _ e2,r2⟩,⟨o3,kp i3 (by simp) _ e3,r3⟩,⟨p1,kp t1 (by simp) _ f1,q1⟩,⟨p2,kp t2 (by simp) _ f2,q2⟩,⟨p3,kp t3 (by simp) _ f3,q3⟩⟩
noncomputable def But (l:List Addr) (h h':Heap):Prop:=∀ b o,b ∉ l->h.get? b=some o->h'.get? b=some o
theorem But.of {b:Addr}{l:List Addr}{h h':Heap} (x:Heap.ExtBut b h h') (hb:b ∈ l):But l h h':=fun c o hc e=>x c o (fun z=>hc (by rw [z]; exact hb)) e
theorem But.trans {l:List Addr}{h h1 h2:Heap} (a:But l h h1) (b:But l h1 h2):But l h h2:=fun c o hc e=>b c o hc (a c o hc e)
theorem af5 {z TI TO i1 i2 i3 t1 t2 t3:Addr}{xs ys zs:Array Value}{k:Nat}{x y v:Value}{Q:Value->SP0} (D:Apart3 z TI TO i1 i2 i3 t1 t2 t3) (S:Zip3 s.heap z TI TO i1 i2 i3 t1 t2 t3 xs ys zs .none k)
  (hx:xs[k]?=some x) (hy:ys[k]?=some y) (hv:zs[k]?=some v)
  (hQ:∀ h',Zip3 h' z TI TO i1 i2 i3 t1 t2 t3 xs ys zs (rawInt s.heap.objs.size) (k+1)->Q4 h' s.heap.objs.size x y v->But [z,TO,i1,i2,i3] s.heap h'->Q (.ref s.heap.objs.size) { s with heap:=h' }):
  wpAny (model prog w) A (Builtin.«zip.__next__» ⟨[.ref z],[]⟩) (fun fin s'=>∃ v,fin= .done (.ret v)/\Q v s') E s:=by
 obtain ⟨hz,hTI,⟨a,b,c,hTO⟩,g1,g2,g3,a1,a2,a3⟩:=S
 obtain ⟨nd,ti,s1,s2,s3⟩:=D
 simp only [List.nodup_cons,List.mem_cons,List.not_mem_nil,or_false,not_or] at nd ti s1 s2 s3
 obtain ⟨⟨n1,n2,n3,n4⟩,⟨n5,n6,n7⟩,⟨n8,n9⟩,n10,_⟩:=nd
 obtain ⟨t1z,t1o,t11,t12,t13⟩:=s1
 obtain ⟨t2z,t2o,t21,t22,t23⟩:=s2
 obtain ⟨t3z,t3o,t31,t32,t33⟩:=s3
 obtain ⟨tiz,tio,ti1,ti2,ti3⟩:=ti
 refine wpAny_bind (m:=field (.ref z) 2) (wpAny_field hz rfl (x:= .bool false) rfl ?_)
 refine wpAny_bind (m:=field (.ref z) 3) (wpAny_field hz rfl (x:= .ref TI) rfl ?_)
 refine wpAny_bind (wpAny_seqItems hTI rfl ?_)
 refine wpAny_bind (m:=Builtin.SmallTypes.ownedTupleIsFree (.ref z)) ?_
 unfold Builtin.SmallTypes.ownedTupleIsFree
 refine wpAny_bind (wpAny_field hz rfl (x:= .none) rfl (wpAny_pure ?_))
 simp only [zzM]
 refine wpAny_bind (wpAny_rule ?_)
 refine wpAny_bind (wpAny_field hz rfl (x:= .ref TO) rfl ?_)
 refine wpAny_bind (wpAny_setField_rec hz (by simp) fun h1 hz1 b1=>?_)
 replace hz1:IsZip h1 z TI TO .ellipsis:=hz1
 refine wpAny_bind ?_
 simp only [List.zipIdx_cons,List.zipIdx_nil,List.forIn_cons,List.forIn_nil]
 refine wpAny_bind (wpAny_bind (wpAny_onRaise ?_))
 refine wpAny_bind (m:=Builtin.SmallTypes.nextOf (.ref i1)) ?_
 refine QU (g1.extBut b1.extBut (Ne.symm n2)) (a1.extBut b1.extBut t1z) hx fun h2 g1' b2=>wpAny_pure ?_
 have o2:Q4 h2 TO a b c:=b2.extBut _ _ n5 (b1.extBut _ _ (Ne.symm n1) hTO)
 refine wpAny_bind (wpAny_seqItems o2 rfl ?_)
 refine wpAny_bind (aaG o2 fun h3 o3 b3=>?_)
 replace o3:Q4 h3 TO x b c:=o3
 refine wpAny_bind (wpAny_letGo (wpAny_pure ?_))
 refine wpAny_bind (wpAny_bind (wpAny_onRaise ?_))
 refine wpAny_bind (m:=Builtin.SmallTypes.nextOf (.ref i2)) ?_
 refine QU (((g2.extBut b1.extBut (Ne.symm n3)).extBut b2.extBut (Ne.symm n8)).extBut b3.extBut (Ne.symm n6)) (((a2.extBut b1.extBut t2z).extBut b2.extBut t21).extBut b3.extBut t2o) hy fun h4 g2' b4=>wpAny_pure ?_
 have o4:Q4 h4 TO x b c:=b4.extBut _ _ n6 o3
 refine wpAny_bind (wpAny_seqItems o4 rfl ?_)
 refine wpAny_bind (aaG o4 fun h5 o5 b5=>?_)
 replace o5:Q4 h5 TO x y c:=o5
 refine wpAny_bind (wpAny_letGo (wpAny_pure ?_))
 refine wpAny_bind (wpAny_bind (wpAny_onRaise ?_))
 refine wpAny_bind (m:=Builtin.SmallTypes.nextOf (.ref i3)) ?_
 refine QU (((((g3.extBut b1.extBut (Ne.symm n4)).extBut b2.extBut (Ne.symm n9)).extBut b3.extBut (Ne.symm n7)).extBut b4.extBut (Ne.symm n10)).extBut b5.extBut (Ne.symm n7))
  (((((a3.extBut b1.extBut t3z).extBut b2.extBut t31).extBut b3.extBut t3o).extBut b4.extBut t32).extBut b5.extBut t3o) hv fun h6 g3' b6=>wpAny_pure ?_
 have o6:Q4 h6 TO x y c:=b6.extBut _ _ n7 o5
 refine wpAny_bind (wpAny_seqItems o6 rfl ?_)
 refine wpAny_bind (aaG o6 fun h7 o7 b7=>?_)
 replace o7:Q4 h7 TO x y v:=o7
 refine wpAny_bind (wpAny_letGo (wpAny_pure (wpAny_pure ?_)))
 refine wpAny_bind (wpAny_seqItems o7 rfl ?_)
 refine wpAny_bind (wpAny_newTuple ?_)
 have sz:h7.objs.size=s.heap.objs.size:=by rw [b7.1,b6.1,b5.1,b4.1,b3.1,b2.1,b1.1]
 have B:But [z,TO,i1,i2,i3] s.heap h7:=
  ((((((But.of b1.extBut (by simp)).trans (But.of b2.extBut (by simp))).trans (But.of b3.extBut (by simp))).trans (But.of b4.extBut (by simp))).trans (But.of b5.extBut (by simp))).trans (But.of b6.extBut (by simp))).trans (But.of b7.extBut (by simp))
 have z7:IsZip h7 z TI TO .ellipsis:=b7.extBut _ _ n1 (b6.extBut _ _ n4 (b5.extBut _ _ n1 (b4.extBut _ _ n3 (b3.extBut _ _ n1 (b2.extBut _ _ n2 hz1)))))
 have i17:h7.IsTupleIter i1 t1 (k+1):=((((g1'.extBut b3.extBut (Ne.symm n5)).extBut b4.extBut n8).extBut b5.extBut (Ne.symm n5)).extBut b6.extBut n9).extBut b7.extBut (Ne.symm n5)
 have i27:h7.IsTupleIter i2 t2 (k+1):=((g2'.extBut b5.extBut (Ne.symm n6)).extBut b6.extBut n10).extBut b7.extBut (Ne.symm n6)
 have i37:h7.IsTupleIter i3 t3 (k+1):=g3'.extBut b7.extBut (Ne.symm n7)
 refine wpAny_bind (m:=Builtin.SmallTypes.ownedTupleHandOut (.ref z) (.ref h7.objs.size)) ?_
 unfold Builtin.SmallTypes.ownedTupleHandOut
 have z8:IsZip (h7.push { cls:= .type "tuple",data:= .seq #[x,y,v] }) z TI TO .ellipsis:=Heap.get?_push_of_some _ z7
 refine wpAny_bind (wpAny_setField_rec z8 (by simp) fun h9 z9 b9=>?_)
 replace z9:IsZip h9 z TI TO (rawInt h7.objs.size):=z9
 refine wpAny_setField_rec z9 (by simp) fun h10 z10 b10=>?_
 replace z10:IsZip h10 z TI TO (rawInt h7.objs.size):=z10
 have up:∀ c o,c ≠ z->h7.get? c=some o->h10.get? c=some o:=fun c o c1 e=>b10.extBut _ _ c1 (b9.extBut _ _ c1 (Heap.get?_push_of_some _ e))
 have zlt:z<h7.objs.size:=Heap.lt_size z7
 have T10:Q4 h10 h7.objs.size x y v:=b10.extBut _ _ (Nat.ne_of_gt zlt) (b9.extBut _ _ (Nat.ne_of_gt zlt) (Heap.get?_push_size _ rfl))
 rw [sz] at z10 T10
 refine wpAny_pure ⟨_,rfl,?_⟩
 show Q (.ref h7.objs.size) _
 rw [sz]
 have itk:∀ {i t:Addr} {m:Nat},i ≠ z->h7.IsTupleIter i t m->h10.IsTupleIter i t m:=fun ne ⟨o,e,r⟩=>⟨o,up _ o ne e,r⟩
 have tuk:∀ {t:Addr} {us:Array Value},t ∉ [z,TO,i1,i2,i3]->s.heap.IsTuple t us->h10.IsTuple t us:=fun ne ⟨o,e,r⟩=>⟨o,up _ o (fun q=>ne (by simp [q])) (B _ o ne e),r⟩
 refine hQ h10 ⟨z10,up _ _ tiz (B _ _ (by simp [tiz,tio,ti1,ti2,ti3]) hTI),⟨x,y,v,up _ _ (Ne.symm n1) o7⟩,itk (Ne.symm n2) i17,itk (Ne.symm n3) i27,itk (Ne.symm n4) i37,
  tuk (by simp [t1z,t1o,t11,t12,t13]) a1,tuk (by simp [t2z,t2o,t21,t22,t23]) a2,tuk (by simp [t3z,t3o,t31,t32,t33]) a3⟩ T10 fun c o hc e=>up c o (fun q=>hc (by simp [q])) (B c o hc e)
theorem ag9 {z TI TO i1 i2 i3 t1 t2 t3:Addr}{xs ys zs:Array Value}{k:Nat}{Q:Fin->SP0} (hh:A.handled=none) (D:Apart3 z TI TO i1 i2 i3 t1 t2 t3) (S:Zip3 s.heap z TI TO i1 i2 i3 t1 t2 t3 xs ys zs .none k) (hx:xs[k]?=none)
  (hE:∀ h' e,But [z,TO,i1,i2,i3] s.heap h'->(∃ o,h'.get? e=some o/\o.cls= .type "StopIteration")->E (.ref e) { s with heap:=h' }):
  wpAny (model prog w) A (Builtin.«zip.__next__» ⟨[.ref z],[]⟩) Q E s:=by
 obtain ⟨hz,hTI,⟨a,b,c,hTO⟩,g1,g2,g3,a1,a2,a3⟩:=S
 obtain ⟨nd,ti,s1,s2,s3⟩:=D
 simp only [List.nodup_cons,List.mem_cons,List.not_mem_nil,or_false,not_or] at nd ti s1 s2 s3
 obtain ⟨⟨n1,n2,n3,n4⟩,⟨n5,n6,n7⟩,⟨n8,n9⟩,n10,_⟩:=nd
 refine wpAny_bind (m:=field (.ref z) 2) (wpAny_field hz rfl (x:= .bool false) rfl ?_)
 refine wpAny_bind (m:=field (.ref z) 3) (wpAny_field hz rfl (x:= .ref TI) rfl ?_)
 refine wpAny_bind (wpAny_seqItems hTI rfl ?_)
 refine wpAny_bind (m:=Builtin.SmallTypes.ownedTupleIsFree (.ref z)) ?_
 unfold Builtin.SmallTypes.ownedTupleIsFree
 refine wpAny_bind (wpAny_field hz rfl (x:= .none) rfl (wpAny_pure ?_))
 simp only [zzM]
 refine wpAny_bind (wpAny_rule ?_)
 refine wpAny_bind (wpAny_field hz rfl (x:= .ref TO) rfl ?_)
 refine wpAny_bind (wpAny_setField_rec hz (by simp) fun h1 hz1 b1=>?_)
 replace hz1:IsZip h1 z TI TO .ellipsis:=hz1
 refine wpAny_bind ?_
 simp only [List.zipIdx_cons,List.zipIdx_nil,List.forIn_cons,List.forIn_nil]
 refine wpAny_bind (wpAny_bind (wpAny_onRaise ?_))
 refine wpAny_bind (m:=Builtin.SmallTypes.nextOf (.ref i1)) ?_
 refine af4 hh (g1.extBut b1.extBut (Ne.symm n2)) (a1.extBut b1.extBut s1.1) hx fun h2 e b2 he=>?_
 obtain ⟨oe,ho,hc⟩:=he
 have z2:IsZip h2 z TI TO .ellipsis:=b2 _ _ n2 hz1
 have ez:e ≠ z:=fun q=>by subst q; rw [z2] at ho; cases ho; simp at hc
 refine wpAny_setField_rec z2 (by simp) fun h3 _ b3=>?_
 exact hE h3 e (((But.of b1.extBut (by simp)).trans (But.of b2 (by simp))).trans (But.of b3.extBut (by simp))) ⟨oe,b3.extBut _ _ ez ho,hc⟩
end
structure ZipC (h:Heap) (z TI TO i1 i2 i3 t1 t2 t3:Addr) (f0:Value) (k:Nat):Prop where
 hz:IsZip h z TI TO f0
 hTI:Q4 h TI (.ref i1) (.ref i2) (.ref i3)
 hTO:∃ a b c,Q4 h TO a b c
 g1:h.IsTupleIter i1 t1 k
 g2:h.IsTupleIter i2 t2 k
 g3:h.IsTupleIter i3 t3 k
theorem ZipC.all {h:Heap}{z TI TO i1 i2 i3 t1 t2 t3:Addr}{f0:Value}{k:Nat} (S:ZipC h z TI TO i1 i2 i3 t1 t2 t3 f0 k) {xs ys zs:Array Value} (a1:h.IsTuple t1 xs) (a2:h.IsTuple t2 ys) (a3:h.IsTuple t3 zs):
  Zip3 h z TI TO i1 i2 i3 t1 t2 t3 xs ys zs f0 k:=⟨S.hz,S.hTI,S.hTO,S.g1,S.g2,S.g3,a1,a2,a3⟩
theorem Zip3.c {h:Heap}{z TI TO i1 i2 i3 t1 t2 t3:Addr}{xs ys zs:Array Value}{f0:Value}{k:Nat} (S:Zip3 h z TI TO i1 i2 i3 t1 t2 t3 xs ys zs f0 k):ZipC h z TI TO i1 i2 i3 t1 t2 t3 f0 k:=⟨S.hz,S.hTI,S.hTO,S.g1,S.g2,S.g3⟩
theorem ZipC.keep {h h':Heap}{z TI TO i1 i2 i3 t1 t2 t3:Addr}{f0:Value}{k:Nat} (S:ZipC h z TI TO i1 i2 i3 t1 t2 t3 f0 k) (kp:∀ b ∈ [z,TI,TO,i1,i2,i3],∀ o,h.get? b=some o->h'.get? b=some o):
  ZipC h' z TI TO i1 i2 i3 t1 t2 t3 f0 k:=by
 obtain ⟨hz,hTI,⟨a,b,c,hTO⟩,⟨o1,e1,r1⟩,⟨o2,e2,r2⟩,⟨o3,e3,r3⟩⟩:=S
 exact ⟨kp z (by simp) _ hz,kp TI (by simp) _ hTI,⟨a,b,c,kp TO (by simp) _ hTO⟩,⟨o1,kp i1 (by simp) _ e1,r1⟩,⟨o2,kp i2 (by simp) _ e2,r2⟩,⟨o3,kp i3 (by simp) _ e3,r3⟩⟩
noncomputable def Itz (K:Fg) (t1 t2 t3:Addr):It:=
 ⟨fun i H=>∃ xs ys zs x y v,SqT K H t1 xs/\SqT K H t2 ys/\SqT K H t3 zs/\xs[i]?=some x/\ys[i]?=some y/\zs[i]?=some v,
  fun i H u H'=>∃ p x y v,u= .ref p/\H p=none/\H'=upd H p (.tup [x,y,v])/\∀ xs ys zs,SqT K H t1 xs->SqT K H t2 ys->SqT K H t3 zs->xs[i]?=some x/\ys[i]?=some y/\zs[i]?=some v,
  fun i H=>∃ xs ys zs,SqT K H t1 xs/\SqT K H t2 ys/\SqT K H t3 zs/\xs.length<=i⟩
theorem aha {P:Program}{w:World}{K:Fg}{elts:List Expr}{x1:Nat}{pos:Pos}{z TI TO i1 i2 i3 t1 t2 t3:Addr} (nd:[z,TO,i1,i2,i3].Nodup) (ti:TI ∉ [z,TO,i1,i2,i3]):
  Turn P w K (.Tuple elts x1 pos) (Itz K t1 t2 t3) [z,TI,TO,i1,i2,i3] z (fun i h=>ZipC h z TI TO i1 i2 i3 t1 t2 t3 .none i) where
 mem:=by simp
 obj:=fun i h st b hb=>by
  obtain ⟨hz,hTI,⟨a,b',c,hTO⟩,⟨o1,e1,_,d1⟩,⟨o2,e2,_,d2⟩,⟨o3,e3,_,d3⟩⟩:=st
  simp only [List.mem_cons,List.not_mem_nil,or_false] at hb
  rcases hb with rfl | rfl | rfl | rfl | rfl | rfl
  ·exact ⟨_,hz,fun v q=>by cases q⟩
  ·exact ⟨_,hTI,fun v q=>by cases q⟩
  ·exact ⟨_,hTO,fun v q=>by cases q⟩
  ·exact ⟨o1,e1,fun v q=>by rw [d1] at q; cases q⟩
  ·exact ⟨o2,e2,fun v q=>by rw [d2] at q; cases q⟩
  ·exact ⟨o3,e3,fun v q=>by rw [d3] at q; cases q⟩
 keep:=fun i h h' st k=>st.keep k
 item:=by
  intro X hP hw hK hc i Kp s σ H E I hf st hg
  subst hP hw hK
  obtain ⟨xs,ys,zs,x,y,v,q1,q2,q3,ex,ey,ev⟩:=hg
  obtain ⟨us1,r1,p1,z1⟩:=I.tuple q1
  obtain ⟨us2,r2,p2,z2⟩:=I.tuple q2
  obtain ⟨us3,r3,p3,z3⟩:=I.tuple q3
  obtain ⟨u1,m1,l1⟩:=r1.get ex
  obtain ⟨u2,m2,l2⟩:=r2.get ey
  obtain ⟨u3,m3,l3⟩:=r3.get ev
  have trk:∀ {t:Addr} {ws:List V},SqT X.K H t ws->t ∉ [z,TO,i1,i2,i3]:=fun {t ws} hq hb=>by
   have hb':t ∈ [z,TI,TO,i1,i2,i3]:=by
    simp only [List.mem_cons,List.not_mem_nil,or_false] at hb ⊢
    rcases hb with e | e | e | e | e <;> simp [e]
   rcases hq with (e | ⟨o,e⟩) | ⟨o,its,n,hk,hcl,hs,_,_⟩
   ·have:=(hf t hb').1; rw [e] at this; cases this
   ·have:=(hf t hb').1; rw [e] at this; cases this
   ·-- an object of the module is no iterator of ours
    obtain ⟨f0,f1,f2,f3,f4,f5⟩:=hf t hb'
    have hbase:=I.mod.kin t o hk
    rcases f3 with q | q
    ·exact I.ok.noex t o hbase q
    ·exact absurd (Nat.lt_of_lt_of_le (Heap.lt_size hbase) (Nat.le_trans I.ok.bsz q)) (Nat.lt_irrefl _)
  have D:Apart3 z TI TO i1 i2 i3 t1 t2 t3:=⟨nd,ti,trk q1,trk q2,trk q3⟩
  have S:=st.all (xs:=us1.toArray) (ys:=us2.toArray) (zs:=us3.toArray) p1 p2 p3
  have hT:s.TypeIs (.ref z) "zip":=⟨_,st.hz,rfl⟩
  unfold pyNext
  refine wpAny_bind (wpAny_attempt (wpAny_callSpecial?_slot (name:=Str.ofString "__next__") hT F.slot_zip_next
   (wpAny_call_entry F.slot_zip_next hT F.entry_zip_next (af5 D S (by simpa using m1) (by simpa using m2) (by simpa using m3) fun h1 S1 T1 B1=>wpAny_pure ?_)
    (F.args_zip_next_1 _))))
  refine ⟨_,rfl,?_⟩
  refine wpAny_letOwnedTupleGo_zip (s:={ s with heap:=h1 }) S1.hz fun h2 z2' b2=>?_
  have nT:H s.heap.objs.size=none:=I.hok.fresh (Nat.le_refl _)
  have zlt:z<s.heap.objs.size:=Heap.lt_size st.hz
  have T2:Q4 h2 s.heap.objs.size u1 u2 u3:=b2.extBut _ _ (Nat.ne_of_gt zlt) T1
  have B2:But [z,TO,i1,i2,i3] s.heap h2:=B1.trans (But.of b2.extBut (by simp))
  have inF:∀ b ∈ [z,TO,i1,i2,i3],b ∈ [z,TI,TO,i1,i2,i3]:=fun b hb=>by
   simp only [List.mem_cons,List.not_mem_nil,or_false] at hb ⊢
   rcases hb with e | e | e | e | e <;> simp [e]
  have ntr:∀ b u,H b=some u->b ∉ [z,TO,i1,i2,i3]:=fun b u e hb=>by
   have:=(hf b (inF b hb)).1
   rw [e] at this; cases this
  have neT:∀ b u,H b=some u->b ≠ s.heap.objs.size:=fun b u e q=>by rw [q,nT] at e; cases e
  have hok2:HOk X.prog X.w (upd H s.heap.objs.size (.tup [x,y,v])) h2:=fun b u e=>by
   by_cases hb:b=s.heap.objs.size
   ·subst hb
    rw [jr] at e
    cases e
    exact ⟨by show 3<=sizeLine; rw [sizeLine_eq]; decide,[u1,u2,u3],.cons l1 (.cons l2 (.cons l3 .nil)),⟨_,T2,rfl,_,rfl⟩⟩
   ·rw [jm hb] at e
    refine (I.hok b u e).stay (fun c o hc' q=>B2 c o ?_ q) (fun c q=>by rw [jm (neT c _ q)]; exact q) fun c ws q=>by rw [jm (neT c _ q)]; exact q
    rcases hc' with q' | q'
    ·rw [q']; exact ntr b u e
    ·exact ntr c _ q'
  have I2:Inv X Kp σ (upd H s.heap.objs.size (.tup [x,y,v])) { s with heap:=h2,toks:=s.toks }:=by
   refine I.step (g':=s.gens) (d':=s.drawn) (ch:=[z,TO,i1,i2,i3]) (fun b hb=>?_) (fun b o _ _ hb e _=>B2 b o hb e) (fun b o _ _ hb e _=>⟨o.slots,B2 b o hb e⟩) (fun b o hb e n=>?_) (fun b o hb e=>⟨o,B2 b o hb e⟩)
    (fun b ws e=>by rw [jm (neT b _ e)]; exact e) (fun b ob ws e=>by rw [jm (neT b _ e)]; exact e) (fun b ps e=>⟨#[],by rw [jm (neT b _ e),e]; simp⟩) (fun m hm=>?_) hok2 I.bare
   ·obtain ⟨f0,f1,f2,f3,f4,f5⟩:=hf b (inF b hb)
    exact ⟨f3,f1,f4,f5⟩
   ·rw [jm (Nat.ne_of_lt (Heap.lt_size e))]; exact n
   ·obtain ⟨o,es,ep,ho,r⟩:=hm
    refine ⟨o,es,ep,B2 _ o (fun hb=>?_) ho,r⟩
    exact (hf _ (inF _ hb)).2.1 rfl
  refine ⟨.ref s.heap.objs.size,_,I2,rfl,⟨_,x,y,v,rfl,nT,rfl,fun as bs cs g1 g2 g3=>?_⟩,?_,fun b hb=>?_⟩
  ·rw [I.tuple_inj g1 q1,I.tuple_inj g2 q2,I.tuple_inj g3 q3]
   exact ⟨ex,ey,ev⟩
  ·have c1:=S1.c
   obtain ⟨_,hTI,⟨a,b,c,hTO⟩,⟨o1,e1,w1⟩,⟨o2,e2,w2⟩,⟨o3,e3,w3⟩⟩:=c1
   simp only [List.nodup_cons,List.mem_cons,List.not_mem_nil,or_false,not_or] at nd ti
   obtain ⟨⟨n1,n2,n3,n4⟩,_⟩:=nd
   exact ⟨z2',b2.extBut _ _ ti.1 hTI,⟨a,b,c,b2.extBut _ _ (Ne.symm n1) hTO⟩,⟨o1,b2.extBut _ _ (Ne.symm n2) e1,w1⟩,⟨o2,b2.extBut _ _ (Ne.symm n3) e2,w2⟩,⟨o3,b2.extBut _ _ (Ne.symm n4) e3,w3⟩⟩
  ·obtain ⟨o,ho,_⟩:∃ o,s.heap.get? b=some o/\True:=by
    obtain ⟨hz,hTI,⟨a,b',c,hTO⟩,⟨o1,e1,_⟩,⟨o2,e2,_⟩,⟨o3,e3,_⟩⟩:=st
    simp only [List.mem_cons,List.not_mem_nil,or_false] at hb
    rcases hb with rfl | rfl | rfl | rfl | rfl | rfl
    ·exact ⟨_,hz,trivial⟩
    ·exact ⟨_,hTI,trivial⟩
    ·exact ⟨_,hTO,trivial⟩
    ·exact ⟨_,e1,trivial⟩
    ·exact ⟨_,e2,trivial⟩
    ·exact ⟨_,e3,trivial⟩
   rw [jm (Nat.ne_of_lt (Heap.lt_size ho))]
   exact (hf b hb).1
 done:=by
  intro X hP hw hK hc i Kp s σ H E I hf st hg
  subst hP hw hK
  obtain ⟨xs,ys,zs,q1,q2,q3,hl⟩:=hg
  obtain ⟨us1,r1,p1,z1⟩:=I.tuple q1
  obtain ⟨us2,r2,p2,z2⟩:=I.tuple q2
  obtain ⟨us3,r3,p3,z3⟩:=I.tuple q3
  have trk:∀ {t:Addr} {ws:List V},SqT X.K H t ws->t ∉ [z,TO,i1,i2,i3]:=fun {t ws} hq hb=>by
   have hb':t ∈ [z,TI,TO,i1,i2,i3]:=by
    simp only [List.mem_cons,List.not_mem_nil,or_false] at hb ⊢
    rcases hb with e | e | e | e | e <;> simp [e]
   rcases hq with (e | ⟨o,e⟩) | ⟨o,its,n,hk,hcl,hs,_,_⟩
   ·have:=(hf t hb').1; rw [e] at this; cases this
   ·have:=(hf t hb').1; rw [e] at this; cases this
   ·obtain ⟨f0,f1,f2,f3,f4,f5⟩:=hf t hb'
    have hbase:=I.mod.kin t o hk
    rcases f3 with q | q
    ·exact I.ok.noex t o hbase q
    ·exact absurd (Nat.lt_of_lt_of_le (Heap.lt_size hbase) (Nat.le_trans I.ok.bsz q)) (Nat.lt_irrefl _)
  have D:Apart3 z TI TO i1 i2 i3 t1 t2 t3:=⟨nd,ti,trk q1,trk q2,trk q3⟩
  have S:=st.all (xs:=us1.toArray) (ys:=us2.toArray) (zs:=us3.toArray) p1 p2 p3
  have hT:s.TypeIs (.ref z) "zip":=⟨_,st.hz,rfl⟩
  have hlen:=r1.length
  unfold pyNext
  refine wpAny_bind (wpAny_attempt (wpAny_callSpecial?_slot (name:=Str.ofString "__next__") hT F.slot_zip_next
   (wpAny_call_entry F.slot_zip_next hT F.entry_zip_next (ag9 (I.ok.hd hc) D S (by simp; omega) fun h1 e B1 he=>?_)
    (F.args_zip_next_1 _))))
  obtain ⟨o,ho,hcl⟩:=he
  refine wpAny_bind (wpAny_isInstance (T:="StopIteration") (b:=true) ⟨o,ho,hcl⟩ isSubtype_stop ?_)
  refine wpAny_pure ⟨rfl,?_⟩
  have inF:∀ b ∈ [z,TO,i1,i2,i3],b ∈ [z,TI,TO,i1,i2,i3]:=fun b hb=>by
   simp only [List.mem_cons,List.not_mem_nil,or_false] at hb ⊢
   rcases hb with e | e | e | e | e <;> simp [e]
  have ntr:∀ b u,H b=some u->b ∉ [z,TO,i1,i2,i3]:=fun b u e hb=>by
   have:=(hf b (inF b hb)).1
   rw [e] at this; cases this
  refine I.step (t':=s.toks) (g':=s.gens) (d':=s.drawn) (ch:=[z,TO,i1,i2,i3]) (fun b hb=>?_) (fun b o _ _ hb e _=>B1 b o hb e) (fun b o _ _ hb e _=>⟨o.slots,B1 b o hb e⟩) (fun b o hb e n=>n) (fun b o hb e=>⟨o,B1 b o hb e⟩)
   (fun b ws e=>e) (fun b ob ws e=>e) (fun b ps e=>⟨#[],by rw [e]; simp⟩) (fun m hm=>?_) (fun b u e=>?_) I.bare
  ·obtain ⟨f0,f1,f2,f3,f4,f5⟩:=hf b (inF b hb)
   exact ⟨f3,f1,f4,f5⟩
  ·obtain ⟨o,es,ep,ho,r⟩:=hm
   refine ⟨o,es,ep,B1 _ o (fun hb=>?_) ho,r⟩
   exact (hf _ (inF _ hb)).2.1 rfl
  ·refine (I.hok b u e).stay (fun c o hc' q=>B1 c o ?_ q) (fun c q=>q) fun c ws q=>q
   rcases hc' with q' | q'
   ·rw [q']; exact ntr b u e
   ·exact ntr c _ q'
 self:=fun _ _ _ _ _ st h=>wpAny_pyIter_zip st.hz h
theorem abh (a b c:Value):checkTypeCall "zip" ⟨[a,b,c],[]⟩=pure ():=by kernel_rfl
theorem acn (a b c:Value):checkBuiltinCall "zip.__new__" ⟨[.type "zip",a,b,c],[]⟩=pure ():=by kernel_rfl
theorem aee (a b c d:Value):argsOk "object.__init__" ⟨[a,b,c,d],[]⟩:=by
 unfold argsOk
 rw [signature?_of (id:="object.__init__") (n:=['_','_','t','i','n','i','_','_'])
  (o:=['t','c','e','j','b','o']) (by kernel_rfl) F.owner_object]
 kernel_rfl
noncomputable abbrev akM (t:Addr):Obj:={ cls:= .type "tuple_iterator",data:= .fields #[.ref t,.int 0 0] }
noncomputable abbrev zh1 (h:Heap) (a:Addr):Heap:=h.push (akM a)
noncomputable abbrev zh2 (h:Heap) (a b:Addr):Heap:=(zh1 h a).push (akM b)
noncomputable abbrev zh3 (h:Heap) (a b c:Addr):Heap:=(zh2 h a b).push (akM c)
noncomputable abbrev zh4 (h:Heap) (a b c:Addr):Heap:=(zh3 h a b c).push { cls:= .type "tuple",data:= .seq #[.ref h.objs.size,.ref (zh1 h a).objs.size,.ref (zh2 h a b).objs.size] }
noncomputable abbrev zh5 (h:Heap) (a b c:Addr):Heap:=(zh4 h a b c).push { cls:= .type "tuple",data:= .seq #[.none,.none,.none] }
noncomputable abbrev zh6 (h:Heap) (a b c:Addr):Heap:=(zh5 h a b c).push { cls:= .type "zip",data:= .fields #[.none,.bool false,.bool false,.ref (zh3 h a b c).objs.size,.ref (zh4 h a b c).objs.size] }
theorem ahb (a b c:Addr) (xs ys zs:Array Value):
  Meets (Builtin.«zip.__new__» ⟨[.type "zip",.ref a,.ref b,.ref c],[]⟩) (fun _ R s=>s.heap.IsTuple a xs/\s.heap.IsTuple b ys/\s.heap.IsTuple c zs/\
   R (.ok (.ret (.ref (zh5 s.heap a b c).objs.size))) { s with heap:=zh6 s.heap a b c }):=
 .of_wp fun prog w A R s h=>by
  obtain ⟨hp,g,d,tk,os⟩:=s
  obtain ⟨h1,h2,h3,h⟩:=h
  have hsub:=sub_zip
  have k1:Heap.IsTuple (Shared.heap ⟨hp,g,d,tk,os⟩) a xs:=h1
  have k2:Heap.IsTuple (Shared.heap ⟨zh1 hp a,g,d,tk,os⟩) b ys:=Heap.IsTuple.push h2 _
  have k3:Heap.IsTuple (Shared.heap ⟨zh2 hp a b,g,d,tk,os⟩) c zs:=Heap.IsTuple.push (Heap.IsTuple.push h3 _) _
  wp_walk using wpAny_pyIter_tuple k1,wpAny_pyIter_tuple k2,wpAny_pyIter_tuple k3
  exact ⟨_,rfl,h⟩
section
variable {X:Cx}
noncomputable def ame (K:Fg) (ta:TA):TI:=fun σ H R=>ta σ H fun vs H1=>∃ a b c xs ys zs,vs=[.ref a,.ref b,.ref c]/\SqT K H1 a xs/\SqT K H1 b ys/\SqT K H1 c zs/\R (Itz K a b c) H1
theorem ai4 {ea eb ec:Expr}{elts:List Expr}{x1:Nat}{tp:Pos}{ta:TA}{p pos:Pos} (hg:Gl X "zip") (hm:X.mg "zip"=none) (ha:PA X [ea,eb,ec] ta)
  (hs:starEach [ea,eb,ec] X.env=[(false,eval ea X.env),(false,eval eb X.env),(false,eval ec X.env)]:=by rfl) (hs2:starEach [eb,ec] X.env=[(false,eval eb X.env),(false,eval ec X.env)]:=by rfl):
  PI X (.Tuple elts x1 tp) (.Call (.Name "zip" p) [ea,eb,ec] [] pos) (ame X.K ta):=by
 intro Kp s σ H R I h
 refine Call_ (aav I hg hm boot_zip (PyProof.Rows.callWith_type1 (thn (ha pos Kp s σ H _ I h) fun us s1 ⟨vs,H1,I1,r1,q1⟩=>?_) (by rw [hs,hs2]) (by rw [hs2]; rfl)))
 obtain ⟨a,b,c,xs,ys,zs,e,q1,q2,q3,q⟩:=q1
 subst e
 cases r1 with
 | cons r1 rr=>
  cases rr with
  | cons r2 rr=>
   cases rr with
   | cons r3 rr=>
    cases rr
    cases r1; cases r2; cases r3
    obtain ⟨us1,v1,p1,z1⟩:=I1.tuple q1
    obtain ⟨us2,v2,p2,z2⟩:=I1.tuple q2
    obtain ⟨us3,v3,p3,z3⟩:=I1.tuple q3
    refine callType_new F.called_zip (by decide) (abh _ _ _) (acn _ _ _) (fun obj=>aee obj _ _ _) F.entry_zip_new
     (ahb a b c us1.toArray us2.toArray us3.toArray) ⟨p1,p2,p3,?_⟩
    have n1:(zh1 s1.heap a).objs.size=s1.heap.objs.size+1:=Heap.size_push ..
    have n2:(zh2 s1.heap a b).objs.size=s1.heap.objs.size+2:=by rw [Heap.size_push,n1]
    have n3:(zh3 s1.heap a b c).objs.size=s1.heap.objs.size+3:=by rw [Heap.size_push,n2]
    have n4:(zh4 s1.heap a b c).objs.size=s1.heap.objs.size+4:=by rw [Heap.size_push,n3]
    have n5:(zh5 s1.heap a b c).objs.size=s1.heap.objs.size+5:=by rw [Heap.size_push,n4]
    have g6:(zh6 s1.heap a b c).get? (zh5 s1.heap a b c).objs.size=some _:=Heap.get?_push_size _ rfl
    have g5:(zh6 s1.heap a b c).get? (zh4 s1.heap a b c).objs.size=some _:=Heap.get?_push_of_some _ (Heap.get?_push_size _ rfl)
    have g4:(zh6 s1.heap a b c).get? (zh3 s1.heap a b c).objs.size=some _:=Heap.get?_push_of_some _ (Heap.get?_push_of_some _ (Heap.get?_push_size _ rfl))
    have up3:∀ x o,(zh3 s1.heap a b c).get? x=some o->(zh6 s1.heap a b c).get? x=some o:=fun x o e=>Heap.get?_push_of_some _ (Heap.get?_push_of_some _ (Heap.get?_push_of_some _ e))
    have g3:(zh6 s1.heap a b c).get? (zh2 s1.heap a b).objs.size=some _:=up3 _ _ (Heap.get?_push_size _ rfl)
    have g2:(zh6 s1.heap a b c).get? (zh1 s1.heap a).objs.size=some _:=up3 _ _ (Heap.get?_push_of_some _ (Heap.get?_push_size _ rfl))
    have g1:(zh6 s1.heap a b c).get? s1.heap.objs.size=some _:=up3 _ _ (Heap.get?_push_of_some _ (Heap.get?_push_of_some _ (Heap.get?_push_size _ rfl)))
    have kp:∀ x o,s1.heap.get? x=some o->(zh6 s1.heap a b c).get? x=some o:=fun x o e=>up3 _ _ (Heap.get?_push_of_some _ (Heap.get?_push_of_some _ (Heap.get?_push_of_some _ e)))
    show _/\_
    refine ⟨⟨_,g6,rfl⟩,?_⟩
    refine wpAny_pyIter_zip g6 ?_
    have I2:Inv X Kp σ H1 { s1 with heap:=zh6 s1.heap a b c }:=I1.kept (t':=s1.toks) kp
    refine ⟨_,[(zh5 s1.heap a b c).objs.size,(zh3 s1.heap a b c).objs.size,(zh4 s1.heap a b c).objs.size,s1.heap.objs.size,(zh1 s1.heap a).objs.size,(zh2 s1.heap a b).objs.size],
     _,_,H1,rfl,I2,aha (z:=(zh5 s1.heap a b c).objs.size) (TI:=(zh3 s1.heap a b c).objs.size) (TO:=(zh4 s1.heap a b c).objs.size) (i1:=s1.heap.objs.size) (i2:=(zh1 s1.heap a).objs.size) (i3:=(zh2 s1.heap a b).objs.size) (t1:=a) (t2:=b) (t3:=c) ?_ ?_,
     ⟨g6,g4,⟨_,_,_,g5⟩,⟨_,g1,rfl,rfl⟩,⟨_,g2,rfl,rfl⟩,⟨_,g3,rfl,rfl⟩⟩,fun x hx=>?_,q⟩
    ·rw [n5,n4,n1,n2]
     simp [List.nodup_cons]
    ·rw [n3,n5,n4,n1,n2]
     simp
    ·have hle:s1.heap.objs.size<=x:=by
      rw [n5,n3,n4,n1,n2] at hx
      simp only [List.mem_cons,List.not_mem_nil,or_false] at hx
      rcases hx with e | e | e | e | e | e <;> rw [e] <;> first | exact Nat.le_refl _ | exact Nat.le_add_right _ _
     exact I1.fpOk hle (I1.hok.fresh hle)
noncomputable def J1:LP->LP->LP->LP
 | x::xs,y::ys,z::zs=> .tuple [x,y,z]::J1 xs ys zs
 | _,_,_=>[]
noncomputable def ae5 (ds:LP):Option (LP):=match ds with
 | [.tuple xs,.tuple ys,.tuple zs]=>if xs.length=ys.length/\ys.length=zs.length then some (J1 xs ys zs) else none
 | _=>none
theorem abB:∀ (xs ys zs:LP),xs.length=ys.length->ys.length=zs.length->(J1 xs ys zs).length=xs.length
 | [],_,_,_,_=>by simp [J1]
 | x::xs,[],_,h,_=>by simp at h
 | x::xs,y::ys,[],_,h=>by simp at h
 | x::xs,y::ys,z::zs,h,g=>by simp [J1,abB xs ys zs (by simpa using h) (by simpa using g)]
theorem abC:∀ (xs ys zs:LP) (i:Nat) (d:PyData),(J1 xs ys zs)[i]?=some d->∃ x y z,xs[i]?=some x/\ys[i]?=some y/\zs[i]?=some z/\d= .tuple [x,y,z]
 | [],_,_,i,d,h=>by simp [J1] at h
 | x::xs,[],_,i,d,h=>by simp [J1] at h
 | x::xs,y::ys,[],i,d,h=>by simp [J1] at h
 | x::xs,y::ys,z::zs,0,d,h=>by simp [J1] at h; exact ⟨x,y,z,rfl,rfl,rfl,h.symm⟩
 | x::xs,y::ys,z::zs,i+1,d,h=>by
  obtain ⟨a,b,c,e1,e2,e3,e4⟩:=abC xs ys zs i d (by simpa [J1] using h)
  exact ⟨a,b,c,by simpa using e1,by simpa using e2,by simpa using e3,e4⟩
theorem ahc {ea eb ec:Expr}{elts:List Expr}{x1:Nat}{tp:Pos}{p pos:Pos}{fr:Rho->Option (LP)} (hm:X.mg "zip"=none) (ha:PAD X [ea,eb,ec] fr) (hg:Gl X "zip":=by rfl)
  (hs:starEach [ea,eb,ec] X.env=[(false,eval ea X.env),(false,eval eb X.env),(false,eval ec X.env)]:=by rfl) (hs2:starEach [eb,ec] X.env=[(false,eval eb X.env),(false,eval ec X.env)]:=by rfl):
  PID X (.Tuple elts x1 tp) (.Call (.Name "zip" p) [ea,eb,ec] [] pos) (fun ρ=>(fr ρ).bind ae5):=by
 with_unfolding_all
  refine PI.imp (ai4 hg hm ha hs hs2) fun σ H R ⟨ρ,ds,en,q,k⟩=>?_
  cases h1:fr ρ with
  | none=>simp [h1] at q
  | some as=>
   have q':ae5 as=some ds:=by simpa [h1] using q
   refine ⟨ρ,as,en,h1,fun vs H1 s1 r1=>?_⟩
   unfold ae5 at q'
   split at q'
   ·rename_i xs ys zs
    split at q'
    ·rename_i hl
     cases q'
     obtain ⟨v1,w1,e1,⟨a,us1,ea',qa,ra⟩,v2,w2,e2,⟨b,us2,eb',qb,rb⟩,v3,w3,e3,⟨c,us3,ec',qc,rc⟩,e4⟩:=r1
     cases (show w3=[] from e4)
     subst ea'; subst eb'; subst ec'; subst e3; subst e2
     have l1:=ra.length
     have l2:=rb.length
     have l3:=rc.length
     have lz:=abB xs ys zs hl.1 hl.2
     refine ⟨a,b,c,us1,us2,us3,e1,qa,qb,qc,k _ H1 s1 fun i H2 s2=>⟨fun hi=>?_,fun hi=>?_,fun u H3 y=>?_⟩⟩
     ·rw [lz] at hi
      exact ⟨us1,us2,us3,us1[i]'(by omega),us2[i]'(by omega),us3[i]'(by omega),jB.tup s2 qa,jB.tup s2 qb,jB.tup s2 qc,by simp <;> omega,by simp <;> omega,by simp <;> omega⟩
     ·rw [lz] at hi
      exact ⟨us1,us2,us3,jB.tup s2 qa,jB.tup s2 qb,jB.tup s2 qc,by omega⟩
     ·obtain ⟨pp,x,y,v,e5,e6,e7,e8⟩:=y
      subst e5; subst e7
      refine ⟨jA e6,fun d hd=>?_⟩
      obtain ⟨dx,dy,dz,g1,g2,g3,g4⟩:=abC xs ys zs i d hd
      subst g4
      obtain ⟨f1,f2,f3⟩:=e8 us1 us2 us3 (jB.tup s2 qa) (jB.tup s2 qb) (jB.tup s2 qc)
      have m:=s2.trans (jj.a (jA (o:= .tup [x,y,v]) e6))
      obtain ⟨x',a1,a2⟩:=(Reps.monoA m _ _ ra).get g1
      obtain ⟨y',b1,b2⟩:=(Reps.monoA m _ _ rb).get g2
      obtain ⟨z',c1,c2⟩:=(Reps.monoA m _ _ rc).get g3
      rw [f1] at a1; cases a1
      rw [f2] at b1; cases b1
      rw [f3] at c1; cases c1
      exact ⟨pp,[x,y,v],rfl,SqT.of jr,x,_,rfl,a2,y,_,rfl,b2,v,_,rfl,c2,rfl⟩
    ·cases q'
   ·cases q'
noncomputable def tyn:PyData->String
 | .none=>"NoneType"
 | .bool _=>"bool"
 | .int _=>"int"
 | .str _=>"str"
 | .tuple _=>"tuple"
 | .list _=>"list"
 | .dict kvs=>if zk kvs then "list" else "dict"
noncomputable def isFn:PyData->Bool
 | .dict [(.str _,_)]=>true
 | .dict [(.bool _,_)]=>true
 | _=>false
noncomputable def J9 (T:String) (d:PyData):OP:=if isFn d=true then none else some (.bool (tyn d == T || (T == "int" && tyn d == "bool")))
theorem ahd {Kp:List (Addr × Obj)}{σ:St}{H:Hp}{s:Shared}{E:Value->SP0}{Q:Value->SP0}{d:PyData}{v:V}{u c:Value}{b:Bool} (I:Inv X Kp σ H s) (r:Rep X.K H d v) (hF:isFn d=false) (rv:jL v u)
  (e:PySem.W.kitOne X.K (.type (tyn d)) c=some b) (h:∀ tk,Q (.bool b) { s with toks:=tk }):wpAny (model X.prog X.w) X.A (call (.builtin "isinstance") [u,c]) Q E s:=by
 cases d with
 | none=>cases r; cases rv; exact PySem.W.kia_one PySem.W.kitx_none I.kIn True.intro e (fun z=>nomatch z) h
 | bool y=>cases r; cases rv; exact PySem.W.kia_one PySem.W.kitx_bool I.kIn True.intro e (fun z=>nomatch z) h
 | int i=>cases r; obtain ⟨t,rfl⟩:=rv; exact PySem.W.kia_one PySem.W.kitx_int I.kIn True.intro e (fun z=>nomatch z) h
 | str y=>cases r; obtain ⟨t,rfl⟩:=rv; exact PySem.W.kia_one PySem.W.kitx_str I.kIn True.intro e (fun z=>nomatch z) h
 | tuple ds=>
  obtain ⟨a,xs,e1,e2,e3⟩:=r
  subst e1; cases rv
  obtain ⟨its,_,⟨o,h1,h2,_⟩,_⟩:=I.tuple e2
  exact PySem.W.kia_one PySem.W.kitx_tuple I.kIn ⟨o,h1,h2⟩ e (fun z=>nomatch z) h
 | list ds=>
  obtain ⟨a,xs,e1,e2,e3⟩:=r
  subst e1; cases rv
  obtain ⟨its,_,⟨o,n,h1,h2,_⟩,_⟩:=I.list (SqL.of e2)
  exact PySem.W.kia_one PySem.W.kitx_list I.kIn ⟨o,h1,h2⟩ e (fun z=>nomatch z) h
 | dict ds=>
  obtain ⟨a,e1,⟨ns,e2,e3⟩ | ⟨ks,ob,e2,e3⟩ | ⟨x,e2,_⟩ | ⟨x,_,_,e2,_⟩ | e2⟩:=r
  ·subst e1; cases rv
   subst e3
   have e:PySem.W.kitOne X.K (.type "list") c=some b:=by simpa [tyn,abz] using e
   obtain ⟨its,_,⟨o,n,h1,h2,_⟩,_⟩:=I.list e2
   exact PySem.W.kia_one PySem.W.kitx_list I.kIn ⟨o,h1,h2⟩ e (fun z=>nomatch z) h
  ·subst e1; cases rv
   obtain ⟨cc,rr,rfl,e4⟩:=e3.out
   have e:PySem.W.kitOne X.K (.type "dict") c=some b:=by simpa [tyn,zk] using e
   obtain ⟨_,_,vs,_,dd⟩:=ac3 I.hok (.inr ⟨ob,e2⟩)
   obtain ⟨o,es,ep,h1,h2,_⟩:=dd
   exact PySem.W.kia_one PySem.W.kitx_dict I.kIn ⟨o,h1,h2.1⟩ e (fun z=>nomatch z) h
  ·subst e2; simp [isFn] at hF
  ·subst e2; simp [isFn] at hF
  ·subst e2; simp [isFn] at hF
noncomputable def am7 (K:Fg) (T:String):List V->Hp->VK->Prop:=fun xs H Q=>∃ x d b,xs=[x,.ty T]/\Rep K H d x/\isFn d=false/\PySem.W.kitOne K (.type (tyn d)) (.type T)=some b/\Q (.bl b) H
theorem ada {T:String}:zL X (.builtin "isinstance") (am7 X.K T):=by
 intro Kp s σ H xs us Q I r ⟨x,d,b,e,h1,hF,h2,q⟩
 subst e
 obtain ⟨u,w',rfl,r1,r2⟩:=aeT r
 cases (show w'=_ from r2)
 exact ahd I h1 hF r1 h2 fun tk=>⟨.bl b,H,I.tok tk,rfl,q⟩
noncomputable def zQ (T:String) (d:PyData):Bool:=tyn d == T || (T == "int" && tyn d == "bool")
@[simp] theorem alw (T:String):J9 T .none=some (.bool (zQ T .none)):=rfl
@[simp] theorem alx (T:String) (b:Bool):J9 T (.bool b)=some (.bool (zQ T (.bool b))):=rfl
@[simp] theorem amf (T:String) (i:Int):J9 T (.int i)=some (.bool (zQ T (.int i))):=rfl
@[simp] theorem amg (T:String) (x:Str):J9 T (.str x)=some (.bool (zQ T (.str x))):=rfl
@[simp] theorem akN (T:String) (ds:LP):J9 T (.tuple ds)=some (.bool (zQ T (.tuple ds))):=rfl
@[simp] theorem aly (T:String) (ds:LP):J9 T (.list ds)=some (.bool (zQ T (.list ds))):=rfl
theorem adb {T:String}{d e:PyData} (h:J9 T d=some e):isFn d=false/\e= .bool (zQ T d):=by
 unfold J9 at h
 split at h
 ·cases h
 ·rename_i hf; cases h; exact ⟨by simpa using hf,rfl⟩
theorem ai5 {K:Fg}{T:String} (hT:T="bool" ∨ T="int" ∨ T="tuple") (d:PyData):PySem.W.kitOne K (.type (tyn d)) (.type T)=some (zQ T d):=by
 rcases hT with rfl | rfl | rfl <;> cases d <;> first | rfl | (rename_i kvs; by_cases h:zk kvs=true <;> simp only [tyn,zQ,h] <;> rfl)
theorem aaH {a:Expr}{fa:RP}{T:Str}{Tn:String}{p p2 pos:Pos} (hT:Tn="bool" ∨ Tn="int" ∨ Tn="tuple") (hm1:X.mg "isinstance"=none) (hm2:X.mg T=none) (hv:bootBuiltins T=some (.type Tn)) (ha:PD X a fa)
  (hg1:Gl X "isinstance":=by rfl) (hg2:Gl X T:=by rfl) (hn:T ≠ "__name__":=by decide) (hd:(T == ("__debug__":Str))=false:=by decide)
  (he:starEach [a,.Name T p2] X.env=[(false,eval a X.env),(false,eval (.Name T p2) X.env)]:=by rfl) (he2:starEach [.Name T p2] X.env=[(false,eval (.Name T p2) X.env)]:=by rfl) (hpl:(backTo pos (starEach [.Name T p2] X.env)).any (·.1)=false:=by rfl):
  PD X (.Call (.Name "isinstance" p) [a,.Name T p2] [] pos) (fun ρ=>(fa ρ).bind fun d=>J9 Tn d):=by
 with_unfolding_all
  have hT2:PE X (.Name T p2) (tC (.ty Tn)):=ab4 hg2 hm2 hv rfl hn hd
  refine PE.imp (JX (ada (T:=Tn)) hg1 hm1 (by decide +kernel) (qr ha (qr hT2 zM (by rw [he2]; rfl)) (by rw [he,he2])) (by decide) (by decide) (by rw [he,he2]) hpl) fun σ H Q ⟨ρ,d,en,q,k⟩=>?_
  cases h1:fa ρ with
  | none=>simp [h1] at q
  | some c=>
   obtain ⟨hF,rfl⟩:=adb (show J9 Tn c=some d by simpa [h1] using q)
   exact ⟨ρ,c,en,h1,fun v H1 s1 r1=>⟨v,c,_,rfl,r1,hF,ai5 hT c,k _ H1 s1 rfl⟩⟩
end
noncomputable def zA (H H':Hp):Prop:=∀ b o,H b=some o->(∀ xs,o ≠ .lst xs)->H' b=some o
theorem jj.n {H H':Hp} (e:jj H H'):zA H H':=fun b o h _=>e b o h
theorem zA.refl (H:Hp):zA H H:=fun _ _ h _=>h
theorem zA.trans {H H1 H2:Hp} (a:zA H H1) (b:zA H1 H2):zA H H2:=fun c o h n=>b c o (a c o h n) n
theorem zA.upd {H:Hp}{p:Addr}{xs ys:List V} (hp:H p=some (.lst xs)):zA H (upd H p (.lst ys)):=fun b o h n=>by
 have:b ≠ p:=fun e=>by subst e; rw [hp] at h; cases h; exact n _ rfl
 rw [jm this]; exact h
mutual
noncomputable def noL:PyData->Bool
 | .none=>true
 | .bool _=>true
 | .int _=>true
 | .str _=>true
 | .tuple ds=>noLs ds
 | .list _=>false
 | .dict _=>false
noncomputable def noLs:LP->Bool
 | []=>true
 | d::ds=>noL d && noLs ds
end
section
variable {K:Fg}{H H':Hp}
theorem zA.tup {a:Addr}{xs:List V} (e:zA H H') (h:SqT K H a xs):SqT K H' a xs:=by
 rcases h with (h | ⟨o,h⟩) | h
 ·exact .inl (.inl (e _ _ h fun _ z=>nomatch z))
 ·exact .inl (.inr ⟨o,e _ _ h fun _ z=>nomatch z⟩)
 ·exact .inr h
mutual
theorem Rep.monoN (e:zA H H'):∀ (d:PyData) (v:V),noL d=true->Rep K H d v->Rep K H' d v
 | .none,v,_,h=>h
 | .bool _,v,_,h=>h
 | .int _,v,_,h=>h
 | .str _,v,_,h=>h
 | .tuple ds,v,n,⟨a,xs,h1,h2,h3⟩=>⟨a,xs,h1,zA.tup e h2,Reps.monoN e ds xs (by simpa [noL] using n) h3⟩
 | .list ds,v,n,h=>by simp [noL] at n
 | .dict ds,v,n,h=>by simp [noL] at n
theorem Reps.monoN (e:zA H H'):∀ (ds:LP) (xs:List V),noLs ds=true->Reps K H ds xs->Reps K H' ds xs
 | [],xs,_,h=>h
 | d::ds,xs,n,⟨x,r,h1,h2,h3⟩=>by
  have n':noL d=true/\noLs ds=true:=by simpa [noLs] using n
  exact ⟨x,r,h1,Rep.monoN e d x n'.1 h2,Reps.monoN e ds r n'.2 h3⟩
end
theorem Qa:∀ (ds es:LP),noLs (ds++es)=(noLs ds && noLs es)
 | [],es=>by simp [noLs]
 | d::ds,es=>by simp [noLs,Qa ds es,Bool.and_assoc]
theorem adc:∀ {ds:LP},(∀ d ∈ ds,noL d=true)->noLs ds=true
 | [],_=>rfl
 | d::ds,h=>by simp [noLs,h d List.mem_cons_self,adc fun x hx=>h x (List.mem_cons_of_mem _ hx)]
end
end BX
end
section
namespace BX
open PySem PySem.Spec L2
open PyProof.Rows hiding St
noncomputable def jt (P:Program) (w:World) (K:Fg) (mg:SV) (base:Heap) (x:Str) (ps:List Str) (k n:Nat) (g:LP->OP):Prop:=
 ∃ (f:Addr) (fd:FuncData),FnOk P w K mg base CX0 k f fd ps (Pur K n g)/\mg x=some (.ref f)/\PySem.W.keepIn K (.ref f)=true/\QJ K fd ps []
theorem jq:∀ (ρ:Rho) (ds:LP),jM ρ=some ds->ds.length=0:=fun ρ ds h=>by cases h; rfl
theorem jc {fa:RP}{fr:Rho->Option (LP)}{n:Nat} (h:∀ (ρ:Rho) (ds:LP),fr ρ=some ds->ds.length=n):∀ (ρ:Rho) (ds:LP),jp fa fr ρ=some ds->ds.length=n+1:=fun ρ ds q=>by
 cases h1:fa ρ with
 | none=>simp [jp,h1] at q
 | some x=>
  cases h2:fr ρ with
  | none=>simp [jp,h1,h2] at q
  | some r=>
   have:x::r=ds:=by simpa [jp,h1,h2] using q
   subst this
   simp [h ρ r h2]
section
variable {X:Cx}{e:Expr}{es:List Expr}{pos:Pos}
theorem jo {k j n:Nat}{ps:List Str}{g:LP->OP}{x:Str}{p:Pos}{fr:Rho->Option (LP)} (c:jt X.prog X.w X.K X.mg X.base x ps k n g) (hr:Room j X.A) (hkj:k<=j) (ha:PAD X (e::es) fr)
  (hl:∀ (ρ:Rho) (ds:LP),fr ρ=some ds->ds.length=n) (hn:(e::es).length=n:=by rfl) (hg:Gl X x:=by rfl) (hdb:(x == ("__debug__":Str))=false:=by decide) (he:starEach (e::es) X.env=(false,eval e X.env)::starEach es X.env:=by rfl)
  (hpl:(backTo pos (starEach es X.env)).any (·.1)=false:=by rfl):PD X (.Call (.Name x p) (e::es) [] pos) (jS g fr):=by
 with_unfolding_all
  obtain ⟨f,fd,h1,h2,h3,h4⟩:=c
  exact aiX h1 (hr.mono hkj) h2 h3 h4 hn ha (fun ρ ds q=>by rw [hl ρ ds q,hn]) hg hdb he hpl
end
theorem add {ft:Rho->Option Bool}{fe:RP}{i:Nat} (p:PyData->Bool) (h:PyData->PyData):∀ (ds:LP) (τ:Rho),(∀ d ∈ ds,ft (τ.set i (some d))=some (p d))->(∀ d ∈ ds,p d=true->fe (τ.set i (some d))=some (h d))->
  jY (j0 i) ft fe ds τ=some ((ds.filter p).map h)
 | [],τ,_,_=>rfl
 | d::ds,τ,h1,h2=>by
  have ih:=add p h ds (τ.set i (some d)) (fun c hc=>by rw [List.set_set]; exact h1 c (List.mem_cons_of_mem _ hc)) (fun c hc hp=>by rw [List.set_set]; exact h2 c (List.mem_cons_of_mem _ hc) hp)
  simp only [jY,j0,zzD,h1 d List.mem_cons_self]
  by_cases hp:p d=true
  ·simp [hp,h2 d List.mem_cons_self hp,ih,List.filter_cons]
  ·simp [hp,ih,List.filter_cons]
theorem Qs {fe:RP}{i:Nat} (h:PyData->PyData) (ds:LP) (τ:Rho) (h2:∀ d ∈ ds,fe (τ.set i (some d))=some (h d)):jY (j0 i) QT fe ds τ=some (ds.map h):=by
 rw [add (fun _=>true) h ds τ (fun _ _=>rfl) (fun d hd _=>h2 d hd),List.filter_eq_self.mpr (fun _ _=>rfl)]
noncomputable def ae6 (st:Scope) (N:List Str) (sc:Scope) (N':List Str) (cap:List (Option Nat)):Bool:=
 sc.names.all (fun x=>!decide (x.2= .free) || decide (st.names.lookup x.1=some .cell) || decide (st.names.lookup x.1=some .free)) && sc.names.all (fun x=>!decide (x.2= .cell)) && decide (sc.kind= .function) &&
 sc.names.all (fun x=>!decide (x.2= .local) || decide (sc.names.lookup x.1=some .local)) && decide (cap.length=N'.length) &&
 (List.range N'.length).all (fun j=>match N'[j]?,cap[j]? with
  | some x,some (some i)=>decide (N[i]?=some x) && decide (sc.names.lookup x=some .free)
  | _,_=>true)
theorem JF {X:Cx}{sc:Scope}{N':List Str}{cap:List (Option Nat)} (st:Scope) (N:List Str) (h:ae6 st N sc N' cap=true) (hst:X.env.scope=st:=by rfl) (hN:X.N=N:=by rfl):CompOk X sc N' cap:=by
 simp only [ae6,Bool.and_eq_true,List.all_eq_true,Bool.or_eq_true,Bool.not_eq_true',decide_eq_true_eq,decide_eq_false_iff_not] at h
 obtain ⟨⟨⟨⟨⟨h1,h2⟩,h3⟩,h4⟩,h5⟩,h6⟩:=h
 subst hst; subst hN
 refine ⟨fun x hx e=>?_,h2,h3,fun x hx e=>?_,h5,fun j i x e1 e2=>?_⟩
 ·rcases h1 x hx with (z | z) | z
  ·exact absurd e z
  ·exact .inl z
  ·exact .inr z
 ·rcases h4 x hx with z | z
  ·exact absurd e z
  ·exact z
 ·have hj:j<N'.length:=(List.getElem?_eq_some_iff.mp e1).1
  have:=h6 j (List.mem_range.mpr hj)
  rw [e1,e2] at this
  simpa using this
section
variable {X:Cx}{Kp:List (Addr × Obj)}{σ:St}{H:Hp}{s:Shared}
end
structure Own1 (X:Cx) (Kp:List (Addr × Obj)) (b:Addr):Prop where
 h1:b ≠ X.env.locals
 h2:b ∉ X.fs
 h3:X.s₀.heap.objs.size<=b
 h4:∀ x c,X.env.cells.lookup x=some c->c ≠ b
 h5:∀ p ∈ X.pn++Kp,p.1 ≠ b
theorem ahe:bootBuiltins "min"=some (.builtin "min"):=by decide +kernel
theorem ahf:bootBuiltins "max"=some (.builtin "max"):=by decide +kernel
section
variable {X:Cx}{a:Expr}{fa:RP}{pos p p2 p3 kp kp2:Pos}{j3:Nat}
end
noncomputable def ae7:Int->List Int->Int
 | b,[]=>b
 | b,d::r=>if d > b then ae7 d r else ae7 b r
noncomputable def akO:Option Int->List Int->PyData
 | none,[]=> .none
 | none,d::r=> .int (ae7 d r)
 | some b,r=> .int (ae7 b r)
section
variable {X:Cx}{a:Expr}{fa:RP}{pos p p3 kp2:Pos}{j3:Nat}
end
end BX
end
section
namespace BX.Srt
open PySem PySem.W
open PyProof.Rows (mirror bubble mirror_size mirror_perm bubble_size bubble_perm getElem?_mirror_all getElem?_bubble)
section
variable (rk:Nat->Int) (n:Nat)
noncomputable def val (p:Array Nat) (k:Nat):Int:=rk (p.getD k 0)
noncomputable def OKp (p:Array Nat):Prop:=p.Perm (List.range n).toArray
end
section
variable {rk:Nat->Int}{n:Nat}{p p':Array Nat}
theorem OKp.size (h:OKp n p):p.size=n:=by
 have:=h.size_eq
 simpa using this
theorem OKp.lt (h:OKp n p) {k:Nat} (hk:k<n):p.getD k 0<n:=by
 have hs:=h.size
 have e:p.getD k 0=p[k]'(by omega):=by simp [Array.getD,hs,hk]
 have:p[k]'(by omega) ∈ (List.range n).toArray:=h.mem_iff.mp (Array.getElem_mem _)
 rw [e]
 simpa using this
theorem OKp.rev (h:OKp n p) (i j:Nat):OKp n (kas_rev p i j):=(mirror_perm p i j _).trans h
end
variable {rk:Nat->Int}{n:Nat}{cmp:Nat->Nat->(Bool->SP0)->SP0}
section
variable {s:Shared} (hc:∀ i j (C:Bool->SP0),i<n->j<n->C (decide (rk i<rk j)) s->cmp i j C s)
include hc
end
end BX.Srt
end
section
namespace BX
open PySem PySem.Spec L2
open PyProof.Rows hiding St
section
variable {prog:Program}{w:World}{A:Around}{E:Value->SP0}{s:Shared}
end
theorem qx.there {P:Program}{w:World}{H:Hp}{h:Heap}{a:Addr}{o:HO} (x:qx P w H h a o):∃ u,h.get? a=some u:=by
 cases o with
 | lst xs=>obtain ⟨_,_,_,_,e⟩:=x; exact ⟨_,e⟩
 | tup xs=>obtain ⟨_,_,_,u,e,_⟩:=x; exact ⟨_,e⟩
 | dK kvs=>obtain ⟨_,_,_,_,o,_,_,e,_⟩:=x; exact ⟨_,e⟩
 | dT kvs=>obtain ⟨_,_,_,_,o,_,_,e,_⟩:=x; exact ⟨_,e⟩
 | set S n=>obtain ⟨o,_,_,_,e,_⟩:=x; exact ⟨_,e⟩
 | ins C dx fs=>obtain ⟨_,_,_,e,_⟩:=x; exact ⟨_,e⟩
 | own y=>obtain ⟨_,e⟩:=x; exact ⟨_,e⟩
 | xd fs=>obtain ⟨_,⟨_,_,_,e,_⟩,_⟩:=x; exact ⟨_,e⟩
 | rng lo hi=>obtain ⟨_,_,_,e⟩:=x; exact ⟨_,e⟩
 | frz ob u=>obtain ⟨e,_⟩:=x; exact ⟨_,e⟩
 | tbl ps=>exact ⟨_,(show h.get? a=some _ from x)⟩
 | met f y=>exact ⟨_,(show h.get? a=some _ from x)⟩
 | ext φ=>obtain ⟨_,⟨_,e⟩,_⟩:=x; exact ⟨_,e⟩
noncomputable def ahg (p:Int × Int):PyData:= .tuple [.int p.1,.int p.2]
structure PairAt (h:Heap) (u:Value) (p:Int × Int):Prop where
 ex:∃ a o k t t',u= .ref a/\h.get? a=some o/\o.cls= .type "tuple"/\o.data= .seq #[.int p.1 t,.int p.2 t'] k
section
variable {X:Cx}
variable {a b:Expr}{fa fb:RP}{pos p2:Pos}
noncomputable def abi:PyData->OP
 | .int i=>some (.int (-i))
 | _=>none
theorem aaI (h:PD X a fa):PD X (.UnaryOp .USub a pos) (fun ρ=>(fa ρ).bind abi):=by
 with_unfolding_all
  refine PE.imp (agK ad6 h) fun σ H Q ⟨ρ,d,en,q,k⟩=>?_
  cases h1:fa ρ with
  | none=>simp [h1] at q
  | some y=>
   refine ⟨ρ,y,en,h1,fun v H1 s1 r1=>?_⟩
   have q':abi y=some d:=by simpa [h1] using q
   cases y with
   | int i=>cases q'; cases (show v=_ from r1); exact ⟨i,rfl,k _ H1 s1 rfl⟩
   | _=>cases q'
end
variable {X:Cx}
end BX
end
section
namespace BX
open PySem PySem.Spec L2
open PyProof.Rows hiding St
variable {X:Cx}
noncomputable def abj (f:Expr->OP):List Expr->Option (LP)
 | []=>some []
 | e::es=>(f e).bind fun d=>(abj f es).map fun ds=>d::ds
noncomputable def lit:Nat->Expr->OP
 | 0,_=>none
 | n+1,e=>match e with
  | .Constant (.int i) _ _=>some (.int i)
  | .Constant (.bool b) _ _=>some (.bool b)
  | .Constant .none _ _=>some .none
  | .Constant (.str x) _ _=>some (.str x)
  | .Tuple es _ _=>(abj (lit n) es).bind fun ds=>if few ds=true then some (.tuple ds) else none
  | .List es _=>(abj (lit n) es).bind fun ds=>if few ds=true then some (.list ds) else none
  | _=>none
theorem PD.as {e:Expr}{F G:RP} (h:PD X e F) (hi:∀ ρ d,G ρ=some d->F ρ=some d):PD X e G:=by
 with_unfolding_all exact (PE.imp h fun σ H Q ⟨ρ,d,en,q,k⟩=>⟨ρ,d,en,hi ρ d q,k⟩)
theorem PAD.as {es:List Expr}{F G:Rho->Option (LP)} (h:PAD X es F) (hi:∀ ρ d,G ρ=some d->F ρ=some d):PAD X es G:=by
 with_unfolding_all exact (PA.imp h fun σ H Q ⟨ρ,d,en,q,k⟩=>⟨ρ,d,en,hi ρ d q,k⟩)
noncomputable def ahh (e:Expr):Prop:=∀ (es:List Expr) (env:Env),starEach (e::es) env=(false,eval e env)::starEach es env
theorem aco {f:Expr->OP} (hf:∀ e d,f e=some d->PD X e (cst d)/\ahh e):∀ (es:List Expr) (ds:LP),abj f es=some ds->PAD X es (fun _=>some ds)
 | [],ds,h=>by cases h; exact je
 | e::es,ds,h=>by
  cases h1:f e with
  | none=>simp [abj,h1] at h
  | some d=>
   cases h2:abj f es with
   | none=>simp [abj,h1,h2] at h
   | some r=>
    have:d::r=ds:=by with_unfolding_all simpa [abj,h1,h2] using h
    subst this
    obtain ⟨p,st⟩:=hf e d h1
    exact (jb p (aco hf es r h2) (st es X.env)).as fun ρ d' q=>by cases q; simp [jp,cst]
theorem aef:∀ (n:Nat) (e:Expr) (d:PyData),lit n e=some d->PD X e (cst d)/\ahh e
 | 0,e,d,h=>by cases h
 | n+1,e,d,h=>by
  unfold lit at h
  split at h
  ·cases h; exact ⟨jh,fun _ _=>rfl⟩
  ·cases h; exact ⟨Z0,fun _ _=>rfl⟩
  ·cases h; exact ⟨JY,fun _ _=>rfl⟩
  ·cases h; exact ⟨jN,fun _ _=>rfl⟩
  ·rename_i es x1 pos
   cases h1:abj (lit n) es with
   | none=>simp [h1] at h
   | some ds=>
    by_cases hf:few ds=true
    ·have:PyData.tuple ds=d:=by with_unfolding_all simpa [h1,hf] using h
     subst this
     exact ⟨(JD (aco (aef n) es ds h1)).as fun ρ d' q=>by cases q; simp [aaC,hf],fun _ _=>rfl⟩
    ·simp [h1,hf] at h
  ·rename_i es pos
   cases h1:abj (lit n) es with
   | none=>simp [h1] at h
   | some ds=>
    by_cases hf:few ds=true
    ·have:PyData.list ds=d:=by simpa [h1,hf] using h
     subst this
     exact ⟨(JZ (aco (aef n) es ds h1)).as fun ρ d' q=>by cases q; simp [ZA,hf],fun _ _=>rfl⟩
    ·simp [h1,hf] at h
  ·cases h
theorem aeg (n:Nat) {e:Expr} (d:PyData) (h:lit n e=some d):PD X e (cst d):=by
 with_unfolding_all exact ((aef n e d h).1)
end BX
end
section
namespace BX
open PySem L2
open PyProof.Rows hiding St
noncomputable def qj (K:Fg) (x:Str) (st:Stmt):Prop:=
 ∃ (f:Addr) (oc:Value) (od an:Option Addr) (kV doc pm Kc ct:Value) (osl:Array (Option Value)),PySem.W.nsIn K mainGlobals x=some (some (.ref f))/\
  K.lookup f=some ⟨oc,od,.func (PySem.W.fnOf x x (zG st) (jU st) (jg st) .none kV doc pm an Kc ct),osl⟩/\PySem.W.codeIn K Kc x=true/\PySem.W.keepIn K (.ref f)=true
theorem ahi {K:Fg}{x:Str}{st:Stmt}{f:Addr}{oc:Value}{od an:Option Addr}{kV doc pm Kc ct:Value}{osl:Array (Option Value)} (a:PySem.W.nsIn K mainGlobals x=some (some (.ref f)))
  (l:K.lookup f=some ⟨oc,od,.func (PySem.W.fnOf x x (zG st) (jU st) (jg st) .none kV doc pm an Kc ct),osl⟩) (c:PySem.W.codeIn K Kc x=true) (k:PySem.W.keepIn K (.ref f)=true):qj K x st:=
 ⟨f,oc,od,an,kV,doc,pm,Kc,ct,osl,a,l,c,k⟩
noncomputable abbrev jC (x:Str) (st:Stmt) (ps:List Str):Prop:=∀ (kV doc pm:Value) (an:Option Addr) (Kc ct:Value) (us:List Value),us.length=ps.length->bindArgs (PySem.W.fnOf x x (zG st) (jU st) (jg st) .none kV doc pm an Kc ct) ⟨us,[]⟩=pure (ps.zip us)
theorem qj.callee {P:Program}{w:World}{K:Fg}{mg:SV}{base h:Heap}{x:Str}{st:Stmt}{ps:List Str}{k n:Nat}{g:LP->OP} (T:qj K x st) (X:K.In h) (G:h.Ns mainGlobals mg)
  (hb:jC x st ps) (F:∀ (f:Addr) (fd:FuncData),Fun K x x st f fd->FnOk P w K mg base CX0 k f fd ps (Pur K n g)):jt P w K mg base x ps k n g:=by
 obtain ⟨f,oc,od,an,kV,doc,pm,Kc,ct,osl,a,l,c,kp⟩:=T
 have F1:=acf (st:=st) l c kp
 exact ⟨f,_,F f _ F1,PySem.W.mg_of X G a,kp,F1.binds hb⟩
theorem jt.as {P:Program}{w:World}{K:Fg}{mg:SV}{base:Heap}{x:Str}{ps:List Str}{k n:Nat}{g g':LP->OP} (C:jt P w K mg base x ps k n g) (h:∀ ds d,g' ds=some d->g ds=some d):jt P w K mg base x ps k n g':=by
 obtain ⟨f,fd,F,a,b,c⟩:=C
 exact ⟨f,fd,al7 F fun ds d _ q=>h ds d q,a,b,c⟩
theorem ahj {K:Fg}{mg:SV}{h:Heap}{x:Str}{a:Addr}{ob:Obj}{ds:LP} (X:K.In h) (G:h.Ns mainGlobals mg) (e:PySem.W.nsIn K mainGlobals x=some (some (.ref a))) (l:K.lookup a=some ob)
  (hc:ob.cls= .type "tuple") (hi:∃ (its:Array Value) (n:Nat) (xs:List V),ob.data= .seq its n/\its.size<=sizeLine/\jD xs its.toList/\∀ H,Reps K H ds xs):∃ v u,mg x=some u/\jL v u/\∀ H,Rep K H (.tuple ds) v:=by
 obtain ⟨its,n,xs,h1,h2,h3,h4⟩:=hi
 exact ⟨.ref a,.ref a,PySem.W.mg_of X G e,rfl,fun H=>⟨a,xs,rfl,.inr ⟨ob,its,n,l,hc,h1,h2,h3⟩,h4 H⟩⟩
end BX
end
section
namespace BX
open PySem PySem.Spec L2
open PyProof.Rows hiding St
noncomputable def QN (a:Addr) (xs:List V):HO:= .ext fun h=>xs.length<=sizeLine/\∃ (its:List Value) (n:Nat),jD xs its/\h.get? a=some { cls:= .type "list",data:= .seq its.toArray n }
noncomputable def Z2 (P:Program) (w:World) (a:Addr) (ob:Obj) (ks:List (Key × V)):HO:= .ext fun h=>h.get? a=some ob/\ks.length<=sizeLine/\(a == sysModules)=false/\∃ vs,KV ks vs/\h.DictOf (qB P w) a vs
inductive Seal (P:Program) (w:World) (a:Addr):HO->HO->Prop where
 | l (xs:List V):Seal P w a (QN a xs) (.lst xs)
 | d (ob:Obj) (ks:List (Key × V)):Seal P w a (Z2 P w a ob ks) (.frz ob (.dK ks))
theorem Seal.ext {P:Program}{w:World}{a:Addr}{c o:HO} (S:Seal P w a c o):∃ φ,c= .ext φ:=by cases S <;> exact ⟨_,rfl⟩
section
variable {X:Cx}{Kp:List (Addr × Obj)}{σ:St}{H:Hp}{s:Shared}{a:Addr}{c o:HO}
theorem Inv.opened (I:Inv X Kp σ H s) (S:Seal X.prog X.w a c o) (e:H a=some c):Inv X Kp σ (upd H a o) s:=by
 have q:=I.hok a c e
 have mu:Mut (H a):=by rw [e]; obtain ⟨φ,rfl⟩:=S.ext; trivial
 cases S with
 | l xs=>
  obtain ⟨h1,h2,_⟩:=q
  exact I.write (x:=a) (e:=a) (h':=s.heap) (t':=s.toks) mu (.inl rfl) (fun _ _ _ z=>z) h2 h1
 | d ob ks=>
  obtain ⟨h1,h2,_⟩:=q
  exact I.write (x:=a) (e:=a) (h':=s.heap) (t':=s.toks) mu (.inl rfl) (fun _ _ _ z=>z) h2 ⟨h1.1,h1.2⟩
theorem Inv.redesc {o1 o2:HO} (I:Inv X Kp σ H s) (h1:H a=some o1) (n1:∀ y,o1 ≠ .own y) (n2:∀ xs,o1 ≠ .tup xs) (n3:∀ ps,o1 ≠ .tbl ps) (nf:∀ ob u,X.H₀ a ≠ some (.frz ob u)) (new:qx X.prog X.w (upd H a o2) s.heap a o2):Inv X Kp σ (upd H a o2) s:=by
 have na:∀ b,H b=none->upd H a o2 b=none:=fun b z=>by
  have:b ≠ a:=fun q=>by subst q; rw [h1] at z; cases z
  rw [jm this]; exact z
 refine ⟨I.ok,I.os,I.bare,⟨I.base.keep,I.base.slot,fun b u q n hx=>na b (I.base.free b u q n hx),I.base.there,fun b xs q=>?_,fun b ob u q=>?_,fun b ps q=>?_⟩,I.loc,I.cell,na _ I.free,fun x c' q=>na _ (I.freeC x c' q),fun p hp=>?_,fun b u q=>?_,I.len⟩
 ·have q':=I.base.tups b xs q
  have:b ≠ a:=fun z=>by subst z; rw [h1] at q'; cases q'; exact n2 _ rfl
  rw [jm this]; exact q'
 ·have:b ≠ a:=fun z=>by subst z; exact nf _ _ q
  rw [jm this]; exact I.base.frzs b ob u q
 ·obtain ⟨more,q'⟩:=I.base.tbls b ps q
  have:b ≠ a:=fun z=>by subst z; rw [h1] at q'; cases q'; exact n3 _ rfl
  exact ⟨more,by rw [jm this]; exact q'⟩
 ·obtain ⟨g1,g2,g3⟩:=I.pin p hp
  exact ⟨g1,na _ g2,g3⟩
 ·by_cases hb:b=a
  ·subst hb
   rw [jr] at q; cases q
   exact new
  ·rw [jm hb] at q
   refine (I.hok b u q).stay (fun c' v _ z=>z) (fun c' z=>?_) fun c' xs z=>?_
   ·have:c' ≠ a:=fun m=>by subst m; rw [h1] at z; cases z; exact n1 _ rfl
    rw [jm this]; exact z
   ·have:c' ≠ a:=fun m=>by subst m; rw [h1] at z; cases z; exact n2 _ rfl
    rw [jm this]; exact z
theorem Inv.nofrz {φ:Heap->Prop} (I:Inv X Kp σ H s) (e:H a=some (.ext φ)):∀ ob u,X.H₀ a ≠ some (.frz ob u):=fun ob u z=>by
 have:=I.base.frzs _ _ _ z
 rw [e] at this; cases this
theorem Inv.closed (I:Inv X Kp σ H s) (S:Seal X.prog X.w a c o) (e:H a=some o) (nf:∀ ob u,X.H₀ a ≠ some (.frz ob u)):Inv X Kp σ (upd H a c) s:=by
 have q:=I.hok a o e
 cases S with
 | l xs=>
  obtain ⟨h1,its,n,h2,h3⟩:=q
  refine I.write (x:=a) (e:=a) (h':=s.heap) (t':=s.toks) (by rw [e]; trivial) (.inl rfl) (fun _ _ _ z=>z) ⟨_,h3⟩ ⟨⟨h1,its,n,h2,h3⟩,⟨_,h3⟩,?_⟩
  rintro g1 g2 ⟨z1,its,n,z2,z3⟩ k
  exact ⟨z1,its,n,z2,k _ z3⟩
 | d ob ks=>
  obtain ⟨h0,h1,h2,vs,h3,ob',es,ep,h4,h5⟩:=q
  refine Inv.redesc I e (fun _ z=>nomatch z) (fun _ z=>nomatch z) (fun _ z=>nomatch z) nf ⟨⟨h0,h1,h2,vs,h3,ob',es,ep,h4,h5⟩,⟨_,h4⟩,?_⟩
  rintro g1 g2 ⟨z0,z1,z2,vs,z3,ob',es,ep,z4,z5⟩ k
  exact ⟨k _ z0,z1,z2,vs,z3,ob',es,ep,k _ z4,z5⟩
theorem Inv.sealedD {ks:List (Key × V)} (I:Inv X Kp σ H s) (e:H a=some (.dK ks)):∃ ob,Inv X Kp σ (upd H a (Z2 X.prog X.w a ob ks)) s:=by
 obtain ⟨h1,h2,vs,h3,ob,es,ep,h4,h5⟩:=I.hok a _ e
 refine ⟨ob,I.write (x:=a) (e:=a) (h':=s.heap) (t':=s.toks) (by rw [e]; trivial) (.inl rfl) (fun _ _ _ z=>z) ⟨_,h4⟩ ⟨⟨h4,h1,h2,vs,h3,ob,es,ep,h4,h5⟩,⟨_,h4⟩,?_⟩⟩
 rintro g1 g2 ⟨z0,z1,z2,vs,z3,ob',es,ep,z4,z5⟩ k
 exact ⟨k _ z0,z1,z2,vs,z3,ob',es,ep,k _ z4,z5⟩
theorem Inv.openD {ob:Obj}{ks:List (Key × V)} (I:Inv X Kp σ H s) (e:H a=some (Z2 X.prog X.w a ob ks)):Inv X Kp σ (upd H a (.dK ks)) s:=by
 obtain ⟨h1,h2,_⟩:=I.hok a _ e
 exact I.write (x:=a) (e:=a) (h':=s.heap) (t':=s.toks) (by rw [e]; trivial) (.inl rfl) (fun _ _ _ z=>z) h2 h1.2
end
mutual
noncomputable def noD:PyData->Bool
 | .tuple ds=>noDs ds
 | .list ds=>noDs ds
 | .dict _=>false
 | _=>true
noncomputable def noDs:LP->Bool
 | []=>true
 | d::ds=>noD d && noDs ds
end
noncomputable def ade (H H':Hp):Prop:=∀ b o,H b=some o->(∀ ob ks,o ≠ .frz ob (.dK ks))->H' b=some o
section
variable {K:Fg}{H H':Hp}
theorem ade.tup {a:Addr}{xs:List V} (e:ade H H') (h:SqT K H a xs):SqT K H' a xs:=by
 rcases h with (h | ⟨o,h⟩) | h
 ·exact .inl (.inl (e _ _ h fun _ _ z=>nomatch z))
 ·exact .inl (.inr ⟨o,e _ _ h fun _ _ z=>nomatch z⟩)
 ·exact .inr h
mutual
theorem Rep.monoM (e:ade H H'):∀ (d:PyData) (v:V),noD d=true->Rep K H d v->Rep K H' d v
 | .none,v,_,h=>h
 | .bool _,v,_,h=>h
 | .int _,v,_,h=>h
 | .str _,v,_,h=>h
 | .tuple ds,v,n,⟨a,xs,h1,h2,h3⟩=>⟨a,xs,h1,ade.tup e h2,Reps.monoM e ds xs (by simpa [noD] using n) h3⟩
 | .list ds,v,n,⟨a,xs,h1,h2,h3⟩=>⟨a,xs,h1,e _ _ h2 (fun _ _ z=>nomatch z),Reps.monoM e ds xs (by simpa [noD] using n) h3⟩
 | .dict ds,v,n,h=>by simp [noD] at n
theorem Reps.monoM (e:ade H H'):∀ (ds:LP) (xs:List V),noDs ds=true->Reps K H ds xs->Reps K H' ds xs
 | [],xs,_,h=>h
 | d::ds,xs,n,⟨x,r,h1,h2,h3⟩=>by
  have n':noD d=true/\noDs ds=true:=by simpa [noDs] using n
  exact ⟨x,r,h1,Rep.monoM e d x n'.1 h2,Reps.monoM e ds r n'.2 h3⟩
end
end
noncomputable def okB (c d:PyData):Bool:=match c with
 | .list _=>noL d
 | .dict _=>noD d
 | _=>false
noncomputable def Q5 (P:Program) (w:World) (K:Fg) (H:Hp) (a:Addr):PyData->Prop
 | .list ds=>∃ xs,H a=some (QN a xs)/\Reps K H ds xs
 | .dict kvs=>∃ ks r ob,kvs=(.none,.none)::r/\H a=some (Z2 P w a ob ks)/\RepM K H r ks
 | _=>False
theorem Q5.out {P:Program}{w:World}{K:Fg}{H:Hp}{a:Addr}{d:PyData} (h:Q5 P w K H a d):∃ c o,Seal P w a c o/\H a=some c/\
  (∀ H',jP H H'->H' a=some o->Rep K H' d (.ref a))/\(∀ H',jP H H'->H' a=some c->Q5 P w K H' a d)/\
  ∀ x H3 v,okB d x=true->H3 a=some o->Rep K H3 x v->Rep K (upd H3 a c) x v:=by
 cases d with
 | list ds=>
  obtain ⟨xs,h1,h2⟩:=h
  exact ⟨_,_,.l xs,h1,fun H' e q=>⟨a,xs,rfl,q,Reps.monoE e _ _ h2⟩,fun H' e q=>⟨xs,q,Reps.monoE e _ _ h2⟩,fun x H3 v n q r=>Rep.monoN (fun b u hb m=>by
   have:b ≠ a:=fun z=>by subst z; rw [q] at hb; cases hb; exact m _ rfl
   rw [jm this]; exact hb) x v n r⟩
 | dict kvs=>
  obtain ⟨ks,r,ob,rfl,h1,h2⟩:=h
  exact ⟨_,_,.d ob ks,h1,fun H' e q=>⟨a,rfl,.inr (.inl ⟨ks,ob,q,show RepM K H' r ks from RepM.monoE e _ _ h2⟩)⟩,fun H' e q=>⟨ks,r,ob,rfl,q,RepM.monoE e _ _ h2⟩,fun x H3 v n q r=>Rep.monoM (fun b u hb m=>by
   have:b ≠ a:=fun z=>by subst z; rw [q] at hb; cases hb; exact m _ _ rfl
   rw [jm this]; exact hb) x v n r⟩
 | none=>exact h.elim
 | bool _=>exact h.elim
 | int _=>exact h.elim
 | str _=>exact h.elim
 | tuple _=>exact h.elim
theorem jP.upd {H:Hp}{a:Addr}{φ:Heap->Prop}{o:HO} (e:H a=some (.ext φ)):jP H (upd H a o):=fun b u h n=>by
 have:b ≠ a:=fun z=>by subst z; rw [e] at h; cases h; exact n _ rfl
 rw [jm this]; exact h
structure EnvO (P:Program) (w:World) (K:Fg) (Hs H:Hp) (own:Option Nat) (ρ:Rho) (σ:St):Prop where
 len:ρ.length=σ.length
 sm:jj Hs H
 pl:∀ i d,ρ[i]?=some (some d)->own ≠ some i->∃ v,σ[i]?=some (some v)/\Rep K H d v
 ow:∀ i,own=some i->∃ d a,ρ[i]?=some (some d)/\σ[i]?=some (some (.ref a))/\Hs a=none/\Q5 P w K H a d
noncomputable def hid (own:Option Nat) (ρ:Rho):Rho:=match own with
 | none=>ρ
 | some i=>ρ.set i none
section
variable {P:Program}{w:World}{K:Fg}{Hs H H':Hp}{own:Option Nat}{ρ:Rho}{σ:St}
theorem EnvO.of (e:EnvR K H ρ σ) (s:jj Hs H):EnvO P w K Hs H none ρ σ:=⟨e.len,s,fun i d h _=>e.at' i d h,fun i z=>nomatch z⟩
theorem EnvO.to (e:EnvO P w K Hs H none ρ σ):EnvR K H ρ σ:=⟨e.len,fun i d h=>e.pl i d h (fun z=>nomatch z)⟩
theorem EnvO.hid (e:EnvO P w K Hs H own ρ σ):EnvR K H (hid own ρ) σ:=by
 cases own with
 | none=>exact e.to
 | some i=>
  refine ⟨by simp [BX.hid,e.len],fun j d h=>?_⟩
  by_cases hj:i=j
  ·subst hj
   simp only [BX.hid] at h
   rw [List.getElem?_set] at h
   simp at h
  ·simp only [BX.hid] at h
   rw [List.getElem?_set_ne hj] at h
   exact e.pl j d h (fun z=>hj (Option.some.inj z))
theorem Q5.mono {a:Addr}{d:PyData} (h:Q5 P w K H a d) (s:jj H H'):Q5 P w K H' a d:=by
 obtain ⟨c,o,_,h1,_,h2,_⟩:=h.out
 exact h2 H' (jj.e s) (s _ _ h1)
theorem EnvO.mono (e:EnvO P w K Hs H own ρ σ) (s:jj H H'):EnvO P w K Hs H' own ρ σ:=
 ⟨e.len,e.sm.trans s,fun i d h n=>let ⟨v,h1,h2⟩:=e.pl i d h n; ⟨v,h1,Rep.mono s d v h2⟩,fun i n=>let ⟨d,a,h1,h2,h3,h4⟩:=e.ow i n; ⟨d,a,h1,h2,h3,h4.mono s⟩⟩
theorem EnvO.opn {i:Nat} (e:EnvO P w K Hs H (some i) ρ σ):∃ d a c o,ρ[i]?=some (some d)/\σ[i]?=some (some (.ref a))/\Hs a=none/\Seal P w a c o/\H a=some c/\EnvR K (upd H a o) ρ σ/\jj Hs (upd H a o)/\
  (∀ H3,jj (upd H a o) H3->jP H (upd H3 a c)/\EnvO P w K Hs (upd H3 a c) (some i) ρ σ)/\∀ x H3 v,okB d x=true->H3 a=some o->Rep K H3 x v->Rep K (upd H3 a c) x v:=by
 obtain ⟨d,a,h1,h2,h3,h4⟩:=e.ow i rfl
 obtain ⟨c,o,S,h5,h6,h7,h8⟩:=h4.out
 obtain ⟨φ,rfl⟩:=S.ext
 have s1:jP H (upd H a o):=jP.upd h5
 have sH:∀ {H2:Hp},(∀ b u,b ≠ a->H b=some u->H2 b=some u)->jj Hs H2:=fun {H2} k b u q=>k b u (fun z=>by subst z; rw [h3] at q; cases q) (e.sm b u q)
 refine ⟨d,a,_,o,h1,h2,h3,S,h5,⟨e.len,fun j x q=>?_⟩,sH fun b u n q=>by rw [jm n]; exact q,fun H3 s3=>⟨fun b u q m=>?_,e.len,sH fun b u n q=>by rw [jm n]; exact s3 b u (by rw [jm n]; exact q),fun j x q n=>?_,fun j n=>?_⟩,h8⟩
 ·by_cases hj:i=j
  ·subst hj
   rw [h1] at q; cases q
   exact ⟨.ref a,h2,h6 _ s1 jr⟩
  ·obtain ⟨v,g1,g2⟩:=e.pl j x q (fun z=>hj (Option.some.inj z))
   exact ⟨v,g1,Rep.monoE s1 _ _ g2⟩
 ·have:b ≠ a:=fun z=>by subst z; rw [h5] at q; cases q; exact m _ rfl
  rw [jm this]
  exact s3 b u (by rw [jm this]; exact q)
 ·have s4:jP H (upd H3 a (.ext φ)):=fun b u q m=>by
   have:b ≠ a:=fun z=>by subst z; rw [h5] at q; cases q; exact m _ rfl
   rw [jm this]
   exact s3 b u (by rw [jm this]; exact q)
  obtain ⟨v,g1,g2⟩:=e.pl j x q n
  exact ⟨v,g1,Rep.monoE s4 _ _ g2⟩
 ·cases n
  have s4:jP H (upd H3 a (.ext φ)):=fun b u q m=>by
   have:b ≠ a:=fun z=>by subst z; rw [h5] at q; cases q; exact m _ rfl
   rw [jm this]
   exact s3 b u (by rw [jm this]; exact q)
  exact ⟨d,a,h1,h2,h3,h7 _ s4 jr⟩
end
end BX
end
section
namespace BX
open PySem PySem.Spec L2
open PyProof.Rows hiding St
noncomputable def brw (own:Option Nat) (f:RP):RP:=fun ρ=>match f (hid own ρ) with
 | some d=>some d
 | none=>match own with
  | none=>none
  | some i=>match f ρ,lkp i ρ with
   | some d,some c=>if okB c d=true then some d else none
   | _,_=>none
theorem ai6 {own:Option Nat}{f:RP}{ρ:Rho}{d:PyData} (h:brw own f ρ=some d):f (hid own ρ)=some d ∨ ∃ i c,own=some i/\f ρ=some d/\ρ[i]?=some (some c)/\okB c d=true:=by
 unfold brw at h
 cases h1:f (hid own ρ) with
 | some x=>rw [h1] at h; exact .inl h
 | none=>
  rw [h1] at h
  cases own with
  | none=>cases h
  | some i=>
   simp only at h
   cases h2:f ρ with
   | none=>rw [h2] at h; cases h
   | some x=>
    rw [h2] at h
    cases h3:lkp i ρ with
    | none=>rw [h3] at h; cases h
    | some c=>
     rw [h3] at h
     simp only at h
     split at h
     ·rename_i ok
      cases h
      exact .inr ⟨i,c,rfl,rfl,zy h3,ok⟩
     ·cases h
section
variable {X:Cx}{e a b c tg src:Expr}{es:List Expr}{st:Stmt}{sts jZ:List Stmt}{fa fb fc:RP}{F G:RO}{pos:Pos}{own:Option Nat}
noncomputable def tE (P:Program) (w:World) (K:Fg) (own:Option Nat) (f:RP):TE:=fun σ H Q=>∃ Hs ρ d,EnvO P w K Hs H own ρ σ/\brw own f ρ=some d/\∀ v H',jP H H'->EnvO P w K Hs H' own ρ σ->Rep K H' d v->Q v H'
theorem aeh (h:PD X e fa):PE X e (tE X.prog X.w X.K own fa):=by
 with_unfolding_all
  intro Kp s σ H Q I ⟨Hs,ρ,d,E,hb,k⟩
  rcases ai6 hb with h1 | ⟨i,c,ho,h1,h2,ok⟩
  ·exact h Kp s σ H Q I ⟨hid own ρ,d,E.hid,h1,fun v H' s r=>k v H' (jj.e s) (E.mono s) r⟩
  ·subst ho
   obtain ⟨d0,a,cl,o,g1,g2,g3,S,g4,env,sm,back,keep⟩:=E.opn
   rw [h2] at g1; cases g1
   refine thn (h Kp s σ (upd H a o) (fun v H3=>jj (upd H a o) H3/\Rep X.K H3 d v) (Inv.opened I S g4) ⟨ρ,d,env,h1,fun v H3 s3 r3=>⟨s3,r3⟩⟩) fun u s1 ⟨v,H3,I3,r,s3,r3⟩=>?_
   have e3:H3 a=some o:=s3 _ _ jr
   exact ⟨v,upd H3 a cl,Inv.closed I3 S e3 (by obtain ⟨φ,rfl⟩:=S.ext; exact Inv.nofrz I g4),r,k v _ (back H3 s3).1 (back H3 s3).2 (keep d H3 v ok e3 r3)⟩
noncomputable def tF (P:Program) (w:World) (K:Fg) (own:Option Nat) (f:RP):TE:=fun σ H Q=>∃ Hs ρ d,EnvO P w K Hs H own ρ σ/\f ρ=some d/\∀ v H',jj Hs H'->Rep K H' d v->Q v H'
theorem akP (h:PD X e fa):PE X e (tF X.prog X.w X.K own fa):=by
 with_unfolding_all
  intro Kp s σ H Q I ⟨Hs,ρ,d,E,h1,k⟩
  cases own with
  | none=>exact h Kp s σ H Q I ⟨ρ,d,E.to,h1,fun v H' s r=>k v H' (E.sm.trans s) r⟩
  | some i=>
   obtain ⟨d0,a,cl,o,g1,g2,g3,S,g4,env,sm,back,keep⟩:=E.opn
   exact h Kp s σ (upd H a o) Q (Inv.opened I S g4) ⟨ρ,d,env,h1,fun v H3 s3 r3=>k v H3 (sm.trans s3) r3⟩
noncomputable def amh (P:Program) (w:World) (K:Fg) (Hs:Hp) (own:Option Nat) (D:Ends):Out->Prop
 | .nx ρ=>∀ σ H,EnvO P w K Hs H own ρ σ->D.nx σ H
 | .rt d=>∀ v H,jj Hs H->Rep K H d v->D.rt v H
 | .bk ρ=>∀ σ H,EnvO P w K Hs H own ρ σ->D.bk σ H
 | .ct ρ=>∀ σ H,EnvO P w K Hs H own ρ σ->D.ct σ H
noncomputable def tOS (P:Program) (w:World) (K:Fg) (own:Option Nat) (F:RO):TS:=fun D σ H=>∃ Hs ρ o,EnvO P w K Hs H own ρ σ/\F ρ=some o/\amh P w K Hs own D o
@[irreducible] noncomputable def PSO (X:Cx) (own:Option Nat) (st:Stmt) (F:RO):Prop:=PS X st (tOS X.prog X.w X.K own F)
@[irreducible] noncomputable def acp (X:Cx) (own:Option Nat) (sts:List Stmt) (F:RO):Prop:=PSs X sts (tOS X.prog X.w X.K own F)
theorem adf (h:acp X none sts F):QR X sts F:=by
 with_unfolding_all
  refine PSs.imp h fun D σ H ⟨ρ,o,en,q,k⟩=>⟨H,ρ,o,EnvO.of en (jj.refl H),q,?_⟩
  cases o with
  | nx ρ'=>exact fun σ' H' E=>k σ' H' E.sm E.to
  | rt d=>exact fun v H' s r=>k v H' s r
  | bk ρ'=>exact fun σ' H' E=>k σ' H' E.sm E.to
  | ct ρ'=>exact fun σ' H' E=>k σ' H' E.sm E.to
theorem aaJ:acp X own [] zj:=by
 with_unfolding_all
  refine PSs.imp aeR fun D σ H ⟨Hs,ρ,o,E,q,k⟩=>?_
  cases q
  exact k σ H E
theorem j4 (h1 : PSO X own st F) (h2 : acp X own jZ G) : acp X own (st :: jZ) (jV F G) := by
  with_unfolding_all
   refine PSs.imp (JW h1 h2) fun D σ H ⟨Hs, ρ, o, E, q, k⟩ => ?_
   cases hf : F ρ with
   | none => simp [jV, hf] at q
   | some p =>
     refine ⟨Hs, ρ, p, E, hf, ?_⟩
     cases p with
     | nx ρ' => exact fun σ' H' E' => ⟨Hs, ρ', o, E', by simpa [jV, hf] using q, k⟩
     | rt d => have : Out.rt d = o := by simpa [jV, hf] using q
               subst this; exact k
     | bk d => have : Out.bk d = o := by simpa [jV, hf] using q
               subst this; exact k
     | ct d => have : Out.ct d = o := by simpa [jV, hf] using q
               subst this; exact k
theorem ai7 (h:PD X e fa):PSO X own (.Return (some e) pos) (za fa):=by
 with_unfolding_all
  refine PS.imp (ad2 (akP (own:=own) h)) fun D σ H ⟨Hs,ρ,o,E,q,k⟩=>?_
  cases h1:fa ρ with
  | none=>simp [za,h1] at q
  | some d=>
   have:Out.rt d=o:=by simpa [za,h1] using q
   subst this
   exact ⟨Hs,ρ,d,E,h1,k⟩
theorem EnvO.set {P:Program}{w:World}{K:Fg}{Hs H:Hp}{ρ:Rho}{σ:St}{i:Nat}{d:PyData}{v:V} (E:EnvO P w K Hs H own ρ σ) (hi:own ≠ some i) (r:Rep K H d v):EnvO P w K Hs H own (ρ.set i (some d)) (σ.set i (some v)):=by
 refine ⟨by simp [E.len],E.sm,fun j x q n=>?_,fun j n=>?_⟩
 ·by_cases hj:i=j
  ·subst hj
   rw [List.getElem?_set] at q ⊢
   simp only [zzM] at q ⊢
   by_cases hl:i < ρ.length
   ·rw [if_pos hl] at q
    rw [if_pos (by rw [←E.len]; exact hl)]
    cases q
    exact ⟨v,rfl,r⟩
   ·rw [if_neg hl] at q; cases q
  ·rw [List.getElem?_set_ne hj] at q ⊢
   exact E.pl j x q n
 ·have hj:i ≠ j:=fun z=>by subst z; exact hi n
  rw [List.getElem?_set_ne hj,List.getElem?_set_ne hj]
  exact E.ow j n
theorem Qt (i:Nat) {x:Str}{pos':Pos} (hN:X.N.Nodup) (he:PD X e fa) (ho:own ≠ some i:=by decide) (hi:X.N[i]?=some x:=by rfl) (hx:Loc X.env.scope x:=by first | exact Or.inl rfl | exact Or.inr rfl) (hs:swapsWith e (some (.Name x pos')) pos.line X.env=pure false:=by rfl)
  (hf:X.fn x=true ∨ X.env.scope.names.lookup x=some .local:=by first | exact .inl rfl | exact .inr rfl | assumption):PSO X own (.Assign [.Name x pos'] e pos) (Q2 (brw own fa) (j0 i)):=by
 with_unfolding_all
  refine PS.imp (ab7 hN hi hx (aeh (own:=own) he) hs hf) fun D σ H ⟨Hs,ρ,o,E,q,k⟩=>?_
  cases h1:brw own fa ρ with
  | none=>simp [Q2,h1] at q
  | some d=>
   have:Out.nx (ρ.set i (some d))=o:=by simpa [Q2,h1,j0] using q
   subst this
   exact ⟨Hs,ρ,d,E,h1,fun v H1 _ E1 r1=>k _ H1 (E1.set ho r1)⟩
end
section
variable {X:Cx}{e a b c tg src:Expr}{es:List Expr}{st:Stmt}{sts jZ body:List Stmt}{fa fb fc:RP}{F G:RO}{pos:Pos}{own:Option Nat}
@[irreducible] noncomputable def PGO (X:Cx) (own:Option Nat) (tg:Expr) (ga:PyData->Rho->Option Rho):Prop:=
 PG X tg fun v σ H Q=>∃ Hs ρ d ρ',EnvO X.prog X.w X.K Hs H own ρ σ/\Rep X.K H d v/\ga d ρ=some ρ'/\∀ σ' H',EnvO X.prog X.w X.K Hs H' own ρ' σ'->Q σ' H'
theorem adg (i:Nat) {x:Str} (hN:X.N.Nodup) (ho:own ≠ some i:=by decide) (hi:X.N[i]?=some x:=by rfl) (hx:Loc X.env.scope x:=by first | exact Or.inl rfl | exact Or.inr rfl)
  (hf:X.fn x=true ∨ X.env.scope.names.lookup x=some .local:=by first | exact .inl rfl | exact .inr rfl | assumption):PGO X own (.Name x pos) (j0 i):=by
 with_unfolding_all
  refine PG.imp (aak hN hi hx hf) fun v σ H Q ⟨Hs,ρ,d,ρ',E,r,q,k⟩=>?_
  cases q
  exact k _ H (E.set ho r)
theorem EnvO.rebase {P:Program}{w:World}{K:Fg}{Hs H:Hp}{ρ:Rho}{σ:St} (E:EnvO P w K Hs H own ρ σ):∃ Hb,EnvO P w K Hb H own ρ σ/\(∀ H3,jj Hb H3->jP H H3)/\
  (∀ H3 ρ3 σ3,EnvO P w K Hb H3 own ρ3 σ3->EnvO P w K Hs H3 own ρ3 σ3)/\∀ H3,jj Hb H3->jj Hs H3:=by
 cases own with
 | none=>exact ⟨H,⟨E.len,jj.refl H,E.pl,fun i z=>nomatch z⟩,fun _ s=>jj.e s,fun H3 ρ3 σ3 E3=>⟨E3.len,E.sm.trans E3.sm,E3.pl,fun i z=>nomatch z⟩,fun _ s=>E.sm.trans s⟩
 | some i=>
  obtain ⟨d,a,h1,h2,h3,h4⟩:=E.ow i rfl
  obtain ⟨c,o,S,h5,_⟩:=h4.out
  obtain ⟨φ,rfl⟩:=S.ext
  let Hb:Hp:=fun b=>if b=a then none else H b
  have ha:Hb a=none:=if_pos rfl
  have hb:∀ b,b ≠ a->Hb b=H b:=fun b n=>if_neg n
  have sH:∀ H3,jj Hb H3->jj Hs H3:=fun H3 s b u q=>by
   have n:b ≠ a:=fun z=>by subst z; rw [h3] at q; cases q
   exact s b u (by rw [hb b n]; exact E.sm b u q)
  refine ⟨Hb,⟨E.len,fun b u q=>?_,E.pl,fun j n=>?_⟩,fun H3 s b u q m=>?_,fun H3 ρ3 σ3 E3=>⟨E3.len,sH H3 E3.sm,E3.pl,fun j n=>?_⟩,sH⟩
  ·by_cases n:b=a
   ·subst n; rw [ha] at q; cases q
   ·rw [hb b n] at q; exact q
  ·cases n
   exact ⟨d,a,h1,h2,ha,h4⟩
  ·have n:b ≠ a:=fun z=>by subst z; rw [h5] at q; cases q; exact m _ rfl
   exact s b u (by rw [hb b n]; exact q)
  ·obtain ⟨d3,a3,g1,g2,g3,g4⟩:=E3.ow j n
   refine ⟨d3,a3,g1,g2,?_,g4⟩
   by_cases z:a3=a
   ·rw [z]; exact h3
   ·rw [hb a3 z] at g3
    cases q:Hs a3 with
    | none=>rfl
    | some u=>have:=E.sm _ _ q; rw [g3] at this; cases this
theorem ae8 {fi:Rho->Option (LP)}{ga:PyData->Rho->Option Rho} (hp:PassesOwn (model X.prog X.w) X.A X.env X.xe) (hc:X.calm=true) (hi:PID X tg src fi) (hg:PGO X own tg ga) (hb:acp X own body F)
  (hs:∀ x,foldedSetIterable src X.env x=pure x:=by intro _; rfl):PSO X own (.For tg src body [] pos) (ac8 (fun ρ=>fi (hid own ρ)) ga F):=by
 with_unfolding_all
  refine PS.imp (ab8 hp hc hi hg hb hs) fun D σ H ⟨Hs,ρ,o,E,q,k⟩=>?_
  cases h1:fi (hid own ρ) with
  | none=>simp [ac8,h1] at q
  | some ds=>
   have q':jI ga F ds ρ=some o:=by simpa [ac8,h1] using q
   refine ⟨hid own ρ,ds,E.hid,h1,fun J H1 s1 Y=>?_⟩
   obtain ⟨Hb,Eb,sE,back,sb⟩:=(E.mono s1).rebase
   refine ⟨fun i m σ H2=>m=ds.length - i/\i<=ds.length/\∃ ρ2,EnvO X.prog X.w X.K Hb H2 own ρ2 σ/\jI ga F (ds.drop i) ρ2=some o,⟨ds.length,by simp,Nat.zero_le _,ρ,Eb,by simpa using q'⟩,?_⟩
   rintro i m σ2 H2 ⟨rfl,hi,ρ2,en2,q2⟩
   obtain ⟨g1,g2,g3⟩:=Y i H2 (jP.a (sE H2 en2.sm))
   by_cases hlt:i<ds.length
   ·right
    have hd:ds.drop i=ds[i]::ds.drop (i+1):=List.drop_eq_getElem_cons hlt
    rw [hd] at q2
    refine ⟨g1 hlt,fun σ3 H3=>∃ ρ3,EnvO X.prog X.w X.K Hb H3 own ρ3 σ3/\jI ga F (ds.drop (i+1)) ρ3=some o,fun σ3 H3 ⟨ρ3,a2,a3⟩=>⟨ds.length - (i+1),by omega,rfl,hlt,ρ3,a2,a3⟩,fun x H3 y=>?_⟩
    obtain ⟨s3,r3⟩:=g3 x H3 y
    have r3':=r3 ds[i] (by simp [hlt])
    cases h4:ga ds[i] ρ2 with
    | none=>simp [jI,h4] at q2
    | some ρ4=>
     refine ⟨Hb,ρ2,ds[i],ρ4,en2.mono s3,r3',h4,fun σ5 H5 en5=>?_⟩
     cases h5:F ρ4 with
     | none=>simp [jI,h4,h5] at q2
     | some p=>
      refine ⟨Hb,ρ4,p,en5,h5,?_⟩
      cases p with
      | nx ρ6=>exact fun σ6 H6 en6=>⟨ρ6,en6,by simpa [jI,h4,h5] using q2⟩
      | ct ρ6=>exact fun σ6 H6 en6=>⟨ρ6,en6,by simpa [jI,h4,h5] using q2⟩
      | bk ρ6=>
       have:Out.nx ρ6=o:=by simpa [jI,h4,h5] using q2
       subst this
       exact fun σ6 H6 en6=>k σ6 H6 (back _ _ _ en6)
      | rt d=>
       have:Out.rt d=o:=by simpa [jI,h4,h5] using q2
       subst this
       exact fun v H6 s6 r6=>k v H6 (sb _ s6) r6
   ·left
    have he:i=ds.length:=by omega
    have hn:ds.drop i=[]:=by rw [he]; simp
    rw [hn] at q2
    have:Out.nx ρ2=o:=by simpa [jI] using q2
    subst this
    exact ⟨g2 (by omega),k σ2 H2 (back _ _ _ en2)⟩
end
theorem Q0 {H:Hp}{a:Addr}{o o':HO}:upd (upd H a o) a o'=upd H a o':=by
 funext b
 by_cases h:b=a
 ·subst h; rw [jr,jr]
 ·rw [jm h,jm h,jm h]
section
variable {P:Program}{w:World}{K:Fg}{Hs H:Hp}{ρ:Rho}{σ:St}{i:Nat}
theorem EnvO.put {a:Addr}{d d':PyData}{φ:Heap->Prop}{H3:Hp}{c:HO} (E:EnvO P w K Hs H (some i) ρ σ) (h0:ρ[i]?=some (some d)) (h2:σ[i]?=some (some (.ref a))) (h3:Hs a=none) (h5:H a=some (.ext φ))
  (s3:∀ b u,b ≠ a->H b=some u->H3 b=some u) (ow:Q5 P w K (upd H3 a c) a d'):EnvO P w K Hs (upd H3 a c) (some i) (ρ.set i (some d')) σ:=by
 have hi:i < ρ.length:=(List.getElem?_eq_some_iff.mp h0).1
 have s4:jP H (upd H3 a c):=fun b u q m=>by
  have:b ≠ a:=fun z=>by subst z; rw [h5] at q; cases q; exact m _ rfl
  rw [jm this]; exact s3 b u this q
 refine ⟨by simp [E.len],fun b u q=>?_,fun j x q n=>?_,fun j n=>?_⟩
 ·have:b ≠ a:=fun z=>by subst z; rw [h3] at q; cases q
  rw [jm this]; exact s3 b u this (E.sm b u q)
 ·have hj:i ≠ j:=fun z=>n (by rw [z])
  rw [List.getElem?_set_ne hj] at q
  obtain ⟨v,g1,g2⟩:=E.pl j x q n
  exact ⟨v,g1,Rep.monoE s4 _ _ g2⟩
 ·cases n
  exact ⟨d',a,by rw [List.getElem?_set_self hi],h2,h3,ow⟩
theorem EnvO.opnL {ds:LP} (E:EnvO P w K Hs H (some i) ρ σ) (h:ρ[i]?=some (some (.list ds))):∃ a xs,σ[i]?=some (some (.ref a))/\Hs a=none/\H a=some (QN a xs)/\Reps K H ds xs/\EnvR K (upd H a (.lst xs)) ρ σ:=by
 obtain ⟨d,a,h1,h2,h3,h4⟩:=E.ow i rfl
 rw [h] at h1; cases h1
 obtain ⟨xs,h5,h6⟩:=h4
 have s1:jP H (upd H a (.lst xs)):=jP.upd h5
 refine ⟨a,xs,h2,h3,h5,h6,E.len,fun j x q=>?_⟩
 by_cases hj:i=j
 ·subst hj
  rw [h] at q; cases q
  exact ⟨.ref a,h2,a,xs,rfl,jr,Reps.monoE s1 _ _ h6⟩
 ·obtain ⟨v,g1,g2⟩:=E.pl j x q (fun z=>hj (Option.some.inj z))
  exact ⟨v,g1,Rep.monoE s1 _ _ g2⟩
end
section
variable {X:Cx}{e a b c tg src:Expr}{es:List Expr}{st:Stmt}{sts jZ body:List Stmt}{fa fb fc:RP}{F G:RO}{pos:Pos}
noncomputable def ami (P:Program) (w:World) (K:Fg) (i:Nat) (g:RP):TE:=fun σ H Q=>∃ Hs ρ d',EnvO P w K Hs H (some i) ρ σ/\g ρ=some d'/\∀ H',EnvO P w K Hs H' (some i) (ρ.set i (some d')) σ->Q .non H'
noncomputable def ahk (i:Nat) (g:RP):RO:=fun ρ=>(g ρ).map fun d=> .nx (ρ.set i (some d))
theorem ae9 {i:Nat}{g:RP} (h:PE X e (ami X.prog X.w X.K i g)) (hs:swapsWith e none pos.line X.env=pure false:=by rfl):PSO X (some i) (.Expr e pos) (ahk i g):=by
 with_unfolding_all
  refine PS.imp (ab6 h hs) fun D σ H ⟨Hs,ρ,o,E,q,k⟩=>?_
  cases h1:g ρ with
  | none=>simp [ahk,h1] at q
  | some d=>
   have:Out.nx (ρ.set i (some d))=o:=by simpa [ahk,h1] using q
   subst this
   exact ⟨Hs,ρ,d,E,h1,fun H' E'=>k σ H' E'⟩
noncomputable def aei (c d:OP):OP:=match c,d with
 | some (.list ds),some d=>if noL d=true/\ds.length<1000000 then some (.list (ds++[d])) else none
 | _,_=>none
noncomputable def akQ (i:Nat) (fa:RP):RP:=fun ρ=>aei (lkp i ρ) (fa ρ)
theorem ahl {c d:OP}{r:PyData} (h:aei c d=some r):∃ ds x,c=some (.list ds)/\d=some x/\noL x=true/\ds.length<1000000/\r= .list (ds++[x]):=by
 unfold aei at h
 split at h
 ·split at h
  ·rename_i hc
   cases h
   exact ⟨_,_,rfl,rfl,hc.1,hc.2,rfl⟩
  ·cases h
 ·cases h
theorem aaK {n:Nat} (h:n<1000000):n<sizeLine:=Nat.lt_of_lt_of_le h (by rw [sizeLine_eq]; decide)
theorem abD (i:Nat) {x:Str}{p1 apos cpos:Pos} (h:PD X e fa) (hN:X.N[i]?=some x:=by rfl) (hv:Vis X.env.scope x:=by first | exact Or.inl rfl | exact Or.inr (Or.inl rfl) | exact Or.inr (Or.inr rfl)) (hd:(x == ("__debug__":Str))=false:=by decide)
  (hcd:(x == ("__classdict__":Str))=false:=by decide) (hbase:attributeBase (.Name x p1) "append" X.env (eval (.Name x p1) X.env)=eval (.Name x p1) X.env:=by rfl)
  (hfew:((backTo cpos (starEach [e] X.env)).all (fun x=>!x.1) && (backToKw cpos (keywordEach [] X.env)).all (fun x=>x.1.isSome) && decide ([e].length+([]:List Keyword).length+(if ([]:List Keyword).isEmpty then 0 else 1)<30))=true:=by rfl)
  (hline:(apos.endLine == cpos.line)=true:=by rfl) (hs:starEach [e] X.env=(false,eval e X.env)::starEach [] X.env:=by rfl) (hplain:(backTo cpos (starEach [] X.env)).any (·.1)=false:=by rfl):
  PE X (.Call (.Attribute (.Name x p1) "append" apos) [e] [] cpos) (ami X.prog X.w X.K i (akQ i fa)):=by
 with_unfolding_all
  intro Kp s σ H Q I ⟨Hs,ρ,d',E,hg,k⟩
  obtain ⟨ds,d,q1,q2,hn,hl,rfl⟩:=ahl hg
  obtain ⟨a,xs,g2,g3,g4,g5,env⟩:=E.opnL (zy q1)
  have hlen:=g5.length
  have W:=agP (X:=X) (cpos:=cpos) (apos:=apos) PySem.F.plainAttrs_list PySem.F.slot_list_append PySem.F.type_list_append abw (ab2 hN hv hd hcd) (qr h zM hs) hbase hfew hline hs hplain
  refine thn (W Kp s σ (upd H a (.lst xs)) (fun v H4=>∃ H3 y,v= .non/\H4=upd H3 a (.lst (xs++[y]))/\jj (upd H a (.lst xs)) H3/\Rep X.K H3 d y) (Inv.opened I (.l xs) g4)
   ⟨.ref a,g2,.inl ⟨rfl,_,SqL.of jr⟩,ρ,d,env,q2,fun y H3 s3 r3=>⟨a,xs,y,rfl,rfl,s3 _ _ jr,by rw [hlen]; exact aaK hl,H3,y,rfl,rfl,s3,r3⟩⟩) fun u s1 ⟨v,H4,I4,r,H3,y,e1,e2,s3,r3⟩=>?_
  subst e1
  have e4:H4 a=some (.lst (xs++[y])):=by rw [e2]; exact jr
  have sb:∀ b u,b ≠ a->H b=some u->H4 b=some u:=fun b u n q=>by rw [e2,jm n]; exact s3 b u (by rw [jm n]; exact q)
  refine ⟨.non,upd H4 a (QN a (xs++[y])),Inv.closed I4 (.l _) e4 (Inv.nofrz I g4),r,k _ (E.put (zy q1) g2 g3 g4 sb ⟨xs++[y],jr,?_⟩)⟩
  have s5:jP H (upd H4 a (QN a (xs++[y]))):=fun b u q m=>by
   have:b ≠ a:=fun z=>by subst z; rw [g4] at q; cases q; exact m _ rfl
   rw [jm this]; exact sb b u this q
  have s6:zA H3 (upd H4 a (QN a (xs++[y]))):=fun b u q m=>by
   have e3:H3 a=some (.lst xs):=s3 _ _ jr
   have:b ≠ a:=fun z=>by subst z; rw [e3] at q; cases q; exact m _ rfl
   rw [jm this,e2,jm this]; exact q
  exact (Reps.monoE s5 _ _ g5).append ⟨y,[],rfl,Rep.monoN s6 _ _ hn r3,rfl⟩
end
section
variable {X:Cx}{e a b c tg src:Expr}{es:List Expr}{st:Stmt}{sts jZ body:List Stmt}{fa fb fc:RP}{F G:RO}{pos:Pos}
@[irreducible] noncomputable def PN (X:Cx) (e:Expr) (f:RP):Prop:=
 PE X e fun σ H Q=>∃ ρ d,EnvR X.K H ρ σ/\f ρ=some d/\∀ a H',jj H H'->H a=none->Q5 X.prog X.w X.K H' a d->Q (.ref a) H'
theorem ahm:PN X (.Dict [] [] pos) (cst (.dict [(.none,.none)])):=by
 with_unfolding_all
  intro Kp s σ H Q I ⟨ρ,d,en,hf,k⟩
  cases hf
  refine thn (agU Kp s σ H (fun v H2=>∃ a,v= .ref a/\H a=none/\H2=upd H a (.dK [])) I (fun l hl=>⟨l,rfl,hl,rfl⟩)) fun u s1 ⟨v,H2,I2,r,a,e1,e2,e3⟩=>?_
  subst e1
  have e4:H2 a=some (.dK []):=by rw [e3]; exact jr
  obtain ⟨ob,I3⟩:=Inv.sealedD I2 e4
  have s2:jj H (upd H2 a (Z2 X.prog X.w a ob [])):=by rw [e3,Q0]; exact jA e2
  exact ⟨.ref a,_,I3,r,k a _ s2 e2 ⟨[],[],ob,rfl,jr,rfl⟩⟩
noncomputable def acq (i:Nat) (f:RP) (G:RO):RO:=fun ρ=>(f ρ).bind fun d=>if i < ρ.length then (G (ρ.set i (some d))).bind fun o=>match o with
  | .rt c=>some (.rt c)
  | _=>none
 else none
theorem adh (i:Nat) {x:Str}{pos':Pos} (hN:X.N.Nodup) (he:PN X e fa) (h:acp X (some i) jZ G) (hi:X.N[i]?=some x:=by rfl) (hx:Loc X.env.scope x:=by first | exact Or.inl rfl | exact Or.inr rfl) (hs:swapsWith e (some (.Name x pos')) pos.line X.env=pure false:=by rfl)
  (hf:X.fn x=true ∨ X.env.scope.names.lookup x=some .local:=by first | exact .inl rfl | exact .inr rfl | assumption):acp X none (.Assign [.Name x pos'] e pos::jZ) (acq i fa G):=by
 with_unfolding_all
  refine PSs.imp (JW (ab7 hN hi hx he hs hf) h) fun D σ H ⟨Hs,ρ,o,E,q,k⟩=>?_
  cases h1:fa ρ with
  | none=>simp [acq,h1] at q
  | some d=>
   by_cases hl:i < ρ.length
   ·cases h2:G (ρ.set i (some d)) with
    | none=>simp [acq,h1,h2] at q
    | some p=>
     cases p with
     | rt c=>
      have:Out.rt c=o:=by simpa [acq,h1,h2,hl] using q
      subst this
      refine ⟨ρ,d,E.to,h1,fun a H' s hn ow=>⟨Hs,ρ.set i (some d),.rt c,⟨by simp [E.len],E.sm.trans s,fun j y q n=>?_,fun j n=>?_⟩,h2,k⟩⟩
      ·have hj:i ≠ j:=fun z=>n (by rw [z])
       rw [List.getElem?_set_ne hj] at q ⊢
       obtain ⟨v,g1,g2⟩:=E.pl j y q (fun z=>nomatch z)
       exact ⟨v,g1,Rep.mono s _ _ g2⟩
      ·cases n
       refine ⟨d,a,by rw [List.getElem?_set_self hl],by rw [List.getElem?_set_self (by rw [←E.len]; exact hl)],E.sm.free hn,ow⟩
     | nx _=>simp [acq,h1,h2,hl] at q
     | bk _=>simp [acq,h1,h2,hl] at q
     | ct _=>simp [acq,h1,h2,hl] at q
   ·simp [acq,h1,hl] at q
noncomputable def isI (n:Int):PyData->Bool
 | .int m=>decide (m=n)
 | _=>false
noncomputable def isS (t:Str):PyData->Bool
 | .str m=>decide (m=t)
 | _=>false
noncomputable def zR (κ:Key) (d:PyData):Bool:=match κ with
 | .inl n=>isI n d
 | .inr t=>isS t d
theorem zB (κ κ':Key):zR κ (aaA κ')=decide (κ'=κ):=by
 cases κ <;> cases κ' <;> simp [zR,isI,isS,aaA]
noncomputable def qo (r:List (PyData × PyData)) (κ:Key):OP:=(r.find? fun p=>zR κ p.1).map (·.2)
noncomputable def Jq (r:List (PyData × PyData)) (κ:Key) (d:PyData):List (PyData × PyData):=if r.any (fun p=>zR κ p.1)=true then r.map (fun p=>if zR κ p.1=true then (p.1,d) else p) else r++[(aaA κ,d)]
noncomputable def am8 (r:List (PyData × PyData)) (n:Int) (d:PyData):List (PyData × PyData):=if r.any (fun p=>isI n p.1)=true then r.map (fun p=>if isI n p.1=true then (p.1,d) else p) else r++[(.int n,d)]
theorem ZF {K:Fg}{H:Hp} (n:Key):∀ {r:List (PyData × PyData)}{ks:List (Key × V)},RepM K H r ks->(qo r n=none/\JC ks n=none) ∨ ∃ d x,qo r n=some d/\JC ks n=some x/\Rep K H d x
 | [],ks,h=>by cases (show ks=[] from h); exact .inl ⟨rfl,rfl⟩
 | (k,d)::r,ks,⟨i,x,s,h1,h2,h3,h4⟩=>by
  subst h1; subst h2
  by_cases hn:i=n
  ·subst hn
   exact .inr ⟨d,x,by simp [qo,zB],by simp [JC],h3⟩
  ·have e1:qo ((aaA i,d)::r) n=qo r n:=by simp [qo,zB,hn,List.find?_cons]
   have e2:JC ((i,x)::s) n=JC s n:=by simp [JC,List.find?_cons,hn]
   rw [e1,e2]
   exact ZF n h4
theorem RepM.anyK {K:Fg}{H:Hp} (n:Key):∀ {r:List (PyData × PyData)}{ks:List (Key × V)},RepM K H r ks->r.any (fun p=>zR n p.1)=ks.any fun kv=>decide (kv.1=n)
 | [],ks,h=>by cases (show ks=[] from h); rfl
 | (k,d)::r,ks,⟨i,x,s,h1,h2,h3,h4⟩=>by
  subst h1; subst h2
  rw [List.any_cons,List.any_cons,RepM.anyK n h4,zB]
theorem RepM.any {K:Fg}{H:Hp} (n:Int) {r:List (PyData × PyData)}{ks:List (Key × V)} (h:RepM K H r ks):r.any (fun p=>isI n p.1)=ks.any fun kv=>decide (kv.1=(Sum.inl n:Key)):=RepM.anyK (.inl n) h
theorem RepM.replK {K:Fg}{H:Hp} (n:Key) {d':PyData}{x':V} (hr:Rep K H d' x'):∀ {r:List (PyData × PyData)}{ks:List (Key × V)},RepM K H r ks->
  RepM K H (r.map fun p=>if zR n p.1=true then (p.1,d') else p) (ks.map fun kv=>if kv.1=n then (kv.1,x') else kv)
 | [],ks,h=>by cases (show ks=[] from h); exact rfl
 | (k,d)::r,ks,⟨i,x,s,h1,h2,h3,h4⟩=>by
  subst h1; subst h2
  by_cases hn:i=n
  ·subst hn
   have c1:zR i ((aaA i,d):PyData × PyData).1=true:=by simp [zB]
   rw [List.map_cons,List.map_cons,if_pos c1,if_pos rfl]
   exact ⟨i,x',_,rfl,rfl,hr,RepM.replK i hr h4⟩
  ·have c1:¬ zR n ((aaA i,d):PyData × PyData).1=true:=by simp [zB,hn]
   rw [List.map_cons,List.map_cons,if_neg c1,if_neg hn]
   exact ⟨i,x,_,rfl,rfl,h3,RepM.replK n hr h4⟩
theorem RepM.snocK {K:Fg}{H:Hp} (n:Key) {d':PyData}{x':V} (hr:Rep K H d' x'):∀ {r:List (PyData × PyData)}{ks:List (Key × V)},RepM K H r ks->RepM K H (r++[(aaA n,d')]) (ks++[(n,x')])
 | [],ks,h=>by cases (show ks=[] from h); exact ⟨n,x',[],rfl,rfl,hr,rfl⟩
 | (k,d)::r,ks,⟨i,x,s,h1,h2,h3,h4⟩=>by
  subst h2
  exact ⟨i,x,_,h1,rfl,h3,RepM.snocK n hr h4⟩
theorem RepM.putK {K:Fg}{H:Hp} (n:Key) {d':PyData}{x':V} (hr:Rep K H d' x') {r:List (PyData × PyData)}{ks:List (Key × V)} (h:RepM K H r ks):RepM K H (Jq r n d') (_root_.L2.putK ks n x'):=by
 unfold Jq _root_.L2.putK
 rw [h.anyK n]
 by_cases c:(ks.any fun kv=>decide (kv.1=n))=true
 ·rw [if_pos c,if_pos c]; exact h.replK n hr
 ·rw [if_neg c,if_neg c]; exact h.snocK n hr
theorem RepM.put {K:Fg}{H:Hp} (n:Int) {d':PyData}{x':V} (hr:Rep K H d' x') {r:List (PyData × PyData)}{ks:List (Key × V)} (h:RepM K H r ks):RepM K H (am8 r n d') (_root_.L2.putK ks (Sum.inl n) x'):=RepM.putK (.inl n) hr h
theorem RepM.length {K:Fg}{H:Hp}:∀ {r:List (PyData × PyData)}{ks:List (Key × V)},RepM K H r ks->ks.length=r.length
 | [],ks,h=>by cases (show ks=[] from h); rfl
 | (k,d)::r,ks,⟨i,x,s,h1,h2,h3,h4⟩=>by subst h2; simp [RepM.length h4]
end
noncomputable def aao:PyData->Option (List (PyData × PyData))
 | .dict ((.none,_)::r)=>some r
 | _=>none
theorem Z3 {K:Fg}{H:Hp}{d:PyData}{r:List (PyData × PyData)}{v:V} (h:aao d=some r) (q:Rep K H d v):∃ a ks ob,v= .ref a/\H a=some (.frz ob (.dK ks))/\RepM K H r ks:=by
 unfold aao at h
 split at h
 ·cases h
  obtain ⟨a,h1,⟨ns,h2,h3⟩ | ⟨ks,ob,h2,h3⟩ | ⟨x,h2,_⟩ | ⟨x,_,_,h2,_⟩ | h2⟩:=q
  ·cases ns with
   | nil=>cases h3
   | cons n ns=>cases h3
  ·exact ⟨a,ks,ob,h1,h2,h3⟩
  ·cases h2
  ·cases h2
  ·cases h2
 ·cases h
section
variable {X:Cx}{e a b c tg src:Expr}{es:List Expr}{fa fb fc:RP}{pos:Pos}
end
section
variable {X:Cx}{e a b c tg src:Expr}{es:List Expr}{fa fb fc:RP}{pos:Pos}
end
end BX
end
section
namespace BX
open PySem PySem.Spec L2
section
open PyProof.Rows hiding St
variable {X:Cx}{e a b c tg src:Expr}{es:List Expr}{fa fb fc:RP}{pos:Pos}{jZ:List Expr}
end
end BX
end
section
namespace BX
open PySem PySem.Spec L2
open PyProof.Rows hiding St
section
variable {X:Cx}{e a b c tg src:Expr}{es:List Expr}{fa fb fc:RP}{pos:Pos}{jZ:List Expr}
noncomputable def aej (fa fb:RP):RP:=fun ρ=>(fa ρ).bind fun x=>(asB x).bind fun t=>if t=true then fb ρ else some (.bool false)
theorem akR {op:BoolOp} (ha:PD X a fa):PD X (.BoolOp op [a] pos) fa:=by
 with_unfolding_all exact (akh ha)
theorem akS (ha:PD X a fa) (hb:PD X (.BoolOp .And (b::jZ) pos) fb):PD X (.BoolOp .And (a::b::jZ) pos) (aej fa fb):=by
 with_unfolding_all
  refine PE.imp (aki ha hb) fun σ H Q ⟨ρ,d,en,h,k⟩=>?_
  cases h1:fa ρ with
  | none=>simp [aej,h1] at h
  | some x=>
   cases h2:asB x with
   | none=>simp [aej,h1,h2] at h
   | some t=>
    have hx:=Jo h2
    subst hx
    refine ⟨ρ,_,en,h1,fun v H1 s1 r1=>⟨t,r1,?_⟩⟩
    cases t with
    | true=>rw [if_pos rfl]; exact ⟨ρ,d,en.mono s1,by simpa [aej,h1,h2] using h,fun v H2 s2 r2=>k v H2 (s1.trans s2) r2⟩
    | false=>
     rw [if_neg Bool.false_ne_true]
     have:PyData.bool false=d:=by simpa [aej,h1,h2] using h
     subst this
     exact k _ H1 s1 rfl
noncomputable def aek:PyData->Bool
 | .none=>true
 | _=>false
theorem ahn {K:Fg}{H:Hp}{p:PyData}{x:V} (r:Rep K H p x):decide (x= .non)=aek p:=by
 cases p with
 | none=>cases (show x= .non from r); rfl
 | bool b=>cases (show x=_ from r); rfl
 | int b=>cases (show x=_ from r); rfl
 | str b=>cases (show x=_ from r); rfl
 | tuple ds=>obtain ⟨a,xs,h,_⟩:=r; subst h; rfl
 | list ds=>obtain ⟨a,xs,h,_⟩:=r; subst h; rfl
 | dict ds=>obtain ⟨a,h,_⟩:=r; subst h; rfl
noncomputable def aho (p q:PyData):OP:=match q with
 | .none=>some (.bool (aek p))
 | _=>none
theorem afa:OpD X (compareOp .Is) aho:=by
 refine ⟨_,akv,fun p q d x y H Q h rx ry k=>?_⟩
 unfold aho at h
 split at h
 ·cases h
  exact ⟨ry,by rw [ahn rx]; exact k _ H (jj.refl H) rfl⟩
 ·cases h
end
section
variable {X:Cx}{e a b c tg src:Expr}{es:List Expr}{fa fb fc:RP}{pos:Pos}
end
section
variable {X:Cx}{e a b c tg src:Expr}{es:List Expr}{fa fb fc:RP}{pos:Pos}
theorem Reps.set {K:Fg}{H:Hp}{d:PyData}{v:V} (r:Rep K H d v):∀ {ds:LP}{xs:List V} (j:Nat),Reps K H ds xs->Reps K H (ds.set j d) (xs.set j v)
 | [],xs,j,h=>by cases (show xs=[] from h); exact rfl
 | _::ds,xs,0,⟨x,q,h1,h2,h3⟩=>by subst h1; exact ⟨v,q,rfl,r,h3⟩
 | _::ds,xs,j+1,⟨x,q,h1,h2,h3⟩=>by subst h1; exact ⟨x,_,rfl,h2,Reps.set r j h3⟩
noncomputable def ael (ds:LP):OP:=match ds with
 | [.list xs]=>some (.tuple xs)
 | [.tuple xs]=>some (.tuple xs)
 | _=>none
theorem ahp:Z1 X (.type "tuple") ael:=by
 refine ⟨_,abd,fun ds d xs H Q h r k=>?_⟩
 unfold ael at h
 split at h
 ·cases h
  obtain ⟨x,q,e1,e2,e3⟩:=r
  cases (show q=[] from e3)
  obtain ⟨a,us,g1,g2,g3⟩:=e2
  subst g1
  refine ⟨a,us,e1,.inl ⟨SqL.of g2,fun l hl=>?_⟩⟩
  have s1:=jA (o:= .tup us) hl
  exact k _ _ s1 ⟨l,us,rfl,SqT.of jr,Reps.mono s1 _ _ g3⟩
 ·cases h
  obtain ⟨x,q,e1,e2,e3⟩:=r
  cases (show q=[] from e3)
  obtain ⟨a,us,g1,g2,g3⟩:=e2
  subst g1
  exact ⟨a,us,e1,.inr ⟨g2,k _ H (jj.refl H) ⟨a,us,rfl,g2,g3⟩⟩⟩
 ·cases h
end
section
variable {X:Cx}{e a b c:Expr}{fa fb fc:RP}{pos p2:Pos}
noncomputable def QV (ds:LP) (lo hi:Option Int):LP:=(ds.drop (HT.sIx ds.length 0 lo)).take (HT.sIx ds.length ds.length hi - HT.sIx ds.length 0 lo)
noncomputable def inI:PyData->Option Int
 | .int i=>some i
 | _=>none
theorem zC {d:PyData}{i:Int} (h:inI d=some i):d= .int i:=by cases d <;> simp [inI] at h; rw [h]
end
section
variable {prog:Program}{w:World}{A:Around}{E:Value->SP0}{s:Shared}
noncomputable def ItA (g:Bool) (h:Heap) (i t:Addr) (k:Nat):Prop:=match g with
 | true=>h.IsListIter i t k
 | false=>h.IsTupleIter i t k
noncomputable def SrA (g:Bool) (h:Heap) (t:Addr) (xs:Array Value):Prop:=match g with
 | true=>h.IsList t xs
 | false=>h.IsTuple t xs
theorem ItA.to {g:Bool}{h h':Heap}{i t:Addr}{k:Nat} (x:ItA g h i t k) (kp:∀ o,h.get? i=some o->h'.get? i=some o):ItA g h' i t k:=by
 cases g <;> exact (let ⟨o,e,r⟩:=x; ⟨o,kp o e,r⟩)
theorem SrA.to {g:Bool}{h h':Heap}{t:Addr}{xs:Array Value} (x:SrA g h t xs) (kp:∀ o,h.get? t=some o->h'.get? t=some o):SrA g h' t xs:=by
 cases g <;> exact (let ⟨o,e,r⟩:=x; ⟨o,kp o e,r⟩)
theorem ItA.extBut {g:Bool}{h h':Heap}{i t b:Addr}{k:Nat} (x:ItA g h i t k) (e:Heap.ExtBut b h h') (n:i ≠ b):ItA g h' i t k:=x.to fun o q=>e i o n q
theorem SrA.extBut {g:Bool}{h h':Heap}{t b:Addr}{xs:Array Value} (x:SrA g h t xs) (e:Heap.ExtBut b h h') (n:t ≠ b):SrA g h' t xs:=x.to fun o q=>e t o n q
theorem ItA.obj {g:Bool}{h:Heap}{i t:Addr}{k:Nat} (x:ItA g h i t k):∃ o vs,h.get? i=some o/\o.data= .fields vs:=by
 cases g <;> exact (let ⟨o,e,_,d⟩:=x; ⟨o,_,e,d⟩)
structure Apart2 (z TI TO i1 i2 t1 t2:Addr):Prop where
 nd:[z,TO,i1,i2].Nodup
 ti:TI ∉ [z,TO,i1,i2]
 s1:t1 ∉ [z,TO,i1,i2]
 s2:t2 ∉ [z,TO,i1,i2]
structure Zip2 (ga gb:Bool) (h:Heap) (z TI TO i1 i2 t1 t2:Addr) (f0:Value) (k:Nat):Prop where
 hz:IsZip h z TI TO f0
 hTI:IsPair h TI (.ref i1) (.ref i2)
 hTO:∃ a b,IsPair h TO a b
 g1:ItA ga h i1 t1 k
 g2:ItA gb h i2 t2 k
theorem Zip2.keep {ga gb:Bool}{h h':Heap}{z TI TO i1 i2 t1 t2:Addr}{f0:Value}{k:Nat} (S:Zip2 ga gb h z TI TO i1 i2 t1 t2 f0 k) (kp:∀ b ∈ [z,TI,TO,i1,i2],∀ o,h.get? b=some o->h'.get? b=some o):
  Zip2 ga gb h' z TI TO i1 i2 t1 t2 f0 k:=by
 obtain ⟨hz,hTI,⟨a,b,hTO⟩,g1,g2⟩:=S
 exact ⟨kp z (by simp) _ hz,kp TI (by simp) _ hTI,⟨a,b,kp TO (by simp) _ hTO⟩,g1.to (kp i1 (by simp)),g2.to (kp i2 (by simp))⟩
end
noncomputable def Sq (g:Bool) (K:Fg) (H:Hp) (t:Addr) (xs:List V):Prop:=match g with
 | true=>SqL K H t xs
 | false=>SqT K H t xs
theorem Sq.inj {g:Bool}{X:Cx}{Kp:List (Addr × Obj)}{σ:St}{H:Hp}{s:Shared}{a:Addr}{xs ys:List V} (I:Inv X Kp σ H s) (q:Sq g X.K H a xs) (q':Sq g X.K H a ys):xs=ys:=by
 cases g with
 | true=>exact I.list_inj q q'
 | false=>exact I.tuple_inj q q'
theorem Sq.monoE {g:Bool}{K:Fg}{H H':Hp}{a:Addr}{xs:List V} (e:jP H H') (h:Sq g K H a xs):Sq g K H' a xs:=by
 cases g with
 | true=>exact jP.sql e h
 | false=>exact jP.tup e h
theorem Sq.monoA {g:Bool}{K:Fg}{H H':Hp}{a:Addr}{xs:List V} (e:jB H H') (h:Sq g K H a xs):Sq g K H' a xs:=by
 cases g with
 | true=>exact jB.sql e h
 | false=>exact jB.tup e h
theorem Sq.at {g:Bool}{K:Fg}{H:Hp}{a:Addr}{xs:List V} (h:Sq g K H a xs):(∃ u,H a=some u) ∨ ∃ o,K.lookup a=some o:=by
 cases g with
 | true=>rcases h with (e | ⟨o,e⟩) | ⟨o,its,n,hk,_⟩ <;> first | exact .inl ⟨_,e⟩ | exact .inr ⟨_,hk⟩
 | false=>rcases h with (e | ⟨o,e⟩) | ⟨o,its,n,hk,_⟩ <;> first | exact .inl ⟨_,e⟩ | exact .inr ⟨_,hk⟩
section
variable {X:Cx}
end
section
variable {X:Cx}{e a b c:Expr}{fa fb fc:RP}{pos p2:Pos}
noncomputable def Q6 (p:PyData) (lo hi:Option Int):OP:=match p with
 | .list ds=>some (.list (QV ds lo hi))
 | _=>none
noncomputable def qI (fa fb:RP):RP:=fun ρ=>(fa ρ).bind fun p=>(fb ρ).bind fun q=>(inI q).bind fun i=>Q6 p (some i) none
theorem JG (ha:PD X a fa) (hb:PD X b fb):PD X (.Subscript a (.Slice (some b) none none p2) pos) (qI fa fb):=by
 with_unfolding_all
  refine PE.imp (Jn acb ha (zt hb) aal) fun σ H Q ⟨ρ,d,en,q,k⟩=>?_
  cases h1:fa ρ with
  | none=>simp [qI,h1] at q
  | some y=>
   cases h2:fb ρ with
   | none=>simp [qI,h1,h2] at q
   | some z=>
    cases h3:inI z with
    | none=>simp [qI,h1,h2,h3] at q
    | some i=>
     have q':Q6 y (some i) none=some d:=by simpa [qI,h1,h2,h3] using q
     have hz:=zC h3
     subst hz
     refine ⟨ρ,y,en,h1,fun v H1 s1 r1=>⟨ρ,_,en.mono s1,h2,fun u H2 s2 r2=>?_⟩⟩
     cases (show u=_ from r2)
     unfold Q6 at q'
     split at q'
     ·rename_i ds
      cases q'
      obtain ⟨l,xs,e1,e2,e3⟩:=Rep.mono s2 _ _ r1
      have hl:=e3.length
      refine ⟨i,rfl,l,xs,e1,SqL.of e2,fun p hp=>?_⟩
      have s3:=jA (o:= .lst (Zy xs (some i) none)) hp
      have rr:Reps X.K H2 (QV ds (some i) none) (Zy xs (some i) none):=by
       unfold Zy QV
       rw [hl]
       exact (e3.drop _).take _
      exact k _ _ (s1.trans (s2.trans s3)) ⟨p,_,rfl,jr,Reps.mono s3 _ _ rr⟩
     ·cases q'
theorem Qp:∀ {is:List Int}{us:List Value},jD (is.map V.int) us->∀ (j:Nat) (i:Int),is[j]?=some i->∃ t,us[j]?=some (.int i t)
 | [],us,r,j,i,h=>by simp at h
 | i0::is,u::us,.cons r rr,j,i,h=>by
  cases j with
  | zero=>cases h; obtain ⟨t,rfl⟩:=r; exact ⟨t,rfl⟩
  | succ j=>exact Qp rr j i (by simpa using h)
end
structure OneCell (sc:Scope) (y0:Str) (pre post:List (Str × NameKind)):Prop where
 split:sc.names=pre++(y0,.cell)::post
 pre:∀ x ∈ pre,x.2 ≠ .cell
 post:∀ x ∈ post,x.2 ≠ .cell
structure CompOk1 (X:Cx) (sc:Scope) (N':List Str) (cap:List (Option Nat)) (y0:Str):Prop where
 fr:∀ x ∈ sc.names,x.2= .free->X.env.kindOf x.1=some .cell ∨ X.env.kindOf x.1=some .free
 one:∃ pre post,OneCell sc y0 pre post
 lk:sc.names.lookup y0=some .cell
 kind:sc.kind= .function
 nm:∀ x ∈ sc.names,x.2= .local->sc.names.lookup x.1=some .local
 len:cap.length=N'.length
 cp:∀ (j i:Nat) (x:Str),N'[j]?=some x->cap[j]?=some (some i)->X.N[i]?=some x/\sc.names.lookup x=some .free
section
variable {X:Cx}{e:Expr}{fa:RP}
end
section
variable {X:Cx}{tg src:Expr}{pos pos':Pos}
end
structure Mine (X:Cx) (H:Hp) (b:Addr):Prop where
 un:H b=none
 new:X.s₀.heap.get? b=none
 loc:b ≠ X.env.locals
 cel:∀ x c,X.env.cells.lookup x=some c->c ≠ b
 pin:∀ p ∈ X.pn,p.1 ≠ b
structure Xc (X:Cx) (H:Hp) (h:Heap) (e C:Addr):Prop where
 mine:Mine X H e
 ob:∃ oe vs,h.get? e=some oe/\(oe.cls= .ref C/\oe.dict=none)/\oe.data= .fields vs/\1<vs.size/\
  (vs[1]?=some .none ∨ ∃ T oT ts,vs[1]?=some (.ref T)/\T ≠ e/\Mine X H T/\h.get? T=some oT/\oT.data= .fields ts/\3<ts.size)
theorem Inv.exIn {X:Cx}{Kp:List (Addr × Obj)}{σ:St}{H:Hp}{s:Shared}{ch:List Addr} (I:Inv X Kp σ H s) (hn:∀ b ∈ ch,X.s₀.heap.get? b=none/\b ≠ X.env.locals/\∀ x c,X.env.cells.lookup x=some c->c ≠ b):Inv { X with ex:=ch++X.ex } Kp σ H s:=by
 have no:∀ b,b ∉ ch++X.ex->b ∉ X.ex:=fun b h z=>h (List.mem_append_right _ z)
 refine ⟨⟨I.ok.mod,I.ok.kind,I.ok.glob,I.ok.blt,I.ok.above,I.ok.inj,I.ok.has,I.ok.cab,I.ok.hd,I.ok.frames,I.ok.stk,fun b hb=>?_,I.ok.bs,I.ok.bsz,fun b o e hb=>?_,fun b hb z=>?_,I.ok.funs,I.ok.frf⟩,I.os,I.bare,
  ⟨fun b o e n hf hx=>I.base.keep b o e n hf (no b hx),fun b o e n hf hx=>I.base.slot b o e n hf (no b hx),fun b o e n hx=>I.base.free b o e n (no b hx),fun b o e hx=>I.base.there b o e (no b hx),I.base.tups,I.base.frzs,I.base.tbls⟩,I.loc,I.cell,I.free,I.freeC,I.pin,I.hok,I.len⟩
 ·rcases List.mem_append.mp hb with q | q
  ·exact (hn b q).2
  ·exact I.ok.exf b q
 ·rcases List.mem_append.mp hb with q | q
  ·have:=(I.ok.bs b o e).1
   rw [(hn b q).1] at this; cases this
  ·exact I.ok.noex b o e q
 ·rcases List.mem_append.mp hb with q | q
  ·obtain ⟨_,o,ho,_⟩:=I.ok.funs.mem z
   rw [(hn b q).1] at ho; cases ho
  ·exact I.ok.exfs b q z
theorem Inv.exOut {X:Cx}{Kp:List (Addr × Obj)}{σ:St}{H:Hp}{s:Shared}{ch:List Addr} (I:Inv { X with ex:=ch++X.ex } Kp σ H s) (ok:X.Ok) (hn:∀ b ∈ ch,X.s₀.heap.get? b=none):Inv X Kp σ H s:=by
 have no:∀ b o,X.s₀.heap.get? b=some o->b ∉ X.ex->b ∉ ch++X.ex:=fun b o e h z=>by
  rcases List.mem_append.mp z with q | q
  ·rw [hn b q] at e; cases e
  ·exact h q
 exact ⟨ok,I.os,I.bare,⟨fun b o e n hf hx=>I.base.keep b o e n hf (no b o e hx),fun b o e n hf hx=>I.base.slot b o e n hf (no b o e hx),fun b o e n hx=>I.base.free b o e n (no b o e hx),fun b o e hx=>I.base.there b o e (no b o e hx),I.base.tups,I.base.frzs,I.base.tbls⟩,I.loc,I.cell,I.free,I.freeC,I.pin,I.hok,I.len⟩
section
variable {X:Cx}{σ:St}{H:Hp}{s:Shared}{h':Heap}{e C:Addr}{E:Value->SP0}{A:Around}
theorem Inv.shake {ch:List Addr} (I:Inv X [] σ H s) (hm:∀ b ∈ ch,Mine X H b) (keep:∀ b o,b ∉ frs X.stack->b ∉ ch->s.heap.get? b=some o->h'.get? b=some o)
  (slot:∀ b o,b ∈ frs X.stack->b ∉ ch->s.heap.get? b=some o->∃ sl,h'.get? b=some { o with slots:=sl }):Inv X [] σ H { s with heap:=h' }:=by
 have u:Un (frs X.stack) ch H H s.heap h':=⟨fun b o q _ nf nc=>keep b o nf nc q,fun b o q _ hf nc=>slot b o hf nc q,fun _ _ _ n _=>n,fun b o q nc=>by
  by_cases hf:b ∈ frs X.stack
  ·obtain ⟨sl,z⟩:=slot b o hf nc q; exact ⟨_,z⟩
  ·exact ⟨o,keep b o hf nc q⟩,fun _ _ q=>q,fun _ _ _ q=>q,fun _ ps q=>⟨#[],by rw [q]; simp⟩⟩
 have hok:HOk X.prog X.w H h':=fun b o q=>(I.hok b o q).stay (fun c v hc r=>by
  have hb:H c ≠ none:=by
   rcases hc with rfl | hc
   ·rw [q]; exact fun z=>nomatch z
   ·rw [hc]; exact fun z=>nomatch z
  exact keep c v (fun z=>hb (I.stkFree c z)) (fun z=>hb (hm c z).un) r) (fun _ r=>r) fun _ _ r=>r
 exact Inv.exOut (Inv.call (X:={ X with ex:=ch++X.ex }) (g':=s.gens) (d':=s.drawn) (t':=s.toks) (Inv.exIn I fun b hb=>⟨(hm b hb).new,(hm b hb).loc,(hm b hb).cel⟩) u hok I.bare fun b hb=>⟨.inl (List.mem_append_left _ hb),(hm b hb).loc,(hm b hb).cel,fun p hp=>(hm b hb).pin p (by simpa using hp)⟩) I.ok fun b hb=>(hm b hb).new
structure XcT (X:Cx) (H:Hp) (h:Heap) (e C:Addr):Prop where
 mine:Mine X H e
 ob:∃ oe vs T oT ts,h.get? e=some oe/\(oe.cls= .ref C/\oe.dict=none)/\oe.data= .fields vs/\vs[1]?=some (.ref T)/\T ≠ e/\Mine X H T/\h.get? T=some oT/\oT.data= .fields ts/\3<ts.size
theorem XcT.c {h:Heap} (x:XcT X H h e C):Xc X H h e C:=by
 obtain ⟨oe,vs,T,oT,ts,h1,h2,h3,h4,h5,h6,h7,h8,h9⟩:=x.ob
 exact ⟨x.mine,oe,vs,h1,h2,h3,(Array.getElem?_eq_some_iff.mp h4).1,.inr ⟨T,oT,ts,h4,h5,h6,h7,h8,h9⟩⟩
structure Top0 (X:Cx):Prop where
 st:X.stack=X.env::X.Ko
 fr:X.env.frame=some X.env.locals
 ex:X.ex=[]
theorem Mine.nofr {b:Addr} (m:Mine X H b) (I:Inv X [] σ H s):b ∉ frs X.stack:=fun z=>by
 rcases List.mem_cons.mp (I.stkSub b z) with q | q
 ·exact m.loc q
 ·obtain ⟨_,o,ho,_⟩:=I.ok.funs.mem q
  rw [m.new] at ho; cases ho
theorem ai8 {P:Program}{w:World}{h:Heap}{b:Addr}{u:HO} (hok:HOk P w H h) (hH:H b=some u) (hb:h.get? b=none):False:=by
 have x:=hok b u hH
 have no:∀ {o:Obj},h.get? b=some o->False:=fun {o} q=>by rw [hb] at q; cases q
 cases u with
 | lst xs=>obtain ⟨_,_,_,_,e⟩:=x; exact no e
 | tup xs=>obtain ⟨_,_,_,⟨_,e,_⟩⟩:=x; exact no e
 | dK kvs=>obtain ⟨_,_,_,_,o,_,_,e,_⟩:=x; exact no e
 | dT kvs=>obtain ⟨_,_,_,_,o,_,_,e,_⟩:=x; exact no e
 | set S n=>obtain ⟨o,_,_,_,e,_⟩:=x; exact no e
 | ins C dx fs=>obtain ⟨_,_,_,e,_⟩:=x; exact no e
 | own y=>obtain ⟨_,e⟩:=x; exact no e
 | xd fs=>obtain ⟨_,⟨_,_,_,e,_⟩,_⟩:=x; exact no e
 | rng lo hi=>obtain ⟨_,_,_,e⟩:=x; exact no e
 | frz ob u=>obtain ⟨e,_⟩:=x; exact no e
 | tbl ps=>exact no (show h.get? b=some _ from x)
 | met f y=>exact no (show h.get? b=some _ from x)
 | ext φ=>obtain ⟨_,⟨_,e⟩,_⟩:=x; exact no e
theorem Q7 (hx:X.ex=[]) (I:Inv X [] σ H s) {b:Addr} (hb:s.heap.get? b=none):Mine X H b:=by
 have no:∀ {o:Obj},s.heap.get? b=some o->False:=fun {o} q=>by rw [hb] at q; cases q
 refine ⟨?_,?_,fun z=>?_,fun x c q z=>?_,fun p hp z=>?_⟩
 ·cases hH:H b with
  | none=>rfl
  | some u=>exact (ai8 I.hok hH hb).elim
 ·cases h0:X.s₀.heap.get? b with
  | none=>rfl
  | some o=>
   obtain ⟨o',q⟩:=I.base.there b o h0 (by rw [hx]; simp)
   exact (no q).elim
 ·subst z
  obtain ⟨m,⟨o,_,_,ho,_⟩,_⟩:=I.loc
  exact no ho
 ·obtain ⟨v,o,ho,_⟩:=I.cell x c q
  subst z
  exact no ho
 ·have:=(I.pin p (List.mem_append_left _ hp)).1
  rw [z] at this
  exact no this
theorem adi {oe:Obj}{vs:Array Value}{head:Value}{hadNext:Bool} (T0:Top0 X) (hA:A.frames=some X.stack) (I:Inv X [] σ H s) (me:Mine X H e) (he:s.heap.get? e=some oe) (hc:oe.cls= .ref C/\oe.dict=none) (hd:oe.data= .fields vs) (hsz:1<vs.size):
  wpAny (model X.prog X.w) A (do let a ←frameOf X.env; let pl ←entryPlaceOf X.env.locals hadNext; let b ←EntryCells.newEntry head a .none (rawInt X.env.locals) .none pl; setField (.ref e) 1 b) (fun _ s'=>Inv X [] σ H s'/\XcT X H s'.heap e C) E s:=by
 have hst:=T0.st
 have hfn:=I.stack
 rw [hst] at hfn hA
 have hene:e ∉ (X.env::X.Ko).filterMap (·.frame):=by
  have:=me.nofr I
  rw [hst] at this; exact this
 refine wpAny_bind (wpAny_frameOf_fun hA hfn T0.fr fun h₁ hs₁=>?_)
 refine wpAny_bind (wpAny_entryPlaceOf fun pl hpl=>?_)
 unfold EntryCells.newEntry newFields
 refine wpAny_bind (wpAny_newObj_type ?_ (hpl.sizeOk5 _ _ _ _ _))
 have he₁:h₁.get? e=some oe:=(hs₁.2.1 e hene).trans he
 generalize hob:({ cls:= .type "traceback",dict:=none,data:= .fields ([head,Value.ref X.env.locals,.none,rawInt X.env.locals,.none]++(if pl.isEmpty then List.replicate 6 Value.none else pl)).toArray }:Obj)=ob
 have obd:ob.data= .fields ([head,Value.ref X.env.locals,.none,rawInt X.env.locals,.none]++(if pl.isEmpty then List.replicate 6 Value.none else pl)).toArray:=by rw [←hob]
 have obf:ob.isFreed=false:=by rw [←hob]; rfl
 have he₂:(h₁.push ob).get? e=some oe:=Heap.get?_push_of_some ob he₁
 refine wpAny_setField he₂ hd hsz ?_
 have hTe:h₁.objs.size ≠ e:=Nat.ne_of_gt (Heap.lt_size he₁)
 have hd₃:=Obj.data_mapFields hd (·.setIfInBounds 1 (Value.ref h₁.objs.size))
 have he₃:=Heap.get?_update_self (Obj.mapFields (·.setIfInBounds 1 (Value.ref h₁.objs.size))) he₂ (Obj.isFreed_of_fields hd₃)
 have hT₃:((h₁.push ob).update e (Obj.mapFields (·.setIfInBounds 1 (Value.ref h₁.objs.size)))).get? h₁.objs.size=some ob:=(Heap.get?_update_other _ _ (Ne.symm hTe)).trans (Heap.get?_push_size h₁ obf)
 have keep:∀ b o,b ≠ e->h₁.get? b=some o->((h₁.push ob).update e (Obj.mapFields (·.setIfInBounds 1 (Value.ref h₁.objs.size)))).get? b=some o:=fun b o hb q=>by
  rw [Heap.get?_update_other _ _ (Ne.symm hb)]
  exact Heap.get?_push_of_some _ q
 have hfr:frs X.stack=(X.env::X.Ko).filterMap (·.frame):=by rw [hst]; rfl
 have sz:h₁.objs.size=s.heap.objs.size:=hs₁.1
 have J:Inv X [] σ H { s with heap:=(h₁.push ob).update e (Obj.mapFields (·.setIfInBounds 1 (Value.ref h₁.objs.size))) }:=by
  refine Inv.shake (s:=s) (ch:=[e]) I (fun b hb=>by rw [List.mem_singleton.mp hb]; exact me) (fun b o nf nc q=>keep b o (fun z=>nc (by simp [z])) ((hs₁.2.1 b (by rw [←hfr]; exact nf)).trans q)) (fun b o _ nc q=>?_)
  obtain ⟨sl,z⟩:=hs₁.2.2 b o q
  exact ⟨sl,keep b _ (fun w=>nc (by simp [w])) z⟩
 refine ⟨J,me,_,_,h₁.objs.size,ob,_,he₃,?_,hd₃,by simp [hsz],hTe,?_,hT₃,obd,?_⟩
 ·rw [Obj.cls_mapFields]; exact ⟨hc.1,by unfold Obj.mapFields; split <;> exact hc.2⟩
 ·exact Q7 T0.ex I (Heap.get?_none_of_le (by rw [sz]; exact Nat.le_refl _))
 ·simp only [List.size_toArray,List.length_append,List.length_cons,List.length_nil]; omega
theorem acr (T0:Top0 X) (hA:A.frames=some X.stack) (I:Inv X [] σ H s) (x:Xc X H s.heap e C):wpAny (model X.prog X.w) A (noteFrame (.ref e) X.env) (fun _ s'=>Inv X [] σ H s'/\XcT X H s'.heap e C) E s:=by
 obtain ⟨oe,vs,he,hc,hd,hsz,hT⟩:=x.ob
 unfold noteFrame
 simp only [T0.fr]
 rcases hT with h1 | ⟨T,oT,ts,h1,hTe,mT,hT,hdT,h3⟩
 ·refine wpAny_bind (wpAny_field he hd h1 ?_)
  rw [if_neg (by decide)]
  exact adi T0 hA I x.mine he hc hd hsz
 ·refine wpAny_bind (wpAny_field he hd h1 ?_)
  rw [if_pos (show (Value.ref T != Value.none)=true from by simp)]
  refine wpAny_bind (wpAny_field hT hdT (x:=ts[3]) (by simp [h3]) ?_)
  by_cases hq:(ts[3] == rawInt X.env.locals)=true
  ·rw [if_pos hq]
   exact wpAny_pure ⟨I,x.mine,oe,vs,T,oT,ts,he,hc,hd,h1,hTe,mT,hT,hdT,h3⟩
  ·rw [if_neg hq]
   refine wpAny_bind (wpAny_setField hT hdT h3 ?_)
   have other:∀ b,b ≠ T->(s.heap.update T (Obj.mapFields (·.setIfInBounds 3 Value.none))).get? b=s.heap.get? b:=fun b hb=>Heap.get?_update_other _ _ (Ne.symm hb)
   have J:Inv X [] σ H { s with heap:=s.heap.update T (Obj.mapFields (·.setIfInBounds 3 Value.none)) }:=
    Inv.shake (s:=s) (ch:=[T]) I (fun b hb=>by rw [List.mem_singleton.mp hb]; exact mT) (fun b o _ nc q=>(other b fun z=>nc (by simp [z])).trans q) fun b o _ nc q=>⟨o.slots,(other b fun z=>nc (by simp [z])).trans q⟩
   exact adi (s:={ s with heap:=s.heap.update T (Obj.mapFields (·.setIfInBounds 3 Value.none)) }) T0 hA J x.mine ((other e (Ne.symm hTe)).trans he) hc hd hsz
theorem Jr (fl:Option Addr) (I:Inv X [] σ H s) (x:XcT X H s.heap e C):wpAny (model X.prog X.w) A (setFlight (.ref e) fl) (fun _ s'=>Inv X [] σ H s'/\XcT X H s'.heap e C) E s:=by
 obtain ⟨oe,vs,T,oT,ts,he,hc,hd,h1,hTe,mT,hT,hdT,h3⟩:=x.ob
 unfold setFlight
 refine wpAny_bind (wpAny_field he hd h1 ?_)
 rw [if_pos (show (Value.ref T != Value.none)=true from by simp)]
 refine wpAny_setField hT hdT h3 ?_
 have other:∀ b,b ≠ T->(s.heap.update T (Obj.mapFields (·.setIfInBounds 3 (fl.elim Value.none fun f=>rawInt f)))).get? b=s.heap.get? b:=fun b hb=>Heap.get?_update_other _ _ (Ne.symm hb)
 have J:Inv X [] σ H { s with heap:=s.heap.update T (Obj.mapFields (·.setIfInBounds 3 (fl.elim Value.none fun f=>rawInt f))) }:=
  Inv.shake (s:=s) (ch:=[T]) I (fun b hb=>by rw [List.mem_singleton.mp hb]; exact mT) (fun b o _ nc q=>(other b fun z=>nc (by simp [z])).trans q) fun b o _ nc q=>⟨o.slots,(other b fun z=>nc (by simp [z])).trans q⟩
 exact ⟨J,x.mine,oe,vs,T,_,_,(other e (Ne.symm hTe)).trans he,hc,hd,h1,hTe,mT,Heap.get?_update_self _ hT (Obj.isFreed_of_fields (Obj.data_mapFields hdT _)),Obj.data_mapFields hdT _,by simpa using h3⟩
theorem am9 {P:Value->SP0} (T0:Top0 X) (hA:A.frames=some X.stack) (hP:∀ e s,P e s->∃ a C σ H,e= .ref a/\Inv X [] σ H s/\Xc X H s.heap a C/\∀ s',Inv X [] σ H s'->XcT X H s'.heap a C->P e s'):PassesOwn (model X.prog X.w) A X.env P:=fun ev s' h=>by
 obtain ⟨a,C,σ,H,rfl,I,x,back⟩:=hP ev s' h
 refine wpAny_mono (acr (E:=fun _ _=>False) T0 hA I x) (fun _ s2 ⟨I2,x2⟩=>?_) fun _ _ z=>z.elim
 obtain ⟨oe,vs,T,oT,ts,he,hc,hd,h1,r⟩:=id x2.ob
 unfold cameBackBy
 refine wpAny_bind (wpAny_field he hd h1 ?_)
 rw [if_neg (by simp)]
 first
  | exact wpAny_mono (Jr (E:=fun _ _=>False) _ I2 x2) (fun _ s3 ⟨I3,x3⟩=>back s3 I3 x3) fun _ _ z=>z.elim
  | exact wpAny_bind (wpAny_pure (wpAny_mono (Jr (E:=fun _ _=>False) _ I2 x2) (fun _ s3 ⟨I3,x3⟩=>back s3 I3 x3) fun _ _ z=>z.elim))
end
structure XcO (h0:Heap) (H:Hp) (h:Heap) (e C:Addr):Prop where
 un:H e=none
 new:h0.get? e=none
 ob:∃ oe vs T oT ts,h.get? e=some oe/\(oe.cls= .ref C/\oe.dict=none)/\oe.data= .fields vs/\vs[1]?=some (.ref T)/\T ≠ e/\H T=none/\h0.get? T=none/\h.get? T=some oT/\oT.data= .fields ts/\3<ts.size
noncomputable def CXt (P:Program) (w:World):CXT:=fun Ko H s E ev s'=>∃ e C H',ev= .ref e/\s'.os=s.os/\AllBare s'.gens/\Un (frs Ko) [] H H' s.heap s'.heap/\HOk P w H' s'.heap/\XcO s.heap H' s'.heap e C/\E (.ref C) none H'
section
variable {X:Cx}
theorem Xc.of (hx:X.ex=[]) {Kp:List (Addr × Obj)}{σ:St}{H H':Hp}{s s':Shared}{e0 C:Addr} (I:Inv X Kp σ H s) (x:XcO s.heap H' s'.heap e0 C):Xc X H' s'.heap e0 C:=by
 have J:Inv X [] σ H s:=I.pins_of fun p hp=>nomatch hp
 obtain ⟨oe,ws,T,oT,ts,h1,h2,h3,h4,h5,h6,h7,h8,h9,h10⟩:=x.ob
 have m1:=Q7 hx J x.new
 have m2:=Q7 hx J h7
 exact ⟨⟨x.un,m1.new,m1.loc,m1.cel,m1.pin⟩,oe,ws,h1,h2,h3,(Array.getElem?_eq_some_iff.mp h4).1,.inr ⟨T,oT,ts,h4,h5,⟨h6,m2.new,m2.loc,m2.cel,m2.pin⟩,h8,h9,h10⟩⟩
end
noncomputable def Thr (X:Cx) (H:Hp) (c:Str) (ev:Value) (s':Shared):Prop:=∃ e C σ' H',ev= .ref e/\X.mg c=some (.ref C)/\Inv X [] σ' H' s'/\jj H H'/\Xc X H' s'.heap e C
theorem Thr.mono {X:Cx}{H H1:Hp}{c:Str}{ev:Value}{s':Shared} (s:jj H H1) (h:Thr X H1 c ev s'):Thr X H c ev s':=by
 obtain ⟨e,C,σ',H',h1,h2,h3,h4,h5⟩:=h
 exact ⟨e,C,σ',H',h1,h2,h3,s.trans h4,h5⟩
@[irreducible] noncomputable def PDX (X:Cx) (e:Expr) (fx:Rho->Option Str):Prop:=∀ (s:Shared) (σ:St) (H:Hp) (ρ:Rho) (c:Str),Inv X [] σ H s->EnvR X.K H ρ σ->fx ρ=some c->(∀ ev s',Thr X H c ev s'->X.xe ev s')->wpAny (model X.prog X.w) X.A (eval e X.env) (fun _ _=>False) X.xe s
@[irreducible] noncomputable def PSX (X:Cx) (st:Stmt) (fx:Rho->Option Str):Prop:=∀ (s:Shared) (σ:St) (H:Hp) (ρ:Rho) (c:Str),Inv X [] σ H s->EnvR X.K H ρ σ->fx ρ=some c->(∀ ev s',Thr X H c ev s'->X.xe ev s')->wpAny (model X.prog X.w) X.A (exec st X.env) (fun _ _=>False) X.xe s
@[irreducible] noncomputable def aae (X:Cx) (sts:List Stmt) (fx:Rho->Option Str):Prop:=∀ (s:Shared) (σ:St) (H:Hp) (ρ:Rho) (c:Str),Inv X [] σ H s->EnvR X.K H ρ σ->fx ρ=some c->(∀ ev s',Thr X H c ev s'->X.xe ev s')->wpAny (model X.prog X.w) X.A (execs sts X.env) (fun _ _=>False) X.xe s
noncomputable def vB:List Value:=[.type "ValueError",.type "Exception",.type "BaseException",.type "object"]
noncomputable def af6 (K:Fg) (mg:SV) (x:Str):Prop:=∃ C,mg x=some (.ref C)/\PySem.W.excIn K C vB "ValueError.__new__"=true
theorem ai9 {K:Fg}{h:Heap}{C:Addr} (X:K.In h) (q:PySem.W.excIn K C vB "ValueError.__new__"=true):
  ∃ bm N nm qn bs hdct sn sub ab col dd k0 k1 k2 k3 k5 mN,h.get? C=some (excClassObj nm qn C N bs bm hdct sn sub ab col dd k0 k1 k2 k3 k5 "ValueError.__new__")/\h.Ns N mN/\mN "__init__"=none/\OwnTail h vB bm:=by
 unfold PySem.W.excIn at q
 split at q
 ·rename_i dd cd sl ho
  split at q
  ·rename_i C' bm k0 k1 k2 k3 n k5 hm hs
   simp only [Bool.and_eq_true,beq_iff_eq,Bool.not_eq_true'] at q
   obtain ⟨⟨⟨⟨⟨rfl,rfl⟩,hdel⟩,ht⟩,hok⟩,hni⟩:=q
   obtain ⟨nm,bs,mro,ns,qn,hd,sn,sub,ab,col,del⟩:=cd
   dsimp only at hm hdel hok hni
   subst hm hdel
   have hsl:sl=#[k0,k1,k2,k3,some (.builtin "ValueError.__new__"),k5]:=by
    obtain ⟨l⟩:=sl
    simp only at hs
    rw [hs]
   subst hsl
   exact ⟨bm,ns,nm,qn,bs,hd,sn,sub,ab,col,dd,k0,k1,k2,k3,k5,_,X _ _ ho,.of_isNs (PySem.W.isNs_of_in X hok),PySem.W.nsMap_none_of_in X hok hni,PySem.W.tail_of_in X ht⟩
  ·cases q
 ·cases q
section
variable {X:Cx}{e a b c:Expr}{es:List Expr}{st:Stmt}{sts jZ:List Stmt}{fx gx:Rho->Option Str}{F:RO}{pos:Pos}
theorem j5 (h:PSX X st fx):aae X (st::jZ) fx:=by
 with_unfolding_all
  intro s σ H ρ c I en q k
  exact wpAny_execs_cons (wpAny_mono (h s σ H ρ c I en q k) (fun _ _ z=>z.elim) fun _ _ z=>z)
noncomputable def nxX (F:RO) (gx:Rho->Option Str):Rho->Option Str:=fun ρ=>(F ρ).bind fun o=>match o with
 | .nx ρ'=>gx ρ'
 | _=>none
theorem Qu (h1:PSD X st F) (h2:aae X jZ gx):aae X (st::jZ) (nxX F gx):=by
 with_unfolding_all
  intro s σ H ρ c I en q k
  cases hF:F ρ with
  | none=>simp [nxX,hF] at q
  | some o=>
   cases o with
   | nx ρ'=>
    have q':gx ρ'=some c:=by simpa [nxX,hF] using q
    refine wpAny_execs_cons (wpAny_mono (h1 [] s σ H { nx:=fun σ' H'=>jj H H'/\EnvR X.K H' ρ' σ',rt:=fun _ _=>False,bk:=fun _ _=>False,ct:=fun _ _=>False } I ⟨ρ,.nx ρ',en,hF,fun σ' H' s1 e1=>⟨s1,e1⟩⟩) (fun f s1 z=>?_) fun _ _ z=>z)
    cases f with
    | next=>
     obtain ⟨σ',H',I',sm,e1⟩:=z
     exact wpAny_mono (h2 s1 σ' H' ρ' c I' e1 q' fun ev s' t=>k ev s' (t.mono sm)) (fun _ _ z=>z.elim) fun _ _ z=>z
    | brk=>obtain ⟨_,_,_,z⟩:=z; exact z.elim
    | cont=>obtain ⟨_,_,_,z⟩:=z; exact z.elim
    | ret u=>obtain ⟨_,_,_,_,_,z⟩:=z; exact z.elim
   | _=>simp [nxX,hF] at q
noncomputable def ifX (tc:Rho->Option Bool) (fx gx:Rho->Option Str):Rho->Option Str:=fun ρ=>(tc ρ).bind fun x=>if x=true then fx ρ else gx ρ
noncomputable def akT:Rho->Option Str:=fun _=>none
theorem JH:aae X sts akT:=by
 with_unfolding_all
  intro s σ H ρ c I en q k
  cases q
theorem acs {l r:List Stmt}{tc:Rho->Option Bool} (hc:PTD X a tc) (hl:aae X l fx) (hr:aae X r gx):PSX X (.If a l r pos) (ifX tc fx gx):=by
 with_unfolding_all
  intro s σ H ρ c I en q k
  cases ht:tc ρ with
  | none=>simp [ifX,ht] at q
  | some x=>
   refine wpAny_If (wpAny_mono (hc [] s σ H (fun b H'=>b=x/\jj H H') I ⟨ρ,x,en,ht,fun H' s1=>⟨rfl,s1⟩⟩) (fun d s1 z=>?_) fun _ _ z=>z)
   obtain ⟨H1,I1,rfl,s1'⟩:=z
   cases d with
   | true=>exact hl s1 σ H1 ρ c I1 (en.mono s1') (by simpa [ifX,ht] using q) fun ev s' t=>k ev s' (t.mono s1')
   | false=>exact hr s1 σ H1 ρ c I1 (en.mono s1') (by simpa [ifX,ht] using q) fun ev s' t=>k ev s' (t.mono s1')
theorem aja (h:PDX X e fx):PSX X (.Return (some e) pos) fx:=by
 with_unfolding_all
  intro s σ H ρ c I en q k
  exact wpAny_Return_some (wpAny_mono (h s σ H ρ c I en q k) (fun _ _ z=>z.elim) fun _ _ z=>z)
theorem aaL (h:PDX X e fx) (hs:swapsWith e none pos.line X.env=pure false:=by rfl):PSX X (.Expr e pos) fx:=by
 with_unfolding_all
  intro s σ H ρ c I en q k
  exact wpAny_Expr_any (wpAny_mono (h s σ H ρ c I en q k) (fun _ _ z=>z.elim) fun _ _ z=>z) I.quiet hs
end
noncomputable def ahq (K:Fg) (mg:SV) (n:Nat) (gx:LP->Option Str):Sp:=fun vs H _ E=>∃ ds c,ds.length=n/\Reps K H ds vs/\gx ds=some c/\∀ C H',mg c=some (.ref C)->jj H H'->E (.ref C) none H'
noncomputable def abk (P:Program) (w:World) (K:Fg) (mg:SV) (base:Heap) (x:Str) (ps:List Str) (k n:Nat) (gx:LP->Option Str):Prop:=
 ∃ (f:Addr) (fd:FuncData),FnOk P w K mg base (CXt P w) k f fd ps (ahq K mg n gx)/\mg x=some (.ref f)/\PySem.W.keepIn K (.ref f)=true/\QJ K fd ps []
section
variable {X:Cx}{e a b c:Expr}{es:List Expr}{st:Stmt}{sts jZ:List Stmt}{fx gx:Rho->Option Str}{F:RO}{pos:Pos}
theorem Qb {k j n:Nat}{ps:List Str}{g:LP->Option Str}{x:Str}{p:Pos}{fr:Rho->Option (LP)} (hxe:X.ex=[]) (C:abk X.prog X.w X.K X.mg X.base x ps k n g) (hr:Room j X.A) (hkj:k<=j) (ha:PAD X (e::es) fr) (hl:∀ ρ ds,fr ρ=some ds->ds.length=n)
  (hg:Gl X x:=by rfl) (hdb:(x == ("__debug__":Str))=false:=by decide) (he:starEach (e::es) X.env=(false,eval e X.env)::starEach es X.env:=by rfl)
  (hpl:(backTo pos (starEach es X.env)).any (·.1)=false:=by rfl):PDX X (.Call (.Name x p) (e::es) [] pos) (fun ρ=>(fr ρ).bind g):=by
 with_unfolding_all
  intro s σ H ρ c I en q k'
  obtain ⟨f,fd,F,hm,hk,hb⟩:=C
  cases hd:fr ρ with
  | none=>simp [hd] at q
  | some ds=>
   have q':g ds=some c:=by simpa [hd] using q
   refine wpAny_Call_Name_kw (aaj I hg hm ?_ hdb)
   refine PySem.W.callWith_K (h₀:=X.base) I.ok.mod.kin hk (thn (ha pos [] s σ H (fun vs H1=>jj H H1/\Reps X.K H1 ds vs) I ⟨ρ,ds,en,hd,fun vs H1 s1 r1=>⟨s1,r1⟩⟩) fun us s1 ⟨vs,H1,I1,r,sm,rd⟩=>⟨I1.kIn,?_⟩) he hpl
   have hsp:ahq X.K X.mg n g vs H1 (fun _ _=>False) (fun cls _ H'=>X.mg c=some cls/\jj H1 H')->vs.length=ps.length:=fun z=>F.len _ _ _ _ z
   by_cases hn:ds.length=n
   ·have sp:ahq X.K X.mg n g vs H1 (fun _ _=>False) (fun cls _ H'=>X.mg c=some cls/\jj H1 H'):=⟨ds,c,hn,rd,q',fun C H' hC s2=>⟨hC,s2⟩⟩
    have hlu:(us++[]).length=ps.length:=by rw [List.append_nil,←r.length]; exact hsp sp
    have hbd:=hb s1 us I1.kIn hlu
    rw [List.append_nil] at hbd
    refine wpAny_call (codeAny_mono (F.run X.A X.stack s1 H1 ⟨us,[]⟩ us vs _ _ (hr.mono hkj) I1.env0 hbd r sp) fun rs s' hq=>?_)
    cases rs with
    | error ev=>
     obtain ⟨e0,C,H',rfl,os,bare,un,hok,xc,hC,sm2⟩:=hq
     have J':Inv X [] σ H' s':=I1.call' (ch:=[]) os un hok bare fun b z=>nomatch z
     exact k' _ _ ⟨e0,C,σ,H',rfl,hC,J',sm.trans sm2,Xc.of hxe I1 xc⟩
    | ok fl=>
     cases fl with
     | ret u=>obtain ⟨v,H',_,_,_,_,_,z⟩:=hq; exact z.elim
     | next=>exact False.elim hq
     | brk=>exact False.elim hq
     | cont=>exact False.elim hq
   ·exact absurd (hl ρ ds hd) hn
theorem Qv {x m:Str}{k0:_}{np p3 cpos:Pos} (hxe:X.ex=[]) (hE:af6 X.K X.mg x) (hc:X.calm=true) (hg:Gl X x:=by rfl) (hdb:(x == ("__debug__":Str))=false:=by decide)
  (he:starEach [.Constant (.str m) k0 p3] X.env=[(false,eval (.Constant (.str m) k0 p3) X.env)]:=by rfl):PSX X (.Raise (some (.Call (.Name x np) [.Constant (.str m) k0 p3] [] cpos)) none pos) (fun _=>some x):=by
 with_unfolding_all
  intro s σ H ρ c I en q k
  cases q
  obtain ⟨C,hm,hex⟩:=hE
  obtain ⟨bm,N,nm,qn,bs,hdct,sn,sub,ab,col,dd,k0',k1,k2,k3,k5,mN,hC,hN,hni,TL⟩:=ai9 (h:=X.base) I.ok.mod.kin hex
  have hpl:(backTo cpos (starEach [.Constant (.str m) k0 p3] X.env)).any (·.1)=false:=by rw [he]; rfl
  refine wpAny_Raise_call_subT (C:=C) (nm:=nm) (q:=qn) (N:=N) (bs:=bs) (bm:=bm) (hdct:=hdct) (sn:=sn) (sub:=sub) (ab:=ab) (col:=col) (dd:=dd) (k0:=k0') (k1:=k1) (k2:=k2) (k3:=k3) (k5:=k5) PySem.F.excBase_ValueError (mN:=mN) (TL.hasType rfl) (I.ok.hd hc) hpl hni ?_
  refine wpAny_mono (ab3 (pos:=np) hg hm (show jL (.ref C) (.ref C) from rfl) hdb [] s σ H (fun v H'=>v= .ref C/\H'=H) I ⟨rfl,rfl⟩) (fun v s1 ⟨y,H1,I1,r1,e1,e2⟩=>?_) fun _ _ z=>z
  subst e1; subst e2
  obtain rfl:v=Value.ref C:=r1
  refine ⟨rfl,?_⟩
  have pa:PA X [.Constant (.str m) k0 p3] _:=qr (X:=X) agC zM he
  have hsp:=pa cpos [] s1 σ H1 (fun vs H'=>vs.length=1/\H'=H1) I1 ⟨rfl,rfl⟩
  rw [he] at hsp ⊢
  refine Calls.evalArgs_plain (wpAny_mono hsp (fun us s2 ⟨vs,H2,I2,r2,l2,e2⟩=>?_) fun _ _ z=>z)
  subst e2
  have kp:∀ b o,X.base.get? b=some o->s2.heap.get? b=some o:=fun b o e=>(I2.bs b o e).1
  refine ⟨rfl,?_,kp _ _ hC,hN.keeps kp,TL.keeps kp,fun h' e0 md=>?_⟩
  ·show us.length<=sizeLine
   rw [←r2.length,l2,sizeLine_eq]; decide
  ·obtain ⟨t,h1,h2,h3⟩:=md.there
   have I3:Inv X [] σ H2 { s2 with heap:=h' }:=I2.kept (t':=s2.toks) md.keeps
   have m0:=Q7 hxe I2 md.new
   exact k _ _ ⟨e0,C,σ,H2,rfl,hm,I3,jj.refl _,m0,_,_,h1,⟨rfl,rfl⟩,rfl,by simp,.inl rfl⟩
end
theorem ahr {CX:CXT}{P:Program}{w:World}{K:Fg}{mg:SV}{base:Heap}{k:Nat}{f:Addr}{name qual:Str}{params:Arguments}{body:List Stmt}{scope:Scope}{dV kV doc pm Kc ct oc:Value}{an od:Option Addr}
  {osl:Array (Option Value)} {N ps:List Str} {sp:Sp} (lk:K.lookup f=some ⟨oc,od,.func (PySem.W.fnOf name qual params body scope dV kV doc pm an Kc ct),osl⟩) (hcd:PySem.W.codeIn K Kc qual=true) (S:FnScope N ps scope)
  (len:∀ vs H Q E,sp vs H Q E->vs.length=ps.length)
  (hbody:∀ (A:Around) (Ko:List Env) (s:Shared) (H:Hp) (vs:List V) (Q:VK) (E:XK) (s1:Shared),Room k (A.deeper (envOfC qual scope s.heap.objs.size f Kc))->sp vs H Q E->
   Inv (Jf CX P w K mg base N qual scope f Kc A Ko s H E) [] (L2.zN N vs) H s1->
   wpAny (model P w) (A.deeper (envOfC qual scope s.heap.objs.size f Kc)) (execs body (envOfC qual scope s.heap.objs.size f Kc)) (SP (Jf CX P w K mg base N qual scope f Kc A Ko s H E) [] { nx:=fun _ H'=>Q .non H',rt:=Q }) (Jf CX P w K mg base N qual scope f Kc A Ko s H E).xe s1):
  FnOk P w K mg base CX (k+1) f (PySem.W.fnOf name qual params body scope dV kV doc pm an Kc ct) ps sp:=by
 refine ⟨len,fun A Ko s H args us vs Q E hr e0 hb r hsp=>?_⟩
 have hl:=len _ _ _ _ hsp
 have KX:K.In s.heap:=e0.mod.kin.keeps fun b o e=>(e0.bs b o e).1
 have lim:s.heap.NoLimit:=e0.mod.nolimit.keeps fun b o e=>(e0.bs b o e).1
 have hkind:∀ y ∈ ps.zip us,scope.names.lookup y.1=some .local ∨ (scope.names.lookup y.1=some .cell/\((cellsFrom (s.heap.objs.size+1) scope.names []).lookup y.1).isSome=true):=fun ⟨n,v⟩ hy=>by
  rcases S.par n (List.of_mem_zip hy).1 with q | q
  ·exact .inl q
  ·exact .inr ⟨q,PySem.W.cellsFrom_some _ _ _ (.inl q)⟩
 refine codeAny_call_function hr.depth (KX _ _ lk) rfl S.co S.gen rfl (PySem.W.codeRec_of KX hcd) (hb _ _ _ _ ?_)
 refine wpAny_newFunctionEnv_cells S.kind hkind fun env he s1 x=>?_
 subst he
 refine ⟨lim.keeps x.toInCall.keep,codeAny_func ?_⟩
 have I:Inv (Jf CX P w K mg base N qual scope f Kc A Ko s H E) [] (L2.zN N vs) H s1:=abu S hr.hd e0 hl r x
 refine wpAny_mono (hbody A Ko s H vs Q E s1 (hr.deeper _) hsp I) (fun fl s' hs=>?_) fun e s' hs=>hs
 have fin:∀ {σ':St} {H':Hp} {v:V} {u:Value},Inv (Jf CX P w K mg base N qual scope f Kc A Ko s H E) [] σ' H' s'->jL v u->Q v H'->CE Ko P w H s Q u s':=
  fun {σ' H' v u} J rv q=>⟨v,H',J.os,J.bare,J.base,J.hok,rv,q⟩
 cases fl with
 | ret u=>
  obtain ⟨v,σ',H',J,rv,q⟩:=hs
  exact fin J rv q
 | next=>
  obtain ⟨σ',H',J,q⟩:=hs
  exact fin (v:=V.non) (u:=Value.none) J rfl q
 | brk=>
  obtain ⟨_,_,_,q⟩:=hs
  exact False.elim q
 | cont=>
  obtain ⟨_,_,_,q⟩:=hs
  exact False.elim q
theorem ahs {CX:CXT}{P:Program}{w:World}{K:Fg}{mg:SV}{base:Heap}{N:List Str}{qual:Str}{scope:Scope}{f:Addr}{cd:Value}{A:Around}{Ko:List Env}{s:Shared}{H:Hp}{E:XK}:Top0 (Jf CX P w K mg base N qual scope f cd A Ko s H E):=⟨rfl,rfl,rfl⟩
section
variable {P:Program}{w:World}{K:Fg}{mg:SV}{base:Heap}
noncomputable def QO (N:List Str) (n:Nat) (Fx:Rho->Option Str) (ds:LP):Option Str:=if ds.length=n then Fx (jO N ds) else none
theorem aem {x qual:Str}{st:Stmt}{f:Addr}{fd:FuncData}{N ps:List Str}{k:Nat}{Fx:Rho->Option Str} (F:Fun K x qual st f fd) (S:FnScope N ps (jg st))
  (body:∀ (Kc:Value) (A:Around) (Ko:List Env) (s:Shared) (H:Hp) (E:XK),Room k (A.deeper (envOfC qual (jg st) s.heap.objs.size f Kc))->aae (Jf (CXt P w) P w K mg base N qual (jg st) f Kc A Ko s H E) (jU st) Fx):
  FnOk P w K mg base (CXt P w) (k+1) f fd ps (ahq K mg ps.length (QO N ps.length Fx)):=by
 with_unfolding_all
  obtain ⟨oc,od,kV,doc,pm,an,Kc,ct,osl,rfl,lk,hcd⟩:=F.ex
  refine ahr lk hcd S (fun vs H Q E h=>?_) fun A Ko s H vs Q E s1 hr h I=>?_
  ·obtain ⟨ds,c,h1,h2,_⟩:=h
   rw [h2.length]; exact h1
  ·obtain ⟨ds,c,h1,h2,h3,h4⟩:=h
   unfold QO at h3
   rw [if_pos h1] at h3
   refine wpAny_mono (body Kc A Ko s H E hr s1 (L2.zN N vs) H (jO N ds) c I (ZD h2) h3 fun ev s' t=>?_) (fun _ _ z=>z.elim) fun _ _ z=>z
   obtain ⟨e,C,σ',H',rfl,hC,J,sm,xc⟩:=t
   have T0:Top0 (Jf (CXt P w) P w K mg base N qual (jg st) f Kc A Ko s H E):=ahs
   show wpAny (model P w) (A.deeper (envOfC qual (jg st) s.heap.objs.size f Kc)) (leaving (envOfC qual (jg st) s.heap.objs.size f Kc) (.ref e)) (fun _ s''=>CXt P w Ko H s E (.ref e) s'') (fun e' s''=>CXt P w Ko H s E e' s'') s'
   have n1:=acr (E:=fun _ _=>False) (A:=A.deeper (envOfC qual (jg st) s.heap.objs.size f Kc)) T0 J.ok.frames J xc
   unfold leaving
   refine wpAny_bind (wpAny_mono n1 (fun _ s2 ⟨J2,t2⟩=>?_) fun _ _ z=>z.elim)
   have n2:=Jr (E:=fun _ _=>False) (A:=A.deeper (envOfC qual (jg st) s.heap.objs.size f Kc)) none J2 t2
   refine wpAny_mono n2 (fun _ s3 ⟨J3,t3⟩=>?_) fun _ _ z=>z.elim
   obtain ⟨oe,ws,T,oT,ts,g1,g2,g3,g4,g5,g6,g7,g8,g9⟩:=t3.ob
   exact ⟨e,C,H',rfl,J3.os,J3.bare,J3.base,J3.hok,⟨t3.mine.un,t3.mine.new,oe,ws,T,oT,ts,g1,g2,g3,g4,g5,g6.un,g6.new,g7,g8,g9⟩,h4 C H' hC sm⟩
end
theorem Inv.asA {X:Cx}{Kp:List (Addr × Obj)}{σ:St}{H:Hp}{s:Shared}{A:Around}{cm:Bool}{xe:Value->SP0} (I:Inv X Kp σ H s) (hf:A.frames=some X.stack) (hd:cm=true->A.handled=none):Inv { X with A:=A,calm:=cm,xe:=xe } Kp σ H s:=
 ⟨⟨I.ok.mod,I.ok.kind,I.ok.glob,I.ok.blt,I.ok.above,I.ok.inj,I.ok.has,I.ok.cab,hd,hf,I.ok.stk,I.ok.exf,I.ok.bs,I.ok.bsz,I.ok.noex,I.ok.exfs,I.ok.funs,I.ok.frf⟩,I.os,I.bare,I.base,I.loc,I.cell,I.free,I.freeC,I.pin,I.hok,I.len⟩
theorem Inv.ofA {X:Cx}{Kp:List (Addr × Obj)}{σ:St}{H:Hp}{s:Shared}{A:Around}{cm:Bool}{xe:Value->SP0} (ok:X.Ok) (I:Inv { X with A:=A,calm:=cm,xe:=xe } Kp σ H s):Inv X Kp σ H s:=
 ⟨ok,I.os,I.bare,I.base,I.loc,I.cell,I.free,I.freeC,I.pin,I.hok,I.len⟩
theorem Mine.unwish {X:Cx}{E:Value->SP0}{H:Hp}{b:Addr} (m:Mine (X.wish E) H b):Mine X H b:=⟨m.un,m.new,m.loc,m.cel,m.pin⟩
theorem Xc.unwish {X:Cx}{E:Value->SP0}{H:Hp}{h:Heap}{e C:Addr} (x:Xc (X.wish E) H h e C):Xc X H h e C:=by
 obtain ⟨oe,vs,h1,h2,h3,h4,h5⟩:=x.ob
 refine ⟨x.mine.unwish,oe,vs,h1,h2,h3,h4,?_⟩
 rcases h5 with q | ⟨T,oT,ts,q1,q2,q3,q4⟩
 ·exact .inl q
 ·exact .inr ⟨T,oT,ts,q1,q2,q3.unwish,q4⟩
@[irreducible] noncomputable def PS0 (X:Cx) (st:Stmt) (F:RO):Prop:=∀ (s:Shared) (σ:St) (H:Hp) (D:Ends),Inv X [] σ H s->tDS X.K F D σ H->wpAny (model X.prog X.w) X.A (exec st X.env) (SP X [] D) X.xe s
@[irreducible] noncomputable def aht (X:Cx) (sts:List Stmt) (F:RO):Prop:=∀ (s:Shared) (σ:St) (H:Hp) (D:Ends),Inv X [] σ H s->tDS X.K F D σ H->wpAny (model X.prog X.w) X.A (execs sts X.env) (SP X [] D) X.xe s
section
variable {X:Cx}{st:Stmt}{sts jZ tb hb:List Stmt}{F G:RO}{pos:Pos}
theorem ajb (h:QR X sts F):aht X sts F:=by
 with_unfolding_all
  exact fun s σ H D I t=>h [] s σ H D I t
theorem af7 (h1:PS0 X st F) (h2:aht X jZ G):aht X (st::jZ) (jV F G):=by
 with_unfolding_all
  intro s σ H D I ⟨ρ,o,en,q,k⟩
  cases hF:F ρ with
  | none=>simp [jV,hF] at q
  | some o1=>
   cases o1 with
   | nx ρ1=>
    have q':G ρ1=some o:=by simpa [jV,hF] using q
    refine wpAny_execs_cons (thn (h1 s σ H { D with nx:=fun σ' H'=>jj H H'/\EnvR X.K H' ρ1 σ' } I ⟨ρ,.nx ρ1,en,hF,fun σ' H' s1 e1=>⟨s1,e1⟩⟩) fun f s1 z=>?_)
    cases f with
    | next=>
     obtain ⟨σ',H',I',sm,e1⟩:=z
     exact h2 s1 σ' H' D I' ⟨ρ1,o,e1,q',k.mono sm⟩
    | brk=>exact z
    | cont=>exact z
    | ret u=>exact z
   | rt d=>
    have q':Out.rt d=o:=by simpa [jV,hF] using q
    subst q'
    refine wpAny_execs_cons (thn (h1 s σ H { D with nx:=fun _ _=>False } I ⟨ρ,.rt d,en,hF,k⟩) fun f s1 z=>?_)
    cases f with
    | next=>obtain ⟨_,_,_,z⟩:=z; exact z.elim
    | brk=>exact z
    | cont=>exact z
    | ret u=>exact z
   | bk ρ1=>
    have q':Out.bk ρ1=o:=by simpa [jV,hF] using q
    subst q'
    refine wpAny_execs_cons (thn (h1 s σ H { D with nx:=fun _ _=>False } I ⟨ρ,.bk ρ1,en,hF,k⟩) fun f s1 z=>?_)
    cases f with
    | next=>obtain ⟨_,_,_,z⟩:=z; exact z.elim
    | brk=>exact z
    | cont=>exact z
    | ret u=>exact z
   | ct ρ1=>
    have q':Out.ct ρ1=o:=by simpa [jV,hF] using q
    subst q'
    refine wpAny_execs_cons (thn (h1 s σ H { D with nx:=fun _ _=>False } I ⟨ρ,.ct ρ1,en,hF,k⟩) fun f s1 z=>?_)
    cases f with
    | next=>obtain ⟨_,_,_,z⟩:=z; exact z.elim
    | brk=>exact z
    | cont=>exact z
    | ret u=>exact z
end
section
variable {X:Cx}{st b0:Stmt}{sts jZ tb hb:List Stmt}{F G:RO}{fx:Rho->Option Str}{pos:Pos}
noncomputable def aaM (n:Nat):Rho:=List.replicate n none
noncomputable abbrev hX (X:Cx) (e:Addr):Cx:={ X with A:=X.A.mark (some (.ref e)),calm:=false,xe:=fun _ _=>False }
theorem SP.ofA {A:Around}{cm:Bool}{xe:Value->SP0}{D:Ends}{f:Flow}{s':Shared} (ok:X.Ok) (h:SP { X with A:=A,calm:=cm,xe:=xe } [] D f s'):SP X [] D f s':=by
 cases f with
 | next=>obtain ⟨σ',H',I,q⟩:=h; exact ⟨σ',H',Inv.ofA ok I,q⟩
 | brk=>obtain ⟨σ',H',I,q⟩:=h; exact ⟨σ',H',Inv.ofA ok I,q⟩
 | cont=>obtain ⟨σ',H',I,q⟩:=h; exact ⟨σ',H',Inv.ofA ok I,q⟩
 | ret u=>obtain ⟨v,σ',H',I,r,q⟩:=h; exact ⟨v,σ',H',Inv.ofA ok I,r,q⟩
end
section
variable {P:Program}{w:World}{K:Fg}{mg:SV}{base:Heap}
theorem ahu {x qual:Str}{st:Stmt}{f:Addr}{fd:FuncData}{N ps:List Str}{k:Nat}{B:RO} (F:Fun K x qual st f fd) (S:FnScope N ps (jg st))
  (body:∀ (Kc:Value) (A:Around) (Ko:List Env) (s:Shared) (H:Hp) (E:XK),Room k (A.deeper (envOfC qual (jg st) s.heap.objs.size f Kc))->aht (Jf CX0 P w K mg base N qual (jg st) f Kc A Ko s H E) (jU st) B):
  FnOk P w K mg base CX0 (k+1) f fd ps (Pur K ps.length (jH N ps.length B)):=by
 with_unfolding_all
  obtain ⟨oc,od,kV,doc,pm,an,Kc,ct,osl,rfl,lk,hcd⟩:=F.ex
  refine ahr lk hcd S (fun vs H Q E h=>?_) fun A Ko s H vs Q E s1 hr h I=>?_
  ·obtain ⟨ds,d,h1,h2,_⟩:=h
   rw [h2.length]; exact h1
  ·obtain ⟨ds,d,h1,h2,h3,h4⟩:=h
   unfold jH at h3
   rw [if_pos h1] at h3
   cases hB:B (jO N ds) with
   | none=>rw [hB] at h3; cases h3
   | some o=>
    rw [hB] at h3
    refine body Kc A Ko s H E hr s1 (L2.zN N vs) H _ I ⟨jO N ds,o,ZD h2,hB,?_⟩
    cases o with
    | rt c=>cases h3; exact fun v H' sm r=>h4 v H' sm r
    | nx ρ=>cases h3; exact fun σ H' sm e=>h4 .non H' sm rfl
    | bk ρ=>cases h3
    | ct ρ=>cases h3
end
section
variable {X:Cx}{e a b c:Expr}{fa fb fc:RP}{pos p2:Pos}
end
section
variable {X:Cx}
end
section
variable {X:Cx}
end
section
variable {X:Cx}{e a b c:Expr}{fa fb fc:RP}{pos p2:Pos}
noncomputable def zS (fa fb:RP):RP:=fun ρ=>(fa ρ).bind fun p=>(fb ρ).bind fun q=>(inI q).bind fun i=>Q6 p none (some i)
theorem Qc (ha:PD X a fa) (hb:PD X b fb):PD X (.Subscript a (.Slice none (some b) none p2) pos) (zS fa fb):=by
 with_unfolding_all
  refine PE.imp (Jn acb ha aal (zt hb)) fun σ H Q ⟨ρ,d,en,q,k⟩=>?_
  cases h1:fa ρ with
  | none=>simp [zS,h1] at q
  | some y=>
   cases h2:fb ρ with
   | none=>simp [zS,h1,h2] at q
   | some z=>
    cases h3:inI z with
    | none=>simp [zS,h1,h2,h3] at q
    | some i=>
     have q':Q6 y none (some i)=some d:=by simpa [zS,h1,h2,h3] using q
     have hz:=zC h3
     subst hz
     refine ⟨ρ,y,en,h1,fun v H1 s1 r1=>⟨ρ,_,en.mono s1,h2,fun u H2 s2 r2=>?_⟩⟩
     cases (show u=_ from r2)
     unfold Q6 at q'
     split at q'
     ·rename_i ds
      cases q'
      obtain ⟨l,xs,e1,e2,e3⟩:=Rep.mono s2 _ _ r1
      have hl:=e3.length
      refine ⟨i,rfl,l,xs,e1,SqL.of e2,fun p hp=>?_⟩
      have s3:=jA (o:= .lst (Zy xs none (some i))) hp
      have rr:Reps X.K H2 (QV ds none (some i)) (Zy xs none (some i)):=by
       unfold Zy QV
       rw [hl]
       exact (e3.drop _).take _
      exact k _ _ (s1.trans (s2.trans s3)) ⟨p,_,rfl,jr,Reps.mono s3 _ _ rr⟩
     ·cases q'
end
section
variable {X:Cx}
end
section
variable {X:Cx}{e:Expr}{es:List Expr}{pos p:Pos}
noncomputable def aj0 (x:Str):PyData->Bool
 | .dict [(.str y,.none)]=>decide (y=x)
 | _=>false
@[simp] theorem akU (x:Str):aj0 x (fnD x)=true:=by simp [aj0,fnD]
end
section
variable {X:Cx}{e a b c:Expr}{es:List Expr}{fa:RP}{fx gx:Rho->Option Str}{pos:Pos}
end
section
variable {X:Cx}{own:Option Nat}{e a b c tg src:Expr}{es:List Expr}{st:Stmt}{sts jZ body:List Stmt}{fx gx:Rho->Option Str}{F:RO}{fa:RP}{pos:Pos}
theorem Thr.unwish {W:Value->SP0}{Hb Hs:Hp}{c:Str}{ev:Value}{s':Shared} (sb:∀ H3,jj Hb H3->jj Hs H3) (h:Thr (X.wish W) Hb c ev s'):Thr X Hs c ev s':=by
 obtain ⟨e,C,σ',H',h1,h2,h3,h4,h5⟩:=h
 exact ⟨e,C,σ',H',h1,h2,h3.unwish,sb _ h4,h5.unwish⟩
end
section
variable {X:Cx}{e a b c:Expr}{es:List Expr}{st:Stmt}{sts jZ:List Stmt}{fx gx:Rho->Option Str}{F:RO}{pos p:Pos}
noncomputable def orX (fx gx:Rho->Option Str):Rho->Option Str:=fun ρ=>match fx ρ with
 | some c=>some c
 | none=>gx ρ
theorem afb (h1:aae X sts fx) (h2:aae X sts gx):aae X sts (orX fx gx):=by
 with_unfolding_all
  intro s σ H ρ c I en q k
  cases hf:fx ρ with
  | some c'=>
   have:c'=c:=by simpa [orX,hf] using q
   subst this
   exact h1 s σ H ρ c' I en hf k
  | none=>exact h2 s σ H ρ c I en (by simpa [orX,hf] using q) k
end
section
variable {X:Cx}{a b c:Expr}{tc ta tb:Rho->Option Bool}{pos:Pos}
end
section
variable {X:Cx}{a b:Expr}{fa fb:RP}
end
structure RoomH (k:Nat) (A:Around):Prop where
 dp:A.depth+3*k+5<recursionLimit
 un:A.units+16*k+200<cLine
theorem RoomH.deeper {k:Nat}{A:Around} (r:RoomH (k+1) A) (env:Env):RoomH k (A.deeper env):=
 ⟨by have:=r.dp; show A.depth+1+3*k+5<_; omega,by have:=r.un; show A.units+3+16*k+200<_; omega⟩
theorem RoomH.mark {k:Nat}{A:Around}{v:Option Value} (r:RoomH k A):RoomH k (A.mark v):=⟨r.dp,r.un⟩
structure FnH (P:Program) (w:World) (K:Fg) (mg:SV) (base:Heap) (k:Nat) (f:Addr) (fd:FuncData) (ps:List Str) (sp:Sp):Prop where
 len:∀ vs H Q E,sp vs H Q E->vs.length=ps.length
 run:∀ (A:Around) (Ko:List Env) (s:Shared) (H:Hp) (args:Args) (us:List Value) (vs:List V) (Q:VK) (E:XK),RoomH k A->Env0 P w K mg base A Ko s H->BindsTo s fd args (ps.zip us)->jD vs us->sp vs H Q E->
  codeAny (model P w) A (.call (.ref f) args) (CR CX0 Ko P w H s Q E) s
noncomputable def amB (P:Program) (w:World) (K:Fg) (mg:SV) (base:Heap) (x:Str) (ps:List Str) (k n:Nat) (g:LP->OP):Prop:=
 ∃ (f:Addr) (fd:FuncData),FnH P w K mg base k f fd ps (Pur K n g)/\mg x=some (.ref f)/\PySem.W.keepIn K (.ref f)=true/\QJ K fd ps []
section
variable {P:Program}{w:World}{K:Fg}{mg:SV}{base:Heap}
end
section
variable {X:Cx}{e:Expr}{es:List Expr}{pos:Pos}
end
structure ExcK (K:Fg) (C:Addr):Prop where
 exc:PySem.W.excIn K C vB "ValueError.__new__"=true
 ga:PySem.W.findIn K (.ref C) "__getattribute__"=some (some (.builtin "BaseException.__getattribute__"))
 gt:PySem.W.findIn K (.ref C) "__getattr__"=some none
 cl:PySem.W.findIn K (.ref C) "__class__"=some (some (.builtin "object.__class__"))
 mo:PySem.W.mroIn K C (.type "object")=some true
 mb:PySem.W.mroIn K C (.type "BaseException")=some true
theorem adj {K:Fg}{C:Addr}{t:Value}{b:Bool} (h:PySem.W.mroIn K C t=some b):(PySem.W.clsIn K C).isSome=true:=by
 unfold PySem.W.mroIn at h
 cases hc:PySem.W.clsIn K C with
 | none=>rw [hc] at h; cases h
 | some cd=>rfl
theorem ExcK.ci {K:Fg}{C:Addr} (h:ExcK K C):(PySem.W.clsIn K C).isSome=true:=adj h.mo
structure ClsG (K:Fg):Prop where
 gt:PySem.W.specialIn K (.builtin "object.__class__") "__get__"=some (some (.builtin "getset_descriptor.__get__"))
 tk:PySem.W.takesIn K (.builtin "object.__class__")=some true
section
variable {prog:Program}{w:World}{A:Around}{E:Value->SP0}{s:Shared}{K:Fg}{a C:Addr}{oe:Obj}
theorem ahv (hg:ClsG K) (hc:ExcK K C):PySem.W.findObj K C none "__class__"=some (.bind (.builtin "getset_descriptor.__get__") (.builtin "object.__class__")):=by
 obtain ⟨cd,h1⟩:=Option.isSome_iff_exists.mp hc.ci
 unfold PySem.W.findObj
 rw [h1,zzD,hc.cl,zzD]
 simp [hg.gt,hg.tk]
theorem af8 {nameV:Value}{Q:Unit->SP0} (X:K.In s.heap) (hc:ExcK K C) (I:PySem.W.InstAt s.heap a oe C none) (hq:Q () s):wpAny (model prog w) A (checkBuiltinCall "BaseException.__getattribute__" ⟨[.ref a,nameV],[]⟩) Q E s:=by
 have hk:builtinKind "BaseException.__getattribute__"=some .slot:=by decide +kernel
 have hsplit:splitId "BaseException.__getattribute__"=some ("BaseException","__getattribute__"):=by decide +kernel
 have ha:=F.args_bexc_ga (.ref a) nameV
 have L0:=I.type (M:=model prog w)
 have L1:=PySem.W.looks_mroIn (M:=model prog w) X hc.mb
 obtain ⟨hh,g,d,t,os⟩:=s
 simp only [checkBuiltinCall,hk,hsplit]
 refine wpAny_bind ?_
 unfold isInstance
 repeat (first | with_reducible refine L0.at ?_ | with_reducible refine L1.at ?_ | wp_step)
 exact hq
theorem af9 {tk:Tok}{Q:Fin->SP0} (X:K.In s.heap) (hg:ClsG K) (hc:ExcK K C) (I:PySem.W.InstAt s.heap a oe C none) (hq:Q (.done (.ret (.ref C))) s):
  wpAny (model prog w) A (Builtin.«object.__getattribute__» ⟨[.ref a,.str "__class__" tk],[]⟩) Q E s:=by
 have L0:=I.type (M:=model prog w)
 have L1:=PySem.W.looks_find (M:=model prog w) X I (ahv hg hc)
 obtain ⟨hh,g,d,t,os⟩:=s
 refine wpAny_bind (wpAny_pure (wpAny_bind (wpAny_pure (wpAny_bind (L0.at (wpAny_bind (L1.at ?_)))))))
 show wpAny _ _ (holding [Value.builtin "object.__class__"] (call (.builtin "getset_descriptor.__get__") [.builtin "object.__class__",.ref a,.ref C]) >>= ret) _ _ _
 refine wpAny_bind (wpAny_holding (wpAny_call (PySem.W.class_get (ox:=oe) (od:=none) X I hc.mo ?_)))
 exact wpAny_pure hq
theorem ajc {Q:Option Value->SP0} (X:K.In s.heap) (hg:ClsG K) (hc:ExcK K C) (I:PySem.W.InstAt s.heap a oe C none) (hq:Q (some (.ref C)) { s with toks:=s.toks+1 }):wpAny (model prog w) A (getAttr? (.ref a) "__class__") Q E s:=by
 have L0:=I.type (M:=model prog w)
 have L1:=PySem.W.looks_findIn (M:=model prog w) X hc.ga
 have L2:=PySem.W.looks_findIn (M:=model prog w) X hc.gt
 obtain ⟨hh,g,d,t,os⟩:=s
 unfold getAttr? getAttrBy? getAttrBy
 refine wpAny_bind (wpAny_mkText (wpAny_bind (wpAny_attempt (wpAny_holding (wpAny_bind (L0.at (wpAny_bind (L1.at ?_))))))))
 have hx2:(Value.builtin "BaseException.__getattribute__" == Value.builtin "object.__getattribute__")=false:=by decide +kernel
 have hx1:(onTheHeap (Value.ref C) && Value.builtin "BaseException.__getattribute__" == Value.builtin "object.__getattribute__")=false:=by rw [hx2]; rfl
 dsimp only
 rw [hx1]
 show wpAny _ _ (getAttrByItsOwn _ _ _ _ _ _) _ _ _
 unfold getAttrByItsOwn hookBefore
 rw [if_pos (show onTheHeap (Value.ref C)=true from rfl)]
 refine wpAny_bind (L2.at (wpAny_bind (wpAny_attempt (wpAny_holding ?_))))
 unfold callGetattribute
 rw [if_neg (by simp)]
 have f3:=PySem.F.attr_ValueError.ga.bind (.ref a)
 have fin:codeAny (model prog w) A (.call (.builtin "BaseException.__getattribute__") ⟨[.ref a,.str "__class__" t],[]⟩) (fun r s'=>match r with | .ok (.ret v)=>v= .ref C/\s'=⟨hh,g,d,t+1,os⟩ | _=>False) ⟨hh,g,d,t+1,os⟩:=
  codeAny_call_builtin PySem.F.attr_ValueError.ga.plain F.entry_bexc_ga (af8 (s:=⟨hh,g,d,t+1,os⟩) X hc I (af9 (s:=⟨hh,g,d,t+1,os⟩) X hg hc I ⟨rfl,rfl⟩))
 unfold boundAndCalled
 rw [f3]
 refine wpAny_bind (wpAny_pure (wpAny_call (codeAny_mono fin fun r s' hr=>?_)))
 cases r with
 | error e=>exact hr.elim
 | ok fl=>
  cases fl with
  | ret v=>
   obtain ⟨rfl,rfl⟩:=hr
   exact PySem.W.handed_on rfl (wpAny_pure hq)
  | next=>exact hr.elim
  | brk=>exact hr.elim
  | cont=>exact hr.elim
theorem ahw (hg:ClsG K) (hc:ExcK K C):PySem.W.KitX K (.ref a) (.ref C) (fun h=>∃ oe,PySem.W.InstAt h a oe C none) where
 ty:=fun _ _ _ ⟨_,I⟩=>I.type
 it:=fun _ _ X _=>by
  obtain ⟨cdD,hcD⟩:=Option.isSome_iff_exists.mp hc.ci
  unfold PySem.W.clsIn at hcD
  split at hcD
  ·rename_i ho
   intro A' Q' E' s' k q
   unfold isType loadHead
   exact wpAny_bind (wpAny_loadPart (k _ _ (X _ _ ho)) (wpAny_pure q))
  ·cases hcD
 ne:=fun h tp dd its n sl X htp=>by
  obtain ⟨cdD,hcD⟩:=Option.isSome_iff_exists.mp hc.ci
  refine Bool.eq_false_iff.mpr fun q=>?_
  have e:C=tp:=Value.ref.inj (beq_iff_eq.mp q)
  subst e
  unfold PySem.W.clsIn at hcD
  split at hcD
  ·rename_i ho
   have z:=(X _ _ ho).symm.trans htp
   cases z
  ·cases hcD
 ca:=fun X ⟨_,I⟩ k=>ajc X hg hc I k
end
noncomputable def adr (K:Fg) (c:Str):Option Addr:=match PySem.W.nsIn K mainGlobals c with
 | some (some (.ref C))=>some C
 | _=>none
theorem akV {K:Fg}{c:Str}{C:Addr} (h:PySem.W.nsIn K mainGlobals c=some (some (.ref C))):adr K c=some C:=by
 unfold adr; rw [h]
theorem afc {K:Fg}{c:Str}{C:Addr} (h:adr K c=some C):PySem.W.nsIn K mainGlobals c=some (some (.ref C)):=by
 unfold adr at h
 split at h
 ·rename_i q; cases h; exact q
 ·cases h
noncomputable def akW (K:Fg) (C:Addr):Bool:=PySem.W.excIn K C vB "ValueError.__new__" && ((PySem.W.findIn K (.ref C) "__getattribute__" == some (some (.builtin "BaseException.__getattribute__"))) && ((PySem.W.findIn K (.ref C) "__getattr__" == some none) && ((PySem.W.findIn K (.ref C) "__class__" == some (some (.builtin "object.__class__"))) && ((PySem.W.mroIn K C (.type "object") == some true) && (PySem.W.mroIn K C (.type "BaseException") == some true)))))
theorem ahx {K:Fg}{C:Addr} (h:akW K C=true):ExcK K C:=by
 unfold akW at h
 simp only [Bool.and_eq_true,beq_iff_eq] at h
 obtain ⟨h1,h2,h3,h4,h5,h6⟩:=h
 exact ⟨h1,h2,h3,h4,h5,h6⟩
noncomputable def act (K:Fg) (y:Str) (cs:List Str):Bool:=(PySem.W.specialIn K (.builtin "object.__class__") "__get__" == some (some (.builtin "getset_descriptor.__get__"))) && ((PySem.W.takesIn K (.builtin "object.__class__") == some true) && (match adr K y with
 | none=>false
 | some B=>(PySem.W.typeIn K (.ref B) == some (.type "type")) && ((PySem.W.mroIn K B (.type "BaseException") == some true) && cs.all fun c=>match adr K c with
  | none=>false
  | some C=>akW K C && ((PySem.W.mroIn K C (.ref B) == some true) && ((PySem.W.kitOne K (.ref C) (.type "ValueError") == some true) && cs.all fun d=>match adr K d with
   | none=>false
   | some D=>PySem.W.kitOne K (.ref C) (.ref D) == some (c == d))))))
structure ErrT (K:Fg) (mg:SV) (y:Str) (cs:List Str):Prop where
 tab:act K y cs=true
 mgs:∀ c C,adr K c=some C->mg c=some (.ref C)
section
variable {K:Fg}{mg:SV}{y:Str}{cs:List Str}
theorem ErrT.g (h:ErrT K mg y cs):ClsG K:=by
 have:=h.tab
 unfold act at this
 simp only [Bool.and_eq_true,beq_iff_eq] at this
 exact ⟨this.1,this.2.1⟩
theorem ErrT.par (h:ErrT K mg y cs):∃ B,adr K y=some B/\mg y=some (.ref B)/\PySem.W.typeIn K (.ref B)=some (.type "type")/\PySem.W.mroIn K B (.type "BaseException")=some true/\
  ∀ c ∈ cs,∃ C,adr K c=some C/\mg c=some (.ref C)/\ExcK K C/\PySem.W.mroIn K C (.ref B)=some true/\PySem.W.kitOne K (.ref C) (.type "ValueError")=some true/\∀ d ∈ cs,∃ D,adr K d=some D/\mg d=some (.ref D)/\PySem.W.kitOne K (.ref C) (.ref D)=some (c == d):=by
 have q:=h.tab
 unfold act at q
 simp only [Bool.and_eq_true,beq_iff_eq] at q
 obtain ⟨_,_,q⟩:=q
 cases hB:adr K y with
 | none=>rw [hB] at q; cases q
 | some B=>
  rw [hB] at q
  simp only [Bool.and_eq_true,beq_iff_eq,List.all_eq_true] at q
  obtain ⟨q1,q2,q3⟩:=q
  refine ⟨B,rfl,h.mgs y B hB,q1,q2,fun c hc=>?_⟩
  have z:=q3 c hc
  cases hC:adr K c with
  | none=>rw [hC] at z; cases z
  | some C=>
   rw [hC] at z
   simp only [Bool.and_eq_true,beq_iff_eq,List.all_eq_true] at z
   obtain ⟨z1,z2,z3,z4⟩:=z
   refine ⟨C,rfl,h.mgs c C hC,ahx z1,z2,z3,fun d hd=>?_⟩
   have v:=z4 d hd
   cases hD:adr K d with
   | none=>rw [hD] at v; cases v
   | some D=>
    rw [hD] at v
    exact ⟨D,rfl,h.mgs d D hD,beq_iff_eq.mp v⟩
theorem ErrT.err (h:ErrT K mg y cs) {c:Str} (hc:c ∈ cs):af6 K mg c:=by
 obtain ⟨B,_,_,_,_,q⟩:=h.par
 obtain ⟨C,_,q2,q3,_⟩:=q c hc
 exact ⟨C,q2,q3.exc⟩
end
noncomputable def abE:PyData->Option Str
 | .dict [(.str c,.bool true)]=>some c
 | _=>none
theorem adk {d:PyData}{c:Str} (h:abE d=some c):d=ach c:=by
 unfold abE at h
 split at h
 ·cases h; rfl
 ·cases h
@[simp] theorem akX (c:Str):abE (ach c)=some c:=rfl
theorem ahy {K:Fg}{H:Hp}{x:Str}{v:V} (h:Rep K H (ach x) v):∃ a C oe,v= .ref a/\H a=some (.frz oe (.own a))/\PySem.W.nsIn K mainGlobals x=some (some (.ref C))/\oe.cls= .ref C/\oe.dict=none/\∃ vs,oe.data= .fields vs:=by
 obtain ⟨a,h1,⟨ns,h2,h3⟩ | ⟨ks,ob,h2,h3⟩ | ⟨y,h2,_⟩ | ⟨y,C,oe,h2,h3,h4,h5⟩ | h2⟩:=h
 ·cases ns with
  | nil=>cases h3
  | cons n ns=>cases h3
 ·exact h3.elim
 ·cases h2
 ·cases h2
  exact ⟨a,C,oe,h1,h3,h4,h5⟩
 ·cases h2
noncomputable def aga (cs:List Str) (f:Str->Bool) (d:PyData):OP:=(abE d).bind fun c=>if c ∈ cs then some (.bool (f c)) else none
section
variable {X:Cx}{a:Expr}{fa:RP}{pos p p2:Pos}{y:Str}{cs:List Str}
noncomputable def amj (K:Fg) (w:V):List V->Hp->VK->Prop:=fun xs H Q=>∃ x c C b,xs=[x,w]/\Rep K H (ach c) x/\adr K c=some C/\ExcK K C/\(∀ u,jL w u->PySem.W.kitOne K (.ref C) u=some b)/\Q (.bl b) H
theorem abF {w:V} (G:ClsG X.K):zL X (.builtin "isinstance") (amj X.K w):=by
 intro Kp s σ H xs us Q I r ⟨x,c,C,b,e,h1,hC,hK,h2,q⟩
 subst e
 obtain ⟨u,w',rfl,r1,r2⟩:=aeT r
 obtain ⟨a,C',oe,rfl,e2,e3,e4,e5,vs,e6⟩:=ahy h1
 have:=akV e3
 rw [hC] at this; cases this
 cases (show u=Value.ref a from r1)
 have at':s.heap.get? a=some oe:=(I.hok _ _ e2).1
 exact PySem.W.kia_one (ahw G hK) I.kIn ⟨oe,at',e4,by unfold PySem.W.notCls; rw [e6],by rw [e5]; trivial⟩ (h2 w' r2) (fun z=>nomatch z) fun tk=>⟨.bl b,H,I.tok tk,rfl,q⟩
theorem acu {T:Str} (hE:ErrT X.K X.mg y cs) (hm1:X.mg "isinstance"=none) (ha:PD X a fa) (hT:T ∈ cs:=by decide) (hg1:Gl X "isinstance":=by rfl) (hg2:Gl X T:=by rfl) (hd:(T == ("__debug__":Str))=false:=by decide)
  (he:starEach [a,.Name T p2] X.env=[(false,eval a X.env),(false,eval (.Name T p2) X.env)]:=by rfl) (he2:starEach [.Name T p2] X.env=[(false,eval (.Name T p2) X.env)]:=by rfl) (hpl:(backTo pos (starEach [.Name T p2] X.env)).any (·.1)=false:=by rfl):
  PD X (.Call (.Name "isinstance" p) [a,.Name T p2] [] pos) (fun ρ=>(fa ρ).bind (aga cs fun c=>c == T)):=by
 with_unfolding_all
  obtain ⟨B,_,_,_,_,par⟩:=hE.par
  obtain ⟨D,d1,d2,_⟩:=par T hT
  have hT2:PE X (.Name T p2) (tC (.ref D)):=ab3 hg2 d2 rfl hd
  refine PE.imp (JX (abF (w:= .ref D) hE.g) hg1 hm1 (by decide +kernel) (qr ha (qr hT2 zM (by rw [he2]; rfl)) (by rw [he,he2])) (by decide) (by decide) (by rw [he,he2]) hpl) fun σ H Q ⟨ρ,d,en,q,k⟩=>?_
  cases h1:fa ρ with
  | none=>simp [h1] at q
  | some c0=>
   have q':aga cs (fun c=>c == T) c0=some d:=by simpa [h1] using q
   unfold aga at q'
   cases h2:abE c0 with
   | none=>rw [h2] at q'; cases q'
   | some c=>
    rw [h2,zzD] at q'
    by_cases hc:c ∈ cs
    ·rw [if_pos hc] at q'
     cases q'
     have:=adk h2
     subst this
     obtain ⟨C,c1,c2,c3,c4,c5,c6⟩:=par c hc
     obtain ⟨D',d1',d2',d3'⟩:=c6 T hT
     rw [d1] at d1'; cases d1'
     exact ⟨ρ,_,en,h1,fun v H1 s1 r1=>⟨v,c,C,_,rfl,r1,c1,c3,fun u ru=>by cases (show u=Value.ref D from ru); exact d3',k _ H1 s1 rfl⟩⟩
    ·rw [if_neg hc] at q'; cases q'
theorem ajd (hE:ErrT X.K X.mg y cs) (hm1:X.mg "isinstance"=none) (hm2:X.mg "ValueError"=none) (ha:PD X a fa) (hg1:Gl X "isinstance":=by rfl) (hg2:Gl X "ValueError":=by rfl)
  (he:starEach [a,.Name "ValueError" p2] X.env=[(false,eval a X.env),(false,eval (.Name "ValueError" p2) X.env)]:=by rfl) (he2:starEach [.Name "ValueError" p2] X.env=[(false,eval (.Name "ValueError" p2) X.env)]:=by rfl) (hpl:(backTo pos (starEach [.Name "ValueError" p2] X.env)).any (·.1)=false:=by rfl):
  PD X (.Call (.Name "isinstance" p) [a,.Name "ValueError" p2] [] pos) (fun ρ=>(fa ρ).bind (aga cs fun _=>true)):=by
 with_unfolding_all
  obtain ⟨B,_,_,_,_,par⟩:=hE.par
  have hT2:PE X (.Name "ValueError" p2) (tC (.ty "ValueError")):=ab4 hg2 hm2 (u:= .type "ValueError") (by decide +kernel) rfl (by decide) (by decide)
  refine PE.imp (JX (abF (w:= .ty "ValueError") hE.g) hg1 hm1 (by decide +kernel) (qr ha (qr hT2 zM (by rw [he2]; rfl)) (by rw [he,he2])) (by decide) (by decide) (by rw [he,he2]) hpl) fun σ H Q ⟨ρ,d,en,q,k⟩=>?_
  cases h1:fa ρ with
  | none=>simp [h1] at q
  | some c0=>
   have q':aga cs (fun _=>true) c0=some d:=by simpa [h1] using q
   unfold aga at q'
   cases h2:abE c0 with
   | none=>rw [h2] at q'; cases q'
   | some c=>
    rw [h2,zzD] at q'
    by_cases hc:c ∈ cs
    ·rw [if_pos hc] at q'
     cases q'
     have:=adk h2
     subst this
     obtain ⟨C,c1,c2,c3,c4,c5,c6⟩:=par c hc
     exact ⟨ρ,_,en,h1,fun v H1 s1 r1=>⟨v,c,C,_,rfl,r1,c1,c3,fun u ru=>by cases (show u=Value.type "ValueError" from ru); exact c5,k _ H1 s1 rfl⟩⟩
    ·rw [if_neg hc] at q'; cases q'
end
section
variable {X:Cx}{σ:St}{H:Hp}{s:Shared}{e C:Addr}
theorem Inv.take {oe:Obj} (I:Inv X [] σ H s) (m:Mine X H e) (he:s.heap.get? e=some oe):Inv X [] σ (upd H e (.frz oe (.own e))) s/\jj H (upd H e (.frz oe (.own e))):=by
 have ne:∀ b o,H b=some o->b ≠ e:=fun b o q z=>by subst z; rw [m.un] at q; cases q
 have sm:jj H (upd H e (.frz oe (.own e))):=fun b o q=>by rw [jm (ne b o q)]; exact q
 have u:Un (frs X.stack) [e] H (upd H e (.frz oe (.own e))) s.heap s.heap:=⟨fun b o q _ _ _=>q,fun b o q _ _ _=>⟨o.slots,q⟩,fun b o q n nc=>by rw [jm (fun z=>nc (by simp [z]))]; exact n,fun b o q _=>⟨o,q⟩,fun b xs q=>sm b _ q,fun b o v q=>sm b _ q,fun b ps q=>⟨#[],by rw [sm b _ q]; simp⟩⟩
 have hok:HOk X.prog X.w (upd H e (.frz oe (.own e))) s.heap:=fun b o q=>by
  by_cases hb:b=e
  ·subst hb
   rw [jr] at q; cases q
   exact ⟨he,_,he⟩
  ·rw [jm hb] at q
   exact (I.hok b o q).stay (fun c v hc r=>r) (fun c r=>sm _ _ r) fun c v r=>sm _ _ r
 refine ⟨?_,sm⟩
 have J:=Inv.call (X:={ X with ex:=[e]++X.ex }) (g':=s.gens) (d':=s.drawn) (t':=s.toks) (Inv.exIn I fun b hb=>by rw [List.mem_singleton.mp hb]; exact ⟨m.new,m.loc,m.cel⟩) u hok I.bare fun b hb=>by
  rw [List.mem_singleton.mp hb]
  exact ⟨.inl (List.mem_append_left _ (by simp)),m.loc,m.cel,fun p hp=>m.pin p (by simpa using hp)⟩
 exact Inv.exOut J I.ok fun b hb=>by rw [List.mem_singleton.mp hb]; exact m.new
theorem aje {M:Model}{A:Around}{E:Value->SP0}{x:Str}{pos:Pos}{Q:Unit->SP0} (I:Inv X [] σ H s) (hl:X.env.kindOf x=some .local) (h:∀ s',Inv X [] (List.replicate σ.length none) H s'->Q () s'):
  wpAny M A (do bindName X.env x .none; unbindBehindTheSuite X.env x pos) Q E s:=by
 obtain ⟨m,hn,_⟩:=id I.loc
 have hcls:(X.env.scope.kind == .class || (X.env.scope.kind == .module && X.env.locals != X.env.globals))=false:=by rw [I.ok.kind]; rfl
 have cne:=I.cne
 refine wpAny_nameGoes hl hn hcls fun h' m' hn' hs=>?_
 obtain ⟨oL,_,_,hoL,_⟩:=id hn
 have tracked:HOk X.prog X.w H h':=fun b ob e=>by
  refine (I.hok b ob e).stay (fun c w' hc q=>(hs.2 c ?_).trans q) (fun _ q=>q) fun _ _ q=>q
  rintro rfl
  rcases hc with rfl | hc
  ·rw [I.free] at e; cases e
  ·rw [I.free] at hc; cases hc
 refine h _ ⟨I.ok,I.os,I.bare,⟨fun b o e n hb hx=>?_,fun b o e n hb hx=>?_,I.base.free,fun b o e hx=>?_,I.base.tups,I.base.frzs,I.base.tbls⟩,⟨_,hn',fun j y v' e1 e2 e3=>?_⟩,fun y c e=>?_,I.free,I.freeC,fun p hp=>?_,tracked,by simpa using I.len⟩
 ·exact (hs.2 b (Nat.ne_of_lt (Nat.lt_of_lt_of_le (Heap.lt_size e) I.ok.above))).trans (I.base.keep b o e n hb hx)
 ·obtain ⟨sl,e1⟩:=I.base.slot b o e n hb hx
  exact ⟨sl,(hs.2 b (Nat.ne_of_lt (Nat.lt_of_lt_of_le (Heap.lt_size e) I.ok.above))).trans e1⟩
 ·obtain ⟨o',e1⟩:=I.base.there b o e hx
  exact ⟨o',(hs.2 b (Nat.ne_of_lt (Nat.lt_of_lt_of_le (Heap.lt_size e) I.ok.above))).trans e1⟩
 ·rw [List.getElem?_replicate] at e2
  split at e2 <;> cases e2
 ·obtain ⟨w',z⟩:=I.cell y c e
  exact ⟨w',z.sameBut hs (cne y c e)⟩
 ·obtain ⟨e,n,ne,nf,d⟩:=I.pin p hp
  exact ⟨(hs.2 p.1 ne).trans e,n,ne,nf,d⟩
theorem adl {M:Model}{A:Around}{E:Value->SP0}{K:Fg}{B:Addr}{oe:Obj}{Q:Bool->SP0} (X:K.In s.heap) (he:s.heap.get? e=some oe) (hc:oe.cls= .ref C)
  (ht:PySem.W.typeIn K (.ref B)=some (.type "type")) (hB:PySem.W.mroIn K B (.type "BaseException")=some true) (hm:PySem.W.mroIn K C (.ref B)=some true) (hq:Q true s):wpAny M A (excMatches (.ref e) (.ref B)) Q E s:=by
 have L0:=PySem.W.looks_typeIn (M:=M) X ht
 have L1:=PySem.W.looks_mroIn (M:=M) X hB
 have L2':=PySem.W.looks_mroIn (M:=M) X hm
 have Lt:PySem.W.Looks M s.heap (isType (.ref B)) true:=by
  obtain ⟨cdD,hcD⟩:=Option.isSome_iff_exists.mp (adj hB)
  unfold PySem.W.clsIn at hcD
  split at hcD
  ·rename_i ho
   intro A' Q' E' s' k q
   unfold isType loadHead
   exact wpAny_bind (wpAny_loadPart (k _ _ (X _ _ ho)) (wpAny_pure q))
  ·cases hcD
 have f:=tc_notTuple
 obtain ⟨hp,g,d,tk,os⟩:=s
 unfold excMatches isInstance isExcClass
 repeat (first | (with_reducible refine wpAny_loadPart_at he ?_; rw [hc]) | with_reducible refine L0.at ?_ | with_reducible refine L1.at ?_ | with_reducible refine L2'.at ?_ | with_reducible refine Lt.at ?_ | wp_step)
 exact hq
end
noncomputable def ZG (n i:Nat) (cs:List Str) (F:RO) (fx:Rho->Option Str) (G:RO):RO:=fun ρ=>match F ρ with
 | some o=>some o
 | none=>match fx ρ with
  | some c=>if c ∈ cs then (match G ((aaM n).set i (some (ach c))) with
   | some (.rt d)=>some (.rt d)
   | _=>none) else none
  | none=>none
section
variable {X:Cx}{st b0:Stmt}{sts jZ tb hb:List Stmt}{F G:RO}{fx:Rho->Option Str}{pos:Pos}
theorem ahz {y x:Str}{np hpos:Pos}{n:Nat}{cs:List Str} (i:Nat) (T0:Top0 X) (hN:X.N.length=n) (hnd:X.N.Nodup) (hE:ErrT X.K X.mg y cs) (hn:∀ E,QR (X.wish E) tb F) (hx:∀ E,aae (X.wish E) tb fx) (hh:∀ e,QR (hX X e) (b0::hb) G)
  (hi:X.N[i]?=some x:=by rfl) (hl:X.env.kindOf x=some .local:=by rfl) (hlk:X.env.scope.names.lookup x=some .local:=by rfl) (hg:Gl X y:=by rfl) (hdb:(y == ("__debug__":Str))=false:=by decide):PS0 X (.Try tb [.ExceptHandler (some (.Name y np)) (some x) (b0::hb) hpos] [] [] pos) (ZG n i cs F fx G):=by
 with_unfolding_all
  intro s σ H D I ⟨ρ,o,en,q,k⟩
  refine wpAny_Try_except ?_
  let E':Value->SP0:=fun ev s1=>wpAny (model X.prog X.w) X.A (noteFrame ev X.env) (fun _ s₂=>wpAny (model X.prog X.w) X.A (setFlight ev none) (fun _ s₃=>wpAny (model X.prog X.w) X.A (handleBy ev X.env [.ExceptHandler (some (.Name y np)) (some x) (b0::hb) hpos]) (SP X [] D) X.xe s₃) X.xe s₂) X.xe s1
  cases hF:F ρ with
  | some o1=>
   have e1:o1=o:=by simpa [ZG,hF] using q
   subst e1
   refine wpAny_mono (hn E' [] s σ H D (I.wish E') ⟨ρ,o1,en,hF,k⟩) (fun f s1 z=>?_) fun _ _ z=>z
   have z':=SP.unwish z
   cases f with
   | next=>exact wpAny_execs_nil z'
   | brk=>exact z'
   | cont=>exact z'
   | ret u=>exact z'
  | none=>
   cases hc:fx ρ with
   | none=>simp [ZG,hF,hc] at q
   | some c=>
    by_cases hy:c ∈ cs
    ·cases hG:G ((aaM n).set i (some (ach c))) with
     | none=>simp [ZG,hF,hc,hy,hG] at q
     | some o1=>
     cases o1 with
     | nx ρ1=>simp [ZG,hF,hc,hy,hG] at q
     | bk ρ1=>simp [ZG,hF,hc,hy,hG] at q
     | ct ρ1=>simp [ZG,hF,hc,hy,hG] at q
     | rt d=>
     have q':Out.rt d=o:=by simpa [ZG,hF,hc,hy,hG] using q
     subst q'
     obtain ⟨B,aB,mB,tB,bB,par⟩:=hE.par
     obtain ⟨C',aC,mC,xC,pC,_⟩:=par c hy
     refine wpAny_mono (hx E' s σ H ρ c (I.wish E') en hc fun ev s1 t=>?_) (fun _ _ z=>z.elim) fun _ _ z=>z
     obtain ⟨e,C,σ1,H1,rfl,hm,J,sm,xc⟩:=t
     have J0:=J.unwish
     have x0:=xc.unwish
     show wpAny _ X.A (noteFrame (.ref e) X.env) _ _ s1
     refine wpAny_mono (acr (E:=fun _ _=>False) T0 J0.ok.frames J0 x0) (fun _ s2 ⟨J2,t2⟩=>?_) fun _ _ z=>z.elim
     refine wpAny_mono (Jr (E:=fun _ _=>False) none J2 t2) (fun _ s3 ⟨J3,t3⟩=>?_) fun _ _ z=>z.elim
     have ok:=J3.ok
     have hm0:X.mg c=some (.ref C):=hm
     rw [hm0] at mC; cases mC
     have fr:(X.A.mark (some (.ref e))).frames=some X.stack:=ok.frames
     have J4:Inv (hX X e) [] σ1 H1 s3:=Inv.asA J3 fr (fun z=>nomatch z)
     refine wpAny_handleBy_cons (codeAny_handlers_test ?_) (fun z=>nomatch z)
     refine aaj (X:=hX X e) J4 hg mB ?_ hdb
     obtain ⟨oe,ws,T,oT,ts,g1,g2,g3,g4,g5,g6,g7,g8,g9⟩:=id t3.ob
     refine adl J4.kIn g1 g2.1 tB bB pC ?_
     refine codeAny_handlers_suite_as ?_
     refine wpAny_mono (Jr (A:=X.A.mark (some (.ref e))) (E:=fun _ _=>False) none J3 t3) (fun _ s5 ⟨J5,t5⟩=>?_) fun _ _ z=>z.elim
     obtain ⟨oe5,ws5,T5,oT5,ts5,g51,g52,g53,_⟩:=id t5.ob
     obtain ⟨J6,sm6⟩:=Inv.take J5 t5.mine g51
     have J7:Inv (hX X e) [] σ1 (upd H1 e (.frz oe5 (.own e))) s5:=Inv.asA J6 fr (fun z=>nomatch z)
     have hlen:σ1.length=n:=by rw [←hN,←J5.len]
     refine aau (X:=hX X e) J7 hnd hi (.inl hlk) (v:= .ref e) rfl (fun s6 J8=>?_) (.inr hlk)
     have re:Rep X.K (upd H1 e (.frz oe5 (.own e))) (ach c) (.ref e):=⟨e,rfl,.inr (.inr (.inr (.inl ⟨c,_,oe5,rfl,jr,afc aC,g52.1,g52.2,ws5,g53⟩)))⟩
     have eb:EnvR X.K (upd H1 e (.frz oe5 (.own e))) ((aaM n).set i (some (ach c))) (σ1.set i (some (.ref e))):=by
      refine ⟨by simp [aaM,hlen],fun j d qd=>?_⟩
      by_cases hj:j=i
      ·subst hj
       rw [List.getElem?_set_self (by simp only [aaM,List.length_replicate]; rw [←hN]; exact (List.getElem?_eq_some_iff.mp hi).1)] at qd
       cases qd
       exact ⟨.ref e,List.getElem?_set_self (by rw [hlen,←hN]; exact (List.getElem?_eq_some_iff.mp hi).1),re⟩
      ·rw [List.getElem?_set_ne (Ne.symm hj)] at qd
       simp [aaM,List.getElem?_replicate] at qd
     refine wpAny_mono (hh e [] s6 _ _ { D with nx:=fun _ _=>False,bk:=fun _ _=>False,ct:=fun _ _=>False } J8 ⟨_,.rt d,eb,hG,fun v H' sm' r=>k v H' ((sm.trans sm6).trans sm') r⟩) (fun f s7 z=>?_) fun _ _ z=>z.elim
     have z':=SP.ofA J5.ok z
     cases f with
     | next=>obtain ⟨_,_,_,z⟩:=z'; exact z.elim
     | brk=>obtain ⟨_,_,_,z⟩:=z'; exact z.elim
     | cont=>obtain ⟨_,_,_,z⟩:=z'; exact z.elim
     | ret u=>
      obtain ⟨v,σ',H',I',r,z⟩:=z'
      exact aje I' hl fun s8 I8=>⟨v,_,H',I8,r,z⟩
    ·simp [ZG,hF,hc,hy] at q
end
noncomputable abbrev ana:=Int × (Int × Int)
structure TripAt (h:Heap) (u:Value) (t:ana):Prop where
 ex:∃ a o k tk a2,u= .ref a/\h.get? a=some o/\o.cls= .type "tuple"/\o.data= .seq #[.int t.1 tk,.ref a2] k/\PairAt h (.ref a2) t.2
section
variable {X:Cx}
theorem ahA {Kp:List (Addr × Obj)}{σ:St}{H:Hp}{s:Shared}{a:Addr}{o:Obj}{xs:Array Value}{k:Nat} (I:Inv X Kp σ H s) (eo:s.heap.get? a=some o) (dk:o.data= .seq xs k):a ≠ X.env.locals:=fun z=>by
 obtain ⟨_,⟨o',es,ep,h1,h2,_⟩,_⟩:=I.loc
 rw [z] at eo; rw [eo] at h1; cases h1
 rw [dk] at h2; cases h2
theorem ajf {Kp:List (Addr × Obj)}{σ:St}{H:Hp}{s:Shared}{v:V}{p:Int × Int}{u:Value}{h':Heap} (I:Inv X Kp σ H s) (r:Rep X.K H (ahg p) v) (rv:jL v u) (kp:∀ b o,b ≠ X.env.locals->s.heap.get? b=some o->h'.get? b=some o):∃ a,u= .ref a/\PairAt h' u p:=by
 obtain ⟨a2,ws,e2,e3,x1,r1,e4,e5,x2,r2,e6,e7,e8⟩:=r
 cases (show x1=_ from e5)
 cases (show x2=_ from e7)
 cases (show r2=[] from e8)
 subst e6; subst e4; subst e2
 cases rv
 obtain ⟨its,r3,⟨o,eo,co,k,dk⟩,_⟩:=I.tuple e3
 cases r3 with
 | cons y1 r3=>
  cases r3 with
  | cons y2 r3=>
   cases r3
   obtain ⟨t,rfl⟩:=y1
   obtain ⟨t',rfl⟩:=y2
   exact ⟨a2,rfl,a2,o,k,t,t',rfl,kp a2 o (ahA I eo dk) eo,co,by simpa using dk⟩
end
section
variable {α:Type}
end
section
variable {X:Cx}{e a b c:Expr}{es jZ:List Expr}{st:Stmt}{sts srest:List Stmt}{fx gx:Rho->Option Str}{fa fb:RP}{F:RO}{pos:Pos}
theorem akY (h1:PSX X st fx) (h2:PSX X st gx):PSX X st (orX fx gx):=by
 with_unfolding_all
  intro s σ H ρ c I en q k
  cases hf:fx ρ with
  | some c'=>
   have:c'=c:=by simpa [orX,hf] using q
   subst this
   exact h1 s σ H ρ c' I en hf k
  | none=>exact h2 s σ H ρ c I en (by simpa [orX,hf] using q) k
noncomputable def Ja:PyData->Option (LP)
 | .list ds=>some ds
 | .tuple ds=>some ds
 | _=>none
noncomputable def itS (fa:RP):Rho->Option (LP):=fun ρ=>(fa ρ).bind Ja
theorem JI {tg:Expr} (h:PD X e fa):PID X tg e (itS fa):=by
 with_unfolding_all
  intro Kp s σ H R I ⟨ρ,ds,en,q,k⟩
  cases hf:fa ρ with
  | none=>simp [itS,hf] at q
  | some d=>
   have q':Ja d=some ds:=by simpa [itS,hf] using q
   cases d with
   | list es=>
    cases q'
    exact ac7 (tg:=tg) h Kp s σ H R I ⟨ρ,ds,en,by simp [itL,hf,aaE],k⟩
   | tuple es=>
    cases q'
    exact ae1 (tg:=tg) h Kp s σ H R I ⟨ρ,ds,en,by simp [itT,hf,ZC],k⟩
   | _=>cases q'
end
theorem _root_.L2.Room.units1 {k:Nat}{A:Around} (r:Room k A):A.units+1<cLine:=by have:=r.un; omega
theorem RoomH.units {k:Nat}{A:Around} (r:RoomH k A):A.units+64<cLine:=by have:=r.un; omega
theorem RoomH.mono {j k:Nat}{A:Around} (r:RoomH k A) (h:j<=k):RoomH j A:=⟨by have:=r.dp; omega,by have:=r.un; omega⟩
section
variable {X:Cx}{a b:Expr}{pos:Pos}
theorem adm {op:CmpOp}{f:RP} (h:PC X op a b (tD X.K f)) (hm:behindInMarks op b=false:=by first | exact ad7 _ | with_unfolding_all rfl):PD X (.Compare a [op] [b] pos) f:=by
 with_unfolding_all exact (akc h hm)
end
@[irreducible] noncomputable def PTX (X:Cx) (e:Expr) (fx:Rho->Option Str):Prop:=∀ (s:Shared) (σ:St) (H:Hp) (ρ:Rho) (c:Str),Inv X [] σ H s->EnvR X.K H ρ σ->fx ρ=some c->(∀ ev s',Thr X H c ev s'->X.xe ev s')->wpAny (model X.prog X.w) X.A (isTrue e X.env (eval e X.env)) (fun _ _=>False) X.xe s
section
variable {X:Cx}{e a b c:Expr}{l r:List Stmt}{fx gx:Rho->Option Str}{pos:Pos}
theorem ajg (h:PDX X e fx) (he:∀ whole,isTrue e X.env whole=(do let v ←whole; standAt e.pos; holding [v] (truthy v)):=by intro _; rfl):PTX X e fx:=by
 with_unfolding_all
  intro s σ H ρ c I en q k
  exact isTrue_plain (wpAny_mono (h s σ H ρ c I en q k) (fun _ _ z=>z.elim) fun _ _ z=>z) (he _)
theorem ajh (h:PTX X e fx):PTX X (.UnaryOp .Not e pos) fx:=by
 with_unfolding_all
  intro s σ H ρ c I en q k
  exact isTrue_not (wpAny_mono (h s σ H ρ c I en q k) (fun _ _ z=>z.elim) fun _ _ z=>z)
theorem aji (h:PTX X e fx):PSX X (.If e l r pos) fx:=by
 with_unfolding_all
  intro s σ H ρ c I en q k
  exact wpAny_If (wpAny_mono (h s σ H ρ c I en q k) (fun _ _ z=>z.elim) fun _ _ z=>z)
end
section
variable {X:Cx}{own:Option Nat}{tg:Expr}{st:Stmt}{sts:List Stmt}{fx:Rho->Option Str}{F:RO}
end
section
variable {X:Cx}{a i e:Expr}{es:List Expr}{pos fp:Pos}
end
section
variable {X:Cx}{own:Option Nat}{e a b c:Expr}{es:List Expr}{st:Stmt}{sts jZ:List Stmt}{fa fb fc:RP}{F G:RO}{pos:Pos}
noncomputable def adn (F:RO):RO:=fun ρ=>match F ρ with
 | some (.rt d)=>some (.rt d)
 | _=>none
theorem ahB {i:Nat} (h:QR X sts F):acp X (some i) sts (adn F):=by
 with_unfolding_all
  intro Kp s σ H D I ⟨Hs,ρ,o,E,q,k⟩
  cases hF:F ρ with
  | none=>simp [adn,hF] at q
  | some o1=>
   cases o1 with
   | rt d=>
    have:Out.rt d=o:=by simpa [adn,hF] using q
    subst this
    obtain ⟨d0,a,cl,o',g1,g2,g3,S,g4,env,sm,back,keep⟩:=E.opn
    exact h Kp s σ (upd H a o') D (Inv.opened I S g4) ⟨ρ,.rt d,env,hF,fun v H' s' r=>k v H' (sm.trans s') r⟩
   | nx _=>simp [adn,hF] at q
   | bk _=>simp [adn,hF] at q
   | ct _=>simp [adn,hF] at q
end
section
variable {X:Cx}{tg src:Expr}{pos pos':Pos}{own:Option Nat}
end
noncomputable def amk (ps:List (Int × Int)):PyData:= .tuple (ps.map ahg)
noncomputable def Q8 (h:Heap):List Value->List (Int × Int)->Prop
 | [],ps=>ps=[]
 | v::vs,ps=>∃ p r a,ps=p::r/\v= .ref a/\PairAt h (.ref a) p/\Q8 h vs r
theorem Q8.len {h:Heap}:∀ {vs:List Value}{ps:List (Int × Int)},Q8 h vs ps->vs.length=ps.length
 | [],ps,e=>by cases (show ps=[] from e); rfl
 | v::vs,ps,⟨p,r,a,e,_,_,k⟩=>by rw [e,List.length_cons,List.length_cons,k.len]
structure SetAt (h:Heap) (u:Value) (ps:List (Int × Int)):Prop where
 ex:∃ a o k vs,u= .ref a/\h.get? a=some o/\o.cls= .type "tuple"/\o.data= .seq (List.toArray vs) k/\Q8 h vs ps
section
variable {X:Cx}
theorem ado {Kp:List (Addr × Obj)}{σ:St}{H:Hp}{s:Shared}{h':Heap} (I:Inv X Kp σ H s) (kp:∀ b o,b ≠ X.env.locals->s.heap.get? b=some o->h'.get? b=some o):∀ (ps:List (Int × Int)) (xs:List V) (us:List Value),Reps X.K H (ps.map ahg) xs->jD xs us->Q8 h' us ps
 | [],xs,us,r,v=>by
  cases (show xs=[] from r)
  cases v
  rfl
 | p::ps,xs,us,r,v=>by
  obtain ⟨x,q,rfl,e2,e3⟩:=r
  cases v with
  | cons y v=>
   obtain ⟨a,rfl,pp⟩:=ajf I e2 y kp
   exact ⟨p,ps,a,rfl,rfl,pp,ado I kp ps _ _ e3 v⟩
theorem jG {Kp:List (Addr × Obj)}{σ:St}{H:Hp}{s:Shared}{v:V}{p:List (Int × Int)}{u:Value}{h':Heap} (I:Inv X Kp σ H s) (r:Rep X.K H (amk p) v) (rv:jL v u) (kp:∀ b o,b ≠ X.env.locals->s.heap.get? b=some o->h'.get? b=some o):SetAt h' u p:=by
 obtain ⟨a2,ws,e2,e3,e4⟩:=r
 subst e2
 cases rv
 obtain ⟨its,r3,⟨o,eo,co,k,dk⟩,_⟩:=I.tuple e3
 exact ⟨a2,o,k,its,rfl,kp a2 o (ahA I eo dk) eo,co,dk,ado I kp p ws its e4 r3⟩
end
set_option maxHeartbeats 4000000 in
section
variable {X:Cx}
end
section
variable {prog:Program}{w:World}{A:Around}{E:Value->SP0}{s:Shared}
theorem adp {sl:Addr}{vk:Value}{n:Nat}{Q:Int × Int × Nat->SP0} (hs:s.heap.IsSliceOf sl .none .none vk) (pk:IsPart vk (some (-1)))
  (h:Q ((n:Int) - 1,-1,n) s):wpAny (model prog w) A (Builtin.Slice.sliceApplied (.ref sl) (pure (n:Int))) Q E s:=by
 obtain ⟨os,hos,hcs,hds⟩:=id hs
 unfold Builtin.Slice.sliceApplied Builtin.Slice.sliceFields
 refine wpAny_bind (wpAny_bind (wpAny_field hos hds (x:= .none) rfl (wpAny_bind (wpAny_field hos hds (x:= .none) rfl (wpAny_bind (wpAny_field hos hds (x:=vk) rfl (wpAny_pure ?_)))))))
 refine wpAny_bind (HT.slicePart_ pk ?_)
 show wpAny _ _ (if (((-1:Int)) == 0)=true then _ else _) _ _ s
 rw [if_neg (by decide)]
 refine wpAny_bind (PyProof.Rows.slicePart_none (wpAny_bind (PyProof.Rows.slicePart_none (wpAny_bind (wpAny_pure ?_)))))
 show wpAny _ _ (pure (((n:Int) - 1),(-1:Int),Builtin.Slice.slicePlaces ((n:Int) - 1) (-1) (-1))) _ _ s
 have e:Builtin.Slice.slicePlaces ((n:Int) - 1) (-1) (-1)=n:=by
  unfold Builtin.Slice.slicePlaces
  rw [if_neg (by decide)]
  by_cases hn:(n:Int) - 1 > -1
  ·rw [if_pos hn,show (- -1:Int)=1 by decide,Int.ediv_one]; omega
  ·rw [if_neg hn]; omega
 rw [e]
 exact wpAny_pure h
theorem agb (xs:Array Value):((List.range xs.size).filterMap fun (k:Nat)=>xs[(((xs.size:Int) - 1)+(k:Int)*(-1)).toNat]?).toArray=xs.toList.reverse.toArray:=by
 have e:((List.range xs.size).filterMap fun (k:Nat)=>xs[(((xs.size:Int) - 1)+(k:Int)*(-1)).toNat]?)=((List.range xs.size).map fun k=>xs.size - 1 - k).filterMap (xs[·]?):=by
  rw [List.filterMap_map]
  have key:∀ l:List Nat,(∀ k ∈ l,k<xs.size)->l.filterMap (fun (k:Nat)=>xs[(((xs.size:Int) - 1)+(k:Int)*(-1)).toNat]?)=l.filterMap ((fun x=>xs[x]?) ∘ fun k=>xs.size - 1 - k):=by
   intro l
   induction l with
   | nil=>intro _; rfl
   | cons k l ih=>
    intro hl
    have hk:=hl k List.mem_cons_self
    have e1:(((xs.size:Int) - 1)+(k:Int)*(-1)).toNat=xs.size - 1 - k:=by omega
    simp only [List.filterMap_cons,Function.comp_apply,e1,ih fun j hj=>hl j (List.mem_cons_of_mem _ hj)]
  exact key _ fun k hk=>List.mem_range.mp hk
 rw [e,PySem.W.krv_range,List.filterMap_reverse,PySem.W.krv_all]
theorem aaf {t sl:Addr}{Ja:Array Value}{vk:Value}{Q:Value->SP0} (ht:IsTup s.heap t Ja) (hs:s.heap.IsSliceOf sl .none .none vk) (pk:IsPart vk (some (-1)))
  (h:Q (.ref s.heap.objs.size) { s with heap:=s.heap.push { cls:= .type "tuple",data:= .seq Ja.toList.reverse.toArray } }) (hsz:Ja.size<=sizeLine):wpAny (model prog w) A (getItem (.ref t) (.ref sl)) Q E s:=by
 obtain ⟨os,hos,hcs,hds⟩:=id hs
 have hTs:s.TypeIs (.ref sl) "slice":=⟨os,hos,hcs⟩
 have hz:sizeOk (.seq Ja.toList.reverse.toArray):=by
  show Ja.toList.reverse.toArray.size<=sizeLine
  rw [List.size_toArray,List.length_reverse,Array.length_toList]; exact hsz
 unfold getItem
 first | (with_reducible refine wpAny_holding ?_) | skip
 first | refine wpAny_bind (wpAny_pure ?_) | skip
 refine wpAny_bind (wpAny_sequenceKey ht.typeIs (by decide) ?_)
 refine wpAny_bind (wpAny_callSpecial?_slot (name:=Str.ofString "__getitem__") ht.typeIs PyProof.Rows.slot_tuple_getitem (wpAny_call_entry PyProof.Rows.slot_tuple_getitem ht.typeIs entry_tuple_getitem ?_ (args_tuple_getitem _ _)))
 show wpAny _ _ (Builtin.Tuple.tupleItemsOf (.ref t) >>= _) _ _ s
 refine wpAny_bind (tupleItemsOf_ ht (wpAny_bind (wpAny_typeOf hTs ?_)))
 rw [if_pos (show (Value.type "slice" == Value.type "slice")=true by decide)]
 refine wpAny_bind (adp hs pk ?_)
 show wpAny _ _ (if (((Ja.size:Int) - 1) == 0 && ((-1:Int)) == 1 && Ja.size == Ja.size)=true then _ else _) _ _ s
 rw [if_neg (by simp),agb]
 first
  | exact wpAny_bind (m:=Builtin.Tuple.tupleExact _) (wpAny_newObj_type (wpAny_pure ⟨_,rfl,wpAny_pure h⟩) hz)
  | exact wpAny_bind (m:=Builtin.Tuple.tupleExact _) (wpAny_newObj_type (wpAny_bind (wpAny_pure (wpAny_pure ⟨_,rfl,wpAny_pure h⟩))) hz)
  | exact wpAny_bind (wpAny_bind (m:=Builtin.Tuple.tupleExact _) (wpAny_newObj_type (wpAny_pure (wpAny_pure ⟨_,rfl,wpAny_pure h⟩)) hz))
  | exact wpAny_bind (wpAny_bind (m:=Builtin.Tuple.tupleExact _) (wpAny_newObj_type (wpAny_pure ⟨_,rfl,wpAny_pure h⟩) hz))
end
section
variable {X:Cx}{a:Expr}{fa:RP}{pos p1 p2 p3:Pos}{j:Nat}
noncomputable def agc (p:PyData):OP:=match p with
 | .tuple ds=>some (.tuple ds.reverse)
 | .list ds=>some (.list ds.reverse)
 | _=>none
theorem Reps.rev {K:Fg}{H:Hp}{ds:LP}{xs:List V} (h:Reps K H ds xs):Reps K H ds.reverse xs.reverse:=by
 have app:∀ {as bs:LP} {us vs:List V},Reps K H as us->Reps K H bs vs->Reps K H (as++bs) (us++vs):=by
  intro as
  induction as with
  | nil=>intro bs us vs h1 h2; cases (show us=[] from h1); exact h2
  | cons d as ih=>
   intro bs us vs ⟨x,r,e,h1,h2⟩ h3
   subst e
   exact ⟨x,r++vs,rfl,h1,ih h2 h3⟩
 induction ds generalizing xs with
 | nil=>cases (show xs=[] from h); rfl
 | cons d ds ih=>
  obtain ⟨x,r,rfl,h1,h2⟩:=h
  rw [List.reverse_cons,List.reverse_cons]
  exact app (ih h2) ⟨x,[],rfl,h1,rfl⟩
theorem akZ (ha:PD X a fa):PD X (.Subscript a (.Slice none none (some (.UnaryOp .USub (.Constant (.int 1) j p1) p2)) p3) pos) (fun ρ=>(fa ρ).bind agc):=by
 with_unfolding_all
  intro Kp s σ H Q I ⟨ρ,d,en,q,k⟩
  cases h1:fa ρ with
  | none=>simp [h1] at q
  | some p=>
   have q':agc p=some d:=by simpa [h1] using q
   refine Subscript_ (thn (ha Kp s σ H (fun v H1=>jj H H1/\Rep X.K H1 p v) I ⟨ρ,p,en,h1,fun v H1 s1 r1=>⟨s1,r1⟩⟩) fun v s1 ⟨x,H1,I1,r1,sm,rp⟩=>?_)
   refine wpAny_Slice ?_
   rw [evalPart_none]
   refine wpAny_pure (wpAny_pure ?_)
   refine thn (zt (X:=X) (agK ad6 ad1) Kp s1 σ H1 (fun o H2=>o=some (-1)/\H2=H1) I1 ⟨1,rfl,-1,rfl,rfl,rfl⟩) fun vk s2 ⟨o,H2,I2,pk,e1,e2⟩=>?_
   subst e1
   subst e2
   have I4:Inv X Kp σ H2 { s2 with heap:=s2.heap.push { cls:= .type "slice",data:= .fields #[.none,.none,vk] } }:=I2.kept (t':=s2.toks) fun b ob q=>Heap.get?_push_of_some _ q
   unfold agc at q'
   split at q'
   ·rename_i ds
    cases q'
    obtain ⟨t,xs,rfl,hx,rr⟩:=rp
    cases r1
    obtain ⟨its,r,ht,hz⟩:=I4.tuple hx
    have hlen:its.toArray.size=xs.length:=by rw [List.size_toArray]; exact r.length.symm
    refine tail_any (ops:=[.ref t,.ref s2.heap.objs.size]) ht.typeIs PyProof.Rows.slot_tuple_getitem.lookup (aaf ht (Heap.IsSliceOf.new ..) pk ?_ (by rw [hlen]; exact hz)) (by with_unfolding_all rfl)
    have hn:=I4.hok.fresh (Nat.le_refl _)
    refine ⟨.ref _,_,I4.laid (t':=s2.toks) (o:= .tup xs.reverse) (fun b ob q=>Heap.get?_push_of_some _ q) (Nat.le_refl _) ?_,rfl,k _ _ (sm.trans (jA hn)) ⟨_,_,rfl,SqT.of jr,Reps.mono (jA hn) _ _ rr.rev⟩⟩
    exact ⟨by rw [List.length_reverse]; exact hz,_,r.reverse,IsTup.new _ _⟩
   ·rename_i ds
    cases q'
    obtain ⟨t,xs,rfl,hx,rr⟩:=rp
    cases r1
    obtain ⟨its,r,ht,hz⟩:=I4.list (SqL.of hx)
    have hlen:=r.length
    refine tail_any (ops:=[.ref t,.ref s2.heap.objs.size]) ht.isList.typeIs slot_list_getitem.lookup (wpAny_getItem_list_slice ht.isList (Heap.IsSliceOf.new ..) .none .none pk (by decide) ?_ (by rw [List.size_toArray] <;> omega)) (by with_unfolding_all rfl)
    rw [PySem.W.krv_pick]
    have hn:=I4.hok.fresh (Nat.le_refl _)
    refine ⟨.ref _,_,I4.laid (t':=s2.toks) (o:= .lst xs.reverse) (fun b ob q=>Heap.get?_push_of_some _ q) (Nat.le_refl _) ?_,rfl,k _ _ (sm.trans (jA hn)) ⟨_,_,rfl,jr,Reps.mono (jA hn) _ _ rr.rev⟩⟩
    exact ⟨by rw [List.length_reverse]; exact hz,_,0,r.reverse,Heap.get?_push_size _ rfl⟩
   ·cases q'
end
section
variable {X:Cx}{e b ev:Expr}{jZ:List Stmt}{fe fk fv:RP}{G:RO}{pos pos2:Pos}
end
section
variable {X:Cx}
end
section
variable {X:Cx}{σ:St}{H:Hp}{s:Shared}{h':Heap}{e C:Addr}{E:Value->SP0}{A:Around}
end
section
variable {X:Cx}{e a b c:Expr}{es:List Expr}{pos:Pos}
end
section
variable {prog:Program}{w:World}{A:Around}{s:Shared}{R:Result->SP0}
end
section
variable {X:Cx}{tg src:Expr}
end
section
variable {X:Cx}{e:Expr}{st:Stmt}{jZ:List Stmt}{fa:RP}{G F:RO}{pos:Pos}
end
section
variable {X:Cx}{e a b c:Expr}{fa fb fc:RP}{pos p2:Pos}
end
section
variable {X:Cx}{own:Option Nat}{e a b c tg src:Expr}{body:List Stmt}{F:RO}{pos:Pos}
variable {es:List Expr}
end
inductive Cell where
 | lst (ds:LP)
 | ins (x:Str) (fs:List (Str × PyData))
noncomputable abbrev zl:=Addr->Option Cell
noncomputable def ajj (μ:zl) (a:Addr) (c:Cell):zl:=fun b=>if b=a then some c else μ b
theorem agd {μ:zl}{a:Addr}{c:Cell}:ajj μ a c a=some c:=if_pos rfl
theorem ajk {μ:zl}{a b:Addr}{c:Cell} (h:b ≠ a):ajj μ a c b=μ b:=if_neg h
noncomputable def Q9 (K:Fg) (H:Hp):List (Str × PyData)->List (Str × V)->Prop
 | [],vs=>vs=[]
 | (f,d)::fs,vs=>∃ v r,vs=(f,v)::r/\Rep K H d v/\Q9 K H fs r
noncomputable def ak0 (f:Str) (d:PyData):List (Str × PyData)->List (Str × PyData)
 | []=>[(f,d)]
 | (k,x)::r=>if k=f then (k,d)::r else (k,x)::ak0 f d r
section
variable {K:Fg}{H H':Hp}
theorem Q9.monoA (s:jB H H'):∀ {fs:List (Str × PyData)}{vs:List (Str × V)},Q9 K H fs vs->Q9 K H' fs vs
 | [],_,h=>h
 | (f,d)::fs,_,⟨v,r,h1,h2,h3⟩=>⟨v,r,h1,Rep.monoA s d v h2,Q9.monoA s h3⟩
theorem Q9.length:∀ {fs:List (Str × PyData)}{vs:List (Str × V)},Q9 K H fs vs->vs.length=fs.length
 | [],_,h=>by cases h; rfl
 | (f,d)::fs,_,⟨v,r,h1,h2,h3⟩=>by subst h1; simp [Q9.length h3]
theorem Q9.put {f:Str}{d:PyData}{v:V} (rv:Rep K H d v):∀ {fs:List (Str × PyData)}{vs:List (Str × V)},Q9 K H fs vs->Q9 K H (ak0 f d fs) (akw f v vs)
 | [],_,h=>by cases h; exact ⟨v,[],rfl,rv,rfl⟩
 | (k,x)::fs,_,⟨w,r,h1,h2,h3⟩=>by
  subst h1
  show Q9 K H (if k=f then (k,d)::fs else (k,x)::ak0 f d fs) (if k=f then (k,v)::r else (k,w)::akw f v r)
  by_cases hk:k=f
  ·rw [if_pos hk,if_pos hk]; exact ⟨v,r,rfl,rv,h3⟩
  ·rw [if_neg hk,if_neg hk]; exact ⟨w,_,rfl,h2,Q9.put rv h3⟩
end
noncomputable def Qd (K:Fg) (H:Hp) (a:Addr):Cell->Prop
 | .lst ds=>∃ xs,H a=some (QN a xs)/\Reps K H ds xs
 | .ins x fs=>∃ C dx vs,PySem.W.nsIn K mainGlobals x=some (some (.ref C))/\H a=some (.ins C dx vs)/\Q9 K H fs vs
noncomputable def qM (K:Fg) (H:Hp) (μ:zl):Prop:=∀ a c,μ a=some c->Qd K H a c
section
variable {K:Fg}{H H':Hp}{μ:zl}{a:Addr}{c:Cell}{ρ:Rho}{σ:St}
theorem EnvR.monoA (e:EnvR K H ρ σ) (h:jB H H'):EnvR K H' ρ σ:=⟨e.len,fun i d q=>let ⟨v,e1,e2⟩:=e.at' i d q; ⟨v,e1,Rep.monoA h d v e2⟩⟩
theorem Qd.to (h:Qd K H a c) (s:jB H H') (e:H' a=H a):Qd K H' a c:=by
 cases c with
 | lst ds=>obtain ⟨xs,h1,h2⟩:=h; exact ⟨xs,e.trans h1,Reps.monoA s _ _ h2⟩
 | ins x fs=>obtain ⟨C,dx,vs,h1,h2,h3⟩:=h; exact ⟨C,dx,vs,h1,e.trans h2,h3.monoA s⟩
theorem Qd.there (h:Qd K H a c):∃ o,H a=some o/\agV o=false:=by
 cases c with
 | lst ds=>obtain ⟨xs,h1,h2⟩:=h; exact ⟨_,h1,rfl⟩
 | ins x fs=>obtain ⟨C,dx,vs,h1,h2,h3⟩:=h; exact ⟨_,h2,rfl⟩
theorem qM.mono (cs:qM K H μ) (s:jj H H'):qM K H' μ:=fun a c h=>by
 obtain ⟨o,h1,_⟩:=(cs a c h).there
 exact (cs a c h).to (jj.a s) ((s _ _ h1).trans h1.symm)
theorem qM.free (cs:qM K H μ) (h:H a=none):μ a=none:=by
 cases q:μ a with
 | none=>rfl
 | some c=>obtain ⟨o,h1,_⟩:=(cs a c q).there; rw [h] at h1; cases h1
theorem qM.put (cs:qM K H μ) (s:jB H H') (k:∀ b,b ≠ a->∀ o,H b=some o->H' b=some o) (new:Qd K H' a c):qM K H' (ajj μ a c):=fun b d h=>by
 by_cases hb:b=a
 ·subst hb; rw [agd] at h; cases h; exact new
 ·rw [ajk hb] at h
  obtain ⟨o,h1,_⟩:=(cs b d h).there
  exact (cs b d h).to s ((k b hb o h1).trans h1.symm)
theorem qM.upd {o:HO} (cs:qM K H μ) (s:jB H (L2.upd H a o)) (new:Qd K (L2.upd H a o) a c):qM K (L2.upd H a o) (ajj μ a c):=
 cs.put s (fun b hb o h=>by rw [jm hb]; exact h) new
theorem jB.upd {o u:HO} (h:H a=some u) (hu:agV u=false):jB H (L2.upd H a o):=fun b x q d=>by
 have:b ≠ a:=fun z=>by subst z; rw [h] at q; cases q; rw [hu] at d; cases d
 rw [jm this]; exact q
end
inductive Res (α:Type) where
 | ok (d:α) | er (c:Str)
noncomputable abbrev TR (α:Type):=Rho->zl->(Res α->zl->Prop)->Prop
inductive OutC where
 | nx (ρ:Rho) | rt (d:PyData) | bk (ρ:Rho) | ct (ρ:Rho) | er (c:Str)
noncomputable abbrev TRS:=Rho->zl->(OutC->zl->Prop)->Prop
noncomputable def ahC (X:Cx) (H:Hp) (μ:zl) (c:Str) (ev:Value) (s':Shared):Prop:=∃ e C σ' H',ev= .ref e/\X.mg c=some (.ref C)/\Inv X [] σ' H' s'/\jB H H'/\qM X.K H' μ/\Xc X H' s'.heap e C
theorem ahC.mono {X:Cx}{H H1:Hp}{μ:zl}{c:Str}{ev:Value}{s':Shared} (s:jB H H1) (h:ahC X H1 μ c ev s'):ahC X H μ c ev s':=by
 obtain ⟨e,C,σ',H',h1,h2,h3,h4,h5⟩:=h
 exact ⟨e,C,σ',H',h1,h2,h3,s.trans h4,h5⟩
noncomputable def afd {α:Type} (X:Cx) (H:Hp) (P:α->Hp->Prop):Res α->zl->Prop
 | .ok d,μ=>∀ H',jB H H'->qM X.K H' μ->P d H'
 | .er c,μ=>∀ ev s',ahC X H μ c ev s'->X.xe ev s'
noncomputable def afe (X:Cx) (H:Hp) (D:Ends):OutC->zl->Prop
 | .nx ρ,μ=>∀ σ H',jB H H'->EnvR X.K H' ρ σ->qM X.K H' μ->D.nx σ H'
 | .rt d,μ=>∀ v H',jB H H'->Rep X.K H' d v->qM X.K H' μ->D.rt v H'
 | .bk ρ,μ=>∀ σ H',jB H H'->EnvR X.K H' ρ σ->qM X.K H' μ->D.bk σ H'
 | .ct ρ,μ=>∀ σ H',jB H H'->EnvR X.K H' ρ σ->qM X.K H' μ->D.ct σ H'
 | .er c,μ=>∀ ev s',ahC X H μ c ev s'->X.xe ev s'
section
variable {X:Cx}{α β:Type}{H H1:Hp}{σ:St}
theorem afd.mono {P:α->Hp->Prop}{o:Res α}{μ:zl} (h:afd X H P o μ) (s:jB H H1):afd X H1 P o μ:=by
 cases o with
 | ok d=>exact fun H' s1 c=>h H' (s.trans s1) c
 | er c=>exact fun ev s' t=>h ev s' (t.mono s)
theorem afe.mono {D:Ends}{o:OutC}{μ:zl} (h:afe X H D o μ) (s:jB H H1):afe X H1 D o μ:=by
 cases o with
 | nx ρ=>exact fun σ H' s1 e c=>h σ H' (s.trans s1) e c
 | rt d=>exact fun v H' s1 e c=>h v H' (s.trans s1) e c
 | bk ρ=>exact fun σ H' s1 e c=>h σ H' (s.trans s1) e c
 | ct ρ=>exact fun σ H' s1 e c=>h σ H' (s.trans s1) e c
 | er c=>exact fun ev s' t=>h ev s' (t.mono s)
noncomputable def AtC (X:Cx) (σ:St) (H:Hp) (T:TR α) (P:α->Hp->Prop):Prop:=∃ ρ μ R,EnvR X.K H ρ σ/\qM X.K H μ/\T ρ μ R/\∀ o μ',R o μ'->afd X H P o μ'
noncomputable def AtS (X:Cx) (σ:St) (H:Hp) (T:TRS) (D:Ends):Prop:=∃ ρ μ R,EnvR X.K H ρ σ/\qM X.K H μ/\T ρ μ R/\∀ o μ',R o μ'->afe X H D o μ'
noncomputable def bindC (T:TR α) (k:α->TR β):TR β:=fun ρ μ R=>T ρ μ fun o μ'=>match o with
 | .ok d=>k d ρ μ' R
 | .er c=>R (.er c) μ'
noncomputable def aml (T:TR α) (k:α->TRS):TRS:=fun ρ μ R=>T ρ μ fun o μ'=>match o with
 | .ok d=>k d ρ μ' R
 | .er c=>R (.er c) μ'
noncomputable def ang (f:Rho->Option α):TR α:=fun ρ μ R=>∃ d,f ρ=some d/\R (.ok d) μ
noncomputable def anb (o:Option α):TR α:=fun _ μ R=>∃ d,o=some d/\R (.ok d) μ
theorem AtC.bind {T:TR α}{k:α->TR β}{P:β->Hp->Prop} (h:AtC X σ H (bindC T k) P):AtC X σ H T fun d H1=>jB H H1/\AtC X σ H1 (k d) P:=by
 obtain ⟨ρ,μ,R,en,cs,t,kk⟩:=h
 refine ⟨ρ,μ,_,en,cs,t,fun o μ1 r=>?_⟩
 cases o with
 | ok d=>exact fun H1 s1 cs1=>⟨s1,ρ,μ1,R,en.monoA s1,cs1,r,fun o μ' q=>(kk o μ' q).mono s1⟩
 | er c=>exact kk (.er c) μ1 r
theorem AtS.bind {T:TR α}{k:α->TRS}{D:Ends} (h:AtS X σ H (aml T k) D):AtC X σ H T fun d H1=>jB H H1/\AtS X σ H1 (k d) D:=by
 obtain ⟨ρ,μ,R,en,cs,t,kk⟩:=h
 refine ⟨ρ,μ,_,en,cs,t,fun o μ1 r=>?_⟩
 cases o with
 | ok d=>exact fun H1 s1 cs1=>⟨s1,ρ,μ1,R,en.monoA s1,cs1,r,fun o μ' q=>(kk o μ' q).mono s1⟩
 | er c=>exact kk (.er c) μ1 r
theorem AtC.imp {T:TR α}{P P':α->Hp->Prop} (h:AtC X σ H T P) (hp:∀ d H1,jB H H1->P d H1->P' d H1):AtC X σ H T P':=by
 obtain ⟨ρ,μ,R,en,cs,t,kk⟩:=h
 refine ⟨ρ,μ,R,en,cs,t,fun o μ1 r=>?_⟩
 have q:=kk o μ1 r
 cases o with
 | ok d=>exact fun H1 s1 c1=>hp d H1 s1 (q H1 s1 c1)
 | er c=>exact q
theorem AtC.ret {o:Option α}{P:α->Hp->Prop} (h:AtC X σ H (anb o) P):∃ d,o=some d/\∀ H',jj H H'->P d H':=by
 obtain ⟨ρ,μ,R,en,cs,⟨d,hf,hR⟩,kk⟩:=h
 exact ⟨d,hf,fun H' s=>kk _ _ hR H' (jj.a s) (cs.mono s)⟩
end
noncomputable def tC (X:Cx) (T:TR PyData):TE:=fun σ H Q=>AtC X σ H T fun d H'=>∀ v,Rep X.K H' d v->Q v H'
section
variable {X:Cx}{e a b c:Expr}{es:List Expr}{st:Stmt}{sts jZ:List Stmt}{fa:RP}{Ta Tb To:TR PyData}{Tt Tu:TR Bool}{F:RO}{S S':TRS}{pos:Pos}
variable {er:List Expr}
end
noncomputable def amm (K:Fg) (x f:Str):Prop:=∀ C,PySem.W.nsIn K mainGlobals x=some (some (.ref C))->Cls K C/\akx K C f
section
variable {X:Cx}{e a b c o value:Expr}{es:List Expr}{st:Stmt}{Ta Tb To Tv:TR PyData}{Tr:TR (LP)}{pos pos' apos:Pos}{x f m:Str}
noncomputable abbrev GC3:=LP->zl->(Res PyData->zl->Prop)->Prop
noncomputable def amn (K:Fg) (mg:SV) (n:Nat) (g:GC3):Sp:=fun vs H Q E=>∃ ds μ R,ds.length=n/\Reps K H ds vs/\qM K H μ/\g ds μ R/\(∀ d μ',R (.ok d) μ'->∀ v H',jB H H'->Rep K H' d v->qM K H' μ'->Q v H')/\
 ∀ c μ',R (.er c) μ'->∀ C H',mg c=some (.ref C)->jB H H'->qM K H' μ'->E (.ref C) none H'
noncomputable def anc (P:Program) (w:World) (K:Fg) (mg:SV) (base:Heap) (x m:Str) (ps:List Str) (k n:Nat) (g:GC3):Prop:=
 ∃ (C f:Addr) (fd:FuncData),PySem.W.nsIn K mainGlobals x=some (some (.ref C))/\Cls K C/\Meth K C m f/\FnOk P w K mg base (CXt P w) k f fd ps (amn K mg n g)/\QJ K fd ps []
end
section
variable {X:Cx}{e a b c o value:Expr}{es:List Expr}{st:Stmt}{Ta Tb To Tv:TR PyData}{Tr:TR (LP)}{pos pos' apos:Pos}{x f m:Str}
end
section
variable {X:Cx}{e a b c o value:Expr}{es:List Expr}{st:Stmt}{Ta Tb To Tv:TR PyData}{Tr:TR (LP)}{pos pos' apos:Pos}{x f m:Str}
end
section
variable {X:Cx}{e a b c o value:Expr}{es:List Expr}{st:Stmt}{Ta Tb To Tv:TR PyData}{Tr:TR (LP)}{pos pos' apos:Pos}{x f m:Str}
end
section
variable {X:Cx}{e a b c o value:Expr}{es:List Expr}{st:Stmt}{Ta Tb To Tv:TR PyData}{Tr:TR (LP)}{pos pos' apos:Pos}{x f m:Str}
end
section
variable {X:Cx}{e a b c o value:Expr}{es:List Expr}{st:Stmt}{Ta Tb To Tv:TR PyData}{Tr:TR (LP)}{pos pos' apos:Pos}{x f m:Str}
end
section
variable {X:Cx}{e a b c o value:Expr}{es:List Expr}{st:Stmt}{Ta Tb To Tv:TR PyData}{Tr:TR (LP)}{pos pos' apos cpos:Pos}{x f m:Str}
end
section
variable {X:Cx}{e a b c o value:Expr}{es:List Expr}{st:Stmt}{Ta Tb To Tv:TR PyData}{Tr:TR (LP)}{fa:RP}{pos pos' apos cpos:Pos}{x f m:Str}
end
section
variable {X:Cx}{e a b c o tg src:Expr}{es:List Expr}{st:Stmt}{body:List Stmt}{S:TRS}{Tt:TR Bool}{Tr:TR (LP)}{pos:Pos}{x:Str}
end
section
variable {P:Program}{w:World}{K:Fg}{mg:SV}{base:Heap}
end
section
variable {X:Cx}{e:Expr}{es:List Expr}{Tr:TR (LP)}{pos:Pos}{x:Str}
end
section
variable {X:Cx}{st b0:Stmt}{sts jZ tb hb:List Stmt}{S S':TRS}{G:RO}{pos:Pos}
end
section
variable {P:Program}{w:World}{K:Fg}{mg:SV}{base:Heap}
noncomputable def aj1 (K:Fg) (x m qual:Str) (st:Stmt):Prop:=
 ∃ (C f:Addr) (oc:Value) (od an:Option Addr) (kV doc pm Kc ct:Value) (osl:Array (Option Value)),PySem.W.nsIn K mainGlobals x=some (some (.ref C))/\PySem.W.findIn K (.ref C) m=some (some (.ref f))/\PySem.W.isFn K (.ref f)=true/\
  K.lookup f=some ⟨oc,od,.func (PySem.W.fnOf m qual (zG st) (jU st) (jg st) .none kV doc pm an Kc ct),osl⟩/\PySem.W.codeIn K Kc qual=true/\PySem.W.keepIn K (.ref f)=true
noncomputable def ak1 (K:Fg) (x:Str):Prop:=∃ C,PySem.W.nsIn K mainGlobals x=some (some (.ref C))/\Cls K C/\PySem.W.makesIn K C=true/\PySem.W.keepIn K (.ref C)=true
theorem ajl {x f:Str}{C:Addr} (T:ak1 K x) (a:PySem.W.nsIn K mainGlobals x=some (some (.ref C))) (b:PySem.W.findIn K (.ref C) f=some none):amm K x f:=fun C' h=>by
 obtain ⟨D,d1,d2,_⟩:=T
 rw [a] at h; cases h
 rw [a] at d1; cases d1
 exact ⟨d2,b⟩
noncomputable abbrev aen (x qual:Str) (st:Stmt) (ps:List Str):Prop:=∀ (kV doc pm:Value) (an:Option Addr) (Kc ct:Value) (us:List Value),us.length=ps.length->bindArgs (PySem.W.fnOf x qual (zG st) (jU st) (jg st) .none kV doc pm an Kc ct) ⟨us,[]⟩=pure (ps.zip us)
theorem aj1.met {x m qual:Str}{st:Stmt}{ps:List Str}{k n:Nat}{g:GC3} (T:aj1 K x m qual st) (Tc:ak1 K x) (hb:aen m qual st ps)
  (F:∀ (f:Addr) (fd:FuncData),Fun K m qual st f fd->FnOk P w K mg base (CXt P w) k f fd ps (amn K mg n g)):anc P w K mg base x m ps k n g:=by
 obtain ⟨C,f,oc,od,an,kV,doc,pm,Kc,ct,osl,a,b,i,l,c,kp⟩:=T
 obtain ⟨C',a',cl,_⟩:=Tc
 rw [a] at a'; cases a'
 have F1:=acf (st:=st) l c kp
 exact ⟨C,f,_,a,cl,⟨b,i,kp⟩,F f _ F1,F1.binds hb⟩
end
section
variable {X:Cx}{e a b tg src:Expr}{es:List Expr}{Tr:TR (LP)}{S:TRS}{body:List Stmt}{pos:Pos}
end
section
variable {X:Cx}{e a b c tg src:Expr}{es:List Expr}{Ta Tb:TR PyData}{Tr:TR (LP)}{S:TRS}{body:List Stmt}{pos:Pos}{x:Str}
end
noncomputable def amo (K:Fg) (x f:Str):Prop:=∃ C,PySem.W.nsIn K mainGlobals x=some (some (.ref C))/\PySem.W.findIn K (.ref C) f=some none
theorem amo.cls {K:Fg}{x f:Str} (h:amo K x f) (T:ak1 K x):amm K x f:=by
 obtain ⟨C,a,b⟩:=h
 exact ajl T a b
section
variable {X:Cx}{tg src:Expr}{pos pos':Pos}
end
section
variable {X:Cx}
end
section
variable {X:Cx}
noncomputable def qT:PyData->PyData->OP
 | .str i,.str j=>if i.length+j.length<1000000 then some (.str (i++j)) else none
 | _,_=>none
theorem jT:OpD X (binaryOp .Add) qT:=by
 refine ⟨_,ad9,fun p q d x y H Q h rx ry k=>?_⟩
 unfold qT at h
 split at h
 ·split at h
  ·rename_i hz
   cases h; cases (show x=_ from rx); cases (show y=_ from ry)
   exact ⟨_,_,rfl,rfl,by rw [sizeLine_eq]; omega,k _ H (jj.refl H) rfl⟩
  ·cases h
 ·cases h
theorem aeo:OpR X (binaryOp .Mult) (fun x y H Q=>∃ i n,x= .str i/\y= .int n/\MulOk i n/\Q (.str (Txt.mul i n)) H):=by
 intro Kp s σ H x y u v Q I rx ry h
 obtain ⟨i,n,rfl,rfl,ok,q⟩:=h
 obtain ⟨t,rfl⟩:=rx
 obtain ⟨t',rfl⟩:=ry
 exact SB.mul ok fun t' k=>⟨.str (Txt.mul i n),H,I.tok _,⟨_,rfl⟩,q⟩
noncomputable def Js:PyData->PyData->OP
 | .str i,.int n=>if i.length<=1000/\-1000<n/\n<1000 then some (.str (Txt.mul i n)) else none
 | _,_=>none
theorem adq {i:Str}{n:Int} (h:i.length<=1000/\-1000<n/\n<1000):MulOk i n:=by
 obtain ⟨h1,h2,h3⟩:=h
 refine ⟨by simp; omega,fun h4 _=>?_,fun h4 _=>?_⟩
 ·have h5:(i.length:Int)*n<=1000*1000:=Int.mul_le_mul (by omega) (by omega) (by omega) (by omega)
  have h6:(i.length:Int)<=(2 ^ 63 - 1) / n:=(Int.le_ediv_iff_mul_le (by omega)).mpr (by omega)
  omega
 ·have:i.length*n.toNat<=1000*1000:=Nat.mul_le_mul h1 (by omega)
  generalize i.length*n.toNat=z at this
  show decide (z > sizeLine)=false
  rw [sizeLine_eq]
  exact decide_eq_false (by omega)
theorem zT:OpD X (binaryOp .Mult) Js:=by
 refine ⟨_,aeo,fun p q d x y H Q h rx ry k=>?_⟩
 unfold Js at h
 split at h
 ·split at h
  ·rename_i hz
   cases h; cases (show x=_ from rx); cases (show y=_ from ry)
   exact ⟨_,_,rfl,rfl,adq hz,k _ H (jj.refl H) rfl⟩
  ·cases h
 ·cases h
noncomputable def ads (ds:LP):OP:=match ds with
 | [.str z]=>if z.length<1000000 then some (.int z.length) else none
 | _=>none
theorem acv:Z1 X (.builtin "len") ads:=by
 refine ⟨_,ace,fun ds d xs H Q h r k=>?_⟩
 unfold ads at h
 split at h
 ·split at h
  ·rename_i hz
   cases h
   obtain ⟨x,q,z1,z2,z3⟩:=r
   cases (show q=[] from z3)
   cases (show x=_ from z2)
   exact ⟨_,z1,by rw [sizeLine_eq]; omega,k _ H (jj.refl H) rfl⟩
  ·cases h
 ·cases h
noncomputable def aj2:V->List V->Hp->VK->Prop:=fun x xs H Q=>∃ i j,x= .str i/\xs=[.str j]/\Q (.bl (Txt.endswith i j)) H
theorem aff:MtR X "str.endswith" aj2:=by
 intro Kp s σ H x vs v us Q I rx rv h
 obtain ⟨i,j,rfl,rfl,q⟩:=h
 obtain ⟨t,rfl⟩:=rx
 obtain ⟨u,rfl,ru⟩:=jD.one rv
 obtain ⟨t',rfl⟩:=ru
 exact SC.endswith ⟨.bl _,H,I,rfl,q⟩
noncomputable def aj3:V->List V->Hp->VK->Prop:=fun x xs H Q=>∃ i j,x= .str i/\xs=[.str j]/\Q (.int (Txt.find i j)) H
theorem ajm:MtR X "str.find" aj3:=by
 intro Kp s σ H x vs v us Q I rx rv h
 obtain ⟨i,j,rfl,rfl,q⟩:=h
 obtain ⟨t,rfl⟩:=rx
 obtain ⟨u,rfl,ru⟩:=jD.one rv
 obtain ⟨t',rfl⟩:=ru
 exact SC.find ⟨.int _,H,I.tok _,⟨_,rfl⟩,q⟩
theorem abG:∀ {texts:List Str}{its:List Value},jD (texts.map V.str) its->∃ l:List (Str × Tok),its=strValues l/\l.map (·.1)=texts
 | [],its,h=>by cases h; exact ⟨[],rfl,rfl⟩
 | x::xs,its,h=>by
  cases h with
  | cons r rr=>
   obtain ⟨t,rfl⟩:=r
   obtain ⟨l,rfl,e⟩:=abG rr
   exact ⟨(x,t)::l,rfl,by rw [List.map_cons,e]⟩
theorem abH:∀ (l:List (Str × Tok)),jD ((l.map (·.1)).map V.str) (strValues l)
 | []=> .nil
 | (x,t)::l=> .cons ⟨t,rfl⟩ (abH l)
noncomputable def aj4 (K:Fg):V->List V->Hp->VK->Prop:=fun x xs H Q=>∃ i p texts,x= .str i/\xs=[.ref p]/\SqL K H p (List.map V.str texts)/\JoinOk i texts=true/\Q (.str (Txt.join i texts)) H
theorem Za:MtR X "str.join" (aj4 X.K):=by
 intro Kp s σ H x vs v us Q I rx rv h
 obtain ⟨i,p,texts,rfl,rfl,hq,hok,q⟩:=h
 obtain ⟨t,rfl⟩:=rx
 obtain ⟨u,rfl,ru⟩:=jD.one rv
 cases ru
 obtain ⟨its,r',pl,hz⟩:=I.list hq
 obtain ⟨l,rfl,e⟩:=abG r'
 exact SC.join pl.isList e hok fun t' k=>⟨.str _,H,I.tok _,⟨_,rfl⟩,q⟩
open Builtin Builtin.Str in
theorem acw {prog:Program}{w:World}{A:Around}{E:Value->SP0}{s:Shared}{x y:Str}{t u:Tok}{Q:Value->SP0} (hy:(y.length == 0)=false)
  (hq:∀ (l:List (Str × Tok)) k,l.map (·.1)=Txt.split x y->Q (.ref s.heap.objs.size) { s with heap:=s.heap.push { cls:= .type "list",data:= .seq (strValues l).toArray },toks:=k })
  (hsz:x.length<=sizeLine) (hsz2:(partsBetween x (occurrences x y 0 x.length (x.length+1)) y.length).length<=sizeLine):
  wpAny (model prog w) A (call (.builtin "str.split") [.str x t,.str y u]) Q E s:=by
 cases h1:(decide (x.length<y.length) || decide (strKind x<strKind y))
 ·cases hf:(occurrences x y 0 x.length (x.length+1)).isEmpty
  ·refine call_meets F.slot_str_split (typeIs_str _ _ _) F.entry_str_split (F.args_str_split_2 _ _) (meets_str_split_sep x y t u h1 hy hf hsz hsz2) ?_
   show wants Q E _ { s with toks:=_,heap:=s.heap.push { cls:= .type "list",data:= .seq (strsFrom s.toks (partsBetween x (occurrences x y 0 x.length (x.length+1)) y.length)).toArray } }
   rw [strsFrom_eq]
   exact hq (numbered s.toks _) _ ((numbered_texts _ _).trans ((if_neg (ne_true_of_eq_false h1)).trans (if_neg (ne_true_of_eq_false hf))).symm)
  ·exact call_meets F.slot_str_split (typeIs_str _ _ _) F.entry_str_split (F.args_str_split_2 _ _) (meets_str_split_not_found x y t u h1 hy hf)
    (hq [(x,t)] s.toks ((if_neg (ne_true_of_eq_false h1)).trans (if_pos hf)).symm)
 ·exact call_meets F.slot_str_split (typeIs_str _ _ _) F.entry_str_split (F.args_str_split_2 _ _) (meets_str_split_cannot_occur x y t u h1)
   (hq [(x,t)] s.toks (if_pos h1).symm)
noncomputable def ahD:V->List V->Hp->VK->Prop:=fun x xs H Q=>∃ i j,x= .str i/\xs=[.str j]/\(j.length == 0)=false/\i.length<=sizeLine/\(Builtin.Str.partsBetween i (Builtin.Str.occurrences i j 0 i.length (i.length+1)) j.length).length<=sizeLine/\(Txt.split i j).length<=sizeLine/\∀ l,H l=none->Q (.ref l) (upd H l (.lst ((Txt.split i j).map V.str)))
theorem Qe:MtR X "str.split" ahD:=by
 intro Kp s σ H x vs v us Q I rx rv h
 obtain ⟨i,j,rfl,rfl,hy,hz,hz2,hz3,q⟩:=h
 obtain ⟨t,rfl⟩:=rx
 obtain ⟨u,rfl,ru⟩:=jD.one rv
 obtain ⟨t',rfl⟩:=ru
 refine acw hy (fun l k e=>?_) hz hz2
 have hv:=abH l
 rw [e] at hv
 exact ⟨.ref s.heap.objs.size,_,I.laid (t':=k) (fun b o e=>Heap.get?_push_of_some _ e) (Nat.le_refl _) (show qx X.prog X.w _ _ _ (.lst _) from ⟨by rw [List.length_map]; exact hz3,strValues l,0,hv,Heap.get?_push_size _ rfl⟩),rfl,q _ (I.hok.fresh (Nat.le_refl _))⟩
theorem qJ {name:Str}{id:String}{r:V->List V->Hp->VK->Prop}{g:PyData->PyData->OP}{a b:Expr}{fa fb:RP}{apos cpos:Pos} (slot:Slot "str" name id) (hty:typeOf (.builtin id)=pure (.type "method_descriptor")) (hm:MtR X id r)
  (hr:∀ p q d x y H Q,g p q=some d->Rep X.K H p x->Rep X.K H q y->(∀ v H',jj H H'->Rep X.K H' d v->Q v H')->r x [y] H Q) (h1:∀ p q d,g p q=some d->∃ z,p= .str z)
  (ha:PD X a fa) (hb:PD X b fb) (hbase:attributeBase a name X.env (eval a X.env)=eval a X.env:=by rfl)
  (hfew:((backTo cpos (starEach [b] X.env)).all (fun x=>!x.1) && (backToKw cpos (keywordEach [] X.env)).all (fun x=>x.1.isSome) && decide ([b].length+([]:List Keyword).length+(if ([]:List Keyword).isEmpty then 0 else 1)<30))=true:=by rfl)
  (hline:(apos.endLine == cpos.line)=true:=by rfl) (hs:starEach [b] X.env=(false,eval b X.env)::starEach [] X.env:=by rfl) (hplain:(backTo cpos (starEach [] X.env)).any (fun x=>x.1)=false:=by rfl):
  PD X (.Call (.Attribute a name apos) [b] [] cpos) (op2 g fa fb):=by
 with_unfolding_all
  refine PE.imp (agP PySem.F.plainAttrs_str slot hty hm ha (qr hb zM hs) hbase hfew hline hs hplain) fun σ H Q ⟨ρ,d,en,h,k⟩=>?_
  cases e1:fa ρ with
  | none=>simp [op2,e1] at h
  | some p=>
   cases e2:fb ρ with
   | none=>simp [op2,e1,e2] at h
   | some q=>
    have h':g p q=some d:=by simpa [op2,e1,e2] using h
    obtain ⟨z,rfl⟩:=h1 p q d h'
    refine ⟨ρ,_,en,e1,fun x H1 s1 rx=>?_⟩
    cases (show x=V.str z from rx)
    refine ⟨rfl,ρ,q,en.mono s1,e2,fun y H2 s2 ry=>?_⟩
    exact hr _ q d _ y H2 Q h' rfl ry fun v H' s r=>k v H' (s1.trans (s2.trans s)) r
noncomputable def Zb:PyData->PyData->OP
 | .str i,.str j=>some (.bool (Txt.endswith i j))
 | _,_=>none
noncomputable def QW:PyData->PyData->OP
 | .str i,.str j=>some (.int (Txt.find i j))
 | _,_=>none
noncomputable def qR:PyData->PyData->OP
 | .str i,.str j=>if (j.length == 0)=false/\i.length<1000000/\(Builtin.Str.partsBetween i (Builtin.Str.occurrences i j 0 i.length (i.length+1)) j.length).length<1000000/\(Txt.split i j).length<1000000 then some (.list ((Txt.split i j).map .str)) else none
 | _,_=>none
noncomputable def zF:LP->Option (List Str)
 | []=>some []
 | .str x::r=>(zF r).map (x::·)
 | _=>none
noncomputable def JT:PyData->PyData->OP
 | .str i,.list ds=>(zF ds).bind fun texts=>if JoinOk i texts=true then some (.str (Txt.join i texts)) else none
 | _,_=>none
theorem Z4 {K:Fg}{H:Hp}:∀ {ds:LP}{xs:List V}{texts:List Str},zF ds=some texts->Reps K H ds xs->xs=texts.map V.str
 | [],xs,texts,h,r=>by cases h; exact r
 | d::ds,xs,texts,h,⟨x,q,e1,e2,e3⟩=>by
  cases d with
  | str z=>
   cases h1:zF ds with
   | none=>simp [zF,h1] at h
   | some ts=>
    have:z::ts=texts:=by simpa [zF,h1] using h
    subst this
    cases (show x=V.str z from e2)
    rw [e1,Z4 h1 e3]; rfl
  | _=>simp [zF] at h
theorem abI {K:Fg}{H:Hp}:∀ (ts:List Str),Reps K H (ts.map PyData.str) (ts.map V.str)
 | []=>rfl
 | t::ts=>⟨_,_,rfl,rfl,abI ts⟩
theorem afg {p q d:PyData}{x y:V}{H:Hp}{Q:VK} (h:Zb p q=some d) (rx:Rep X.K H p x) (ry:Rep X.K H q y) (k:∀ v H',jj H H'->Rep X.K H' d v->Q v H'):aj2 x [y] H Q:=by
 unfold Zb at h
 split at h
 ·cases h; cases (show x=_ from rx); cases (show y=_ from ry)
  exact ⟨_,_,rfl,rfl,k _ H (jj.refl H) rfl⟩
 ·cases h
theorem ajn {p q d:PyData}{x y:V}{H:Hp}{Q:VK} (h:QW p q=some d) (rx:Rep X.K H p x) (ry:Rep X.K H q y) (k:∀ v H',jj H H'->Rep X.K H' d v->Q v H'):aj3 x [y] H Q:=by
 unfold QW at h
 split at h
 ·cases h; cases (show x=_ from rx); cases (show y=_ from ry)
  exact ⟨_,_,rfl,rfl,k _ H (jj.refl H) rfl⟩
 ·cases h
theorem Qf {p q d:PyData}{x y:V}{H:Hp}{Q:VK} (h:qR p q=some d) (rx:Rep X.K H p x) (ry:Rep X.K H q y) (k:∀ v H',jj H H'->Rep X.K H' d v->Q v H'):ahD x [y] H Q:=by
 unfold qR at h
 split at h
 ·split at h
  ·rename_i hc
   obtain ⟨c1,c2,c3,c4⟩:=hc
   cases h; cases (show x=_ from rx); cases (show y=_ from ry)
   exact ⟨_,_,rfl,rfl,c1,by rw [sizeLine_eq]; omega,by rw [sizeLine_eq]; omega,by rw [sizeLine_eq]; omega,fun l hl=>k _ _ (jA hl) ⟨l,_,rfl,jr,abI _⟩⟩
  ·cases h
 ·cases h
theorem Zc {p q d:PyData}{x y:V}{H:Hp}{Q:VK} (h:JT p q=some d) (rx:Rep X.K H p x) (ry:Rep X.K H q y) (k:∀ v H',jj H H'->Rep X.K H' d v->Q v H'):aj4 X.K x [y] H Q:=by
 unfold JT at h
 split at h
 ·rename_i i ds
  cases h1:zF ds with
  | none=>simp [h1] at h
  | some texts=>
   rw [h1,zzD] at h
   split at h
   ·rename_i hok
    cases h; cases (show x=_ from rx)
    obtain ⟨a,us,g1,g2,g3⟩:=ry
    subst g1
    rw [Z4 h1 g3] at g2
    exact ⟨_,a,texts,rfl,rfl,SqL.of g2,hok,k _ H (jj.refl H) rfl⟩
   ·cases h
 ·cases h
theorem afh {p q d:PyData} (h:Zb p q=some d):∃ z,p= .str z:=by
 unfold Zb at h; split at h
 ·exact ⟨_,rfl⟩
 ·cases h
theorem ajo {p q d:PyData} (h:QW p q=some d):∃ z,p= .str z:=by
 unfold QW at h; split at h
 ·exact ⟨_,rfl⟩
 ·cases h
theorem Qg {p q d:PyData} (h:qR p q=some d):∃ z,p= .str z:=by
 unfold qR at h; split at h
 ·exact ⟨_,rfl⟩
 ·cases h
theorem Zd {p q d:PyData} (h:JT p q=some d):∃ z,p= .str z:=by
 unfold JT at h; split at h
 ·exact ⟨_,rfl⟩
 ·cases h
end
section
variable {X:Cx}{a b c:Expr}{fa fb fc:RP}{p2 pos:Pos}
noncomputable def amp:V->Option Int->Option Int->Hp->VK->Prop:=fun x lo hi H Q=>∃ z,x= .str z/\z.length<=sizeLine/\Q (.str (Txt.slice z lo hi)) H
theorem aep:SlR X amp:=by
 intro Kp s σ H x v vl vu lo hi sl Q I rx hs pl pu h
 obtain ⟨z,rfl,hz,q⟩:=h
 obtain ⟨t,rfl⟩:=rx
 have fin:∀ t' k,EP X Kp σ Q (.str (Txt.slice z lo hi) t') { s with toks:=k }:=fun t' k=>⟨.str _,H,I.tok _,⟨_,rfl⟩,q⟩
 refine ⟨"str",_,F.slot_str_getitem.lookup,typeIs_str _ _ _,?_⟩
 cases pl with
 | none=>
  cases pu with
  | none=>exact wpAny_getItem_str_slice (l:=none) (u:=none) (st:=none) hs rfl (post_val_or_str ⟨Nat.le_trans (Txt.slice_le z _ _) hz,fun t' k=>fin t' k⟩)
  | int j tj=>exact wpAny_getItem_str_slice (l:=none) (u:=some (j,tj)) (st:=none) hs rfl (post_val_or_str ⟨Nat.le_trans (Txt.slice_le z _ _) hz,fun t' k=>fin t' k⟩)
 | int i ti=>
  cases pu with
  | none=>exact wpAny_getItem_str_slice (l:=some (i,ti)) (u:=none) (st:=none) hs rfl (post_val_or_str ⟨Nat.le_trans (Txt.slice_le z _ _) hz,fun t' k=>fin t' k⟩)
  | int j tj=>exact wpAny_getItem_str_slice (l:=some (i,ti)) (u:=some (j,tj)) (st:=none) hs rfl (post_val_or_str ⟨Nat.le_trans (Txt.slice_le z _ _) hz,fun t' k=>fin t' k⟩)
noncomputable def adt (p:PyData) (lo hi:Option Int):OP:=match p with
 | .str z=>if z.length<1000000 then some (.str (Txt.slice z lo hi)) else none
 | _=>none
theorem aeq {K:Fg}{p d:PyData}{lo hi:Option Int}{x:V}{H:Hp}{Q:VK} (h:adt p lo hi=some d) (r:Rep K H p x) (k:∀ v H',jj H H'->Rep K H' d v->Q v H'):amp x lo hi H Q:=by
 unfold adt at h
 split at h
 ·split at h
  ·cases h
   cases (show x=_ from r)
   exact ⟨_,rfl,by rw [sizeLine_eq]; omega,k _ H (jj.refl H) rfl⟩
  ·cases h
 ·cases h
noncomputable def qU (fa fb:RP):RP:=fun ρ=>(fa ρ).bind fun p=>(fb ρ).bind fun q=>(inI q).bind fun i=>adt p none (some i)
theorem zd (ha:PD X a fa) (hb:PD X b fb):PD X (.Subscript a (.Slice none (some b) none p2) pos) (qU fa fb):=by
 with_unfolding_all
  refine PE.imp (Jn aep ha aal (zt hb)) fun σ H Q ⟨ρ,d,en,q,k⟩=>?_
  cases h1:fa ρ with
  | none=>simp [qU,h1] at q
  | some y=>
   cases h2:fb ρ with
   | none=>simp [qU,h1,h2] at q
   | some z=>
    cases h3:inI z with
    | none=>simp [qU,h1,h2,h3] at q
    | some i=>
     have q':adt y none (some i)=some d:=by simpa [qU,h1,h2,h3] using q
     have hz:=zC h3
     subst hz
     refine ⟨ρ,y,en,h1,fun v H1 s1 r1=>⟨ρ,_,en.mono s1,h2,fun u H2 s2 r2=>?_⟩⟩
     cases (show u=_ from r2)
     exact ⟨i,rfl,aeq q' (Rep.mono s2 _ _ r1) fun v H' s r=>k v H' (s1.trans (s2.trans s)) r⟩
noncomputable def qu (fa fb:RP):RP:=fun ρ=>(fa ρ).bind fun p=>(fb ρ).bind fun q=>(inI q).bind fun i=>adt p (some i) none
theorem zo (ha:PD X a fa) (hb:PD X b fb):PD X (.Subscript a (.Slice (some b) none none p2) pos) (qu fa fb):=by
 with_unfolding_all
  refine PE.imp (Jn aep ha (zt hb) aal) fun σ H Q ⟨ρ,d,en,q,k⟩=>?_
  cases h1:fa ρ with
  | none=>simp [qu,h1] at q
  | some y=>
   cases h2:fb ρ with
   | none=>simp [qu,h1,h2] at q
   | some z=>
    cases h3:inI z with
    | none=>simp [qu,h1,h2,h3] at q
    | some i=>
     have q':adt y (some i) none=some d:=by simpa [qu,h1,h2,h3] using q
     have hz:=zC h3
     subst hz
     refine ⟨ρ,y,en,h1,fun v H1 s1 r1=>⟨ρ,_,en.mono s1,h2,fun u H2 s2 r2=>?_⟩⟩
     cases (show u=_ from r2)
     exact ⟨i,rfl,aeq q' (Rep.mono s2 _ _ r1) fun v H' s r=>k v H' (s1.trans (s2.trans s)) r⟩
noncomputable def zv (fa fb fc:RP):RP:=fun ρ=>(fa ρ).bind fun p=>(fb ρ).bind fun q=>(inI q).bind fun i=>(fc ρ).bind fun r=>(inI r).bind fun j=>adt p (some i) (some j)
theorem aer (ha:PD X a fa) (hb:PD X b fb) (hc:PD X c fc):PD X (.Subscript a (.Slice (some b) (some c) none p2) pos) (zv fa fb fc):=by
 with_unfolding_all
  refine PE.imp (Jn aep ha (zt hb) (zt hc)) fun σ H Q ⟨ρ,d,en,q,k⟩=>?_
  cases h1:fa ρ with
  | none=>simp [zv,h1] at q
  | some y=>
   cases h2:fb ρ with
   | none=>simp [zv,h1,h2] at q
   | some z=>
    cases h3:inI z with
    | none=>simp [zv,h1,h2,h3] at q
    | some i=>
     cases h4:fc ρ with
     | none=>simp [zv,h1,h2,h3,h4] at q
     | some z2=>
      cases h5:inI z2 with
      | none=>simp [zv,h1,h2,h3,h4,h5] at q
      | some j=>
       have q':adt y (some i) (some j)=some d:=by simpa [zv,h1,h2,h3,h4,h5] using q
       have hz:=zC h3
       have hz2:=zC h5
       subst hz; subst hz2
       refine ⟨ρ,y,en,h1,fun v H1 s1 r1=>⟨ρ,_,en.mono s1,h2,fun u H2 s2 r2=>?_⟩⟩
       cases (show u=_ from r2)
       refine ⟨i,rfl,⟨ρ,_,(en.mono s1).mono s2,h4,fun u H3 s3 r3=>?_⟩⟩
       cases (show u=_ from r3)
       exact ⟨j,rfl,aeq q' (Rep.mono s3 _ _ (Rep.mono s2 _ _ r1)) fun v H' s r=>k v H' (s1.trans (s2.trans (s3.trans s))) r⟩
noncomputable def ak2:PyData->PyData->OP
 | .str z,.int i=>if 0<=i/\i<1000000/\i<z.length then (z.cps[i.toNat]?).map fun c=> .str ⟨#[c]⟩ else none
 | _,_=>none
theorem ak3 (ha:PD X a fa) (hb:PD X b fb) (hs:acY b):PD X (.Subscript a b pos) (op2 ak2 fa fb):=by
 with_unfolding_all
  refine PE.imp (acZ ha hb hs) fun σ H Q h=>agW (fun p q d x y H Q h rx ry k=>?_) h
  unfold ak2 at h
  split at h
  ·rename_i z i
   split at h
   ·rename_i hc
    cases h1:z.cps[i.toNat]? with
    | none=>simp [h1] at h
    | some c=>
     have:PyData.str ⟨#[c]⟩=d:=by simpa [h1] using h
     subst this
     cases (show x=_ from rx); cases (show y=_ from ry)
     exact ⟨z,i,c,rfl,rfl,hc.1,by omega,hc.2.2,h1,k _ H (jj.refl H) rfl⟩
   ·cases h
  ·cases h
theorem ahE {K:Fg}{T:String} (hT:T="str") (d:PyData):PySem.W.kitOne K (.type (tyn d)) (.type T)=some (zQ T d):=by
 subst hT
 cases d <;> first | rfl | (rename_i kvs; by_cases h:zk kvs=true <;> simp only [tyn,zQ,h] <;> rfl)
theorem afi {a:Expr}{fa:RP}{T:Str}{Tn:String}{p p2 pos:Pos} (hT:Tn="str") (hm1:X.mg "isinstance"=none) (hm2:X.mg T=none) (hv:bootBuiltins T=some (.type Tn)) (ha:PD X a fa)
  (hg1:Gl X "isinstance":=by rfl) (hg2:Gl X T:=by rfl) (hn:T ≠ "__name__":=by decide) (hd:(T == ("__debug__":Str))=false:=by decide)
  (he:starEach [a,.Name T p2] X.env=[(false,eval a X.env),(false,eval (.Name T p2) X.env)]:=by rfl) (he2:starEach [.Name T p2] X.env=[(false,eval (.Name T p2) X.env)]:=by rfl) (hpl:(backTo pos (starEach [.Name T p2] X.env)).any (·.1)=false:=by rfl):
  PD X (.Call (.Name "isinstance" p) [a,.Name T p2] [] pos) (fun ρ=>(fa ρ).bind fun d=>J9 Tn d):=by
 with_unfolding_all
  have hT2:PE X (.Name T p2) (L2.tC (.ty Tn)):=ab4 hg2 hm2 hv rfl hn hd
  refine PE.imp (JX (ada (T:=Tn)) hg1 hm1 (by decide +kernel) (qr ha (qr hT2 zM (by rw [he2]; rfl)) (by rw [he,he2])) (by decide) (by decide) (by rw [he,he2]) hpl) fun σ H Q ⟨ρ,d,en,q,k⟩=>?_
  cases h1:fa ρ with
  | none=>simp [h1] at q
  | some c=>
   obtain ⟨hF,rfl⟩:=adb (show J9 Tn c=some d by simpa [h1] using q)
   exact ⟨ρ,c,en,h1,fun v H1 s1 r1=>⟨v,c,_,rfl,r1,hF,ahE hT c,k _ H1 s1 rfl⟩⟩
end
theorem abJ {H:Hp}{a:Addr}{ob:Obj}{ks:List (Key × V)} (h:H a=some (.frz ob (.dK ks))) (n:Str):abe H a (.str n) (JC ks (Sum.inr n:Key)):= .inl ⟨ks,Sum.inr n,.inr ⟨ob,h⟩,rfl,rfl⟩
section
variable {X:Cx}{e a b c tg src:Expr}{es:List Expr}{fa fb fc:RP}{pos:Pos}
noncomputable def Z5 (p q:PyData):OP:=match aao p,q with
 | some r,.str n=>qo r (Sum.inr n)
 | _,_=>none
theorem ajp (hu:X.A.units+1<cLine) (ha:PD X a fa) (hb:PD X b fb) (hs:akF b:=by intro _ _; rfl):PD X (.Subscript a b pos) (op2 Z5 fa fb):=by
 with_unfolding_all
  refine PE.imp (aiQ hu ha hb hs) fun σ H Q ⟨ρ,d,en,h,k⟩=>?_
  cases h1:fa ρ with
  | none=>simp [op2,h1] at h
  | some p=>
   cases h2:fb ρ with
   | none=>simp [op2,h1,h2] at h
   | some q=>
    have h':Z5 p q=some d:=by simpa [op2,h1,h2] using h
    unfold Z5 at h'
    split at h'
    ·rename_i r n hp
     refine ⟨ρ,p,en,h1,fun v H1 s1 r1=>⟨ρ,.str n,en.mono s1,h2,fun y H2 s2 r2=>?_⟩⟩
     cases (show y=V.str n from r2)
     obtain ⟨ad,ks,ob,e1,e2,e3⟩:=Z3 hp (Rep.mono s2 _ _ r1)
     rcases ZF (Sum.inr n) e3 with ⟨z,_⟩ | ⟨d',x,z1,z2,z3⟩
     ·rw [z] at h'; cases h'
     ·rw [z1] at h'; cases h'
      exact ⟨ad,x,e1,by rw [←z2]; exact abJ e2 n,k x H2 (s1.trans s2) z3⟩
    ·cases h'
noncomputable def JU (neg:Bool) (q p:PyData):OP:=match aao p,q with
 | some r,.str n=>some (.bool (if neg then !(qo r (Sum.inr n)).isSome else (qo r (Sum.inr n)).isSome))
 | _,_=>none
theorem afj (hu:X.A.units+1<cLine) (ha:PD X a fa) (hb:PD X b fb):PC X .In a b (tD X.K (op2 (JU false) fa fb)):=by
 with_unfolding_all
  intro Kp s σ H Q I ⟨ρ,d,en,h,k⟩
  cases h1:fa ρ with
  | none=>simp [op2,h1] at h
  | some q=>
   cases h2:fb ρ with
   | none=>simp [op2,h1,h2] at h
   | some p=>
    have h':JU false q p=some d:=by simpa [op2,h1,h2] using h
    unfold JU at h'
    split at h'
    ·rename_i r n hp
     cases h'
     refine akG hu ha hb Kp s σ H Q I ⟨ρ,.str n,en,h1,fun v H1 s1 r1=>⟨ρ,p,en.mono s1,h2,fun y H2 s2 r2=>?_⟩⟩
     cases (show v=V.str n from r1)
     obtain ⟨ad,ks,ob,e1,e2,e3⟩:=Z3 hp r2
     refine ⟨ad,_,e1,abJ e2 n,k _ H2 (s1.trans s2) ?_⟩
     rcases ZF (Sum.inr n) e3 with ⟨z1,z2⟩ | ⟨d',x,z1,z2,z3⟩
     ·rw [z1,z2]; rfl
     ·rw [z1,z2]; rfl
    ·cases h'
end
section
variable {X:Cx}{e a b c tg src:Expr}{es:List Expr}{st:Stmt}{sts jZ body:List Stmt}{fa fb fc:RP}{F G:RO}{pos:Pos}
noncomputable def ak4 (P:Program) (w:World):V->V->V->Hp->(Hp->Prop)->Prop:=fun o k v H Q=>∃ a ks ob n,o= .ref a/\k= .str n/\H a=some (Z2 P w a ob ks)/\ks.length<sizeLine/\∀ ob',Q (upd H a (Z2 P w a ob' (putK ks (Sum.inr n) v)))
theorem age (hu:X.A.units+1<cLine):alI X (ak4 X.prog X.w):=by
 intro Kp s σ H o k v ov iv u Q I ro rk rv ⟨a,ks,ob,n,e1,e2,h1,h2,q⟩
 subst e1; subst e2
 cases ro
 obtain ⟨t,rfl⟩:=rk
 refine afX hu (Inv.openD I h1) (afV.k (k:=Sum.inr n) jr h2) ⟨t,rfl⟩ rv fun s' I'=>?_
 obtain ⟨ob',I2⟩:=Inv.sealedD I' jr
 rw [Q0,Q0] at I2
 exact ⟨_,I2,q ob'⟩
noncomputable def adu (c v k:OP):OP:=match c,v,k with
 | some (.dict ((.none,.none)::r)),some d,some (.str n)=>if r.length<1000000 then some (.dict ((.none,.none)::Jq r (Sum.inr n) d)) else none
 | _,_,_=>none
theorem agf {c v k:OP}{o:PyData} (h:adu c v k=some o):∃ r d n,c=some (.dict ((.none,.none)::r))/\v=some d/\k=some (.str n)/\r.length<1000000/\o= .dict ((.none,.none)::Jq r (Sum.inr n) d):=by
 unfold adu at h
 split at h
 ·split at h
  ·rename_i hc
   cases h
   exact ⟨_,_,_,rfl,rfl,rfl,hc,rfl⟩
  ·cases h
 ·cases h
noncomputable def afk (i:Nat) (fk fv:RP):RO:=fun ρ=>(adu (lkp i ρ) (brw (some i) fv ρ) (brw (some i) fk ρ)).map fun d=> .nx (ρ.set i (some d))
theorem ahF (i:Nat) {x:Str}{p1 p2:Pos}{fk fv:RP} (hu:X.A.units+1<cLine) (hk:PD X b fk) (he:PD X e fv) (hN:X.N[i]?=some x:=by rfl) (hv:Vis X.env.scope x:=by first | exact Or.inl rfl | exact Or.inr (Or.inl rfl) | exact Or.inr (Or.inr rfl))
  (hd:(x == ("__debug__":Str))=false:=by decide) (hcd:(x == ("__classdict__":Str))=false:=by decide)
  (ha:∀ v,assign (.Subscript (.Name x p1) b p2) X.env v=(do
   let ov ←holding [v] (eval (.Name x p1) X.env)
   let iv ←holding [v,ov] (eval b X.env)
   standAt p2
   holding [v,ov,iv] (setItem ov iv v)
   release [v,ov,iv] []):=by intro _; rfl)
  (hs:swapsWithSole [.Subscript (.Name x p1) b p2] e pos.line X.env=pure false:=by rfl) (hw:swappedStores [.Subscript (.Name x p1) b p2] e X.env=pure none:=by rfl)
  (h1:(assignEach [.Subscript (.Name x p1) b p2] X.env).map (·.2)=[assign (.Subscript (.Name x p1) b p2) X.env]:=by rfl):PSO X (some i) (.Assign [.Subscript (.Name x p1) b p2] e pos) (afk i fk fv):=by
 with_unfolding_all
  refine PS.imp (akm (aeh (own:=some i) he) (akl (ab2 hN hv hd hcd) (aeh (own:=some i) hk) (age hu) ha) hs hw h1) fun D σ H ⟨Hs,ρ,o,E,q,k⟩=>?_
  cases hp:adu (lkp i ρ) (brw (some i) fv ρ) (brw (some i) fk ρ) with
  | none=>simp [afk,hp] at q
  | some nw=>
   have:Out.nx (ρ.set i (some nw))=o:=by simpa [afk,hp] using q
   subst this
   obtain ⟨r,d,n,q1,q2,q3,hl,rfl⟩:=agf hp
   refine ⟨Hs,ρ,d,E,q2,fun v H1 s1 E1 r1=>?_⟩
   obtain ⟨d0,a,g1,g2,g3,g4⟩:=E1.ow i rfl
   rw [zy q1] at g1; cases g1
   refine ⟨.ref a,g2,Hs,ρ,.str n,E1,q3,fun kv H2 s2 E2 r2=>?_⟩
   cases (show kv=V.str n from r2)
   obtain ⟨d1,a1,f1,f2,f3,f4⟩:=E2.ow i rfl
   rw [zy q1] at f1; cases f1
   rw [g2] at f2; cases f2
   obtain ⟨ks,r',ob,e1,e2,e3⟩:=f4
   cases e1
   refine ⟨a,ks,ob,n,rfl,rfl,e2,by rw [e3.length]; exact aaK hl,fun ob'=>k _ _ (E2.put (zy q1) g2 f3 e2 (fun _ _ _ z=>z) ⟨_,_,ob',rfl,jr,?_⟩)⟩
   have s5:jP H2 (upd H2 a (Z2 X.prog X.w a ob' (putK ks (Sum.inr n) v))):=jP.upd e2
   exact RepM.putK (Sum.inr n) (Rep.monoE (s2.trans s5) _ _ r1) (RepM.monoE s5 _ _ e3)
end
noncomputable def sg (x:Str):List Nat:=x.cps.toList
theorem zU {x y:Str} (h:sg x=sg y):x=y:=Str.ext' (by
 have:=congrArg List.toArray h
 simpa [sg] using this)
theorem qE (x y:Str):sg (x++y)=sg x++sg y:=by
 unfold sg
 rw [Str.cps_append,Array.toList_append]
theorem jX (x:Str):x.length=(sg x).length:=by
 unfold sg
 rw [Array.length_toList]; rfl
theorem Ji (c:Nat):sg ⟨#[c]⟩=[c]:=rfl
theorem Qw {c:Nat}:∀ {a b r s:List Nat},c ∉ a->c ∉ b->a++c::r=b++c::s->a=b/\r=s
 | [],[],r,s,_,_,h=>⟨rfl,(List.cons.inj h).2⟩
 | [],y::b,r,s,_,hb,h=>absurd (List.cons.inj h).1 (fun e=>hb (by rw [e]; exact List.mem_cons_self))
 | x::a,[],r,s,ha,_,h=>absurd (List.cons.inj h).1 (fun e=>ha (by rw [e]; exact List.mem_cons_self))
 | x::a,y::b,r,s,ha,hb,h=>by
  obtain ⟨e1,e2⟩:=List.cons.inj h
  obtain ⟨f1,f2⟩:=Qw (fun z=>ha (List.mem_cons_of_mem _ z)) (fun z=>hb (List.mem_cons_of_mem _ z)) e2
  exact ⟨by rw [e1,f1],f2⟩
theorem qP (c:Nat) (x y:Str) (r:List Str):sg (Str.join ⟨#[c]⟩ (x::y::r))=sg x++c::sg (Str.join ⟨#[c]⟩ (y::r)):=by
 show sg (x++⟨#[c]⟩++Str.join ⟨#[c]⟩ (y::r))=_
 rw [qE,qE,Ji,List.append_assoc]; rfl
theorem JJ (c:Nat):∀ (ps qs:List Str),ps ≠ []->qs ≠ []->(∀ p ∈ ps,c ∉ sg p)->(∀ q ∈ qs,c ∉ sg q)->sg (Str.join ⟨#[c]⟩ ps)=sg (Str.join ⟨#[c]⟩ qs)->ps=qs
 | [],_,h,_,_,_,_=>absurd rfl h
 | _::_,[],_,h,_,_,_=>absurd rfl h
 | [x],[y],_,_,_,_,h=>by rw [zU (show sg x=sg y from h)]
 | [x],y::z::r,_,_,hp,_,h=>by
  rw [qP] at h
  exact absurd (show c ∈ sg x by rw [show sg x=_ from h]; simp) (hp x List.mem_cons_self)
 | x::z::r,[y],_,_,_,hq,h=>by
  rw [qP] at h
  exact absurd (show c ∈ sg y by rw [←show _=sg y from h]; simp) (hq y List.mem_cons_self)
 | x::x2::r,y::y2::s,_,_,hp,hq,h=>by
  rw [qP,qP] at h
  obtain ⟨e1,e2⟩:=Qw (hp x List.mem_cons_self) (hq y List.mem_cons_self) h
  rw [zU e1,JJ c (x2::r) (y2::s) (by simp) (by simp) (fun p hp'=>hp p (List.mem_cons_of_mem _ hp')) (fun q hq'=>hq q (List.mem_cons_of_mem _ hq')) e2]
theorem JK (c:Nat) {ps:List Str} (hne:ps ≠ []) (hf:∀ p ∈ ps,c ∉ sg p):Txt.split (Str.join ⟨#[c]⟩ ps) ⟨#[c]⟩=ps:=by
 have h1:=split_pos (Str.join ⟨#[c]⟩ ps) ⟨#[c]⟩
 refine JJ c _ _ (fun e=>?_) hne (fun p hp=>StrLaws.split_free _ c p hp) hf (by rw [StrLaws.join_split])
 rw [e] at h1
 simp at h1
theorem Jt {x:Str} (c:Nat) (hx:x.length<900000):qR (.str x) (.str ⟨#[c]⟩)=some (.list ((Txt.split x ⟨#[c]⟩).map .str)):=by
 have h2:=split_le x ⟨#[c]⟩
 have h3:(Builtin.Str.partsBetween x (Builtin.Str.occurrences x ⟨#[c]⟩ 0 x.length (x.length+1)) (⟨#[c]⟩:Str).length).length<=x.length+2:=by
  rw [len_partsBetween]
  have:=StrLaws.occ_length_le x ⟨#[c]⟩ 0 x.length (x.length+1)
  omega
 show (if ((⟨#[c]⟩:Str).length == 0)=false/\x.length<1000000/\(Builtin.Str.partsBetween x (Builtin.Str.occurrences x ⟨#[c]⟩ 0 x.length (x.length+1)) (⟨#[c]⟩:Str).length).length<1000000/\(Txt.split x ⟨#[c]⟩).length<1000000 then some (PyData.list ((Txt.split x ⟨#[c]⟩).map .str)) else none)=_
 rw [if_pos ⟨rfl,by omega,by omega,by omega⟩]
theorem adv (c:Nat):∀ (n:Nat) (acc:Array Nat),((List.replicate n (#[c]:Array Nat)).foldl (·++·) acc).toList=acc.toList++List.replicate n c
 | 0,acc=>by simp
 | n+1,acc=>by
  rw [List.replicate_succ,List.foldl_cons,adv c n,Array.toList_append,List.append_assoc,List.replicate_succ]; rfl
theorem QX (c:Nat) (n:Int):sg (Txt.mul ⟨#[c]⟩ n)=List.replicate n.toNat c:=by
 unfold Txt.mul
 by_cases h1:n<1
 ·rw [if_pos h1,show n.toNat=0 by omega]; rfl
 ·rw [if_neg h1]
  by_cases h2:n=1
  ·subst h2; rfl
  ·have:((n == 1 || (⟨#[c]⟩:Str).length == 0)=true)=False:=by
    have:(⟨#[c]⟩:Str).length=1:=rfl
    simp [h2,this]
   rw [if_neg (by rw [this]; exact id)]
   show ((List.replicate n.toNat (#[c]:Array Nat)).foldl (·++·) #[]).toList=_
   rw [adv]; rfl
theorem Qh (c:Nat) {n:Int} (h0:-1000<n) (h1:n<1000):Js (.str ⟨#[c]⟩) (.int n)=some (.str (Txt.mul ⟨#[c]⟩ n)):=by
 show (if (⟨#[c]⟩:Str).length<=1000/\-1000<n/\n<1000 then some (PyData.str (Txt.mul ⟨#[c]⟩ n)) else none)=_
 rw [if_pos ⟨by show 1<=1000; omega,h0,h1⟩]
theorem adw {x y:Str} (h:x.length+y.length<1000000):qT (.str x) (.str y)=some (.str (x++y)):=by
 show (if x.length+y.length<1000000 then some (PyData.str (x++y)) else none)=_
 rw [if_pos h]
theorem aaN (l:List Nat):sg ⟨l.toArray⟩=l:=rfl
theorem Qi:∀ (ts:List Str),sg (Str.join Str.empty ts)=(ts.map sg).flatten
 | []=>rfl
 | [x]=>by show sg x=_; simp
 | x::y::r=>by
  show sg (x++Str.empty++Str.join Str.empty (y::r))=_
  rw [qE,qE,Qi (y::r)]
  show sg x++[]++_=_
  rw [List.append_nil]; rfl
theorem adx (s:Str) (ts:List Str):Txt.join s ts=Str.join s ts:=StrLaws.glued_eq_join s ts
noncomputable def zm (v:Option Int) (d n:Nat):Nat:=match v with
 | none=>d
 | some i=>(max 0 (min (if i<0 then i+(n:Int) else i) (n:Int))).toNat
theorem ahG {v:Option Int}{d n:Nat} (h:d<=n):zm v d n<=n:=by
 cases v with
 | none=>exact h
 | some i=>show (max 0 (min (if i<0 then i+(n:Int) else i) (n:Int))).toNat<=n; omega
theorem ajq (a b:Nat):sliceRange (a:Int) (b:Int) 1=(List.range (b - a)).map (fun k=>a+k):=by
 unfold sliceRange
 simp only [show ((1:Int) > 0)=True from by simp,zzM]
 by_cases hlt:(a:Int)<b
 ·have e3:(((b:Int) - a+1 - 1) / 1).toNat=b - a:=by
   rw [Int.ediv_one]; omega
  simp only [hlt,zzM,e3]
  refine List.map_congr_left fun k _=>?_
  omega
 ·have:b - a=0:=by omega
  simp [hlt,this]
theorem ak5 (lo hi:Option Int) (n:Nat):Builtin.Str.strSliceIndices lo hi 1 n=(List.range (zm hi n n - zm lo 0 n)).map (fun k=>zm lo 0 n+k):=by
 rw [←ajq]
 have c1:∀ (v:Option Int) (d:Nat),(match v with
   | none=>(d:Int)
   | some i=>if (1:Int) > 0 then max 0 (min (if i<0 then i+(n:Int) else i) (n:Int)) else max (-1) (min (if i<0 then i+(n:Int) else i) ((n:Int) - 1)))=((zm v d n:Nat):Int):=by
  intro v d
  cases v with
  | none=>rfl
  | some i=>
   show (if (1:Int) > 0 then max 0 (min (if i<0 then i+(n:Int) else i) (n:Int)) else _)=(((max 0 (min (if i<0 then i+(n:Int) else i) (n:Int))).toNat:Nat):Int)
   rw [if_pos (by omega)]; omega
 have e1:=c1 lo 0
 have e2:=c1 hi n
 unfold Builtin.Str.strSliceIndices
 simp only [show ((1:Int) > 0)=True from by simp,zzM] at e1 e2 ⊢
 rw [←e1,←e2]
 rfl
theorem Qj (x:Str) (lo hi:Option Int):sg (Txt.slice x lo hi)=((sg x).drop (zm lo 0 x.length)).take (zm hi x.length x.length - zm lo 0 x.length):=by
 have hl:=jX x
 have hb:=ahG (v:=hi) (Nat.le_refl x.length)
 unfold Txt.slice
 rw [ak5]
 generalize zm lo 0 x.length=A at*
 generalize zm hi x.length x.length=B at*
 by_cases hc:((1:Int) == 1 && ((List.range (B - A)).map fun k=>A+k).length == x.length)=true
 ·rw [if_pos hc]
  have hc':B - A=x.length:=by simpa using hc
  by_cases h0:x.length=0
  ·have:sg x=[]:=List.eq_nil_of_length_eq_zero (by omega)
   rw [this]; simp
  ·have:A=0:=by omega
   rw [this,List.drop_zero,List.take_of_length_le (by omega)]
 ·rw [if_neg hc]
  show (((List.range (B - A)).map fun k=>A+k).filterMap (x.cps[·]?))=_
  by_cases hab:A<=B
  ·have h:=StrLaws.picks (sg x) (B - A) A (by omega)
   unfold sg at h ⊢
   simpa using h
  ·have:B - A=0:=by omega
   rw [this]; simp
section
variable {X:Cx}{e:Expr}{fa:RP}{tg:Expr}
end
section
variable {X:Cx}
end
section
variable {prog:Program}{w:World}{A:Around}{E:Value->SP0}
end
section
variable {X:Cx}{es:List Expr}{pos:Pos}
end
section
variable {X:Cx}{a b:Expr}{fa fb:RP}{pos p1 p2 p3:Pos}{j:Nat}
noncomputable def afl:PyData->PyData->OP
 | .list xs,.list ys=>if few (xs++ys)=true then some (.list (xs++ys)) else none
 | _,_=>none
theorem ak6 (ha:PD X a fa) (hb:PD X b fb):PN X (.BinOp a .Add b pos) (op2 afl fa fb):=by
 with_unfolding_all
  intro Kp s σ H Q I ⟨ρ,d,en,hf,k⟩
  cases h1:fa ρ with
  | none=>simp [op2,h1] at hf
  | some p=>
   cases h2:fb ρ with
   | none=>simp [op2,h1,h2] at hf
   | some q=>
    have hf':afl p q=some d:=by simpa [op2,h1,h2] using hf
    unfold afl at hf'
    split at hf'
    ·rename_i xs ys
     split at hf'
     ·rename_i hfew
      cases hf'
      refine thn (ajV agR ha hb Kp s σ H (fun v H2=>∃ a ys' H1,v= .ref a/\H1 a=none/\jj H H1/\H2=upd H1 a (.lst ys')/\Reps X.K H1 (xs++ys) ys') I ⟨ρ,_,en,h1,fun v H1 s1 r1=>⟨ρ,_,en.mono s1,h2,fun w H2 s2 r2=>?_⟩⟩) fun u s1 ⟨v,H2,I2,r,a,ys',H1,e1,e2,s1',e3,r1⟩=>?_
      ·obtain ⟨a,us,e1,e2,e3⟩:=r1
       obtain ⟨b,ws,e4,e5,e6⟩:=r2
       have e3':=Reps.mono s2 _ _ e3
       have hl:us.length+ws.length<1000000:=by
        rw [e3.length,e6.length]
        simp [few] at hfew
        omega
       exact ⟨a,b,us,ws,e1,e4,s2 _ _ e2,e5,aaB hl,fun p hp=>⟨p,_,H2,rfl,hp,s1.trans s2,rfl,e3'.append e6⟩⟩
      ·subst e1
       have e4:H2 a=some (.lst ys'):=by rw [e3]; exact jr
       have e5:upd H2 a (QN a ys')=upd H1 a (QN a ys'):=by rw [e3,Q0]
       have s2:jj H1 (upd H2 a (QN a ys')):=by rw [e5]; exact jA e2
       exact ⟨.ref a,_,Inv.closed I2 (.l ys') e4 (fun ob u z=>by have:=I.base.frzs _ _ _ z; rw [s1'.free e2] at this; cases this),r,k a _ (s1'.trans s2) (s1'.free e2) ⟨ys',jr,Reps.mono s2 _ _ r1⟩⟩
     ·cases hf'
    ·cases hf'
noncomputable def aag (x:Str):Str:=⟨(sg x).reverse.toArray⟩
theorem ajr (n:Nat):Builtin.Str.strSliceIndices none none (-1) n=(List.range n).reverse:=by
 have e:Builtin.Str.strSliceIndices none none (-1) n=sliceRange ((n:Int) - 1) (-1) (-1):=rfl
 rw [e]
 unfold sliceRange
 simp only [show ((-1:Int) > 0)=False from by simp,zzN]
 rw [←PySem.W.krv_range]
 by_cases hn:n=0
 ·subst hn; rfl
 ·have h1:((n:Int) - 1 > -1)=True:=by simp; omega
  have h2:(((n:Int) - 1 - (-1) - (-1:Int) - 1) / - (-1:Int)).toNat=n:=by
   rw [show (- (-1:Int))=1 by decide,Int.ediv_one]; omega
  simp only [h1,zzM,h2]
  refine List.map_congr_left fun k hk=>?_
  have:=List.mem_range.mp hk
  omega
theorem aes (x:Str):(⟨((Builtin.Str.strSliceIndices none none (-1) x.length).filterMap (x.cps[·]?)).toArray⟩:Str)=aag x:=by
 unfold aag
 rw [ajr,List.filterMap_reverse]
 have:(List.range x.length).filterMap (x.cps[·]?)=sg x:=by
  have h:=StrLaws.picks (sg x) x.length 0 (by rw [jX]; omega)
  have hl:=jX x
  unfold sg at h ⊢
  simp only [Nat.zero_add,List.map_id',List.drop_zero] at h
  have h2:List.take x.length x.cps.toList=x.cps.toList:=List.take_of_length_le (by unfold sg at hl; omega)
  rw [h2] at h
  simpa using h
 rw [this]
noncomputable def abK (p:PyData):OP:=match p with
 | .str x=>if x.length<1000000 then some (.str (aag x)) else none
 | _=>none
theorem afm (ha:PD X a fa):PD X (.Subscript a (.Slice none none (some (.UnaryOp .USub (.Constant (.int 1) j p1) p2)) p3) pos) (fun ρ=>(fa ρ).bind abK):=by
 with_unfolding_all
  intro Kp s σ H Q I ⟨ρ,d,en,q,k⟩
  cases h1:fa ρ with
  | none=>simp [h1] at q
  | some p=>
   have q':abK p=some d:=by simpa [h1] using q
   refine Subscript_ (thn (ha Kp s σ H (fun v H1=>jj H H1/\Rep X.K H1 p v) I ⟨ρ,p,en,h1,fun v H1 s1 r1=>⟨s1,r1⟩⟩) fun v s1 ⟨x,H1,I1,r1,sm,rp⟩=>?_)
   refine wpAny_Slice ?_
   rw [evalPart_none]
   refine wpAny_pure (wpAny_pure ?_)
   refine thn (zt (X:=X) (agK ad6 ad1) Kp s1 σ H1 (fun o H2=>o=some (-1)/\H2=H1) I1 ⟨1,rfl,-1,rfl,rfl,rfl⟩) fun vk s2 ⟨o,H2,I2,pk,e1,e2⟩=>?_
   subst e1
   subst e2
   have I4:Inv X Kp σ H2 { s2 with heap:=s2.heap.push { cls:= .type "slice",data:= .fields #[.none,.none,vk] } }:=I2.kept (t':=s2.toks) fun b ob q=>Heap.get?_push_of_some _ q
   cases p with
   | str z=>
    have q':(if z.length<1000000 then some (PyData.str (aag z)) else none)=some d:=q'
    by_cases hz:z.length<1000000
    ·rw [if_pos hz] at q'
     cases q'
     cases (show x=_ from rp)
     obtain ⟨t,rfl⟩:=r1
     cases pk with
     | int _ tk=>
      refine tail_any (ops:=[.str z t,.ref s2.heap.objs.size]) (typeIs_str _ _ _) F.slot_str_getitem.lookup (wpAny_getItem_str_slice (l:=none) (u:=none) (st:=some (-1,tk)) ⟨_,Heap.get?_push_size _ rfl,rfl,rfl⟩ (by rfl) ?_) (by with_unfolding_all rfl)
      unfold sliceMade
      rw [if_neg (by simp)]
      have e:(⟨((slicePicked z none none (some (-1,tk))).filterMap (z.cps[·]?)).toArray⟩:Str)=aag z:=aes z
      rw [e]
      refine ⟨?_,.str (aag z),H2,I4.tok _,⟨_,rfl⟩,k _ H2 sm rfl⟩
      have:(aag z).length=z.length:=by rw [jX,jX]; unfold aag; rw [aaN,List.length_reverse]
      rw [this,sizeLine_eq]; omega
    ·rw [if_neg hz] at q'; cases q'
   | _=>cases q'
noncomputable def zw (fa fb fc:RP):RP:=fun ρ=>(fa ρ).bind fun p=>(fb ρ).bind fun q=>(inI q).bind fun i=>(fc ρ).bind fun r=>(inI r).bind fun j=>Q6 p (some i) (some j)
theorem aet {c:Expr}{fc:RP} (ha:PD X a fa) (hb:PD X b fb) (hc:PD X c fc):PD X (.Subscript a (.Slice (some b) (some c) none p2) pos) (zw fa fb fc):=by
 with_unfolding_all
  refine PE.imp (Jn acb ha (zt hb) (zt hc)) fun σ H Q ⟨ρ,d,en,q,k⟩=>?_
  cases h1:fa ρ with
  | none=>simp [zw,h1] at q
  | some y=>
   cases h2:fb ρ with
   | none=>simp [zw,h1,h2] at q
   | some z=>
    cases h3:inI z with
    | none=>simp [zw,h1,h2,h3] at q
    | some i=>
     cases h4:fc ρ with
     | none=>simp [zw,h1,h2,h3,h4] at q
     | some z2=>
      cases h5:inI z2 with
      | none=>simp [zw,h1,h2,h3,h4,h5] at q
      | some j=>
       have q':Q6 y (some i) (some j)=some d:=by simpa [zw,h1,h2,h3,h4,h5] using q
       have hz:=zC h3
       have hz2:=zC h5
       subst hz; subst hz2
       refine ⟨ρ,y,en,h1,fun v H1 s1 r1=>⟨ρ,_,en.mono s1,h2,fun u H2 s2 r2=>?_⟩⟩
       cases (show u=_ from r2)
       refine ⟨i,rfl,⟨ρ,_,(en.mono s1).mono s2,h4,fun u H3 s3 r3=>?_⟩⟩
       cases (show u=_ from r3)
       unfold Q6 at q'
       split at q'
       ·rename_i ds
        cases q'
        obtain ⟨l,xs,e1,e2,e3⟩:=Rep.mono s3 _ _ (Rep.mono s2 _ _ r1)
        have hl:=e3.length
        refine ⟨j,rfl,l,xs,e1,SqL.of e2,fun p hp=>?_⟩
        have s4:=jA (o:= .lst (Zy xs (some i) (some j))) hp
        have rr:Reps X.K H3 (QV ds (some i) (some j)) (Zy xs (some i) (some j)):=by
         unfold Zy QV
         rw [hl]
         exact (e3.drop _).take _
        exact k _ _ (s1.trans (s2.trans (s3.trans s4))) ⟨p,_,rfl,jr,Reps.mono s4 _ _ rr⟩
       ·cases q'
theorem ahH (x:Str):sg (aag x)=(sg x).reverse:=aaN _
end
end BX
end
section
namespace Rods
open PySem L2 BX
open PyProof.Rows hiding St
noncomputable def top (i:Nat):Stmt:=PySem.Challenge.pw_beadrods_k61_whole_read.main.body.getD i (.Pass ⟨0,0,0,0⟩)
structure Bare (mg:SV):Prop where
 isi:mg "isinstance"=none
 bool:mg "bool"=none
 int:mg "int"=none
 tuple:mg "tuple"=none
 zip:mg "zip"=none
 range:mg "range"=none
 all:mg "all"=none
 len:mg "len"=none
 max:mg "max"=none
 min:mg "min"=none
 sum:mg "sum"=none
 sorted:mg "sorted"=none
 abs:mg "abs"=none
 list:mg "list"=none
 enum:mg "enumerate"=none
 vale:mg "ValueError"=none
 str:mg "str"=none
 set:mg "set"=none
 dict:mg "dict"=none
theorem ajs:bootBuiltins "bool"=some (.type "bool"):=by decide +kernel
theorem ak7:bootBuiltins "int"=some (.type "int"):=by decide +kernel
theorem Ze:bootBuiltins "tuple"=some (.type "tuple"):=by decide +kernel
theorem ahI:bootBuiltins "str"=some (.type "str"):=by decide +kernel
theorem acx:bootBuiltins "all"=some (.builtin "all"):=by decide +kernel
theorem qO:bootBuiltins "len"=some (.builtin "len"):=by decide +kernel
theorem ahf:bootBuiltins "max"=some (.builtin "max"):=by decide +kernel
theorem ahe:bootBuiltins "min"=some (.builtin "min"):=by decide +kernel
noncomputable abbrev Zf:Stmt:=top 6
noncomputable abbrev Qx:Stmt:=top 15
noncomputable abbrev Zg:Stmt:=top 14
noncomputable abbrev Ju (C:Program->World->Fg->(SV)->Heap->Prop) (qual:Str) (st:Stmt) (N:List Str) (k:Nat) (B:RO):Prop:=
 ∀ (P:Program) (w:World) (K:Fg) (mg:SV) (base:Heap) (f:Addr) (Kc:Value) (A:Around) (Ko:List Env) (s:Shared) (H:Hp) (E:XK),C P w K mg base->Room k (A.deeper (envOfC qual (jg st) s.heap.objs.size f Kc))->
  QR (Jf CX0 P w K mg base N qual (jg st) f Kc A Ko s H E).nox (jU st) B
theorem aeu:FnScope ["thing","least","most"] ["thing","least","most"] (jg Zf):=⟨rfl,rfl,rfl,by decide +kernel,rfl,by decide +kernel,by decide +kernel⟩
noncomputable def Zh:{ B:RO // Ju (fun _ _ _ mg _=>Bare mg) "is_whole" Zf ["thing","least","most"] 0 B }:=
 ⟨_,fun P w K mg base f Kc A Ko s H E T hr=>
  jd (qN (qy (zO (j2 (aaH (.inl rfl) T.isi T.bool ajs (ja 0))) (zu (qg (j2 (aaH (.inr (.inl rfl)) T.isi T.int ak7 (ja 0))))))) (jd (jF Z0) ji) ji)
  (jd (jF (ag5 acl acl (ja 1) (ja 0) (ja 2))) ji)⟩
noncomputable def qk:LP->OP:=jH ["thing","least","most"] 3 Zh.1
theorem ady:FnScope ["manner","rod"] ["manner","rod"] (jg Qx):=⟨rfl,rfl,rfl,by decide +kernel,rfl,by decide +kernel,by decide +kernel⟩
noncomputable def ZH:{ B:RO // Ju (fun _ _ _ _ _=>True) "rod_worth" Qx ["manner","rod"] 0 B }:=
 ⟨_,fun P w K mg base f Kc A Ko s H E T hr=>
  jd (jF (jf js (jf zc (j7 (ja 1) jh) (j7 (ja 0) jh)) (j7 (ja 1) jh))) ji⟩
noncomputable def Jv:LP->OP:=jH ["manner","rod"] 2 ZH.1
noncomputable def Jj (i:Nat) (m:Nat):LP:=(List.range m).map fun (j:Nat)=>PyData.tuple [.int (i:Int),.int (j:Int)]
noncomputable def Jw (n m:Nat):LP:=(List.range n).flatMap fun (i:Nat)=>Jj i m
theorem adz (i m:Nat):Jj i (m+1)=Jj i m++[PyData.tuple [.int (i:Int),.int (m:Int)]]:=by simp [Jj,List.range_succ]
theorem QY (n m:Nat):Jw (n+1) m=Jw n m++Jj n m:=by simp [Jw,List.range_succ]
theorem adA (i m:Nat):noLs (Jj i m)=true:=adc fun d hd=>by
 obtain ⟨j,_,rfl⟩:=List.mem_map.mp hd
 simp [noL,noLs]
theorem agg (n m:Nat):noLs (Jw n m)=true:=by
 induction n with
 | zero=>simp [Jw,noLs]
 | succ n ih=>rw [QY,Qa,ih,adA]; rfl
theorem afn (i m:Nat):(Jj i m).length=m:=by simp [Jj]
theorem aaO (n m:Nat):(Jw n m).length=n*m:=by
 induction n with
 | zero=>simp [Jw]
 | succ n ih=>rw [QY,List.length_append,ih,afn,Nat.succ_mul]
noncomputable def qF (ds:LP):OP:=match ds with
 | [.tuple [.int u,.int _,.int l,.int _]]=>if 0<=u/\u<1000/\0<=l/\l<1000 then some (.list (Jw (u+1).toNat (l+1).toNat)) else none
 | _=>none
theorem JL:FnScope ["manner","rods","upper","lower"] ["manner"] (jg Zg):=⟨rfl,rfl,rfl,by decide +kernel,rfl,by decide +kernel,by decide +kernel⟩
section
variable {P:Program}{w:World}{K:Fg}{mg:SV}{base:Heap}
theorem aev {f:Addr}{fd:FuncData} (F:Fun K "all_rods" "all_rods" Zg f fd) (T:Bare mg):FnOk P w K mg base CX0 1 f fd ["manner"] (Pur K 1 qF):=by
 with_unfolding_all
  refine F.ok JL (fun vs H Q E h=>?_) (fun Kc A Ko s H vs Q E hr h=>?_)
  ·obtain ⟨ds,d,h1,h2,_⟩:=h
   rw [h2.length]; exact h1
  ·obtain ⟨ds,d,h1,h2,h3,k⟩:=h
   unfold qF at h3
   split at h3
   ·rename_i u e l b
    split at h3
    ·rename_i hb
     obtain ⟨hu0,hu1,hl0,hl1⟩:=hb
     cases h3
     refine ⟨_,JW (ab7 (i:=1) JL.nd rfl (Or.inl rfl) (agO zM))
      (JW (ab8 PassesOwn.never rfl (Zw rfl T.range (jb (jf js (j7 (ja 0) jh) jh) je)) (aak (i:=2) JL.nd rfl (Or.inl rfl))
       (ab5 (ab8 PassesOwn.never rfl (Zw rfl T.range (jb (jf js (j7 (ja 0) jh) jh) je)) (aak (i:=3) JL.nd rfl (Or.inl rfl))
        (ab5 (ab6 (agP PySem.F.plainAttrs_list PySem.F.slot_list_append PySem.F.type_list_append abw (pv 1) (qr (agN (qr (pv 2) (qr (pv 3) zM))) zM)))))))
      (ab5 (ad2 (pv 1)))),?_⟩
     obtain ⟨mv,rr,e1,em,e2⟩:=h2
     cases (show rr=[] from e2)
     subst e1
     have nm:noL (PyData.tuple [.int u,.int e,.int l,.int b])=true:=by simp [noL,noLs]
     refine ⟨Nat.zero_le _,fun p hp=>?_⟩
     have envr:∀ {H2:Hp} {x2 x3:Option V} {y:Option V},jj H H2->EnvR K H2 [some (PyData.tuple [.int u,.int e,.int l,.int b]),none,none,none] [some mv,y,x2,x3]:=fun {H2 x2 x3 y} s2=>
      ⟨rfl,fun i d q=>by
       cases i with
       | zero=>cases q; exact ⟨mv,rfl,Rep.mono s2 _ _ em⟩
       | succ i=>
        match i,q with
        | 0,q=>cases q
        | 1,q=>cases q
        | 2,q=>cases q
        | j+3,q=>simp at q⟩
     refine ⟨_,[.int (u+1)],envr (jA hp),by simp [jp,jM,op2,lkp,dIx,atI,ixN,cst,qA],fun vs1 H1 s1 r1=>?_⟩
     obtain ⟨y1,q1,f1,f2,f3⟩:=r1
     cases (show y1=V.int (u+1) from f2)
     cases (show q1=[] from f3)
     subst f1
     refine ⟨u+1,rfl,by omega,by omega,abo (n:=(u+1).toNat) (fun i σ H2=>∃ x2 x3 xs,σ=[some mv,some (.ref p),x2,x3]/\jj H H2/\H2 p=some (.lst xs)/\Reps K H2 (Jw i (l+1).toNat) xs)
      ⟨none,none,[],rfl,(jA hp).trans s1,s1 _ _ jr,rfl⟩ ?_ ?_⟩
     ·rintro i σ H2 hi ⟨x2,x3,xs,rfl,s2,hp2,r2⟩
      refine ⟨_,[.int (l+1)],envr s2,by simp [jp,jM,op2,lkp,dIx,atI,ixN,cst,qA],fun vs2 H3 s3 r3=>?_⟩
      obtain ⟨y2,q2,g1,g2,g3⟩:=r3
      cases (show y2=V.int (l+1) from g2)
      cases (show q2=[] from g3)
      subst g1
      refine ⟨l+1,rfl,by omega,by omega,abo (n:=(l+1).toNat) (fun j σ H4=>∃ x3 ys,σ=[some mv,some (.ref p),some (.int (0+i)),x3]/\jj H H4/\H4 p=some (.lst ys)/\Reps K H4 (Jw i (l+1).toNat++Jj i j) ys)
       ⟨x3,xs,rfl,s2.trans s3,s3 _ _ hp2,by simpa [Jj] using Reps.mono s3 _ _ r2⟩ ?_ ?_⟩
      ·rintro j σ H4 hj ⟨x3',ys,rfl,s4,hp4,r4⟩
       have hlen:ys.length<sizeLine:=by
        rw [r4.length,List.length_append,aaO,afn,sizeLine_eq]
        have h1:i*(l+1).toNat<=1000*1001:=Nat.mul_le_mul (by omega) (by omega)
        omega
       refine ⟨_,rfl,.inl ⟨rfl,ys,SqL.of hp4⟩,_,rfl,_,rfl,by show 2<=sizeLine; rw [sizeLine_eq]; decide,fun q hq=>?_⟩
       have npq:p ≠ q:=qq hp4 hq
       refine ⟨p,ys,.ref q,rfl,rfl,by rw [jm npq]; exact hp4,hlen,?_⟩
       have t1:zA H4 (upd (upd H4 q (.tup [.int (0+(i:Int)),.int (0+(j:Int))])) p (.lst (ys++[.ref q]))):=
        (jj.n (jA hq)).trans (zA.upd (xs:=ys) (by rw [jm npq]; exact hp4))
       refine ⟨_,ys++[.ref q],rfl,fun c o hc=>?_,jr,?_⟩
       ·have hc4:=s4 c o hc
        rw [jm (qq hc hp),jm (qq hc4 hq)]
        exact hc4
       ·rw [adz,←List.append_assoc]
        refine (Reps.monoN t1 _ _ (by rw [Qa,agg,adA]; rfl) r4).append ⟨.ref q,[],rfl,⟨q,_,rfl,SqT.of (by rw [jm (Ne.symm npq)]; exact jr),?_⟩,rfl⟩
        exact ⟨_,_,rfl,by show _=V.int _; rw [Int.zero_add],_,_,rfl,by show _=V.int _; rw [Int.zero_add],rfl⟩
      ·rintro σ H4 ⟨x3',ys,rfl,s4,hp4,r4⟩
       exact ⟨_,x3',ys,rfl,s4,hp4,by rw [QY]; exact r4⟩
     ·rintro σ H2 ⟨x2,x3,xs,rfl,s2,hp2,r2⟩
      exact ⟨_,rfl,k _ _ s2 ⟨p,xs,rfl,hp2,r2⟩⟩
    ·cases h3
   ·cases h3
end
noncomputable abbrev Qy:Stmt:=top 11
noncomputable abbrev Qz:Stmt:=top 10
noncomputable abbrev CC:=Program->World->Fg->(SV)->Heap->Prop
structure CHasAll (P:Program) (w:World) (K:Fg) (mg:SV) (base:Heap):Prop where
 t:Bare mg
 allRods:jt P w K mg base "all_rods" ["manner"] 1 1 qF
 rodWorth:jt P w K mg base "rod_worth" ["manner","rod"] 1 2 Jv
theorem abL:FnScope ["manner","worths"] ["manner"] (jg Qy):=⟨rfl,rfl,rfl,by decide +kernel,rfl,by decide +kernel,by decide +kernel⟩
theorem nd2:(["rod","manner"]:List Str).Nodup:=by decide +kernel
theorem nd3:(["digit","worths"]:List Str).Nodup:=by decide +kernel
noncomputable def acy:{ B:RO // Ju CHasAll "has_all_digits" Qy ["manner","worths"] 1 B }:=
 ⟨_,fun P w K mg base f Kc A Ko s H E C hr=>
  jd (jz 1 abL.nd (JE ["rod","manner"] [none,some 0] rfl (ac7 (jo C.allRods hr (Nat.le_refl _) (jb (ja 0) je) (jc jq))) (JF (jg Qy) ["manner","worths"] (by decide +kernel))
   fun cl C' s0 H0 fp pn=>⟨qi 0 nd2,zP,jo C.rodWorth hr (Nat.le_refl _) (jb (ja 1) (jb (ja 0) je)) (jc (jc jq))⟩))
  (jd (jF (jJ (acm rfl) C.t.all acx (jb (JE ["digit","worths"] [none,some 1] rfl (QS rfl C.t.range (jb (j7 (ja 0) jh) je)) (JF (jg Qy) ["manner","worths"] (by decide +kernel))
   fun cl C' s0 H0 fp pn=>⟨qi 0 nd3,zP,agX (akL hr.units) (ja 0) (ja 1)⟩) je))) ji)⟩
noncomputable abbrev aaP:Stmt:=top 12
noncomputable def GC (K:Fg) (mg:SV) (x:Str) (d:PyData):Prop:=∃ v u,mg x=some u/\jL v u/\∀ H,Rep K H d v
theorem abM {X:Cx}{pos:Pos}{x:Str}{d:PyData} (c:GC X.K X.mg x d) (hg:Gl X x:=by rfl) (hd:(x == ("__debug__":Str))=false:=by decide):PD X (.Name x pos) (cst d):=by
 with_unfolding_all
  obtain ⟨v,u,h1,h2,h3⟩:=c
  exact aiU hg h1 h2 h3 hd
noncomputable def Zi:LP->OP:=jH ["manner","worths"] 1 acy.1
structure CIsManner (P:Program) (w:World) (K:Fg) (mg:SV) (base:Heap):Prop where
 t:Bare mg
 least:GC K mg "LEAST_PARTS" (.tuple [.int 0,.int 1,.int 0,.int 2])
 most:GC K mg "MOST_PARTS" (.tuple [.int 3,.int 16,.int 12,.int 16])
 isWhole:jt P w K mg base "is_whole" ["thing","least","most"] 1 3 qk
 hasAll:jt P w K mg base "has_all_digits" ["manner"] 2 1 Zi
theorem Jb:FnScope ["thing","part","least","most"] ["thing"] (jg Qz):=⟨rfl,rfl,rfl,by decide +kernel,rfl,by decide +kernel,by decide +kernel⟩
noncomputable def ZI:{ B:RO // Ju CIsManner "is_manner" Qz ["thing","part","least","most"] 2 B }:=
 ⟨_,fun P w K mg base f Kc A Ko s H E C hr=>
  jd (qN (qy (zO (qg (j2 (aaH (.inr (.inr rfl)) C.t.isi C.t.tuple Ze (ja 0)))) (zu (qt (ZE hr.units) (jJ zn C.t.len qO (jb (ja 0) je)) (jJ zn C.t.len qO (jb (abM C.most) je)))))) (jd (jF Z0) ji) ji)
  (jd (aan PassesOwn.never rfl (ahc C.t.zip (jb (ja 0) (jb (abM C.least) (jb (abM C.most) je)))) (aiW (n:=3) rfl (ZB (qi 1 Jb.nd) (ZB (qi 2 Jb.nd) (ZB (qi 3 Jb.nd) agZ))))
   (jd (qN (qg (j2 (jo C.isWhole hr (by decide) (jb (ja 1) (jb (ja 2) (jb (ja 3) je))) (jc (jc (jc jq)))))) (jd (jF Z0) ji) ji) ji))
  (jd (jF (jo C.hasAll hr (Nat.le_refl _) (jb (ja 0) je) (jc jq))) ji))⟩
noncomputable def qz:LP->OP:=jH ["thing","part","least","most"] 1 ZI.1
structure CCheck (P:Program) (w:World) (K:Fg) (mg:SV) (base:Heap):Prop where
 isManner:jt P w K mg base "is_manner" ["thing"] 3 1 qz
theorem adB:FnScope ["thing"] ["thing"] (jg aaP):=⟨rfl,rfl,rfl,by decide +kernel,rfl,by decide +kernel,by decide +kernel⟩
noncomputable def aew:{ B:RO // Ju CCheck "check_manner" aaP ["thing"] 3 B }:=
 ⟨_,fun P w K mg base f Kc A Ko s H E C hr=>
  jd (qN (qg (j2 (jo C.isManner hr (Nat.le_refl _) (jb (ja 0) je) (jc jq)))) aaD ji) ji⟩
noncomputable def Jk:LP->OP:=jH ["thing"] 1 aew.1
noncomputable abbrev ahJ (C:CC) (qual:Str) (st:Stmt) (N:List Str) (k:Nat) (sts:List Stmt) (B:RO):Prop:=
 ∀ (P:Program) (w:World) (K:Fg) (mg:SV) (base:Heap) (f:Addr) (Kc:Value) (A:Around) (Ko:List Env) (s:Shared) (H:Hp) (E:XK),C P w K mg base->Room k (A.deeper (envOfC qual (jg st) s.heap.objs.size f Kc))->
  QR (Jf CX0 P w K mg base N qual (jg st) f Kc A Ko s H E).nox sts B
noncomputable abbrev aj5 (own:Nat) (C:CC) (qual:Str) (st:Stmt) (N:List Str) (k:Nat) (sts:List Stmt) (B:RO):Prop:=
 ∀ (P:Program) (w:World) (K:Fg) (mg:SV) (base:Heap) (f:Addr) (Kc:Value) (A:Around) (Ko:List Env) (s:Shared) (H:Hp) (E:XK),C P w K mg base->Room k (A.deeper (envOfC qual (jg st) s.heap.objs.size f Kc))->
  acp (Jf CX0 P w K mg base N qual (jg st) f Kc A Ko s H E).nox (some own) sts B
noncomputable def Zj:Stmt->List Stmt
 | .For _ _ b _ _=>b
 | _=>[]
noncomputable def ahK (l:List Stmt) (i:Nat):Stmt:=l.getD i (.Pass ⟨0,0,0,0⟩)
noncomputable abbrev acz:Stmt:=top 13
noncomputable abbrev zp:Stmt:=top 18
noncomputable abbrev qQ:Stmt:=top 19
noncomputable def alz:Stmt->List Stmt
 | .While _ b _ _=>b
 | _=>[]
structure CIsRod (P:Program) (w:World) (K:Fg) (mg:SV) (base:Heap):Prop where
 t:Bare mg
 isWhole:jt P w K mg base "is_whole" ["thing","least","most"] 1 3 qk
theorem ahL:FnScope ["manner","thing"] ["manner","thing"] (jg acz):=⟨rfl,rfl,rfl,by decide +kernel,rfl,by decide +kernel,by decide +kernel⟩
noncomputable def ZJ:{ B:RO // Ju CIsRod "is_rod" acz ["manner","thing"] 1 B }:=
 ⟨_,fun P w K mg base f Kc A Ko s H E C hr=>
  jd (qN (qy (zO (qg (j2 (aaH (.inr (.inr rfl)) C.t.isi C.t.tuple Ze (ja 1)))) (zu (qt (ZE hr.units) (jJ zn C.t.len qO (jb (ja 1) je)) jh)))) (jd (jF Z0) ji) ji)
  (jd (jF (akS (jo C.isWhole hr (Nat.le_refl _) (jb (j7 (ja 1) jh) (jb jh (jb (j7 (ja 0) jh) je))) (jc (jc (jc jq)))) (akR (jo C.isWhole hr (Nat.le_refl _) (jb (j7 (ja 1) jh) (jb jh (jb (j7 (ja 0) jh) je))) (jc (jc (jc jq))))))) ji)⟩
noncomputable def JM:LP->OP:=jH ["manner","thing"] 2 ZJ.1
structure CIsSet (P:Program) (w:World) (K:Fg) (mg:SV) (base:Heap):Prop where
 t:Bare mg
 check:jt P w K mg base "check_manner" ["thing"] 4 1 Jk
 isRod:jt P w K mg base "is_rod" ["manner","thing"] 2 2 JM
 most:GC K mg "MOST_RODS" (.int 4)
theorem ahM:FnScope ["manner","thing"] ["manner","thing"] (jg zp):=⟨rfl,rfl,rfl,by decide +kernel,rfl,by decide +kernel,by decide +kernel⟩
theorem ndp:(["part","manner"]:List Str).Nodup:=by decide +kernel
noncomputable def ZK:{ B:RO // Ju CIsSet "is_setting" zp ["manner","thing"] 4 B }:=
 ⟨_,fun P w K mg base f Kc A Ko s H E C hr=>
  jd (Jp (jo C.check hr (Nat.le_refl _) (jb (ja 0) je) (jc jq)))
  (jd (qN (qy (zO (qg (j2 (aaH (.inr (.inr rfl)) C.t.isi C.t.tuple Ze (ja 1)))) (zu (qg (af0 acl acl jh (jJ zn C.t.len qO (jb (ja 1) je)) (abM C.most)))))) (jd (jF Z0) ji) ji)
  (jd (jF (jJ (acm rfl) C.t.all acx (jb (JE ["part","manner"] [none,some 0] rfl (ae1 (ja 1)) (JF (jg zp) ["manner","thing"] (by decide +kernel))
   fun cl C' s0 H0 fp pn=>⟨qi 0 ndp,zP,jo C.isRod hr (by decide) (jb (ja 1) (jb (ja 0) je)) (jc (jc jq))⟩) je))) ji))⟩
noncomputable def JN:LP->OP:=jH ["manner","thing"] 2 ZK.1
structure CChkSet (P:Program) (w:World) (K:Fg) (mg:SV) (base:Heap):Prop where
 isSet:jt P w K mg base "is_setting" ["manner","thing"] 5 2 JN
theorem agh:FnScope ["manner","thing"] ["manner","thing"] (jg qQ):=⟨rfl,rfl,rfl,by decide +kernel,rfl,by decide +kernel,by decide +kernel⟩
noncomputable def acA:{ B:RO // Ju CChkSet "check_setting" qQ ["manner","thing"] 5 B }:=
 ⟨_,fun P w K mg base f Kc A Ko s H E C hr=>
  jd (qN (qg (j2 (jo C.isSet hr (Nat.le_refl _) (jb (ja 0) (jb (ja 1) je)) (jc (jc jq))))) aaD ji) ji⟩
noncomputable def Zk:LP->OP:=jH ["manner","thing"] 2 acA.1
noncomputable abbrev afo:Stmt:=top 27
noncomputable abbrev acB:Stmt:=top 28
noncomputable abbrev aap:Stmt:=top 29
noncomputable abbrev Jx:Stmt:=top 30
theorem ajt:FnScope ["_law_script","_law_k"] ["_law_script","_law_k"] (jg afo):=⟨rfl,rfl,rfl,by decide +kernel,rfl,by decide +kernel,by decide +kernel⟩
noncomputable def afp:{ B:RO // Ju (fun _ _ _ mg _=>Bare mg) "_law_cell" afo ["_law_script","_law_k"] 0 B }:=
 ⟨_,fun P w K mg base f Kc A Ko s H E C hr=>
  jd (qN (qt (ack hr.units) (ja 0) (JZ je)) (jd (jF (jf zc jh (ja 1))) ji) ji)
  (jd (jF (jf js (j7 (ja 0) (jf Qr (ja 1) (jJ zn C.len qO (jb (ja 0) je)))) (jf zc jh (jf Q3 (ja 1) (jJ zn C.len qO (jb (ja 0) je)))))) ji)⟩
noncomputable def adC:LP->OP:=jH ["_law_script","_law_k"] 2 afp.1
structure CDrawn (P:Program) (w:World) (K:Fg) (mg:SV) (base:Heap):Prop where
 cell:jt P w K mg base "_law_cell" ["_law_script","_law_k"] 1 2 adC
theorem aaQ:FnScope ["_law_script","_law_k","_law_many","_law_cell_here"] ["_law_script","_law_k","_law_many"] (jg acB):=⟨rfl,rfl,rfl,by decide +kernel,rfl,by decide +kernel,by decide +kernel⟩
noncomputable def aex:{ B:RO // Ju CDrawn "_law_drawn" acB ["_law_script","_law_k","_law_many","_law_cell_here"] 1 B }:=
 ⟨_,fun P w K mg base f Kc A Ko s H E C hr=>
  jd (jz 3 aaQ.nd (jf Qr (jf js (jf zc (jf Qr (jo C.cell hr (Nat.le_refl _) (jb (ja 0) (jb (ja 1) je)) (jc (jc jq))) jh) jh) (jf zc jh (jf js (ja 1) jh))) jh))
  (jd (jz 3 aaQ.nd (jf Qr (jf js (jf zc (ja 3) (ja 3)) (jf Q3 (ja 3) jh)) jh))
  (jd (jF (jf Qr (jf Q3 (jf Qr (jf js (jf zc (ja 3) (ja 3)) (jf Q3 (ja 3) jh)) jh) jh) (ja 2))) ji))⟩
noncomputable def JO:LP->OP:=jH ["_law_script","_law_k","_law_many","_law_cell_here"] 3 aex.1
noncomputable abbrev acC:List Str:=["_law_script","_law_at","_law_known","_law_way","_law_each","_law_upper","_law_lower"]
structure CManner (P:Program) (w:World) (K:Fg) (mg:SV) (base:Heap):Prop where
 t:Bare mg
 drawn:jt P w K mg base "_law_drawn" ["_law_script","_law_k","_law_many"] 2 3 JO
theorem zq:FnScope acC ["_law_script","_law_at"] (jg aap):=⟨rfl,rfl,rfl,by decide +kernel,rfl,by decide +kernel,by decide +kernel⟩
noncomputable def jv (a b c d:Int):PyData:= .tuple [.int a,.int b,.int c,.int d]
noncomputable def ZL:LP:=[jv 1 5 4 10,jv 2 5 5 10,jv 0 1 9 10,jv 1 5 5 10,jv 0 1 10 10,jv 1 2 1 4,jv 0 1 1 2]
noncomputable def ZM:LP:=[jv 1 4 3 8,jv 1 3 2 5,jv 3 4 3 16,jv 2 3 2 7,jv 1 1 1 3]
noncomputable def aaq:{ B:RO // Ju CManner "_law_manner" aap acC 2 B }:=
 ⟨_,fun P w K mg base f Kc A Ko s H E C hr=>
  jd (jz 2 zq.nd (aeg 3 (.list ZL) (by kernel_rfl)))
  (jd (jz 2 zq.nd (jf js (ja 2) (aeg 3 (.list ZM) (by kernel_rfl))))
  (jd (jz 3 zq.nd (jo C.drawn hr (Nat.le_refl _) (jb (ja 0) (jb (ja 1) (jb (jf zc jh (jJ zn C.t.len qO (jb (ja 2) je))) je))) (jc (jc (jc jq)))))
  (jd (qN (qt ag3 (ja 3) (jJ zn C.t.len qO (jb (ja 2) je))) (jd (jF (j7 (ja 2) (ja 3))) ji) ji)
  (jd (jz 4 zq.nd (jf js jh (jo C.drawn hr (Nat.le_refl _) (jb (ja 0) (jb (jf js (ja 1) jh) (jb jh je))) (jc (jc (jc jq))))))
  (jd (jz 5 zq.nd (jo C.drawn hr (Nat.le_refl _) (jb (ja 0) (jb (jf js (ja 1) jh) (jb jh je))) (jc (jc (jc jq)))))
  (jd (jz 6 zq.nd (jf js (jJ (ai1 rfl) C.t.max ahf (jb (jf Qq (ja 4) jh) (jb jh je))) (jo C.drawn hr (Nat.le_refl _) (jb (ja 0) (jb (jf js (ja 1) jh) (jb jh je))) (jc (jc (jc jq))))))
  (jd (jF (JD (jb (ja 5) (jb (ja 4) (jb (ja 6) (jb (jf js jh (jo C.drawn hr (Nat.le_refl _) (jb (ja 0) (jb (jf js (ja 1) jh) (jb (jJ (ai2 rfl) C.t.min ahe (jb jh (jb (jf js (jf zc (ja 5) (ja 4)) (ja 6)) je))) je))) (jc (jc (jc jq))))) je)))))) ji)))))))⟩
noncomputable def QA:LP->OP:=jH acC 2 aaq.1
structure CSetting (P:Program) (w:World) (K:Fg) (mg:SV) (base:Heap):Prop where
 t:Bare mg
 drawn:jt P w K mg base "_law_drawn" ["_law_script","_law_k","_law_many"] 2 3 JO
noncomputable abbrev aju:List Str:=["_law_script","_law_at","_law_manner_here","_law_most","_law_rods_here","_law_found","_law_k","_law_rod"]
theorem ZN:FnScope aju ["_law_script","_law_at","_law_manner_here","_law_most"] (jg Jx):=⟨rfl,rfl,rfl,by decide +kernel,rfl,by decide +kernel,by decide +kernel⟩
noncomputable def acD:{ B:RO // ahJ CSetting "_law_setting" Jx aju 2 (Zj (ahK (jU Jx) 2)) B }:=
 ⟨_,fun P w K mg base f Kc A Ko s H E C hr=>
  (jd (jz 7 ZN.nd (JD (jb (jo C.drawn hr (by decide) (jb (ja 0) (jb (jf js (jf js (ja 1) jh) (jf zc jh (ja 6))) (jb (jf js (j7 (ja 2) jh) jh) je))) (jc (jc (jc jq)))) (jb (jo C.drawn hr (by decide) (jb (ja 0) (jb (jf js (jf js (ja 1) jh) (jf zc jh (ja 6))) (jb (jf js (j7 (ja 2) jh) jh) je))) (jc (jc (jc jq)))) je))))
  (jd (jz 5 ZN.nd (jf js (ja 5) (JD (jb (ja 7) je))))
  ji))⟩
noncomputable def ajv:{ B:RO // Ju CSetting "_law_setting" Jx aju 2 B }:=
 ⟨_,fun P w K mg base f Kc A Ko s H E C hr=>
  (jd (jz 4 ZN.nd (jf js jh (jo C.drawn hr (by decide) (jb (ja 0) (jb (ja 1) (jb (ja 3) je))) (jc (jc (jc jq))))))
  (jd (jz 5 ZN.nd (JD je))
  (jd (aan PassesOwn.never rfl (QS rfl C.t.range (jb (ja 4) je)) (qi 6 ZN.nd) (acD.2 P w K mg base f Kc A Ko s H E C hr))
  (jd (jF (ja 5))
  ji))))⟩
noncomputable def ajw:LP->OP:=jH aju 4 ajv.1
noncomputable abbrev adD (C:CC) (qual:Str) (st:Stmt) (N:List Str) (k:Nat) (Fx:Rho->Option Str):Prop:=
 ∀ (P:Program) (w:World) (K:Fg) (mg:SV) (base:Heap) (f:Addr) (Kc:Value) (A:Around) (Ko:List Env) (s:Shared) (H:Hp) (E:XK),C P w K mg base->Room k (A.deeper (envOfC qual (jg st) s.heap.objs.size f Kc))->
  aae (Jf (CXt P w) P w K mg base N qual (jg st) f Kc A Ko s H E) (jU st) Fx
noncomputable abbrev adE:List Str:=["NoText","NoManner","NoSetting"]
structure XCheck (P:Program) (w:World) (K:Fg) (mg:SV) (base:Heap):Prop where
 c_isManner:jt P w K mg base "is_manner" ["thing"] 3 1 qz
 e_NoManner:af6 K mg "NoManner"
noncomputable def acE:{ F:Rho->Option Str // adD XCheck "check_manner" aaP ["thing"] 3 F }:=
 ⟨_,fun P w K mg base f Kc A Ko s H E C hr=>
  (j5 (acs (qg (j2 (jo C.c_isManner hr (by decide) (jb (ja 0) je) (jc jq)))) (j5 (Qv rfl C.e_NoManner rfl)) JH))⟩
noncomputable def ZO:LP->Option Str:=QO ["thing"] 1 acE.1
noncomputable abbrev Zl:Stmt:=top 21
structure CRodText (P:Program) (w:World) (K:Fg) (mg:SV) (base:Heap):Prop where
 tr:True
noncomputable abbrev aaR:List Str:=["manner","rod"]
theorem aey:FnScope aaR ["manner","rod"] (jg Zl):=⟨rfl,rfl,rfl,by decide +kernel,rfl,by decide +kernel,by decide +kernel⟩
noncomputable def Zm:{ B:RO // Ju CRodText "rod_text" Zl aaR 0 B }:=
 ⟨_,fun P w K mg base f Kc A Ko s H E C hr=>
  (jd (jF (jf jT (jf jT (jf jT (jf jT (jf jT (jf jT (jf zT jN (jf Qq (j7 (ja 0) jh) (j7 (ja 1) jh))) jN) (jf zT jN (j7 (ja 1) jh))) jN) (jf zT jN (j7 (ja 1) jh))) jN) (jf zT jN (jf Qq (j7 (ja 0) jh) (j7 (ja 1) jh)))))
  ji)⟩
noncomputable def Jy:LP->OP:=jH aaR 2 Zm.1
noncomputable abbrev ze:Stmt:=top 22
structure CSettingText (P:Program) (w:World) (K:Fg) (mg:SV) (base:Heap):Prop where
 c_chkSet:jt P w K mg base "check_setting" ["manner","thing"] 6 2 Zk
 c_RodText:jt P w K mg base "rod_text" ["manner","rod"] 1 2 Jy
noncomputable abbrev zI:List Str:=["manner","setting"]
theorem aaS:FnScope zI ["manner","setting"] (jg ze):=⟨rfl,rfl,rfl,by decide +kernel,rfl,by decide +kernel,by decide +kernel⟩
theorem ahN:(["rod","manner"]:List Str).Nodup:=by decide +kernel
noncomputable def zJ:{ B:RO // Ju CSettingText "setting_text" ze zI 6 B }:=
 ⟨_,fun P w K mg base f Kc A Ko s H E C hr=>
  (jd (Jp (jo C.c_chkSet hr (by decide) (jb (ja 0) (jb (ja 1) je)) (jc (jc jq))))
  (jd (jF (qJ PySem.F.slot_str_join PySem.F.type_str_join Za (fun _ _ _ _ _ _ _=>Zc) (fun _ _ _=>Zd) jN (JE ["rod","manner"] [none,some 0] rfl (JI (ja 1)) (JF (jg ze) zI (by decide +kernel))
   fun cl C' s0 H0 fp pn=>⟨(qi 0 ahN),zP,(jf jT (jo C.c_RodText hr (by decide) (jb (ja 1) (jb (ja 0) je)) (jc (jc jq))) jN)⟩)))
  ji))⟩
noncomputable def zK:LP->OP:=jH zI 2 zJ.1
noncomputable abbrev qV:Stmt:=top 25
structure CRodsByLine (P:Program) (w:World) (K:Fg) (mg:SV) (base:Heap):Prop where
 c_allRods:jt P w K mg base "all_rods" ["manner"] 1 1 qF
 c_RodText:jt P w K mg base "rod_text" ["manner","rod"] 1 2 Jy
noncomputable abbrev Jc:List Str:=["manner","known","rod"]
theorem Jl:FnScope Jc ["manner"] (jg qV):=⟨rfl,rfl,rfl,by decide +kernel,rfl,by decide +kernel,by decide +kernel⟩
noncomputable def zf:{ B:RO // aj5 1 CRodsByLine "rods_by_line" qV Jc 1 (Zj (ahK (jU qV) 1)) B }:=
 ⟨_,fun P w K mg base f Kc A Ko s H E C hr=>
  (j4 (ahF 1 hr.units1 (jo C.c_RodText hr (by decide) (jb (ja 0) (jb (ja 2) je)) (jc (jc jq))) (ja 2))
  aaJ)⟩
noncomputable def Jd:{ B:RO // Ju CRodsByLine "rods_by_line" qV Jc 1 B }:=
 ⟨_,fun P w K mg base f Kc A Ko s H E C hr=>
  (adf (adh 1 Jl.nd ahm
  (j4 (ae8 PassesOwn.never rfl (JI (jo C.c_allRods hr (by decide) (jb (ja 0) je) (jc jq))) (adg 2 Jl.nd) (zf.2 P w K mg base f Kc A Ko s H E C hr))
  (j4 (ai7 (ja 1))
  aaJ))))⟩
noncomputable def qG:LP->OP:=jH Jc 1 Jd.1
noncomputable abbrev zD:Stmt:=top 24
structure CCheckEnded (P:Program) (w:World) (K:Fg) (mg:SV) (base:Heap):Prop where
 t:Bare mg
noncomputable abbrev zE:List Str:=["text"]
theorem QP:FnScope zE ["text"] (jg zD):=⟨rfl,rfl,rfl,by decide +kernel,rfl,by decide +kernel,by decide +kernel⟩
noncomputable def qW:{ B:RO // Ju CCheckEnded "check_ended" zD zE 0 B }:=
 ⟨_,fun P w K mg base f Kc A Ko s H E C hr=>
  (jd (qN (qy (zO (qg (j2 (afi rfl C.t.isi C.t.str ahI (ja 0)))) (zu (qg (j2 (qJ PySem.F.slot_str_endswith PySem.F.type_str_endswith aff (fun _ _ _ _ _ _ _=>afg) (fun _ _ _=>afh) (ja 0) jN)))))) (jd abA
  ji) ji)
  ji)⟩
noncomputable def qp:LP->OP:=jH zE 1 qW.1
noncomputable abbrev j8:Stmt:=top 23
structure CReadSetting (P:Program) (w:World) (K:Fg) (mg:SV) (base:Heap):Prop where
 t:Bare mg
 c_check:jt P w K mg base "check_manner" ["thing"] 4 1 Jk
 c_CheckEnded:jt P w K mg base "check_ended" ["text"] 1 1 qp
 c_RodsByLine:jt P w K mg base "rods_by_line" ["manner"] 2 1 qG
 k_MOST_RODS:GC K mg "MOST_RODS" (.int 4)
noncomputable abbrev j9:List Str:=["manner","text","known","lines"]
theorem ql:FnScope j9 ["manner","text"] (jg j8):=⟨rfl,rfl,rfl,by decide +kernel,rfl,by decide +kernel,by decide +kernel⟩
theorem aaT:(["line","known"]:List Str).Nodup:=by decide +kernel
noncomputable def qe:{ B:RO // Ju CReadSetting "read_setting" j8 j9 4 B }:=
 ⟨_,fun P w K mg base f Kc A Ko s H E C hr=>
  (jd (Jp (jo C.c_check hr (by decide) (jb (ja 0) je) (jc jq)))
  (jd (Jp (jo C.c_CheckEnded hr (by decide) (jb (ja 1) je) (jc jq)))
  (jd (jz 2 ql.nd (jo C.c_RodsByLine hr (by decide) (jb (ja 0) je) (jc jq)))
  (jd (jz 3 ql.nd (qJ PySem.F.slot_str_split PySem.F.type_str_split Qe (fun _ _ _ _ _ _ _=>Qf) (fun _ _ _=>Qg) (zd (ja 1) (aaI jh)) jN))
  (jd (qN (qy (zO (qt ag4 (jJ zn C.t.len qO (jb (ja 3) je)) (abM C.k_MOST_RODS)) (zu (qg (j2 (jJ (acm rfl) C.t.all acx (jb (JE ["line","known"] [none,some 2] rfl (JI (ja 3)) (JF (jg j8) j9 (by decide +kernel))
   fun cl C' s0 H0 fp pn=>⟨(qi 0 aaT),zP,(adm (afj hr.units1 (ja 0) (ja 1)))⟩) je))))))) (jd abA
  ji) ji)
  (jd (jF (afZ ahp C.t.tuple Ze (jb (JE ["line","known"] [none,some 2] rfl (JI (ja 3)) (JF (jg j8) j9 (by decide +kernel))
   fun cl C' s0 H0 fp pn=>⟨(qi 0 aaT),zP,(ajp hr.units1 (ja 1) (ja 0))⟩) je)))
  ji))))))⟩
noncomputable def qf:LP->OP:=jH j9 2 qe.1
structure XCheckEnded (P:Program) (w:World) (K:Fg) (mg:SV) (base:Heap):Prop where
 t:Bare mg
 e_NoText:af6 K mg "NoText"
noncomputable def qX:{ F:Rho->Option Str // adD XCheckEnded "check_ended" zD zE 0 F }:=
 ⟨_,fun P w K mg base f Kc A Ko s H E C hr=>
  (j5 (acs (qy (zO (qg (j2 (afi rfl C.t.isi C.t.str ahI (ja 0)))) (zu (qg (j2 (qJ PySem.F.slot_str_endswith PySem.F.type_str_endswith aff (fun _ _ _ _ _ _ _=>afg) (fun _ _ _=>afh) (ja 0) jN)))))) (j5 (Qv rfl C.e_NoText rfl)) JH))⟩
noncomputable def qY:LP->Option Str:=QO zE 1 qX.1
structure XReadSetting (P:Program) (w:World) (K:Fg) (mg:SV) (base:Heap):Prop where
 t:Bare mg
 c_RodsByLine:jt P w K mg base "rods_by_line" ["manner"] 2 1 qG
 c_CheckEnded:jt P w K mg base "check_ended" ["text"] 1 1 qp
 c_check:jt P w K mg base "check_manner" ["thing"] 4 1 Jk
 k_MOST_RODS:GC K mg "MOST_RODS" (.int 4)
 x_check:abk P w K mg base "check_manner" ["thing"] 4 1 ZO
 x_CheckEnded:abk P w K mg base "check_ended" ["text"] 1 1 qY
 e_NoText:af6 K mg "NoText"
noncomputable def qK:{ F:Rho->Option Str // adD XReadSetting "read_setting" j8 j9 4 F }:=
 ⟨_,fun P w K mg base f Kc A Ko s H E C hr=>
  (afb (j5 (aaL (Qb rfl C.x_check hr (by decide) (jb (ja 0) je) (jc jq)))) (Qu (Jp (jo C.c_check hr (by decide) (jb (ja 0) je) (jc jq)))
  (afb (j5 (aaL (Qb rfl C.x_CheckEnded hr (by decide) (jb (ja 1) je) (jc jq)))) (Qu (Jp (jo C.c_CheckEnded hr (by decide) (jb (ja 1) je) (jc jq)))
  (Qu (jz 2 ql.nd (jo C.c_RodsByLine hr (by decide) (jb (ja 0) je) (jc jq)))
  (Qu (jz 3 ql.nd (qJ PySem.F.slot_str_split PySem.F.type_str_split Qe (fun _ _ _ _ _ _ _=>Qf) (fun _ _ _=>Qg) (zd (ja 1) (aaI jh)) jN))
  (j5 (acs (qy (zO (qt ag4 (jJ zn C.t.len qO (jb (ja 3) je)) (abM C.k_MOST_RODS)) (zu (qg (j2 (jJ (acm rfl) C.t.all acx (jb (JE ["line","known"] [none,some 2] rfl (JI (ja 3)) (JF (jg j8) j9 (by decide +kernel))
   fun cl C' s0 H0 fp pn=>⟨(qi 0 aaT),zP,(adm (afj hr.units1 (ja 0) (ja 1)))⟩) je))))))) (j5 (Qv rfl C.e_NoText rfl)) JH))))))))⟩
noncomputable def zg:LP->Option Str:=QO j9 2 qK.1
noncomputable abbrev ZP:Stmt:=top 35
structure CLTold (P:Program) (w:World) (K:Fg) (mg:SV) (base:Heap):Prop where
 t:Bare mg
 c_ReadSetting:jt P w K mg base "read_setting" ["manner","text"] 5 2 qf
 x_ReadSetting:abk P w K mg base "read_setting" ["manner","text"] 5 2 zg
 errT:ErrT K mg "BeadError" adE
noncomputable abbrev aez:List Str:=["_law_manner_here","_law_text","e","_law_flags"]
theorem aaU:FnScope aez ["_law_manner_here","_law_text"] (jg ZP):=⟨rfl,rfl,rfl,by decide +kernel,rfl,by decide +kernel,by decide +kernel⟩
noncomputable def ZQ:{ B:RO // ∀ (P:Program) (w:World) (K:Fg) (mg:SV) (base:Heap) (f:Addr) (Kc:Value) (A:Around) (Ko:List Env) (s:Shared) (H:Hp) (E:XK),CLTold P w K mg base->Room 5 (A.deeper (envOfC "_law_told" (jg ZP) s.heap.objs.size f Kc))->
  aht (Jf CX0 P w K mg base aez "_law_told" (jg ZP) f Kc A Ko s H E) (jU ZP) B }:=
 ⟨_,fun P w K mg base f Kc A Ko s H E C hr=>
  (af7 (ahz (n:=4) 2 ahs rfl aaU.nd C.errT
   (fun E'=>(jd (jF (jo C.c_ReadSetting hr (by decide) (jb (ja 0) (jb (ja 1) je)) (jc (jc jq))))
  ji))
   (fun E'=>(j5 (aja (Qb rfl C.x_ReadSetting hr (by decide) (jb (ja 0) (jb (ja 1) je)) (jc (jc jq))))))
   (fun e=>(jd (jz 3 aaU.nd (JZ (jb (acu C.errT C.t.isi (ja 2)) (jb (acu C.errT C.t.isi (ja 2)) (jb (acu C.errT C.t.isi (ja 2)) je)))))
  (jd (qN (qy (ae0 (j2 (ajd C.errT C.t.isi C.t.vale (ja 2))) (ac6 (qt (ack hr.units) (ja 3) (aeg 2 (.list [.bool true,.bool false,.bool false]) (by kernel_rfl)))))) (jd (jF JY)
  ji) ji)
  ji)))) (ajb (jd (jF Z0)
  ji)))⟩
noncomputable def JP:LP->OP:=jH aez 2 ZQ.1
noncomputable abbrev acF:Stmt:=top 36
structure CLSide (P:Program) (w:World) (K:Fg) (mg:SV) (base:Heap):Prop where
 t:Bare mg
noncomputable abbrev aeA:List Str:=["_law_part","_law_many","_law_at"]
theorem adF:FnScope aeA ["_law_part","_law_many"] (jg acF):=⟨rfl,rfl,rfl,by decide +kernel,rfl,by decide +kernel,by decide +kernel⟩
noncomputable def ZR:{ B:RO // Ju CLSide "_law_side" acF aeA 0 B }:=
 ⟨_,fun P w K mg base f Kc A Ko s H E C hr=>
  (jd (jz 2 adF.nd (qJ PySem.F.slot_str_find PySem.F.type_str_find ajm (fun _ _ _ _ _ _ _=>ajn) (fun _ _ _=>ajo) (ja 0) jN))
  (jd (qN (qy (zO (qt ag3 (ja 2) jh) (zO (qt (ZE hr.units) (jJ acv C.t.len qO (jb (ja 0) je)) (jf js (ja 1) jh)) (zu (qt (ZE hr.units) (jf jT (zd (ja 0) (ja 2)) (zo (ja 0) (jf js (ja 2) jh))) (jf zT jN (ja 1))))))) (jd (jF JY)
  ji) ji)
  (jd (jF (JD (jb (ja 2) (jb (jf Qq (ja 1) (ja 2)) je))))
  ji)))⟩
noncomputable def Qk:LP->OP:=jH aeA 2 ZR.1
noncomputable abbrev abN:Stmt:=top 37
structure CLDue (P:Program) (w:World) (K:Fg) (mg:SV) (base:Heap):Prop where
 t:Bare mg
 c_LSide:jt P w K mg base "_law_side" ["_law_part","_law_many"] 1 2 Qk
 c_isSet:jt P w K mg base "is_setting" ["manner","thing"] 5 2 JN
noncomputable abbrev afq:List Str:=["_law_manner_here","_law_text","_law_lines","_law_found","_law_line","_law_halves","_law_above","_law_under"]
theorem Je:FnScope afq ["_law_manner_here","_law_text"] (jg abN):=⟨rfl,rfl,rfl,by decide +kernel,rfl,by decide +kernel,by decide +kernel⟩
noncomputable def qS:{ B:RO // ahJ CLDue "_law_due" abN afq 5 (Zj (ahK (jU abN) 2)) B }:=
 ⟨_,fun P w K mg base f Kc A Ko s H E C hr=>
  (jd (jz 5 Je.nd (qJ PySem.F.slot_str_split PySem.F.type_str_split Qe (fun _ _ _ _ _ _ _=>Qf) (fun _ _ _=>Qg) (ja 4) jN))
  (jd (qN (qt (ZE hr.units) (jJ zn C.t.len qO (jb (ja 5) je)) jh) (jd (jF JY)
  ji) ji)
  (jd (jz 6 Je.nd (jo C.c_LSide hr (by decide) (jb (j7 (ja 5) jh) (jb (j7 (ja 0) jh) je)) (jc (jc jq))))
  (jd (jz 7 Je.nd (jo C.c_LSide hr (by decide) (jb (j7 (ja 5) jh) (jb (j7 (ja 0) jh) je)) (jc (jc jq))))
  (jd (qN (qy (zO (qt afa (ja 6) JY) (zu (qt afa (ja 7) JY)))) (jd (jF JY)
  ji) ji)
  (jd (jz 3 Je.nd (jf js (ja 3) (JD (jb (JD (jb (j7 (ja 6) jh) (jb (j7 (ja 7) jh) je))) je))))
  ji))))))⟩
noncomputable def abO:{ B:RO // Ju CLDue "_law_due" abN afq 5 B }:=
 ⟨_,fun P w K mg base f Kc A Ko s H E C hr=>
  (jd (jz 2 Je.nd (qJ PySem.F.slot_str_split PySem.F.type_str_split Qe (fun _ _ _ _ _ _ _=>Qf) (fun _ _ _=>Qg) (ja 1) jN))
  (jd (jz 3 Je.nd (JD je))
  (jd (aan PassesOwn.never rfl (JI (Qc (ja 2) (aaI jh))) (qi 4 Je.nd) (qS.2 P w K mg base f Kc A Ko s H E C hr))
  (jd (jF (al4 (qy (ae0 (qt (ack hr.units) (j7 (ja 2) (aaI jh)) jN) (ac6 (j2 (jo C.c_isSet hr (by decide) (jb (ja 0) (jb (ja 3) je)) (jc (jc jq))))))) (ja 3) JY))
  ji))))⟩
noncomputable def Ql:LP->OP:=jH afq 2 abO.1
noncomputable abbrev adG:Stmt:=top 38
structure CLaw (P:Program) (w:World) (K:Fg) (mg:SV) (base:Heap):Prop where
 t:Bare mg
 c_manner:jt P w K mg base "_law_manner" ["_law_script","_law_at"] 3 2 QA
 c_setting:jt P w K mg base "_law_setting" ["_law_script","_law_at","_law_manner_here","_law_most"] 3 4 ajw
 c_SettingText:jt P w K mg base "setting_text" ["manner","setting"] 7 2 zK
 c_drawn:jt P w K mg base "_law_drawn" ["_law_script","_law_k","_law_many"] 2 3 JO
 c_LTold:jt P w K mg base "_law_told" ["_law_manner_here","_law_text"] 6 2 JP
 c_LDue:jt P w K mg base "_law_due" ["_law_manner_here","_law_text"] 6 2 Ql
noncomputable abbrev ahO:List Str:=["_law_script","_law_manner_here","_law_setting_here","_law_text","_law_at","_law_sign","_law_texts","_law_lines","_law_to","_law_exchanged","_law_k","_law_line","_law_place","_law_two","_law_others","_law_other","_law_some"]
theorem qv:FnScope ahO ["_law_script"] (jg adG):=⟨rfl,rfl,rfl,by decide +kernel,rfl,by decide +kernel,by decide +kernel⟩
noncomputable def afr:{ B:RO // aj5 6 CLaw "law" adG ahO 7 (Zj (ahK (jU adG) 12)) B }:=
 ⟨_,fun P w K mg base f Kc A Ko s H E C hr=>
  (j4 (Qt 11 qv.nd (j7 (ja 7) (ja 10)))
  (j4 (Qt 12 qv.nd (jo C.c_drawn hr (by decide) (jb (ja 0) (jb (jf js jh (ja 10)) (jb (jf Qq (jJ acv C.t.len qO (jb (ja 11) je)) jh) je))) (jc (jc (jc jq)))))
  (j4 (Qt 13 qv.nd (aer (ja 11) (ja 12) (jf js (ja 12) jh)))
  (j4 (Qt 14 qv.nd (JZ (jb (jf jT (jf jT (zd (ja 11) (ja 12)) (afm (ja 13))) (zo (ja 11) (jf js (ja 12) jh))) (jb (jf jT (ja 11) jN) (jb (jf jT jN (ja 11)) (jb (afm (ja 11)) je))))))
  (j4 (Qt 15 qv.nd (j7 (ja 14) (jo C.c_drawn hr (by decide) (jb (ja 0) (jb (jf js jh (ja 10)) (jb jh je))) (jc (jc (jc jq))))))
  (j4 (ae9 (abD 6 (qJ PySem.F.slot_str_join PySem.F.type_str_join Za (fun _ _ _ _ _ _ _=>Zc) (fun _ _ _=>Zd) jN (jf js (jf js (Qc (ja 7) (ja 10)) (JZ (jb (ja 15) je))) (JG (ja 7) (jf js (ja 10) jh))))))
  aaJ))))))⟩
noncomputable def afs:{ B:RO // ahJ CLaw "law" adG ahO 7 (Zj (ahK (jU adG) 13)) B }:=
 ⟨_,fun P w K mg base f Kc A Ko s H E C hr=>
  (jd (qN (qt (ZE hr.units) (jo C.c_LTold hr (by decide) (jb (ja 1) (jb (ja 16) je)) (jc (jc jq))) (jo C.c_LDue hr (by decide) (jb (ja 1) (jb (ja 16) je)) (jc (jc jq)))) (jd (jF Z0)
  ji) ji)
  ji)⟩
noncomputable def ajx:{ B:RO // Ju CLaw "law" adG ahO 7 B }:=
 ⟨_,fun P w K mg base f Kc A Ko s H E C hr=>
  (jd (jz 1 qv.nd (jo C.c_manner hr (by decide) (jb (ja 0) (jb jh je)) (jc (jc jq))))
  (jd (jz 2 qv.nd (jo C.c_setting hr (by decide) (jb (ja 0) (jb jh (jb (ja 1) (jb jh je)))) (jc (jc (jc (jc jq))))))
  (jd (jz 3 qv.nd (jo C.c_SettingText hr (by decide) (jb (ja 1) (jb (ja 2) je)) (jc (jc jq))))
  (jd (jz 4 qv.nd (jo C.c_drawn hr (by decide) (jb (ja 0) (jb jh (jb (jf js (jJ acv C.t.len qO (jb (ja 3) je)) jh) je))) (jc (jc (jc jq)))))
  (jd (jz 5 qv.nd (ak3 jN (jo C.c_drawn hr (by decide) (jb (ja 0) (jb jh (jb jh je))) (jc (jc (jc jq)))) (by intro _ _; rfl)))
  (jd (jz 6 qv.nd (JZ (jb (ja 3) (jb (jf jT (zd (ja 3) (ja 4)) (zo (ja 3) (jf js (ja 4) jh))) (jb (jf jT (zd (ja 3) (jf js (ja 4) jh)) (zo (ja 3) (ja 4))) (jb (jf jT (jf jT (zd (ja 3) (ja 4)) (ja 5)) (zo (ja 3) (jf js (ja 4) jh))) je))))))
  (jd (jz 6 qv.nd (jf js (ja 6) (JZ (jb (jf jT (jf jT (zd (ja 3) (ja 4)) (ja 5)) (zo (ja 3) (ja 4))) (jb jN (jb jN (jb jN (jb jN (jb (zd (ja 3) (aaI jh)) (jb (jf zT (ja 3) jh) (jb (jf zT (ja 3) jh) je)))))))))))
  (jd (jz 7 qv.nd (qJ PySem.F.slot_str_split PySem.F.type_str_split Qe (fun _ _ _ _ _ _ _=>Qf) (fun _ _ _=>Qg) (ja 3) jN))
  (jd (jz 8 qv.nd (jo C.c_drawn hr (by decide) (jb (ja 0) (jb jh (jb (jJ zn C.t.len qO (jb (ja 7) je)) je))) (jc (jc (jc jq)))))
  (adf (adh 6 qv.nd (ak6 (ja 6) (JZ (jb (qJ PySem.F.slot_str_join PySem.F.type_str_join Za (fun _ _ _ _ _ _ _=>Zc) (fun _ _ _=>Zd) jN (jf js (Qc (ja 7) (ja 8)) (JG (ja 7) (jf js (ja 8) jh)))) (jb (qJ PySem.F.slot_str_join PySem.F.type_str_join Za (fun _ _ _ _ _ _ _=>Zc) (fun _ _ _=>Zd) jN (jf js (Qc (ja 7) (jf js (ja 8) jh)) (JG (ja 7) (ja 8)))) je))))
  (j4 (Qt 9 qv.nd (jf js (jf js (Qc (ja 7) (ja 8)) (akZ (aet (ja 7) (ja 8) (jf js (ja 8) jh)))) (JG (ja 7) (jf js (ja 8) jh))))
  (j4 (ae9 (abD 6 (qJ PySem.F.slot_str_join PySem.F.type_str_join Za (fun _ _ _ _ _ _ _=>Zc) (fun _ _ _=>Zd) jN (ja 9))))
  (j4 (ae8 PassesOwn.never rfl (QS rfl C.t.range (jb (jf Qq (jJ zn C.t.len qO (jb (ja 7) je)) jh) je)) (adg 10 qv.nd) (afr.2 P w K mg base f Kc A Ko s H E C hr))
  (ahB (jd (aan PassesOwn.never rfl (JI (ja 6)) (qi 16 qv.nd) (afs.2 P w K mg base f Kc A Ko s H E C hr))
  (jd (jF (agX (ack hr.units) (jo C.c_LDue hr (by decide) (jb (ja 1) (jb (ja 3) je)) (jc (jc jq))) (ja 2)))
  ji)))))))))))))))))⟩
noncomputable def ahP:LP->OP:=jH ahO 1 ajx.1
theorem qw (i a b:Int):qk [.int i,.int a,.int b]=some (.bool (decide (a<=i) && decide (i<=b))):=by
 by_cases h:a<=i <;> simp [qk,jH,Zh,jO,jV,ifS,orB,tst,lkp,zQ,tyn,asB,zi,chn,Jh,za,zj,h]
theorem acG (u e l b x y:Int) (h:-18446744073709551616<x/\x<18446744073709551616):Jv [.tuple [.int u,.int e,.int l,.int b],.tuple [.int x,.int y]]=some (.int (x*e+y)):=by
 simp [Jv,jH,ZH,jO,jV,op2,lkp,dIx,atI,ixN,za,zj,cst,aac,qA,h]
theorem ahQ {n:Nat}{i:Int} (h0:0<=i) (h:i.toNat<n):ixN n i=some i.toNat:=by
 unfold ixN
 rw [if_pos h0,if_pos (by omega)]
noncomputable def okN (u e l b:Int):Bool:=decide (0<=u) && decide (u<=3) && decide (1<=e) && decide (e<=5) && decide (e - 1<=l) && decide (1<=l) && decide (l<=11) && decide (2<=b) && decide (b<=16) && decide (b<=u*e+l+1)
noncomputable def qm (u l:Int):LP:=Jw (u+1).toNat (l+1).toNat
noncomputable def jR (e:Int):PyData->Int
 | .tuple [.int x,.int y]=>x*e+y
 | _=>-1
noncomputable def pr (p:Int × Int):PyData:= .tuple [.int p.1,.int p.2]
noncomputable def jQ (ps:List (Int × Int)):PyData:= .tuple (ps.map pr)
noncomputable def okP (u l:Int) (p:Int × Int):Bool:=decide (0<=p.1) && decide (p.1<=u) && decide (0<=p.2) && decide (p.2<=l)
noncomputable def okS (u l:Int) (ps:List (Int × Int)):Bool:=decide (1<=ps.length) && decide (ps.length<=4) && ps.all (okP u l)
noncomputable def wt (e:Int) (p:Int × Int):Int:=p.1*e+p.2
noncomputable def anh (b e:Int) (ps:List (Int × Int)):Bool:=ps.all fun p=>decide (wt e p<b)
noncomputable def amq (e:Int):List Int->LP->List Int
 | c,[]=>c
 | c,r::rs=>amq e (c.set (jR e r).toNat (c.getD (jR e r).toNat 0+1)) rs
noncomputable def amr (u e l:Int):List Int:=amq e (List.replicate (u*e+l+1).toNat 0) (qm u l)
noncomputable def cnt (u e l n:Int):Int:=((qm u l).filter fun r=>jR e r == n).length
noncomputable def okM (u e l b:Int):Bool:=decide (0<=u) && decide (u<=3) && decide (1<=e) && decide (e<=5) && decide (e - 1<=l) && decide (1<=l) && decide (l<=10) && decide (2<=b) && decide (b<=16) && decide (b<=u*e+l+1)
theorem agi {n m:Nat}{d:PyData} (h:d ∈ Jw n m):∃ i j:Nat,i<n/\j<m/\d= .tuple [.int i,.int j]:=by
 obtain ⟨i,hi,hd⟩:=List.mem_flatMap.mp h
 obtain ⟨j,hj,rfl⟩:=List.mem_map.mp hd
 exact ⟨i,j,List.mem_range.mp hi,List.mem_range.mp hj,rfl⟩
theorem JQ (i:Int):okD (.int i)=true:=by simp [okD,PyData.canLay0,PyData.depth]
theorem Z6 {u e l b:Int} (hu:0<=u) (hu':u<100) (hl:0<=l) (hl':l<100):qF [jv u e l b]=some (.list (qm u l)):=by
 simp [qF,jv,qm,hu,hl,show u<1000 by omega,show l<1000 by omega]
theorem ahR {u l:Int} (hu':u<100) (hl':l<100):few (qm u l)=true:=by
 simp only [few,qm,aaO,decide_eq_true_eq]
 have:(u+1).toNat*(l+1).toNat<=100*100:=Nat.mul_le_mul (by omega) (by omega)
 omega
theorem agj {u e l b:Int} (hu':u<100) {d:PyData} (h:d ∈ qm u l):Jv [jv u e l b,d]=some (.int (jR e d)):=by
 obtain ⟨i,j,hi,hj,rfl⟩:=agi h
 exact acG u e l b i j (by omega)
theorem ahS (ns:List Int):okD (.list (ns.map PyData.int))=true:=by
 have h1:∀ ns:List Int,PyData.canLayAll0 (ns.map PyData.int)=true:=fun ns=>by
  induction ns with
  | nil=>rfl
  | cons n ns ih=>simp [PyData.canLayAll0,PyData.canLay0,ih]
 have h2:∀ ns:List Int,PyData.depthAll (ns.map PyData.int)=0:=fun ns=>by
  induction ns with
  | nil=>rfl
  | cons n ns ih=>simp [PyData.depthAll,PyData.depth,ih]
 simp [okD,PyData.canLay0,h1,PyData.depth,h2]
theorem ahT (ns:List Int) (d:Int):(ns.map PyData.int).any (fun z=>PyData.eqv z (.int d))=ns.any (fun z=>z == d):=by
 induction ns with
 | nil=>rfl
 | cons n ns ih=>simp only [List.map_cons,List.any_cons,ih]; rfl
theorem aar {α:Type} (f:α->Bool):∀ xs:List α,bls (xs.map fun d=>PyData.bool (f d))=some (xs.map f)
 | []=>rfl
 | x::xs=>by simp [bls,asB,aar f xs]
theorem ix0 (u e l b:Int):dIx (jv u e l b) (.int 0)=some (.int u):=rfl
theorem ix2 (u e l b:Int):dIx (jv u e l b) (.int 2)=some (.int l):=rfl
theorem ix3 (u e l b:Int):dIx (jv u e l b) (.int 3)=some (.int b):=rfl
theorem acH {j:Int} (h:0<=j) (h':j<1000000):aaF [.int j]=some (JV 0 j.toNat):=by
 unfold aaF
 exact if_pos (by omega)
theorem QB (a b:Int):PyData.eqv (.int a) (.int b)=(a == b):=by unfold PyData.eqv; rfl
theorem aaV {u e l b:Int} (hu:0<=u) (hu':u<100) (hl:0<=l) (hl':l<100) (hb:0<=b) (hb':b<100):Zi [jv u e l b]=some (.bool ((List.range b.toNat).all fun d=>((qm u l).map (jR e)).any fun z=>z == (d:Int))):=by
 have h1:=Z6 (e:=e) (b:=b) hu hu' hl hl'
 have h2:=ahR hu' hl'
 have h4:few (JV 0 b.toNat)=true:=by simp [few,JV]; omega
 simp only [Zi,jH,acy,jO,jV,za,QL,itL,jS,jp,jM,lkp,aaE,List.length_cons,List.length_nil,zzM,List.map_cons,List.map_nil,List.cons_append,List.nil_append,zzA,zzC,zzD,zzE,h1,h2,abg,Q2]
 rw [Qs (fun d=> .int (jR e d))]
 ·simp only [j0,zj,op2,cst,lkp,zzD,zzE,zzF,zzG,List.replicate,List.length_cons,List.length_nil,zzA,zzB,zzC,ix3,acH hb (show b<1000000 by omega),h4,zzM]
  rw [Qs (fun d=> .bool (((qm u l).map (jR e)).any fun z=>z == (ag8 d).getD 0))]
  ·have:(JV 0 b.toNat).map (fun d=>PyData.bool (((qm u l).map (jR e)).any fun z=>z == (ag8 d).getD 0))=(List.range b.toNat).map fun (d:Nat)=>PyData.bool (((qm u l).map (jR e)).any fun z=>z == (d:Int)):=by
    simp [JV,ag8,Function.comp_def]
   simp only [zzE,zzD,this,aad,aar (fun (d:Nat)=>((qm u l).map (jR e)).any fun z=>z == (d:Int)),List.all_map,Function.comp_def,id]
  ·intro d hd
   obtain ⟨k,_,rfl⟩:=List.mem_map.mp hd
   have h5:(qm u l).map (fun d=>PyData.int (jR e d))=((qm u l).map (jR e)).map PyData.int:=by simp
   have h6:=ahS ((qm u l).map (jR e))
   simp only [op2,lkp,zzG,zzA,zzB,zzC,zzD,dIn,JQ,h5,h6,ahT]
   simp [ag8]
 ·intro d hd
  simp [jS,jp,jM,lkp,agj (b:=b) (e:=e) hu' hd]
theorem acI {u e l b:Int} (hu:0<=u) (hu':u<=3) (he:1<=e) (he':e<=16) (hl:0<=l) (hl':l<=12) (hb:2<=b) (hb':b<=16):qz [jv u e l b]=Zi [jv u e l b]:=by
 have g:=aaV (e:=e) hu (by omega) hl (by omega) (show 0<=b by omega) (by omega)
 have w1:qk [.int u,.int 0,.int 3]=some (.bool true):=by rw [qw]; simp [hu,hu']
 have w2:qk [.int e,.int 1,.int 16]=some (.bool true):=by rw [qw]; simp [he,he']
 have w3:qk [.int l,.int 0,.int 12]=some (.bool true):=by rw [qw]; simp [hl,hl']
 have w4:qk [.int b,.int 2,.int 16]=some (.bool true):=by rw [qw]; simp [hb,hb']
 have z:ae5 [jv u e l b,.tuple [.int 0,.int 1,.int 0,.int 2],.tuple [.int 3,.int 16,.int 12,.int 16]]=some [.tuple [.int u,.int 0,.int 3],.tuple [.int e,.int 1,.int 16],.tuple [.int l,.int 0,.int 12],.tuple [.int b,.int 2,.int 16]]:=rfl
 rw [g]
 rw [show jv u e l b= .tuple [.int u,.int e,.int l,.int b] from rfl] at g z ⊢
 simp [qz,jH,ZI,jO,jV,ifS,orB,zi,tst,zQ,tyn,asB,lkp,op2,jS,jp,jM,zH,cst,dNe,JQ,QB,zj,ac8,z,jI,ag0,aam,agY,j0,w1,w2,w3,w4,za,g]
theorem QC {m:PyData} (h:qz [m]=some (.bool true)):Jk [m]=some .none:=by
 simp [Jk,jH,aew,jO,jV,ifS,zi,tst,asB,jS,jp,jM,lkp,h,zj]
theorem aft:few []=true:=by simp [few]
theorem add_int (i j:Int):qA (.int i) (.int j)=some (.int (i+j)):=rfl
theorem qZ {i j:Int} (h:-1000000000000<i/\i<1000000000000):aac (.int i) (.int j)=some (.int (i*j)):=by
 unfold aac; exact if_pos (.inl ⟨by omega,by omega⟩)
theorem afu {i j:Int} (h:0<j):aiZ (.int i) (.int j)=some (.int (i % j)):=by unfold aiZ; exact if_pos h
theorem adH {i j:Int} (h:0<j) (h':j<1000000000):ae2 (.int i) (.int j)=some (.int (i / j)):=by unfold ae2; exact if_pos ⟨h,by omega⟩
theorem ahU (ns:List Int) (hn:ns.length<1000000) (k:Int) (hk:0<=k):∃ c,adC [scr ns,.int k]=some (.int c):=by
 cases ns with
 | nil=>
  refine ⟨7*k,?_⟩
  simp [adC,jH,afp,jO,jV,ifS,tst,op2,lkp,ZA,jM,few,dEq,scr,zk,asB,za,cst,qZ,zj]
 | cons n ns=>
  have hl:0<(((n::ns).map fun n=>(PyData.int n,PyData.none)).length:Int):=by simp
  have hl':(((n::ns).map fun n=>(PyData.int n,PyData.none)).length:Int)<1000000:=by simp at hn ⊢; omega
  have hsc:=abz (n::ns)
  have e1:dEq (scr (n::ns)) (.list [])=some (.bool false):=by
   show (if zk ((n::ns).map fun n=>(PyData.int n,PyData.none))=true then some (PyData.bool ((n::ns).map fun n=>(PyData.int n,PyData.none)).isEmpty) else none)=_
   rw [if_pos hsc]; rfl
  have e2:zH [scr (n::ns)]=some (.int (((n::ns).map fun n=>(PyData.int n,PyData.none)).length)):=by
   show (if zk ((n::ns).map fun n=>(PyData.int n,PyData.none))=true then some (PyData.int ((n::ns).map fun n=>(PyData.int n,PyData.none)).length) else none)=_
   rw [if_pos hsc]
  generalize hL:(((n::ns).map fun n=>(PyData.int n,PyData.none)).length:Int)=L at*
  have h0:0<=k % L:=Int.emod_nonneg _ (by omega)
  have h1:k % L<L:=Int.emod_lt_of_pos _ hl
  have e3:∃ c,dIx (scr (n::ns)) (.int (k % L))=some (.int c):=by
   have hlen:((n::ns).map fun n=>(PyData.int n,PyData.none)).length<1000000:=by omega
   have hlt:(k % L).toNat<((n::ns).map fun n=>(PyData.int n,PyData.none)).length:=by omega
   have hx:ixN ((n::ns).map fun n=>(PyData.int n,PyData.none)).length (k % L)=some (k % L).toNat:=ahQ h0 hlt
   refine ⟨((n::ns)[(k % L).toNat]'(by simpa using hlt)),?_⟩
   show (if ((n::ns).map fun n=>(PyData.int n,PyData.none)).length<1000000/\zk ((n::ns).map fun n=>(PyData.int n,PyData.none))=true then (atI ((n::ns).map fun n=>(PyData.int n,PyData.none)) (k % L)).map (·.1) else none)=_
   rw [if_pos ⟨hlen,hsc⟩]
   unfold atI
   rw [hx,zzD,List.getElem?_eq_getElem hlt,zzE,List.getElem_map]
  obtain ⟨c,e3⟩:=e3
  refine ⟨c+6553*(k / L),?_⟩
  simp [adC,jH,afp,jO,jV,ifS,tst,op2,lkp,ZA,jM,few,asB,za,cst,zj,jS,jp,e1,e2,e3,afu hl,adH hl (show L<1000000000 by omega),qZ,add_int]
theorem qL (ns:List Int) (hn:ns.length<1000000) (k m:Int) (hk:0<=k) (hm:0<m):∃ r,JO [scr ns,.int k,.int m]=some (.int r)/\0<=r/\r<m:=by
 obtain ⟨c,hc⟩:=ahU ns hn k hk
 generalize h1:(c % 2147483563*69069+104723*(k+1)) % 2147483563=a
 generalize h2:(a*a+a / 3) % 2147483399=d
 have ha:0<=a/\a<2147483563:=by rw [←h1]; exact ⟨Int.emod_nonneg _ (by omega),Int.emod_lt_of_pos _ (by omega)⟩
 have hd:0<=d/\d<2147483399:=by rw [←h2]; exact ⟨Int.emod_nonneg _ (by omega),Int.emod_lt_of_pos _ (by omega)⟩
 have hc':0<=c % 2147483563/\c % 2147483563<2147483563:=⟨Int.emod_nonneg _ (by omega),Int.emod_lt_of_pos _ (by omega)⟩
 refine ⟨(d*d+d / 7) % 2147483647 / 11 % m,?_,Int.emod_nonneg _ (by omega),Int.emod_lt_of_pos _ hm⟩
 have m1:aac (.int (c % 2147483563)) (.int 69069)=some (.int (c % 2147483563*69069)):=qZ (by omega)
 have m2:aac (.int 104723) (.int (k+1))=some (.int (104723*(k+1))):=qZ (by omega)
 have m3:aac (.int a) (.int a)=some (.int (a*a)):=qZ (by omega)
 have m4:aac (.int d) (.int d)=some (.int (d*d)):=qZ (by omega)
 simp [JO,jH,aex,jO,jV,Q2,j0,op2,lkp,jM,za,cst,zj,jS,jp,hc,m1,m2,m3,m4,afu,adH,add_int,h1,h2,hm]
theorem ahV (w:Int) (h0:0<=w) (h:w<12):∃ u e l b,dIx (.list (ZL++ZM)) (.int w)=some (jv u e l b)/\okM u e l b=true:=by
 obtain ⟨n,rfl⟩:=Int.eq_ofNat_of_zero_le h0
 have hn:n<12:=by omega
 have:∀ n<12,∃ u e l b,dIx (.list (ZL++ZM)) (.int (n:Nat))=some (jv u e l b)/\okM u e l b=true:=by
  intro n hn
  match n,hn with
  | 0,_=>exact ⟨_,_,_,_,rfl,by decide⟩
  | 1,_=>exact ⟨_,_,_,_,rfl,by decide⟩
  | 2,_=>exact ⟨_,_,_,_,rfl,by decide⟩
  | 3,_=>exact ⟨_,_,_,_,rfl,by decide⟩
  | 4,_=>exact ⟨_,_,_,_,rfl,by decide⟩
  | 5,_=>exact ⟨_,_,_,_,rfl,by decide⟩
  | 6,_=>exact ⟨_,_,_,_,rfl,by decide⟩
  | 7,_=>exact ⟨_,_,_,_,rfl,by decide⟩
  | 8,_=>exact ⟨_,_,_,_,rfl,by decide⟩
  | 9,_=>exact ⟨_,_,_,_,rfl,by decide⟩
  | 10,_=>exact ⟨_,_,_,_,rfl,by decide⟩
  | 11,_=>exact ⟨_,_,_,_,rfl,by decide⟩
  | k+12,h=>omega
 exact this n hn
theorem aeB (ns:List Int) (hn:ns.length<1000000) (k:Int) (hk:0<=k):∃ u e l b,QA [scr ns,.int k]=some (jv u e l b)/\okM u e l b=true:=by
 obtain ⟨w,hw,hw0,hw1⟩:=qL ns hn k 24 hk (by omega)
 have a1:qA (.list ZL) (.list ZM)=some (.list (ZL++ZM)):=rfl
 have a2:zH [.list (ZL++ZM)]=some (.int 12):=rfl
 have a3:aac (.int 2) (.int 12)=some (.int 24):=rfl
 by_cases hlt:w<12
 ·obtain ⟨u,e,l,b,h1,h2⟩:=ahV w hw0 hlt
  refine ⟨u,e,l,b,?_,h2⟩
  simp [QA,jH,aaq,jO,jV,Q2,j0,op2,lkp,jM,za,cst,zj,jS,jp,ifS,tst,asB,a1,a2,a3,hw,Jh,hlt,h1]
 ·obtain ⟨r1,e1,p1,q1⟩:=qL ns hn (k+1) 5 (by omega) (by omega)
  obtain ⟨r2,e2,p2,q2⟩:=qL ns hn (k+2) 4 (by omega) (by omega)
  obtain ⟨r3,e3,p3,q3⟩:=qL ns hn (k+3) 4 (by omega) (by omega)
  generalize hlo:(if (1:Int) > 1+r1 - 1 then 1 else 1+r1 - 1)+r3=lo
  have hlo1:1<=lo/\r1<=lo/\lo<=10:=by
   rw [←hlo]; split <;> omega
  have hue:0<=r2*(1+r1)/\r2*(1+r1)<=3*5:=⟨Int.mul_nonneg p2 (by omega),Int.mul_le_mul (by omega) (by omega) (by omega) (by omega)⟩
  generalize hmn:(if r2*(1+r1)+lo<15 then r2*(1+r1)+lo else 15)=mn
  have hmn1:0<mn/\mn<=15/\mn<=r2*(1+r1)+lo:=by
   rw [←hmn]; split <;> omega
  obtain ⟨r4,e4,p4,q4⟩:=qL ns hn (k+4) mn (by omega) (by omega)
  refine ⟨r2,1+r1,lo,2+r4,?_,?_⟩
  ·have m1:aac (.int r2) (.int (1+r1))=some (.int (r2*(1+r1))):=qZ (by omega)
   have x1:ag6 [.int (1+r1 - 1),.int 1]=some (.int (if (1:Int) > 1+r1 - 1 then 1 else 1+r1 - 1)):=rfl
   have x2:ag7 [.int 15,.int (r2*(1+r1)+lo)]=some (.int (if r2*(1+r1)+lo<15 then r2*(1+r1)+lo else 15)):=rfl
   have x3:ag2 (.int (1+r1)) (.int 1)=some (.int (1+r1 - 1)):=rfl
   simp only [QA,jH,aaq,jO,jV,Q2,j0,op2,lkp,jM,za,cst,zj,jS,jp,ifS,tst,asB,a1,a2,a3,hw,Jh,hlt,zzD,zzE,zzF,zzG,List.replicate,List.length_cons,List.length_nil,zzM,List.map_cons,List.map_nil,List.cons_append,List.nil_append,zzA,zzB,zzC,add_int,e1,e2,e3,m1,x1,x2,x3,decide_false,hlo,hmn,e4]
   simp [e1,e2,e3,m1,x1,x2,x3,hlo,hmn,e4,add_int,lkp,aaC,jp,jM,few,jv]
   simp only [aaC,jp,jM,lkp,op2,jS,cst,zzD,zzE,zzA,zzB,zzC,add_int,m1,x2,hmn,e4]
   simp
  ·have:=hue.1
   simp [okM]
   omega
noncomputable def isInt (t:Int):PyData->Bool
 | .int x=>x == t
 | _=>false
noncomputable def ak8 (u e l:Int):Bool:=
 isInt (u*e+l) (akO none ((qm u l).map (jR e))) &&
 ((List.range (u*e+l+1).toNat).all fun n=>(qm u l).any fun r=>jR e r == (n:Int)) &&
 ((qm u l).all fun r=>decide (0<=jR e r) && decide (jR e r<=u*e+l)) &&
 decide (amr u e l=(List.range (u*e+l+1).toNat).map fun (n:Nat)=>cnt u e l n)
noncomputable def QI:Bool:=(List.range 4).all fun (i:Nat)=>(List.range 5).all fun (j:Nat)=>(List.range 11).all fun (k:Nat)=>decide (k+1<j) || ak8 i (j+1) (k+1)
structure Chk (u e l:Int):Prop where
 most:akO none ((qm u l).map (jR e))= .int (u*e+l)
 dig:∀ n:Nat,n<(u*e+l+1).toNat->((qm u l).any fun r=>jR e r == (n:Int))=true
 rng:∀ r ∈ qm u l,0<=jR e r/\jR e r<=u*e+l
 lst:amr u e l=(List.range (u*e+l+1).toNat).map fun (n:Nat)=>cnt u e l n
theorem ak9 {u e l:Int} (h:ak8 u e l=true):Chk u e l:=by
 simp only [ak8,Bool.and_eq_true,List.all_eq_true,decide_eq_true_eq] at h
 obtain ⟨⟨⟨h1,h2⟩,h3⟩,h4⟩:=h
 refine ⟨?_,fun n hn=>h2 n (List.mem_range.mpr hn),fun r hr=>h3 r hr,h4⟩
 generalize akO none ((qm u l).map (jR e))=x at h1
 cases x <;> simp [isInt] at h1
 rw [h1]
theorem zh {u e l b:Int} (h:okN u e l b=true):0<=u/\u<=3/\1<=e/\e<=5/\e - 1<=l/\1<=l/\l<=11/\2<=b/\b<=16/\b<=u*e+l+1:=by
 simp only [okN,Bool.and_eq_true,decide_eq_true_eq] at h
 omega
theorem ala {u e l b:Int} (H:QI=true) (h:okN u e l b=true):Chk u e l:=by
 obtain ⟨a1,a2,a3,a4,a5,a6,a7,_⟩:=zh h
 simp only [QI,List.all_eq_true,Bool.or_eq_true,decide_eq_true_eq] at H
 have:=H u.toNat (List.mem_range.mpr (by omega)) (e - 1).toNat (List.mem_range.mpr (by omega)) (l - 1).toNat (List.mem_range.mpr (by omega))
 rcases this with z | z
 ·exfalso; omega
 ·rw [show ((u.toNat:Nat):Int)=u by omega,show (((e - 1).toNat:Nat):Int)+1=e by omega,show (((l - 1).toNat:Nat):Int)+1=l by omega] at z
  exact ak9 z
theorem ajy {u e l b:Int} (h:okM u e l b=true):okN u e l b=true:=by
 simp only [okM,okN,Bool.and_eq_true,decide_eq_true_eq] at h ⊢
 omega
theorem alb {u e l b:Int} (H:QI=true) (h:okN u e l b=true) {n:Int} (h0:0<=n) (hn:n<b):((qm u l).any fun r=>jR e r == n)=true:=by
 obtain ⟨a1,a2,a3,a4,a5,a6,a7,a8,a9,a10⟩:=zh h
 have:=(ala H h).dig n.toNat (by omega)
 rw [show ((n.toNat:Nat):Int)=n by omega] at this
 exact this
end Rods
theorem Rods.allN_true:Rods.QI=true:=by decide +kernel
namespace Rods
open PySem L2 BX
open PyProof.Rows hiding St
theorem ju {F G:RO}{ρ ρ1:Rho} (h:F ρ=some (.nx ρ1)):jV F G ρ=G ρ1:=by
 unfold jV
 rw [h]
 rfl
theorem qC {N:List Str}{n:Nat}{B:RO}{ds:LP}{d:PyData} (hl:ds.length=n) (h:B (jO N ds)=some (.rt d)):jH N n B ds=some d:=by
 unfold jH
 rw [if_pos hl,h]
section
variable {u e l b:Int}
theorem zr {u l:Int}{p:Int × Int} (h:okP u l p=true):0<=p.1/\p.1<=u/\0<=p.2/\p.2<=l:=by
 simp only [okP,Bool.and_eq_true,decide_eq_true_eq] at h
 exact ⟨h.1.1.1,h.1.1.2,h.1.2,h.2⟩
end
theorem qh {ds:LP} (h:ds.length<10000):few ds=true:=by
 rw [few]
 refine decide_eq_true ?_
 omega
theorem ahW {u e l b:Int} (H:QI=true) (h:okN u e l b=true):qz [jv u e l b]=some (.bool true):=by
 obtain ⟨a1,a2,a3,a4,a5,a6,a7,a8,a9,a10⟩:=zh h
 rw [acI a1 a2 a3 (by omega) (by omega) (by omega) a8 a9,aaV a1 (by omega) (by omega) (by omega) (by omega) (by omega)]
 congr 2
 refine List.all_eq_true.mpr fun d hd=>?_
 have:=alb H h (n:=(d:Int)) (by omega) (by have:=List.mem_range.mp hd; omega)
 simpa [List.any_map,Function.comp_def] using this
theorem abP {u l:Int}{ps:List (Int × Int)} (h:okS u l ps=true):1<=ps.length/\ps.length<=4/\ps.all (okP u l)=true:=by
 simp only [okS,Bool.and_eq_true,decide_eq_true_eq] at h
 exact ⟨h.1.1,h.1.2,h.2⟩
theorem ahX {u l:Int}{ps:List (Int × Int)} (h1:1<=ps.length) (h2:ps.length<=4) (h3:ps.all (okP u l)=true):okS u l ps=true:=by
 simp only [okS,Bool.and_eq_true,decide_eq_true_eq]
 exact ⟨⟨h1,h2⟩,h3⟩
section
variable {u e l b:Int}{ps qs:List (Int × Int)}
theorem agk {p:Int × Int} (hp:okP u l p=true):JM [jv u e l b,pr p]=some (.bool true):=by
 obtain ⟨q1,q2,q3,q4⟩:=zr hp
 have w1:qk [.int p.1,.int 0,.int u]=some (.bool true):=by rw [qw]; simp [q1,q2]
 have w2:qk [.int p.2,.int 0,.int l]=some (.bool true):=by rw [qw]; simp [q3,q4]
 simp [JM,jH,ZJ,jO,jV,ifS,orB,zi,tst,zQ,tyn,asB,lkp,op2,jS,jp,jM,zH,cst,dNe,JQ,QB,zj,za,aej,pr,jv,dIx,atI,ixN,w1,w2]
theorem agl (H:QI=true) (h:okN u e l b=true) (hs:okS u l ps=true):JN [jv u e l b,jQ ps]=some (.bool true):=by
 obtain ⟨h1,h4,hp⟩:=abP hs
 have g0:=QC (ahW H h)
 have hf:few (ps.map pr)=true:=qh (by rw [List.length_map]; omega)
 have c1:Jh (fun i j=>decide (i<=j)) (.int 1) (.int ((ps.map pr).length:Int))=some (.bool true):=by
  show some (PyData.bool (decide ((1:Int)<=((ps.map pr).length:Int))))=_
  rw [decide_eq_true (by rw [List.length_map]; omega)]
 have c2:Jh (fun i j=>decide (i<=j)) (.int ((ps.map pr).length:Int)) (.int 4)=some (.bool true):=by
  show some (PyData.bool (decide (((ps.map pr).length:Int)<=4)))=_
  rw [decide_eq_true (by rw [List.length_map]; omega)]
 refine qC rfl ?_
 show ZK.1 [some (jv u e l b),some (jQ ps)]=_
 simp only [ZK]
 refine (ju (ρ1:=[some (jv u e l b),some (jQ ps)]) ?_).trans ?_
 ·simp only [aab,jS,jp,jM,lkp,zzA,zzB,zzC,zzD,zzE,g0]
 refine (ju (ρ1:=[some (jv u e l b),some (jQ ps)]) ?_).trans ?_
 ·simp [ifS,orB,zi,tst,zQ,tyn,asB,lkp,jQ,chn,jS,jp,jM,zH,cst,zj]
  simp [List.length_map] at c1 c2
  simp [c1,c2]
  rfl
 simp only [jV,za,jS,jp,jM,QL,itT,lkp,jQ,ZC,zzA,zzB,zzC,zzD,zzE,hf,zzM,abg,List.map_cons,List.map_nil,zzH]
 rw [Qs (fun _=> .bool true)]
 ·have:bls ((ps.map pr).map fun _=>PyData.bool true)=some ((ps.map pr).map fun _=>true):=aar (fun _=>true) _
  simp only [zzE,zzD,aad,this]
  simp
 ·intro d hd
  obtain ⟨p,hp',rfl⟩:=List.mem_map.mp hd
  simp [jS,jp,jM,lkp,agk (e:=e) (b:=b) (List.all_eq_true.mp hp p hp')]
theorem ahY (H:QI=true) (h:okN u e l b=true) (hs:okS u l ps=true):Zk [jv u e l b,jQ ps]=some .none:=by
 have g:=agl H h hs
 simp [Zk,jH,acA,jO,jV,ifS,zi,tst,asB,jS,jp,jM,lkp,g,zj]
theorem alc (p q:Int × Int):PyData.eqv (pr p) (pr q)=decide (p=q):=by
 obtain ⟨a,b⟩:=p
 obtain ⟨c,d⟩:=q
 simp only [pr,PyData.eqv,PyData.eqvAll,Prod.mk.injEq,Bool.and_true,Bool.decide_and]
 rfl
theorem abQ:∀ (ps qs:List (Int × Int)),PyData.eqvAll (ps.map pr) (qs.map pr)=decide (ps=qs)
 | [],[]=>by simp [PyData.eqvAll]
 | [],q::qs=>by simp [PyData.eqvAll]
 | p::ps,[]=>by simp [PyData.eqvAll]
 | p::ps,q::qs=>by simp [PyData.eqvAll,alc,abQ ps qs]
theorem adI (ps qs:List (Int × Int)):PyData.eqv (jQ ps) (jQ qs)=decide (ps=qs):=by
 unfold jQ PyData.eqv
 exact abQ ps qs
theorem Zn (ps:List (Int × Int)):okD (jQ ps)=true:=by
 have h1:∀ ps:List (Int × Int),PyData.canLayAll0 (ps.map pr)=true:=fun ps=>by
  induction ps with
  | nil=>rfl
  | cons p ps ih=>simp [PyData.canLayAll0,PyData.canLay0,pr,ih]
 have h2:∀ ps:List (Int × Int),PyData.depthAll (ps.map pr)<=1:=fun ps=>by
  induction ps with
  | nil=>simp [PyData.depthAll]
  | cons p ps ih=>simp [PyData.depthAll,PyData.depth,pr] at ih ⊢; omega
 have:=h2 ps
 simp [okD,jQ,PyData.canLay0,h1,PyData.depth]
 omega
theorem ajz (ps qs:List (Int × Int)):dEq (jQ ps) (jQ qs)=some (.bool (decide (ps=qs))):=by
 show (if okD _=true/\okD _=true then some (PyData.bool _) else none)=_
 rw [if_pos ⟨Zn ps,Zn qs⟩,adI]
theorem ajA (ps qs:List (Int × Int)):dNe (jQ ps) (jQ qs)=some (.bool (!decide (ps=qs))):=by
 unfold dNe
 rw [if_pos ⟨Zn ps,Zn qs⟩,adI]
end
end Rods
namespace BX
open PySem PySem.Spec L2
open PyProof.Rows hiding St
theorem adJ {ga:PyData->Rho->Option Rho}{F:RO} (Iv:Nat->Rho->Prop):∀ (ds:LP) (i:Nat) (ρ:Rho),Iv i ρ->
  (∀ j d ρ,ds[j]?=some d->Iv (i+j) ρ->∃ ρ1 ρ2,ga d ρ=some ρ1/\F ρ1=some (.nx ρ2)/\Iv (i+j+1) ρ2)->∃ ρ',jI ga F ds ρ=some (.nx ρ')/\Iv (i+ds.length) ρ'
 | [],i,ρ,h,_=>⟨ρ,rfl,h⟩
 | d::ds,i,ρ,h,hs=>by
  obtain ⟨ρ1,ρ2,h1,h2,h3⟩:=hs 0 d ρ rfl h
  obtain ⟨ρ',h4,h5⟩:=adJ Iv ds (i+1) ρ2 h3 fun j d ρ hd hi=>by
   have:=hs (j+1) d ρ (by simpa using hd) (by rw [show i+(j+1)=i+1+j by omega]; exact hi)
   rw [show i+1+j+1=i+(j+1)+1 by omega]; exact this
  refine ⟨ρ',?_,by rw [List.length_cons,show i+(ds.length+1)=i+1+ds.length by omega]; exact h5⟩
  simp [jI,h1,h2,h4]
theorem ahZ {n j:Nat}{d:PyData} (h:(JV 0 n)[j]?=some d):j<n/\d= .int j:=by
 simp only [JV,List.getElem?_map] at h
 cases hj:(List.range n)[j]? with
 | none=>rw [hj] at h; cases h
 | some k=>
  rw [hj] at h
  obtain ⟨h1,h2⟩:=List.getElem?_eq_some_iff.mp hj
  simp at h1 h2
  subst h2
  simp at h
  exact ⟨h1,h.symm⟩
theorem ah0 (n:Nat):(JV 0 n).length=n:=by simp [JV]
end BX
namespace Rods
open PySem L2 BX
open PyProof.Rows hiding St
section
variable {u e l b:Int}
theorem ald {n:Nat} (hn:n<=1000):aaF [.int (n:Int)]=some (JV 0 n):=by
 have:=acH (j:=(n:Int)) (by omega) (by omega)
 rw [show ((n:Int)).toNat=n by omega] at this
 exact this
end
section
variable {u e l b:Int}{ps qs:List (Int × Int)}
theorem ajB {xs ys:LP} (hx:xs ≠ [] ∨ True) (hl:xs.length+ys.length<10000):qA (.tuple xs) (.tuple ys)=some (.tuple (xs++ys)):=by
 cases xs with
 | nil=>rfl
 | cons x xs=>
  have hf:few ((x::xs)++ys)=true:=qh (by rw [List.length_append]; exact hl)
  show (if few ((x::xs)++ys)=true then some (PyData.tuple ((x::xs)++ys)) else none)=_
  rw [if_pos hf]
theorem ale {ns:List Int} (hn:ns.length<1000000) (h:okN u e l b=true) {at_:Int} (ha:0<=at_) {j:Nat} (hj:j<4) {x3 x4 x7:OP} (hq:qs.length<=4):
  ∃ p,okP u l p=true/\acD.1 [some (scr ns),some (.int at_),some (jv u e l b),x3,x4,some (jQ qs),some (.int (j:Int)),x7]=some (.nx [some (scr ns),some (.int at_),some (jv u e l b),x3,x4,some (jQ (qs++[p])),some (.int (j:Int)),some (pr p)]):=by
 obtain ⟨a1,a2,a3,a4,a5,a6,a7,a8,a9,a10⟩:=zh h
 obtain ⟨x,d1,x0,x1⟩:=qL ns hn (at_+1+2*(j:Int)) (u+1) (by omega) (by omega)
 obtain ⟨y,d2,y0,y1⟩:=qL ns hn (at_+2+2*(j:Int)) (l+1) (by omega) (by omega)
 have m1:aac (.int 2) (.int (j:Int))=some (.int (2*(j:Int))):=qZ ⟨by omega,by omega⟩
 have f2:few [PyData.int x,.int y]=true:=qh (by simp)
 have f1:few [PyData.tuple [.int x,.int y]]=true:=qh (by simp)
 have ad:qA (jQ qs) (.tuple [.tuple [.int x,.int y]])=some (jQ (qs++[(x,y)])):=by
  have:=ajB (xs:=qs.map pr) (ys:=[pr (x,y)]) (.inr trivial) (by simp; omega)
  rw [show jQ (qs++[(x,y)])= .tuple (qs.map pr++[pr (x,y)]) by simp [jQ]]
  exact this
 generalize scr ns=S at*
 refine ⟨(x,y),?_,?_⟩
 ·simp only [okP,Bool.and_eq_true,decide_eq_true_eq]
  exact ⟨⟨⟨x0,by omega⟩,y0⟩,by omega⟩
 ·simp only [acD]
  refine (ju (ρ1:=[some S,some (.int at_),some (jv u e l b),x3,x4,some (jQ qs),some (.int (j:Int)),some (.tuple [.int x,.int y])]) ?_).trans ?_
  ·simp only [Q2,aaC,jS,jp,jM,op2,lkp,cst,j0,zzA,zzB,zzC,zzD,zzE,ix0,ix2,m1,add_int,d1,d2,f2,zzM,zzF,zzG]
  simp only [jV,Q2,aaC,jp,jM,op2,lkp,j0,zzA,zzB,zzC,zzD,zzE,f1,zzM,ad,zzF,zzG,zj]
  rfl
theorem ah1 (i j:Int):dNe (.int i) (.int j)=some (.bool (!decide (i=j))):=by
 have:(i == j)=decide (i=j):=rfl
 simp only [dNe,JQ,QB,and_self,zzM,this]
end
structure XIsSet (P:Program) (w:World) (K:Fg) (mg:SV) (base:Heap):Prop where
 x_check:abk P w K mg base "check_manner" ["thing"] 4 1 ZO
noncomputable def aeC:{ F:Rho->Option Str // adD XIsSet "is_setting" zp ["manner","thing"] 4 F }:=
 ⟨_,fun P w K mg base f Kc A Ko s H E C hr=>
  (j5 (aaL (Qb rfl C.x_check hr (by decide) (jb (ja 0) je) (jc jq))))⟩
noncomputable def ah2:LP->Option Str:=QO ["manner","thing"] 2 aeC.1
structure XChkSet (P:Program) (w:World) (K:Fg) (mg:SV) (base:Heap):Prop where
 c_isSet:jt P w K mg base "is_setting" ["manner","thing"] 5 2 JN
 x_isSet:abk P w K mg base "is_setting" ["manner","thing"] 5 2 ah2
 e_NoSetting:af6 K mg "NoSetting"
noncomputable def acJ:{ F:Rho->Option Str // adD XChkSet "check_setting" qQ ["manner","thing"] 5 F }:=
 ⟨_,fun P w K mg base f Kc A Ko s H E C hr=>
  (j5 (akY (aji (ajh (ajg (Qb rfl C.x_isSet hr (by decide) (jb (ja 0) (jb (ja 1) je)) (jc (jc jq)))))) (acs (qg (j2 (jo C.c_isSet hr (by decide) (jb (ja 0) (jb (ja 1) je)) (jc (jc jq))))) (j5 (Qv rfl C.e_NoSetting rfl)) JH)))⟩
noncomputable def afv:LP->Option Str:=QO ["manner","thing"] 2 acJ.1
section
variable {u e l b:Int}{ps qs:List (Int × Int)}
theorem Zo {N:List Str}{n:Nat}{F:Rho->Option Str}{ds:LP} (hl:ds.length=n):QO N n F ds=F (jO N ds):=by
 unfold QO
 rw [if_pos hl]
end
section
variable {u e l b:Int}{ps qs:List (Int × Int)}
theorem ajC {ns:List Int} (hn:ns.length<1000000) (h:okN u e l b=true) {at_:Int} (ha:0<=at_):∃ ps,ajw [scr ns,.int at_,jv u e l b,.int 4]=some (jQ ps)/\okS u l ps=true:=by
 obtain ⟨r,d0,r0,r1⟩:=qL ns hn at_ 4 ha (by omega)
 have hr:aaF [.int (1+r)]=some (JV 0 (1+r).toNat):=acH (by omega) (by omega)
 obtain ⟨ρ',hl,hI⟩:=adJ (ga:=j0 6) (F:=acD.1) (fun i ρ=>∃ qs x6 x7,ρ=[some (scr ns),some (.int at_),some (jv u e l b),some (.int 4),some (.int (1+r)),some (jQ qs),x6,x7]/\qs.length=i/\qs.all (okP u l)=true) (JV 0 (1+r).toNat) 0
  [some (scr ns),some (.int at_),some (jv u e l b),some (.int 4),some (.int (1+r)),some (jQ []),none,none] ⟨[],none,none,rfl,rfl,rfl⟩ (fun j d ρ hd hi=>by
   obtain ⟨hj,rfl⟩:=ahZ hd
   obtain ⟨qs,x6,x7,rfl,hlen,hall⟩:=hi
   obtain ⟨p,hp,hb⟩:=ale hn h ha (j:=j) (by omega) (x3:=some (.int 4)) (x4:=some (.int (1+r))) (x7:=x7) (qs:=qs) (by omega)
   exact ⟨_,_,rfl,hb,qs++[p],_,_,rfl,by rw [List.length_append,hlen]; rfl,by rw [List.all_append,hall,List.all_cons,hp]; rfl⟩)
 obtain ⟨qs,x6,x7,rfl,hlen,hall⟩:=hI
 rw [ah0,Nat.zero_add] at hlen
 refine ⟨qs,qC rfl ?_,ahX (by omega) (by omega) hall⟩
 generalize scr ns=S at*
 show ajv.1 [some S,some (.int at_),some (jv u e l b),some (.int 4),none,none,none,none]=_
 simp only [ajv]
 refine (ju (ρ1:=[some S,some (.int at_),some (jv u e l b),some (.int 4),some (.int (1+r)),none,none,none]) ?_).trans ?_
 ·simp only [Q2,jS,jp,jM,op2,lkp,cst,j0,zzA,zzB,zzC,zzD,zzE,d0,add_int,zzF,zzG]
 refine (ju (ρ1:=[some S,some (.int at_),some (jv u e l b),some (.int 4),some (.int (1+r)),some (jQ []),none,none]) rfl).trans ?_
 refine (ju (ρ1:=[some S,some (.int at_),some (jv u e l b),some (.int 4),some (.int (1+r)),some (jQ qs),x6,x7]) ?_).trans ?_
 ·show (Option.bind (Option.bind _ aaF) _)=_
  simp only [jp,jM,lkp,zzA,zzB,zzC,zzD,zzE,hr]
  exact hl
 rfl
end
noncomputable def whB (a b:Int):PyData->Bool
 | .int i=>decide (a<=i) && decide (i<=b)
 | _=>false
theorem Z7 (d:PyData) (hd:noD d=true) (a b:Int):qk [d,.int a,.int b]=some (.bool (whB a b d)):=by
 cases d with
 | int i=>exact qw i a b
 | dict k=>simp [noD] at hd
 | _=>simp [qk,jH,Zh,jO,jV,ifS,orB,tst,lkp,zQ,tyn,asB,zi,chn,Jh,za,zj,whB,cst]
noncomputable def abl (u l:Int):PyData->Bool
 | .tuple [x,y]=>whB 0 u x && whB 0 l y
 | _=>false
theorem ah3 {ds:LP} (h:noDs ds=true):∀ d ∈ ds,noD d=true:=by
 induction ds with
 | nil=>intro d hd; cases hd
 | cons x xs ih=>
  have h':noD x=true/\noDs xs=true:=by simpa [noDs] using h
  intro d hd
  rcases List.mem_cons.mp hd with rfl | q
  ·exact h'.1
  ·exact ih h'.2 d q
section
variable {u e l b:Int}
theorem agm (d:PyData) (hd:noD d=true) (h:∀ x y,d ≠ .tuple [x,y]):JM [jv u e l b,d]=some (.bool false):=by
 cases d with
 | dict k=>simp [noD] at hd
 | tuple ds=>
  have hl:¬ (ds.length:Int)=2:=fun z=>by
   have z':ds.length=2:=by omega
   match ds,z' with
   | [x,y],_=>exact h x y rfl
  simp [JM,jH,ZJ,jO,jV,ifS,orB,zi,tst,zQ,tyn,asB,lkp,op2,jS,jp,jM,zH,cst,dNe,JQ,QB,zj,za,hl]
 | _=>simp [JM,jH,ZJ,jO,jV,ifS,orB,zi,tst,zQ,tyn,asB,lkp,op2,jS,jp,jM,zH,cst,dNe,JQ,QB,zj,za]
theorem agn (d:PyData) (hd:noD d=true):JM [jv u e l b,d]=some (.bool (abl u l d)):=by
 by_cases h:∃ x y,d= .tuple [x,y]
 ·obtain ⟨x,y,rfl⟩:=h
  have hx:noD x=true/\noD y=true:=by simpa [noD,noDs] using hd
  have w1:=Z7 x hx.1 0 u
  have w2:=Z7 y hx.2 0 l
  cases c1:whB 0 u x <;> rw [c1] at w1 <;> simp [JM,jH,ZJ,jO,jV,ifS,orB,zi,tst,zQ,tyn,asB,lkp,op2,jS,jp,jM,zH,cst,dNe,JQ,QB,zj,za,aej,jv,dIx,atI,ixN,w1,w2,abl,c1]
 ·rw [agm d hd fun x y z=>h ⟨x,y,z⟩]
  congr 2
  unfold abl
  split
  ·exact absurd ⟨_,_,rfl⟩ h
  ·rfl
noncomputable def adK (u l:Int):PyData->Bool
 | .tuple ds=>decide (1<=ds.length) && decide (ds.length<=4) && ds.all (abl u l)
 | _=>false
theorem abR (hm:Jk [jv u e l b]=some .none) (d:PyData) (hd:noD d=true):JN [jv u e l b,d]=some (.bool (adK u l d)):=by
 refine qC rfl ?_
 show ZK.1 [some (jv u e l b),some d]=_
 simp only [ZK]
 refine (ju (ρ1:=[some (jv u e l b),some d]) ?_).trans ?_
 ·simp only [aab,jS,jp,jM,lkp,zzA,zzB,zzC,zzD,zzE,hm]
 cases d with
 | dict k=>simp [noD] at hd
 | tuple ds=>
  by_cases h1:1<=ds.length
  ·by_cases h4:ds.length<=4
   ·have hf:few ds=true:=qh (by omega)
    have c1:Jh (fun i j=>decide (i<=j)) (.int 1) (.int (ds.length:Int))=some (.bool true):=by
     show some (PyData.bool (decide ((1:Int)<=(ds.length:Int))))=_
     rw [decide_eq_true (by omega)]
    have c2:Jh (fun i j=>decide (i<=j)) (.int (ds.length:Int)) (.int 4)=some (.bool true):=by
     show some (PyData.bool (decide ((ds.length:Int)<=4)))=_
     rw [decide_eq_true (by omega)]
    refine (ju (ρ1:=[some (jv u e l b),some (.tuple ds)]) ?_).trans ?_
    ·simp [ifS,orB,zi,tst,zQ,tyn,asB,lkp,chn,jS,jp,jM,zH,cst,zj,c1,c2]
    simp only [jV,za,jS,jp,jM,QL,itT,lkp,ZC,zzA,zzB,zzC,zzD,zzE,hf,zzM,abg,List.map_cons,List.map_nil,zzH]
    rw [Qs (fun d=> .bool (abl u l d))]
    ·have:bls (ds.map fun d=>PyData.bool (abl u l d))=some (ds.map (abl u l)):=aar (abl u l) _
     simp only [zzE,zzD,aad,this,adK,decide_eq_true h1,decide_eq_true h4,Bool.true_and,List.all_map,Function.comp_def,id]
    ·intro d hd'
     simp [jS,jp,jM,lkp,agn (e:=e) (b:=b) d (ah3 (by simpa [noD] using hd) d hd')]
   ·have c1:Jh (fun i j=>decide (i<=j)) (.int 1) (.int (ds.length:Int))=some (.bool true):=by
     show some (PyData.bool (decide ((1:Int)<=(ds.length:Int))))=_
     rw [decide_eq_true (by omega)]
    have c2:Jh (fun i j=>decide (i<=j)) (.int (ds.length:Int)) (.int 4)=some (.bool false):=by
     show some (PyData.bool (decide ((ds.length:Int)<=4)))=_
     rw [decide_eq_false (by omega)]
    simp [jV,ifS,orB,zi,tst,zQ,tyn,asB,lkp,chn,jS,jp,jM,zH,cst,zj,c1,c2,za,adK,h4]
  ·have c1:Jh (fun i j=>decide (i<=j)) (.int 1) (.int (ds.length:Int))=some (.bool false):=by
    show some (PyData.bool (decide ((1:Int)<=(ds.length:Int))))=_
    rw [decide_eq_false (by omega)]
   simp [jV,ifS,orB,zi,tst,zQ,tyn,asB,lkp,chn,jS,jp,jM,zH,cst,zj,c1,za,adK,h1]
 | _=>simp [jV,ifS,orB,zi,tst,zQ,tyn,asB,lkp,chn,jS,jp,jM,cst,zj,za,adK]
end
theorem abS {d:PyData} (h:qz [d]=some (.bool true)):ZO [d]=none:=by
 refine (Zo rfl).trans ?_
 show acE.1 [some d]=_
 simp [acE,ifX,zi,tst,asB,jS,jp,jM,lkp,h,akT]
theorem ago {m d:PyData} (h:qz [m]=some (.bool true)):ah2 [m,d]=none:=by
 have g:=abS h
 refine (Zo rfl).trans ?_
 show aeC.1 [some m,some d]=_
 simp [aeC,jS,jp,jM,lkp,g]
theorem aeD {u e l b:Int} (hM:qz [jv u e l b]=some (.bool true)) {d:PyData} (hd:noD d=true) (hs:adK u l d=true):afv [jv u e l b,d]=none:=by
 have g:=abR (e:=e) (QC hM) d hd
 rw [hs] at g
 have g2:=ago (d:=d) hM
 refine (Zo rfl).trans ?_
 show acJ.1 [some (jv u e l b),some d]=_
 simp [acJ,orX,ifX,zi,tst,asB,jS,jp,jM,lkp,g,g2,akT]
theorem ajD {u l:Int} (p:Int × Int):abl u l (pr p)=okP u l p:=by
 simp [abl,pr,whB,okP,Bool.and_assoc]
theorem abT {u l:Int} (ps:List (Int × Int)):adK u l (jQ ps)=okS u l ps:=by
 simp only [adK,jQ,okS,List.length_map,List.all_map]
 congr 2
 funext p
 exact ajD p
theorem afw:∀ ps:List (Int × Int),noDs (ps.map pr)=true
 | []=>rfl
 | p::ps=>by simp [noDs,noD,pr,afw ps]
theorem adL (ps:List (Int × Int)):noD (jQ ps)=true:=by
 simp [noD,jQ,afw]
theorem QD {N:List Str}{n:Nat}{F:Rho->Option Str}{ds:LP}{c:Option Str} (hl:ds.length=n) (h:F (jO N ds)=c):QO N n F ds=c:=(Zo hl).trans h
theorem acK {N:List Str}{n:Nat}{B:RO}{ds:LP} (hl:ds.length=n) (h:B (jO N ds)=none):jH N n B ds=none:=by
 unfold jH; rw [if_pos hl,h]
theorem ams {ds:LP} (h:ds.length<50):few ds=true:=qh (by omega)
theorem fw1 {a:PyData}:few [a]=true:=ams (by simp)
theorem fw2 {a b:PyData}:few [a,b]=true:=ams (by simp)
noncomputable def shl (n:Nat) (d:PyData):Prop:=d.canLay0=true/\d.depth<=n
theorem acL {n:Nat}{d:PyData} (h:shl n d) (hn:n<30):okD d=true:=by
 unfold okD
 rw [h.1,decide_eq_true (show d.depth<30 by have:=h.2; omega)]; rfl
theorem ah4 {tt:Rho->Option Bool}{A B:RO}{ρ:Rho} (h:tt ρ=some true):ifS tt A B ρ=A ρ:=by
 show (tt ρ).bind _=_
 rw [h]; rfl
theorem agp {tt:Rho->Option Bool}{A:RO}{ρ:Rho} (h:tt ρ=some false):ifS tt A (fun ρ=>some (.nx ρ)) ρ=some (.nx ρ):=by
 show (tt ρ).bind _=_
 rw [h]; rfl
theorem jG {i:Nat}{f:RP}{ρ:Rho}{d:PyData} (h:f ρ=some d):Q2 f (j0 i) ρ=some (.nx (ρ.set i (some d))):=by
 show (f ρ).bind _=_
 rw [h]; rfl
theorem jk {g:PyData->PyData->OP}{f1 f2:RP}{ρ:Rho}{x y z:PyData} (h1:f1 ρ=some x) (h2:f2 ρ=some y) (h3:g x y=some z):op2 g f1 f2 ρ=some z:=by
 show (f1 ρ).bind _=_
 rw [h1,zzD,h2,zzD,h3]
theorem aas {fi:Rho->Option (LP)}{cap:List (Option Nat)}{ga:PyData->Rho->Option Rho}{ft:Rho->Option Bool}{fe:RP}{ρ:Rho}{ds ys:LP} (h1:fi ρ=some ds) (hf:few ds=true) (h2:jY ga ft fe ds (abg cap ρ)=some ys):QL fi cap ga ft fe ρ=some (.list ys):=by
 show (fi ρ).bind _=_
 rw [h1,zzD,if_pos hf,h2]; rfl
theorem jx {g:LP->OP}{fs:Rho->Option (LP)}{ρ:Rho}{ds:LP}{d:PyData} (h1:fs ρ=some ds) (h2:g ds=some d):jS g fs ρ=some d:=by
 show (fs ρ).bind _=_
 rw [h1,zzD,h2]
theorem jy {f:RP}{fs:Rho->Option (LP)}{ρ:Rho}{d:PyData}{ds:LP} (h1:f ρ=some d) (h2:fs ρ=some ds):jp f fs ρ=some (d::ds):=by
 unfold jp
 rw [h1,zzD,h2]; rfl
theorem j1 {f:RP}{ρ:Rho}{c:Bool} (h:f ρ=some (.bool c)):tst f ρ=some c:=by
 show (f ρ).bind _=_
 rw [h]; rfl
theorem ah5 {i:Nat}{f:RP}{G:RO}{ρ:Rho}{d c:PyData} (h1:f ρ=some d) (h2:i < ρ.length) (h3:G (ρ.set i (some d))=some (.rt c)):acq i f G ρ=some (.rt c):=by
 show (f ρ).bind _=_
 rw [h1,zzD,if_pos h2,h3]; rfl
theorem alf {F:RO}{ρ:Rho}{d:PyData} (h:F ρ=some (.rt d)):adn F ρ=some (.rt d):=by
 unfold adn; rw [h]
theorem aaW {fi:Rho->Option (LP)}{ga:PyData->Rho->Option Rho}{F:RO}{ρ:Rho}{ds:LP}{o:Option Out} (h1:fi ρ=some ds) (h2:jI ga F ds ρ=o):ac8 fi ga F ρ=o:=by
 show (fi ρ).bind _=_
 rw [h1,zzD]; exact h2
theorem zV {f:RP}{G:RO}{ρ:Rho}{d:PyData} (h:f ρ=some d):jV (za f) G ρ=some (.rt d):=by
 unfold jV za
 rw [h]; rfl
noncomputable abbrev PL:=List (Int × Int)
section
variable {u e l b:Int}
noncomputable def dig (b:Int) (r:Nat) (n:Int) (i:Nat):Int:=if 0<i then n / b ^ (r - 1 - i) % b else n / b ^ (r - 1 - i)
end
section
variable {u e l b:Int}{ps:PL}
theorem QE (hs:okS u l ps=true):1<=ps.length/\ps.length<=4/\ps.all (okP u l)=true:=by
 unfold okS at hs
 simp only [Bool.and_eq_true,decide_eq_true_eq] at hs
 exact ⟨hs.1.1,hs.1.2,hs.2⟩
theorem ajE {N:List Str}{n:Nat}{B:RO}{ds:LP}{ρ:Rho} (hl:ds.length=n) (h:B (jO N ds)=some (.nx ρ)):jH N n B ds=some .none:=by
 unfold jH
 rw [if_pos hl,h]
theorem ck2 (H:QI=true) (h:okN u e l b=true) (hs:okS u l ps=true):Zk [jv u e l b,jQ ps]=some .none/\afv [jv u e l b,jQ ps]=none:=
 ⟨ahY H h hs,aeD (ahW H h) (adL ps) (by rw [abT]; exact hs)⟩
end
noncomputable def sh (n:Nat) (d:PyData):Prop:=shl n d/\noD d=true
theorem acM {fs:Rho->Option (LP)}{ρ:Rho}{ds:LP} (h:fs ρ=some ds) (hf:few ds=true):ZA fs ρ=some (.list ds):=by
 unfold ZA; rw [h,zzD,if_pos hf]
theorem aaX {fs:Rho->Option (LP)}{ρ:Rho}{ds:LP} (h:fs ρ=some ds) (hf:few ds=true):aaC fs ρ=some (.tuple ds):=by
 unfold aaC; rw [h,zzD,if_pos hf]
theorem amt {A B:Rho->Option Bool}{ρ:Rho} (h1:A ρ=some false) (h2:B ρ=some false):orB A B ρ=some false:=by
 unfold orB
 rw [h1,zzD,if_neg (by decide),h2]
theorem ajF {A B:Rho->Option Bool}{ρ:Rho} (h1:A ρ=some true):orB A B ρ=some true:=by
 unfold orB
 rw [h1,zzD,if_pos rfl]
theorem acN {A B:Rho->Option Bool}{ρ:Rho}{c:Bool} (h1:A ρ=some false) (h2:B ρ=some c):orB A B ρ=some c:=by
 unfold orB
 rw [h1,zzD,if_neg (by decide),h2]
theorem amu {A B:Rho->Option Bool}{ρ:Rho} (h1:A ρ=some false):abf A B ρ=some false:=by
 unfold abf
 rw [h1,zzD,if_neg (by decide)]
theorem amv {A B:Rho->Option Bool}{ρ:Rho}{c:Bool} (h1:A ρ=some true) (h2:B ρ=some c):abf A B ρ=some c:=by
 unfold abf
 rw [h1,zzD,if_pos rfl,h2]
theorem alg {A B:Rho->Option Bool}{ρ:Rho}{c d:Bool} (h1:A ρ=some c) (h2:c=true->B ρ=some d):abf A B ρ=some (c && d):=by
 cases c with
 | false=>exact amu h1
 | true=>exact amv h1 (h2 rfl)
theorem aaY {A:Rho->Option Bool}{ρ:Rho}{c:Bool} (h1:A ρ=some c):zi A ρ=some (!c):=by
 unfold zi
 rw [h1]; rfl
theorem s_o:Str.ofString "o"=⟨#[111]⟩:=by kernel_rfl
theorem s_d:Str.ofString "."=⟨#[46]⟩:=by kernel_rfl
theorem s_b:Str.ofString "|"=⟨#[124]⟩:=by kernel_rfl
theorem s_n:Str.ofString "\n"=⟨#[10]⟩:=by kernel_rfl
theorem s_0:Str.ofString ""=Str.empty:=by kernel_rfl
noncomputable abbrev os (n:Int):Str:=Txt.mul ⟨#[111]⟩ n
theorem acO {n:Int}:(os n).length=n.toNat:=by rw [jX,QX,List.length_replicate]
noncomputable def jw (u l:Int) (p:Int × Int):Str:=os (u - p.1)++⟨#[46]⟩++os p.1++⟨#[124]⟩++os p.2++⟨#[46]⟩++os (l - p.2)
noncomputable def aaZ (u l:Int) (p:Int × Int):List Nat:=List.replicate (u - p.1).toNat 111++46::(List.replicate p.1.toNat 111++124::(List.replicate p.2.toNat 111++46::List.replicate (l - p.2).toNat 111))
theorem QF (u l:Int) (p:Int × Int):sg (jw u l p)=aaZ u l p:=by
 unfold jw aaZ
 simp only [qE,QX,Ji,List.append_assoc,List.singleton_append,List.cons_append,List.nil_append]
theorem Zp {u l:Int}{p:Int × Int} (hp:okP u l p=true):(jw u l p).length=(u+l+3).toNat:=by
 obtain ⟨q1,q2,q3,q4⟩:=zr hp
 rw [jX,QF]
 simp only [aaZ,List.length_append,List.length_cons,List.length_replicate]
 omega
section
variable {u e l b:Int}
theorem aeE {f1 f2:RP}{ρ:Rho}{x y:Str} (h1:f1 ρ=some (.str x)) (h2:f2 ρ=some (.str y)) (h:x.length+y.length<1000000):op2 qT f1 f2 ρ=some (.str (x++y)):=jk h1 h2 (adw h)
theorem Z8 (h:okN u e l b=true) {p:Int × Int} (hp:okP u l p=true):Jy [jv u e l b,pr p]=some (.str (jw u l p)):=by
 obtain ⟨a1,a2,a3,a4,a5,a6,a7,a8,a9,a10⟩:=zh h
 obtain ⟨q1,q2,q3,q4⟩:=zr hp
 have m1:Js (.str (Str.ofString "o")) (.int (u - p.1))=some (.str (os (u - p.1))):=by rw [s_o]; exact Qh 111 (by omega) (by omega)
 have m2:Js (.str (Str.ofString "o")) (.int p.1)=some (.str (os p.1)):=by rw [s_o]; exact Qh 111 (by omega) (by omega)
 have m3:Js (.str (Str.ofString "o")) (.int p.2)=some (.str (os p.2)):=by rw [s_o]; exact Qh 111 (by omega) (by omega)
 have m4:Js (.str (Str.ofString "o")) (.int (l - p.2))=some (.str (os (l - p.2))):=by rw [s_o]; exact Qh 111 (by omega) (by omega)
 have l1:=acO (n:=u - p.1)
 have l2:=acO (n:=p.1)
 have l3:=acO (n:=p.2)
 have l4:=acO (n:=l - p.2)
 have ld:(⟨#[46]⟩:Str).length=1:=rfl
 have lb:(⟨#[124]⟩:Str).length=1:=rfl
 refine qC rfl ?_
 show Zm.1 [some (jv u e l b),some (pr p)]=_
 simp only [Zm]
 refine zV ?_
 unfold jw
 refine aeE (aeE (aeE (aeE (aeE (aeE (jk rfl (jk (jk rfl rfl rfl) (jk rfl rfl rfl) rfl) m1) (congrArg (fun z=>some (PyData.str z)) s_d) ?_) (jk rfl (jk rfl rfl rfl) m2) ?_) (congrArg (fun z=>some (PyData.str z)) s_b) ?_) (jk rfl (jk rfl rfl rfl) m3) ?_) (congrArg (fun z=>some (PyData.str z)) s_d) ?_) (jk rfl (jk (jk rfl rfl rfl) (jk rfl rfl rfl) rfl) m4) ?_
 all_goals
  simp only [Str.length_append,l1,l2,l3,l4,ld,lb]
  omega
noncomputable def lnN (u l:Int) (p:Int × Int):Str:=jw u l p++⟨#[10]⟩
noncomputable def qD (u l:Int) (ps:PL):Str:=Str.join Str.empty (ps.map (lnN u l))
theorem afx {p:Int × Int} (hp:okP u l p=true):(lnN u l p).length=(u+l+3).toNat+1:=by
 unfold lnN
 rw [Str.length_append,Zp hp]; rfl
theorem afy (h:okN u e l b=true):∀ (ps:PL) (x:OP),ps.all (okP u l)=true->jY (j0 0) QT (op2 qT (jS Jy (jp (lkp 1) (jp (lkp 0) jM))) (cst (.str (Str.ofString "\n")))) (ps.map pr) [x,some (jv u e l b)]=some ((ps.map (lnN u l)).map .str)
 | [],_,_=>rfl
 | p::ps,x,hk=>by
  obtain ⟨a1,a2,a3,a4,a5,a6,a7,a8,a9,a10⟩:=zh h
  have hp:=List.all_eq_true.mp hk p List.mem_cons_self
  have ih:=afy h ps (some (pr p)) (List.all_eq_true.mpr fun y hy=>List.all_eq_true.mp hk y (List.mem_cons_of_mem _ hy))
  have f1:op2 qT (jS Jy (jp (lkp 1) (jp (lkp 0) jM))) (cst (.str (Str.ofString "\n"))) [some (pr p),some (jv u e l b)]=some (.str (lnN u l p)):=aeE (jx rfl (Z8 h hp)) (congrArg (fun z=>some (PyData.str z)) s_n) (by
   rw [Zp hp]
   show _+1<_
   omega)
  show jY _ _ _ (pr p::ps.map pr) _=_
  rw [jY]
  simp only [j0,zzG,zzD,QT,zzM,f1,ih,zzE]
  rfl
theorem QZ:∀ (ts:List Str),zF (ts.map .str)=some ts
 | []=>rfl
 | t::ts=>by rw [List.map_cons,zF,QZ ts]; rfl
theorem agq (h:okN u e l b=true) {ps:PL} (hk:ps.all (okP u l)=true) (h4:ps.length<=4):JoinOk Str.empty (ps.map (lnN u l))=true:=by
 obtain ⟨a1,a2,a3,a4,a5,a6,a7,a8,a9,a10⟩:=zh h
 unfold JoinOk
 rw [StrLaws.joinFits (B:=100) (fun y hy=>?_) (by
  rw [List.length_map]
  show ps.length*100+ps.length*0<=16777216
  omega)]
 ·rfl
 ·obtain ⟨p,hp,rfl⟩:=List.mem_map.mp hy
  rw [afx (List.all_eq_true.mp hk p hp)]
  omega
theorem aah (H:QI=true) (h:okN u e l b=true) {ps:PL} (hs:okS u l ps=true):zK [jv u e l b,jQ ps]=some (.str (qD u l ps)):=by
 obtain ⟨h1,h4,hk⟩:=QE hs
 have ck:=(ck2 H h hs).1
 have fw:few (ps.map pr)=true:=qh (by rw [List.length_map]; omega)
 have c1:=aas (fi:=itS (lkp 1)) (cap:=[none,some 0]) (ρ:=[some (jv u e l b),some (jQ ps)]) (ds:=ps.map pr) rfl fw (afy h ps none hk)
 have jn:JT (.str (Str.ofString "")) (.list ((ps.map (lnN u l)).map .str))=some (.str (qD u l ps)):=by
  rw [s_0]
  show ((zF ((ps.map (lnN u l)).map .str)).bind fun texts=>if JoinOk Str.empty texts=true then some (PyData.str (Txt.join Str.empty texts)) else none)=_
  rw [QZ,zzD,if_pos (agq h hk h4),adx]; rfl
 refine qC rfl ?_
 show zJ.1 [some (jv u e l b),some (jQ ps)]=_
 simp only [zJ]
 refine (ju (ρ1:=[some (jv u e l b),some (jQ ps)]) ?_).trans ?_
 ·unfold aab
  rw [jx rfl ck]; rfl
 ·exact zV (jk rfl c1 jn)
end
theorem afz {c m n:Nat} (h:List.replicate m c=List.replicate n c):m=n:=by
 have:=congrArg List.length h
 simpa using this
theorem ah6 (n:Nat):46 ∉ List.replicate n 111:=fun h=>by
 have:=(List.mem_replicate.mp h).2
 omega
theorem aj6 (n:Nat):124 ∉ List.replicate n 111:=fun h=>by
 have:=(List.mem_replicate.mp h).2
 omega
theorem adM {u l:Int}{p q:Int × Int} (hp:okP u l p=true) (hq:okP u l q=true) (h:jw u l p=jw u l q):p=q:=by
 obtain ⟨p1,p2,p3,p4⟩:=zr hp
 obtain ⟨q1,q2,q3,q4⟩:=zr hq
 have e:=congrArg sg h
 rw [QF,QF] at e
 unfold aaZ at e
 obtain ⟨e1,e2⟩:=Qw (ah6 _) (ah6 _) e
 obtain ⟨e3,e4⟩:=Qw (aj6 _) (aj6 _) e2
 obtain ⟨e5,e6⟩:=Qw (ah6 _) (ah6 _) e4
 have f1:=afz e3
 have f2:=afz e5
 exact Prod.ext (by omega) (by omega)
theorem abU (u l:Int) (p:Int × Int):10 ∉ sg (jw u l p):=by
 rw [QF]
 unfold aaZ
 simp [List.mem_replicate]
theorem JR {u l:Int}:∀ (ps:PL),ps ≠ []->sg (qD u l ps)=sg (Str.join ⟨#[10]⟩ (ps.map (jw u l)))++[10]
 | [],h=>absurd rfl h
 | [p],_=>by
  show sg (lnN u l p)=sg (jw u l p)++[10]
  rw [lnN,qE]; rfl
 | p::q::r,_=>by
  have ih:=JR (u:=u) (l:=l) (q::r) (by simp)
  have e1:sg (qD u l (p::q::r))=sg (lnN u l p)++sg (qD u l (q::r)):=by
   unfold qD
   rw [Qi,Qi]; rfl
  rw [e1,ih,lnN,qE]
  show _=sg (Str.join ⟨#[10]⟩ (jw u l p::jw u l q::r.map (jw u l)))++[10]
  rw [qP]
  simp only [Ji,List.append_assoc,List.cons_append,List.nil_append,List.map_cons]
theorem ah7 {u l:Int}{ps:PL} (h:ps ≠ []):Txt.slice (qD u l ps) none (some (-1))=Str.join ⟨#[10]⟩ (ps.map (jw u l)):=by
 refine zU ?_
 have e:=JR (u:=u) (l:=l) ps h
 rw [Qj,jX,e]
 have hl:(sg (Str.join ⟨#[10]⟩ (ps.map (jw u l)))++[10]).length=(sg (Str.join ⟨#[10]⟩ (ps.map (jw u l)))).length+1:=by simp
 rw [hl]
 generalize sg (Str.join ⟨#[10]⟩ (ps.map (jw u l)))=L
 have c1:zm none 0 (L.length+1)=0:=rfl
 have c2:zm (some (-1)) (L.length+1) (L.length+1)=L.length:=by
  show (max 0 (min (if (-1:Int)<0 then (-1)+((L.length+1:Nat):Int) else (-1)) ((L.length+1:Nat):Int))).toNat=L.length
  rw [if_pos (by omega)]; omega
 rw [c1,c2,List.drop_zero,Nat.sub_zero,List.take_append_of_le_length (Nat.le_refl _),List.take_length]
theorem agr {u l:Int}{ps:PL} (h:ps ≠ []):Txt.endswith (qD u l ps) ⟨#[10]⟩=true:=by
 have e:=JR (u:=u) (l:=l) ps h
 have hl:=jX (qD u l ps)
 rw [e,List.length_append] at hl
 unfold Txt.endswith
 rw [StrLaws.subAt_eq]
 have e2:(qD u l ps).cps.toList=sg (Str.join ⟨#[10]⟩ (ps.map (jw u l)))++[10]:=e
 have l1:(⟨#[10]⟩:Str).length=1:=rfl
 rw [e2,l1,hl]
 simp
theorem ah8 {κ:Key}{d:PyData} (h:zR κ d=true):d=aaA κ:=by
 cases κ with
 | inl n=>cases d <;> simp_all [zR,isI,aaA]
 | inr t=>cases d <;> simp_all [zR,isS,aaA]
theorem adN {κ κ':Key}{d:PyData} (hne:κ' ≠ κ):∀ r:List (PyData × PyData),qo (r.map fun p=>if zR κ p.1=true then (p.1,d) else p) κ'=qo r κ'
 | []=>rfl
 | p::r=>by
  have ih:=adN hne r (d:=d)
  unfold qo at ih ⊢
  rw [List.map_cons,List.find?_cons,List.find?_cons]
  by_cases hk:zR κ p.1=true
  ·rw [if_pos hk]
   have:zR κ' p.1=false:=by
    rw [ah8 hk,zB]
    exact decide_eq_false (fun z=>hne z.symm)
   simp only [this]
   exact ih
  ·rw [if_neg hk]
   cases hc:zR κ' p.1 with
   | true=>rfl
   | false=>exact ih
theorem abV {κ:Key}{d:PyData}:∀ r:List (PyData × PyData),r.any (fun p=>zR κ p.1)=true->qo (r.map fun p=>if zR κ p.1=true then (p.1,d) else p) κ=some d
 | [],h=>by cases h
 | p::r,h=>by
  have ih:=abV r (d:=d) (κ:=κ)
  unfold qo at ih ⊢
  rw [List.map_cons,List.find?_cons]
  by_cases hk:zR κ p.1=true
  ·rw [if_pos hk]
   simp only [hk]
   rfl
  ·rw [if_neg hk]
   have hk':zR κ p.1=false:=by simpa using hk
   simp only [hk']
   rw [List.any_cons,hk',Bool.false_or] at h
   exact ih h
theorem abW (r:List (PyData × PyData)) (κ κ':Key) (d:PyData):qo (Jq r κ d) κ'=if κ'=κ then some d else qo r κ':=by
 unfold Jq
 by_cases ha:r.any (fun p=>zR κ p.1)=true
 ·rw [if_pos ha]
  by_cases h:κ'=κ
  ·subst h
   rw [if_pos rfl,abV r ha]
  ·rw [if_neg h,adN h]
 ·rw [if_neg ha]
  unfold qo
  rw [List.find?_append]
  by_cases h:κ'=κ
  ·subst h
   rw [if_pos rfl]
   have:r.find? (fun p=>zR κ' p.1)=none:=List.find?_eq_none.mpr fun p hp hk=>ha (List.any_eq_true.mpr ⟨p,hp,hk⟩)
   rw [this,Option.none_or,List.find?_cons,zB]
   simp
  ·rw [if_neg h]
   cases hf:r.find? (fun p=>zR κ' p.1) with
   | some p=>rfl
   | none=>
    rw [Option.none_or,List.find?_cons,zB,decide_eq_false (fun z=>h z.symm)]
    rfl
theorem ags (r:List (PyData × PyData)) (κ:Key) (d:PyData):(Jq r κ d).length<=r.length+1:=by
 unfold Jq
 split
 ·rw [List.length_map]; omega
 ·rw [List.length_append]; exact Nat.le_refl _
section
variable {u e l b:Int}
noncomputable def Zq (u l:Int):PL:=(List.range (u+1).toNat).flatMap fun (i:Nat)=>(List.range (l+1).toNat).map fun (j:Nat)=>((i:Int),(j:Int))
theorem afA:qm u l=(Zq u l).map pr:=by
 unfold qm Jw Zq
 rw [List.map_flatMap]
 congr 1
 funext i
 rw [List.map_map]; rfl
theorem Jz {p:Int × Int}:p ∈ Zq u l ↔ okP u l p=true:=by
 unfold Zq
 simp only [List.mem_flatMap,List.mem_map,List.mem_range,okP,Bool.and_eq_true,decide_eq_true_eq]
 constructor
 ·rintro ⟨i,hi,j,hj,rfl⟩
  refine ⟨⟨⟨?_,?_⟩,?_⟩,?_⟩ <;> simp <;> omega
 ·rintro ⟨⟨⟨h1,h2⟩,h3⟩,h4⟩
  exact ⟨p.1.toNat,by omega,p.2.toNat,by omega,Prod.ext (by simp; omega) (by simp; omega)⟩
theorem agt (hu:u<100) (hl:l<100):(Zq u l).length<20000:=by
 have h1:(qm u l).length=(Zq u l).length:=by rw [afA,List.length_map]
 have h2:(qm u l).length=(u+1).toNat*(l+1).toNat:=aaO _ _
 have h3:(u+1).toNat*(l+1).toNat<=100*100:=Nat.mul_le_mul (by omega) (by omega)
 omega
noncomputable def knF (u l:Int):PL->List (PyData × PyData)->List (PyData × PyData)
 | [],r=>r
 | q::qs,r=>knF u l qs (Jq r (Sum.inr (jw u l q)) (pr q))
theorem afB {p:Int × Int} (hp:okP u l p=true):∀ (qs:PL) (r:List (PyData × PyData)),(∀ q ∈ qs,okP u l q=true)->(p ∈ qs ∨ qo r (Sum.inr (jw u l p))=some (pr p))->qo (knF u l qs r) (Sum.inr (jw u l p))=some (pr p)
 | [],r,_,h=>h.elim (fun z=>nomatch z) id
 | q::qs,r,hq,h=>by
  refine afB hp qs _ (fun x hx=>hq x (List.mem_cons_of_mem _ hx)) ?_
  rw [abW]
  by_cases hpq:p=q
  ·subst hpq
   exact .inr (by rw [if_pos rfl])
  ·have hne:¬ (Sum.inr (jw u l p):Key)=Sum.inr (jw u l q):=fun z=>hpq (adM hp (hq q List.mem_cons_self) (Sum.inr.inj z))
   rw [if_neg hne]
   rcases h with h | h
   ·rcases List.mem_cons.mp h with z | z
    ·exact absurd z hpq
    ·exact .inl z
   ·exact .inr h
noncomputable def knR (u l:Int):List (PyData × PyData):=knF u l (Zq u l) []
theorem acP {p:Int × Int} (hp:okP u l p=true):qo (knR u l) (Sum.inr (jw u l p))=some (pr p):=afB hp _ _ (fun q hq=>Jz.mp hq) (.inl (Jz.mpr hp))
theorem afC (h:okN u e l b=true):∀ (qs:PL) (r:List (PyData × PyData)) (x:OP),(∀ q ∈ qs,okP u l q=true)->r.length+qs.length<900000->∃ y,jI (j0 2) zf.1 (qs.map pr) [some (jv u e l b),some (.dict ((.none,.none)::r)),x]=some (.nx [some (jv u e l b),some (.dict ((.none,.none)::knF u l qs r)),y])
 | [],r,x,_,_=>⟨x,rfl⟩
 | q::qs,r,x,hq,hl=>by
  rw [List.length_cons] at hl
  have pl:=ags r (Sum.inr (jw u l q)) (pr q)
  obtain ⟨y,ih⟩:=afC h qs (Jq r (Sum.inr (jw u l q)) (pr q)) (some (pr q)) (fun z hz=>hq z (List.mem_cons_of_mem _ hz)) (by omega)
  refine ⟨y,?_⟩
  have gt:=Z8 h (hq q List.mem_cons_self)
  have st:zf.1 [some (jv u e l b),some (.dict ((.none,.none)::r)),some (pr q)]=some (.nx [some (jv u e l b),some (.dict ((.none,.none)::Jq r (Sum.inr (jw u l q)) (pr q))),some (pr q)]):=by
   have pd:adu (some (.dict ((.none,.none)::r))) (some (pr q)) (some (.str (jw u l q)))=some (.dict ((.none,.none)::Jq r (Sum.inr (jw u l q)) (pr q))):=by
    show (if r.length<1000000 then some (PyData.dict ((.none,.none)::Jq r (Sum.inr (jw u l q)) (pr q))) else none)=_
    rw [if_pos (by omega)]
   simp only [zf,jV,afk,brw,hid,jS,jp,jM,lkp,zj,zzA,zzB,zzC,zzD,zzE,zzF,zzG,gt,pd]
  show jI _ _ (pr q::qs.map pr) _=_
  rw [jI]
  simp only [j0,zzF,zzG,zzD,st]
  exact ih
noncomputable def knD (u l:Int):PyData:= .dict ((.none,.none)::knR u l)
theorem ajG {M:PyData}{ds:LP}{D:PyData}{y:OP} (ga:qF [M]=some (.list ds)) (lp:jI (j0 2) zf.1 ds [some M,some (.dict [(.none,.none)]),none]=some (.nx [some M,some D,y])):qG [M]=some D:=by
 refine qC rfl ?_
 show Jd.1 [some M,none,none]=_
 simp only [Jd]
 refine ah5 (d:= .dict [(.none,.none)]) rfl (by simp) ?_
 have it:(fun ρ=>itS (jS qF (jp (lkp 0) jM)) (hid (some 1) ρ)) [some M,some (.dict [(.none,.none)]),none]=some ds:=by
  show (jS qF (jp (lkp 0) jM) (hid (some 1) [some M,some (.dict [(.none,.none)]),none])).bind Ja=_
  rw [jx (ds:=[M]) rfl ga]; rfl
 refine (ju (aaW (fi:=fun ρ=>itS (jS qF (jp (lkp 0) jM)) (hid (some 1) ρ)) it lp)).trans ?_
 exact zV rfl
theorem zW (h:okN u e l b=true):qG [jv u e l b]=some (knD u l):=by
 obtain ⟨a1,a2,a3,a4,a5,a6,a7,a8,a9,a10⟩:=zh h
 have ga:=Z6 (u:=u) (e:=e) (l:=l) (b:=b) (by omega) (by omega) (by omega) (by omega)
 rw [afA] at ga
 have ln:=agt (u:=u) (l:=l) (by omega) (by omega)
 obtain ⟨y,lp⟩:=afC h (Zq u l) [] none (fun q hq=>Jz.mp hq) (by rw [List.length_nil]; omega)
 exact ajG ga lp
theorem ah9 {p:Int × Int} (hp:okP u l p=true):JU false (.str (jw u l p)) (knD u l)=some (.bool true):=by
 show some (PyData.bool (qo (knR u l) (Sum.inr (jw u l p))).isSome)=_
 rw [acP hp]; rfl
theorem aia {p:Int × Int} (hp:okP u l p=true):Z5 (knD u l) (.str (jw u l p))=some (pr p):=by
 show qo (knR u l) (Sum.inr (jw u l p))=_
 exact acP hp
theorem adO:∀ (ps:PL) (x:OP),ps.all (okP u l)=true->jY (j0 0) QT (op2 (JU false) (lkp 0) (lkp 1)) ((ps.map (jw u l)).map .str) [x,some (knD u l)]=some (List.replicate ps.length (.bool true))
 | [],_,_=>rfl
 | p::ps,x,hk=>by
  have hp:=List.all_eq_true.mp hk p List.mem_cons_self
  have ih:=adO ps (some (.str (jw u l p))) (List.all_eq_true.mpr fun y hy=>List.all_eq_true.mp hk y (List.mem_cons_of_mem _ hy))
  have f1:op2 (JU false) (lkp 0) (lkp 1) [some (.str (jw u l p)),some (knD u l)]=some (.bool true):=jk rfl rfl (ah9 hp)
  show jY _ _ _ (.str (jw u l p)::(ps.map (jw u l)).map .str) _=_
  rw [jY]
  simp only [j0,zzG,zzD,QT,zzM,f1,ih,zzE]
  rfl
theorem aa0:∀ (ps:PL) (x:OP),ps.all (okP u l)=true->jY (j0 0) QT (op2 Z5 (lkp 1) (lkp 0)) ((ps.map (jw u l)).map .str) [x,some (knD u l)]=some (ps.map pr)
 | [],_,_=>rfl
 | p::ps,x,hk=>by
  have hp:=List.all_eq_true.mp hk p List.mem_cons_self
  have ih:=aa0 ps (some (.str (jw u l p))) (List.all_eq_true.mpr fun y hy=>List.all_eq_true.mp hk y (List.mem_cons_of_mem _ hy))
  have f1:op2 Z5 (lkp 1) (lkp 0) [some (.str (jw u l p)),some (knD u l)]=some (pr p):=jk rfl rfl (aia hp)
  show jY _ _ _ (.str (jw u l p)::(ps.map (jw u l)).map .str) _=_
  rw [jY]
  simp only [j0,zzG,zzD,QT,zzM,f1,ih,zzE]
  rfl
theorem Zr (h:okN u e l b=true):∀ (ps:PL),ps.all (okP u l)=true->(qD u l ps).length<=ps.length*100
 | [],_=>Nat.le_refl _
 | p::ps,hk=>by
  obtain ⟨a1,a2,a3,a4,a5,a6,a7,a8,a9,a10⟩:=zh h
  have hp:=List.all_eq_true.mp hk p List.mem_cons_self
  have ih:=Zr h ps (List.all_eq_true.mpr fun y hy=>List.all_eq_true.mp hk y (List.mem_cons_of_mem _ hy))
  have ll:=afx hp
  rw [jX] at ih ll ⊢
  unfold qD at ih ⊢
  rw [Qi] at ih ⊢
  rw [List.map_cons,List.map_cons,List.flatten_cons,List.length_append,ll,List.length_cons,Nat.succ_mul]
  omega
theorem aa1 {x:Str} (he:Txt.endswith x ⟨#[10]⟩=true):qp [.str x]=some .none:=by
 have i1:J9 "str" (.str x)=some (.bool true):=rfl
 have e1:Zb (.str x) (.str (Str.ofString "\n"))=some (.bool true):=by
  rw [s_n]
  show some (PyData.bool (Txt.endswith x ⟨#[10]⟩))=_
  rw [he]
 refine ajE (ρ:=[some (.str x)]) rfl ?_
 show qW.1 [some (.str x)]=_
 simp only [qW,jV,ifS,orB,zi,tst,op2,lkp,cst,zj,asB,zzA,zzB,zzC,zzD,zzE,zzJ,zzL,zzN,i1,e1]
theorem abX {M T KD:PyData}{x y:Str}{ls:LP}{bs ds:LP} (ck:Jk [M]=some .none) (ce:qp [.str x]=some .none) (kb:qG [M]=some KD) (sl:qU (lkp 1) (fun ρ=>(cst (.int 1) ρ).bind abi) [some M,some (.str x),some KD,none]=some (.str y)) (sp:qR (.str y) (.str (Str.ofString "\n"))=some (.list ls)) (ln:zH [.list ls]=some (.int ls.length)) (h4:ls.length<=4)
  (fw:few ls=true) (c1:jY (j0 0) QT (op2 (JU false) (lkp 0) (lkp 1)) ls [none,some KD]=some bs) (al:aad [.list bs]=some (.bool true)) (c2:jY (j0 0) QT (op2 Z5 (lkp 1) (lkp 0)) ls [none,some KD]=some ds) (tp:ael [.list ds]=some T):qf [M,.str x]=some T:=by
 refine qC rfl ?_
 show qe.1 [some M,some (.str x),none,none]=_
 simp only [qe]
 refine (ju (ρ1:=[some M,some (.str x),none,none]) ?_).trans ?_
 ·unfold aab; rw [jx rfl ck]; rfl
 refine (ju (ρ1:=[some M,some (.str x),none,none]) ?_).trans ?_
 ·unfold aab; rw [jx rfl ce]; rfl
 refine (ju (ρ1:=[some M,some (.str x),some KD,none]) (jG (i:=2) (jx rfl kb))).trans ?_
 refine (ju (ρ1:=[some M,some (.str x),some KD,some (.list ls)]) (jG (i:=3) (jk sl rfl sp))).trans ?_
 refine (ju (ρ1:=[some M,some (.str x),some KD,some (.list ls)]) (agp ?_)).trans ?_
 ·have t1:tst (op2 (Jh fun i j=>decide (j<i)) (jS zH (jp (lkp 3) jM)) (cst (.int 4))) [some M,some (.str x),some KD,some (.list ls)]=some false:=by
   refine j1 (jk (jx rfl ln) rfl ?_)
   show some (PyData.bool (decide ((4:Int)<(ls.length:Int))))=_
   rw [decide_eq_false (by omega)]
  have t2:=aas (fi:=itS (lkp 3)) (cap:=[none,some 2]) (ρ:=[some M,some (.str x),some KD,some (.list ls)]) (ds:=ls) rfl fw c1
  have t3:=j1 (jx (g:=aad) (jy (fs:=jM) (ds:=[]) t2 rfl) al)
  unfold orB
  rw [t1,zzD,if_neg (by decide)]
  unfold zi
  rw [t3]; rfl
 ·exact zV (jx (jy (aas (fi:=itS (lkp 3)) (cap:=[none,some 2]) (ds:=ls) rfl fw c2) rfl) tp)
theorem afD:∀ n:Nat,bls (List.replicate n (PyData.bool true))=some (List.replicate n true)
 | 0=>rfl
 | n+1=>by rw [List.replicate_succ,bls,afD n]; rfl
theorem ajH (n:Nat):aad [.list (List.replicate n (.bool true))]=some (.bool true):=by
 show (bls (List.replicate n (PyData.bool true))).map (fun bs=>PyData.bool (bs.all id))=_
 rw [afD]
 show some (PyData.bool ((List.replicate n true).all id))=_
 have e:(List.replicate n true).all id=true:=List.all_eq_true.mpr fun x hx=>(List.mem_replicate.mp hx).2
 rw [e]
theorem aai (H:QI=true) (h:okN u e l b=true) {ps:PL} (hs:okS u l ps=true):qf [jv u e l b,.str (qD u l ps)]=some (jQ ps):=by
 obtain ⟨h1,h4,hk⟩:=QE hs
 have hne:ps ≠ []:=fun z=>by rw [z] at h1; simp at h1
 have hne':ps.map (jw u l) ≠ []:=fun z=>hne (List.map_eq_nil_iff.mp z)
 have tl:=Zr h ps hk
 have cut:=ah7 (u:=u) (l:=l) hne
 have sp0:=JK 10 hne' (fun p hp=>by
  obtain ⟨q,_,rfl⟩:=List.mem_map.mp hp
  exact abU u l q)
 have jl:(Str.join ⟨#[10]⟩ (ps.map (jw u l))).length<900000:=by
  rw [←cut]
  have:=Txt.slice_le (qD u l ps) none (some (-1))
  omega
 have sp:qR (.str (Str.join ⟨#[10]⟩ (ps.map (jw u l)))) (.str (Str.ofString "\n"))=some (.list ((ps.map (jw u l)).map .str)):=by
  rw [s_n,Jt 10 jl,sp0]
 have sl:qU (lkp 1) (fun ρ=>(cst (.int 1) ρ).bind abi) [some (jv u e l b),some (.str (qD u l ps)),some (knD u l),none]=some (.str (Str.join ⟨#[10]⟩ (ps.map (jw u l)))):=by
  show (if (qD u l ps).length<1000000 then some (PyData.str (Txt.slice (qD u l ps) none (some (-1)))) else none)=_
  rw [if_pos (by omega),cut]
 have ll:((ps.map (jw u l)).map PyData.str).length=ps.length:=by rw [List.length_map,List.length_map]
 have ln:zH [.list ((ps.map (jw u l)).map .str)]=some (.int (((ps.map (jw u l)).map PyData.str).length:Int)):=rfl
 exact abX (QC (ahW H h)) (aa1 (agr hne)) (zW h) sl sp ln (by rw [ll]; exact h4) (qh (by rw [ll]; omega)) (adO ps none hk) (ajH _) (aa0 ps none hk) rfl
theorem adP {p:Int × Int}:∀ c ∈ sg (jw u l p),c<1114112:=by
 rw [QF]
 unfold aaZ
 intro c hc
 simp only [List.mem_append,List.mem_cons,List.mem_replicate] at hc
 omega
theorem adQ {ps:PL}:∀ c ∈ sg (qD u l ps),c<1114112:=by
 unfold qD
 rw [Qi]
 intro c hc
 obtain ⟨L,hL,hc'⟩:=List.mem_flatten.mp hc
 obtain ⟨t,ht,rfl⟩:=List.mem_map.mp hL
 obtain ⟨p,_,rfl⟩:=List.mem_map.mp ht
 rw [lnN,qE,List.mem_append] at hc'
 rcases hc' with z | z
 ·exact adP c z
 ·have:c=10:=by simpa [Ji] using z
  omega
theorem acQ {x:Str} (h:∀ c ∈ sg x,c<1114112):sh 1 (.str x):=by
 refine ⟨⟨?_,by simp [PyData.depth]⟩,rfl⟩
 show x.cps.all (fun c=>decide (c<1114112))=true
 rw [←Array.all_toList]
 exact List.all_eq_true.mpr fun c hc=>decide_eq_true (h c hc)
end
theorem afE (x y:Str):PyData.eqv (.str x) (.str y)=decide (x=y):=by
 unfold PyData.eqv
 by_cases h:x=y
 ·subst h; simp
 ·simp [h]
theorem alh {x y:Str} (hx:∀ c ∈ sg x,c<1114112) (hy:∀ c ∈ sg y,c<1114112):dEq (.str x) (.str y)=some (.bool (decide (x=y))):=by
 have o1:okD (.str x)=true:=acL (acQ hx).1 (by omega)
 have o2:okD (.str y)=true:=acL (acQ hy).1 (by omega)
 show (if okD (.str x)=true/\okD (.str y)=true then some (PyData.bool (PyData.eqv (.str x) (.str y))) else none)=_
 rw [if_pos ⟨o1,o2⟩,afE]
theorem ali {x y:Str} (hx:∀ c ∈ sg x,c<1114112) (hy:∀ c ∈ sg y,c<1114112):dNe (.str x) (.str y)=some (.bool (!decide (x=y))):=by
 have o1:okD (.str x)=true:=acL (acQ hx).1 (by omega)
 have o2:okD (.str y)=true:=acL (acQ hy).1 (by omega)
 show (if okD (.str x)=true/\okD (.str y)=true then some (PyData.bool (!PyData.eqv (.str x) (.str y))) else none)=_
 rw [if_pos ⟨o1,o2⟩,afE]
theorem QG (c:Nat):∀ (ls:List Str) (x:Str),ls ≠ []->sg (Str.join ⟨#[c]⟩ (ls++[x]))=sg (Str.join ⟨#[c]⟩ ls)++c::sg x
 | [],_,h=>absurd rfl h
 | [y],x,_=>by
  show sg (Str.join ⟨#[c]⟩ (y::x::[]))=_
  rw [qP]; rfl
 | y::z::r,x,_=>by
  show sg (Str.join ⟨#[c]⟩ (y::z::(r++[x])))=_
  rw [qP,qP,List.append_assoc,List.cons_append]
  have:=QG c (z::r) x (by simp)
  rw [←this]; rfl
section
variable {u e l b:Int}
noncomputable def zX (u l:Int) (ps:PL):List Str:=ps.map (jw u l)++[Str.empty]
theorem aeF {ps:PL} (hne:ps ≠ []):Str.join ⟨#[10]⟩ (zX u l ps)=qD u l ps:=by
 refine zU ?_
 unfold zX
 rw [QG 10 _ _ (fun z=>hne (List.map_eq_nil_iff.mp z)),JR ps hne]; rfl
theorem aeG (h:okN u e l b=true) {ps:PL} (hs:okS u l ps=true):qR (.str (qD u l ps)) (.str (Str.ofString "\n"))=some (.list ((zX u l ps).map .str)):=by
 obtain ⟨h1,h4,hk⟩:=QE hs
 have hne:ps ≠ []:=fun z=>by rw [z] at h1; simp at h1
 have tl:=Zr h ps hk
 rw [s_n,Jt 10 (by omega),←aeF hne,JK 10 (by unfold zX; simp) (fun p hp=>by
  unfold zX at hp
  rcases List.mem_append.mp hp with z | z
  ·obtain ⟨q,_,rfl⟩:=List.mem_map.mp z
   exact abU u l q
  ·rw [List.mem_singleton.mp z]
   show 10 ∉ []
   simp)]
theorem agu (ps:PL):(zX u l ps).length=ps.length+1:=by
 unfold zX
 rw [List.length_append,List.length_map]; rfl
theorem aec {ls:List Str}{k:Nat}{x:Str} (h:ls[k]?=some x) (hl:ls.length<1000):dIx (.list (ls.map .str)) (.int (k:Int))=some (.str x):=by
 obtain ⟨hk,he⟩:=List.getElem?_eq_some_iff.mp h
 show (if (ls.map PyData.str).length<1000000 then atI (ls.map PyData.str) (k:Int) else none)=_
 rw [if_pos (by rw [List.length_map]; omega)]
 unfold atI
 rw [ahQ (by omega) (by rw [List.length_map]; omega)]
 simp [h]
noncomputable def Jm (u:Int) (p:Int × Int):Str:=os (u - p.1)++⟨#[46]⟩++os p.1
noncomputable def JS (l:Int) (p:Int × Int):Str:=os p.2++⟨#[46]⟩++os (l - p.2)
theorem aa2 (p:Int × Int):jw u l p=Str.join ⟨#[124]⟩ [Jm u p,JS l p]:=by
 refine zU ?_
 rw [qP]
 show _=sg (Jm u p)++124::sg (JS l p)
 rw [QF]
 unfold aaZ Jm JS
 simp only [qE,QX,Ji,List.append_assoc,List.singleton_append,List.cons_append,List.nil_append]
theorem aa3 {n:Int}{c:Nat} (h:c ∈ sg (os n)):c=111:=by
 rw [QX] at h
 exact (List.mem_replicate.mp h).2
theorem abY {p:Int × Int}{c:Nat} (h:c ∈ sg (Jm u p)):c=111 ∨ c=46:=by
 unfold Jm at h
 simp only [qE,Ji,List.mem_append,List.mem_singleton] at h
 rcases h with (z | z) | z
 ·exact .inl (aa3 z)
 ·exact .inr z
 ·exact .inl (aa3 z)
theorem abZ {p:Int × Int}{c:Nat} (h:c ∈ sg (JS l p)):c=111 ∨ c=46:=by
 unfold JS at h
 simp only [qE,Ji,List.mem_append,List.mem_singleton] at h
 rcases h with (z | z) | z
 ·exact .inl (aa3 z)
 ·exact .inr z
 ·exact .inl (aa3 z)
theorem len_str {x:Str} (h:x.length<1000000):ads [.str x]=some (.int (x.length:Int)):=by
 show (if x.length<1000000 then some (PyData.int x.length) else none)=_
 rw [if_pos h]
end
noncomputable def low (x:Str):Prop:=∀ c ∈ sg x,c<1114112
noncomputable def okT (x:Str):Prop:=low x/\x.length<8000
section
variable {u e l b:Int}
noncomputable def jK (u l:Int) (y:Str):Option (Int × Int):=(Zq u l).find? fun p=>decide (jw u l p=y)
theorem zY {y:Str}{p:Int × Int} (h:jK u l y=some p):okP u l p=true/\y=jw u l p:=by
 unfold jK at h
 have h1:=List.find?_some h
 exact ⟨Jz.mp (List.mem_of_find?_eq_some h),(of_decide_eq_true h1).symm⟩
theorem aeH {p:Int × Int} (hp:okP u l p=true):jK u l (jw u l p)=some p:=by
 cases h:jK u l (jw u l p) with
 | none=>
  unfold jK at h
  have:=List.find?_eq_none.mp h p (Jz.mpr hp)
  simp at this
 | some q=>
  obtain ⟨h1,h2⟩:=zY h
  rw [adM hp h1 h2]
theorem adR {y:Str}:∀ (qs:PL) (r:List (PyData × PyData)),(∀ q ∈ qs,jw u l q ≠ y)->qo r (Sum.inr y)=none->qo (knF u l qs r) (Sum.inr y)=none
 | [],r,_,h=>h
 | q::qs,r,hq,h=>by
  refine adR qs _ (fun x hx=>hq x (List.mem_cons_of_mem _ hx)) ?_
  rw [abW,if_neg (fun z=>hq q List.mem_cons_self (Sum.inr.inj z).symm),h]
theorem alj (y:Str):qo (knR u l) (Sum.inr y)=(jK u l y).map pr:=by
 cases h:jK u l y with
 | some p=>
  obtain ⟨h1,h2⟩:=zY h
  rw [h2]; exact acP h1
 | none=>
  refine adR _ _ (fun q hq z=>?_) rfl
  unfold jK at h
  have:=List.find?_eq_none.mp h q hq
  simp [z] at this
theorem alk (y:Str):JU false (.str y) (knD u l)=some (.bool (jK u l y).isSome):=by
 show some (PyData.bool (qo (knR u l) (Sum.inr y)).isSome)=_
 rw [alj]
 cases jK u l y <;> rfl
theorem acR:∀ (ls:List Str) (x:OP),jY (j0 0) QT (op2 (JU false) (lkp 0) (lkp 1)) (ls.map .str) [x,some (knD u l)]=some ((ls.map fun y=>(jK u l y).isSome).map .bool)
 | [],_=>rfl
 | y::ls,x=>by
  have ih:=acR ls (some (.str y))
  have f1:op2 (JU false) (lkp 0) (lkp 1) [some (.str y),some (knD u l)]=some (.bool (jK u l y).isSome):=jk rfl rfl (alk y)
  show jY _ _ _ (.str y::ls.map .str) _=_
  rw [jY]
  simp only [j0,zzG,zzD,QT,zzM,f1,ih,zzE]
  rfl
theorem aib:∀ bs:List Bool,bls (bs.map PyData.bool)=some bs
 | []=>rfl
 | c::bs=>by rw [List.map_cons,bls,aib bs]; rfl
theorem all_map (bs:List Bool):aad [.list (bs.map .bool)]=some (.bool (bs.all id)):=by
 show (bls (bs.map PyData.bool)).map (fun bs=>PyData.bool (bs.all id))=_
 rw [aib]; rfl
theorem aic {x:Str} (he:Txt.endswith x ⟨#[10]⟩=false):qp [.str x]=none/\qY [.str x]=some ("NoText":Str):=by
 have i1:J9 "str" (.str x)=some (.bool true):=rfl
 have e1:Zb (.str x) (.str (Str.ofString "\n"))=some (.bool false):=by
  rw [s_n]
  show some (PyData.bool (Txt.endswith x ⟨#[10]⟩))=_
  rw [he]
 have t1:orB (zi (tst fun ρ=>(lkp 0 ρ).bind fun d=>J9 "str" d)) (zi (tst (op2 Zb (lkp 0) (cst (.str (Str.ofString "\n")))))) [some (.str x)]=some true:=acN (aaY (c:=true) (j1 i1)) (aaY (c:=false) (j1 (jk rfl rfl e1)))
 constructor
 ·refine acK rfl ?_
  show qW.1 [some (.str x)]=_
  simp only [qW]
  unfold jV
  rw [ah4 t1]; rfl
 ·refine QD rfl ?_
  show qX.1 [some (.str x)]=_
  simp only [qX]
  unfold ifX
  rw [t1]; rfl
theorem agv {x:Str} (he:Txt.endswith x ⟨#[10]⟩=true):qY [.str x]=none:=by
 have i1:J9 "str" (.str x)=some (.bool true):=rfl
 have e1:Zb (.str x) (.str (Str.ofString "\n"))=some (.bool true):=by
  rw [s_n]
  show some (PyData.bool (Txt.endswith x ⟨#[10]⟩))=_
  rw [he]
 have t1:orB (zi (tst fun ρ=>(lkp 0 ρ).bind fun d=>J9 "str" d)) (zi (tst (op2 Zb (lkp 0) (cst (.str (Str.ofString "\n")))))) [some (.str x)]=some false:=acN (aaY (c:=true) (j1 i1)) (aaY (c:=true) (j1 (jk rfl rfl e1)))
 refine QD rfl ?_
 show qX.1 [some (.str x)]=_
 simp only [qX]
 unfold ifX
 rw [t1]; rfl
end
theorem aeI {fx gx:Rho->Option Str}{ρ:Rho} (h:fx ρ=none):orX fx gx ρ=gx ρ:=by
 unfold orX; rw [h]
theorem ajI {fx gx:Rho->Option Str}{ρ:Rho}{c:Str} (h:fx ρ=some c):orX fx gx ρ=some c:=by
 unfold orX; rw [h]
theorem aa4 {F:RO}{gx:Rho->Option Str}{ρ ρ':Rho} (h:F ρ=some (.nx ρ')):nxX F gx ρ=gx ρ':=by
 unfold nxX; rw [h]; rfl
theorem amw {tc:Rho->Option Bool}{fx gx:Rho->Option Str}{ρ:Rho} (h:tc ρ=some true):ifX tc fx gx ρ=fx ρ:=by
 unfold ifX; rw [h]; rfl
theorem ZS {f:RP}{ρ:Rho}{d:PyData} (h:f ρ=some d):aab f ρ=some (.nx ρ):=by
 unfold aab; rw [h]; rfl
theorem aid {F G:RO}{ρ:Rho} (h:F ρ=none):jV F G ρ=none:=by
 unfold jV; rw [h]; rfl
theorem ZT {F G:RO}{ρ:Rho}{d:PyData} (h:F ρ=some (.rt d)):jV F G ρ=some (.rt d):=by
 unfold jV; rw [h]; rfl
theorem alm {f:RP}{ρ:Rho} (h:f ρ=none):aab f ρ=none:=by
 unfold aab; rw [h]; rfl
theorem aln {f:RP}{ρ:Rho} (h:f ρ=none):za f ρ=none:=by
 unfold za; rw [h]; rfl
theorem aie {g:LP->OP}{fs:Rho->Option (LP)}{ρ:Rho}{ds:LP} (h1:fs ρ=some ds) (h2:g ds=none):jS g fs ρ=none:=by
 show (fs ρ).bind _=_
 rw [h1,zzD,h2]
theorem aif {n i:Nat}{cs:List Str}{F:RO}{fx:Rho->Option Str}{G:RO}{ρ:Rho}{o:Out} (h:F ρ=some o):ZG n i cs F fx G ρ=some o:=by
 unfold ZG; rw [h]
theorem ajJ {n i:Nat}{cs:List Str}{F:RO}{fx:Rho->Option Str}{G:RO}{ρ:Rho}{c:Str}{d:PyData} (h1:F ρ=none) (h2:fx ρ=some c) (h3:c ∈ cs) (h4:G ((aaM n).set i (some (ach c)))=some (.rt d)):ZG n i cs F fx G ρ=some (.rt d):=by
 unfold ZG; rw [h1,h2]; simp only [if_pos h3,h4]
section
variable {M KD:PyData}{x y:Str}{ls:LP}
theorem aig (ck:Jk [M]=some .none) (tk:ZO [M]=none) (ce:qp [.str x]=none) (te:qY [.str x]=some ("NoText":Str)):qf [M,.str x]=none/\zg [M,.str x]=some ("NoText":Str):=by
 constructor
 ·refine acK rfl ?_
  show qe.1 [some M,some (.str x),none,none]=_
  simp only [qe]
  refine (ju (ρ1:=[some M,some (.str x),none,none]) (ZS (jx rfl ck))).trans ?_
  exact aid (alm (aie rfl ce))
 ·refine QD rfl ?_
  show qK.1 [some M,some (.str x),none,none]=_
  simp only [qK]
  refine (aeI ?_).trans ?_
  ·exact tk
  refine (aa4 (ρ':=[some M,some (.str x),none,none]) (ZS (jx rfl ck))).trans ?_
  exact ajI te
theorem aih (ck:Jk [M]=some .none) (tk:ZO [M]=none) (ce:qp [.str x]=some .none) (te:qY [.str x]=none) (kb:qG [M]=some KD) (sl:qU (lkp 1) (fun ρ=>(cst (.int 1) ρ).bind abi) [some M,some (.str x),some KD,none]=some (.str y)) (sp:qR (.str y) (.str (Str.ofString "\n"))=some (.list ls)) (ln:zH [.list ls]=some (.int ls.length))
  (fw:few ls=true) {bs:LP} {c:Bool} (c1:jY (j0 0) QT (op2 (JU false) (lkp 0) (lkp 1)) ls [none,some KD]=some bs) (al:aad [.list bs]=some (.bool c)) (hb:4<ls.length ∨ c=false):qf [M,.str x]=none/\zg [M,.str x]=some ("NoText":Str):=by
 have tt:orB (tst (op2 (Jh fun i j=>decide (j<i)) (jS zH (jp (lkp 3) jM)) (cst (.int 4)))) (zi (tst (jS aad (jp (QL (itS (lkp 3)) [none,some 2] (j0 0) QT (op2 (JU false) (lkp 0) (lkp 1))) jM)))) [some M,some (.str x),some KD,some (.list ls)]=some true:=by
  have t1:tst (op2 (Jh fun i j=>decide (j<i)) (jS zH (jp (lkp 3) jM)) (cst (.int 4))) [some M,some (.str x),some KD,some (.list ls)]=some (decide ((4:Int)<(ls.length:Int))):=j1 (jk (jx rfl ln) rfl rfl)
  by_cases h4:4<ls.length
  ·rw [decide_eq_true (show (4:Int)<(ls.length:Int) by omega)] at t1
   exact ajF t1
  ·rw [decide_eq_false (show ¬ (4:Int)<(ls.length:Int) by omega)] at t1
   have hc:c=false:=hb.resolve_left h4
   have t2:=aas (fi:=itS (lkp 3)) (cap:=[none,some 2]) (ρ:=[some M,some (.str x),some KD,some (.list ls)]) (ds:=ls) rfl fw c1
   have t3:=j1 (jx (g:=aad) (jy (fs:=jM) (ds:=[]) t2 rfl) al)
   rw [hc] at t3
   exact acN t1 (aaY t3)
 constructor
 ·refine acK rfl ?_
  show qe.1 [some M,some (.str x),none,none]=_
  simp only [qe]
  refine (ju (ρ1:=[some M,some (.str x),none,none]) (ZS (jx rfl ck))).trans ?_
  refine (ju (ρ1:=[some M,some (.str x),none,none]) (ZS (jx rfl ce))).trans ?_
  refine (ju (ρ1:=[some M,some (.str x),some KD,none]) (jG (i:=2) (jx rfl kb))).trans ?_
  refine (ju (ρ1:=[some M,some (.str x),some KD,some (.list ls)]) (jG (i:=3) (jk sl rfl sp))).trans ?_
  unfold jV
  rw [ah4 tt]; rfl
 ·refine QD rfl ?_
  show qK.1 [some M,some (.str x),none,none]=_
  simp only [qK]
  refine (aeI ?_).trans ?_
  ·exact tk
  refine (aa4 (ρ':=[some M,some (.str x),none,none]) (ZS (jx rfl ck))).trans ?_
  refine (aeI ?_).trans ?_
  ·exact te
  refine (aa4 (ρ':=[some M,some (.str x),none,none]) (ZS (jx rfl ce))).trans ?_
  refine (aa4 (ρ':=[some M,some (.str x),some KD,none]) (jG (i:=2) (jx rfl kb))).trans ?_
  refine (aa4 (ρ':=[some M,some (.str x),some KD,some (.list ls)]) (jG (i:=3) (jk sl rfl sp))).trans ?_
  exact amw tt
theorem ab0 {s d:PyData} (g:qf [M,s]=some d):JP [M,s]=some d:=by
 refine qC rfl ?_
 show ZQ.1 [some M,some s,none,none]=_
 simp only [ZQ]
 exact ZT (aif (zV (jx rfl g)))
theorem afF {s:PyData} (g:qf [M,s]=none) (t:zg [M,s]=some ("NoText":Str)):JP [M,s]=some .none:=by
 refine qC rfl ?_
 show ZQ.1 [some M,some s,none,none]=_
 simp only [ZQ]
 exact ZT (ajJ (c:=("NoText":Str)) (aid (aln (aie rfl g))) t (by decide) (by kernel_rfl))
end
theorem aeJ (y:Str) (c i:Nat):StrLaws.At y ⟨#[c]⟩ y.length i ↔ (sg y)[i]?=some c:=by
 unfold StrLaws.At
 rw [StrLaws.subAt_eq]
 show i+1<=y.length/\(((sg y).drop i).take 1 == [c])=true ↔ _
 rw [jX]
 constructor
 ·rintro ⟨h1,h2⟩
  have h3:=List.getElem?_drop (xs:=sg y) (i:=i) (j:=0)
  rw [Nat.add_zero] at h3
  rw [←h3]
  cases hd:(sg y).drop i with
  | nil=>rw [hd] at h2; simp at h2
  | cons a r=>
   rw [hd] at h2
   simp at h2
   simp [h2]
 ·intro h
  have hlt:=(List.getElem?_eq_some_iff.mp h).1
  refine ⟨by omega,?_⟩
  have:(sg y).drop i=c::(sg y).drop (i+1):=by
   rw [List.drop_eq_getElem_cons hlt]
   have:=(List.getElem?_eq_some_iff.mp h).2
   rw [this]
  rw [this]; simp
theorem aii (y:Str) (c:Nat):(Txt.find y ⟨#[c]⟩=-1/\c ∉ sg y) ∨ ∃ A B,sg y=A++c::B/\c ∉ A/\Txt.find y ⟨#[c]⟩=(A.length:Int):=by
 rcases find_whole y ⟨#[c]⟩ with ⟨h1,h2⟩ | ⟨i,h1,h2,h3⟩
 ·refine .inl ⟨h1,fun hc=>?_⟩
  obtain ⟨i,hi,e⟩:=List.getElem_of_mem hc
  exact h2 i ((aeJ y c i).mpr (by rw [List.getElem?_eq_getElem hi,e]))
 ·have hi:=(aeJ y c i).mp h2
  obtain ⟨hlt,he⟩:=List.getElem?_eq_some_iff.mp hi
  refine .inr ⟨(sg y).take i,(sg y).drop (i+1),?_,fun hc=>?_,?_⟩
  ·have h4:=List.take_append_drop i (sg y)
   rw [List.drop_eq_getElem_cons hlt,he] at h4
   exact h4.symm
  ·obtain ⟨k,hk,e⟩:=List.getElem_of_mem hc
   rw [List.length_take] at hk
   refine h3 k (by omega) ((aeJ y c k).mpr ?_)
   rw [List.getElem_take] at e
   rw [List.getElem?_eq_getElem (by omega),e]
  ·rw [h1,List.length_take]
   omega
noncomputable def aa5 (m a:Int):Str:=os a++⟨#[46]⟩++os (m - a)
theorem acS (m a:Int):sg (aa5 m a)=List.replicate a.toNat 111++46::List.replicate (m - a).toNat 111:=by
 unfold aa5
 simp only [qE,QX,Ji,List.append_assoc,List.singleton_append]
theorem aij {y:Str}{A B:List Nat} (h:sg y=A++B):Txt.slice y none (some (A.length:Int))=⟨A.toArray⟩:=by
 refine zU ?_
 rw [Qj,jX,h]
 have c1:zm none 0 (A++B).length=0:=rfl
 have c2:zm (some (A.length:Int)) (A++B).length (A++B).length=A.length:=by
  show (max 0 (min (if (A.length:Int)<0 then (A.length:Int)+((A++B).length:Int) else (A.length:Int)) ((A++B).length:Int))).toNat=A.length
  rw [if_neg (by omega),List.length_append]; omega
 rw [c1,c2,List.drop_zero,Nat.sub_zero,List.take_left]; rfl
theorem aeK {y:Str}{A B:List Nat} (h:sg y=A++B):Txt.slice y (some (A.length:Int)) none=⟨B.toArray⟩:=by
 refine zU ?_
 rw [Qj,jX,h]
 have c1:zm none (A++B).length (A++B).length=(A++B).length:=rfl
 have c2:zm (some (A.length:Int)) 0 (A++B).length=A.length:=by
  show (max 0 (min (if (A.length:Int)<0 then (A.length:Int)+((A++B).length:Int) else (A.length:Int)) ((A++B).length:Int))).toNat=A.length
  rw [if_neg (by omega),List.length_append]; omega
 rw [c1,c2,List.drop_left,List.length_append,List.take_of_length_le (by omega)]; rfl
theorem aik {f1 f2:RP}{ρ:Rho}{y:Str}{i:Int} (h1:f1 ρ=some (.str y)) (h2:f2 ρ=some (.int i)) (hy:y.length<1000000):qU f1 f2 ρ=some (.str (Txt.slice y none (some i))):=by
 unfold qU
 rw [h1,zzD,h2,zzD]
 show (if y.length<1000000 then some (PyData.str (Txt.slice y none (some i))) else none)=_
 rw [if_pos hy]
theorem adS {f1 f2:RP}{ρ:Rho}{y:Str}{i:Int} (h1:f1 ρ=some (.str y)) (h2:f2 ρ=some (.int i)) (hy:y.length<1000000):qu f1 f2 ρ=some (.str (Txt.slice y (some i) none)):=by
 unfold qu
 rw [h1,zzD,h2,zzD]
 show (if y.length<1000000 then some (PyData.str (Txt.slice y (some i) none)) else none)=_
 rw [if_pos hy]
theorem add_str {f1 f2:RP}{ρ:Rho}{x y:Str} (h1:f1 ρ=some (.str x)) (h2:f2 ρ=some (.str y)) (h:x.length+y.length<1000000):op2 qT f1 f2 ρ=some (.str (x++y)):=jk h1 h2 (adw h)
theorem alo (n:Int):low (os n):=fun c hc=>by
 have:=aa3 hc
 omega
theorem ail {L:List Nat}{y:Str} (hy:low y) (h:∀ c ∈ L,c ∈ sg y):low ⟨L.toArray⟩:=fun c hc=>by
 rw [aaN] at hc
 exact hy c (h c hc)
section
variable {y:Str}{m:Int}
theorem Zs {c:Bool}{k:Int} (fd:QW (.str y) (.str (Str.ofString "."))=some (.int k)) (tt:orB (tst (op2 (Jh fun i j=>decide (i<j)) (lkp 2) (cst (.int 0)))) (orB (tst (op2 dNe (jS ads (jp (lkp 0) jM)) (op2 qA (lkp 1) (cst (.int 1))))) (tst (op2 dNe (op2 qT (qU (lkp 0) (lkp 2)) (qu (lkp 0) (op2 qA (lkp 2) (cst (.int 1))))) (op2 Js (cst (.str (Str.ofString "o"))) (lkp 1))))) [some (.str y),some (.int m),some (.int k)]=some c):
  Qk [.str y,.int m]=some (if c=true then .none else .tuple [.int k,.int (m - k)]):=by
 cases c with
 | true=>
  refine qC rfl ?_
  show ZR.1 [some (.str y),some (.int m),none]=_
  simp only [ZR]
  refine (ju (ρ1:=[some (.str y),some (.int m),some (.int k)]) (jG (i:=2) (jk rfl rfl fd))).trans ?_
  exact ZT ((ah4 tt).trans (zV rfl))
 | false=>
  refine qC rfl ?_
  show ZR.1 [some (.str y),some (.int m),none]=_
  simp only [ZR]
  refine (ju (ρ1:=[some (.str y),some (.int m),some (.int k)]) (jG (i:=2) (jk rfl rfl fd))).trans ?_
  refine (ju (ρ1:=[some (.str y),some (.int m),some (.int k)]) (agp tt)).trans ?_
  exact zV (aaX (jy rfl (jy (jk rfl rfl rfl) rfl)) fw2)
theorem afG (hy:low y) (hl:y.length<9000) (m0:0<=m) (m1:m<900):(∃ a,0<=a/\a<=m/\y=aa5 m a/\Qk [.str y,.int m]=some (.tuple [.int a,.int (m - a)])) ∨ ((∀ a,0<=a->a<=m->y ≠ aa5 m a)/\Qk [.str y,.int m]=some .none):=by
 have mo:Js (.str (Str.ofString "o")) (.int m)=some (.str (os m)):=by rw [s_o]; exact Qh 111 (by omega) (by omega)
 have ln:=len_str (x:=y) (by omega)
 rcases aii y 46 with ⟨f1,f2⟩ | ⟨A,B,f1,f2,f3⟩
 ·refine .inr ⟨fun a _ _ z=>f2 (by rw [z,acS]; simp),?_⟩
  have fd:QW (.str y) (.str (Str.ofString "."))=some (.int (-1)):=by
   rw [s_d]
   show some (PyData.int (Txt.find y ⟨#[46]⟩))=_
   rw [f1]
  exact Zs (c:=true) fd (ajF (j1 (jk rfl rfl rfl)))
 ·have fd:QW (.str y) (.str (Str.ofString "."))=some (.int (A.length:Int)):=by
   rw [s_d]
   show some (PyData.int (Txt.find y ⟨#[46]⟩))=_
   rw [f3]
  have t1:tst (op2 (Jh fun i j=>decide (i<j)) (lkp 2) (cst (.int 0))) [some (.str y),some (.int m),some (.int (A.length:Int))]=some false:=j1 (jk rfl rfl (by
   show some (PyData.bool (decide ((A.length:Int)<0)))=_
   rw [decide_eq_false (by omega)]))
  have t2:tst (op2 dNe (jS ads (jp (lkp 0) jM)) (op2 qA (lkp 1) (cst (.int 1)))) [some (.str y),some (.int m),some (.int (A.length:Int))]=some (!decide ((y.length:Int)=m+1)):=j1 (jk (jx rfl ln) (jk rfl rfl rfl) (ah1 _ _))
  have hyl:=jX y
  rw [f1,List.length_append,List.length_cons] at hyl
  have f1':sg y=(A++[46])++B:=by rw [f1]; simp
  have s1:=aij f1
  have s2:=aeK f1'
  have e2:((A++[46]).length:Int)=(A.length:Int)+1:=by simp
  rw [e2] at s2
  have lA:low ⟨A.toArray⟩:=ail hy fun c hc=>by rw [f1]; simp [hc]
  have lB:low ⟨B.toArray⟩:=ail hy fun c hc=>by rw [f1]; simp [hc]
  have hcat:sg ((⟨A.toArray⟩:Str)++⟨B.toArray⟩)=A++B:=by rw [qE,aaN,aaN]
  have lAB:low ((⟨A.toArray⟩:Str)++⟨B.toArray⟩):=fun c hc=>by
   rw [qE,List.mem_append] at hc
   rcases hc with z | z
   ·exact lA c z
   ·exact lB c z
  have t3:tst (op2 dNe (op2 qT (qU (lkp 0) (lkp 2)) (qu (lkp 0) (op2 qA (lkp 2) (cst (.int 1))))) (op2 Js (cst (.str (Str.ofString "o"))) (lkp 1))) [some (.str y),some (.int m),some (.int (A.length:Int))]=some (!decide ((⟨A.toArray⟩:Str)++⟨B.toArray⟩=os m)):=by
   refine j1 (jk (add_str (x:=⟨A.toArray⟩) (y:=⟨B.toArray⟩) ?_ ?_ ?_) (jk rfl rfl mo) (ali lAB (alo m)))
   ·rw [←s1]; exact aik rfl rfl (by omega)
   ·rw [←s2]; exact adS rfl (jk rfl rfl rfl) (by omega)
   ·rw [jX,jX,aaN,aaN]; omega
  by_cases h2:(y.length:Int)=m+1
  ·rw [decide_eq_true h2] at t2
   by_cases h3:(⟨A.toArray⟩:Str)++⟨B.toArray⟩=os m
   ·rw [decide_eq_true h3] at t3
    have g:=Zs (c:=false) fd (acN t1 (acN t2 t3))
    rw [if_neg (by decide)] at g
    have hAB:A++B=List.replicate m.toNat 111:=by rw [←hcat,h3,QX]
    have hA:A=List.replicate A.length 111:=List.eq_replicate_iff.mpr ⟨rfl,fun c hc=>by
     have:c ∈ List.replicate m.toNat 111:=by rw [←hAB]; simp [hc]
     exact (List.mem_replicate.mp this).2⟩
    have hB:B=List.replicate B.length 111:=List.eq_replicate_iff.mpr ⟨rfl,fun c hc=>by
     have:c ∈ List.replicate m.toNat 111:=by rw [←hAB]; simp [hc]
     exact (List.mem_replicate.mp this).2⟩
    refine .inl ⟨(A.length:Int),by omega,by omega,zU ?_,g⟩
    rw [acS,f1,show (m - (A.length:Int)).toNat=B.length by omega,Int.toNat_natCast,←hA,←hB]
   ·rw [decide_eq_false h3] at t3
    refine .inr ⟨fun a a0 a1 z=>h3 (zU ?_),Zs (c:=true) fd (acN t1 (acN t2 t3))⟩
    have zz:=congrArg sg z
    rw [f1,acS] at zz
    obtain ⟨z1,z2⟩:=Qw f2 (ah6 _) zz
    rw [hcat,QX,z1,z2,List.replicate_append_replicate]
    congr 1
    omega
  ·rw [decide_eq_false h2] at t2
   refine .inr ⟨fun a a0 a1 z=>h2 ?_,Zs (c:=true) fd (acN t1 (ajF t2))⟩
   have zz:=congrArg (fun w=>(sg w).length) z
   rw [←jX] at zz
   simp only [acS,List.length_append,List.length_cons,List.length_replicate] at zz
   omega
end
theorem aa6 {f:RP}{ρ:Rho}{d:PyData}{c:Bool} (h:f ρ=some d) (hc:aek d=c):op2 aho f (cst .none) ρ=some (.bool c):=jk h rfl (by show some (PyData.bool (aek d))=_; rw [hc])
theorem Zt {x p:Str}{c:Nat} (hx:low x) (hp:p ∈ Txt.split x ⟨#[c]⟩):low p/\p.length<=x.length:=by
 have hj:=StrLaws.join_split x ⟨#[c]⟩
 have key:∀ (ps:List Str),p ∈ ps->(∀ z ∈ sg p,z ∈ sg (Str.join ⟨#[c]⟩ ps))/\(sg p).length<=(sg (Str.join ⟨#[c]⟩ ps)).length:=by
  intro ps
  induction ps with
  | nil=>intro h; cases h
  | cons q r ih=>
   intro h
   cases r with
   | nil=>
    rw [List.mem_singleton.mp h]
    exact ⟨fun z hz=>hz,Nat.le_refl _⟩
   | cons q2 r2=>
    rw [qP]
    rcases List.mem_cons.mp h with z | z
    ·rw [z]
     exact ⟨fun w hw=>List.mem_append.mpr (.inl hw),by rw [List.length_append]; omega⟩
    ·obtain ⟨i1,i2⟩:=ih z
     exact ⟨fun w hw=>List.mem_append.mpr (.inr (List.mem_cons_of_mem _ (i1 w hw))),by rw [List.length_append,List.length_cons]; omega⟩
 obtain ⟨k1,k2⟩:=key _ hp
 rw [hj] at k1 k2
 exact ⟨fun z hz=>hx z (k1 z hz),by rw [jX,jX]; exact k2⟩
section
variable {u e l b:Int}{x1 x2 x4 x5 x6 x7:OP}
theorem aa7 {p:Int × Int}:Jm u p=aa5 u (u - p.1):=by
 unfold Jm aa5
 rw [show u - (u - p.1)=p.1 by omega]
theorem aeL {p:Int × Int}:JS l p=aa5 l p.2:=rfl
theorem alp {L:LP}{y:Str}{A:PyData} (sp:qR (.str y) (.str (Str.ofString "|"))=some (.list L)) (hl:¬ L.length=2):qS.1 [some (jv u e l b),x1,x2,some A,some (.str y),x5,x6,x7]=some (.rt .none):=by
 simp only [qS]
 refine (ju (ρ1:=[some (jv u e l b),x1,x2,some A,some (.str y),some (.list L),x6,x7]) (jG (i:=5) (jk rfl rfl sp))).trans ?_
 refine ZT ((ah4 (j1 (jk (jx rfl (show zH [.list L]=some (.int (L.length:Int)) from rfl)) rfl ?_))).trans (zV rfl))
 rw [ah1,decide_eq_false (by omega)]; rfl
theorem acT {h0 h1:PyData}{y:Str}{A S0 S1:PyData} (sp:qR (.str y) (.str (Str.ofString "|"))=some (.list [h0,h1])) (g0:Qk [h0,.int u]=some S0) (g1:Qk [h1,.int l]=some S1):
  (aek S0=true ∨ aek S1=true->qS.1 [some (jv u e l b),x1,x2,some A,some (.str y),x5,x6,x7]=some (.rt .none))/\
  (∀ a c p q A',S0= .tuple [a,p]->S1= .tuple [q,c]->qA A (.tuple [.tuple [p,q]])=some A'->qS.1 [some (jv u e l b),x1,x2,some A,some (.str y),x5,x6,x7]=some (.nx [some (jv u e l b),x1,x2,some A',some (.str y),some (.list [h0,h1]),some S0,some S1])):=by
 have st:∀ o,(ifS (orB (tst (op2 aho (lkp 6) (cst .none))) (tst (op2 aho (lkp 7) (cst .none)))) (jV (za (cst .none)) zj) zj [some (jv u e l b),x1,x2,some A,some (.str y),some (.list [h0,h1]),some S0,some S1]=o)->True:=fun _ _=>trivial
 constructor
 ·intro hn
  simp only [qS]
  refine (ju (ρ1:=[some (jv u e l b),x1,x2,some A,some (.str y),some (.list [h0,h1]),x6,x7]) (jG (i:=5) (jk rfl rfl sp))).trans ?_
  refine (ju (ρ1:=[some (jv u e l b),x1,x2,some A,some (.str y),some (.list [h0,h1]),x6,x7]) (agp (j1 (jk (jx rfl rfl) rfl rfl)))).trans ?_
  refine (ju (ρ1:=[some (jv u e l b),x1,x2,some A,some (.str y),some (.list [h0,h1]),some S0,x7]) (jG (i:=6) (jx (jy (jk rfl rfl rfl) (jy (jk rfl rfl (ix0 u e l b)) rfl)) g0))).trans ?_
  refine (ju (ρ1:=[some (jv u e l b),x1,x2,some A,some (.str y),some (.list [h0,h1]),some S0,some S1]) (jG (i:=7) (jx (jy (jk rfl rfl rfl) (jy (jk rfl rfl (ix2 u e l b)) rfl)) g1))).trans ?_
  refine ZT ((ah4 ?_).trans (zV rfl))
  cases hc:aek S0 with
  | true=>exact ajF (j1 (aa6 rfl hc))
  | false=>exact acN (j1 (aa6 rfl hc)) (j1 (aa6 rfl (hn.resolve_left (by rw [hc]; decide))))
 ·intro a c p q A' e0 e1 ad
  subst e0; subst e1
  simp only [qS]
  refine (ju (ρ1:=[some (jv u e l b),x1,x2,some A,some (.str y),some (.list [h0,h1]),x6,x7]) (jG (i:=5) (jk rfl rfl sp))).trans ?_
  refine (ju (ρ1:=[some (jv u e l b),x1,x2,some A,some (.str y),some (.list [h0,h1]),x6,x7]) (agp (j1 (jk (jx rfl rfl) rfl rfl)))).trans ?_
  refine (ju (ρ1:=[some (jv u e l b),x1,x2,some A,some (.str y),some (.list [h0,h1]),some (.tuple [a,p]),x7]) (jG (i:=6) (jx (jy (jk rfl rfl rfl) (jy (jk rfl rfl (ix0 u e l b)) rfl)) g0))).trans ?_
  refine (ju (ρ1:=[some (jv u e l b),x1,x2,some A,some (.str y),some (.list [h0,h1]),some (.tuple [a,p]),some (.tuple [q,c])]) (jG (i:=7) (jx (jy (jk rfl rfl rfl) (jy (jk rfl rfl (ix2 u e l b)) rfl)) g1))).trans ?_
  refine (ju (ρ1:=[some (jv u e l b),x1,x2,some A,some (.str y),some (.list [h0,h1]),some (.tuple [a,p]),some (.tuple [q,c])]) (agp (amt (j1 (aa6 rfl rfl)) (j1 (aa6 rfl rfl))))).trans ?_
  exact (ju (jG (i:=3) (jk rfl (aaX (jy (aaX (jy (jk rfl rfl rfl) (jy (jk rfl rfl rfl) rfl)) fw2) rfl) fw1) ad))).trans rfl
theorem aim {ps:PL}{p:Int × Int} (hl:ps.length<9000):qA (jQ ps) (.tuple [pr p])=some (jQ (ps++[p])):=by
 unfold jQ
 rw [List.map_append]
 cases ps with
 | nil=>rfl
 | cons q r=>
  show (if few (pr q::r.map pr++[pr p])=true then some (PyData.tuple (pr q::r.map pr++[pr p])) else none)=_
  rw [List.length_cons] at hl
  rw [if_pos (qh (by rw [List.length_append,List.length_cons,List.length_map,List.length_singleton]; omega))]; rfl
theorem ain (h:okN u e l b=true) {y:Str} (hy:low y) (hl:y.length<9000) {ps:PL} (hp:ps.length<9000):
  (∀ p,jK u l y=some p->∃ y5 y6 y7,qS.1 [some (jv u e l b),x1,x2,some (jQ ps),some (.str y),x5,x6,x7]=some (.nx [some (jv u e l b),x1,x2,some (jQ (ps++[p])),some (.str y),y5,y6,y7]))/\
  (jK u l y=none->qS.1 [some (jv u e l b),x1,x2,some (jQ ps),some (.str y),x5,x6,x7]=some (.rt .none)):=by
 obtain ⟨a1,a2,a3,a4,a5,a6,a7,a8,a9,a10⟩:=zh h
 have sp:=Jt (x:=y) 124 (by omega)
 rw [←s_b] at sp
 have hj:=StrLaws.join_split y ⟨#[124]⟩
 have hfree:=StrLaws.split_free y 124
 by_cases h2:(Txt.split y ⟨#[124]⟩).length=2
 ·obtain ⟨h0,h1,hs⟩:∃ h0 h1,Txt.split y ⟨#[124]⟩=[h0,h1]:=by
   match hm:Txt.split y ⟨#[124]⟩,h2 with
   | [h0,h1],_=>exact ⟨h0,h1,rfl⟩
  obtain ⟨l0,n0⟩:=Zt (p:=h0) hy (by rw [hs]; simp)
  obtain ⟨l1,n1⟩:=Zt (p:=h1) hy (by rw [hs]; simp)
  rw [s_b,hs] at sp
  rw [←s_b] at sp
  rw [hs] at hj
  have d0:=afG l0 (by omega) a1 (by omega:u<900)
  have d1:=afG l1 (by omega) (by omega:0<=l) (by omega:l<900)
  have noL:∀ p,jK u l y=some p->h0=Jm u p/\h1=JS l p/\okP u l p=true:=fun p hr=>by
   obtain ⟨hp,hy'⟩:=zY hr
   rw [aa2,←hj] at hy'
   have:=JJ 124 [h0,h1] [Jm u p,JS l p] (by simp) (by simp) (fun q hq=>by
    have:=hfree q (by rw [hs]; exact hq)
    exact this) (fun q hq=>by
    simp only [List.mem_cons,List.not_mem_nil,or_false] at hq
    rcases hq with rfl | rfl
    ·intro hc; rcases abY hc with z | z <;> omega
    ·intro hc; rcases abZ hc with z | z <;> omega) (congrArg sg hy')
   simp only [List.cons.injEq,and_true] at this
   exact ⟨this.1,this.2,hp⟩
  rcases d0 with ⟨a,a0,a1',e0,g0⟩ | ⟨n0',g0⟩
  ·rcases d1 with ⟨c,c0,c1',e1,g1⟩ | ⟨n1',g1⟩
   ·have hpq:okP u l (u - a,c)=true:=by
     unfold okP
     simp
     omega
    have hline:y=jw u l (u - a,c):=by
     rw [aa2,←hj,aa7,aeL,e0,e1]
     show Str.join ⟨#[124]⟩ [aa5 u a,aa5 l c]=Str.join ⟨#[124]⟩ [aa5 u (u - (u - a)),aa5 l c]
     rw [show u - (u - a)=a by omega]
    have hr:jK u l y=some (u - a,c):=by rw [hline]; exact aeH hpq
    have t:=(acT (e:=e) (b:=b) (x1:=x1) (x2:=x2) (x5:=x5) (x6:=x6) (x7:=x7) (A:=jQ ps) sp g0 g1).2 _ _ _ _ (jQ (ps++[(u - a,c)])) rfl rfl (aim (p:=(u - a,c)) hp)
    refine ⟨fun p hp'=>?_,fun z=>by rw [hr] at z; cases z⟩
    rw [hr] at hp'
    cases hp'
    exact ⟨_,_,_,t⟩
   ·have t:=(acT (e:=e) (b:=b) (x1:=x1) (x2:=x2) (x5:=x5) (x6:=x6) (x7:=x7) (A:=jQ ps) sp g0 g1).1 (.inr rfl)
    refine ⟨fun p hp'=>?_,fun _=>t⟩
    obtain ⟨q0,q1,q2⟩:=noL p hp'
    obtain ⟨r1,r2,r3,r4⟩:=zr q2
    exact absurd q1 (n1' p.2 r3 r4)
  ·have hS1:∃ S1,Qk [.str h1,.int l]=some S1:=by
    rcases d1 with ⟨c,_,_,_,g1⟩ | ⟨_,g1⟩
    ·exact ⟨_,g1⟩
    ·exact ⟨_,g1⟩
   obtain ⟨S1,g1⟩:=hS1
   have t:=(acT (e:=e) (b:=b) (x1:=x1) (x2:=x2) (x5:=x5) (x6:=x6) (x7:=x7) (A:=jQ ps) sp g0 g1).1 (.inl rfl)
   refine ⟨fun p hp'=>?_,fun _=>t⟩
   obtain ⟨q0,q1,q2⟩:=noL p hp'
   obtain ⟨r1,r2,r3,r4⟩:=zr q2
   rw [aa7] at q0
   exact absurd q0 (n0' (u - p.1) (by omega) (by omega))
 ·have t:=alp (u:=u) (e:=e) (l:=l) (b:=b) (x1:=x1) (x2:=x2) (x5:=x5) (x6:=x6) (x7:=x7) (A:=jQ ps) sp (by rw [List.length_map]; exact h2)
  refine ⟨fun p hp'=>?_,fun _=>t⟩
  obtain ⟨hp'',hy'⟩:=zY hp'
  refine absurd ?_ h2
  have h3:Txt.split y ⟨#[124]⟩=[Jm u p,JS l p]:=by
   rw [hy',aa2,JK 124 (by simp) (fun q hq=>by
    simp only [List.mem_cons,List.not_mem_nil,or_false] at hq
    rcases hq with rfl | rfl
    ·intro hc; rcases abY hc with z | z <;> omega
    ·intro hc; rcases abZ hc with z | z <;> omega)]
  rw [h3]; rfl
theorem aio (h:okN u e l b=true):∀ (ls:List Str) (ps:PL) (x4 x5 x6 x7:OP),(∀ y ∈ ls,low y/\y.length<9000)->ps.length+ls.length<9000->
  ((ls.all fun y=>(jK u l y).isSome)=true->∃ y4 y5 y6 y7,jI (j0 4) qS.1 (ls.map .str) [some (jv u e l b),x1,x2,some (jQ ps),x4,x5,x6,x7]=some (.nx [some (jv u e l b),x1,x2,some (jQ (ps++ls.filterMap (jK u l))),y4,y5,y6,y7]))/\
  ((ls.all fun y=>(jK u l y).isSome)=false->jI (j0 4) qS.1 (ls.map .str) [some (jv u e l b),x1,x2,some (jQ ps),x4,x5,x6,x7]=some (.rt .none)):=by
 intro ls
 induction ls with
 | nil=>
  intro ps x4 x5 x6 x7 _ _
  refine ⟨fun _=>⟨x4,x5,x6,x7,?_⟩,fun z=>(by cases z)⟩
  rw [List.filterMap_nil,List.append_nil]; rfl
 | cons y ls ih=>
  intro ps x4 x5 x6 x7 hy hl
  rw [List.length_cons] at hl
  obtain ⟨hy1,hy2⟩:=hy y List.mem_cons_self
  obtain ⟨t1,t2⟩:=ain h hy1 hy2 (ps:=ps) (by omega) (x1:=x1) (x2:=x2) (x5:=x5) (x6:=x6) (x7:=x7)
  cases hr:jK u l y with
  | some p=>
   obtain ⟨y5,y6,y7,t⟩:=t1 p hr
   obtain ⟨i1,i2⟩:=ih (ps++[p]) (some (.str y)) y5 y6 y7 (fun z hz=>hy z (List.mem_cons_of_mem _ hz)) (by rw [List.length_append,List.length_singleton]; omega)
   have ea:((y::ls).all fun y=>(jK u l y).isSome)=(ls.all fun y=>(jK u l y).isSome):=by rw [List.all_cons,hr]; rfl
   have ef:ps++(y::ls).filterMap (jK u l)=(ps++[p])++ls.filterMap (jK u l):=by rw [List.filterMap_cons,hr]; simp
   rw [ea,ef]
   have st:jI (j0 4) qS.1 ((y::ls).map .str) [some (jv u e l b),x1,x2,some (jQ ps),x4,x5,x6,x7]=jI (j0 4) qS.1 (ls.map .str) [some (jv u e l b),x1,x2,some (jQ (ps++[p])),some (.str y),y5,y6,y7]:=by
    show jI _ _ (.str y::ls.map .str) _=_
    rw [jI]
    simp only [j0,zzF,zzG,zzD,t]
   rw [st]
   exact ⟨i1,i2⟩
  | none=>
   have ea:((y::ls).all fun y=>(jK u l y).isSome)=false:=by rw [List.all_cons,hr]; rfl
   refine ⟨fun z=>(by rw [ea] at z; cases z),fun _=>?_⟩
   show jI _ _ (.str y::ls.map .str) _=_
   rw [jI]
   simp only [j0,zzF,zzG,zzD,t2 hr]
end
theorem aip (ds:LP) (x:PyData):QV (ds++[x]) none (some (-1))=ds:=by
 unfold QV
 have e1:HT.sIx (ds++[x]).length 0 none=0:=rfl
 have e2:HT.sIx (ds++[x]).length (ds++[x]).length (some (-1))=ds.length:=by
  rw [List.length_append,List.length_singleton]
  unfold HT.sIx
  simp
  omega
 rw [e1,e2,List.drop_zero,Nat.sub_zero,List.take_left]
theorem ajK (ds:LP) (x:PyData) (hl:ds.length<9000):dIx (.list (ds++[x])) (.int (-1))=some x:=by
 show (if (ds++[x]).length<1000000 then atI (ds++[x]) (-1) else none)=_
 rw [if_pos (by rw [List.length_append,List.length_singleton]; omega)]
 unfold atI
 have e:ixN (ds++[x]).length (-1)=some ds.length:=by
  unfold ixN
  rw [List.length_append,List.length_singleton]
  simp
  omega
 rw [e]
 simp
theorem adT (x:Str):Txt.endswith x ⟨#[10]⟩=true ↔ ∃ A,sg x=A++[10]:=by
 unfold Txt.endswith
 rw [StrLaws.subAt_eq]
 have l1:(⟨#[10]⟩:Str).length=1:=rfl
 rw [l1]
 show (decide (1<=x.length) && ((((sg x).drop (x.length - 1)).take 1) == [10]))=true ↔ _
 rw [Bool.and_eq_true,decide_eq_true_eq,jX]
 constructor
 ·rintro ⟨h1,h2⟩
  refine ⟨(sg x).take ((sg x).length - 1),?_⟩
  have h3:=List.take_append_drop ((sg x).length - 1) (sg x)
  have h4:((sg x).drop ((sg x).length - 1)).length=1:=by rw [List.length_drop]; omega
  rw [List.take_of_length_le (by omega)] at h2
  have h5:(sg x).drop ((sg x).length - 1)=[10]:=by simpa using h2
  rw [h5] at h3
  exact h3.symm
 ·rintro ⟨A,h⟩
  rw [h,List.length_append,List.length_singleton]
  simp
section
variable {u e l b:Int}
theorem ajL {M L F:PyData}{ls:LP}{y:Str}{x:Str}{c d:Bool}{y4 y5 y6 y7:OP} (sp:qR (.str x) (.str (Str.ofString "\n"))=some L) (sl:Q6 L none (some (-1))=some (.list ls)) (lp:jI (j0 4) qS.1 ls [some M,some (.str x),some L,some (.tuple []),none,none,none,none]=some (.nx [some M,some (.str x),some L,some F,y4,y5,y6,y7]))
  (il:dIx L (.int (-1))=some (.str y)) (eq:dEq (.str y) (.str (Str.ofString ""))=some (.bool c)) (is:JN [M,F]=some (.bool d)):Ql [M,.str x]=some (if (c && d)=true then F else .none):=by
 refine qC rfl ?_
 show abO.1 [some M,some (.str x),none,none,none,none,none,none]=_
 simp only [abO]
 refine (ju (ρ1:=[some M,some (.str x),some L,none,none,none,none,none]) (jG (i:=2) (jk rfl rfl sp))).trans ?_
 refine (ju (ρ1:=[some M,some (.str x),some L,some (.tuple []),none,none,none,none]) (jG (i:=3) (aaX rfl aft))).trans ?_
 have it:itS (zS (lkp 2) (fun ρ=>(cst (.int 1) ρ).bind abi)) [some M,some (.str x),some L,some (.tuple []),none,none,none,none]=some ls:=by
  show (Q6 L none (some (-1))).bind Ja=_
  rw [sl]; rfl
 refine (ju (aaW it lp)).trans ?_
 refine zV ?_
 have tt:abf (tst (op2 dEq (op2 dIx (lkp 2) (fun ρ=>(cst (.int 1) ρ).bind abi)) (cst (.str (Str.ofString ""))))) (tst (jS JN (jp (lkp 0) (jp (lkp 3) jM)))) [some M,some (.str x),some L,some F,y4,y5,y6,y7]=some (c && d):=alg (j1 (jk (jk rfl rfl il) rfl eq)) fun _=>j1 (jx rfl is)
 unfold ifD
 rw [tt]
 cases (c && d) <;> rfl
theorem ajM {M L:PyData}{ls:LP}{x:Str} (sp:qR (.str x) (.str (Str.ofString "\n"))=some L) (sl:Q6 L none (some (-1))=some (.list ls)) (lp:jI (j0 4) qS.1 ls [some M,some (.str x),some L,some (.tuple []),none,none,none,none]=some (.rt .none)):Ql [M,.str x]=some .none:=by
 refine qC rfl ?_
 show abO.1 [some M,some (.str x),none,none,none,none,none,none]=_
 simp only [abO]
 refine (ju (ρ1:=[some M,some (.str x),some L,none,none,none,none,none]) (jG (i:=2) (jk rfl rfl sp))).trans ?_
 refine (ju (ρ1:=[some M,some (.str x),some L,some (.tuple []),none,none,none,none]) (jG (i:=3) (aaX rfl aft))).trans ?_
 have it:itS (zS (lkp 2) (fun ρ=>(cst (.int 1) ρ).bind abi)) [some M,some (.str x),some L,some (.tuple []),none,none,none,none]=some ls:=by
  show (Q6 L none (some (-1))).bind Ja=_
  rw [sl]; rfl
 exact ZT (aaW it lp)
theorem acU:∀ (ls:List Str),(ls.all fun y=>(jK u l y).isSome)=true->(ls.filterMap (jK u l)).length=ls.length/\(ls.filterMap (jK u l)).all (okP u l)=true/\ls=(ls.filterMap (jK u l)).map (jw u l)
 | [],_=>⟨rfl,rfl,rfl⟩
 | y::ls,h=>by
  rw [List.all_cons,Bool.and_eq_true] at h
  obtain ⟨i1,i2,i3⟩:=acU ls h.2
  obtain ⟨p,hp⟩:=Option.isSome_iff_exists.mp h.1
  obtain ⟨q1,q2⟩:=zY hp
  rw [List.filterMap_cons,hp]
  refine ⟨by simp [i1],by simp only [List.all_cons,q1,i2]; rfl,?_⟩
  rw [List.map_cons,←q2,←i3]
theorem alq:∀ (ls:List Str) (x:OP),(ls.all fun y=>(jK u l y).isSome)=true->jY (j0 0) QT (op2 Z5 (lkp 1) (lkp 0)) (ls.map .str) [x,some (knD u l)]=some ((ls.filterMap (jK u l)).map pr):=by
 intro ls x h
 obtain ⟨_,h2,h3⟩:=acU ls h
 have:=aa0 (ls.filterMap (jK u l)) x h2
 rw [←h3] at this
 exact this
theorem adU (H:QI=true) (h:okN u e l b=true) {x:Str} (hx:okT x):∃ d,JP [jv u e l b,.str x]=some d/\Ql [jv u e l b,.str x]=some d/\(d= .none ∨ ∃ ps,d=jQ ps):=by
 obtain ⟨lx,hl⟩:=hx
 have ck:=QC (ahW H h)
 have tk:=abS (ahW H h)
 have sp:=Jt (x:=x) 10 (by omega)
 rw [←s_n] at sp
 have hj:=StrLaws.join_split x ⟨#[10]⟩
 have hfree:=StrLaws.split_free x 10
 have hpos:=split_pos x ⟨#[10]⟩
 have hle:=split_le x ⟨#[10]⟩
 rw [s_n] at sp
 obtain ⟨ls,last,hs⟩:∃ ls last,Txt.split x ⟨#[10]⟩=ls++[last]:=by
  have hne:Txt.split x ⟨#[10]⟩ ≠ []:=fun z=>by rw [z] at hpos; simp at hpos
  exact ⟨_,_,(List.dropLast_concat_getLast hne).symm⟩
 rw [hs] at sp hj
 rw [hs,List.length_append,List.length_singleton] at hle
 rw [←s_n] at sp
 have lowp:∀ y ∈ ls,low y/\y.length<9000:=fun y hy=>by
  obtain ⟨p1,p2⟩:=Zt (c:=10) lx (show y ∈ Txt.split x ⟨#[10]⟩ by rw [hs]; simp [hy])
  exact ⟨p1,by omega⟩
 have lowl:low last:=(Zt (c:=10) lx (show last ∈ Txt.split x ⟨#[10]⟩ by rw [hs]; simp)).1
 have hfl:∀ y ∈ ls,10 ∉ sg y:=fun y hy=>hfree y (by rw [hs]; simp [hy])
 have hfla:10 ∉ sg last:=hfree last (by rw [hs]; simp)
 rw [List.map_append] at sp
 have sl:Q6 (.list (ls.map .str++[last].map .str)) none (some (-1))=some (.list (ls.map .str)):=by
  show some (PyData.list (QV _ none (some (-1))))=_
  exact congrArg (fun z=>some (PyData.list z)) (aip _ _)
 have il:dIx (.list (ls.map .str++[last].map .str)) (.int (-1))=some (.str last):=ajK _ _ (by rw [List.length_map]; omega)
 have sg0:low Str.empty:=fun c hc=>by cases hc
 have eq:=alh lowl sg0
 rw [←s_0] at eq
 obtain ⟨q1,q2⟩:=aio h (x1:=some (.str x)) (x2:=some (.list (ls.map .str++[last].map .str))) ls [] none none none none lowp (by simp; omega)
 have isx:∀ ps:PL,JN [jv u e l b,jQ ps]=some (.bool (okS u l ps)):=fun ps=>by
  rw [abR ck _ (adL ps),abT]
 have due:Ql [jv u e l b,.str x]=some (if (ls.all fun y=>(jK u l y).isSome)=true/\last=Str.empty/\okS u l (ls.filterMap (jK u l))=true then jQ (ls.filterMap (jK u l)) else .none):=by
  by_cases ha:(ls.all fun y=>(jK u l y).isSome)=true
  ·obtain ⟨y4,y5,y6,y7,lp⟩:=q1 ha
   rw [List.nil_append] at lp
   have:=ajL sp sl lp il eq (isx _)
   rw [this]
   congr 1
   by_cases hl0:last=Str.empty
   ·by_cases ho:okS u l (ls.filterMap (jK u l))=true
    ·rw [if_pos (c:=(_ && _)=true) (by rw [decide_eq_true (show last=Str.ofString "" by rw [hl0,s_0]),ho]; rfl),if_pos ⟨ha,hl0,ho⟩]
    ·rw [if_neg (c:=(_ && _)=true) (by rw [show okS u l (ls.filterMap (jK u l))=false by simpa using ho,Bool.and_false]; decide),if_neg (fun z=>ho z.2.2)]
   ·rw [if_neg (c:=(_ && _)=true) (by rw [decide_eq_false (show ¬ last=Str.ofString "" by rw [s_0]; exact hl0),Bool.false_and]; decide),if_neg (fun z=>hl0 z.2.1)]
  ·have ha':(ls.all fun y=>(jK u l y).isSome)=false:=by simpa using ha
   rw [ajM sp sl (q2 ha'),if_neg (fun z=>ha z.1)]
 have nonE:∀ (he:Txt.endswith x ⟨#[10]⟩=false),JP [jv u e l b,.str x]=some .none:=fun he=>by
  obtain ⟨c1,c2⟩:=aic he
  obtain ⟨r1,r2⟩:=aig ck tk c1 c2
  exact afF r1 r2
 by_cases hl0:last=Str.empty
 ·subst hl0
  cases ls with
  | nil=>
   refine ⟨.none,?_,?_,.inl rfl⟩
   ·refine nonE ?_
    have:x=Str.empty:=hj.symm
    rw [this]; rfl
   ·rw [due,if_neg (fun z=>by simp [okS] at z)]
  | cons y0 r0=>
   generalize hls:y0::r0=ls at*
   have hne:ls ≠ []:=by rw [←hls]; simp
   have hsx:sg x=sg (Str.join ⟨#[10]⟩ ls)++[10]:=by
    rw [←hj,QG 10 _ _ hne]; rfl
   have hend:Txt.endswith x ⟨#[10]⟩=true:=(adT x).mpr ⟨_,hsx⟩
   have hcut:Txt.slice x none (some (-1))=Str.join ⟨#[10]⟩ ls:=by
    refine zU ?_
    have hL:(sg x).length=(sg (Str.join ⟨#[10]⟩ ls)).length+1:=by rw [hsx]; simp
    rw [Qj,jX,hL,hsx]
    generalize sg (Str.join ⟨#[10]⟩ ls)=L
    have c1:zm none 0 (L.length+1)=0:=rfl
    have c2:zm (some (-1)) (L.length+1) (L.length+1)=L.length:=by
     show (max 0 (min (if (-1:Int)<0 then (-1)+((L.length+1:Nat):Int) else (-1)) ((L.length+1:Nat):Int))).toNat=L.length
     rw [if_pos (by omega)]; omega
    rw [c1,c2,List.drop_zero,Nat.sub_zero,List.take_append_of_le_length (Nat.le_refl _),List.take_length]
   have jl:(Str.join ⟨#[10]⟩ ls).length<900000:=by
    rw [←hcut]
    have:=Txt.slice_le x none (some (-1))
    omega
   have sp2:qR (.str (Str.join ⟨#[10]⟩ ls)) (.str (Str.ofString "\n"))=some (.list (ls.map .str)):=by
    rw [s_n,Jt 10 jl,JK 10 hne hfl]
   have slr:qU (lkp 1) (fun ρ=>(cst (.int 1) ρ).bind abi) [some (jv u e l b),some (.str x),some (knD u l),none]=some (.str (Str.join ⟨#[10]⟩ ls)):=by
    show (if x.length<1000000 then some (PyData.str (Txt.slice x none (some (-1)))) else none)=_
    rw [if_pos (by omega),hcut]
   have ln:zH [.list (ls.map .str)]=some (.int ((ls.map PyData.str).length:Int)):=rfl
   have fw:few (ls.map PyData.str)=true:=qh (by rw [List.length_map]; omega)
   by_cases hok:(ls.all fun y=>(jK u l y).isSome)=true/\ls.length<=4
   ·obtain ⟨ha,h4⟩:=hok
    obtain ⟨f1,f2,f3⟩:=acU ls ha
    have hpos':1<=ls.length:=by
     cases ls with
     | nil=>exact absurd rfl hne
     | cons _ _=>simp
    have hS:okS u l (ls.filterMap (jK u l))=true:=ahX (by omega) (by omega) f2
    have al:=all_map (ls.map fun y=>(jK u l y).isSome)
    have al2:(ls.map fun y=>(jK u l y).isSome).all id=true:=by rw [List.all_map]; exact ha
    rw [al2] at al
    refine ⟨_,ab0 (abX ck (aa1 hend) (zW h) slr sp2 ln (by rw [List.length_map]; exact h4) fw (acR ls none) al (alq ls none ha) (T:=jQ (ls.filterMap (jK u l))) rfl),?_,.inr ⟨_,rfl⟩⟩
    rw [due,if_pos ⟨ha,rfl,hS⟩]
   ·refine ⟨.none,?_,?_,.inl rfl⟩
    ·obtain ⟨r1,r2⟩:=aih ck tk (aa1 hend) (agv hend) (zW h) slr sp2 ln fw (acR ls none) (all_map _) (by
      by_cases h4:ls.length<=4
      ·refine .inr ?_
       rw [List.all_map]
       have:¬ (ls.all fun y=>(jK u l y).isSome)=true:=fun z=>hok ⟨z,h4⟩
       simpa using this
      ·exact .inl (by rw [List.length_map]; omega))
     exact afF r1 r2
    ·rw [due,if_neg (fun z=>hok ⟨z.1,?_⟩)]
     obtain ⟨f1,f2,f3⟩:=acU ls z.1
     have:=(abP z.2.2).2.1
     omega
 ·refine ⟨.none,?_,?_,.inl rfl⟩
  ·refine nonE ?_
   cases he:Txt.endswith x ⟨#[10]⟩ with
   | false=>rfl
   | true=>
    obtain ⟨A,hA⟩:=(adT x).mp he
    refine absurd ?_ hfla
    have hsl:∃ Z,sg x=Z++sg last:=by
     cases ls with
     | nil=>exact ⟨[],by rw [←hj]; rfl⟩
     | cons y0 r0=>exact ⟨sg (Str.join ⟨#[10]⟩ (y0::r0))++[10],by rw [←hj,QG 10 _ _ (by simp)]; simp⟩
    obtain ⟨Z,hZ⟩:=hsl
    have hne:sg last ≠ []:=fun z=>hl0 (zU z)
    have h1:(sg x).getLast?=some 10:=by rw [hA]; simp
    have h2:(sg last).getLast?=some 10:=by
     rw [hZ,List.getLast?_append] at h1
     cases hq:(sg last).getLast? with
     | none=>exact absurd (List.getLast?_eq_none_iff.mp hq) hne
     | some v=>rw [hq] at h1; simpa using h1
    exact List.mem_of_getLast? h2
  ·rw [due,if_neg (fun z=>hl0 z.2.1)]
end
noncomputable def gt (n:Nat) (x:Str):Prop:=low x/\x.length<=n
noncomputable def IsT (n:Nat) (f:RP) (ρ:Rho):Prop:=∃ x,f ρ=some (.str x)/\gt n x
noncomputable def Qm (n k:Nat) (f:RP) (ρ:Rho):Prop:=∃ ts:List Str,f ρ=some (.list (ts.map .str))/\(∀ t ∈ ts,gt n t)/\ts.length<=k
noncomputable def aa8 (n k:Nat) (f:Rho->Option (LP)) (ρ:Rho):Prop:=∃ ts:List Str,f ρ=some (ts.map .str)/\(∀ t ∈ ts,gt n t)/\ts.length=k
noncomputable def IsI (f:RP) (ρ:Rho):Prop:=∃ i,f ρ=some (.int i)
theorem gt.mono {n m:Nat}{x:Str} (h:gt n x) (hm:n<=m):gt m x:=⟨h.1,Nat.le_trans h.2 hm⟩
theorem IsT.mono {n m:Nat}{f:RP}{ρ:Rho} (h:IsT n f ρ) (hm:n<=m):IsT m f ρ:=by
 obtain ⟨x,h1,h2⟩:=h
 exact ⟨x,h1,h2.mono hm⟩
theorem aa9 {n:Nat}{x:Str} (h:gt n x) (lo hi:Option Int):gt n (Txt.slice x lo hi):=by
 refine ⟨fun c hc=>?_,Nat.le_trans (Txt.slice_le x lo hi) h.2⟩
 rw [Qj] at hc
 exact h.1 c (List.mem_of_mem_drop (List.mem_of_mem_take hc))
theorem alr {n m:Nat}{x y:Str} (h1:gt n x) (h2:gt m y):gt (n+m) (x++y):=by
 refine ⟨fun c hc=>?_,?_⟩
 ·rw [qE,List.mem_append] at hc
  rcases hc with z | z
  ·exact h1.1 c z
  ·exact h2.1 c z
 ·rw [Str.length_append]
  have:=h1.2
  have:=h2.2
  omega
theorem als {n:Nat}{x:Str} (h:gt n x):gt n (aag x):=by
 refine ⟨fun c hc=>?_,?_⟩
 ·rw [ahH,List.mem_reverse] at hc
  exact h.1 c hc
 ·rw [jX,ahH,List.length_reverse,←jX]
  exact h.2
theorem ZU (A:Array Nat):∀ (n:Nat) (acc:Array Nat),((List.replicate n A).foldl (·++·) acc).toList=acc.toList++(List.replicate n A.toList).flatten
 | 0,acc=>by simp
 | n+1,acc=>by
  rw [List.replicate_succ,List.foldl_cons,ZU A n,Array.toList_append,List.append_assoc,List.replicate_succ]; rfl
theorem ajN {x:Str}{n:Int}{c:Nat} (h:c ∈ sg (Txt.mul x n)):c ∈ sg x:=by
 unfold Txt.mul at h
 split at h
 ·cases h
 ·split at h
  ·exact h
  ·have h:c ∈ ((List.replicate n.toNat x.cps).foldl (·++·) #[]).toList:=h
   rw [ZU] at h
   simp only [List.nil_append,List.mem_flatten] at h
   obtain ⟨L,hL,hc⟩:=h
   rw [(List.mem_replicate.mp hL).2] at hc
   exact hc
theorem ajO {x:Str}{n:Nat}:(Txt.mul x (n:Int)).length<=n*x.length:=by
 unfold Txt.mul
 split
 ·show 0<=_
  omega
 ·split
  ·rename_i h1 h2
   rw [Bool.or_eq_true] at h2
   rcases h2 with z | z
   ·have:(n:Int)=1:=by simpa using z
    have:n=1:=by omega
    rw [this]; omega
   ·have:x.length=0:=by simpa using z
    rw [this]; omega
  ·rw [jX]
   show ((List.replicate (n:Int).toNat x.cps).foldl (·++·) #[]).toList.length<=_
   rw [ZU,Int.toNat_natCast,jX]
   show ([]++(List.replicate n (sg x)).flatten).length<=_
   rw [List.nil_append,List.length_flatten,List.map_replicate,List.sum_replicate_nat]
   exact Nat.le_refl _
theorem alu {n k:Nat}{x:Str} (h:gt n x):gt (k*n) (Txt.mul x (k:Int)):=by
 refine ⟨fun c hc=>h.1 c (ajN hc),Nat.le_trans ajO (Nat.mul_le_mul_left k h.2)⟩
theorem adV {s:Str}:∀ {ts:List Str}{c:Nat},c ∈ sg (Str.join s ts)->c ∈ sg s ∨ ∃ t ∈ ts,c ∈ sg t
 | [],c,h=>by cases h
 | [x],c,h=> .inr ⟨x,List.mem_cons_self,h⟩
 | x::y::r,c,h=>by
  have h:c ∈ sg (x++s++Str.join s (y::r)):=h
  rw [qE,qE,List.mem_append,List.mem_append] at h
  rcases h with (z | z) | z
  ·exact .inr ⟨x,List.mem_cons_self,z⟩
  ·exact .inl z
  ·rcases adV z with w | ⟨t,ht,w⟩
   ·exact .inl w
   ·exact .inr ⟨t,List.mem_cons_of_mem _ ht,w⟩
theorem adW {s:Str}{n:Nat}:∀ {ts:List Str},(∀ t ∈ ts,t.length<=n)->(Str.join s ts).length<=ts.length*(n+s.length)
 | [],_=>Nat.zero_le _
 | [x],h=>by
  have:=h x List.mem_cons_self
  show x.length<=1*_
  omega
 | x::y::r,h=>by
  have h1:=h x List.mem_cons_self
  have ih:=adW (s:=s) (ts:=y::r) fun t ht=>h t (List.mem_cons_of_mem _ ht)
  have:(Str.join s (x::y::r)).length=x.length+s.length+(Str.join s (y::r)).length:=by
   show (x++s++Str.join s (y::r)).length=_
   rw [Str.length_append,Str.length_append]
  rw [this,List.length_cons,Nat.succ_mul]
  omega
theorem ajP {n k:Nat}{ts:List Str} (h:∀ t ∈ ts,gt n t) (hk:ts.length<=k):gt (k*(n+1)) (Str.join ⟨#[10]⟩ ts):=by
 refine ⟨fun c hc=>?_,?_⟩
 ·rcases adV hc with z | ⟨t,ht,z⟩
  ·rw [Ji,List.mem_singleton] at z
   omega
  ·exact (h t ht).1 c z
 ·exact Nat.le_trans (adW (n:=n) fun t ht=>(h t ht).2) (Nat.mul_le_mul_right _ hk)
section
variable {n m k j:Nat}{f g h3:RP}{fs:Rho->Option (LP)}{ρ:Rho}
theorem ZV (h:IsT n f ρ) (hi:IsI g ρ) (hn:n<9000):IsT n (qU f g) ρ:=by
 obtain ⟨x,h1,h2⟩:=h
 obtain ⟨i,hi⟩:=hi
 exact ⟨_,aik h1 hi (by have:=h2.2; omega),aa9 h2 _ _⟩
theorem Qn (h:IsT n f ρ) (hi:IsI g ρ) (hn:n<9000):IsT n (qu f g) ρ:=by
 obtain ⟨x,h1,h2⟩:=h
 obtain ⟨i,hi⟩:=hi
 exact ⟨_,adS h1 hi (by have:=h2.2; omega),aa9 h2 _ _⟩
theorem aiq (h:IsT n f ρ) (hi:IsI g ρ) (hj:IsI h3 ρ) (hn:n<9000):IsT n (zv f g h3) ρ:=by
 obtain ⟨x,h1,h2⟩:=h
 obtain ⟨i,hi⟩:=hi
 obtain ⟨j,hj⟩:=hj
 refine ⟨Txt.slice x (some i) (some j),?_,aa9 h2 _ _⟩
 unfold zv
 rw [h1,zzD,hi,zzD]
 show ((h3 ρ).bind _)=_
 rw [hj,zzD]
 show (if x.length<1000000 then some (PyData.str (Txt.slice x (some i) (some j))) else none)=_
 have:=h2.2
 rw [if_pos (by omega)]
theorem zx (h:IsT n f ρ) (h':IsT m g ρ) (hn:n+m<9000):IsT (n+m) (op2 qT f g) ρ:=by
 obtain ⟨x,h1,h2⟩:=h
 obtain ⟨y,h4,h5⟩:=h'
 have:=h2.2
 have:=h5.2
 exact ⟨_,add_str h1 h4 (by omega),alr h2 h5⟩
theorem afH (h:IsT n f ρ) (hn:n<9000):IsT n (fun ρ=>(f ρ).bind abK) ρ:=by
 obtain ⟨x,h1,h2⟩:=h
 refine ⟨aag x,?_,als h2⟩
 show (f ρ).bind abK=_
 rw [h1,zzD]
 show (if x.length<1000000 then some (PyData.str (aag x)) else none)=_
 have:=h2.2
 rw [if_pos (by omega)]
theorem afI (h:IsT n f ρ) (hn:n<=1000) (hk:k<1000):IsT (k*n) (op2 Js f (cst (.int (k:Int)))) ρ:=by
 obtain ⟨x,h1,h2⟩:=h
 refine ⟨_,jk h1 rfl ?_,alu h2⟩
 show (if x.length<=1000/\-1000<(k:Int)/\(k:Int)<1000 then some (PyData.str (Txt.mul x k)) else none)=_
 have:=h2.2
 rw [if_pos ⟨by omega,by omega,by omega⟩]
theorem Zu {s:String} (hl:(Str.ofString s).length<=n) (hc:(Str.ofString s).cps.all (fun c=>decide (c<1114112))=true):IsT n (cst (.str (Str.ofString s))) ρ:=by
 refine ⟨_,rfl,⟨fun c hc'=>?_,hl⟩⟩
 rw [←Array.all_toList] at hc
 exact of_decide_eq_true (List.all_eq_true.mp hc c hc')
theorem JA:aa8 n 0 jM ρ:=⟨[],rfl,(fun t ht=>nomatch ht),rfl⟩
theorem jE (h:IsT n f ρ) (hr:aa8 n k fs ρ):aa8 n (k+1) (jp f fs) ρ:=by
 obtain ⟨x,h1,h2⟩:=h
 obtain ⟨ts,h4,h5,h6⟩:=hr
 refine ⟨x::ts,jy h1 h4,fun t ht=>?_,by simp [h6]⟩
 rcases List.mem_cons.mp ht with rfl | z
 ·exact h2
 ·exact h5 t z
theorem adX (hr:aa8 n k fs ρ) (hk:k<9000):Qm n k (ZA fs) ρ:=by
 obtain ⟨ts,h4,h5,h6⟩:=hr
 exact ⟨ts,acM h4 (qh (by rw [List.length_map]; omega)),h5,by omega⟩
theorem zZ (h:Qm n k f ρ) (h':Qm n j g ρ) (hk:k+j<9000):Qm n (k+j) (op2 qA f g) ρ:=by
 obtain ⟨ts,h1,h2,h4⟩:=h
 obtain ⟨us,h5,h6,h7⟩:=h'
 refine ⟨ts++us,jk h1 h5 ?_,fun t ht=>?_,by rw [List.length_append]; omega⟩
 ·rw [List.map_append]
  show (if few (ts.map PyData.str++us.map PyData.str)=true then some (PyData.list (ts.map PyData.str++us.map PyData.str)) else none)=_
  rw [if_pos (qh (by rw [List.length_append,List.length_map,List.length_map]; omega))]
 ·rcases List.mem_append.mp ht with z | z
  ·exact h2 t z
  ·exact h6 t z
theorem aba (ts:List Str) (lo hi:Option Int):∃ us:List Str,QV (ts.map PyData.str) lo hi=us.map .str/\(∀ t ∈ us,t ∈ ts)/\us.length<=ts.length:=by
 unfold QV
 refine ⟨(ts.drop (HT.sIx (ts.map PyData.str).length 0 lo)).take (HT.sIx (ts.map PyData.str).length (ts.map PyData.str).length hi - HT.sIx (ts.map PyData.str).length 0 lo),by rw [List.map_take,List.map_drop],fun t ht=>List.mem_of_mem_drop (List.mem_of_mem_take ht),?_⟩
 rw [List.length_take,List.length_drop]; omega
theorem aat (h:Qm n k f ρ) (hi:IsI g ρ):Qm n k (zS f g) ρ:=by
 obtain ⟨ts,h1,h2,h4⟩:=h
 obtain ⟨i,hi⟩:=hi
 obtain ⟨us,c1,c2,c3⟩:=aba ts none (some i)
 refine ⟨us,?_,fun t ht=>h2 t (c2 t ht),by omega⟩
 unfold zS
 rw [h1,zzD,hi,zzD]
 show some (PyData.list (QV (ts.map .str) none (some i)))=_
 rw [c1]
theorem QH (h:Qm n k f ρ) (hi:IsI g ρ):Qm n k (qI f g) ρ:=by
 obtain ⟨ts,h1,h2,h4⟩:=h
 obtain ⟨i,hi⟩:=hi
 obtain ⟨us,c1,c2,c3⟩:=aba ts (some i) none
 refine ⟨us,?_,fun t ht=>h2 t (c2 t ht),by omega⟩
 unfold qI
 rw [h1,zzD,hi,zzD]
 show some (PyData.list (QV (ts.map .str) (some i) none))=_
 rw [c1]
theorem agw (h:Qm n k f ρ) (hi:IsI g ρ) (hj:IsI h3 ρ):Qm n k (zw f g h3) ρ:=by
 obtain ⟨ts,h1,h2,h4⟩:=h
 obtain ⟨i,hi⟩:=hi
 obtain ⟨j,hj⟩:=hj
 obtain ⟨us,c1,c2,c3⟩:=aba ts (some i) (some j)
 refine ⟨us,?_,fun t ht=>h2 t (c2 t ht),by omega⟩
 unfold zw
 rw [h1,zzD,hi,zzD]
 show (h3 ρ).bind _=_
 rw [hj,zzD]
 show some (PyData.list (QV (ts.map .str) (some i) (some j)))=_
 rw [c1]
theorem air (h:Qm n k f ρ):Qm n k (fun ρ=>(f ρ).bind agc) ρ:=by
 obtain ⟨ts,h1,h2,h4⟩:=h
 refine ⟨ts.reverse,?_,fun t ht=>h2 t (List.mem_reverse.mp ht),by rw [List.length_reverse]; exact h4⟩
 show (f ρ).bind agc=_
 rw [h1,zzD]
 show some (PyData.list (ts.map PyData.str).reverse)=_
 rw [List.map_reverse]
theorem Zv (h:Qm n k g ρ) (hn:k*(n+1)<9000):IsT (k*(n+1)) (op2 JT (cst (.str (Str.ofString "\n"))) g) ρ:=by
 obtain ⟨ts,h1,h2,h4⟩:=h
 refine ⟨Str.join ⟨#[10]⟩ ts,jk rfl h1 ?_,ajP h2 h4⟩
 rw [s_n]
 have hok:JoinOk ⟨#[10]⟩ ts=true:=by
  unfold JoinOk
  rw [StrLaws.joinFits (B:=n) (fun y hy=>(h2 y hy).2) (by
   show ts.length*n+ts.length*1<=16777216
   have:ts.length*(n+1)<=k*(n+1):=Nat.mul_le_mul_right _ h4
   rw [Nat.mul_add,Nat.mul_one] at this
   omega)]
  rfl
 show ((zF (ts.map .str)).bind fun texts=>if JoinOk ⟨#[10]⟩ texts=true then some (PyData.str (Txt.join ⟨#[10]⟩ texts)) else none)=_
 rw [QZ,zzD,if_pos hok,adx]
theorem ZW {own:Option Nat}{d:PyData} (h:f (hid own ρ)=some d):brw own f ρ=some d:=by
 unfold brw; rw [h]
end
section
variable {S M:PyData}{x2 x3 x4 x5 x8 x9 x11 x12 x13 x14 x15 x16:OP}{LS:List Str}{nl:Nat}
theorem amx (dr:∀ k m:Int,0<=k->0<m->∃ r,JO [S,.int k,.int m]=some (.int r)/\0<=r/\r<m) (hL:LS.length=nl+1) (h4:nl<=4) (hg:∀ t ∈ LS,gt 100 t) {k:Nat} (hk:k<nl) (h2:∀ x,LS[k]?=some x->2<=x.length) {ts:List Str} (hl:ts.length<1000):
  ∃ t',gt 5000 t'/\∃ y11 y12 y13 y14 y15,afr.1 [some S,some M,x2,x3,x4,x5,some (.list (ts.map .str)),some (.list (LS.map .str)),x8,x9,some (.int (k:Int)),x11,x12,x13,x14,x15,x16]=some (.nx [some S,some M,x2,x3,x4,x5,some (.list ((ts++[t']).map .str)),some (.list (LS.map .str)),x8,x9,some (.int (k:Int)),y11,y12,y13,y14,y15,x16]):=by
 have hx:LS[k]?=some (LS[k]'(by omega)):=List.getElem?_eq_getElem (by omega)
 have h2':=h2 _ hx
 have gl:gt 100 (LS[k]'(by omega)):=hg _ (List.getElem_mem _)
 generalize LS[k]'(by omega)=ln at hx h2' gl
 have ixl:=aec hx (by omega)
 have ll:=len_str (x:=ln) (by have:=gl.2; omega)
 obtain ⟨w,dw,w0,w1⟩:=dr (40+(k:Int)) ((ln.length:Int) - 1) (by omega) (by omega)
 obtain ⟨two,e13,g13⟩:IsT 100 (zv (lkp 11) (lkp 12) (op2 qA (lkp 12) (cst (.int 2)))) [some S,some M,x2,x3,x4,x5,none,some (.list (LS.map .str)),x8,x9,some (.int (k:Int)),some (.str ln),some (.int w),x13,x14,x15,x16]:=aiq ⟨_,rfl,gl⟩ ⟨_,rfl⟩ ⟨_,rfl⟩ (by omega)
 obtain ⟨oth,e14,g14,l14⟩:aa8 300 4 (jp (op2 qT (op2 qT (qU (lkp 11) (lkp 12)) (fun ρ=>(lkp 13 ρ).bind abK)) (qu (lkp 11) (op2 qA (lkp 12) (cst (.int 2))))) (jp (op2 qT (lkp 11) (cst (.str (Str.ofString "o")))) (jp (op2 qT (cst (.str (Str.ofString "o"))) (lkp 11)) (jp (fun ρ=>(lkp 11 ρ).bind abK) jM)))) [some S,some M,x2,x3,x4,x5,none,some (.list (LS.map .str)),x8,x9,some (.int (k:Int)),some (.str ln),some (.int w),some (.str two),x14,x15,x16]:=by
  have a1:IsT 100 (lkp 11) [some S,some M,x2,x3,x4,x5,none,some (.list (LS.map .str)),x8,x9,some (.int (k:Int)),some (.str ln),some (.int w),some (.str two),x14,x15,x16]:=⟨_,rfl,gl⟩
  have a2:IsT 100 (lkp 13) [some S,some M,x2,x3,x4,x5,none,some (.list (LS.map .str)),x8,x9,some (.int (k:Int)),some (.str ln),some (.int w),some (.str two),x14,x15,x16]:=⟨_,rfl,g13⟩
  have a3:IsT 1 (cst (.str (Str.ofString "o"))) [some S,some M,x2,x3,x4,x5,none,some (.list (LS.map .str)),x8,x9,some (.int (k:Int)),some (.str ln),some (.int w),some (.str two),x14,x15,x16]:=Zu (by decide +kernel) (by decide +kernel)
  exact jE (zx (zx (ZV a1 ⟨_,rfl⟩ (by omega)) (afH a2 (by omega)) (by omega)) (Qn a1 ⟨_,rfl⟩ (by omega)) (by omega)) (jE ((zx a1 a3 (by omega)).mono (by omega)) (jE ((zx a3 a1 (by omega)).mono (by omega)) (jE ((afH a1 (by omega)).mono (by omega)) JA)))
 obtain ⟨v,dv,v0,v1⟩:=dr (50+(k:Int)) 4 (by omega) (by omega)
 obtain ⟨vn,rfl⟩:=Int.eq_ofNat_of_zero_le v0
 have hvn:oth[vn]?=some (oth[vn]'(by omega)):=List.getElem?_eq_getElem (by omega)
 have go:gt 300 (oth[vn]'(by omega)):=g14 _ (List.getElem_mem _)
 generalize oth[vn]'(by omega)=ot at hvn go
 have ixo:=aec hvn (by omega)
 have lst:=acM e14 (qh (by rw [List.length_map]; omega))
 obtain ⟨t',e15,g15⟩:IsT (11*301) (op2 JT (cst (.str (Str.ofString "\n"))) (op2 qA (op2 qA (zS (lkp 7) (lkp 10)) (ZA (jp (lkp 15) jM))) (qI (lkp 7) (op2 qA (lkp 10) (cst (.int 1)))))) [some S,some M,x2,x3,x4,x5,some (.list (ts.map .str)),some (.list (LS.map .str)),x8,x9,some (.int (k:Int)),some (.str ln),some (.int w),some (.str two),some (.list (oth.map .str)),some (.str ot),x16]:=by
  have hg':∀ t ∈ LS,gt 300 t:=fun t ht=>(hg t ht).mono (by omega)
  have b1:Qm 300 5 (lkp 7) [some S,some M,x2,x3,x4,x5,some (.list (ts.map .str)),some (.list (LS.map .str)),x8,x9,some (.int (k:Int)),some (.str ln),some (.int w),some (.str two),some (.list (oth.map .str)),some (.str ot),x16]:=⟨LS,rfl,hg',by omega⟩
  exact Zv (zZ (zZ (aat b1 ⟨_,rfl⟩) (adX (jE ⟨_,rfl,go⟩ JA) (by omega)) (by omega)) (QH b1 ⟨_,rfl⟩) (by omega)) (by omega)
 have ap:aei (some (.list (ts.map .str))) (some (.str t'))=some (.list ((ts++[t']).map .str)):=by
  show (if noL (.str t')=true/\(ts.map PyData.str).length<1000000 then some (PyData.list (ts.map PyData.str++[.str t'])) else none)=_
  rw [if_pos ⟨rfl,by rw [List.length_map]; omega⟩,List.map_append]; rfl
 refine ⟨t',g15.mono (by omega),some (.str ln),some (.int w),some (.str two),some (.list (oth.map .str)),some (.str ot),?_⟩
 generalize PyData.list (oth.map .str)=OT at*
 simp only [afr]
 refine (ju (ρ1:=[some S,some M,x2,x3,x4,x5,some (.list (ts.map .str)),some (.list (LS.map .str)),x8,x9,some (.int (k:Int)),some (.str ln),x12,x13,x14,x15,x16]) (jG (i:=11) (ZW (jk rfl rfl ixl)))).trans ?_
 refine (ju (ρ1:=[some S,some M,x2,x3,x4,x5,some (.list (ts.map .str)),some (.list (LS.map .str)),x8,x9,some (.int (k:Int)),some (.str ln),some (.int w),x13,x14,x15,x16]) (jG (i:=12) (ZW (jx (jy rfl (jy (jk rfl rfl rfl) (jy (jk (jx rfl ll) rfl rfl) rfl))) dw)))).trans ?_
 refine (ju (ρ1:=[some S,some M,x2,x3,x4,x5,some (.list (ts.map .str)),some (.list (LS.map .str)),x8,x9,some (.int (k:Int)),some (.str ln),some (.int w),some (.str two),x14,x15,x16]) (jG (i:=13) (ZW e13))).trans ?_
 refine (ju (ρ1:=[some S,some M,x2,x3,x4,x5,some (.list (ts.map .str)),some (.list (LS.map .str)),x8,x9,some (.int (k:Int)),some (.str ln),some (.int w),some (.str two),some OT,x15,x16]) (jG (i:=14) (ZW lst))).trans ?_
 refine (ju (ρ1:=[some S,some M,x2,x3,x4,x5,some (.list (ts.map .str)),some (.list (LS.map .str)),x8,x9,some (.int (k:Int)),some (.str ln),some (.int w),some (.str two),some OT,some (.str ot),x16]) (jG (i:=15) (ZW (jk rfl (jx (jy rfl (jy (jk rfl rfl rfl) rfl)) dv) ixo)))).trans ?_
 refine (ju ?_).trans rfl
 unfold ahk akQ
 rw [e15]
 show (aei (some (.list (ts.map .str))) (some (.str t'))).map _=_
 rw [ap]; rfl
end
section
variable {S M:PyData}{LS:List Str}{nl:Nat}{x2 x3 x4 x5 x8 x9 x16:OP}
theorem amy (dr:∀ k m:Int,0<=k->0<m->∃ r,JO [S,.int k,.int m]=some (.int r)/\0<=r/\r<m) (hL:LS.length=nl+1) (h4:nl<=4) (hg:∀ t ∈ LS,gt 100 t) (h2:∀ k x,k<nl->LS[k]?=some x->2<=x.length):∀ (m i:Nat),i+m=nl->∀ (ts:List Str) (x10 x11 x12 x13 x14 x15:OP),(∀ t ∈ ts,gt 5000 t)->ts.length+m<1000->
  ∃ (ts':List Str) (y10 y11 y12 y13 y14 y15:OP),(∀ t ∈ ts',gt 5000 t)/\ts'.length<1000/\jI (j0 10) afr.1 ((List.range' i m).map fun (k:Nat)=>PyData.int (k:Int)) [some S,some M,x2,x3,x4,x5,some (.list (ts.map .str)),some (.list (LS.map .str)),x8,x9,x10,x11,x12,x13,x14,x15,x16]=some (.nx [some S,some M,x2,x3,x4,x5,some (.list (ts'.map .str)),some (.list (LS.map .str)),x8,x9,y10,y11,y12,y13,y14,y15,x16]):=by
 intro m
 induction m with
 | zero=>
  intro i hi ts x10 x11 x12 x13 x14 x15 ht hl
  exact ⟨ts,x10,x11,x12,x13,x14,x15,ht,by omega,rfl⟩
 | succ m ih=>
  intro i hi ts x10 x11 x12 x13 x14 x15 ht hl
  obtain ⟨t',g',y11,y12,y13,y14,y15,st⟩:=amx (M:=M) dr hL h4 hg (k:=i) (by omega) (fun x hx=>h2 i x (by omega) hx) (ts:=ts) (by omega) (x2:=x2) (x3:=x3) (x4:=x4) (x5:=x5) (x8:=x8) (x9:=x9) (x11:=x11) (x12:=x12) (x13:=x13) (x14:=x14) (x15:=x15) (x16:=x16)
  obtain ⟨ts',z10,z11,z12,z13,z14,z15,a1,a2,lp⟩:=ih (i+1) (by omega) (ts++[t']) (some (.int (i:Int))) y11 y12 y13 y14 y15 (fun t h=>by
   rcases List.mem_append.mp h with z | z
   ·exact ht t z
   ·rw [List.mem_singleton.mp z]; exact g') (by rw [List.length_append,List.length_singleton]; omega)
  refine ⟨ts',z10,z11,z12,z13,z14,z15,a1,a2,?_⟩
  rw [List.range'_succ,List.map_cons,jI]
  simp only [j0,zzF,zzG,zzD,st]
  exact lp
theorem amz (td:∀ x,okT x->∃ d,JP [M,.str x]=some d/\Ql [M,.str x]=some d/\dNe d d=some (.bool false)) {x6 x7 x10 x11 x12 x13 x14 x15:OP}:∀ (ts:List Str) (x16:OP),(∀ t ∈ ts,gt 5000 t)->∃ y16,jI (j0 16) afs.1 (ts.map .str) [some S,some M,x2,x3,x4,x5,x6,x7,x8,x9,x10,x11,x12,x13,x14,x15,x16]=some (.nx [some S,some M,x2,x3,x4,x5,x6,x7,x8,x9,x10,x11,x12,x13,x14,x15,y16]):=by
 intro ts
 induction ts with
 | nil=>intro x16 _; exact ⟨x16,rfl⟩
 | cons t ts ih=>
  intro x16 ht
  obtain ⟨d,d1,d2,d3⟩:=td t ⟨(ht t List.mem_cons_self).1,by have:=(ht t List.mem_cons_self).2; omega⟩
  obtain ⟨y16,lp⟩:=ih (some (.str t)) fun z hz=>ht z (List.mem_cons_of_mem _ hz)
  refine ⟨y16,?_⟩
  have st:afs.1 [some S,some M,x2,x3,x4,x5,x6,x7,x8,x9,x10,x11,x12,x13,x14,x15,some (.str t)]=some (.nx [some S,some M,x2,x3,x4,x5,x6,x7,x8,x9,x10,x11,x12,x13,x14,x15,some (.str t)]):=by
   simp only [afs]
   exact (ju (agp (j1 (jk (jx rfl d1) (jx rfl d2) d3)))).trans rfl
  show jI _ _ (.str t::ts.map .str) _=_
  rw [jI]
  simp only [j0,zzF,zzG,zzD,st]
  exact lp
end
theorem ais {S M ST:PyData}{T:Str}{LS:List Str}{nl:Nat} (dr:∀ k m:Int,0<=k->0<m->∃ r,JO [S,.int k,.int m]=some (.int r)/\0<=r/\r<m) (td:∀ x,okT x->∃ d,JP [M,.str x]=some d/\Ql [M,.str x]=some d/\dNe d d=some (.bool false)) (mn:QA [S,.int 0]=some M) (st:ajw [S,.int 10,M,.int 4]=some ST) (tx:zK [M,ST]=some (.str T)) (hT:gt 400 T) (sp:qR (.str T) (.str (Str.ofString "\n"))=some (.list (LS.map .str))) (hL:LS.length=nl+1) (h4:nl<=4) (hg:∀ t ∈ LS,gt 100 t) (h2:∀ k x,k<nl->LS[k]?=some x->2<=x.length)
  (du:Ql [M,.str T]=some ST) (es:dEq ST ST=some (.bool true)):ahP [S]=some (.bool true):=by
 have ll:=len_str (x:=T) (by have:=hT.2; omega)
 obtain ⟨at_,dat,at0,at1⟩:=dr 30 ((T.length:Int)+1) (by omega) (by omega)
 obtain ⟨w,dw,w0,w1⟩:=dr 31 6 (by omega) (by omega)
 obtain ⟨sn,isn,gsn⟩:∃ sn,ak2 (.str (Str.ofString "o.| \n0")) (.int w)=some (.str sn)/\gt 1 sn:=by
  have hl6:(Str.ofString "o.| \n0").length=6:=by decide +kernel
  have hlow:(Str.ofString "o.| \n0").cps.all (fun c=>decide (c<1114112))=true:=by decide +kernel
  generalize Str.ofString "o.| \n0"=z at hl6 hlow
  obtain ⟨wn,rfl⟩:=Int.eq_ofNat_of_zero_le w0
  have hz:wn<z.cps.size:=by
   have:z.cps.size=6:=hl6
   omega
  refine ⟨⟨#[z.cps[wn]]⟩,?_,fun c hc=>?_,Nat.le_refl _⟩
  ·show (if 0<=(wn:Int)/\(wn:Int)<1000000/\(wn:Int)<(z.length:Int) then (z.cps[(wn:Int).toNat]?).map fun c=>PyData.str ⟨#[c]⟩ else none)=_
   rw [if_pos ⟨by omega,by omega,by omega⟩,Int.toNat_natCast,Array.getElem?_eq_getElem hz]; rfl
  ·rw [Ji,List.mem_singleton] at hc
   rw [hc]
   exact of_decide_eq_true (Array.all_eq_true.mp hlow wn hz)
 obtain ⟨t4,e4,g4,l4⟩:aa8 5000 4 (jp (lkp 3) (jp (op2 qT (qU (lkp 3) (lkp 4)) (qu (lkp 3) (op2 qA (lkp 4) (cst (.int 1))))) (jp (op2 qT (qU (lkp 3) (op2 qA (lkp 4) (cst (.int 1)))) (qu (lkp 3) (lkp 4))) (jp (op2 qT (op2 qT (qU (lkp 3) (lkp 4)) (lkp 5)) (qu (lkp 3) (op2 qA (lkp 4) (cst (.int 1))))) jM)))) [some S,some M,some ST,some (.str T),some (.int at_),some (.str sn),none,none,none,none,none,none,none,none,none,none,none]:=by
  have c0:IsT 400 (lkp 3) [some S,some M,some ST,some (.str T),some (.int at_),some (.str sn),none,none,none,none,none,none,none,none,none,none,none]:=⟨_,rfl,hT⟩
  have c1:IsT 1 (lkp 5) [some S,some M,some ST,some (.str T),some (.int at_),some (.str sn),none,none,none,none,none,none,none,none,none,none,none]:=⟨_,rfl,gsn⟩
  exact jE (c0.mono (by omega)) (jE ((zx (ZV c0 ⟨_,rfl⟩ (by omega)) (Qn c0 ⟨_,rfl⟩ (by omega)) (by omega)).mono (by omega)) (jE ((zx (ZV c0 ⟨_,rfl⟩ (by omega)) (Qn c0 ⟨_,rfl⟩ (by omega)) (by omega)).mono (by omega)) (jE ((zx (zx (ZV c0 ⟨_,rfl⟩ (by omega)) c1 (by omega)) (Qn c0 ⟨_,rfl⟩ (by omega)) (by omega)).mono (by omega)) JA)))
 have m4:=acM e4 (qh (by rw [List.length_map]; omega))
 obtain ⟨t12,e12,g12,l12⟩:Qm 5000 12 (op2 qA (lkp 6) (ZA (jp (op2 qT (op2 qT (qU (lkp 3) (lkp 4)) (lkp 5)) (qu (lkp 3) (lkp 4))) (jp (cst (.str (Str.ofString ""))) (jp (cst (.str (Str.ofString "\n"))) (jp (cst (.str (Str.ofString ".|.\n"))) (jp (cst (.str (Str.ofString "o.|.o\n"))) (jp (qU (lkp 3) (fun ρ=>(cst (.int 1) ρ).bind abi)) (jp (op2 Js (lkp 3) (cst (.int 2))) (jp (op2 Js (lkp 3) (cst (.int 5))) jM)))))))))) [some S,some M,some ST,some (.str T),some (.int at_),some (.str sn),some (.list (t4.map .str)),none,none,none,none,none,none,none,none,none,none]:=by
  have c0:IsT 400 (lkp 3) [some S,some M,some ST,some (.str T),some (.int at_),some (.str sn),some (.list (t4.map .str)),none,none,none,none,none,none,none,none,none,none]:=⟨_,rfl,hT⟩
  have c1:IsT 1 (lkp 5) [some S,some M,some ST,some (.str T),some (.int at_),some (.str sn),some (.list (t4.map .str)),none,none,none,none,none,none,none,none,none,none]:=⟨_,rfl,gsn⟩
  refine zZ (k:=4) (j:=8) ⟨t4,rfl,g4,by omega⟩ (adX ?_ (by omega)) (by omega)
  exact jE ((zx (zx (ZV c0 ⟨_,rfl⟩ (by omega)) c1 (by omega)) (Qn c0 ⟨_,rfl⟩ (by omega)) (by omega)).mono (by omega)) (jE (Zu (by decide +kernel) (by decide +kernel)) (jE (Zu (by decide +kernel) (by decide +kernel)) (jE (Zu (by decide +kernel) (by decide +kernel)) (jE (Zu (by decide +kernel) (by decide +kernel)) (jE ((ZV c0 ⟨_,rfl⟩ (by omega)).mono (by omega)) (jE ((afI (k:=2) c0 (by omega) (by omega)).mono (by omega)) (jE ((afI (k:=5) c0 (by omega) (by omega)).mono (by omega)) JA)))))))
 have lls:zH [.list (LS.map .str)]=some (.int ((nl+1:Nat):Int)):=by
  show some (PyData.int ((LS.map PyData.str).length:Int))=_
  rw [List.length_map,hL]
 obtain ⟨to_,dto,to0,to1⟩:=dr 32 ((nl+1:Nat):Int) (by omega) (by omega)
 have hg5:∀ (ρ:Rho),lkp 7 ρ=some (.list (LS.map .str))->Qm 100 5 (lkp 7) ρ:=fun ρ h=>⟨LS,h,hg,by omega⟩
 obtain ⟨t2,e2,g2,l2⟩:aa8 5000 2 (jp (op2 JT (cst (.str (Str.ofString "\n"))) (op2 qA (zS (lkp 7) (lkp 8)) (qI (lkp 7) (op2 qA (lkp 8) (cst (.int 1)))))) (jp (op2 JT (cst (.str (Str.ofString "\n"))) (op2 qA (zS (lkp 7) (op2 qA (lkp 8) (cst (.int 1)))) (qI (lkp 7) (lkp 8)))) jM)) [some S,some M,some ST,some (.str T),some (.int at_),some (.str sn),some (.list (t12.map .str)),some (.list (LS.map .str)),some (.int to_),none,none,none,none,none,none,none,none]:=by
  have c7:=hg5 [some S,some M,some ST,some (.str T),some (.int at_),some (.str sn),some (.list (t12.map .str)),some (.list (LS.map .str)),some (.int to_),none,none,none,none,none,none,none,none] rfl
  exact jE ((Zv (zZ (aat c7 ⟨_,rfl⟩) (QH c7 ⟨_,rfl⟩) (by omega)) (by omega)).mono (by omega)) (jE ((Zv (zZ (aat c7 ⟨_,rfl⟩) (QH c7 ⟨_,rfl⟩) (by omega)) (by omega)).mono (by omega)) JA)
 have e14:op2 afl (lkp 6) (ZA (jp (op2 JT (cst (.str (Str.ofString "\n"))) (op2 qA (zS (lkp 7) (lkp 8)) (qI (lkp 7) (op2 qA (lkp 8) (cst (.int 1)))))) (jp (op2 JT (cst (.str (Str.ofString "\n"))) (op2 qA (zS (lkp 7) (op2 qA (lkp 8) (cst (.int 1)))) (qI (lkp 7) (lkp 8)))) jM))) [some S,some M,some ST,some (.str T),some (.int at_),some (.str sn),some (.list (t12.map .str)),some (.list (LS.map .str)),some (.int to_),none,none,none,none,none,none,none,none]=some (.list ((t12++t2).map .str)):=by
  refine jk rfl (acM e2 (qh (by rw [List.length_map]; omega))) ?_
  show (if few (t12.map PyData.str++t2.map PyData.str)=true then some (PyData.list (t12.map PyData.str++t2.map PyData.str)) else none)=_
  rw [if_pos (qh (by rw [List.length_append,List.length_map,List.length_map]; omega)),List.map_append]
 generalize ht14:t12++t2=t14 at e14
 have g14:∀ t ∈ t14,gt 5000 t:=fun t ht=>by
  rw [←ht14] at ht
  rcases List.mem_append.mp ht with z | z
  ·exact g12 t z
  ·exact g2 t z
 have l14:t14.length<=14:=by rw [←ht14,List.length_append]; omega
 obtain ⟨ex,e9,g9,l9⟩:Qm 100 15 (op2 qA (op2 qA (zS (lkp 7) (lkp 8)) (fun ρ=>(zw (lkp 7) (lkp 8) (op2 qA (lkp 8) (cst (.int 2))) ρ).bind agc)) (qI (lkp 7) (op2 qA (lkp 8) (cst (.int 2))))) [some S,some M,some ST,some (.str T),some (.int at_),some (.str sn),none,some (.list (LS.map .str)),some (.int to_),none,none,none,none,none,none,none,none]:=by
  have c7:=hg5 [some S,some M,some ST,some (.str T),some (.int at_),some (.str sn),none,some (.list (LS.map .str)),some (.int to_),none,none,none,none,none,none,none,none] rfl
  exact zZ (zZ (aat c7 ⟨_,rfl⟩) (air (agw c7 ⟨_,rfl⟩ ⟨_,rfl⟩)) (by omega)) (QH c7 ⟨_,rfl⟩) (by omega)
 obtain ⟨t15,e15,g15⟩:IsT (15*101) (op2 JT (cst (.str (Str.ofString "\n"))) (lkp 9)) [some S,some M,some ST,some (.str T),some (.int at_),some (.str sn),some (.list (t14.map .str)),some (.list (LS.map .str)),some (.int to_),some (.list (ex.map .str)),none,none,none,none,none,none,none]:=Zv ⟨ex,rfl,g9,l9⟩ (by omega)
 have ap:aei (some (.list (t14.map .str))) (some (.str t15))=some (.list ((t14++[t15]).map .str)):=by
  show (if noL (.str t15)=true/\(t14.map PyData.str).length<1000000 then some (PyData.list (t14.map PyData.str++[.str t15])) else none)=_
  rw [if_pos ⟨rfl,by rw [List.length_map]; omega⟩,List.map_append]; rfl
 obtain ⟨ts',y10,y11,y12,y13,y14,y15,g',l',lp⟩:=amy (M:=M) dr hL h4 hg h2 nl 0 (by omega) (t14++[t15]) none none none none none none (fun t ht=>by
  rcases List.mem_append.mp ht with z | z
  ·exact g14 t z
  ·rw [List.mem_singleton.mp z]; exact g15.mono (by omega)) (by rw [List.length_append,List.length_singleton]; omega) (x2:=some ST) (x3:=some (.str T)) (x4:=some (.int at_)) (x5:=some (.str sn)) (x8:=some (.int to_)) (x9:=some (.list (ex.map .str))) (x16:=none)
 obtain ⟨y16,lp2⟩:=amz td ts' none g' (S:=S) (x2:=some ST) (x3:=some (.str T)) (x4:=some (.int at_)) (x5:=some (.str sn)) (x6:=some (.list (ts'.map .str))) (x7:=some (.list (LS.map .str))) (x8:=some (.int to_)) (x9:=some (.list (ex.map .str))) (x10:=y10) (x11:=y11) (x12:=y12) (x13:=y13) (x14:=y14) (x15:=y15)
 have rg:aaF [.int (((nl+1:Nat):Int) - 1)]=some ((List.range' 0 nl).map fun (k:Nat)=>PyData.int (k:Int)):=by
  rw [show ((nl+1:Nat):Int) - 1=(nl:Int) by omega,ald (by omega)]
  unfold JV
  rw [←List.range_eq_range']
  exact congrArg some (List.map_congr_left fun k _=>by rw [Int.zero_add])
 refine qC rfl ?_
 show ajx.1 [some S,none,none,none,none,none,none,none,none,none,none,none,none,none,none,none,none]=_
 simp only [ajx]
 refine (ju (ρ1:=[some S,some M,none,none,none,none,none,none,none,none,none,none,none,none,none,none,none]) (jG (i:=1) (jx rfl mn))).trans ?_
 refine (ju (ρ1:=[some S,some M,some ST,none,none,none,none,none,none,none,none,none,none,none,none,none,none]) (jG (i:=2) (jx rfl st))).trans ?_
 refine (ju (ρ1:=[some S,some M,some ST,some (.str T),none,none,none,none,none,none,none,none,none,none,none,none,none]) (jG (i:=3) (jx rfl tx))).trans ?_
 refine (ju (ρ1:=[some S,some M,some ST,some (.str T),some (.int at_),none,none,none,none,none,none,none,none,none,none,none,none]) (jG (i:=4) (jx (jy rfl (jy rfl (jy (jk (jx rfl ll) rfl rfl) rfl))) dat))).trans ?_
 refine (ju (ρ1:=[some S,some M,some ST,some (.str T),some (.int at_),some (.str sn),none,none,none,none,none,none,none,none,none,none,none]) (jG (i:=5) (jk rfl (jx rfl dw) isn))).trans ?_
 refine (ju (ρ1:=[some S,some M,some ST,some (.str T),some (.int at_),some (.str sn),some (.list (t4.map .str)),none,none,none,none,none,none,none,none,none,none]) (jG (i:=6) m4)).trans ?_
 refine (ju (ρ1:=[some S,some M,some ST,some (.str T),some (.int at_),some (.str sn),some (.list (t12.map .str)),none,none,none,none,none,none,none,none,none,none]) (jG (i:=6) e12)).trans ?_
 refine (ju (ρ1:=[some S,some M,some ST,some (.str T),some (.int at_),some (.str sn),some (.list (t12.map .str)),some (.list (LS.map .str)),none,none,none,none,none,none,none,none,none]) (jG (i:=7) (jk rfl rfl sp))).trans ?_
 refine (ju (ρ1:=[some S,some M,some ST,some (.str T),some (.int at_),some (.str sn),some (.list (t12.map .str)),some (.list (LS.map .str)),some (.int to_),none,none,none,none,none,none,none,none]) (jG (i:=8) (jx (jy rfl (jy rfl (jy (jx rfl lls) rfl))) dto))).trans ?_
 refine ah5 e14 (by simp) ?_
 show jV _ _ [some S,some M,some ST,some (.str T),some (.int at_),some (.str sn),some (.list (t14.map .str)),some (.list (LS.map .str)),some (.int to_),none,none,none,none,none,none,none,none]=_
 refine (ju (ρ1:=[some S,some M,some ST,some (.str T),some (.int at_),some (.str sn),some (.list (t14.map .str)),some (.list (LS.map .str)),some (.int to_),some (.list (ex.map .str)),none,none,none,none,none,none,none]) (jG (i:=9) (ZW e9))).trans ?_
 refine (ju (ρ1:=[some S,some M,some ST,some (.str T),some (.int at_),some (.str sn),some (.list ((t14++[t15]).map .str)),some (.list (LS.map .str)),some (.int to_),some (.list (ex.map .str)),none,none,none,none,none,none,none]) ?_).trans ?_
 ·unfold ahk akQ
  rw [e15]
  show (aei (some (.list (t14.map .str))) (some (.str t15))).map _=_
  rw [ap]; rfl
 have it:(fun ρ=>(jp (op2 ag2 (jS zH (jp (lkp 7) jM)) (cst (.int 1))) jM (hid (some 6) ρ)).bind aaF) [some S,some M,some ST,some (.str T),some (.int at_),some (.str sn),some (.list ((t14++[t15]).map .str)),some (.list (LS.map .str)),some (.int to_),some (.list (ex.map .str)),none,none,none,none,none,none,none]=some ((List.range' 0 nl).map fun (k:Nat)=>PyData.int (k:Int)):=by
  show (jp (op2 ag2 (jS zH (jp (lkp 7) jM)) (cst (.int 1))) jM [some S,some M,some ST,some (.str T),some (.int at_),some (.str sn),none,some (.list (LS.map .str)),some (.int to_),some (.list (ex.map .str)),none,none,none,none,none,none,none]).bind aaF=_
  rw [jy (ds:=[]) (jk (jx rfl lls) rfl rfl) rfl]
  exact rg
 refine (ju (aaW it lp)).trans ?_
 refine alf ?_
 refine (ju (aaW (fi:=itS (lkp 6)) rfl lp2)).trans ?_
 exact zV (jk (jx rfl du) rfl es)
theorem aeM {u l:Int}{ps:PL}:∀ x ∈ zX u l ps,low x:=fun x hx=>by
 unfold zX at hx
 rcases List.mem_append.mp hx with z | z
 ·obtain ⟨q,_,rfl⟩:=List.mem_map.mp z
  exact adP
 ·rw [List.mem_singleton.mp z]
  intro c hc
  cases hc
theorem agx (H:QI=true) (ns:List Int) (hn:ns.length<1000000):ahP [scr ns]=some (.bool true):=by
 obtain ⟨u,e,l,b,mn,hm⟩:=aeB ns hn 0 (Int.le_refl _)
 have h:=ajy hm
 obtain ⟨ps,st,hs⟩:=ajC hn h (at_:=10) (by omega)
 obtain ⟨a1,a2,a3,a4,a5,a6,a7,a8,a9,a10⟩:=zh h
 obtain ⟨h1,h4,hk⟩:=QE hs
 have tl:=Zr h ps hk
 have hT:gt 400 (qD u l ps):=⟨adQ,by omega⟩
 have hne:ps ≠ []:=fun z=>by rw [z] at h1; simp at h1
 have td:∀ x,okT x->∃ d,JP [jv u e l b,.str x]=some d/\Ql [jv u e l b,.str x]=some d/\dNe d d=some (.bool false):=fun x hx=>by
  obtain ⟨d,d1,d2,d3⟩:=adU H h hx
  refine ⟨d,d1,d2,?_⟩
  rcases d3 with rfl | ⟨qs,rfl⟩
  ·rfl
  ·rw [ajA]; simp
 have du:Ql [jv u e l b,.str (qD u l ps)]=some (jQ ps):=by
  obtain ⟨d,d1,d2,_⟩:=adU H h (x:=qD u l ps) ⟨adQ,by omega⟩
  have:=ab0 (aai H h hs)
  rw [this] at d1
  rw [d2,←d1]
 refine ais (fun k m hk hm=>qL ns hn k m hk hm) td mn st (aah H h hs) hT (aeG h hs) (agu ps) h4 (fun t ht=>?_) (fun k x hk' hx=>?_) du ?_
 ·refine ⟨aeM t ht,?_⟩
  unfold zX at ht
  rcases List.mem_append.mp ht with z | z
  ·obtain ⟨q,hq,rfl⟩:=List.mem_map.mp z
   rw [Zp (List.all_eq_true.mp hk q hq)]
   omega
  ·rw [List.mem_singleton.mp z]; exact Nat.zero_le _
 ·unfold zX at hx
  rw [List.getElem?_append_left (by rw [List.length_map]; exact hk'),List.getElem?_map] at hx
  cases hq:ps[k]? with
  | none=>rw [hq] at hx; cases hx
  | some q=>
   rw [hq] at hx
   cases hx
   rw [Zp (List.all_eq_true.mp hk q (List.mem_of_getElem? hq))]
   omega
 ·rw [ajz]; simp
end Rods
end
section
namespace BX
open PySem L2
open PyProof.Rows hiding St
theorem qj.thr {P:Program}{w:World}{K:Fg}{mg:SV}{base h:Heap}{x:Str}{st:Stmt}{ps:List Str}{k n:Nat}{g:LP->Option Str} (T:qj K x st) (X:K.In h) (G:h.Ns mainGlobals mg)
  (pa:jC x st ps) (ok:∀ f fd,Fun K x x st f fd->FnOk P w K mg base (CXt P w) k f fd ps (ahq K mg n g)):abk P w K mg base x ps k n g:=by
 obtain ⟨f,oc,od,an,kV,doc,pm,Kc,ct,osl,a,l,c,kp⟩:=T
 have F1:=acf (st:=st) l c kp
 exact ⟨f,_,ok f _ F1,PySem.W.mg_of X G a,kp,F1.binds pa⟩
end BX
namespace Rods
open PySem L2 BX
open PyProof.Rows hiding St
structure Tops (K:Fg):Prop where
 isWhole:qj K "is_whole" Zf
 rodWorth:qj K "rod_worth" Qx
 allRods:qj K "all_rods" Zg
 hasAll:qj K "has_all_digits" Qy
 isManner:qj K "is_manner" Qz
 check:qj K "check_manner" aaP
 isRod:qj K "is_rod" acz
 isSet:qj K "is_setting" zp
 chkSet:qj K "check_setting" qQ
 cell:qj K "_law_cell" afo
 drawn:qj K "_law_drawn" acB
 manner:qj K "_law_manner" aap
 setting:qj K "_law_setting" Jx
 RodText:qj K "rod_text" Zl
 SettingText:qj K "setting_text" ze
 RodsByLine:qj K "rods_by_line" qV
 CheckEnded:qj K "check_ended" zD
 ReadSetting:qj K "read_setting" j8
 LTold:qj K "_law_told" ZP
 LSide:qj K "_law_side" acF
 LDue:qj K "_law_due" abN
 law:qj K "law" adG
structure Consts (K:Fg) (mg:SV):Prop where
 b:Bare mg
 least:GC K mg "LEAST_PARTS" (.tuple [.int 0,.int 1,.int 0,.int 2])
 most:GC K mg "MOST_PARTS" (.tuple [.int 3,.int 16,.int 12,.int 16])
 mostRods:GC K mg "MOST_RODS" (.int 4)
 errT:ErrT K mg "BeadError" adE
theorem aeN:jC "is_whole" Zf ["thing","least","most"]:=fun _ _ _ _ _ _ us hl=>by obtain ⟨v0,v1,v2,rfl⟩:=aky us hl; rfl
theorem adY:jC "rod_worth" Qx ["manner","rod"]:=fun _ _ _ _ _ _ us hl=>by obtain ⟨v0,v1,rfl⟩:=Zx us hl; rfl
theorem aeO:jC "all_rods" Zg ["manner"]:=fun _ _ _ _ _ _ us hl=>by obtain ⟨v0,rfl⟩:=aea us hl; rfl
theorem agy:jC "has_all_digits" Qy ["manner"]:=fun _ _ _ _ _ _ us hl=>by obtain ⟨v0,rfl⟩:=aea us hl; rfl
theorem adZ:jC "is_manner" Qz ["thing"]:=fun _ _ _ _ _ _ us hl=>by obtain ⟨v0,rfl⟩:=aea us hl; rfl
theorem ad0:jC "check_manner" aaP ["thing"]:=fun _ _ _ _ _ _ us hl=>by obtain ⟨v0,rfl⟩:=aea us hl; rfl
theorem ait:jC "is_rod" acz ["manner","thing"]:=fun _ _ _ _ _ _ us hl=>by obtain ⟨v0,v1,rfl⟩:=Zx us hl; rfl
theorem aiu:jC "is_setting" zp ["manner","thing"]:=fun _ _ _ _ _ _ us hl=>by obtain ⟨v0,v1,rfl⟩:=Zx us hl; rfl
theorem agz:jC "check_setting" qQ ["manner","thing"]:=fun _ _ _ _ _ _ us hl=>by obtain ⟨v0,v1,rfl⟩:=Zx us hl; rfl
theorem ajQ:jC "_law_cell" afo ["_law_script","_law_k"]:=fun _ _ _ _ _ _ us hl=>by obtain ⟨v0,v1,rfl⟩:=Zx us hl; rfl
theorem aiv:jC "_law_drawn" acB ["_law_script","_law_k","_law_many"]:=fun _ _ _ _ _ _ us hl=>by obtain ⟨v0,v1,v2,rfl⟩:=aky us hl; rfl
theorem agA:jC "_law_manner" aap ["_law_script","_law_at"]:=fun _ _ _ _ _ _ us hl=>by obtain ⟨v0,v1,rfl⟩:=Zx us hl; rfl
theorem aeP:jC "_law_setting" Jx ["_law_script","_law_at","_law_manner_here","_law_most"]:=fun _ _ _ _ _ _ us hl=>by obtain ⟨v0,v1,v2,v3,rfl⟩:=amR us hl; rfl
theorem aeQ:jC "rod_text" Zl ["manner","rod"]:=fun _ _ _ _ _ _ us hl=>by obtain ⟨v0,v1,rfl⟩:=Zx us hl; rfl
theorem abb:jC "setting_text" ze ["manner","setting"]:=fun _ _ _ _ _ _ us hl=>by obtain ⟨v0,v1,rfl⟩:=Zx us hl; rfl
theorem abm:jC "rods_by_line" qV ["manner"]:=fun _ _ _ _ _ _ us hl=>by obtain ⟨v0,rfl⟩:=aea us hl; rfl
theorem QQ:jC "check_ended" zD ["text"]:=fun _ _ _ _ _ _ us hl=>by obtain ⟨v0,rfl⟩:=aea us hl; rfl
theorem Qo:jC "read_setting" j8 ["manner","text"]:=fun _ _ _ _ _ _ us hl=>by obtain ⟨v0,v1,rfl⟩:=Zx us hl; rfl
theorem aiw:jC "_law_told" ZP ["_law_manner_here","_law_text"]:=fun _ _ _ _ _ _ us hl=>by obtain ⟨v0,v1,rfl⟩:=Zx us hl; rfl
theorem aix:jC "_law_side" acF ["_law_part","_law_many"]:=fun _ _ _ _ _ _ us hl=>by obtain ⟨v0,v1,rfl⟩:=Zx us hl; rfl
theorem ajR:jC "_law_due" abN ["_law_manner_here","_law_text"]:=fun _ _ _ _ _ _ us hl=>by obtain ⟨v0,v1,rfl⟩:=Zx us hl; rfl
theorem ane (HT:QI=true) {P:Program}{w:World}{K:Fg}{h:Heap}{mg:SV}{base:Heap} (X:K.In h) (G:h.Ns mainGlobals mg) (T:Tops K) (C:Consts K mg):CLaw P w K mg base:=by
 have c_isWhole:jt P w K mg base "is_whole" ["thing","least","most"] 1 3 qk:=T.isWhole.callee X G aeN fun f fd F=>jW F aeu fun Kc A Ko s H E hr=>Zh.2 P w K mg base f Kc A Ko s H E C.b hr
 have c_rodWorth:jt P w K mg base "rod_worth" ["manner","rod"] 1 2 Jv:=T.rodWorth.callee X G adY fun f fd F=>jW F ady fun Kc A Ko s H E hr=>ZH.2 P w K mg base f Kc A Ko s H E trivial hr
 have c_allRods:jt P w K mg base "all_rods" ["manner"] 1 1 qF:=T.allRods.callee X G aeO fun f fd F=>aev F C.b
 have c_hasAll:jt P w K mg base "has_all_digits" ["manner"] 2 1 Zi:=T.hasAll.callee X G agy fun f fd F=>jW F abL fun Kc A Ko s H E hr=>acy.2 P w K mg base f Kc A Ko s H E ⟨C.b,c_allRods,c_rodWorth⟩ hr
 have c_isManner:jt P w K mg base "is_manner" ["thing"] 3 1 qz:=T.isManner.callee X G adZ fun f fd F=>jW F Jb fun Kc A Ko s H E hr=>ZI.2 P w K mg base f Kc A Ko s H E ⟨C.b,C.least,C.most,c_isWhole,c_hasAll⟩ hr
 have c_check:jt P w K mg base "check_manner" ["thing"] 4 1 Jk:=T.check.callee X G ad0 fun f fd F=>jW F adB fun Kc A Ko s H E hr=>aew.2 P w K mg base f Kc A Ko s H E ⟨c_isManner⟩ hr
 have c_isRod:jt P w K mg base "is_rod" ["manner","thing"] 2 2 JM:=T.isRod.callee X G ait fun f fd F=>jW F ahL fun Kc A Ko s H E hr=>ZJ.2 P w K mg base f Kc A Ko s H E ⟨C.b,c_isWhole⟩ hr
 have c_isSet:jt P w K mg base "is_setting" ["manner","thing"] 5 2 JN:=T.isSet.callee X G aiu fun f fd F=>jW F ahM fun Kc A Ko s H E hr=>ZK.2 P w K mg base f Kc A Ko s H E ⟨C.b,c_check,c_isRod,C.mostRods⟩ hr
 have c_chkSet:jt P w K mg base "check_setting" ["manner","thing"] 6 2 Zk:=T.chkSet.callee X G agz fun f fd F=>jW F agh fun Kc A Ko s H E hr=>acA.2 P w K mg base f Kc A Ko s H E ⟨c_isSet⟩ hr
 have c_cell:jt P w K mg base "_law_cell" ["_law_script","_law_k"] 1 2 adC:=T.cell.callee X G ajQ fun f fd F=>jW F ajt fun Kc A Ko s H E hr=>afp.2 P w K mg base f Kc A Ko s H E C.b hr
 have c_drawn:jt P w K mg base "_law_drawn" ["_law_script","_law_k","_law_many"] 2 3 JO:=T.drawn.callee X G aiv fun f fd F=>jW F aaQ fun Kc A Ko s H E hr=>aex.2 P w K mg base f Kc A Ko s H E ⟨c_cell⟩ hr
 have c_manner:jt P w K mg base "_law_manner" ["_law_script","_law_at"] 3 2 QA:=T.manner.callee X G agA fun f fd F=>jW F zq fun Kc A Ko s H E hr=>aaq.2 P w K mg base f Kc A Ko s H E ⟨C.b,c_drawn⟩ hr
 have c_setting:jt P w K mg base "_law_setting" ["_law_script","_law_at","_law_manner_here","_law_most"] 3 4 ajw:=T.setting.callee X G aeP fun f fd F=>jW F ZN fun Kc A Ko s H E hr=>ajv.2 P w K mg base f Kc A Ko s H E ⟨C.b,c_drawn⟩ hr
 have x_check:abk P w K mg base "check_manner" ["thing"] 4 1 ZO:=T.check.thr X G ad0 fun f fd F=>aem F adB fun Kc A Ko s H E hr=>acE.2 P w K mg base f Kc A Ko s H E ⟨c_isManner,(C.errT.err (by decide))⟩ hr
 have c_RodText:jt P w K mg base "rod_text" ["manner","rod"] 1 2 Jy:=T.RodText.callee X G aeQ fun f fd F=>jW F aey fun Kc A Ko s H E hr=>Zm.2 P w K mg base f Kc A Ko s H E ⟨trivial⟩ hr
 have c_SettingText:jt P w K mg base "setting_text" ["manner","setting"] 7 2 zK:=T.SettingText.callee X G abb fun f fd F=>jW F aaS fun Kc A Ko s H E hr=>zJ.2 P w K mg base f Kc A Ko s H E ⟨c_chkSet,c_RodText⟩ hr
 have c_RodsByLine:jt P w K mg base "rods_by_line" ["manner"] 2 1 qG:=T.RodsByLine.callee X G abm fun f fd F=>jW F Jl fun Kc A Ko s H E hr=>Jd.2 P w K mg base f Kc A Ko s H E ⟨c_allRods,c_RodText⟩ hr
 have c_CheckEnded:jt P w K mg base "check_ended" ["text"] 1 1 qp:=T.CheckEnded.callee X G QQ fun f fd F=>jW F QP fun Kc A Ko s H E hr=>qW.2 P w K mg base f Kc A Ko s H E ⟨C.b⟩ hr
 have c_ReadSetting:jt P w K mg base "read_setting" ["manner","text"] 5 2 qf:=T.ReadSetting.callee X G Qo fun f fd F=>jW F ql fun Kc A Ko s H E hr=>qe.2 P w K mg base f Kc A Ko s H E ⟨C.b,c_check,c_CheckEnded,c_RodsByLine,C.mostRods⟩ hr
 have x_CheckEnded:abk P w K mg base "check_ended" ["text"] 1 1 qY:=T.CheckEnded.thr X G QQ fun f fd F=>aem F QP fun Kc A Ko s H E hr=>qX.2 P w K mg base f Kc A Ko s H E ⟨C.b,(C.errT.err (by decide))⟩ hr
 have x_ReadSetting:abk P w K mg base "read_setting" ["manner","text"] 5 2 zg:=T.ReadSetting.thr X G Qo fun f fd F=>aem F ql fun Kc A Ko s H E hr=>qK.2 P w K mg base f Kc A Ko s H E ⟨C.b,c_RodsByLine,c_CheckEnded,c_check,C.mostRods,x_check,x_CheckEnded,(C.errT.err (by decide))⟩ hr
 have c_LTold:jt P w K mg base "_law_told" ["_law_manner_here","_law_text"] 6 2 JP:=T.LTold.callee X G aiw fun f fd F=>ahu F aaU fun Kc A Ko s H E hr=>ZQ.2 P w K mg base f Kc A Ko s H E ⟨C.b,c_ReadSetting,x_ReadSetting,C.errT⟩ hr
 have c_LSide:jt P w K mg base "_law_side" ["_law_part","_law_many"] 1 2 Qk:=T.LSide.callee X G aix fun f fd F=>jW F adF fun Kc A Ko s H E hr=>ZR.2 P w K mg base f Kc A Ko s H E ⟨C.b⟩ hr
 have c_LDue:jt P w K mg base "_law_due" ["_law_manner_here","_law_text"] 6 2 Ql:=T.LDue.callee X G ajR fun f fd F=>jW F Je fun Kc A Ko s H E hr=>abO.2 P w K mg base f Kc A Ko s H E ⟨C.b,c_LSide,c_isSet⟩ hr
 exact ⟨C.b,c_manner,c_setting,c_SettingText,c_drawn,c_LTold,c_LDue⟩
theorem alv (HT:QI=true) {P:Program}{w:World}{K:Fg}{h:Heap}{mg:SV}{fa:Addr} (X:K.In h) (G:h.Ns mainGlobals mg) (hfa:mg "law"=some (.ref fa)) (T:Tops K) (C:Consts K mg):
  ∃ fd:FuncData,(∀ (s:Shared) (v:Value),BindsTo s fd ⟨[v],[]⟩ [("_law_script",v)])/\∀ base:Heap,K.In base->base.Ns mainGlobals mg->FnOk P w K mg base CX0 8 fa fd ["_law_script"] (Pur K 1 ahP):=by
 have Q:∀ base:Heap,CLaw P w K mg base:=fun base=>ane HT X G T C
 obtain ⟨f,oc,od,an,kV,doc,pm,Kc,ct,osl,a,l,c,kp⟩:=T.law
 have e:=hfa.symm.trans (PySem.W.mg_of X G a)
 cases e
 have F1:=acf (st:=adG) l c kp
 exact ⟨_,fun s v=> .of_eq rfl,fun base _ _=>jW F1 qv fun Kc A Ko s H E hr=>ajx.2 P w K mg base fa Kc A Ko s H E (Q base) hr⟩
theorem amA (HT:QI=true) (K:Fg) (H:Hp) (a:Addr) (ns:List Int) (hl:ns.length<=63) (hS:SqL K H a (ns.map V.int)):Pur K 1 ahP [.ref a] H (fun v _=>v= .bl true) fun _ _ _=>False:=
 ⟨[scr ns],.bool true,rfl,⟨_,_,rfl,⟨a,rfl,.inl ⟨ns,hS,rfl⟩⟩,rfl⟩,agx HT ns (by omega),fun v H' _ r=>r⟩
theorem anf (HT:QI=true) {l:PySem.W.OpenLaw}{q:Program}{loose:List Str}{XP:(SV)->Heap->Prop}{YP:World->Heap->Prop}{d:DefRec}{K:Params->Fg} (hn:l.most=some 63) (hdf:d.params.defaults=[])
  (hY:∀ (w:World) (h:Heap),YP w h->(K w.params).In h) (hnm:d.name="law")
  (F:∀ (w:World) (mg:SV) (h:Heap),(K w.params).In h->h.Ns mainGlobals mg->Tops (K w.params)/\Consts (K w.params) mg):
  PySem.W.WalkO q loose XP YP l.row.toRowW d [] (fun f vs=>PySem.call f vs):=
 L2.aiO (n:=63) (k:=8) (x:="_law_script") (CX:=fun _=>CX0) (sp:=fun w=>Pur (K w.params) 1 ahP) hn (by decide) hdf ⟨rfl,by decide,by decide⟩ hY (fun w mg fa h KX G hm=>by
  obtain ⟨T,C⟩:=F w mg h KX G
  rw [hnm] at hm
  exact alv HT KX G hm T C) (fun w H a ns hl _ hS=>amA HT (K w.params) H a ns hl hS) fun _ _ _ _ _ z=>z
theorem ajS {K:Fg}{mg:SV}{h:Heap} (X:K.In h) (G:h.Ns mainGlobals mg) (z1:PySem.W.nsIn K mainGlobals "isinstance"=some none) (z2:PySem.W.nsIn K mainGlobals "bool"=some none) (z3:PySem.W.nsIn K mainGlobals "int"=some none) (z4:PySem.W.nsIn K mainGlobals "tuple"=some none) (z5:PySem.W.nsIn K mainGlobals "zip"=some none) (z6:PySem.W.nsIn K mainGlobals "range"=some none) (z7:PySem.W.nsIn K mainGlobals "all"=some none) (z8:PySem.W.nsIn K mainGlobals "len"=some none) (z9:PySem.W.nsIn K mainGlobals "max"=some none) (z10:PySem.W.nsIn K mainGlobals "min"=some none) (z11:PySem.W.nsIn K mainGlobals "sum"=some none) (z12:PySem.W.nsIn K mainGlobals "sorted"=some none) (z13:PySem.W.nsIn K mainGlobals "abs"=some none) (z14:PySem.W.nsIn K mainGlobals "list"=some none) (z15:PySem.W.nsIn K mainGlobals "enumerate"=some none) (z16:PySem.W.nsIn K mainGlobals "ValueError"=some none) (z17:PySem.W.nsIn K mainGlobals "str"=some none) (z18:PySem.W.nsIn K mainGlobals "set"=some none) (z19:PySem.W.nsIn K mainGlobals "dict"=some none):Bare mg:=
 have f:∀ {x:Str},PySem.W.nsIn K mainGlobals x=some none->mg x=none:=fun z=>PySem.W.mg_none_of X G z
 ⟨f z1,f z2,f z3,f z4,f z5,f z6,f z7,f z8,f z9,f z10,f z11,f z12,f z13,f z14,f z15,f z16,f z17,f z18,f z19⟩
theorem gc4 {K:Fg}{mg:SV}{h:Heap}{x:Str}{a:Addr}{od:Option Addr}{n:Nat}{osl:Array (Option Value)}{i1 i2 i3 i4:Int}{t1 t2 t3 t4:Tok} (X:K.In h) (G:h.Ns mainGlobals mg) (e:PySem.W.nsIn K mainGlobals x=some (some (.ref a)))
  (l:K.lookup a=some ⟨.type "tuple",od,.seq #[.int i1 t1,.int i2 t2,.int i3 t3,.int i4 t4] n,osl⟩):GC K mg x (.tuple [.int i1,.int i2,.int i3,.int i4]):=
 ahj X G e l rfl ⟨_,_,[.int i1,.int i2,.int i3,.int i4],rfl,(by show 4<=sizeLine; rw [sizeLine_eq]; decide),.cons ⟨_,rfl⟩ (.cons ⟨_,rfl⟩ (.cons ⟨_,rfl⟩ (.cons ⟨_,rfl⟩ .nil))),fun H=>⟨_,_,rfl,rfl,_,_,rfl,rfl,_,_,rfl,rfl,_,_,rfl,rfl,rfl⟩⟩
theorem gcI {K:Fg}{mg:SV}{h:Heap}{x:Str}{i:Int}{t:Tok} (X:K.In h) (G:h.Ns mainGlobals mg) (e:PySem.W.nsIn K mainGlobals x=some (some (.int i t))):GC K mg x (.int i):=
 ⟨.int i,_,PySem.W.mg_of X G e,⟨t,rfl⟩,fun H=>rfl⟩
theorem ajT {K:Fg}{mg:SV}{h:Heap}{y:Str}{cs:List Str} (X:K.In h) (G:h.Ns mainGlobals mg) (q:act K y cs=true):ErrT K mg y cs:=
 ⟨q,fun c C e=>PySem.W.mg_of X G (afc e)⟩
end Rods
def PySem.W.Fast.tw7149828214312796144:Unit:=()
def PySem.W.Fast.tw3818870573845191295:Unit:=()
def PySem.W.Fast.tw14085587342943348885:Unit:=()
def PySem.W.Fast.tw12487273195147345231:Unit:=()
def PySem.W.Fast.tw12267738126534761585:Unit:=()
def PySem.W.Fast.tw16750102151530823467:Unit:=()
open PySem PySem.W PyProof.Rows
set_option maxRecDepth 100000 in
set_option maxHeartbeats 0 in
theorem PySem.Challenge.cw_beadrods_k61_whole_read_holds : PySem.Challenge.rw_beadrods_k61_whole_read.Holds := by
  w_on; o_law; k_head; (case hw => w_witness2)
  k_fill
  refine Rods.anf Rods.allN_true (l := PySem.Challenge.rw_beadrods_k61_whole_read) rfl rfl (fun w h Y => PySem.W.kIn_of Y) rfl ?F
  case F =>
    intro w mg h KX G
    refine ⟨⟨?f1, ?f2, ?f3, ?f4, ?f5, ?f6, ?f7, ?f8, ?f9, ?f10, ?f11, ?f12, ?f13, ?f14, ?f15, ?f16, ?f17, ?f18, ?f19, ?f20, ?f21, ?f22⟩, ⟨?b, ?c1, ?c2, ?c3, ?et⟩⟩
    case b => refine' Rods.ajS KX G ?_ ?_ ?_ ?_ ?_ ?_ ?_ ?_ ?_ ?_ ?_ ?_ ?_ ?_ ?_ ?_ ?_ ?_ ?_ <;> k_is
    case c1 =>
      refine' Rods.gc4 KX G ?a ?l
      (case a => k_is); (case l => k_is)
    case c2 =>
      refine' Rods.gc4 KX G ?a ?l
      (case a => k_is); (case l => k_is)
    case c3 =>
      refine' Rods.gcI KX G ?a
      (case a => k_is)
    case et => exact Rods.ajT KX G (by kernel_rfl)
    all_goals
      refine' BX.ahi ?a ?l ?c ?k
      (case a => k_is); (case l => k_is); (case c => k_is); (case k => k_is)
#print axioms PySem.Challenge.cw_beadrods_k61_whole_read_holds
end
