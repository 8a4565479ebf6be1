import PyProof.Rows.All
import Wide.All
import OpenK.AllK
import Wide.FinOn
import Lean
import PyProof.EqAt
import PyProof.EqKinds
import PyProof.TupleCall
import PyProof.DictWalks
import PyProof.ListMulRoad
import PyProof.Rows.Range3
import PyProof.StationsW
import OpenK.KOwn
import PyProof.ExcBaseAll.ValueError
import PyProof.MaxThree
import KE.KIsAll
import KE.KIsNot
import PyProof.RulesAs
import PyProof.ExcArgsOwn
import PyProof.ExcAttrAll.ValueError
import PySem.Challenge.RW_beadrods_k22_whole_moves
set_option Elab.async false
set_option linter.all false
set_option maxRecDepth 100000
set_option maxHeartbeats 4000000
theorem zzA {α : Type _} {a : α} {l : List α} : (a :: l)[0]? = some a := rfl
theorem zzB {α : Type _} {a : α} {i : Nat} {l : List α} : (a :: l)[i + 1]? = l[i]? := rfl
theorem zzC {α : Type _} {o : Option α} : (some o).join = o := rfl
theorem zzD {α β : Type _} (a : α) (f : α → Option β) : (some a).bind f = f a := rfl
theorem zzE {α β : Type _} (a : α) (f : α → β) : Option.map f (some a) = some (f a) := rfl
theorem zzF {α : Type _} {x : α} {xs : List α} {i : Nat} {a : α} : (x :: xs).set (i + 1) a = x :: xs.set i a := rfl
theorem zzG {α : Type _} {x : α} {xs : List α} {a : α} : (x :: xs).set 0 a = a :: xs := rfl
theorem zzH {α β : Type _} (f : α → Option β) : (none : Option α).bind f = none := rfl
theorem zzI {α β : Type _} (f : α → β) : Option.map f (none : Option α) = none := rfl
theorem zzJ : (!true) = false := rfl
theorem zzK : (!false) = true := rfl
theorem zzL : (false = true) = False := Bool.false_eq_true
theorem zzM {α : Sort _} {x : Decidable True} (a b : α) : ite True a b = a := if_true a b
theorem zzN {α : Sort _} {x : Decidable False} (a b : α) : ite False a b = b := if_false a b
section
namespace L2
open PySem PySem.Spec PyProof.Rows
noncomputable abbrev Key:=Sum Int Str
noncomputable def aal:Key->Value->Bool
 | .inl k,v=>Value.isInt k v
 | .inr x,v=>Value.isStrOf x v
noncomputable def am4 (w:World):Key->Int
 | .inl k=>hashInt k
 | .inr x=>hashStr w x
theorem j4:∀ {k:Key}{v:Value},aal k v=true->(∃ i t,k=Sum.inl i/\v=Value.int i t) ∨ (∃ x t,k=Sum.inr x/\v=Value.str x t)
 | .inl i,v,h=>by
  obtain ⟨t,e⟩:=Value.isInt_shape (k:=i) (v:=v) h
  exact .inl ⟨i,t,rfl,e⟩
 | .inr x,v,h=>by
  obtain ⟨t,e⟩:=Value.isStrOf_shape (x:=x) (v:=v) h
  exact .inr ⟨x,t,rfl,e⟩
theorem afL (i:Int) (t:Tok):aal (.inl i) (.int i t)=true:=by simp [aal,Value.isInt]
theorem afM (x:Str) (t:Tok):aal (.inr x) (.str x t)=true:=by simp [aal,Value.isStrOf]
theorem akz (a b:Int):decide ((Sum.inl a:Key)=Sum.inl b)=(a == b):=by
 by_cases e:a=b
 ·subst e; simp
 ·have h:¬ (Sum.inl a:Key)=Sum.inl b:=fun q=>e (Sum.inl.inj q)
  rw [decide_eq_false h]
  exact (beq_eq_false_iff_ne.mpr e).symm
theorem akA (a b:Str):decide ((Sum.inr a:Key)=Sum.inr b)=decide (a=b):=by
 by_cases e:a=b
 ·subst e; simp
 ·have h:¬ (Sum.inr a:Key)=Sum.inr b:=fun q=>e (Sum.inr.inj q)
  rw [decide_eq_false h,decide_eq_false e]
theorem akB (a:Int) (b:Str):decide ((Sum.inl a:Key)=Sum.inr b)=false:=decide_eq_false (fun q=>nomatch q)
theorem akC (a:Str) (b:Int):decide ((Sum.inr a:Key)=Sum.inl b)=false:=decide_eq_false (fun q=>nomatch q)
noncomputable def jY (prog:Program) (w:World):PySem.KeyKind prog w Key where
 is:=aal
 hash:=am4 w
 inj:=fun v a b ha hb=>by
  rcases j4 ha with ⟨i,t,rfl,rfl⟩ | ⟨x,t,rfl,rfl⟩
  ·rcases j4 hb with ⟨j,u,rfl,e⟩ | ⟨y,u,rfl,e⟩
   ·injection e with e1 _; rw [e1]
   ·exact nomatch e
  ·rcases j4 hb with ⟨j,u,rfl,e⟩ | ⟨y,u,rfl,e⟩
   ·exact nomatch e
   ·injection e with e1 _; rw [e1]
 byValue:=fun k v h=>by
  rcases j4 h with ⟨i,t,rfl,rfl⟩ | ⟨x,t,rfl,rfl⟩ <;> rfl
 pyHash:=fun hv h=>by
  rcases j4 hv with ⟨i,t,rfl,rfl⟩ | ⟨x,t,rfl,rfl⟩
  ·exact wpAny_pyHash_int h
  ·exact wpAny_pyHash_str h
 eqBool:=fun hu hv h=>by
  rcases j4 hu with ⟨i,t,rfl,rfl⟩ | ⟨x,t,rfl,rfl⟩
  ·rcases j4 hv with ⟨j,u,rfl,rfl⟩ | ⟨y,u,rfl,rfl⟩
   ·rw [akz] at h; exact wpAny_eqBool_int h
   ·rw [akB] at h; exact SeqAt.EqAt.int_str i t y u _ _ _ _ h
  ·rcases j4 hv with ⟨j,u,rfl,rfl⟩ | ⟨y,u,rfl,rfl⟩
   ·rw [akC] at h; exact SeqAt.EqAt.str_int x t j u _ _ _ _ h
   ·rw [akA] at h; exact wpAny_eqBool_str h
 «strs»:=fun k x t v h=>by
  rcases j4 h with ⟨i,u,rfl,e⟩ | ⟨y,u,rfl,e⟩
  ·exact nomatch e
  ·injection e with e1 _
   subst e1
   cases v <;> rfl
theorem acV (prog:Program) (w:World) (i:Int) (t:Tok):(jY prog w).is (.inl i) (.int i t)=true:=afL i t
theorem acW (prog:Program) (w:World) (x:Str) (t:Tok):(jY prog w).is (.inr x) (.str x t)=true:=afM x t
end L2
namespace L2
open PySem PySem.Spec PyProof.Rows
inductive V where
 | non | bl (b:Bool) | int (i:Int) | str (x:Str) | byt (b:Array UInt8) | flt (b:UInt64) | ref (a:Addr) | ty (n:String)
 deriving DecidableEq
noncomputable def jJ:V->Value->Prop
 | .non,u=>u=Value.none
 | .bl b,u=>u=Value.bool b
 | .int i,u=>∃ t,u=Value.int i t
 | .str x,u=>∃ t,u=Value.str x t
 | .byt b,u=>∃ t,u=Value.bytes b t
 | .flt b,u=>∃ t,u=Value.float b t
 | .ref a,u=>u=Value.ref a
 | .ty n,u=>u=Value.type n
noncomputable abbrev jF:List V->List Value->Prop:=Paired jJ
theorem jF.length {xs:List V}{us:List Value} (r:jF xs us):xs.length=us.length:=Paired.length r
theorem jF.get:∀ {xs:List V}{us:List Value}{i:Nat}{x:V},jF xs us->xs[i]?=some x->∃ u,us[i]?=some u/\jJ x u
 | _,_,_,_,.nil,e=>by simp at e
 | _,_,0,_,.cons r _,e=>by simp at e; subst e; exact ⟨_,rfl,r⟩
 | _,_,i+1,x,.cons _ t,e=>by
  obtain ⟨u,h1,h2⟩:=jF.get (i:=i) (x:=x) t (by simpa using e)
  exact ⟨u,by simpa using h1,h2⟩
theorem jF.set {x:V}{u:Value} (r:jJ x u):∀ {xs:List V}{us:List Value} (i:Nat),jF xs us->jF (xs.set i x) (us.set i u)
 | _,_,_,.nil=> .nil
 | _,_,0,.cons _ t=> .cons r t
 | _,_,i+1,.cons q t=> .cons q (jF.set r i t)
theorem jF.append:∀ {xs ys:List V}{us ws:List Value},jF xs us->jF ys ws->jF (xs++ys) (us++ws)
 | _,_,_,_,.nil,s=>s
 | _,_,_,_,.cons r t,s=> .cons r (jF.append t s)
theorem jF.take:∀ {xs:List V}{us:List Value} (n:Nat),jF xs us->jF (xs.take n) (us.take n)
 | _,_,0,_=> .nil
 | _,_,_+1,.nil=> .nil
 | _,_,n+1,.cons r t=> .cons r (jF.take n t)
theorem jF.drop:∀ {xs:List V}{us:List Value} (n:Nat),jF xs us->jF (xs.drop n) (us.drop n)
 | _,_,0,r=>r
 | _,_,_+1,.nil=> .nil
 | _,_,n+1,.cons _ t=>jF.drop n t
noncomputable def ZW:Option V->Option Value->Prop
 | some v,some u=>jJ v u
 | none,none=>True
 | _,_=>False
noncomputable def KV {κ:Type}:List (κ × V)->List (κ × Value)->Prop:=Paired fun (p:κ × V) (q:κ × Value)=>p.1=q.1/\jJ p.2 q.2
noncomputable def kV:Key->V
 | .inl i=> .int i
 | .inr x=> .str x
inductive HO where
 | lst (xs:List V)
 | tup (xs:List V)
 | dK (kvs:List (Key × V)) | dT (kvs:List (List Key × V))
 | set (S:Int->Bool) (n:Nat)
 | ins (C dx:Addr) (fs:List (Str × V))
 | own (x:Addr)
 | xd (fs:List (Str × V))
 | met (f x:Addr)
 | rng (lo hi:Int)
 | frz (o:Obj) (u:HO)
 | tbl (ps:Array Value)
 | ext (φ:Heap->Prop)
noncomputable abbrev Hp:=Addr->Option HO
noncomputable def upd (H:Hp) (a:Addr) (o:HO):Hp:=fun b=>if b=a then some o else H b
theorem jp {H:Hp}{a:Addr}{o:HO}:upd H a o a=some o:=by unfold upd; rw [if_pos rfl]
theorem jn {H:Hp}{a b:Addr}{o:HO} (h:b ≠ a):upd H a o b=H b:=by unfold upd; rw [if_neg h]
theorem Qi {H:Hp}{a:Addr}{o u:HO}:upd (upd H a o) a u=upd H a u:=by
 funext b; unfold upd; split <;> rfl
theorem al2 {H:Hp}{a b:Addr}{o u:HO} (h:H a=some o) (h':H b=some u) (d:o ≠ u):a ≠ b:=by
 intro e; subst e; rw [h] at h'; exact d (Option.some.inj h')
theorem qo {H:Hp}{a b:Addr}{o:HO} (h:H a=some o) (h':H b=none):a ≠ b:=by
 intro e; subst e; rw [h] at h'; cases h'
section
variable (P:Program) (w:World)
noncomputable def qt (H:Hp) (h:Heap) (a:Addr):HO->Prop
 | .lst xs=>xs.length<=sizeLine/\∃ (its:List Value) (n:Nat),jF xs its/\h.get? a=some { cls:= .type "list",data:= .seq its.toArray n }
 | .tup xs=>xs.length<=sizeLine/\∃ its:List Value,jF xs its/\IsTup h a its.toArray
 | .dK kvs=>kvs.length<=sizeLine/\(a == sysModules)=false/\∃ vs,KV kvs vs/\h.DictOf (jY P w) a vs
 | .dT kvs=>kvs.length<=sizeLine/\(a == sysModules)=false/\∃ xs:List (List Key × Addr × Value),
   Paired (fun (p:List Key × V) (q:List Key × Addr × Value)=>p.1=q.1/\H q.2.1=some (.tup (p.1.map kV))/\jJ p.2 q.2.2) kvs xs/\
   ∃ o es ep,h.get? a=some o/\o.ExactDict/\o.data= .dict es ep/\es.toList=xs.map (entryOfKey (tupleKind (jY P w)))/\(xs.map (·.1)).Nodup
 | .set S n=>h.SetOf (intKind P w) a S n
 | .ins C dx fs=>H dx=some (.own a)/\fs.length<=1000/\dx ≠ a/\h.get? a=some (PySem.W.instObj C dx)/\
   ∃ mA,h.Ns1 dx mA/\(∀ f,ZW (fs.lookup f) (mA f))/\PySem.Within mA (fs.map (·.1))
 | .own _=>∃ o,h.get? a=some o
 | .xd fs=>∃ mA,h.Ns1 a mA/\∀ f,ZW (fs.lookup f) (mA f)
 | .rng lo hi=>∃ t u v,h.get? a=some { cls:= .type "range",data:= .fields #[.int lo t,.int hi u,.int 1 v] }
 | .frz o u=>h.get? a=some o/\qt H h a u
 | .tbl ps=>h.get? a=some { cls:= .none,data:= .fields ps }
 | .met f x=>h.get? a=some (PySem.W.methodObj (.ref f) (.ref x))
 | .ext φ=>φ h/\(∃ o,h.get? a=some o)/\∀ h1 h2:Heap,φ h1->(∀ o,h1.get? a=some o->h2.get? a=some o)->φ h2
noncomputable def HOk (H:Hp) (h:Heap):Prop:=∀ a o,H a=some o->qt P w H h a o
end
section
variable {P:Program}{w:World}{H H':Hp}{h h':Heap}{a:Addr}{o:HO}
theorem qt.lt (x:qt P w H h a o):a < h.objs.size:=by
 cases o with
 | lst xs=>obtain ⟨_,_,_,_,e⟩:=x; exact Heap.lt_size e
 | tup xs=>obtain ⟨_,_,_,p⟩:=x; exact p.lt
 | dK kvs=>obtain ⟨_,_,_,_,o,_,_,e,_⟩:=x; exact Heap.lt_size e
 | dT kvs=>obtain ⟨_,_,_,_,o,_,_,e,_⟩:=x; exact Heap.lt_size e
 | set S n=>obtain ⟨o,_,_,_,e,_⟩:=x; exact Heap.lt_size e
 | ins C dx fs=>obtain ⟨_,_,_,e,_⟩:=x; exact Heap.lt_size e
 | own y=>obtain ⟨_,e⟩:=x; exact Heap.lt_size e
 | xd fs=>obtain ⟨_,⟨_,_,_,e,_⟩,_⟩:=x; exact Heap.lt_size e
 | rng lo hi=>obtain ⟨_,_,_,e⟩:=x; exact Heap.lt_size e
 | frz ob u=>obtain ⟨e,_⟩:=x; exact Heap.lt_size e
 | tbl ps=>exact Heap.lt_size (show h.get? a=some _ from x)
 | met f y=>exact Heap.lt_size (show h.get? a=some _ from x)
 | ext φ=>obtain ⟨_,⟨_,e⟩,_⟩:=x; exact Heap.lt_size e
theorem Paired.mapP {α β:Type}{F G:α->β->Prop}:∀ {l₁:List α}{l₂:List β},Paired F l₁ l₂->(∀ a b,F a b->G a b)->Paired G l₁ l₂
 | _,_,.nil,_=> .nil
 | _,_,.cons r t,f=> .cons (f _ _ r) (Paired.mapP t f)
theorem qt.stay (x:qt P w H h a o) (k:∀ b u,(b=a ∨ H b=some (.own a))->h.get? b=some u->h'.get? b=some u)
  (ho:∀ b,H b=some (.own a)->H' b=some (.own a)) (ht:∀ b xs,H b=some (.tup xs)->H' b=some (.tup xs)):qt P w H' h' a o:=by
 induction o with
 | lst xs=>obtain ⟨z,its,n,r,e⟩:=x; exact ⟨z,its,n,r,k _ _ (.inl rfl) e⟩
 | tup xs=>obtain ⟨z,its,r,ob,e,c⟩:=x; exact ⟨z,its,r,ob,k _ _ (.inl rfl) e,c⟩
 | dK kvs=>obtain ⟨z,y,vs,r,ob,es,ep,e,c⟩:=x; exact ⟨z,y,vs,r,ob,es,ep,k _ _ (.inl rfl) e,c⟩
 | dT kvs=>
  obtain ⟨z,y,xs,r,ob,es,ep,e,c⟩:=x
  exact ⟨z,y,xs,Paired.mapP r fun p q z=>⟨z.1,ht _ _ z.2.1,z.2.2⟩,ob,es,ep,k _ _ (.inl rfl) e,c⟩
 | set S n=>obtain ⟨ob,es,ep,t,e,c⟩:=x; exact ⟨ob,es,ep,t,k _ _ (.inl rfl) e,c⟩
 | ins C dx fs=>
  obtain ⟨d,z,ne,e,mA,⟨od,es,ep,e2,c⟩,r⟩:=x
  exact ⟨ho _ d,z,ne,k _ _ (.inl rfl) e,mA,⟨od,es,ep,k _ _ (.inr d) e2,c⟩,r⟩
 | own y=>obtain ⟨ob,e⟩:=x; exact ⟨ob,k _ _ (.inl rfl) e⟩
 | xd fs=>obtain ⟨mA,⟨od,es,ep,e,c⟩,r⟩:=x; exact ⟨mA,⟨od,es,ep,k _ _ (.inl rfl) e,c⟩,r⟩
 | rng lo hi=>obtain ⟨t,u,v,e⟩:=x; exact ⟨t,u,v,k _ _ (.inl rfl) e⟩
 | frz ob u ih=>obtain ⟨e,q⟩:=x; exact ⟨k _ _ (.inl rfl) e,ih q⟩
 | tbl ps=>
  have e:h.get? a=some { cls:= .none,data:= .fields ps }:=x
  show h'.get? a=some { cls:= .none,data:= .fields ps }
  exact k a _ (.inl rfl) e
 | met f y=>
  have e:h.get? a=some (PySem.W.methodObj (.ref f) (.ref y)):=x
  show h'.get? a=some (PySem.W.methodObj (.ref f) (.ref y))
  exact k a _ (.inl rfl) e
 | ext φ=>obtain ⟨p,⟨o,e⟩,st⟩:=x; exact ⟨st _ _ p fun o q=>k _ _ (.inl rfl) q,⟨o,k _ _ (.inl rfl) e⟩,st⟩
theorem HOk.lt (x:HOk P w H h) (e:H a=some o):a < h.objs.size:=(x a o e).lt
theorem HOk.fresh (x:HOk P w H h) (e:h.objs.size<=a):H a=none:=by
 cases q:H a with
 | none=>rfl
 | some u=>exact absurd (Nat.lt_of_lt_of_le (x.lt q) e) (Nat.lt_irrefl _)
theorem HOk.kept (x:HOk P w H h) (k:∀ b u,h.get? b=some u->h'.get? b=some u):HOk P w H h':=fun a o e=>
 (x a o e).stay (fun b u _ q=>k b u q) (fun _ q=>q) fun _ _ q=>q
theorem HOk.laid (x:HOk P w H h) (k:∀ b u,h.get? b=some u->h'.get? b=some u) (hp:h.objs.size<=a) (new:qt P w (upd H a o) h' a o):HOk P w (upd H a o) h':=fun b u e=>by
 have hn:=x.fresh hp
 by_cases hb:b=a
 ·subst hb; rw [jp] at e; cases e; exact new
 ·rw [jn hb] at e
  exact (x b u e).stay (fun c v _ q=>k c v q) (fun c q=>by rw [jn (qo q hn)]; exact q) fun c xs q=>by rw [jn (qo q hn)]; exact q
end
noncomputable def Rd (H:Hp) (a:Addr) (u:HO):Prop:=H a=some u ∨ ∃ o,H a=some (.frz o u)
theorem Rd.of {H:Hp}{a:Addr}{u:HO} (h:H a=some u):Rd H a u:= .inl h
theorem Rd.ok {P:Program}{w:World}{H:Hp}{h:Heap}{a:Addr}{u:HO} (r:Rd H a u) (x:HOk P w H h):qt P w H h a u:=by
 rcases r with r | ⟨o,r⟩
 ·exact x a u r
 ·obtain ⟨_,q⟩:=x a _ r
  exact q
noncomputable def Mut:Option HO->Prop
 | some (.lst _)=>True
 | some (.dK _)=>True
 | some (.dT _)=>True
 | some (.set _ _)=>True
 | some (.ins _ _ _)=>True
 | some (.ext _)=>True
 | _=>False
section
variable {P:Program}{w:World}{H:Hp}{h h':Heap}{x e:Addr}{o':HO}
theorem HOk.write (ok:HOk P w H h) (mu:Mut (H x)) (he:e=x ∨ H e=some (.own x)) (k:∀ b u,b ≠ e->h.get? b=some u->h'.get? b=some u) (heo:∃ u,h'.get? e=some u)
  (new:qt P w (upd H x o') h' x o'):HOk P w (upd H x o') h':=fun b u q=>by
 have nown:∀ c y,H c=some (.own y)->c ≠ x:=fun c y r z=>by subst z; rw [r] at mu; exact mu
 have ntup:∀ c xs,H c=some (.tup xs)->c ≠ x:=fun c xs r z=>by subst z; rw [r] at mu; exact mu
 by_cases hb:b=x
 ·subst hb; rw [jp] at q; cases q; exact new
 ·rw [jn hb] at q
  by_cases hbe:b=e
  ·have q':H b=some (.own x):=by
    rcases he with z | z
    ·exact absurd (hbe.trans z) hb
    ·rw [hbe]; exact z
   rw [q] at q'; cases q'
   obtain ⟨v,hv⟩:=heo
   exact ⟨v,by rw [hbe]; exact hv⟩
  ·refine (ok b u q).stay (fun c v hc r=>k c v ?_ r) (fun c r=>by rw [jn (nown c b r)]; exact r) fun c xs r=>by rw [jn (ntup c xs r)]; exact r
   rcases hc with rfl | hc
   ·exact hbe
   ·rintro rfl
    rcases he with z | z
    ·exact nown c b hc z
    ·rw [hc] at z; cases z; exact hb rfl
end
structure Un (fs ex:List Addr) (H H':Hp) (h h':Heap):Prop where
 keep:∀ b o,h.get? b=some o->H b=none->b ∉ fs->b ∉ ex->h'.get? b=some o
 slot:∀ b o,h.get? b=some o->H b=none->b ∈ fs->b ∉ ex->∃ sl,h'.get? b=some { o with slots:=sl }
 free:∀ b o,h.get? b=some o->H b=none->b ∉ ex->H' b=none
 there:∀ b o,h.get? b=some o->b ∉ ex->∃ o',h'.get? b=some o'
 tups:∀ b xs,H b=some (.tup xs)->H' b=some (.tup xs)
 frzs:∀ b o u,H b=some (.frz o u)->H' b=some (.frz o u)
 tbls:∀ b ps,H b=some (.tbl ps)->∃ more,H' b=some (.tbl (ps++more))
section
variable {fs fs' ex ex':List Addr}{H H1 H2:Hp}{h h1 h2 h':Heap}{a x e:Addr}{o:HO}
theorem Un.any (u:Un fs ex H H1 h h1) {b:Addr}{ob:Obj} (q:h.get? b=some ob) (n:H b=none) (hx:b ∉ ex):∃ sl,h1.get? b=some { ob with slots:=sl }:=by
 by_cases hb:b ∈ fs
 ·exact u.slot b ob q n hb hx
 ·exact ⟨ob.slots,u.keep b ob q n hb hx⟩
theorem Un.trans (a:Un fs ex H H1 h h1) (b:Un fs ex H1 H2 h1 h2):Un fs ex H H2 h h2 where
 keep:=fun c ob q n hc hx=>b.keep c ob (a.keep c ob q n hc hx) (a.free c ob q n hx) hc hx
 slot:=fun c ob q n hc hx=>by
  obtain ⟨sl,e1⟩:=a.slot c ob q n hc hx
  obtain ⟨sl',e2⟩:=b.slot c _ e1 (a.free c ob q n hx) hc hx
  exact ⟨sl',e2⟩
 free:=fun c ob q n hx=>by
  obtain ⟨o',e1⟩:=a.there c ob q hx
  exact b.free c o' e1 (a.free c ob q n hx) hx
 there:=fun c ob q hx=>by
  obtain ⟨o',e1⟩:=a.there c ob q hx
  exact b.there c o' e1 hx
 tups:=fun c xs q=>b.tups c xs (a.tups c xs q)
 frzs:=fun c ob xs q=>b.frzs c ob xs (a.frzs c ob xs q)
 tbls:=fun c ps q=>by
  obtain ⟨m1,e1⟩:=a.tbls c ps q
  obtain ⟨m2,e2⟩:=b.tbls c _ e1
  exact ⟨m1++m2,by rw [e2,Array.append_assoc]⟩
theorem Un.kept (k:∀ b u,h.get? b=some u->h'.get? b=some u):Un fs ex H H h h':=
 ⟨fun b ob q _ _ _=>k b ob q,fun b ob q _ _ _=>⟨ob.slots,k b ob q⟩,fun _ _ _ n _=>n,fun b ob q _=>⟨ob,k b ob q⟩,fun _ _ q=>q,fun _ _ _ q=>q,fun _ ps q=>⟨#[],by rw [q]; simp⟩⟩
theorem Un.refl:Un fs ex H H h h:=Un.kept fun _ _ q=>q
theorem Un.laid (k:∀ b u,h.get? b=some u->h'.get? b=some u) (hp:h.objs.size<=a) (hn:H a=none):Un fs ex H (upd H a o) h h' where
 keep:=fun b u q _ _ _=>k b u q
 slot:=fun b u q _ _ _=>⟨u.slots,k b u q⟩
 free:=fun b u q n _=>by rw [jn (Nat.ne_of_lt (Nat.lt_of_lt_of_le (Heap.lt_size q) hp))]; exact n
 there:=fun b u q _=>⟨u,k b u q⟩
 tups:=fun b xs q=>by rw [jn (qo q hn)]; exact q
 frzs:=fun b u xs q=>by rw [jn (qo q hn)]; exact q
 tbls:=fun b ps q=>⟨#[],by rw [jn (qo q hn),q]; simp⟩
theorem Un.write (mu:Mut (H x)) (he:e=x ∨ H e=some (.own x)) (k:∀ b u,b ≠ e->h.get? b=some u->h'.get? b=some u) (heo:∃ u,h'.get? e=some u):Un fs ex H (upd H x o) h h':=by
 have hx:∀ b,H b=none->b ≠ x:=fun b n z=>by subst z; rw [n] at mu; exact mu
 have hb:∀ b,H b=none->b ≠ e:=fun b n z=>by
  subst z
  rcases he with r | r
  ·exact hx b n r
  ·rw [n] at r; cases r
 have hm:∀ b u,H b=some u->¬ Mut (some u)->b ≠ x:=fun b u q nm z=>by subst z; rw [q] at mu; exact nm mu
 refine ⟨fun b u q n _ _=>k b u (hb b n) q,fun b u q n _ _=>⟨u.slots,k b u (hb b n) q⟩,fun b u q n _=>by rw [jn (hx b n)]; exact n,fun b u q _=>?_,
  fun b xs q=>by rw [jn (hm b _ q fun z=>z)]; exact q,fun b u xs q=>by rw [jn (hm b _ q fun z=>z)]; exact q,fun b ps q=>⟨#[],by rw [jn (hm b _ q fun z=>z),q]; simp⟩⟩
 by_cases hbe:b=e
 ·subst hbe; exact heo
 ·exact ⟨u,k b u hbe q⟩
theorem Un.mono (u:Un fs ex H H1 h h1) (hs:∀ b ∈ fs,b ∈ fs') (hx:∀ b ∈ ex,b ∈ ex'):Un fs' ex' H H1 h h1:=
 ⟨fun b ob q n hb he=>u.keep b ob q n (fun z=>hb (hs b z)) fun z=>he (hx b z),fun _ _ q n _ he=>u.any q n fun z=>he (hx _ z),fun b ob q n he=>u.free b ob q n fun z=>he (hx b z),fun b ob q he=>u.there b ob q fun z=>he (hx b z),u.tups,u.frzs,u.tbls⟩
end
noncomputable def trk (h:Heap) (H:Hp):List Addr:=(List.range h.objs.size).filter fun a=>(H a).isSome
noncomputable def ab5 (h:Heap) (H:Hp):Heap:=PySem.W.hideAll h (trk h H)
theorem afN (h:Heap) (H:Hp):(ab5 h H).objs.size=h.objs.size:=PySem.W.hideAll_size _ _
theorem agS {h:Heap}{H:Hp}{b:Addr}{o:Obj} (e:h.get? b=some o) (n:H b=none):(ab5 h H).get? b=some o:=
 PySem.W.hideAll_get _ e fun hm=>by
  have q:(H b).isSome=true:=(List.mem_filter.mp hm).2
  rw [n] at q; simp at q
theorem aiX {h:Heap}{H:Hp}{b:Addr}{o:Obj} (e:(ab5 h H).get? b=some o):h.get? b=some o/\H b=none:=by
 have e':h.get? b=some o:=PySem.W.of_hideAll (trk h H) e
 refine ⟨e',?_⟩
 cases q:H b with
 | none=>rfl
 | some x=>
  have hm:b ∈ trk h H:=List.mem_filter.mpr ⟨List.mem_range.mpr (Heap.lt_size e'),by simp [q]⟩
  have z:(ab5 h H).get? b=none:=PySem.W.hideAll_none (trk h H) hm
  rw [z] at e; cases e
noncomputable def aiY (g h:Heap) (L:Addr):List (Addr × Obj):=(List.range h.objs.size).filterMap fun a=>if a=L ∨ (g.get? a).isSome=true then none else (h.get? a).map fun o=>(a,o)
noncomputable def qq (g h:Heap) (L d:Addr):List (Addr × Obj):=(aiY g h L).filter fun p=>decide (p.1 ≠ d)
end L2
namespace L2
open PySem PySem.Spec PyProof.Rows
structure Mod (K:PySem.W.Frag) (mg:Str->Option Value) (base:Heap):Prop where
 kin:K.In base
 glob:base.Ns mainGlobals mg
 blt:∃ mb,base.Ns builtinsNs mb/\∀ x:Str,x ≠ "__name__"->mb x=bootBuiltins x
 nolimit:base.NoLimit
structure Cx where
 prog:Program
 w:World
 K:PySem.W.Frag
 mg:Str->Option Value
 base:Heap
 A:Around
 N:List Str
 s₀:Shared
 H₀:Hp
 env:Env
 outer:List Env
 stack:List Env
 ex:List Addr
 fn:Str->Bool
 calm:Bool
 pn:List (Addr × Obj)
 xe:Value->Shared->Prop
noncomputable def frs (l:List Env):List Addr:=l.filterMap (·.frame)
noncomputable abbrev Cx.fs (X:Cx):List Addr:=frs X.outer
noncomputable def Vis (sc:Scope) (x:Str):Prop:=sc.names.lookup x=some .local ∨ sc.names.lookup x=some .cell ∨ sc.names.lookup x=some .free
noncomputable def Loc (sc:Scope) (x:Str):Prop:=sc.names.lookup x=some .local ∨ sc.names.lookup x=some .cell
noncomputable def am5 (env:Env) (h:Heap) (m:Str->Option Value) (x:Str) (u:Value):Prop:=
 (env.kindOf x=some .local/\m x=some u) ∨ ((env.kindOf x=some .cell ∨ env.kindOf x=some .free)/\∃ c,env.cells.lookup x=some c/\h.IsCell c (some u))
structure Cx.Ok (X:Cx):Prop where
 mod:Mod X.K X.mg X.base
 kind:X.env.scope.kind= .function
 glob:X.env.globals=mainGlobals
 blt:X.env.builtins=builtinsNs
 above:X.s₀.heap.objs.size<=X.env.locals
 inj:∀ x y c,X.env.cells.lookup x=some c->X.env.cells.lookup y=some c->x=y
 has:∀ x,(X.env.kindOf x=some .cell ∨ X.env.kindOf x=some .free)->∃ c,X.env.cells.lookup x=some c
 cab:∀ x c,X.fn x=true->X.env.cells.lookup x=some c->X.s₀.heap.objs.size<=c
 hd:X.calm=true->X.A.handled=none
 frames:X.A.frames=some X.stack
 stk:X.stack=X.outer ∨ (X.stack=X.env::X.outer/\X.env.frame=some X.env.locals)
 exf:∀ b ∈ X.ex,b ≠ X.env.locals/\∀ x c,X.env.cells.lookup x=some c->c ≠ b
 bs:∀ b o,X.base.get? b=some o->X.s₀.heap.get? b=some o/\X.H₀ b=none
 bsz:X.base.objs.size<=X.s₀.heap.objs.size
 noex:∀ b o,X.base.get? b=some o->b ∉ X.ex
 exfs:∀ b ∈ X.ex,b ∉ X.fs
 funs:X.s₀.heap.FunFrames X.base X.outer
 frf:∀ b ∈ X.fs,X.H₀ b=none
structure Inv (X:Cx) (pins:List (Addr × Obj)) (σ:List (Option V)) (H:Hp) (s:Shared):Prop where
 ok:X.Ok
 os:s.os=X.s₀.os
 bare:AllBare s.gens
 base:Un X.fs X.ex X.H₀ H X.s₀.heap s.heap
 loc:∃ m,s.heap.Ns X.env.locals m/\∀ (i:Nat) (x:Str) (v:V),X.N[i]?=some x->σ[i]?=some (some v)->Vis X.env.scope x->∃ u,jJ v u/\am5 X.env s.heap m x u
 cell:∀ x c,X.env.cells.lookup x=some c->∃ v,s.heap.IsCell c v
 free:H X.env.locals=none
 freeC:∀ x c,X.env.cells.lookup x=some c->H c=none
 pin:∀ p ∈ X.pn++pins,s.heap.get? p.1=some p.2/\H p.1=none/\p.1 ≠ X.env.locals/\p.1 ∉ X.fs/\∀ v,p.2.data ≠ .cell v
 hok:HOk X.prog X.w H s.heap
 len:σ.length=X.N.length
section
variable {X:Cx}{pins:List (Addr × Obj)}{σ:List (Option V)}{H H':Hp}{s:Shared}{h':Heap}
theorem Cx.Ok.nofr (ok:X.Ok) {b:Addr}{o:Obj} (e:X.base.get? b=some o):b ∉ X.fs:=fun hb=>by
 have:=(ok.funs.mem hb).1
 rw [e] at this; cases this
theorem Inv.bs (I:Inv X pins σ H s):∀ b o,X.base.get? b=some o->s.heap.get? b=some o/\H b=none:=fun b o e=>
 ⟨I.base.keep b o (I.ok.bs b o e).1 (I.ok.bs b o e).2 (I.ok.nofr e) (I.ok.noex b o e),I.base.free b o (I.ok.bs b o e).1 (I.ok.bs b o e).2 (I.ok.noex b o e)⟩
theorem Inv.bk (I:Inv X pins σ H s):∀ b o,X.base.get? b=some o->s.heap.get? b=some o:=fun b o e=>(I.bs b o e).1
theorem Inv.mod (I:Inv X pins σ H s):Mod X.K X.mg X.base:=I.ok.mod
theorem Inv.kIn (I:Inv X pins σ H s):X.K.In s.heap:=I.ok.mod.kin.keeps I.bk
theorem Inv.nolimit (I:Inv X pins σ H s):s.heap.NoLimit:=I.ok.mod.nolimit.keeps I.bk
theorem Inv.fr (I:Inv X pins σ H s):∃ m,Fr X.base X.env.locals s.heap m:=
 let ⟨m,hn,_⟩:=I.loc
 ⟨m,hn,I.bk,Nat.le_trans I.ok.bsz I.ok.above⟩
theorem Inv.lt (I:Inv X pins σ H s):X.env.locals < s.heap.objs.size:=let ⟨_,hn,_⟩:=I.loc; hn.lt
theorem Inv.sz (I:Inv X pins σ H s):X.s₀.heap.objs.size<=s.heap.objs.size:=Nat.le_trans I.ok.above (Nat.le_of_lt I.lt)
theorem Inv.nofs (I:Inv X pins σ H s) {a:Addr} (h:s.heap.objs.size<=a):a ∉ X.fs:=fun hb=>by
 obtain ⟨_,o,ho,_⟩:=I.ok.funs.mem hb
 exact absurd (Nat.lt_of_lt_of_le (Heap.lt_size ho) (Nat.le_trans I.sz h)) (Nat.lt_irrefl _)
theorem Inv.cne (I:Inv X pins σ H s):∀ x c,X.env.cells.lookup x=some c->c ≠ X.env.locals:=fun x c e z=>by
 obtain ⟨v,o,ho,hd⟩:=I.cell x c e
 obtain ⟨m,⟨o',es,ep,ho',hd',_⟩,_⟩:=I.loc
 rw [z,ho'] at ho; cases ho; rw [hd'] at hd; cases hd
theorem Inv.funs (I:Inv X pins σ H s):s.heap.FunFrames X.base X.outer:=by
 have all:∀ (l:List Env),(∀ b ∈ frs l,b ∈ X.fs)->X.s₀.heap.FunFrames X.base l->s.heap.FunFrames X.base l:=by
  intro l
  induction l with
  | nil=>intro _ _; trivial
  | cons env r ih=>
   intro hs hl
   obtain ⟨hk,⟨L,o,hf,hn,ho,hd⟩,hr⟩:=hl
   have hL:L ∈ X.fs:=hs L (by unfold frs; rw [List.filterMap_cons,hf]; exact List.mem_cons_self)
   obtain ⟨sl,e⟩:=I.base.slot L o ho (I.ok.frf L hL) hL fun z=>I.ok.exfs L z hL
   exact ⟨hk,⟨L,_,hf,hn,e,hd⟩,ih (fun b hb=>hs b (by unfold frs; rw [List.filterMap_cons,hf]; exact List.mem_cons_of_mem _ hb)) hr⟩
 exact all X.outer (fun _ hb=>hb) I.ok.funs
theorem Inv.stack (I:Inv X pins σ H s):s.heap.FunFrames X.base X.stack:=by
 rcases I.ok.stk with e | ⟨e,hf⟩
 ·rw [e]; exact I.funs
 ·rw [e]
  obtain ⟨m,hn,_⟩:=I.loc
  refine .cons (by rw [I.ok.kind]; decide) hf hn ?_ I.funs
  exact Heap.get?_none_of_le (Nat.le_trans I.ok.bsz I.ok.above)
theorem Inv.stkSub (I:Inv X pins σ H s):∀ b ∈ frs X.stack,b ∈ X.env.locals::X.fs:=fun b hb=>by
 rcases I.ok.stk with e | ⟨e,hf⟩
 ·rw [e] at hb; exact List.mem_cons_of_mem _ hb
 ·rw [e] at hb
  unfold frs at hb
  rw [List.filterMap_cons,hf] at hb
  exact hb
theorem Inv.stkFree (I:Inv X pins σ H s):∀ b ∈ frs X.stack,H b=none:=fun b hb=>by
 rcases List.mem_cons.mp (I.stkSub b hb) with e | hb
 ·rw [e]; exact I.free
 ·obtain ⟨_,o,ho,_⟩:=I.ok.funs.mem hb
  exact I.base.free b o ho (I.ok.frf b hb) fun z=>I.ok.exfs b z hb
theorem Inv.step {g':Array GenState}{t':Nat}{d':Drawn}{ch:List Addr} (I:Inv X pins σ H s)
  (hch:∀ b ∈ ch,(b ∈ X.ex ∨ X.s₀.heap.objs.size<=b)/\b ≠ X.env.locals/\(∀ x c,X.env.cells.lookup x=some c->c ≠ b)/\∀ p ∈ X.pn++pins,p.1 ≠ b)
  (keep:∀ b o,b ≠ X.env.locals->b ∉ X.fs->b ∉ ch->s.heap.get? b=some o->H b=none->h'.get? b=some o)
  (slot:∀ b o,b ≠ X.env.locals->b ∈ X.fs->b ∉ ch->s.heap.get? b=some o->H b=none->∃ sl,h'.get? b=some { o with slots:=sl }) (free:∀ b o,b ∉ ch->s.heap.get? b=some o->H b=none->H' b=none)
  (there:∀ b o,b ∉ ch->s.heap.get? b=some o->∃ o',h'.get? b=some o')
  (tups:∀ b xs,H b=some (.tup xs)->H' b=some (.tup xs)) (frzs:∀ b o u,H b=some (.frz o u)->H' b=some (.frz o u)) (tbls:∀ b ps,H b=some (.tbl ps)->∃ more,H' b=some (.tbl (ps++more)))
  (ns:∀ m,s.heap.Ns X.env.locals m->h'.Ns X.env.locals m) (hok:HOk X.prog X.w H' h') (hg:AllBare g'):
  Inv X pins σ H' { s with heap:=h',gens:=g',drawn:=d',toks:=t' }:=by
 have neL:∀ b o,X.s₀.heap.get? b=some o->b ≠ X.env.locals:=fun b o e=>Nat.ne_of_lt (Nat.lt_of_lt_of_le (Heap.lt_size e) I.ok.above)
 have neC:∀ b o,X.s₀.heap.get? b=some o->b ∉ X.ex->b ∉ ch:=fun b o e hx hb=>by
  rcases (hch b hb).1 with z | z
  ·exact hx z
  ·exact absurd (Nat.lt_of_lt_of_le (Heap.lt_size e) z) (Nat.lt_irrefl _)
 have cellK:∀ x c,X.env.cells.lookup x=some c->∀ v,s.heap.IsCell c v->h'.IsCell c v:=fun x c e v ⟨o,ho,hd⟩=>by
  have nch:c ∉ ch:=fun z=>(hch c z).2.2.1 x c e rfl
  by_cases hc:c ∈ X.fs
  ·obtain ⟨sl,q⟩:=slot c o (I.cne x c e) hc nch ho (I.freeC x c e)
   exact ⟨_,q,hd⟩
  ·exact ⟨o,keep c o (I.cne x c e) hc nch ho (I.freeC x c e),hd⟩
 refine ⟨I.ok,I.os,hg,⟨fun b o e n hb hx=>?_,fun b o e n hb hx=>?_,fun b o e n hx=>?_,fun b o e hx=>?_,fun b xs e=>tups b xs (I.base.tups b xs e),fun b o xs e=>frzs b o xs (I.base.frzs b o xs e),fun b ps e=>?_⟩,?_,fun x c e=>?_,?_,fun x c e=>?_,fun p hp=>?_,hok,I.len⟩
 ·exact keep b o (neL b o e) hb (neC b o e hx) (I.base.keep b o e n hb hx) (I.base.free b o e n hx)
 ·obtain ⟨sl,e1⟩:=I.base.slot b o e n hb hx
  obtain ⟨sl',e2⟩:=slot b _ (neL b o e) hb (neC b o e hx) e1 (I.base.free b o e n hx)
  exact ⟨sl',e2⟩
 ·obtain ⟨o',e1⟩:=I.base.there b o e hx
  exact free b o' (neC b o e hx) e1 (I.base.free b o e n hx)
 ·obtain ⟨o',e1⟩:=I.base.there b o e hx
  exact there b o' (neC b o e hx) e1
 ·obtain ⟨m1,e1⟩:=I.base.tbls b ps e
  obtain ⟨m2,e2⟩:=tbls b _ e1
  exact ⟨m1++m2,by rw [e2,Array.append_assoc]⟩
 ·obtain ⟨m,hn,hl⟩:=I.loc
  refine ⟨m,ns m hn,fun i x v e1 e2 e3=>?_⟩
  obtain ⟨u,r,l⟩:=hl i x v e1 e2 e3
  refine ⟨u,r,?_⟩
  rcases l with l | ⟨k,c,e,z⟩
  ·exact .inl l
  ·exact .inr ⟨k,c,e,cellK x c e _ z⟩
 ·obtain ⟨v,z⟩:=I.cell x c e
  exact ⟨v,cellK x c e v z⟩
 ·obtain ⟨m,⟨o,_,_,ho,_⟩,_⟩:=I.loc
  exact free _ o (fun z=>(hch _ z).2.1 rfl) ho I.free
 ·obtain ⟨v,o,ho,hd⟩:=I.cell x c e
  exact free c o (fun z=>(hch c z).2.2.1 x c e rfl) ho (I.freeC x c e)
 ·obtain ⟨e,n,ne,nf,d⟩:=I.pin p hp
  have nch:p.1 ∉ ch:=fun z=>(hch p.1 z).2.2.2 p hp rfl
  exact ⟨keep p.1 p.2 ne nf nch e n,free p.1 p.2 nch e n,ne,nf,d⟩
theorem Inv.un {t':Nat} (I:Inv X pins σ H s) (u:Un X.fs [] H H' s.heap h') (hok:HOk X.prog X.w H' h'):Inv X pins σ H' { s with heap:=h',toks:=t' }:=by
 obtain ⟨m,⟨o,es,ep,ho,r⟩,_⟩:=id I.loc
 obtain ⟨sl,hL⟩:=u.any ho I.free (by simp)
 exact I.step (g':=s.gens) (d':=s.drawn) (ch:=[]) (fun _ z=>nomatch z) (fun b o _ hb _ e n=>u.keep b o e n hb (by simp)) (fun b o _ hb _ e n=>u.slot b o e n hb (by simp)) (fun b o _ e n=>u.free b o e n (by simp)) (fun b o _ e=>u.there b o e (by simp)) u.tups u.frzs u.tbls (fun m' hm=>by
  obtain ⟨o',es',ep',ho',r'⟩:=hm
  rw [ho] at ho'; cases ho'
  exact ⟨_,es',ep',hL,r'⟩) hok I.bare
theorem Inv.call {g':Array GenState}{t':Nat}{d':Drawn}{ch:List Addr} (I:Inv X pins σ H s) (u:Un (frs X.stack) ch H H' s.heap h') (hok:HOk X.prog X.w H' h') (hg:AllBare g')
  (hch:∀ b ∈ ch,(b ∈ X.ex ∨ X.s₀.heap.objs.size<=b)/\b ≠ X.env.locals/\(∀ x c,X.env.cells.lookup x=some c->c ≠ b)/\∀ p ∈ X.pn++pins,p.1 ≠ b):
  Inv X pins σ H' { s with heap:=h',gens:=g',drawn:=d',toks:=t' }:=by
 obtain ⟨m,⟨o,es,ep,ho,r⟩,_⟩:=id I.loc
 obtain ⟨sl,hL⟩:=u.any ho I.free fun z=>(hch _ z).2.1 rfl
 exact I.step (ch:=ch) hch (fun b o hL hb hc e n=>u.keep b o e n (fun z=>(List.mem_cons.mp (I.stkSub b z)).elim hL hb) hc) (fun b o _ _ hc e n=>u.any e n hc) (fun b o hc e n=>u.free b o e n hc) (fun b o hc e=>u.there b o e hc) u.tups u.frzs u.tbls (fun m' hm=>by
  obtain ⟨o',es',ep',ho',r'⟩:=hm
  rw [ho] at ho'; cases ho'
  exact ⟨_,es',ep',hL,r'⟩) hok hg
theorem Inv.turned {t':Nat}{it:Addr} (I:Inv X pins σ H s) (k:∀ b o,b ≠ it->s.heap.get? b=some o->h'.get? b=some o) (hn:H it=none) (hL:it ≠ X.env.locals)
  (h1:it ∈ X.ex ∨ X.s₀.heap.objs.size<=it) (h2:∀ x c,X.env.cells.lookup x=some c->c ≠ it) (h3:∀ p ∈ X.pn++pins,p.1 ≠ it):Inv X pins σ H { s with heap:=h',toks:=t' }:=by
 have nit:∀ b u,H b=some u->b ≠ it:=fun b u e z=>by rw [z,hn] at e; cases e
 refine I.step (g':=s.gens) (d':=s.drawn) (ch:=[it]) (fun b hb=>?_) (fun b o _ _ hc e _=>k b o (fun z=>hc (by simp [z])) e) (fun b o _ _ hc e _=>⟨o.slots,k b o (fun z=>hc (by simp [z])) e⟩) (fun _ _ _ _ n=>n)
  (fun b o hc e=>⟨o,k b o (fun z=>hc (by simp [z])) e⟩) (fun _ _ e=>e) (fun _ _ _ e=>e) (fun b ps e=>⟨#[],by rw [e]; simp⟩) (fun m hm=>?_) (fun b u e=>?_) I.bare
 ·have e:b=it:=by simpa using hb
  subst e
  exact ⟨h1,hL,h2,h3⟩
 ·obtain ⟨o,es,ep,ho,r⟩:=hm
  exact ⟨o,es,ep,k _ o (Ne.symm hL) ho,r⟩
 ·refine (I.hok b u e).stay (fun c v hc q=>k c v ?_ q) (fun _ q=>q) fun _ _ q=>q
  rcases hc with z | z
  ·rw [z]; exact nit b u e
  ·exact nit c _ z
theorem Inv.tok (I:Inv X pins σ H s) (t:Nat):Inv X pins σ H { s with toks:=t }:=I.un (h':=s.heap) (t':=t) Un.refl I.hok
theorem Inv.kept {t':Nat} (I:Inv X pins σ H s) (k:∀ b u,s.heap.get? b=some u->h'.get? b=some u):Inv X pins σ H { s with heap:=h',toks:=t' }:=I.un (Un.kept k) (I.hok.kept k)
theorem Inv.laid {a:Addr}{o:HO}{t':Nat} (I:Inv X pins σ H s) (k:∀ b u,s.heap.get? b=some u->h'.get? b=some u) (hp:s.heap.objs.size<=a) (new:qt X.prog X.w (upd H a o) h' a o):
  Inv X pins σ (upd H a o) { s with heap:=h',toks:=t' }:=I.un (Un.laid k hp (I.hok.fresh hp)) (I.hok.laid k hp new)
theorem Inv.write {x e:Addr}{o:HO}{t':Nat} (I:Inv X pins σ H s) (mu:Mut (H x)) (he:e=x ∨ H e=some (.own x)) (k:∀ b u,b ≠ e->s.heap.get? b=some u->h'.get? b=some u) (heo:∃ u,h'.get? e=some u)
  (new:qt X.prog X.w (upd H x o) h' x o):Inv X pins σ (upd H x o) { s with heap:=h',toks:=t' }:=I.un (Un.write mu he k heo) (I.hok.write mu he k heo new)
theorem Inv.pins_of {pins':List (Addr × Obj)} (I:Inv X pins σ H s) (h:∀ p ∈ pins',s.heap.get? p.1=some p.2/\H p.1=none/\p.1 ≠ X.env.locals/\p.1 ∉ X.fs/\∀ v,p.2.data ≠ .cell v):Inv X pins' σ H s:=
 ⟨I.ok,I.os,I.bare,I.base,I.loc,I.cell,I.free,I.freeC,fun p hp=>(List.mem_append.mp hp).elim (fun z=>I.pin p (List.mem_append_left _ z)) (h p),I.hok,I.len⟩
theorem acX {N:List Str} (hN:N.Nodup) {i j:Nat}{x:Str} (a:N[i]?=some x) (b:N[j]?=some x):i=j:=by
 obtain ⟨h1,e1⟩:=List.getElem?_eq_some_iff.mp a
 obtain ⟨h2,e2⟩:=List.getElem?_eq_some_iff.mp b
 exact (List.getElem_inj hN).mp (e1.trans e2.symm)
theorem abo {M:Model}{A:Around}{E:Value->Shared->Prop}{i:Nat}{x:Str}{v:V}{u:Value}{Q:Unit->Shared->Prop} (I:Inv X pins σ H s) (hN:X.N.Nodup) (hi:X.N[i]?=some x) (hx:Loc X.env.scope x) (r:jJ v u)
  (h:∀ s',Inv X pins (σ.set i (some v)) H s'->(∃ a,Heap.SameBut a s.heap s'.heap/\(a=X.env.locals ∨ X.env.cells.lookup x=some a))->Q () s') (hf:X.fn x=true ∨ X.env.scope.names.lookup x=some .local:=by first | exact .inl rfl | exact .inr rfl | assumption):wpAny M A (storeName X.env x u) Q E s:=by
 obtain ⟨m,hn,hl⟩:=id I.loc
 have hcls:(X.env.scope.kind == .class || (X.env.scope.kind == .module && X.env.locals != X.env.globals))=false:=by rw [I.ok.kind]; rfl
 have hiσ:i < σ.length:=by rw [I.len]; exact (List.getElem?_eq_some_iff.mp hi).1
 have cne:=I.cne
 have tracked:∀ {a:Addr} {h':Heap},(∃ o,s.heap.get? a=some o/\H a=none)->Heap.SameBut a s.heap h'->HOk X.prog X.w H h':=fun {a h'} ha hs b ob e=>by
  obtain ⟨_,_,hfree⟩:=ha
  refine (I.hok b ob e).stay (fun c w' hc q=>(hs.2 c ?_).trans q) (fun _ q=>q) fun _ _ q=>q
  rintro rfl
  rcases hc with rfl | hc
  ·rw [hfree] at e; cases e
  ·rw [hfree] at hc; cases hc
 rcases hx with hk | hk
 ·refine wpAny_storeName_local hk hn (fun h' hn' hs=>?_) hcls
  obtain ⟨oL,_,_,hoL,_⟩:=id hn
  refine h _ ⟨I.ok,I.os,I.bare,⟨fun b o e n hb hx=>?_,fun b o e n hb hx=>?_,I.base.free,fun b o e hx=>?_,I.base.tups,I.base.frzs,I.base.tbls⟩,⟨_,hn',fun j y v' e1 e2 e3=>?_⟩,fun y c e=>?_,I.free,I.freeC,fun p hp=>?_,tracked ⟨oL,hoL,I.free⟩ hs,by simpa using I.len⟩ ⟨_,hs,.inl rfl⟩
  ·exact (hs.2 b (Nat.ne_of_lt (Nat.lt_of_lt_of_le (Heap.lt_size e) I.ok.above))).trans (I.base.keep b o e n hb hx)
  ·obtain ⟨sl,e1⟩:=I.base.slot b o e n hb hx
   exact ⟨sl,(hs.2 b (Nat.ne_of_lt (Nat.lt_of_lt_of_le (Heap.lt_size e) I.ok.above))).trans e1⟩
  ·obtain ⟨o',e1⟩:=I.base.there b o e hx
   exact ⟨o',(hs.2 b (Nat.ne_of_lt (Nat.lt_of_lt_of_le (Heap.lt_size e) I.ok.above))).trans e1⟩
  ·by_cases hj:j=i
   ·subst hj
    rw [hi] at e1; cases e1
    rw [List.getElem?_set_self hiσ] at e2
    cases e2
    exact ⟨u,r,.inl ⟨hk,by simp⟩⟩
   ·rw [List.getElem?_set_ne (Ne.symm hj)] at e2
    obtain ⟨u',r',q⟩:=hl j y v' e1 e2 e3
    refine ⟨u',r',?_⟩
    rcases q with ⟨k,e⟩ | ⟨k,c,e,z⟩
    ·refine .inl ⟨k,?_⟩
     have:y ≠ x:=fun e=>hj (acX hN e1 (e ▸ hi))
     simp [this,e]
    ·exact .inr ⟨k,c,e,z.sameBut hs (cne y c e)⟩
  ·obtain ⟨w',z⟩:=I.cell y c e
   exact ⟨w',z.sameBut hs (cne y c e)⟩
  ·obtain ⟨e,n,ne,nf,d⟩:=I.pin p hp
   exact ⟨(hs.2 p.1 ne).trans e,n,ne,nf,d⟩
 ·have hfn:X.fn x=true:=by
   rcases hf with z | z
   ·exact z
   ·rw [z] at hk; cases hk
  obtain ⟨c,hc⟩:=I.ok.has x (.inl hk)
  obtain ⟨w',z⟩:=I.cell x c hc
  refine wpAny_storeName_cell I.ok.kind hk hc z (fun h' hc' hs=>?_)
  obtain ⟨oc,hoc,hocd⟩:=id z
  refine h { s with heap:=h' } ⟨I.ok,I.os,I.bare,⟨fun b o e n hb hx=>?_,fun b o e n hb hx=>?_,I.base.free,fun b o e hx=>?_,I.base.tups,I.base.frzs,I.base.tbls⟩,⟨m,hn.sameBut hs (Ne.symm (cne x c hc)),fun j y v' e1 e2 e3=>?_⟩,fun y c' e=>?_,I.free,I.freeC,fun p hp=>?_,tracked ⟨oc,hoc,I.freeC x c hc⟩ hs,by simpa using I.len⟩ ⟨c,hs,.inr hc⟩
  ·exact (hs.2 b (Nat.ne_of_lt (Nat.lt_of_lt_of_le (Heap.lt_size e) (I.ok.cab x c hfn hc)))).trans (I.base.keep b o e n hb hx)
  ·obtain ⟨sl,e1⟩:=I.base.slot b o e n hb hx
   exact ⟨sl,(hs.2 b (Nat.ne_of_lt (Nat.lt_of_lt_of_le (Heap.lt_size e) (I.ok.cab x c hfn hc)))).trans e1⟩
  ·obtain ⟨o',e1⟩:=I.base.there b o e hx
   exact ⟨o',(hs.2 b (Nat.ne_of_lt (Nat.lt_of_lt_of_le (Heap.lt_size e) (I.ok.cab x c hfn hc)))).trans e1⟩
  ·by_cases hj:j=i
   ·subst hj
    rw [hi] at e1; cases e1
    rw [List.getElem?_set_self hiσ] at e2
    cases e2
    exact ⟨u,r,.inr ⟨.inl hk,c,hc,hc'⟩⟩
   ·rw [List.getElem?_set_ne (Ne.symm hj)] at e2
    obtain ⟨u',r',q⟩:=hl j y v' e1 e2 e3
    refine ⟨u',r',?_⟩
    rcases q with q | ⟨k,c',e,z'⟩
    ·exact .inl q
    ·refine .inr ⟨k,c',e,z'.sameBut hs ?_⟩
     rintro rfl
     exact hj (acX hN e1 (I.ok.inj _ _ _ e hc ▸ hi))
  ·by_cases hcc:c'=c
   ·subst hcc; exact ⟨_,hc'⟩
   ·obtain ⟨w2,z2⟩:=I.cell y c' e
    exact ⟨w2,z2.sameBut hs hcc⟩
  ·obtain ⟨e,n,ne,nf,d⟩:=I.pin p hp
   refine ⟨(hs.2 p.1 ?_).trans e,n,ne,nf,d⟩
   intro q
   rw [q,hoc] at e
   have q':oc=p.2:=Option.some.inj e
   exact d w' (by rw [←q']; exact hocd)
theorem acY {M:Model}{A:Around}{E:Value->Shared->Prop}{i:Nat}{x:Str}{v:V}{u:Value}{Q:Unit->Shared->Prop} (I:Inv X pins σ H s) (hN:X.N.Nodup) (hi:X.N[i]?=some x) (hx:Loc X.env.scope x) (r:jJ v u)
  (h:∀ s',Inv X pins (σ.set i (some v)) H s'->Q () s') (hf:X.fn x=true ∨ X.env.scope.names.lookup x=some .local:=by first | exact .inl rfl | exact .inr rfl | assumption):wpAny M A (storeName X.env x u) Q E s:=
 abo I hN hi hx r (fun s' I' _=>h s' I') hf
theorem Inv.call' {s':Shared}{ch:List Addr} (I:Inv X pins σ H s) (ho:s'.os=s.os) (u:Un (frs X.stack) ch H H' s.heap s'.heap) (hok:HOk X.prog X.w H' s'.heap) (hg:AllBare s'.gens)
  (hch:∀ b ∈ ch,(b ∈ X.ex ∨ X.s₀.heap.objs.size<=b)/\b ≠ X.env.locals/\(∀ x c,X.env.cells.lookup x=some c->c ≠ b)/\∀ p ∈ X.pn++pins,p.1 ≠ b):Inv X pins σ H' s':=by
 obtain ⟨h',g',d',t',o'⟩:=s'
 have e:o'=s.os:=ho
 subst e
 exact I.call (g':=g') (t':=t') (d':=d') u hok hg hch
end
noncomputable abbrev XK:=Value->Option Addr->Hp->Prop
noncomputable abbrev St:=List (Option V)
noncomputable abbrev VK:=V->Hp->Prop
noncomputable abbrev TE:=St->Hp->VK->Prop
noncomputable abbrev TT:=St->Hp->(Bool->Hp->Prop)->Prop
noncomputable abbrev TA:=St->Hp->(List V->Hp->Prop)->Prop
structure Ends where
 nx:St->Hp->Prop
 rt:VK
 bk:St->Hp->Prop:=fun _ _=>False
 ct:St->Hp->Prop:=fun _ _=>False
noncomputable abbrev TS:=Ends->St->Hp->Prop
noncomputable def EP (X:Cx) (pins:List (Addr × Obj)) (σ:St) (Q:VK) (u:Value) (s':Shared):Prop:=∃ v H',Inv X pins σ H' s'/\jJ v u/\Q v H'
noncomputable def TP (X:Cx) (pins:List (Addr × Obj)) (σ:St) (Q:Bool->Hp->Prop) (b:Bool) (s':Shared):Prop:=∃ H',Inv X pins σ H' s'/\Q b H'
noncomputable def AP (X:Cx) (pins:List (Addr × Obj)) (σ:St) (Q:List V->Hp->Prop) (us:List Value) (s':Shared):Prop:=∃ vs H',Inv X pins σ H' s'/\jF vs us/\Q vs H'
noncomputable def SP (X:Cx) (pins:List (Addr × Obj)) (D:Ends) (f:Flow) (s':Shared):Prop:=
 match f with
 | .next=>∃ σ' H',Inv X pins σ' H' s'/\D.nx σ' H'
 | .brk=>∃ σ' H',Inv X pins σ' H' s'/\D.bk σ' H'
 | .cont=>∃ σ' H',Inv X pins σ' H' s'/\D.ct σ' H'
 | .ret u=>∃ v σ' H',Inv X pins σ' H' s'/\jJ v u/\D.rt v H'
noncomputable def PE (X:Cx) (e:Expr) (t:TE):Prop:=
 ∀ (pins:List (Addr × Obj)) (s:Shared) (σ:St) (H:Hp) (Q:VK),Inv X pins σ H s->t σ H Q->wpAny (model X.prog X.w) X.A (eval e X.env) (EP X pins σ Q) X.xe s
noncomputable def PT (X:Cx) (e:Expr) (t:TT):Prop:=
 ∀ (pins:List (Addr × Obj)) (s:Shared) (σ:St) (H:Hp) (Q:Bool->Hp->Prop),Inv X pins σ H s->t σ H Q->wpAny (model X.prog X.w) X.A (isTrue e X.env (eval e X.env)) (TP X pins σ Q) X.xe s
noncomputable def PW (X:Cx) (e:Expr) (t:TT):Prop:=
 ∀ (whole:Sem Value) (pins:List (Addr × Obj)) (s:Shared) (σ:St) (H:Hp) (Q:Bool->Hp->Prop),Inv X pins σ H s->t σ H Q->wpAny (model X.prog X.w) X.A (isTrue e X.env whole) (TP X pins σ Q) X.xe s
theorem PW.pt {X:Cx}{e:Expr}{t:TT} (h:PW X e t):PT X e t:=h _
noncomputable def PA (X:Cx) (es:List Expr) (t:TA):Prop:=
 ∀ (pos:Pos) (pins:List (Addr × Obj)) (s:Shared) (σ:St) (H:Hp) (Q:List V->Hp->Prop),Inv X pins σ H s->t σ H Q->wpAny (model X.prog X.w) X.A (spliced (backTo pos (starEach es X.env))) (AP X pins σ Q) X.xe s
noncomputable def PS (X:Cx) (st:Stmt) (t:TS):Prop:=
 ∀ (pins:List (Addr × Obj)) (s:Shared) (σ:St) (H:Hp) (D:Ends),Inv X pins σ H s->t D σ H->wpAny (model X.prog X.w) X.A (exec st X.env) (SP X pins D) X.xe s
noncomputable def PSs (X:Cx) (st:List Stmt) (t:TS):Prop:=
 ∀ (pins:List (Addr × Obj)) (s:Shared) (σ:St) (H:Hp) (D:Ends),Inv X pins σ H s->t D σ H->wpAny (model X.prog X.w) X.A (execs st X.env) (SP X pins D) X.xe s
theorem thn {α:Type}{t:Sem α}{Q Q':α->Shared->Prop}{M:Model}{A:Around}{E:Value->Shared->Prop}{s:Shared} (h:wpAny M A t Q E s) (hQ:∀ a s,Q a s->Q' a s):wpAny M A t Q' E s:=wpAny_mono h hQ fun _ _ x=>x
end L2
namespace L2
open PySem PySem.Spec PyProof.Rows
section
variable {X:Cx}
noncomputable def al3 (i:Nat):TE:=fun σ H Q=>∃ v,σ[i]?=some (some v)/\Q v H
noncomputable def tC (v:V):TE:=fun _ H Q=>Q v H
theorem aam {i:Nat}{x:Str}{pos:Pos} (hN:X.N[i]?=some x) (hv:Vis X.env.scope x) (hd:(x == ("__debug__":Str))=false:=by decide) (hcd:(x == ("__classdict__":Str))=false:=by decide):PE X (.Name x pos) (al3 i):=by
 intro pins s σ H Q I h
 obtain ⟨v,e,h⟩:=h
 obtain ⟨m,hn,hl⟩:=I.loc
 obtain ⟨u,r,l⟩:=hl i x v hN e hv
 have fin:EP X pins σ Q u s:=⟨v,H,I,r,h⟩
 rcases l with ⟨hk,hm⟩ | ⟨hk,c,hc,hcell⟩
 ·exact wpAny_Name (wpAny_loadName_local I.ok.kind hk hn hm fin) hd
 ·rcases hk with hk | hk
  ·exact wpAny_Name (wpAny_loadName_cell I.ok.kind hk hc hcell fin) hd
  ·exact wpAny_Name (wpAny_loadName_free I.ok.kind hk hc hcell fin hcd) hd
theorem akD {i j pos}:PE X (.Constant (.int i) j pos) (tC (.int i)):=fun _ _ _ H _ I h=>wpAny_Constant_int ⟨.int i,H,I.tok _,⟨_,rfl⟩,h⟩
theorem al4 {b j pos}:PE X (.Constant (.bool b) j pos) (tC (.bl b)):=fun _ _ _ H _ I h=>Constant_bool ⟨.bl b,H,I,rfl,h⟩
theorem akE {j pos}:PE X (.Constant .none j pos) (tC .non):=fun _ _ _ H _ I h=>Constant_none ⟨.non,H,I,rfl,h⟩
theorem akF {x j pos}:PE X (.Constant (.str x) j pos) (tC (.str x)):=fun _ _ _ H _ I h=>Calls.Constant_str ⟨.str x,H,I.tok _,⟨_,rfl⟩,h⟩
noncomputable def Gl (X:Cx) (x:Str):Prop:=X.env.kindOf x=some .globalImplicit
theorem aeU {E:Value->Shared->Prop}{pins:List (Addr × Obj)}{s:Shared}{σ:St}{H:Hp}{x:Str}{u:Value}{pos:Pos}{Q:Value->Shared->Prop} (I:Inv X pins σ H s) (hg:Gl X x) (hm:X.mg x=some u) (h:Q u s)
  (hd:(x == ("__debug__":Str))=false:=by decide):wpAny (model X.prog X.w) X.A (eval (.Name x pos) X.env) Q E s:=
 Calls.Name_function_global I.ok.kind hg (Calls.loadGlobal_global (by rw [I.ok.glob]; exact I.mod.glob.keeps I.bk) hm h) hd
theorem JP {E:Value->Shared->Prop}{pins:List (Addr × Obj)}{s:Shared}{σ:St}{H:Hp}{x:Str}{u:Value}{pos:Pos}{Q:Value->Shared->Prop} (I:Inv X pins σ H s) (hg:Gl X x) (hm:X.mg x=none) (hv:bootBuiltins x=some u) (h:Q u s)
  (hn:x ≠ "__name__":=by decide) (hd:(x == ("__debug__":Str))=false:=by decide):wpAny (model X.prog X.w) X.A (eval (.Name x pos) X.env) Q E s:=by
 obtain ⟨mb,h1,h2⟩:=I.mod.blt
 exact Calls.Name_function_global I.ok.kind hg (Calls.loadGlobal_builtin (by rw [I.ok.glob]; exact I.mod.glob.keeps I.bk) hm (by rw [I.ok.blt]; exact h1.keeps I.bk) ((h2 x hn).trans hv) h) hd
theorem aiZ {x:Str}{v:V}{u:Value}{pos:Pos} (hg:Gl X x) (hm:X.mg x=some u) (r:jJ v u) (hd:(x == ("__debug__":Str))=false:=by decide):PE X (.Name x pos) (tC v):=
 fun _ _ _ H _ I h=>aeU I hg hm ⟨v,H,I,r,h⟩ hd
theorem aeV {x:Str}{v:V}{u:Value}{pos:Pos} (hg:Gl X x) (hm:X.mg x=none) (hv:bootBuiltins x=some u) (r:jJ v u) (hn:x ≠ "__name__":=by decide) (hd:(x == ("__debug__":Str))=false:=by decide):PE X (.Name x pos) (tC v):=
 fun _ _ _ H _ I h=>JP I hg hm hv ⟨v,H,I,r,h⟩ hn hd
variable {a b:Expr}{ta tb:TE}{pos:Pos}
noncomputable def PC (X:Cx) (op:CmpOp) (a b:Expr) (t:TE):Prop:=
 ∀ (pins:List (Addr × Obj)) (s:Shared) (σ:St) (H:Hp) (Q:VK),Inv X pins σ H s->t σ H Q->
  wpAny (model X.prog X.w) X.A (eval a X.env) (fun v s₁=>wpAny (model X.prog X.w) X.A (eval b X.env) (fun u s₂=>wpAny (model X.prog X.w) X.A (compareOp op v u) (EP X pins σ Q) X.xe s₂) X.xe s₁) X.xe s
theorem agT (b:Expr) {op:CmpOp} (h:op ≠ .In) (h2:op ≠ .NotIn):behindInMarks op b=false:=by
 have e1:(op == CmpOp.In)=false:=by cases op <;> first | rfl | exact absurd rfl h
 have e2:(op == CmpOp.NotIn)=false:=by cases op <;> first | rfl | exact absurd rfl h2
 cases b <;> simp [behindInMarks,e1,e2]
noncomputable def tB (t:TE):TT:=fun σ H Q=>t σ H fun x H1=>∃ c,x= .bl c/\Q c H1
theorem akG {op:CmpOp}{t:TE} (h:PC X op a b t) (h1:behindInMarks op b=false:=by first | exact agT _ (by decide) (by decide) | rfl):PT X (.Compare a [op] [b] pos) (tB t):=by
 intro pins s σ H Q I hw
 refine wpAny_isTrue_Compare1 (thn (h pins s σ H _ I hw) fun v s1 h1=>thn h1 fun u s2 h2=>thn h2 fun c s3 ⟨x,H1,I1,r1,q1⟩=>?_) h1
 obtain ⟨d,rfl,q⟩:=q1
 cases r1
 exact wpAny_truthy_bool ⟨H1,I1,q⟩
theorem akH {e:Expr}{t:TE} (h:PE X e t) (he:∀ whole,isTrue e X.env whole=(do let v ←whole; standAt e.pos; holding [v] (truthy v)):=by intro _; rfl):PT X e (tB t):=by
 intro pins s σ H Q I hw
 refine isTrue_plain (thn (h pins s σ H _ I hw) fun v s1 ⟨x,H1,I1,r1,q1⟩=>?_) (he _)
 obtain ⟨d,rfl,q⟩:=q1
 cases r1
 exact wpAny_truthy_bool ⟨H1,I1,q⟩
variable {tA tB':TT}{qq:List Expr}
noncomputable def am6 (t u:TT):TT:=fun σ H Q=>t σ H fun c H1=>if c=true then u σ H1 Q else Q false H1
noncomputable def tOr (t u:TT):TT:=fun σ H Q=>t σ H fun c H1=>if c=true then Q true H1 else u σ H1 Q
noncomputable def am7 (t:TT):TT:=fun σ H Q=>t σ H fun c H1=>Q (!c) H1
theorem ai0 (ha:PT X a tA):PW X (.BoolOp .And [a] pos) tA:=by
 intro wh pins s σ H Q I h
 refine isTrue_and (thn (ha pins s σ H Q I h) fun c s1 e=>?_)
 cases c with
 | true=>exact isTrue_and_nil e
 | false=>exact e
theorem akI (ha:PT X a tA):PW X (.BoolOp .Or [a] pos) tA:=by
 intro wh pins s σ H Q I h
 refine isTrue_or (thn (ha pins s σ H Q I h) fun c s1 e=>?_)
 cases c with
 | false=>exact isTrue_or_nil e
 | true=>exact e
theorem akJ (ha:PT X a tA) (hb:PW X (.BoolOp .And (b::qq) pos) tB'):PW X (.BoolOp .And (a::b::qq) pos) (am6 tA tB'):=by
 intro wh pins s σ H Q I h
 refine isTrue_and (thn (ha pins s σ H _ I h) fun c s1 ⟨H1,I1,q1⟩=>?_)
 cases c with
 | true=>exact hb wh pins s1 σ H1 Q I1 q1
 | false=>exact ⟨H1,I1,q1⟩
theorem al5 (ha:PT X a tA) (hb:PW X (.BoolOp .Or (b::qq) pos) tB'):PW X (.BoolOp .Or (a::b::qq) pos) (tOr tA tB'):=by
 intro wh pins s σ H Q I h
 refine isTrue_or (thn (ha pins s σ H _ I h) fun c s1 ⟨H1,I1,q1⟩=>?_)
 cases c with
 | true=>exact ⟨H1,I1,q1⟩
 | false=>exact hb wh pins s1 σ H1 Q I1 q1
theorem akK (ha:PT X a tA):PT X (.UnaryOp .Not a pos) (am7 tA):=by
 intro pins s σ H Q I h
 exact isTrue_not (ha pins s σ H (fun c H1=>Q (!c) H1) I h)
noncomputable def al6 (ta tb:TE):TE:=fun σ H Q=>ta σ H fun x H1=>∃ c,x= .bl c/\if c=true then tb σ H1 Q else Q (.bl false) H1
theorem akL {op}{t:TE} (h:PE X a t):PE X (.BoolOp op [a] pos) t:=fun pins s σ H Q I hw=>BoolOp_one (h pins s σ H Q I hw)
theorem akM (ha:PE X a ta) (hb:PE X (.BoolOp .And (b::qq) pos) tb):PE X (.BoolOp .And (a::b::qq) pos) (al6 ta tb):=by
 intro pins s σ H Q I h
 refine BoolOp_and (thn (ha pins s σ H _ I h) fun v s1 ⟨x,H1,I1,r1,q1⟩=>?_)
 obtain ⟨c,rfl,q1⟩:=q1
 cases r1
 refine wpAny_truthy_bool ?_
 cases c with
 | true=>exact hb pins s1 σ H1 Q I1 q1
 | false=>exact ⟨.bl false,H1,I1,rfl,q1⟩
noncomputable def tIf (t:TT) (ta tb:TE):TE:=fun σ H Q=>t σ H fun c H1=>if c=true then ta σ H1 Q else tb σ H1 Q
theorem agU {c:Expr} (hc:PT X c tA) (ha:PE X a ta) (hb:PE X b tb):PE X (.IfExp c a b pos) (tIf tA ta tb):=by
 intro pins s σ H Q I h
 refine wpAny_IfExp (thn (hc pins s σ H _ I h) fun d s1 ⟨H1,I1,q1⟩=>?_)
 cases d with
 | true=>exact ha pins s1 σ H1 Q I1 q1
 | false=>exact hb pins s1 σ H1 Q I1 q1
end
end L2
namespace L2
open PySem PySem.Spec PyProof.Rows
noncomputable def SqL (K:PySem.W.Frag) (H:Hp) (a:Addr) (xs:List V):Prop:=
 Rd H a (.lst xs) ∨
  ∃ (o:Obj) (its:Array Value) (n:Nat),K.lookup a=some o/\o.cls= .type "list"/\o.dict=none/\o.data= .seq its n/\its.size<=sizeLine/\jF xs its.toList
noncomputable def SqT (K:PySem.W.Frag) (H:Hp) (a:Addr) (xs:List V):Prop:=
 Rd H a (.tup xs) ∨
  ∃ (o:Obj) (its:Array Value) (n:Nat),K.lookup a=some o/\o.cls= .type "tuple"/\o.data= .seq its n/\its.size<=sizeLine/\jF xs its.toList
noncomputable def am8:Value->Option V
 | .none=>some .non
 | .bool b=>some (.bl b)
 | .int i _=>some (.int i)
 | .str x _=>some (.str x)
 | .bytes b _=>some (.byt b)
 | .float b _=>some (.flt b)
 | .ref a=>some (.ref a)
 | .type n=>some (.ty n)
 | _=>none
theorem jJ.abs {x:V}{u:Value} (r:jJ x u):am8 u=some x:=by
 cases x with
 | non=>cases r; rfl
 | bl _=>cases r; rfl
 | int _=>obtain ⟨t,rfl⟩:=r; rfl
 | str _=>obtain ⟨t,rfl⟩:=r; rfl
 | byt _=>obtain ⟨t,rfl⟩:=r; rfl
 | flt _=>obtain ⟨t,rfl⟩:=r; rfl
 | ref _=>cases r; rfl
 | ty _=>cases r; rfl
theorem jJ.inj {x y:V}{u:Value} (r:jJ x u) (q:jJ y u):x=y:=Option.some.inj (r.abs.symm.trans q.abs)
theorem jF.inj:∀ {xs ys:List V}{us:List Value},jF xs us->jF ys us->xs=ys
 | _,_,_,.nil,.nil=>rfl
 | _,_,_,.cons r t,.cons r' t'=>by rw [r.inj r',jF.inj t t']
section
variable {X:Cx}{pins:List (Addr × Obj)}{σ:St}{H:Hp}{s:Shared}{a:Addr}{xs ys:List V}
theorem SqL.of {K:PySem.W.Frag} (h:H a=some (.lst xs)):SqL K H a xs:= .inl (.inl h)
theorem SqT.of {K:PySem.W.Frag} (h:H a=some (.tup xs)):SqT K H a xs:= .inl (.inl h)
theorem Inv.list (I:Inv X pins σ H s) (h:SqL X.K H a xs):∃ its:List Value,jF xs its/\PlainL s.heap a its.toArray/\xs.length<=sizeLine:=by
 rcases h with h | ⟨o,its,n,hk,hc,hd,hs,hz,r⟩
 ·obtain ⟨z,its,n,r,e⟩:=h.ok I.hok
  exact ⟨its,r,⟨_,n,e,rfl,rfl,rfl⟩,z⟩
 ·refine ⟨its.toList,r,⟨o,n,I.kIn a o hk,hc,hd,by simpa using hs⟩,?_⟩
  have e:=r.length
  simp only [Array.length_toList] at e
  omega
theorem Inv.tuple (I:Inv X pins σ H s) (h:SqT X.K H a xs):∃ its:List Value,jF xs its/\IsTup s.heap a its.toArray/\xs.length<=sizeLine:=by
 rcases h with h | ⟨o,its,n,hk,hc,hs,hz,r⟩
 ·obtain ⟨z,its,r,p⟩:=h.ok I.hok
  exact ⟨its,r,p,z⟩
 ·refine ⟨its.toList,r,⟨o,I.kIn a o hk,hc,n,by simpa using hs⟩,?_⟩
  have e:=r.length
  simp only [Array.length_toList] at e
  omega
theorem Inv.list_inj (I:Inv X pins σ H s) (h:SqL X.K H a xs) (h':SqL X.K H a ys):xs=ys:=by
 obtain ⟨its,r,⟨o,n,e,_,_,d⟩,_⟩:=I.list h
 obtain ⟨its',r',⟨o',n',e',_,_,d'⟩,_⟩:=I.list h'
 rw [e] at e'; cases e'
 rw [d] at d'
 injection d' with d1 _
 have:its=its':=by simpa using congrArg Array.toList d1
 subst this
 exact r.inj r'
theorem Inv.tuple_inj (I:Inv X pins σ H s) (h:SqT X.K H a xs) (h':SqT X.K H a ys):xs=ys:=by
 obtain ⟨its,r,⟨o,e,_,n,d⟩,_⟩:=I.tuple h
 obtain ⟨its',r',⟨o',e',_,n',d'⟩,_⟩:=I.tuple h'
 rw [e] at e'; cases e'
 rw [d] at d'
 injection d' with d1 _
 have:its=its':=by simpa using congrArg Array.toList d1
 subst this
 exact r.inj r'
end
noncomputable abbrev Cx.wish (X:Cx) (E:Value->Shared->Prop):Cx:={ X with xe:=E }
noncomputable abbrev Cx.nox (X:Cx):Cx:=X.wish fun _ _=>False
theorem Cx.Ok.wish {X:Cx} (ok:X.Ok) (E:Value->Shared->Prop):(X.wish E).Ok:=
 ⟨ok.mod,ok.kind,ok.glob,ok.blt,ok.above,ok.inj,ok.has,ok.cab,ok.hd,ok.frames,ok.stk,ok.exf,ok.bs,ok.bsz,ok.noex,ok.exfs,ok.funs,ok.frf⟩
theorem Cx.Ok.unwish {X:Cx}{E:Value->Shared->Prop} (ok:(X.wish E).Ok):X.Ok:=
 ⟨ok.mod,ok.kind,ok.glob,ok.blt,ok.above,ok.inj,ok.has,ok.cab,ok.hd,ok.frames,ok.stk,ok.exf,ok.bs,ok.bsz,ok.noex,ok.exfs,ok.funs,ok.frf⟩
section
variable {X:Cx}{pins:List (Addr × Obj)}{σ:St}{H:Hp}{s:Shared}{E:Value->Shared->Prop}
theorem Inv.wish (I:Inv X pins σ H s) (E:Value->Shared->Prop):Inv (X.wish E) pins σ H s:=⟨I.ok.wish E,I.os,I.bare,I.base,I.loc,I.cell,I.free,I.freeC,I.pin,I.hok,I.len⟩
theorem Inv.unwish (I:Inv (X.wish E) pins σ H s):Inv X pins σ H s:=⟨I.ok.unwish,I.os,I.bare,I.base,I.loc,I.cell,I.free,I.freeC,I.pin,I.hok,I.len⟩
theorem SP.unwish {D:Ends}{f:Flow}{s':Shared} (h:SP (X.wish E) pins D f s'):SP X pins D f s':=by
 cases f with
 | next=>obtain ⟨σ',H',I,q⟩:=h; exact ⟨σ',H',I.unwish,q⟩
 | brk=>obtain ⟨σ',H',I,q⟩:=h; exact ⟨σ',H',I.unwish,q⟩
 | cont=>obtain ⟨σ',H',I,q⟩:=h; exact ⟨σ',H',I.unwish,q⟩
 | ret u=>obtain ⟨v,σ',H',I,r,q⟩:=h; exact ⟨v,σ',H',I.unwish,r,q⟩
theorem PE.nox {e:Expr}{t:TE} (h:PE X.nox e t):PE X e t:=fun pins s σ H Q I hw=>
 wpAny_mono (h pins s σ H Q (I.wish _) hw) (fun _ _ ⟨v,H',I',r,q⟩=>⟨v,H',I'.unwish,r,q⟩) fun _ _ z=>False.elim z
theorem PT.nox {e:Expr}{t:TT} (h:PT X.nox e t):PT X e t:=fun pins s σ H Q I hw=>
 wpAny_mono (h pins s σ H Q (I.wish _) hw) (fun _ _ ⟨H',I',q⟩=>⟨H',I'.unwish,q⟩) fun _ _ z=>False.elim z
theorem PSs.nox {st:List Stmt}{t:TS} (h:PSs X.nox st t):PSs X st t:=fun pins s σ H D I hw=>
 wpAny_mono (h pins s σ H D (I.wish _) hw) (fun _ _ q=>q.unwish) fun _ _ z=>False.elim z
end
section
variable {X:Cx}{st:Stmt}{qq:List Stmt}{t u:TS}{e:Expr}{te:TE}{pos:Pos}
noncomputable def al7:TS:=fun D σ H=>D.nx σ H
noncomputable def am9 (t u:TS):TS:=fun D σ H=>t { D with nx:=u D } σ H
theorem aeW:PSs X [] al7:=fun _ _ σ H _ I h=>wpAny_execs_nil ⟨σ,H,I,h⟩
theorem JQ (h1:PS X st t) (h2:PSs X qq u):PSs X (st::qq) (am9 t u):=by
 intro pins s σ H D I h
 refine wpAny_execs_cons (thn (h1 pins s σ H { D with nx:=u D } I h) fun f s1 q=>?_)
 cases f with
 | next=>
  obtain ⟨σ',H',I',q⟩:=q
  exact h2 pins s1 σ' H' D I' q
 | ret v=>exact q
 | brk=>exact q
 | cont=>exact q
theorem ab6 (h1:PS X st t):PSs X [st] t:=by
 intro pins s σ H D I h
 refine wpAny_execs_cons (thn (h1 pins s σ H D I h) fun f s1 q=>?_)
 cases f with
 | next=>exact wpAny_execs_nil q
 | ret v=>exact q
 | brk=>exact q
 | cont=>exact q
theorem Inv.quiet {pins:List (Addr × Obj)}{σ:St}{H:Hp}{s:Shared} (I:Inv X pins σ H s):interactive X.env=false:=by simp [interactive,I.ok.kind]
noncomputable def al8 (te:TE):TS:=fun D σ H=>te σ H fun _ H1=>D.nx σ H1
theorem ab7 (he:PE X e te) (hs:swapsWith e none pos.line X.env=pure false:=by rfl):PS X (.Expr e pos) (al8 te):=by
 intro pins s σ H D I h
 exact wpAny_Expr_any (thn (he pins s σ H _ I h) fun v s1 ⟨x,H1,I1,r1,q1⟩=>⟨σ,H1,I1,q1⟩) I.quiet hs
noncomputable def ana (te:TE):TS:=fun D σ H=>te σ H D.rt
theorem ad0 (he:PE X e te):PS X (.Return (some e) pos) (ana te):=by
 intro pins s σ H D I h
 exact wpAny_Return_some (thn (he pins s σ H _ I h) fun v s1 ⟨x,H1,I1,r1,q1⟩=>⟨x,σ,H1,I1,r1,q1⟩)
noncomputable def anb (c:TT) (t u:TS):TS:=fun D σ H=>c σ H fun b H1=>if b=true then t D σ H1 else u D σ H1
theorem ako {c:Expr}{a b:List Stmt}{tc:TT} (hc:PT X c tc) (ha:PSs X a t) (hb:PSs X b u):PS X (.If c a b pos) (anb tc t u):=by
 intro pins s σ H D I h
 refine wpAny_If (thn (hc pins s σ H _ I h) fun d s1 ⟨H1,I1,q1⟩=>?_)
 cases d with
 | true=>exact ha pins s1 σ H1 D I1 q1
 | false=>exact hb pins s1 σ H1 D I1 q1
noncomputable def agV:TS:=fun _ _ _=>False
theorem agW:PS X st agV:=fun _ _ _ _ _ _ h=>h.elim
theorem afO {sts:List Stmt}:PSs X sts agV:=fun _ _ _ _ _ _ h=>h.elim
end
noncomputable abbrev TG:=V->St->Hp->(St->Hp->Prop)->Prop
noncomputable abbrev TGs:=List V->St->Hp->(St->Hp->Prop)->Prop
noncomputable def PG (X:Cx) (target:Expr) (t:TG):Prop:=
 ∀ (pins:List (Addr × Obj)) (s:Shared) (σ:St) (H:Hp) (v:V) (u:Value) (Q:St->Hp->Prop),Inv X pins σ H s->jJ v u->t v σ H Q->
  wpAny (model X.prog X.w) X.A (assign target X.env u) (fun _ s'=>∃ σ' H',Inv X pins σ' H' s'/\Q σ' H') X.xe s
noncomputable def PGs (X:Cx) (ts:List Expr) (t:TGs):Prop:=
 ∀ (pins:List (Addr × Obj)) (s:Shared) (σ:St) (H:Hp) (vs:List V) (us:List Value) (Q:St->Hp->Prop),Inv X pins σ H s->jF vs us->t vs σ H Q->
  wpAny (model X.prog X.w) X.A (assignInOrder ((assignEach ts X.env).map (·.2)) us) (fun _ s'=>∃ σ' H',Inv X pins σ' H' s'/\Q σ' H') X.xe s
noncomputable abbrev akN:=V->V->V->Hp->(Hp->Prop)->Prop
noncomputable def al9 (X:Cx) (t:akN):Prop:=
 ∀ (pins:List (Addr × Obj)) (s:Shared) (σ:St) (H:Hp) (o i v:V) (ov iv u:Value) (Q:Hp->Prop),Inv X pins σ H s->jJ o ov->jJ i iv->jJ v u->t o i v H Q->
  wpAny (model X.prog X.w) X.A (setItem ov iv u) (fun _ s'=>∃ H',Inv X pins σ H' s'/\Q H') X.xe s
section
variable {X:Cx}{pos:Pos}
noncomputable def agX (i:Nat):TG:=fun v σ H Q=>Q (σ.set i (some v)) H
theorem QL {i:Nat}{x:Str} (hN:X.N.Nodup) (hi:X.N[i]?=some x) (hx:Loc X.env.scope x) (hf:X.fn x=true ∨ X.env.scope.names.lookup x=some .local:=by first | exact .inl rfl | exact .inr rfl | assumption):PG X (.Name x pos) (agX i):=by
 intro pins s σ H v u Q I r h
 exact wpAny_assign_Name (acY I hN hi hx r (fun s' I'=>⟨_,H,I',h⟩) hf)
noncomputable def anc:TGs:=fun vs σ H Q=>vs=[]/\Q σ H
noncomputable def ama (t:TG) (u:TGs):TGs:=fun vs σ H Q=>∃ v r,vs=v::r/\t v σ H fun σ' H'=>u r σ' H' Q
theorem aeX:PGs X [] anc:=by
 intro pins s σ H vs us Q I r h
 obtain ⟨e,h⟩:=h
 subst e
 cases r
 exact assignInOrder_nil ⟨σ,H,I,h⟩
theorem acZ {e:Expr}{es:List Expr}{t:TG}{u:TGs} (h1:PG X e t) (h2:PGs X es u)
  (hs:(assignEach (e::es) X.env).map (·.2)=assign e X.env::(assignEach es X.env).map (·.2):=by rfl):PGs X (e::es) (ama t u):=by
 intro pins s σ H vs us Q I r h
 obtain ⟨v,vr,e1,h⟩:=h
 subst e1
 cases r with
 | cons r rr=>
  rw [hs]
  refine assignInOrder_cons (thn (h1 pins s σ H _ _ _ I r h) fun _ s1 ⟨σ1,H1,I1,q1⟩=>?_)
  exact h2 pins s1 σ1 H1 _ _ Q I1 rr q1
noncomputable def ane (K:PySem.W.Frag) (n:Nat) (t:TGs):TG:=fun v σ H Q=>∃ a xs,v= .ref a/\SqT K H a xs/\xs.length=n/\t xs σ H Q
theorem agY {es:List Expr}{k:Nat}{t:TGs}{n:Nat} (hc:X.calm=true) (h:PGs X es t)
  (hn:(assignEach es X.env).length=n:=by rfl) (hst:(assignEach es X.env).findIdx? (·.1)=none:=by rfl):PG X (.Tuple es k pos) (ane X.K n t):=by
 intro pins s σ H v u Q I r hw
 obtain ⟨a,xs,e1,hq,hl,hw⟩:=hw
 subst e1
 cases r
 obtain ⟨its,rv,ht,hz⟩:=I.tuple hq
 refine assign_Tuple_tuple (I.ok.hd hc) ht (by simp [hn,←hl,rv.length]) hst fun h' hx=>?_
 have I1:Inv X pins σ H { s with heap:=h' }:=I.kept (t':=s.toks) fun b o e=>hx b o (Nat.ne_of_lt (Heap.lt_size e)) e
 exact h pins _ σ H xs _ Q I1 (by simpa using rv) hw
noncomputable def anf (to ti:TE) (t:akN):TG:=fun v σ H Q=>to σ H fun o H1=>ti σ H1 fun i H2=>t o i v H2 fun H3=>Q σ H3
theorem akO {o i:Expr}{to ti:TE}{t:akN} (ho:PE X o to) (hi:PE X i ti) (hs:al9 X t)
  (ha:∀ v,assign (.Subscript o i pos) X.env v=(do
   let ov ←holding [v] (eval o X.env)
   let iv ←holding [v,ov] (eval i X.env)
   standAt pos
   holding [v,ov,iv] (setItem ov iv v)
   release [v,ov,iv] []):=by intro _; rfl):PG X (.Subscript o i pos) (anf to ti t):=by
 intro pins s σ H v u Q I r h
 rw [ha]
 refine wpAny_bind (wpAny_holding (thn (ho pins s σ H _ I h) fun ov s1 ⟨x,H1,I1,r1,q1⟩=>?_))
 refine wpAny_bind (wpAny_holding (thn (hi pins s1 σ H1 _ I1 q1) fun iv s2 ⟨y,H2,I2,r2,q2⟩=>?_))
 refine wpAny_bind (wpAny_standAt (wpAny_bind (wpAny_holding (thn (hs pins s2 σ H2 x y v ov iv u _ I2 r1 r2 r q2) fun _ s3 ⟨H3,I3,q3⟩=>?_))))
 exact wpAny_release ⟨σ,H3,I3,q3⟩
noncomputable def akP (te:TE) (g:TG):TS:=fun D σ H=>te σ H fun x H1=>g x σ H1 D.nx
theorem akQ {tg e:Expr}{te:TE}{g:TG} (he:PE X e te) (hg:PG X tg g) (hs:swapsWithSole [tg] e pos.line X.env=pure false:=by rfl) (hw:swappedStores [tg] e X.env=pure none:=by rfl)
  (h1:(assignEach [tg] X.env).map (·.2)=[assign tg X.env]:=by rfl):PS X (.Assign [tg] e pos) (akP te g):=by
 intro pins s σ H D I h
 refine wpAny_Assign_stores (thn (he pins s σ H _ I h) fun v s1 ⟨x,H1,I1,r1,q1⟩=>?_) hs hw
 rw [h1]
 exact thn (hg pins s1 σ H1 x v _ I1 r1 q1) fun _ s2 q=>q
theorem ab8 {i:Nat}{x:Str}{e:Expr}{te:TE}{pos':Pos} (hN:X.N.Nodup) (hi:X.N[i]?=some x) (hx:Loc X.env.scope x) (he:PE X e te) (hs:swapsWith e (some (.Name x pos')) pos.line X.env=pure false:=by rfl) (hf:X.fn x=true ∨ X.env.scope.names.lookup x=some .local:=by first | exact .inl rfl | exact .inr rfl | assumption):
  PS X (.Assign [.Name x pos'] e pos) (akP te (agX i)):=by
 intro pins s σ H D I h
 refine wpAny_Assign_Name (thn (he pins s σ H _ I h) fun v s1 ⟨y,H1,I1,r1,q1⟩=>?_) hs
 exact acY I1 hN hi hx r1 (fun s2 I2=>⟨_,H1,I2,q1⟩) hf
end
section
variable {X:Cx}{pos:Pos}
end
structure It where
 go:Nat->Hp->Prop
 yld:Nat->Hp->V->Hp->Prop
 stop:Nat->Hp->Prop
noncomputable def ac0 (X:Cx) (pins:List (Addr × Obj)) (H:Hp) (b:Addr):Prop:=
 H b=none/\b ≠ X.env.locals/\b ∉ X.fs/\(b ∈ X.ex ∨ X.s₀.heap.objs.size<=b)/\(∀ x c,X.env.cells.lookup x=some c->c ≠ b)/\∀ p ∈ X.pn++pins,p.1 ≠ b
theorem Inv.fpOk {X:Cx}{pins:List (Addr × Obj)}{σ:St}{H H':Hp}{s:Shared}{b:Addr} (I:Inv X pins σ H s) (hb:s.heap.objs.size<=b) (hn:H' b=none):ac0 X pins H' b:=by
 refine ⟨hn,Nat.ne_of_gt (Nat.lt_of_lt_of_le I.lt hb),I.nofs hb,.inr (Nat.le_trans I.sz hb),fun x c e z=>?_,fun p hp z=>?_⟩
 ·obtain ⟨v,q⟩:=I.cell x c e
  exact absurd (Nat.lt_of_lt_of_le q.lt (by rw [z]; exact hb)) (Nat.lt_irrefl _)
 ·exact absurd (Nat.lt_of_lt_of_le (Heap.lt_size (I.pin p hp).1) (by rw [z]; exact hb)) (Nat.lt_irrefl _)
structure Turn (P:Program) (w:World) (K:PySem.W.Frag) (tg:Expr) (J:It) (fp:List Addr) (it:Addr) (tn:Nat->Heap->Prop):Prop where
 mem:it ∈ fp
 obj:∀ i h,tn i h->∀ b ∈ fp,∃ o,h.get? b=some o/\∀ v,o.data ≠ .cell v
 keep:∀ i h h',tn i h->(∀ b ∈ fp,∀ o,h.get? b=some o->h'.get? b=some o)->tn i h'
 item:∀ (X:Cx),X.prog=P->X.w=w->X.K=K->X.calm=true->∀ (i:Nat) (pins:List (Addr × Obj)) (s:Shared) (σ:St) (H:Hp) (E:Value->Shared->Prop),Inv X pins σ H s->(∀ b ∈ fp,ac0 X pins H b)->tn i s.heap->J.go i H->
  wpAny (model P w) X.A (pyNext (.ref it)) (fun r s1=>∃ u,r=some u/\
   wpAny (model P w) X.A (letOwnedTupleGo tg (.ref it) u) (fun _ s2=>∃ x H',Inv X pins σ H' s2/\jJ x u/\J.yld i H x H'/\tn (i+1) s2.heap/\∀ b ∈ fp,H' b=none) E s1) E s
 done:∀ (X:Cx),X.prog=P->X.w=w->X.K=K->X.calm=true->∀ (i:Nat) (pins:List (Addr × Obj)) (s:Shared) (σ:St) (H:Hp) (E:Value->Shared->Prop),Inv X pins σ H s->(∀ b ∈ fp,ac0 X pins H b)->tn i s.heap->J.stop i H->
  wpAny (model P w) X.A (pyNext (.ref it)) (fun r s1=>r=none/\Inv X pins σ H s1) E s
 self:∀ (A:Around) (i:Nat) (s:Shared) (Q:Value->Shared->Prop) (E:Value->Shared->Prop),tn i s.heap->Q (.ref it) s->wpAny (model P w) A (pyIter (.ref it)) Q E s
noncomputable abbrev TI:=St->Hp->(It->Hp->Prop)->Prop
noncomputable def PIE (X:Cx) (pins:List (Addr × Obj)) (σ:St) (tg:Expr) (R:It->Hp->Prop) (itv:Value) (s2:Shared):Prop:=
 ∃ (it:Addr) (fp:List Addr) (tn:Nat->Heap->Prop) (J:It) (H':Hp),itv= .ref it/\Inv X pins σ H' s2/\Turn X.prog X.w X.K tg J fp it tn/\tn 0 s2.heap/\(∀ b ∈ fp,ac0 X pins H' b)/\R J H'
noncomputable def PI (X:Cx) (tg iter:Expr) (wi:TI):Prop:=
 ∀ (pins:List (Addr × Obj)) (s:Shared) (σ:St) (H:Hp) (R:It->Hp->Prop),Inv X pins σ H s->wi σ H R->
  wpAny (model X.prog X.w) X.A (eval iter X.env) (fun v s1=>wpAny (model X.prog X.w) X.A (pyIter v) (PIE X pins σ tg R) X.xe s1) X.xe s
theorem ac1 {M : Model} {A : Around} {E : Value -> Shared -> Prop} {s : Shared} {tg : Expr} {it : Addr} {u : Value} {o : Obj} {n : String} {vs : Array Value} {Q : Unit -> Shared -> Prop} (ho : s.heap.get? it = some o) (hc : o.cls = .type n) (hd : o.data = .fields vs)
    (hn : ["enumerate", "zip", "dict_itemiterator", "dict_reverseitemiterator", "odict_iterator", "itertools.zip_longest", "itertools.pairwise"].contains n = false) (hQ : Q () s) : wpAny M A (letOwnedTupleGo tg (.ref it) u) Q E s := by
  unfold letOwnedTupleGo
  cases tg <;> first
    | exact wpAny_pure hQ
    | (cases u <;> first
        | exact wpAny_pure hQ
        | (refine wpAny_bind (wpAny_load ho ?_)
           rw [hc, hd]
           show wpAny M A (if (["enumerate", "zip", "dict_itemiterator", "dict_reverseitemiterator", "odict_iterator", "itertools.zip_longest", "itertools.pairwise"].contains n && vs[0]? == some (rawInt _)) = true then _ else _) Q E s
           rw [if_neg (by intro h; rw [hn, Bool.false_and] at h; cases h)]
           exact wpAny_pure hQ))
noncomputable def Itl (K:PySem.W.Frag) (a:Addr):It:=
 ⟨fun i H=>∃ xs x,SqL K H a xs/\xs[i]?=some x,fun i H x H'=>H'=H/\∀ xs,SqL K H a xs->xs[i]?=some x,fun i H=>∃ xs,SqL K H a xs/\xs.length<=i⟩
noncomputable def Itt (K:PySem.W.Frag) (a:Addr):It:=
 ⟨fun i H=>∃ xs x,SqT K H a xs/\xs[i]?=some x,fun i H x H'=>H'=H/\∀ xs,SqT K H a xs->xs[i]?=some x,fun i H=>∃ xs,SqT K H a xs/\xs.length<=i⟩
noncomputable def Itr (lo:Int) (n:Nat):It:=⟨fun i _=>i < n,fun i H x H'=>H'=H/\x= .int (lo+i),fun i _=>n<=i⟩
theorem afP {P:Program}{w:World}{K:PySem.W.Frag}{tg:Expr} (a it:Addr):Turn P w K tg (Itl K a) [it] it (fun i h=>h.IsListIter it a i) where
 mem:=by simp
 obj:=fun i h st b hb=>by
  have e:b=it:=by simpa using hb
  subst e
  obtain ⟨o,e,c,d⟩:=st
  exact ⟨o,e,fun v z=>by rw [d] at z; cases z⟩
 keep:=fun i h h' st k=>st.at fun o e=>k it (by simp) o e
 item:=by
  intro X hP hw hK hc i pins s σ H E I hf st hg
  subst hP hw hK
  obtain ⟨xs,x,hq,hx⟩:=hg
  obtain ⟨its,rv,p,hz⟩:=I.list hq
  obtain ⟨u,hu,ru⟩:=rv.get hx
  obtain ⟨f0,f1,f2,f3,f4,f5⟩:=hf it (by simp)
  refine wpAny_pyNext_list_item st p.isList (x:=u) (by simpa using hu) fun h' st' sb=>?_
  have I1:Inv X pins σ H { s with heap:=h' }:=I.turned (t':=s.toks) (fun b o hb e=>(sb.2 b hb).trans e) f0 f1 f3 f4 f5
  obtain ⟨o,e,c,d⟩:=id st'
  exact ⟨u,rfl,ac1 (s:={ s with heap:=h' }) e c d (by decide) ⟨x,H,I1,ru,⟨rfl,fun ys hy=>by rw [I.list_inj hy hq]; exact hx⟩,st',fun b hb=>(hf b hb).1⟩⟩
 done:=by
  intro X hP hw hK hc i pins s σ H E I hf st hg
  subst hP hw hK
  obtain ⟨xs,hq,hx⟩:=hg
  obtain ⟨its,rv,p,hz⟩:=I.list hq
  obtain ⟨f0,f1,f2,f3,f4,f5⟩:=hf it (by simp)
  have hl:=rv.length
  exact wpAny_pyNext_list_end (I.ok.hd hc) st p.isList (by simp; omega) fun h' eb=>⟨rfl,I.turned (t':=s.toks) (fun b o hb e=>eb b o hb e) f0 f1 f3 f4 f5⟩
 self:=fun _ _ _ _ _ st h=>wpAny_pyIter_listiter st h
theorem ad1 {P:Program}{w:World}{K:PySem.W.Frag}{tg:Expr} (a it:Addr):Turn P w K tg (Itt K a) [it] it (fun i h=>h.IsTupleIter it a i) where
 mem:=by simp
 obj:=fun i h st b hb=>by
  have e:b=it:=by simpa using hb
  subst e
  obtain ⟨o,e,c,d⟩:=st
  exact ⟨o,e,fun v z=>by rw [d] at z; cases z⟩
 keep:=fun i h h' st k=>st.at fun o e=>k it (by simp) o e
 item:=by
  intro X hP hw hK hc i pins s σ H E I hf st hg
  subst hP hw hK
  obtain ⟨xs,x,hq,hx⟩:=hg
  obtain ⟨its,rv,p,hz⟩:=I.tuple hq
  obtain ⟨u,hu,ru⟩:=rv.get hx
  obtain ⟨f0,f1,f2,f3,f4,f5⟩:=hf it (by simp)
  refine wpAny_pyNext_tuple_item st (show s.heap.IsTuple a its.toArray from p) (x:=u) (by simpa using hu) fun h' st' sb=>?_
  have I1:Inv X pins σ H { s with heap:=h' }:=I.turned (t':=s.toks) (fun b o hb e=>(sb.2 b hb).trans e) f0 f1 f3 f4 f5
  obtain ⟨o,e,c,d⟩:=id st'
  exact ⟨u,rfl,ac1 (s:={ s with heap:=h' }) e c d (by decide) ⟨x,H,I1,ru,⟨rfl,fun ys hy=>by rw [I.tuple_inj hy hq]; exact hx⟩,st',fun b hb=>(hf b hb).1⟩⟩
 done:=by
  intro X hP hw hK hc i pins s σ H E I hf st hg
  subst hP hw hK
  obtain ⟨xs,hq,hx⟩:=hg
  obtain ⟨its,rv,p,hz⟩:=I.tuple hq
  obtain ⟨f0,f1,f2,f3,f4,f5⟩:=hf it (by simp)
  have hl:=rv.length
  exact wpAny_pyNext_tuple_end (I.ok.hd hc) st (show s.heap.IsTuple a its.toArray from p) (by simp; omega) fun h' eb=>⟨rfl,I.turned (t':=s.toks) (fun b o hb e=>eb b o hb e) f0 f1 f3 f4 f5⟩
 self:=fun _ _ _ _ _ st h=>wpAny_pyIter_tupleiter st h
theorem ad2 {P:Program}{w:World}{K:PySem.W.Frag}{tg:Expr} (it:Addr) (lo:Int) (n:Nat):Turn P w K tg (Itr lo n) [it] it (fun i h=>IsRangeIter h it (lo+(i:Nat)*1) ((n:Int) - (i:Nat)) 1) where
 mem:=by simp
 obj:=fun i h st b hb=>by
  have e:b=it:=by simpa using hb
  subst e
  exact ⟨_,st,fun v z=>by
   have z':Data.fields _=Data.cell v:=z
   cases z'⟩
 keep:=fun i h h' st k=>k it (by simp) _ st
 item:=by
  intro X hP hw hK hc i pins s σ H E I hf st hg
  subst hP hw hK
  obtain ⟨f0,f1,f2,f3,f4,f5⟩:=hf it (by simp)
  have W:=Walks.range (prog:=X.prog) (w:=X.w) (I.ok.hd hc) it lo 1 n
  refine W.item i s _ _ hg st fun v h' tk hv st' kk=>?_
  obtain ⟨t,rfl⟩:=hv
  have I1:Inv X pins σ H { s with heap:=h',toks:=tk }:=I.turned (fun b o hb e=>kk b o (by simpa using hb) e) f0 f1 f3 f4 f5
  refine ⟨_,rfl,ac1 (s:={ s with heap:=h',toks:=tk }) (n:="range_iterator") st' rfl rfl (by decide) ⟨.int (lo+i),H,I1,⟨t,?_⟩,⟨rfl,rfl⟩,st',fun b hb=>(hf b hb).1⟩⟩
  rw [Int.mul_one]
 done:=by
  intro X hP hw hK hc i pins s σ H E I hf st hg
  subst hP hw hK
  obtain ⟨f0,f1,f2,f3,f4,f5⟩:=hf it (by simp)
  exact wpAny_pyNext_range_end (I.ok.hd hc) st (by have:n<=i:=hg; omega) fun h' eb=>⟨rfl,I.turned (t':=s.toks) (fun b o hb e=>eb b o hb e) f0 f1 f3 f4 f5⟩
 self:=fun _ _ _ _ _ st h=>wpAny_pyIter_rangeiter st h
end L2
namespace L2
open PySem PySem.Spec PyProof.Rows
section
variable {X:Cx}{tg:Expr}
noncomputable def amb (K:PySem.W.Frag) (tl:TE):TI:=fun σ H R=>tl σ H fun x H1=>∃ a,x= .ref a/\(∃ xs,SqL K H1 a xs)/\R (Itl K a) H1
noncomputable def ang (K:PySem.W.Frag) (tl:TE):TI:=fun σ H R=>tl σ H fun x H1=>∃ a,x= .ref a/\(∃ xs,SqT K H1 a xs)/\R (Itt K a) H1
theorem ai1 {l:Expr}{tl:TE} (hl:PE X l tl):PI X tg l (amb X.K tl):=by
 intro pins s σ H R I h
 refine thn (hl pins s σ H _ I h) fun v s1 ⟨x,H1,I1,r1,q1⟩=>?_
 obtain ⟨a,e,⟨xs,hq⟩,q⟩:=q1
 subst e
 cases r1
 obtain ⟨its,rv,p,hz⟩:=I1.list hq
 refine wpAny_pyIter_list p.isList ?_
 refine ⟨s1.heap.objs.size,[s1.heap.objs.size],_,_,H1,rfl,I1.kept (t':=s1.toks) fun b o e=>Heap.get?_push_of_some _ e,afP a _,⟨_,Heap.get?_push_size _ rfl,rfl,rfl⟩,fun b hb=>?_,q⟩
 have e:b=s1.heap.objs.size:=by simpa using hb
 subst e
 exact I1.fpOk (Nat.le_refl _) (I1.hok.fresh (Nat.le_refl _))
theorem akR {l:Expr}{tl:TE} (hl:PE X l tl):PI X tg l (ang X.K tl):=by
 intro pins s σ H R I h
 refine thn (hl pins s σ H _ I h) fun v s1 ⟨x,H1,I1,r1,q1⟩=>?_
 obtain ⟨a,e,⟨xs,hq⟩,q⟩:=q1
 subst e
 cases r1
 obtain ⟨its,rv,p,hz⟩:=I1.tuple hq
 refine wpAny_pyIter_tuple (show s1.heap.IsTuple a its.toArray from p) ?_
 refine ⟨s1.heap.objs.size,[s1.heap.objs.size],_,_,H1,rfl,I1.kept (t':=s1.toks) fun b o e=>Heap.get?_push_of_some _ e,ad1 a _,⟨_,Heap.get?_push_size _ rfl,rfl,rfl⟩,fun b hb=>?_,q⟩
 have e:b=s1.heap.objs.size:=by simpa using hb
 subst e
 exact I1.fpOk (Nat.le_refl _) (I1.hok.fresh (Nat.le_refl _))
theorem agZ {pins:List (Addr × Obj)}{σ:St}{H:Hp}{s:Shared}{R:It->Hp->Prop}{E:Value->Shared->Prop}{lo hi:Int}{t u v:Tok}{tk:Nat} (I:Inv X pins σ H s) (h1:-(2 ^ 62)<=lo) (h2:lo < 2 ^ 62) (h3:-(2 ^ 62)<=hi) (h4:hi < 2 ^ 62)
  (q:R (Itr lo (hi - lo).toNat) H):wpAny (model X.prog X.w) X.A (pyIter (.ref s.heap.objs.size)) (PIE X pins σ tg R) E { s with heap:=s.heap.push { cls:= .type "range",data:= .fields #[.int lo t,.int hi u,.int 1 v] },toks:=tk }:=by
 refine wpAny_pyIter_range (IsRange.new ..) (small_one h1 h2 h3 h4) ?_
 have I1:Inv X pins σ H { s with heap:=s.heap.push { cls:= .type "range",data:= .fields #[.int lo t,.int hi u,.int 1 v] },toks:=tk }:=I.kept fun b o e=>Heap.get?_push_of_some _ e
 refine ⟨(s.heap.push { cls:= .type "range",data:= .fields #[.int lo t,.int hi u,.int 1 v] }).objs.size,[(s.heap.push { cls:= .type "range",data:= .fields #[.int lo t,.int hi u,.int 1 v] }).objs.size],_,_,H,rfl,
  I1.kept (t':=tk) fun b o e=>Heap.get?_push_of_some _ e,ad2 _ lo (hi - lo).toNat,?_,fun b hb=>?_,q⟩
 ·have e1:lo+((0:Nat):Int)*1=lo:=by simp
  have e2:(((hi - lo).toNat:Nat):Int) - ((0:Nat):Int)=Builtin.Range.rangeSize lo hi 1:=by rw [rangeSize_one]; split <;> omega
  show IsRangeIter _ _ (lo+((0:Nat):Int)*1) ((((hi - lo).toNat:Nat):Int) - ((0:Nat):Int)) 1
  rw [e1,e2]
  exact Heap.get?_push_size _ rfl
 ·have e:b=(s.heap.push { cls:= .type "range",data:= .fields #[.int lo t,.int hi u,.int 1 v] }).objs.size:=by simpa using hb
  subst e
  exact I1.fpOk (Nat.le_refl _) (I1.hok.fresh (Nat.le_refl _))
noncomputable def amc (ta:TA):TI:=fun σ H R=>ta σ H fun vs H1=>∃ j:Int,vs=[.int j]/\-(2 ^ 62)<=j/\j < 2 ^ 62/\R (Itr 0 j.toNat) H1
theorem Zk {a:Expr}{ta:TA}{p pos:Pos} (hg:Gl X "range") (hm:X.mg "range"=none) (ha:PA X [a] ta) (hs:starEach [a] X.env=[(false,eval a X.env)]:=by rfl):PI X tg (.Call (.Name "range" p) [a] [] pos) (amc ta):=by
 intro pins s σ H R I h
 refine Call_ (JP I hg hm boot_range (PyProof.Rows.callWith_type1 (thn (ha pos pins s σ H _ I h) fun us s1 ⟨vs,H1,I1,r1,q1⟩=>?_) hs rfl))
 obtain ⟨j,e,q1,q2,q⟩:=q1
 subst e
 cases r1 with
 | cons r rr=>
  cases rr
  obtain ⟨t,rfl⟩:=r
  exact call_range_1 (agZ I1 (by omega) (by omega) q1 q2 (by simpa using q))
noncomputable def anh (wi:TI) (g:TG) (tb:TS):TS:=fun D σ H=>wi σ H fun J H1=>∃ W:Nat->Nat->St->Hp->Prop,(∃ m,W 0 m σ H1)/\∀ i m σ H,W i m σ H->
 (J.stop i H/\D.nx σ H) ∨ (J.go i H/\∃ N:St->Hp->Prop,(∀ σ' H',N σ' H'->∃ m',m' < m/\W (i+1) m' σ' H')/\∀ x H',J.yld i H x H'->g x σ H' fun σ2 H2=>tb { D with nx:=N,ct:=N,bk:=D.nx } σ2 H2)
noncomputable def Zl (fp:List Addr) (h:Heap):List (Addr × Obj):=fp.filterMap fun b=>(h.get? b).map fun o=>(b,o)
theorem qY {fp:List Addr}{h:Heap}{b:Addr}{o:Obj} (hb:b ∈ fp) (e:h.get? b=some o):(b,o) ∈ Zl fp h:=List.mem_filterMap.mpr ⟨b,hb,by rw [e]; rfl⟩
theorem afQ {fp:List Addr}{h:Heap}{p:Addr × Obj} (hp:p ∈ Zl fp h):p.1 ∈ fp/\h.get? p.1=some p.2:=by
 obtain ⟨b,hb,e⟩:=List.mem_filterMap.mp hp
 cases q:h.get? b with
 | none=>rw [q] at e; cases e
 | some o=>
  rw [q] at e
  have e':(b,o)=p:=Option.some.inj e
  subst e'
  exact ⟨hb,q⟩
theorem Inv.pinned {pins:List (Addr × Obj)}{σ:St}{H:Hp}{s:Shared}{fp:List Addr} (I:Inv X pins σ H s) (hf:∀ b ∈ fp,ac0 X pins H b) (ho:∀ b ∈ fp,∃ o,s.heap.get? b=some o/\∀ v,o.data ≠ .cell v):Inv X (pins++Zl fp s.heap) σ H s:=
 I.pins_of fun p hp=>(List.mem_append.mp hp).elim (fun z=>I.pin p (List.mem_append_right _ z)) fun z=>by
  obtain ⟨hb,e⟩:=afQ z
  obtain ⟨f0,f1,f2,_⟩:=hf p.1 hb
  obtain ⟨o,e',d⟩:=ho p.1 hb
  rw [e] at e'; cases e'
  exact ⟨e,f0,f1,f2,d⟩
theorem Inv.unpinned {pins pl:List (Addr × Obj)}{σ:St}{H:Hp}{s:Shared} (I:Inv X (pins++pl) σ H s):Inv X pins σ H s:=I.pins_of fun p hp=>I.pin p (List.mem_append_right _ (List.mem_append_left _ hp))
theorem ab9 {iter:Expr}{body:List Stmt}{wi:TI}{g:TG}{tb:TS}{pos:Pos} (hp:PassesOwn (model X.prog X.w) X.A X.env X.xe) (hc:X.calm=true) (hi:PI X tg iter wi) (hg:PG X tg g) (hb:PSs X body tb)
  (hs:∀ x,foldedSetIterable iter X.env x=pure x:=by intro _; rfl):PS X (.For tg iter body [] pos) (anh wi g tb):=by
 intro pins s σ H D I h
 refine wpAny_For (thn (hi pins s σ H _ I h) fun v s1 h1=>thn h1 fun itv s2 h2=>?_) hs
 obtain ⟨it,fp,tn,J,H2,e,I2,T,st2,f2,W,⟨m0,w0⟩,turn⟩:=h2
 subst e
 have stat:∀ {H':Hp},(∀ b ∈ fp,H' b=none)->∀ b ∈ fp,ac0 X pins H' b:=fun hn b hb=>⟨hn b hb,(f2 b hb).2⟩
 refine codeAny_forLoop_any (fun n s'=>∃ i σ' H',Inv X pins σ' H' s'/\tn i s'.heap/\(∀ b ∈ fp,H' b=none)/\W i n σ' H') ?_ m0 ⟨0,σ,H2,I2,st2,fun b hb=>(f2 b hb).1,w0⟩
 rintro n s3 ⟨i,σ3,H3,I3,st3,fr3,w3⟩
 rcases turn i n σ3 H3 w3 with ⟨stop,qn⟩ | ⟨go,N,hN,step⟩
 ·refine wpAny_passesOwn hp (thn (T.done X rfl rfl rfl hc i pins s3 σ3 H3 X.xe I3 (stat fr3) st3 stop) fun r s4 ⟨hr,I4⟩=>?_)
  subst hr
  exact wpAny_execs_nil ⟨σ3,H3,I4,qn⟩
 ·refine wpAny_passesOwn hp (thn (T.item X rfl rfl rfl hc i pins s3 σ3 H3 X.xe I3 (stat fr3) st3 go) fun r s4 ⟨u,hr,h4⟩=>?_)
  subst hr
  refine wpAny_passesOwn hp (thn h4 fun _ s5 ⟨x,H5,I5,r5,y5,st5,fr5⟩=>?_)
  have I5':=I5.pinned (stat fr5) (T.obj _ _ st5)
  refine wpAny_passesOwn hp (thn (hg _ s5 σ3 H5 x u _ I5' r5 (step x H5 y5)) fun _ s6 ⟨σ6,H6,I6,q6⟩=>?_)
  refine wpAny_passesOwn hp (thn (hb _ s6 σ6 H6 _ I6 q6) fun f s7 q7=>?_)
  have again:∀ {σ7:St} {H7:Hp},Inv X (pins++Zl fp s5.heap) σ7 H7 s7->N σ7 H7->∃ m,m < n/\∃ i σ' H',Inv X pins σ' H' s7/\tn i s7.heap/\(∀ b ∈ fp,H' b=none)/\W i m σ' H':=fun {σ7 H7} I7 n7=>by
   obtain ⟨m',hm,w7⟩:=hN σ7 H7 n7
   refine ⟨m',hm,i+1,σ7,H7,I7.unpinned,T.keep _ _ _ st5 fun b hb o e=>(I7.pin (b,o) (List.mem_append_right _ (List.mem_append_right _ (qY hb e)))).1,fun b hb=>?_,w7⟩
   obtain ⟨o,e,d⟩:=T.obj _ _ st5 b hb
   exact (I7.pin (b,o) (List.mem_append_right _ (List.mem_append_right _ (qY hb e)))).2.1
  cases f with
  | next=>obtain ⟨σ7,H7,I7,n7⟩:=q7; exact again I7 n7
  | cont=>obtain ⟨σ7,H7,I7,n7⟩:=q7; exact again I7 n7
  | brk=>obtain ⟨σ7,H7,I7,q7⟩:=q7; exact ⟨σ7,H7,I7.unpinned,q7⟩
  | ret v=>obtain ⟨x7,σ7,H7,I7,r7,q7⟩:=q7; exact ⟨x7,σ7,H7,I7.unpinned,r7,q7⟩
end
theorem abp {lo:Int}{n:Nat}{g:TG}{tb:TS}{D:Ends}{σ:St}{H:Hp} (Pv:Nat->St->Hp->Prop) (h0:Pv 0 σ H)
  (hs:∀ i σ H,i < n->Pv i σ H->g (.int (lo+i)) σ H fun σ2 H2=>tb { D with nx:=Pv (i+1),ct:=Pv (i+1),bk:=D.nx } σ2 H2) (hd:∀ σ H,Pv n σ H->D.nx σ H):
  ∃ W:Nat->Nat->St->Hp->Prop,(∃ m,W 0 m σ H)/\∀ i m σ H,W i m σ H->
   ((Itr lo n).stop i H/\D.nx σ H) ∨ ((Itr lo n).go i H/\∃ N:St->Hp->Prop,(∀ σ' H',N σ' H'->∃ m',m' < m/\W (i+1) m' σ' H')/\∀ x H',(Itr lo n).yld i H x H'->g x σ H' fun σ2 H2=>tb { D with nx:=N,ct:=N,bk:=D.nx } σ2 H2):=by
 refine ⟨fun i m σ H=>m=n - i/\i<=n/\Pv i σ H,⟨n,by simp,Nat.zero_le _,h0⟩,?_⟩
 rintro i m σ H ⟨rfl,hi,p⟩
 by_cases hlt:i < n
 ·refine .inr ⟨hlt,Pv (i+1),fun σ' H' p'=>⟨n - (i+1),by omega,rfl,hlt,p'⟩,fun x H' y=>?_⟩
  obtain ⟨e,y⟩:=y
  subst e y
  exact hs i σ _ hlt p
 ·have e:i=n:=by omega
  subst e
  exact .inl ⟨Nat.le_refl _,hd σ H p⟩
end L2
namespace L2
open PySem PySem.Spec PyProof.Rows
noncomputable abbrev R2:=V->V->Hp->VK->Prop
noncomputable def OpR (X:Cx) (f:Value->Value->Sem Value) (r:R2):Prop:=
 ∀ (pins:List (Addr × Obj)) (s:Shared) (σ:St) (H:Hp) (x y:V) (v u:Value) (Q:VK),Inv X pins σ H s->jJ x v->jJ y u->r x y H Q->
  wpAny (model X.prog X.w) X.A (f v u) (EP X pins σ Q) X.xe s
noncomputable def UnR (X:Cx) (f:Value->Sem Value) (r:V->Hp->VK->Prop):Prop:=
 ∀ (pins:List (Addr × Obj)) (s:Shared) (σ:St) (H:Hp) (x:V) (v:Value) (Q:VK),Inv X pins σ H s->jJ x v->r x H Q->
  wpAny (model X.prog X.w) X.A (f v) (EP X pins σ Q) X.xe s
noncomputable def zC (X:Cx) (f:Value) (r:List V->Hp->VK->Prop):Prop:=
 ∀ (pins:List (Addr × Obj)) (s:Shared) (σ:St) (H:Hp) (xs:List V) (us:List Value) (Q:VK),Inv X pins σ H s->jF xs us->r xs H Q->
  wpAny (model X.prog X.w) X.A (call f us) (EP X pins σ Q) X.xe s
noncomputable def tOp (r:R2) (ta tb:TE):TE:=fun σ H Q=>ta σ H fun x H1=>tb σ H1 fun y H2=>r x y H2 Q
noncomputable def tUn (r:V->Hp->VK->Prop) (ta:TE):TE:=fun σ H Q=>ta σ H fun x H1=>r x H1 Q
noncomputable def rI (C:Int->Int->Prop) (g:Int->Int->V):R2:=fun x y H Q=>∃ i j,x= .int i/\y= .int j/\C i j/\Q (g i j) H
noncomputable def rI0 (g:Int->Int->V):R2:=fun x y H Q=>∃ i j,x= .int i/\y= .int j/\Q (g i j) H
noncomputable def rU (g:Int->V):V->Hp->VK->Prop:=fun x H Q=>∃ i,x= .int i/\Q (g i) H
section
variable {X:Cx}{a b c:Expr}{ta tb tc:TE}{pos:Pos}
theorem akS (ha:PE X a ta) (hb:PE X b tb) {pins:List (Addr × Obj)}{s:Shared}{σ:St}{H:Hp}{R:V->V->Hp->Prop} (I:Inv X pins σ H s)
  (h:ta σ H fun x H1=>tb σ H1 fun y H2=>R x y H2) {Q:Value->Shared->Prop} {f:Value->Value->Sem Value}
  (hf:∀ v u s2 x y H2,Inv X pins σ H2 s2->jJ x v->jJ y u->R x y H2->wpAny (model X.prog X.w) X.A (f v u) Q X.xe s2):
  wpAny (model X.prog X.w) X.A (eval a X.env) (fun v s₁=>wpAny (model X.prog X.w) X.A (eval b X.env) (fun u s₂=>wpAny (model X.prog X.w) X.A (f v u) Q X.xe s₂) X.xe s₁) X.xe s:=by
 refine thn (ha pins s σ H _ I h) fun v s1 ⟨x,H1,I1,r1,q1⟩=>?_
 refine thn (hb pins s1 σ H1 _ I1 q1) fun u s2 ⟨y,H2,I2,r2,q2⟩=>?_
 exact hf v u s2 x y H2 I2 r1 r2 q2
theorem amd {op:Operator}{r:R2} (ho:OpR X (binaryOp op) r) (ha:PE X a ta) (hb:PE X b tb):PE X (.BinOp a op b pos) (tOp r ta tb):=by
 intro pins s σ H Q I h
 exact wpAny_BinOp (akS ha hb I h fun v u s2 x y H2 I2 rx ry q=>ho pins s2 σ H2 x y v u Q I2 rx ry q)
theorem ame {op:UnaryOp}{r:V->Hp->VK->Prop} (ho:UnR X (unaryOp op) r) (ha:PE X a ta):PE X (.UnaryOp op a pos) (tUn r ta):=by
 intro pins s σ H Q I h
 exact UnaryOp_ (thn (ha pins s σ H _ I h) fun v s1 ⟨x,H1,I1,r1,q1⟩=>ho pins s1 σ H1 x v Q I1 r1 q1)
theorem opI {f:Value->Value->Sem Value}{C:Int->Int->Prop}{g:Int->Int->Int}
  (rule:∀ (i j:Int) (t u:Tok) (s:Shared) (Q:Value->Shared->Prop) (E:Value->Shared->Prop),C i j->Q (.int (g i j) s.toks) { s with toks:=s.toks+1 }->wpAny (model X.prog X.w) X.A (f (.int i t) (.int j u)) Q E s):
  OpR X f (rI C fun i j=> .int (g i j)):=by
 intro pins s σ H x y v u Q I rx ry h
 obtain ⟨i,j,rfl,rfl,hc,q⟩:=h
 obtain ⟨t,rfl⟩:=rx
 obtain ⟨t',rfl⟩:=ry
 exact rule i j t t' s _ _ hc ⟨.int (g i j),H,I.tok _,⟨_,rfl⟩,q⟩
theorem amf {f:Value->Value->Sem Value}{g:Int->Int->Int}
  (rule:∀ (i j:Int) (t u:Tok) (s:Shared) (Q:Value->Shared->Prop) (E:Value->Shared->Prop),Q (.int (g i j) s.toks) { s with toks:=s.toks+1 }->wpAny (model X.prog X.w) X.A (f (.int i t) (.int j u)) Q E s):
  OpR X f (rI0 fun i j=> .int (g i j)):=by
 intro pins s σ H x y v u Q I rx ry h
 obtain ⟨i,j,rfl,rfl,q⟩:=h
 obtain ⟨t,rfl⟩:=rx
 obtain ⟨t',rfl⟩:=ry
 exact rule i j t t' s _ _ ⟨.int (g i j),H,I.tok _,⟨_,rfl⟩,q⟩
theorem akT {f:Value->Value->Sem Value}{g:Int->Int->Bool}
  (rule:∀ (i j:Int) (t u:Tok) (s:Shared) (Q:Value->Shared->Prop) (E:Value->Shared->Prop),Q (.bool (g i j)) s->wpAny (model X.prog X.w) X.A (f (.int i t) (.int j u)) Q E s):
  OpR X f (rI0 fun i j=> .bl (g i j)):=by
 intro pins s σ H x y v u Q I rx ry h
 obtain ⟨i,j,rfl,rfl,q⟩:=h
 obtain ⟨t,rfl⟩:=rx
 obtain ⟨t',rfl⟩:=ry
 exact rule i j t t' s _ _ ⟨.bl (g i j),H,I,rfl,q⟩
noncomputable def ani (i j:Int):Prop:=0 < j/\j < 1073741824
noncomputable def akU (i j:Int):Prop:=(-(2 ^ 64) < i/\i < 2 ^ 64) ∨ (-(2 ^ 64) < j/\j < 2 ^ 64)
theorem akU.ok {i j:Int} (h:akU i j):IntMulOk i j:=by
 rcases h with ⟨h1,h2⟩ | ⟨h1,h2⟩
 ·exact .of_left (intBits_le_64 h1 h2)
 ·exact .of_right (intBits_le_64 h1 h2)
theorem akV:OpR X (binaryOp .Add) (rI0 fun i j=> .int (i+j)):=amf fun _ _ _ _ _ _ _ q=>add_int q
theorem akW:OpR X (binaryOp .Sub) (rI0 fun i j=> .int (i - j)):=amf fun _ _ _ _ _ _ _ q=>sub_int q
theorem akX:OpR X (binaryOp .Mult) (rI akU fun i j=> .int (i*j)):=opI fun _ _ _ _ _ _ _ hc q=>mul_int q hc.ok
theorem ai2:OpR X (binaryOp .FloorDiv) (rI ani fun i j=> .int (i / j)):=opI fun i j _ _ _ _ _ hc q=>by
 have h1:(0:Int) < j:=hc.1
 have h2:j < 1073741824:=hc.2
 exact floordiv_int (by omega) (by rw [Int.fdiv_eq_ediv_of_nonneg i (by omega)]; exact q) (.inl (PyProof.noPylong_small (by omega)))
theorem akY:OpR X (binaryOp .Mod) (rI (fun _ j=>0 < j) fun i j=> .int (i % j)):=opI fun i j _ _ _ _ _ hc q=>by
 have h1:(0:Int) < j:=hc
 exact mod_int' (by omega) (by rw [Int.fmod_eq_emod_of_nonneg i (by omega)]; exact q)
theorem unI {f:Value->Sem Value}{g:Int->Int}
  (rule:∀ (i:Int) (t:Tok) (s:Shared) (Q:Value->Shared->Prop) (E:Value->Shared->Prop),Q (.int (g i) s.toks) { s with toks:=s.toks+1 }->wpAny (model X.prog X.w) X.A (f (.int i t)) Q E s):
  UnR X f (rU fun i=> .int (g i)):=by
 intro pins s σ H x v Q I rx h
 obtain ⟨i,rfl,q⟩:=h
 obtain ⟨t,rfl⟩:=rx
 exact rule i t s _ _ ⟨.int (g i),H,I.tok _,⟨_,rfl⟩,q⟩
theorem akZ:UnR X (unaryOp .USub) (rU fun i=> .int (-i)):=unI fun _ _ _ _ _ q=>neg_int q
end
section
variable {X:Cx}{a b c:Expr}{ta tb tc:TE}{pos:Pos}
theorem ak0 {pins:List (Addr × Obj)}{σ:St}{H:Hp}{s:Shared}{Q:VK}{k k':Bool} (I:Inv X pins σ H s) (q:Q (.bl k) H) (e:k=k'):EP X pins σ Q (.bool k') s:=by
 subst e
 exact ⟨.bl k,H,I,rfl,q⟩
theorem amg:OpR X (compareOp .Lt) (rI0 fun i j=> .bl (decide (i < j))):=akT fun _ _ _ _ _ _ _ q=>lt_int q
theorem amh:OpR X (compareOp .LtE) (rI0 fun i j=> .bl (decide (i<=j))):=akT fun _ _ _ _ _ _ _ q=>le_int q
theorem ami:OpR X (compareOp .Gt) (rI0 fun i j=> .bl (decide (j < i))):=akT fun _ _ _ _ _ _ _ q=>gt_int q
theorem ak1:OpR X (compareOp .Is) (fun x y H Q=>y= .non/\Q (.bl (decide (x= .non))) H):=by
 intro pins s σ H x y v u Q I rx ry h
 obtain ⟨rfl,q⟩:=h
 cases ry
 refine is_none_gen (ak0 I q ?_)
 cases x <;> first
  | (cases rx; rfl)
  | (obtain ⟨t,rfl⟩:=rx; rfl)
theorem OpR.or {f:Value->Value->Sem Value}{r r':R2} (h:OpR X f r) (h':OpR X f r'):OpR X f (fun x y H Q=>r x y H Q ∨ r' x y H Q):=by
 intro pins s σ H x y v u Q I rx ry q
 rcases q with q | q
 ·exact h pins s σ H x y v u Q I rx ry q
 ·exact h' pins s σ H x y v u Q I rx ry q
theorem ad3 (b:Expr) {op:CmpOp} (h:op ≠ .In:=by decide) (h2:op ≠ .NotIn:=by decide):behindInMarks op b=false:=by
 have e1:(op == CmpOp.In)=false:=by cases op <;> first | rfl | exact absurd rfl h
 have e2:(op == CmpOp.NotIn)=false:=by cases op <;> first | rfl | exact absurd rfl h2
 cases b <;> simp [behindInMarks,e1,e2]
theorem ai3 {op:CmpOp}{r:R2} (ho:OpR X (compareOp op) r) (ha:PE X a ta) (hb:PE X b tb) (hm:behindInMarks op b=false):PE X (.Compare a [op] [b] pos) (tOp r ta tb):=by
 intro pins s σ H Q I h
 exact wpAny_Compare1 (akS ha hb I h fun v u s2 x y H2 I2 rx ry q=>ho pins s2 σ H2 x y v u Q I2 rx ry q) hm
noncomputable def akp (t:TE):TT:=fun σ H Q=>t σ H fun x H'=>∃ k,x= .bl k/\Q k H'
theorem ai4 {op:CmpOp}{r:R2} (ho:OpR X (compareOp op) r) (ha:PE X a ta) (hb:PE X b tb) (hm:behindInMarks op b=false):PT X (.Compare a [op] [b] pos) (akp (tOp r ta tb)):=by
 intro pins s σ H Q I h
 refine wpAny_isTrue_Compare1 (thn (ha pins s σ H _ I h) fun v s1 ⟨x,H1,I1,r1,q1⟩=>thn (hb pins s1 σ H1 _ I1 q1) fun u s2 ⟨y,H2,I2,r2,q2⟩=>
  thn (ho pins s2 σ H2 x y v u _ I2 r1 r2 q2) fun c s3 ⟨z,H3,I3,r3,k,e,q3⟩=>?_) hm
 subst e
 cases r3
 exact wpAny_truthy_bool ⟨H3,I3,q3⟩
noncomputable def ad4 (r r':R2) (ta tb tc:TE):TE:=fun σ H Q=>ta σ H fun x H1=>tb σ H1 fun y H2=>r x y H2 fun z H3=>∃ k,z= .bl k/\
 (if k=true then tc σ H3 fun w' H4=>r' y w' H4 Q else Q (.bl false) H3)
theorem ag0 {op op':CmpOp}{r r':R2} (ho:OpR X (compareOp op) r) (ho':OpR X (compareOp op') r') (ha:PE X a ta) (hb:PE X b tb) (hc:PE X c tc)
  (hm:lastMarks [op,op'] [b,c]=false:=by with_unfolding_all rfl):PE X (.Compare a [op,op'] [b,c] pos) (ad4 r r' ta tb tc):=by
 intro pins s σ H Q I h
 refine Compare_chain (thn (ha pins s σ H _ I h) fun v s1 ⟨x,H1,I1,r1,q1⟩=>chain_link (thn (hb pins s1 σ H1 _ I1 q1) fun u s2 ⟨y,H2,I2,r2,q2⟩=>
  thn (ho pins s2 σ H2 x y v u _ I2 r1 r2 q2) fun d s3 ⟨z,H3,I3,r3,k,e,q3⟩=>?_)) hm
 subst e
 cases r3
 refine wpAny_truthy_bool ?_
 cases k with
 | false=>exact ite_ff ⟨.bl false,H3,I3,rfl,q3⟩
 | true=>exact ite_tt (chain_last (thn (hc pins s3 σ H3 _ I3 q3) fun w' s4 ⟨z',H4,I4,r4,q4⟩=>ho' pins s4 σ H4 y z' u w' Q I4 r2 r4 q4))
theorem ag1 {op op':CmpOp}{r r':R2} (ho:OpR X (compareOp op) r) (ho':OpR X (compareOp op') r') (ha:PE X a ta) (hb:PE X b tb) (hc:PE X c tc)
  (hm:lastMarks [op,op'] [b,c]=false:=by with_unfolding_all rfl):PT X (.Compare a [op,op'] [b,c] pos) (akp (ad4 r r' ta tb tc)):=by
 intro pins s σ H Q I h
 refine isTrue_chain (thn (ha pins s σ H _ I h) fun v s1 ⟨x,H1,I1,r1,q1⟩=>test_link (thn (hb pins s1 σ H1 _ I1 q1) fun u s2 ⟨y,H2,I2,r2,q2⟩=>
  thn (ho pins s2 σ H2 x y v u _ I2 r1 r2 q2) fun d s3 ⟨z,H3,I3,r3,k,e,q3⟩=>?_)) hm
 subst e
 cases r3
 refine wpAny_truthy_bool ?_
 cases k with
 | false=>
  obtain ⟨k',e',q'⟩:=q3
  cases e'
  exact ite_ff ⟨H3,I3,q'⟩
 | true=>
  refine ite_tt (test_last (thn (hc pins s3 σ H3 _ I3 q3) fun w' s4 ⟨z',H4,I4,r4,q4⟩=>thn (ho' pins s4 σ H4 y z' u w' _ I4 r2 r4 q4) fun d' s5 ⟨z2,H5,I5,r5,k2,e2,q5⟩=>?_))
  subst e2
  cases r5
  exact wpAny_truthy_bool ⟨H5,I5,q5⟩
theorem ad5:(sizeLine:Nat) < 2 ^ 63:=by rw [sizeLine_eq]; decide
theorem ac2 {x:V}{us:List Value} (r:jF [x] us):∃ u,us=[u]/\jJ x u:=by
 cases r with
 | cons r1 r2=>cases r2; exact ⟨_,rfl,r1⟩
theorem ag2 {x y:V}{us:List Value} (r:jF [x,y] us):∃ u w',us=[u,w']/\jJ x u/\jJ y w':=by
 cases r with
 | cons r1 r2=>
  cases r2 with
  | cons r3 r4=>cases r4; exact ⟨_,_,rfl,r1,r3⟩
theorem ag3:zC X (.builtin "abs") (fun xs H Q=>∃ i,xs=[.int i]/\Q (.int (if i < 0 then -i else i)) H):=by
 intro pins s σ H xs us Q I r h
 obtain ⟨i,rfl,q⟩:=h
 obtain ⟨u,rfl,t,rfl⟩:=ac2 r
 exact call_abs_int fun u tk=>⟨.int (if i < 0 then -i else i),H,I.tok _,⟨_,rfl⟩,q⟩
theorem afR (hc:X.calm=true):zC X (.builtin "max") (fun xs H Q=>∃ i j,xs=[.int i,.int j]/\Q (.int (if j > i then j else i)) H):=by
 intro pins s σ H xs us Q I r h
 obtain ⟨i,j,rfl,q⟩:=h
 obtain ⟨u,w',rfl,⟨t,rfl⟩,⟨t',rfl⟩⟩:=ag2 r
 refine max_two_ints (I.ok.hd hc) fun h' tk k=>⟨_,H,I.kept k,?_,q⟩
 by_cases hj:j > i
 ·rw [if_pos hj,if_pos hj]; exact ⟨_,rfl⟩
 ·rw [if_neg hj,if_neg hj]; exact ⟨_,rfl⟩
theorem afS (hc:X.calm=true):zC X (.builtin "min") (fun xs H Q=>∃ i j,xs=[.int i,.int j]/\Q (.int (if j < i then j else i)) H):=by
 intro pins s σ H xs us Q I r h
 obtain ⟨i,j,rfl,q⟩:=h
 obtain ⟨u,w',rfl,⟨t,rfl⟩,⟨t',rfl⟩⟩:=ag2 r
 refine min_two_ints (I.ok.hd hc) fun h' tk k=>⟨_,H,I.kept k,?_,q⟩
 by_cases hj:j < i
 ·rw [if_pos hj,if_pos hj]; exact ⟨_,rfl⟩
 ·rw [if_neg hj,if_neg hj]; exact ⟨_,rfl⟩
end
end L2
namespace L2
open PySem PySem.Spec PyProof.Rows
structure ObjM (h:Heap) (x dx C:Addr) (mA:Str->Option Value):Prop where
 obj:h.get? x=some (PySem.W.instObj C dx)
 ns:h.Ns1 dx mA
 ne:dx ≠ x
section
variable {prog:Program}{w:World}{A:Around}{E:Value->Shared->Prop}{s:Shared}{K:PySem.W.Frag}{x dx C f:Addr}{mA:Str->Option Value}{name:Str}{v:Value}
end
theorem ZW.some_of {v:V}{o:Option Value} (r:ZW (some v) o):∃ u,o=some u/\jJ v u:=by
 cases o with
 | none=>exact (show False from r).elim
 | some u=>exact ⟨u,rfl,r⟩
section
variable {P:Program}{w:World}{H H':Hp}{h h':Heap}{a C dx:Addr}{fs fs':List (Str × V)}
end
structure Cls (K:PySem.W.Frag) (C:Addr):Prop where
 pg:PySem.W.plainGet K C Str.empty=true
 hd:PySem.W.hasDictIn K C=true
 po:PySem.W.plainOver K C=true
 sa:PySem.W.findIn K (.ref C) "__setattr__"=some (some (.builtin "object.__setattr__"))
theorem Cls.get {K:PySem.W.Frag}{C:Addr} (c:Cls K C) (f:Str):PySem.W.plainGet K C f=true:=c.pg
structure Con (K:PySem.W.Frag) (C:Addr) (f:Str) (v:V) (u:Value):Prop where
 at_:PySem.W.findIn K (.ref C) f=some (some u)
 rel:jJ v u
 get:PySem.W.specialIn K u "__get__"=some none
 cp:PySem.W.copiedNames.contains f=false
structure Meth (K:PySem.W.Frag) (C:Addr) (m:Str) (f:Addr):Prop where
 at_:PySem.W.findIn K (.ref C) m=some (some (.ref f))
 fn:PySem.W.isFn K (.ref f)=true
 kp:PySem.W.keepIn K (.ref f)=true
section
variable {X:Cx}{pins:List (Addr × Obj)}{σ:St}{H:Hp}{s:Shared}{a C dx:Addr}{fs:List (Str × V)}{f:Str}{v:V}{A:Around}{E:Value->Shared->Prop}
theorem Inv.made (I:Inv X pins σ H s):Inv X pins σ (upd (upd H s.heap.objs.size (.own (s.heap.objs.size+1))) (s.heap.objs.size+1) (.ins C s.heap.objs.size []))
  { s with heap:=(s.heap.push PySem.W.emptyDict).push (PySem.W.instObj C s.heap.objs.size) }:=by
 have e1:(s.heap.push PySem.W.emptyDict).get? s.heap.objs.size=some PySem.W.emptyDict:=Heap.get?_push_size s.heap rfl
 have e2:((s.heap.push PySem.W.emptyDict).push (PySem.W.instObj C s.heap.objs.size)).get? (s.heap.objs.size+1)=some (PySem.W.instObj C s.heap.objs.size):=by
  have:=Heap.get?_push_size (s.heap.push PySem.W.emptyDict) (o:=PySem.W.instObj C s.heap.objs.size) rfl
  rwa [Heap.size_push] at this
 have e3:(s.heap.push PySem.W.emptyDict).Ns s.heap.objs.size (fun _=>none):=⟨PySem.W.emptyDict,#[],_,e1,rfl,(fun e he=>absurd he (by simp)),fun _=>rfl⟩
 have I1:=I.laid (a:=s.heap.objs.size) (o:= .own (s.heap.objs.size+1)) (h':=s.heap.push PySem.W.emptyDict) (t':=s.toks) (fun b u q=>Heap.get?_push_of_some _ q) (Nat.le_refl _) ⟨_,e1⟩
 refine I1.laid (a:=s.heap.objs.size+1) (o:= .ins C s.heap.objs.size []) (t':=s.toks) (fun b u q=>Heap.get?_push_of_some _ q) (Nat.le_of_eq (Heap.size_push _ _)) ?_
 have ne:s.heap.objs.size ≠ s.heap.objs.size+1:=Nat.ne_of_lt (Nat.lt_succ_self _)
 refine ⟨by rw [jn ne,jp],Nat.zero_le _,ne,e2,fun _=>none,(Heap.Ns1.of_empty e3).at fun o q=>Heap.get?_push_of_some _ q,fun _=>True.intro,fun y hy=>absurd rfl hy⟩
end
section
variable {X:Cx}{o e value:Expr}{f:Str}{pos pos' tpos:Pos}{ta tv:TE}
end
section
variable {X:Cx}{pins:List (Addr × Obj)}{σ:St}{H:Hp}{s:Shared}{A:Around}{E:Value->Shared->Prop}{Q:Value->Shared->Prop}{c:Value}{b:Bool}
inductive TyOf (K:PySem.W.Frag) (H:Hp):V->Value->Prop where
 | non:TyOf K H .non (.type "NoneType")
 | bl (x:Bool):TyOf K H (.bl x) (.type "bool")
 | int (i:Int):TyOf K H (.int i) (.type "int")
 | str (x:Str):TyOf K H (.str x) (.type "str")
 | flt (x:UInt64):TyOf K H (.flt x) (.type "float")
 | lst {a:Addr} {xs:List V} (e:H a=some (.lst xs)):TyOf K H (.ref a) (.type "list")
 | frz {a:Addr} {o:Obj} {xs:List V} (e:H a=some (.frz o (.lst xs))):TyOf K H (.ref a) (.type "list")
 | tup {a:Addr} {xs:List V} (e:H a=some (.tup xs)):TyOf K H (.ref a) (.type "tuple")
 | dK {a:Addr} {kvs:List (Key × V)} (e:H a=some (.dK kvs)):TyOf K H (.ref a) (.type "dict")
 | dT {a:Addr} {kvs:List (List Key × V)} (e:H a=some (.dT kvs)):TyOf K H (.ref a) (.type "dict")
 | ins {a C dx:Addr} {fs:List (Str × V)} (e:H a=some (.ins C dx fs)) (cl:Cls K C) (ha:PySem.W.findIn K (.ref C) "__class__"=some (some (.builtin "object.__class__")))
   (hn:PySem.W.specialIn K (.builtin "object.__class__") "__get__"=some (some (.builtin "getset_descriptor.__get__"))) (htk:PySem.W.takesIn K (.builtin "object.__class__")=some true)
   (hm:PySem.W.mroIn K C (.type "object")=some true):TyOf K H (.ref a) (.ref C)
end
end L2
namespace L2
open PySem PySem.Spec PyProof.Rows
structure Room (k:Nat) (A:Around):Prop where
 hd:A.handled=none
 dp:A.depth+3*k+5 < recursionLimit
 un:A.units+16*k+200 < cLine
theorem Room.mono {j k:Nat}{A:Around} (r:Room k A) (h:j<=k):Room j A:=⟨r.hd,by have:=r.dp; omega,by have:=r.un; omega⟩
theorem Room.deeper {k:Nat}{A:Around} (r:Room (k+1) A) (env:Env):Room k (A.deeper env):=
 ⟨r.hd,by have:=r.dp; show A.depth+1+3*k+5 < _; omega,by have:=r.un; show A.units+3+16*k+200 < _; omega⟩
theorem Room.in1 {k:Nat}{A:Around} (r:Room (k+1) A):Room k A.in1:=
 ⟨r.hd,by have:=r.dp; show A.depth+3*k+5 < _; omega,by have:=r.un; show A.units+1+16*k+200 < _; omega⟩
theorem Room.depth {k:Nat}{A:Around} (r:Room k A):A.depth < recursionLimit:=by have:=r.dp; omega
theorem Room.units {k:Nat}{A:Around} (r:Room k A):A.units+64 < cLine:=by have:=r.un; omega
noncomputable def anj:TA:=fun _ H Q=>Q [] H
noncomputable def amj (ta:TE) (tr:TA):TA:=fun σ H Q=>ta σ H fun x H1=>tr σ H1 fun xs H2=>Q (x::xs) H2
section
variable {X:Cx}{e:Expr}{es:List Expr}{te:TE}{t:TA}{pos:Pos}
theorem afT {α:Type}:∀ (us:List α),us.length=1->∃ a,us=[a]
 | [a],_=>⟨a,rfl⟩
theorem QB {α:Type} (us:List α) (h:us.length=2):∃ a b,us=[a,b]:=by
 cases us with
 | nil=>cases h
 | cons a r=>obtain ⟨b,rfl⟩:=afT r (Nat.succ.inj h); exact ⟨a,b,rfl⟩
theorem QM {α:Type} (us:List α) (h:us.length=3):∃ a b c,us=[a,b,c]:=by
 cases us with
 | nil=>cases h
 | cons a r=>obtain ⟨b,c,rfl⟩:=QB r (Nat.succ.inj h); exact ⟨a,b,c,rfl⟩
theorem amk {α:Type} (us:List α) (h:us.length=4):∃ a b c d,us=[a,b,c,d]:=by
 cases us with
 | nil=>cases h
 | cons a r=>obtain ⟨b,c,d,rfl⟩:=QM r (Nat.succ.inj h); exact ⟨a,b,c,d,rfl⟩
theorem JR:PA X [] anj:=fun _ _ _ _ H Q I h=>Calls.spliced_nil ⟨[],H,I,.nil,h⟩
theorem ze (ha:PE X e te) (hr:PA X es t) (hs:starEach (e::es) X.env=(false,eval e X.env)::starEach es X.env:=by rfl):PA X (e::es) (amj te t):=by
 intro pos pins s σ H Q I h
 rw [hs]
 show wpAny _ _ (spliced ((false,eval e X.env)::backTo pos (starEach es X.env))) _ _ s
 refine Calls.spliced_cons (thn (ha pins s σ H _ I h) fun u s1 ⟨x,H1,I1,r1,q1⟩=>?_)
 exact thn (hr pos pins s1 σ H1 _ I1 q1) fun us s2 ⟨xs,H2,I2,r2,q2⟩=>⟨x::xs,H2,I2,.cons r1 r2,q2⟩
noncomputable def ank (t:TA):TE:=fun σ H Q=>t σ H fun xs H1=>xs.length<=sizeLine/\∀ p,H1 p=none->Q (.ref p) (upd H1 p (.tup xs))
noncomputable def anl (t:TA):TE:=fun σ H Q=>t σ H fun xs H1=>xs.length<=sizeLine/\∀ p,H1 p=none->Q (.ref p) (upd H1 p (.lst xs))
theorem ag4 {x1} (h:PA X es t):PE X (.Tuple es x1 pos) (ank t):=by
 intro pins s σ H Q I hq
 refine wpAny_Tuple_spliced (thn (h pos pins s σ H _ I hq) fun us s1 ⟨xs,H1,I1,r,z,q⟩=>⟨by rw [←r.length]; exact z,?_⟩)
 have hf:H1 s1.heap.objs.size=none:=I1.hok.fresh (Nat.le_refl _)
 refine ⟨.ref s1.heap.objs.size,upd H1 s1.heap.objs.size (.tup xs),I1.laid (t':=s1.toks) (fun b u e=>Heap.get?_push_of_some _ e) (Nat.le_refl _) ?_,rfl,q _ hf⟩
 exact ⟨z,us,r,⟨_,Heap.get?_push_size _ rfl,rfl,_,rfl⟩⟩
theorem ad6 (h:PA X es t):PE X (.List es pos) (anl t):=by
 intro pins s σ H Q I hq
 refine wpAny_List_spliced (thn (h pos pins s σ H _ I hq) fun us s1 ⟨xs,H1,I1,r,z,q⟩=>⟨by rw [←r.length]; exact z,?_⟩)
 have hf:H1 s1.heap.objs.size=none:=I1.hok.fresh (Nat.le_refl _)
 refine ⟨.ref s1.heap.objs.size,upd H1 s1.heap.objs.size (.lst xs),I1.laid (t':=s1.toks) (fun b u e=>Heap.get?_push_of_some _ e) (Nat.le_refl _) ?_,rfl,q _ hf⟩
 exact ⟨z,us,0,r,Heap.get?_push_size _ rfl⟩
end
noncomputable abbrev Sp:=List V->Hp->VK->XK->Prop
noncomputable abbrev CXT:=List Env->Hp->Shared->XK->Value->Shared->Prop
structure Env0 (P:Program) (w:World) (K:PySem.W.Frag) (mg:Str->Option Value) (base:Heap) (A:Around) (outer:List Env) (s:Shared) (H:Hp):Prop where
 frames:A.frames=some outer
 mod:Mod K mg base
 bs:∀ b o,base.get? b=some o->s.heap.get? b=some o/\H b=none
 bsz:base.objs.size<=s.heap.objs.size
 funs:s.heap.FunFrames base outer
 frf:∀ b ∈ frs outer,H b=none
 hok:HOk P w H s.heap
 bare:AllBare s.gens
noncomputable def CE (outer:List Env) (P:Program) (w:World) (H:Hp) (s:Shared) (Q:VK) (u:Value) (s':Shared):Prop:=
 ∃ v H',s'.os=s.os/\AllBare s'.gens/\Un (frs outer) [] H H' s.heap s'.heap/\HOk P w H' s'.heap/\jJ v u/\Q v H'
noncomputable def CR (CX:CXT) (outer:List Env) (P:Program) (w:World) (H:Hp) (s:Shared) (Q:VK) (E:XK) (r:Result) (s':Shared):Prop:=
 match r with
 | .ok (.ret u)=>CE outer P w H s Q u s'
 | .ok _=>False
 | .error e=>CX outer H s E e s'
structure FnOk (P:Program) (w:World) (K:PySem.W.Frag) (mg:Str->Option Value) (base:Heap) (CX:CXT) (k:Nat) (f:Addr) (fd:FuncData) (ps:List Str) (sp:Sp):Prop where
 len:∀ vs H Q E,sp vs H Q E->vs.length=ps.length
 run:∀ (A:Around) (outer:List Env) (s:Shared) (H:Hp) (args:Args) (us:List Value) (vs:List V) (Q:VK) (E:XK),Room k A->Env0 P w K mg base A outer s H->BindsTo s fd args (ps.zip us)->jF vs us->sp vs H Q E->
  codeAny (model P w) A (.call (.ref f) args) (CR CX outer P w H s Q E) s
theorem FnOk.mono {P:Program}{w:World}{K:PySem.W.Frag}{mg:Str->Option Value}{base:Heap}{CX:CXT}{j k:Nat}{f:Addr}{fd:FuncData}{ps:List Str}{sp:Sp} (F:FnOk P w K mg base CX j f fd ps sp) (h:j<=k):
  FnOk P w K mg base CX k f fd ps sp:=⟨F.len,fun A outer s H args us vs Q E hr=>F.run A outer s H args us vs Q E (hr.mono h)⟩
theorem FnOk.imp {P:Program}{w:World}{K:PySem.W.Frag}{mg:Str->Option Value}{base:Heap}{CX:CXT}{k:Nat}{f:Addr}{fd:FuncData}{ps:List Str}{sp sp':Sp} (F:FnOk P w K mg base CX k f fd ps sp)
  (h:∀ vs H Q E,sp' vs H Q E->sp vs H Q E):FnOk P w K mg base CX k f fd ps sp':=
 ⟨fun vs H Q E q=>F.len vs H Q E (h _ _ _ _ q),fun A outer s H args us vs Q E hr he hb hv hs=>F.run A outer s H args us vs Q E hr he hb hv (h _ _ _ _ hs)⟩
theorem Env0.in1 {P:Program}{w:World}{K:PySem.W.Frag}{mg:Str->Option Value}{base:Heap}{A:Around}{outer:List Env}{s:Shared}{H:Hp} (e:Env0 P w K mg base A outer s H):
  Env0 P w K mg base A.in1 outer s H:=⟨e.frames,e.mod,e.bs,e.bsz,e.funs,e.frf,e.hok,e.bare⟩
section
variable {X:Cx}{pins:List (Addr × Obj)}{σ:St}{H:Hp}{s s':Shared}
theorem Inv.env0 (I:Inv X pins σ H s):Env0 X.prog X.w X.K X.mg X.base X.A X.stack s H:=
 ⟨I.ok.frames,I.ok.mod,I.bs,Nat.le_trans I.ok.bsz I.sz,I.stack,I.stkFree,I.hok,I.bare⟩
theorem Inv.after {Q:VK}{u:Value} (I:Inv X pins σ H s) (h:CE X.stack X.prog X.w H s Q u s'):EP X pins σ Q u s':=by
 obtain ⟨v,H',os,bare,un,hok,r,q⟩:=h
 obtain ⟨hh,g,d,t,os'⟩:=s'
 obtain rfl:os'=s.os:=os
 exact ⟨v,H',I.call (h':=hh) (g':=g) (d':=d) (t':=t) (ch:=[]) un hok bare (fun b z=>absurd z (by simp)),r,q⟩
end
noncomputable def aml (sp:Sp) (dvs:List V) (E:XK) (t:TA):TE:=fun σ H Q=>t σ H fun vs H1=>sp (vs++dvs) H1 Q E
noncomputable def QN (K:PySem.W.Frag) (fd:FuncData) (ps:List Str) (ds:List Value):Prop:=
 ∀ (s:Shared) (us:List Value),K.In s.heap->(us++ds).length=ps.length->BindsTo s fd ⟨us,[]⟩ (ps.zip (us++ds))
theorem QN.all {K:PySem.W.Frag}{fd:FuncData}{ps:List Str} (h:∀ us:List Value,us.length=ps.length->bindArgs fd ⟨us,[]⟩=pure (ps.zip us)):QN K fd ps []:=fun s us _ hl=>by
 rw [List.append_nil] at hl ⊢
 exact .of_eq (h us hl)
noncomputable def ad7 (CX:CXT) (X:Cx) (E:XK):Prop:=∀ (pins:List (Addr × Obj)) (σ:St) (H:Hp) (s:Shared) (e:Value) (s':Shared),Inv X pins σ H s->CX X.stack H s E e s'->X.xe e s'
section
variable {X:Cx}{CX:CXT}{k:Nat}{f C:Addr}{fd:FuncData}{ps:List Str}{sp:Sp}{dvs:List V}{ds:List Value}{E:XK}{x m:Str}{p pos apos:Pos}{e o:Expr}{es:List Expr}{ta:TE}{t:TA}
theorem ak2 {pins:List (Addr × Obj)}{σ:St}{H:Hp}{s:Shared}{Q:VK}{us:List Value}{vs:List V} (F:FnOk X.prog X.w X.K X.mg X.base CX k f fd ps sp) (hr:Room k X.A) (hb:QN X.K fd ps ds) (hd:jF dvs ds) (hx:ad7 CX X E)
  (I:Inv X pins σ H s) (r:jF vs us) (h:sp (vs++dvs) H Q E):wpAny (model X.prog X.w) X.A (call (.ref f) us) (EP X pins σ Q) X.xe s:=by
 have r2:jF (vs++dvs) (us++ds):=r.append hd
 have hl:(us++ds).length=ps.length:=by rw [←r2.length]; exact F.len _ _ _ _ h
 refine wpAny_call (codeAny_mono (F.run X.A X.stack s H ⟨us,[]⟩ (us++ds) (vs++dvs) Q E hr I.env0 (hb s us I.kIn hl) r2 h) fun r s' hq=>?_)
 cases r with
 | error e=>exact hx pins σ H s e s' I hq
 | ok fl=>
  cases fl with
  | ret u=>exact I.after hq
  | next=>exact False.elim hq
  | brk=>exact False.elim hq
  | cont=>exact False.elim hq
theorem ai5 (F:FnOk X.prog X.w X.K X.mg X.base CX k f fd ps sp) (hr:Room k X.A) (hg:Gl X x) (hm:X.mg x=some (.ref f)) (hk:PySem.W.keepIn X.K (.ref f)=true) (hb:QN X.K fd ps ds) (hd:jF dvs ds) (hx:ad7 CX X E)
  (ha:PA X (e::es) t) (hdb:(x == ("__debug__":Str))=false:=by decide) (he:starEach (e::es) X.env=(false,eval e X.env)::starEach es X.env:=by rfl) (hpl:(backTo pos (starEach es X.env)).any (·.1)=false:=by rfl):
  PE X (.Call (.Name x p) (e::es) [] pos) (aml sp dvs E t):=by
 intro pins s σ H Q I h
 refine wpAny_Call_Name_kw (aeU I hg hm ?_ hdb)
 refine PySem.W.callWith_K (h₀:=X.base) I.ok.mod.kin hk (thn (ha pos pins s σ H _ I h) fun us s1 ⟨vs,H1,I1,r,q⟩=>⟨I1.kIn,?_⟩) he hpl
 exact ak2 F hr hb hd hx I1 r q
structure Mk (K:PySem.W.Frag) (C f:Addr):Prop where
 makes:PySem.W.makesIn K C=true
 init:PySem.W.findIn K (.ref C) "__init__"=some (some (.ref f))
 fn:PySem.W.isFn K (.ref f)=true
 kp:PySem.W.keepIn K (.ref C)=true
end
section
variable {X:Cx}{CX:CXT}{k:Nat}{f C:Addr}{fd:FuncData}{ps ks:List Str}{sp:Sp}{E:XK}{x m:Str}{p pos apos kpos:Pos}{e o:Expr}{es:List Expr}{kws:List Keyword}{te ta:TE}{t tk:TA}{nm:Option Str}
structure KBinds (K:PySem.W.Frag) (fd:FuncData) (ps ks:List Str) (g:List Value->List Value->List Value) (gV:List V->List V->List V):Prop where
 to:∀ (s:Shared) (us ws:List Value),K.In s.heap->(g us ws).length=ps.length->BindsTo s fd ⟨us,ks.zip ws⟩ (ps.zip (g us ws))
 rel:∀ {vs:List V} {us:List Value} {zs:List V} {ws:List Value},jF vs us->jF zs ws->jF (gV vs zs) (g us ws)
variable {g:List Value->List Value->List Value}{gV:List V->List V->List V}
end
structure FnScope (N P:List Str) (sc:Scope):Prop where
 kind:sc.kind= .function
 co:sc.isCoroutine=false
 gen:sc.isGenerator=false
 nd:N.Nodup
 pre:N.take P.length=P
 par:∀ x ∈ P,sc.names.lookup x=some .local ∨ sc.names.lookup x=some .cell
 nofree:∀ y ∈ sc.names,y.2 ≠ .free
theorem abq {kindOf:Str->Option NameKind}{x:Str}:∀ {binds:List (Str × Value)}{m:Str->Option Value},(∀ v,(x,v) ∉ binds)->bindL kindOf binds m x=m x
 | [],_,_=>rfl
 | (n,v)::r,m,h=>by
  unfold bindL
  rw [abq fun w hw=>h w (List.mem_cons_of_mem _ hw)]
  split
  ·have:x ≠ n:=by rintro rfl; exact h v List.mem_cons_self
   simp [this]
  ·rfl
theorem abr {kindOf:Str->Option NameKind}{x:Str}:∀ {binds:List (Str × Value)}{m:Str->Option Value},(∀ v,(x,v) ∉ binds)->bindC kindOf binds m x=m x
 | [],_,_=>rfl
 | (n,v)::r,m,h=>by
  unfold bindC
  rw [abr fun w hw=>h w (List.mem_cons_of_mem _ hw)]
  split
  ·rfl
  ·have:x ≠ n:=by rintro rfl; exact h v List.mem_cons_self
   simp [this]
theorem abt {kindOf:Str->Option NameKind}{x:Str}{v:Value}:∀ {P:List Str}{vs:List Value}{i:Nat}{m:Str->Option Value},P.Nodup->P[i]?=some x->vs[i]?=some v->kindOf x=some .local->
  bindL kindOf (P.zip vs) m x=some v
 | [],_,_,_,_,h,_,_=>by simp at h
 | _::_,[],_,_,_,_,h,_=>by simp at h
 | p::P,w::vs,0,m,nd,h1,h2,hk=>by
  simp at h1 h2; subst h1; subst h2
  show bindL kindOf ((p,w)::P.zip vs) m p=_
  unfold bindL
  rw [abq fun v hv=>(List.nodup_cons.mp nd).1 (List.of_mem_zip hv).1,if_pos hk]
  simp
 | p::P,w::vs,i+1,m,nd,h1,h2,hk=>by
  show bindL kindOf ((p,w)::P.zip vs) m x=_
  unfold bindL
  exact abt (i:=i) (List.nodup_cons.mp nd).2 (by simpa using h1) (by simpa using h2) hk
theorem abu {kindOf:Str->Option NameKind}{x:Str}{v:Value}:∀ {P:List Str}{vs:List Value}{i:Nat}{m:Str->Option Value},P.Nodup->P[i]?=some x->vs[i]?=some v->kindOf x ≠ some .local->
  bindC kindOf (P.zip vs) m x=some v
 | [],_,_,_,_,h,_,_=>by simp at h
 | _::_,[],_,_,_,_,h,_=>by simp at h
 | p::P,w::vs,0,m,nd,h1,h2,hk=>by
  simp at h1 h2; subst h1; subst h2
  show bindC kindOf ((p,w)::P.zip vs) m p=_
  unfold bindC
  rw [abr fun v hv=>(List.nodup_cons.mp nd).1 (List.of_mem_zip hv).1,if_neg hk]
  simp
 | p::P,w::vs,i+1,m,nd,h1,h2,hk=>by
  show bindC kindOf ((p,w)::P.zip vs) m x=_
  unfold bindC
  exact abu (i:=i) (List.nodup_cons.mp nd).2 (by simpa using h1) (by simpa using h2) hk
noncomputable def JS (N:List Str) (vs:List V):St:=vs.map some++List.replicate (N.length - vs.length) none
noncomputable def aan (CX:CXT) (P:Program) (w:World) (K:PySem.W.Frag) (mg:Str->Option Value) (base:Heap) (N:List Str) (qual:Str) (scope:Scope) (f:Addr) (cd:Value) (A:Around) (outer:List Env) (s:Shared) (H:Hp) (E:XK):Cx where
 prog:=P
 w:=w
 K:=K
 mg:=mg
 base:=base
 A:=A.deeper (envOfC qual scope s.heap.objs.size f cd)
 N:=N
 s₀:=s
 H₀:=H
 env:=envOfC qual scope s.heap.objs.size f cd
 outer:=outer
 stack:=envOfC qual scope s.heap.objs.size f cd::outer
 ex:=[]
 calm:=true
 fn:=fun _=>true
 pn:=[]
 xe:=fun e s'=>wpAny (model P w) (A.deeper (envOfC qual scope s.heap.objs.size f cd)) (leaving (envOfC qual scope s.heap.objs.size f cd) e) (fun _ s''=>CX outer H s E e s'') (fun e' s''=>CX outer H s E e' s'') s'
theorem ac3 {sc:Scope}{n:Nat}{x:Str} (h:sc.names.lookup x=some .cell):∃ c,(cellsFrom n sc.names []).lookup x=some c:=by
 have q:=PySem.W.cellsFrom_some sc.names n [] (.inl h)
 exact Option.isSome_iff_exists.mp q
theorem afU {CX:CXT}{P:Program}{w:World}{K:PySem.W.Frag}{mg:Str->Option Value}{base:Heap}{N ps:List Str}{qual:Str}{scope:Scope}{f:Addr}{cd:Value}{A:Around}{outer:List Env}{s s1:Shared}{H:Hp}{E:XK}{us:List Value}{vs:List V}
  (S:FnScope N ps scope) (hd:A.handled=none) (e0:Env0 P w K mg base A outer s H) (hl:vs.length=ps.length) (r:jF vs us)
  (x:InCallC s s.heap.objs.size (bindL (envOfC qual scope s.heap.objs.size f cd).kindOf (ps.zip us) fun _=>none) (cellsFrom (s.heap.objs.size+1) scope.names []) (bindC (envOfC qual scope s.heap.objs.size f cd).kindOf (ps.zip us) fun _=>none) s1):
  Inv (aan CX P w K mg base N qual scope f cd A outer s H E) [] (JS N vs) H s1:=by
 have hpl:ps.length<=N.length:=by have:=congrArg List.length S.pre; rw [List.length_take] at this; omega
 obtain ⟨h1,tk,rfl,hk⟩:=x.done
 have noA:∀ b:Addr,b ∉ (aan CX P w K mg base N qual scope f cd A outer s H E).ex:=fun b z=>absurd (show b ∈ ([]:List Addr) from z) (by simp)
 refine ⟨⟨e0.mod,S.kind,rfl,rfl,Nat.le_refl _,fun y z c h1 h2=>?_,fun y hy=>?_,fun y c _ h=>?_,fun _=>hd,Around.frames_deeper e0.frames,.inr ⟨rfl,rfl⟩,fun b z=>absurd z (noA b),e0.bs,e0.bsz,fun b _ _=>noA b,fun b z=>absurd z (noA b),e0.funs,e0.frf⟩,
  rfl,e0.bare,Un.kept hk,⟨_,x.toInCall.ns,fun i y v h1 h2 h3=>?_⟩,fun y c h=>⟨_,x.cell y c h⟩,e0.hok.fresh (Nat.le_refl _),fun y c h=>?_,fun p hp=>absurd (show p ∈ ([]:List (Addr × Obj)) from hp) (by simp),e0.hok.kept hk,?_⟩
 ·exact name_of_addr x.apart (PySem.mem_of_lookup h1) (PySem.mem_of_lookup h2)
 ·have hy:scope.names.lookup y=some .cell ∨ scope.names.lookup y=some .free:=hy
  rcases hy with hy | hy
  ·exact ac3 hy
  ·exact absurd rfl (S.nofree _ (PySem.mem_of_lookup hy))
 ·exact Nat.le_of_lt (x.above y c (PySem.mem_of_lookup h))
 ·have hi:i < vs.length:=by
   unfold JS at h2
   by_cases hi:i < vs.length
   ·exact hi
   ·rw [List.getElem?_append_right (by simpa using hi)] at h2
    rw [List.getElem?_replicate] at h2
    split at h2 <;> cases h2
  have ha:vs[i]?=some v:=by
   unfold JS at h2
   rw [List.getElem?_append_left (by simpa using hi),List.getElem?_map] at h2
   cases e:vs[i]? with
   | none=>rw [e] at h2; cases h2
   | some a=>rw [e] at h2; cases h2; rfl
  obtain ⟨u,hu,rv⟩:=r.get ha
  have hp:ps[i]?=some y:=by
   rw [←S.pre,List.getElem?_take_of_lt (by omega)]; exact h1
  have ndP:ps.Nodup:=by rw [←S.pre]; exact S.nd.sublist (List.take_sublist _ _)
  refine ⟨u,rv,?_⟩
  rcases S.par y (List.mem_of_getElem? hp) with k | k
  ·exact .inl ⟨k,abt ndP hp hu k⟩
  ·obtain ⟨c,e⟩:=ac3 (n:=s.heap.objs.size+1) k
   refine .inr ⟨.inl k,c,e,?_⟩
   have q:=x.cell y c e
   rw [abu ndP hp hu (by show scope.names.lookup y ≠ _; rw [k]; decide)] at q
   exact q
 ·exact e0.hok.fresh (Nat.le_of_lt (x.above y c (PySem.mem_of_lookup h)))
 ·unfold JS
  show _=N.length
  rw [List.length_append,List.length_map,List.length_replicate]
  omega
theorem amm {CX:CXT}{P:Program}{w:World}{K:PySem.W.Frag}{mg:Str->Option Value}{base:Heap}{k:Nat}{f:Addr}{name qual:Str}{params:Arguments}{body:List Stmt}{scope:Scope}{dV kV doc pm cdv ct oc:Value}{an od:Option Addr}
  {osl:Array (Option Value)} {N ps:List Str} {sp:Sp} (lk:K.lookup f=some ⟨oc,od,.func (PySem.W.fnOf name qual params body scope dV kV doc pm an cdv ct),osl⟩) (hcd:PySem.W.codeIn K cdv qual=true) (S:FnScope N ps scope)
  (len:∀ vs H Q E,sp vs H Q E->vs.length=ps.length)
  (hbody:∀ (A:Around) (outer:List Env) (s:Shared) (H:Hp) (vs:List V) (Q:VK) (E:XK),Room k (A.deeper (envOfC qual scope s.heap.objs.size f cdv))->sp vs H Q E->
   ∃ t,PSs (aan CX P w K mg base N qual scope f cdv A outer s H E) body t/\t { nx:=fun _ H'=>Q .non H',rt:=Q } (JS N vs) H):
  FnOk P w K mg base CX (k+1) f (PySem.W.fnOf name qual params body scope dV kV doc pm an cdv ct) ps sp:=by
 refine ⟨len,fun A outer s H args us vs Q E hr e0 hb r hsp=>?_⟩
 have hl:=len _ _ _ _ hsp
 have KX:K.In s.heap:=e0.mod.kin.keeps fun b o e=>(e0.bs b o e).1
 have lim:s.heap.NoLimit:=e0.mod.nolimit.keeps fun b o e=>(e0.bs b o e).1
 have hkind:∀ y ∈ ps.zip us,scope.names.lookup y.1=some .local ∨ (scope.names.lookup y.1=some .cell/\((cellsFrom (s.heap.objs.size+1) scope.names []).lookup y.1).isSome=true):=fun ⟨n,v⟩ hy=>by
  rcases S.par n (List.of_mem_zip hy).1 with q | q
  ·exact .inl q
  ·exact .inr ⟨q,PySem.W.cellsFrom_some _ _ _ (.inl q)⟩
 refine codeAny_call_function hr.depth (KX _ _ lk) rfl S.co S.gen rfl (PySem.W.codeRec_of KX hcd) (hb _ _ _ _ ?_)
 refine wpAny_newFunctionEnv_cells S.kind hkind fun env he s1 x=>?_
 subst he
 refine ⟨lim.keeps x.toInCall.keep,codeAny_func ?_⟩
 obtain ⟨t,ht,hq⟩:=hbody A outer s H vs Q E (hr.deeper _) hsp
 have I:Inv (aan CX P w K mg base N qual scope f cdv A outer s H E) [] (JS N vs) H s1:=afU S hr.hd e0 hl r x
 refine wpAny_mono (ht [] s1 (JS N vs) H _ I hq) (fun fl s' hs=>?_) fun e s' hs=>hs
 have fin:∀ {σ':St} {H':Hp} {v:V} {u:Value},Inv (aan CX P w K mg base N qual scope f cdv A outer s H E) [] σ' H' s'->jJ v u->Q v H'->CE outer P w H s Q u s':=
  fun {σ' H' v u} J rv q=>⟨v,H',J.os,J.bare,J.base,J.hok,rv,q⟩
 cases fl with
 | ret u=>
  obtain ⟨v,σ',H',J,rv,q⟩:=hs
  exact fin J rv q
 | next=>
  obtain ⟨σ',H',J,q⟩:=hs
  exact fin (v:=V.non) (u:=Value.none) J rfl q
 | brk=>
  obtain ⟨_,_,_,q⟩:=hs
  exact False.elim q
 | cont=>
  obtain ⟨_,_,_,q⟩:=hs
  exact False.elim q
end L2
namespace L2
open PySem PySem.Spec PyProof.Rows
section
variable {X:Cx}{x:Str}{p pos:Pos}{e:Expr}{es:List Expr}{t:TA}{id T:String}{r:List V->Hp->VK->Prop}
noncomputable def tCB (r:List V->Hp->VK->Prop) (t:TA):TE:=fun σ H Q=>t σ H fun vs H1=>r vs H1 Q
theorem aao (hc:zC X (.builtin id) r) (hg:Gl X x) (hm:X.mg x=none) (hv:bootBuiltins x=some (.builtin id)) (ha:PA X (e::es) t) (hn:x ≠ "__name__":=by decide) (hdb:(x == ("__debug__":Str))=false:=by decide)
  (he:starEach (e::es) X.env=(false,eval e X.env)::starEach es X.env:=by rfl) (hpl:(backTo pos (starEach es X.env)).any (·.1)=false:=by rfl):PE X (.Call (.Name x p) (e::es) [] pos) (tCB r t):=by
 intro pins s σ H Q I h
 refine wpAny_Call_Name_kw (JP I hg hm hv ?_ hn hdb)
 exact PyProof.Rows.callWith_builtin1 (thn (ha pos pins s σ H _ I h) fun us s1 ⟨vs,H1,I1,r1,q1⟩=>hc pins s1 σ H1 vs us Q I1 r1 q1) he hpl
theorem afV (hc:zC X (.type T) r) (hg:Gl X x) (hm:X.mg x=none) (hv:bootBuiltins x=some (.type T)) (ha:PA X (e::es) t) (hn:x ≠ "__name__":=by decide) (hdb:(x == ("__debug__":Str))=false:=by decide)
  (he:starEach (e::es) X.env=(false,eval e X.env)::starEach es X.env:=by rfl) (hpl:(backTo pos (starEach es X.env)).any (·.1)=false:=by rfl):PE X (.Call (.Name x p) (e::es) [] pos) (tCB r t):=by
 intro pins s σ H Q I h
 refine wpAny_Call_Name_kw (JP I hg hm hv ?_ hn hdb)
 exact PyProof.Rows.callWith_type1 (thn (ha pos pins s σ H _ I h) fun us s1 ⟨vs,H1,I1,r1,q1⟩=>hc pins s1 σ H1 vs us Q I1 r1 q1) he hpl
end
end L2
namespace HT
open PySem PyProof.Rows
section
open PySem.SeqAt
open PySem.AutoSeq1 (wpAny_loadPart')
open PySem.MeetsSeq PySem.MeetsSeq2 PySem.MeetsSeq3
end
section
variable {prog:Program}{w:World}{A:Around}{E:Value->Shared->Prop}{s:Shared}
theorem cat_tup {t b:Addr}{vs ws:List Value}{Q:Value->Shared->Prop} (ht:IsTup s.heap t vs.toArray) (hb:IsTup s.heap b ws.toArray) (hv:vs ≠ [])
  (h1:ws=[]->Q (.ref t) s) (h2:ws ≠ []->Q (.ref s.heap.objs.size) { s with heap:=s.heap.push { cls:= .type "tuple",data:= .seq (vs++ws).toArray } })
  (hsz:vs.length+ws.length<=sizeLine):wpAny (model prog w) A (binaryOp .Add (.ref t) (.ref b)) Q E s:=by
 obtain ⟨⟨cls,dd,data,sl⟩,ho,hc,n,hd⟩:=id ht
 obtain ⟨⟨cls2,dd2,data2,sl2⟩,ho2,hc2,n2,hd2⟩:=id hb
 simp only at hc hd hc2 hd2
 subst hc hd hc2 hd2
 have e:vs.toArray++ws.toArray=(vs++ws).toArray:=by simp
 by_cases hw:ws=[]
 ·exact concat_meets ⟨_,ho,rfl⟩ ⟨_,ho2,rfl⟩ noFill_tuple_add seq_tuple_add PySem.F.slot_tuple_add PySem.F.entry_tuple_add (PySem.F.args_tuple_add_2 _ _)
   (tuple_addW1 t b vs.toArray ws.toArray n n2 dd dd2 sl sl2 (by simpa using hv) (by simp [hw])) ⟨ho,ho2,h1 hw⟩
 ·refine concat_meets ⟨_,ho,rfl⟩ ⟨_,ho2,rfl⟩ noFill_tuple_add seq_tuple_add PySem.F.slot_tuple_add PySem.F.entry_tuple_add (PySem.F.args_tuple_add_2 _ _)
   (tuple_addW2 t b vs.toArray ws.toArray n n2 dd dd2 sl sl2 (by simpa using hv) (by simpa using hw) (by rw [List.size_toArray,List.size_toArray]; exact hsz)) ⟨ho,ho2,?_⟩
  rw [e]
  exact h2 hw
noncomputable def sIx (n d:Nat):Option Int->Nat
 | none=>d
 | some v=>if v < 0 then (v+(n:Int)).toNat else min v.toNat n
theorem sIx_none (n d:Nat):sIx n d none=d:=rfl
theorem sIx_nat (n d k:Nat):sIx n d (some (k:Int))=min k n:=by
 show (if (k:Int) < 0 then ((k:Int)+(n:Int)).toNat else min (k:Int).toNat n)=min k n
 rw [if_neg (by omega),Int.toNat_natCast]
theorem ak3 (n d:Nat) (hd:d<=n) (o:Option Int):sIx n d o<=n:=by
 cases o with
 | none=>exact hd
 | some v=>
  show (if v < 0 then (v+(n:Int)).toNat else min v.toNat n)<=n
  by_cases hv:v < 0
  ·rw [if_pos hv]; omega
  ·rw [if_neg hv]; exact Nat.min_le_right _ _
theorem aeY (v:Int) (n d:Nat):(if v < 0 then max (v+(n:Int)) 0 else min v (n:Int))=((sIx n d (some v):Nat):Int):=by
 show (if v < 0 then max (v+(n:Int)) 0 else min v (n:Int))=(((if v < 0 then (v+(n:Int)).toNat else min v.toNat n):Nat):Int)
 by_cases hv:v < 0
 ·simp only [if_pos hv]; omega
 ·simp only [if_neg hv]; omega
theorem ad8 (lo hi:Option Int) (n:Nat):Builtin.Slice.sliceAdjust lo hi 1 (n:Int)=(((sIx n 0 lo:Nat):Int),((sIx n n hi:Nat):Int)):=by
 have h1:¬ ((1:Int) < 0):=by omega
 unfold Builtin.Slice.sliceAdjust
 simp only [h1,zzN]
 refine Prod.ext ?_ ?_
 ·cases lo with
  | none=>rfl
  | some v=>exact aeY v n 0
 ·cases hi with
  | none=>rfl
  | some v=>exact aeY v n n
theorem ad9 (i j:Nat):Builtin.Slice.slicePlaces (i:Int) (j:Int) 1=j - i:=by
 unfold Builtin.Slice.slicePlaces
 have h1:(1:Int) > 0:=by omega
 simp only [h1,zzM,Int.ediv_one]
 split <;> omega
theorem aap {v:Value}{o:Option Int}{Q:Option Int->Shared->Prop} (p:IsPart v o) (h:Q o s):wpAny (model prog w) A (Builtin.Slice.slicePartIndex v) Q E s:=by
 cases p with
 | none=>exact slicePart_none h
 | int i t=>exact slicePart_int h
theorem sliceApplied_gen {sl:Addr}{vl vu:Value}{lo hi:Option Int}{n:Nat}{Q:Int × Int × Nat->Shared->Prop} (hs:s.heap.IsSliceOf sl vl vu .none) (pl:IsPart vl lo) (pu:IsPart vu hi)
  (h:Q (((sIx n 0 lo:Nat):Int),1,sIx n n hi - sIx n 0 lo) s):wpAny (model prog w) A (Builtin.Slice.sliceApplied (.ref sl) (pure (n:Int))) Q E s:=by
 obtain ⟨os,hos,hcs,hds⟩:=id hs
 unfold Builtin.Slice.sliceApplied Builtin.Slice.sliceFields
 refine wpAny_bind (wpAny_bind (wpAny_field hos hds (x:=vl) rfl (wpAny_bind (wpAny_field hos hds (x:=vu) rfl (wpAny_bind (wpAny_field hos hds (x:= .none) rfl (wpAny_pure ?_)))))))
 refine wpAny_bind (slicePart_none ?_)
 show wpAny _ _ (if ((1:Int) == 0)=true then _ else _) _ _ s
 rw [if_neg (by decide)]
 refine wpAny_bind (aap pl (wpAny_bind (aap pu (wpAny_bind (wpAny_pure ?_)))))
 show wpAny _ _ (match Builtin.Slice.sliceAdjust lo hi 1 (n:Int) with | (lo,hi)=>pure (lo,(1:Int),Builtin.Slice.slicePlaces lo hi 1)) _ _ s
 rw [ad8 lo hi n]
 show wpAny _ _ (pure (((sIx n 0 lo:Nat):Int),(1:Int),Builtin.Slice.slicePlaces ((sIx n 0 lo:Nat):Int) ((sIx n n hi:Nat):Int) 1)) _ _ s
 rw [ad9]
 exact wpAny_pure h
theorem ag5 (xs:Array Value) (i k:Nat):((List.range k).filterMap fun (m:Nat)=>xs[((i:Int)+(m:Int)*1).toNat]?).toArray=((xs.toList.drop i).take k).toArray:=by
 have e:(fun (m:Nat)=>xs[((i:Int)+(m:Int)*1).toNat]?)=fun m=>xs[i+m]?:=by
  funext m
  have:((i:Int)+(m:Int)*1).toNat=i+m:=by omega
  rw [this]
 rw [e]
 have:=pick_run xs i k
 rw [List.filterMap_map] at this
 have e2:((fun x=>xs[x]?) ∘ fun x=>i+x)=fun m=>xs[i+m]?:=rfl
 rw [e2] at this
 rw [this]
theorem getItem_tuple_cut {t sl:Addr}{items:Array Value}{vl vu:Value}{lo hi:Option Int}{Q:Value->Shared->Prop} (ht:IsTup s.heap t items) (hs:s.heap.IsSliceOf sl vl vu .none) (pl:IsPart vl lo) (pu:IsPart vu hi)
  (hw:¬ (sIx items.size 0 lo=0/\sIx items.size items.size hi=items.size))
  (h:Q (.ref s.heap.objs.size) { s with heap:=s.heap.push { cls:= .type "tuple",data:= .seq ((items.toList.drop (sIx items.size 0 lo)).take (sIx items.size items.size hi - sIx items.size 0 lo)).toArray } })
  (hsz:items.size<=sizeLine):wpAny (model prog w) A (getItem (.ref t) (.ref sl)) Q E s:=by
 have htake:sizeOk (.seq ((items.toList.drop (sIx items.size 0 lo)).take (sIx items.size items.size hi - sIx items.size 0 lo)).toArray):=by
  show ((items.toList.drop (sIx items.size 0 lo)).take (sIx items.size items.size hi - sIx items.size 0 lo)).toArray.size<=sizeLine
  rw [List.size_toArray,List.length_take,List.length_drop,Array.length_toList]
  omega
 have hj:sIx items.size items.size hi<=items.size:=ak3 _ _ (Nat.le_refl _) hi
 obtain ⟨os,hos,hcs,hds⟩:=id hs
 have hTs:s.TypeIs (.ref sl) "slice":=⟨os,hos,hcs⟩
 unfold getItem
 try with_reducible refine wpAny_holding ?_
 first | refine wpAny_bind (wpAny_pure ?_) | skip
 refine wpAny_bind (wpAny_sequenceKey ht.typeIs (by decide) ?_)
 refine wpAny_bind (wpAny_callSpecial?_slot (name:=Str.ofString "__getitem__") ht.typeIs PyProof.Rows.slot_tuple_getitem
  (wpAny_call_entry PyProof.Rows.slot_tuple_getitem ht.typeIs entry_tuple_getitem ?_ (args_tuple_getitem _ _)))
 show wpAny _ _ (Builtin.Tuple.tupleItemsOf (.ref t) >>= _) _ _ s
 refine wpAny_bind (tupleItemsOf_ ht ?_)
 refine wpAny_bind (wpAny_typeOf hTs ?_)
 rw [if_pos (by decide)]
 refine wpAny_bind (sliceApplied_gen hs pl pu ?_)
 have hno:¬ ((((sIx items.size 0 lo:Nat):Int) == 0 && (1:Int) == 1 && (sIx items.size items.size hi - sIx items.size 0 lo) == items.size)=true):=by
  intro q
  rw [Bool.and_eq_true,Bool.and_eq_true] at q
  have q1:((sIx items.size 0 lo:Nat):Int)=0:=eq_of_beq q.1.1
  have q2:sIx items.size items.size hi - sIx items.size 0 lo=items.size:=eq_of_beq q.2
  exact hw ⟨by omega,by omega⟩
 show wpAny _ _ (if (((sIx items.size 0 lo:Nat):Int) == 0 && (1:Int) == 1 && (sIx items.size items.size hi - sIx items.size 0 lo) == items.size)=true then _ else _) _ _ s
 rw [if_neg hno,ag5]
 first
  | exact wpAny_bind (m:=Builtin.Tuple.tupleExact _) (wpAny_newObj_type (wpAny_pure ⟨_,rfl,wpAny_pure h⟩) htake)
  | exact wpAny_bind (m:=Builtin.Tuple.tupleExact _) (wpAny_newObj_type (wpAny_bind (wpAny_pure (wpAny_pure ⟨_,rfl,wpAny_pure h⟩))) htake)
  | exact wpAny_bind (wpAny_bind (m:=Builtin.Tuple.tupleExact _) (wpAny_newObj_type (wpAny_pure (wpAny_pure ⟨_,rfl,wpAny_pure h⟩)) htake))
  | exact wpAny_bind (wpAny_bind (m:=Builtin.Tuple.tupleExact _) (wpAny_newObj_type (wpAny_pure ⟨_,rfl,wpAny_pure h⟩) htake))
end
end HT
namespace L2
open PySem PySem.Spec PyProof.Rows
noncomputable abbrev TO:=St->Hp->(Option Int->Hp->Prop)->Prop
noncomputable def PO (X:Cx) (e:Option Expr) (t:TO):Prop:=
 ∀ (pins:List (Addr × Obj)) (s:Shared) (σ:St) (H:Hp) (Q:Option Int->Hp->Prop),Inv X pins σ H s->t σ H Q->
  wpAny (model X.prog X.w) X.A (evalPart e X.env) (fun u s'=>∃ o H',Inv X pins σ H' s'/\IsPart u o/\Q o H') X.xe s
noncomputable def ai6:TO:=fun _ H Q=>Q none H
noncomputable def amn (t:TE):TO:=fun σ H Q=>t σ H fun x H1=>∃ i,x= .int i/\Q (some i) H1
section
variable {X:Cx}{e:Expr}{te:TE}{lo hi:Option Expr}{tl th:TO}{pos p2:Pos}
theorem aeZ:PO X none ai6:=by
 intro pins s σ H Q I h
 rw [evalPart_none]
 exact wpAny_pure ⟨none,H,I,.none,h⟩
theorem ae0 (h:PE X e te):PO X (some e) (amn te):=by
 intro pins s σ H Q I hw
 rw [evalPart_some]
 refine thn (h pins s σ H _ I hw) fun u s1 ⟨x,H1,I1,r1,q1⟩=>?_
 obtain ⟨i,rfl,q⟩:=q1
 obtain ⟨t,rfl⟩:=r1
 exact ⟨some i,H1,I1,.int i t,q⟩
noncomputable def SlR (X:Cx) (r:V->Option Int->Option Int->Hp->VK->Prop):Prop:=
 ∀ (pins:List (Addr × Obj)) (s:Shared) (σ:St) (H:Hp) (x:V) (v vl vu:Value) (lo hi:Option Int) (sl:Addr) (Q:VK),Inv X pins σ H s->jJ x v->s.heap.IsSliceOf sl vl vu .none->IsPart vl lo->IsPart vu hi->r x lo hi H Q->
  ∃ T id,typeLookup (.type T) "__getitem__"=pure (some (.builtin id))/\s.TypeIs v T/\wpAny (model X.prog X.w) X.A (getItem v (.ref sl)) (EP X pins σ Q) X.xe s
theorem SlR.or {r r':V->Option Int->Option Int->Hp->VK->Prop} (h:SlR X r) (h':SlR X r'):SlR X (fun x lo hi H Q=>r x lo hi H Q ∨ r' x lo hi H Q):=by
 intro pins s σ H x v vl vu lo hi sl Q I rx hs pl pu q
 rcases q with q | q
 ·exact h pins s σ H x v vl vu lo hi sl Q I rx hs pl pu q
 ·exact h' pins s σ H x v vl vu lo hi sl Q I rx hs pl pu q
noncomputable def tSl (r:V->Option Int->Option Int->Hp->VK->Prop) (te:TE) (tl th:TO):TE:=fun σ H Q=>te σ H fun x H1=>tl σ H1 fun l H2=>th σ H2 fun u H3=>r x l u H3 Q
theorem ac4 {r:V->Option Int->Option Int->Hp->VK->Prop} (hr:SlR X r) (he:PE X e te) (hl:PO X lo tl) (hu:PO X hi th):PE X (.Subscript e (.Slice lo hi none p2) pos) (tSl r te tl th):=by
 intro pins s σ H Q I h
 refine Subscript_ (thn (he pins s σ H _ I h) fun v s1 ⟨x,H1,I1,r1,q1⟩=>?_)
 refine wpAny_Slice (thn (hl pins s1 σ H1 _ I1 q1) fun vl s2 ⟨l,H2,I2,pl,q2⟩=>thn (hu pins s2 σ H2 _ I2 q2) fun vu s3 ⟨u,H3,I3,pu,q3⟩=>?_)
 rw [evalPart_none]
 refine wpAny_pure ?_
 have I4:Inv X pins σ H3 { s3 with heap:=s3.heap.push { cls:= .type "slice",data:= .fields #[vl,vu,.none] } }:=I3.kept (t':=s3.toks) fun b ob q=>Heap.get?_push_of_some _ q
 obtain ⟨T,id,hT,ht,hg⟩:=hr pins { s3 with heap:=s3.heap.push { cls:= .type "slice",data:= .fields #[vl,vu,.none] } } σ H3 x v vl vu l u s3.heap.objs.size Q I4 r1 (Heap.IsSliceOf.new ..) pl pu q3
 show wpAny (model X.prog X.w) X.A (subscriptTail e (.Slice lo hi none p2) v (.ref s3.heap.objs.size)) (EP X pins σ Q) X.xe { s3 with heap:=s3.heap.push { cls:= .type "slice",data:= .fields #[vl,vu,.none] } }
 exact tail_any (ops:=[.ref s3.heap.objs.size,v]) ht hT hg (by with_unfolding_all rfl)
noncomputable def aca (xs:List V) (lo hi:Option Int):List V:=(xs.drop (HT.sIx xs.length 0 lo)).take (HT.sIx xs.length xs.length hi - HT.sIx xs.length 0 lo)
theorem ac5 (xs:List V) (lo hi:Option Int):(aca xs lo hi).length<=xs.length:=by
 unfold aca
 rw [List.length_take,List.length_drop]
 omega
noncomputable def amo (K:PySem.W.Frag):V->Option Int->Option Int->Hp->VK->Prop:=fun x lo hi H Q=>∃ a xs,x= .ref a/\SqT K H a xs/\
 ¬ (HT.sIx xs.length 0 lo=0/\HT.sIx xs.length xs.length hi=xs.length)/\∀ p,H p=none->Q (.ref p) (upd H p (.tup (aca xs lo hi)))
theorem ag6:SlR X (amo X.K):=by
 intro pins s σ H x v vl vu lo hi sl Q I rx hs pl pu h
 obtain ⟨a,xs,rfl,hx,hw,q⟩:=h
 cases rx
 obtain ⟨its,r,ht,hz⟩:=I.tuple hx
 have hlen:its.toArray.size=xs.length:=by rw [List.size_toArray]; exact r.length.symm
 refine ⟨"tuple",_,PyProof.Rows.slot_tuple_getitem.lookup,ht.typeIs,?_⟩
 refine HT.getItem_tuple_cut ht hs pl pu (by rw [hlen]; exact hw) ?_ (by rw [hlen]; exact hz)
 rw [hlen]
 refine ⟨.ref s.heap.objs.size,_,I.laid (t':=s.toks) (o:= .tup (aca xs lo hi)) (fun b ob q=>Heap.get?_push_of_some _ q) (Nat.le_refl _) ?_,rfl,q _ (I.hok.fresh (Nat.le_refl _))⟩
 exact ⟨Nat.le_trans (ac5 xs lo hi) hz,_,(r.drop (HT.sIx xs.length 0 lo)).take (HT.sIx xs.length xs.length hi - HT.sIx xs.length 0 lo),IsTup.new _ _⟩
noncomputable def amp (K:PySem.W.Frag):R2:=fun x y H Q=>∃ a b xs ys,x= .ref a/\y= .ref b/\SqT K H a xs/\SqT K H b ys/\xs ≠ []/\xs.length+ys.length<=sizeLine/\
 (ys=[]->Q (.ref a) H)/\(ys ≠ []->∀ p,H p=none->Q (.ref p) (upd H p (.tup (xs++ys))))
theorem jF.nil_iff {xs:List V}{us:List Value} (r:jF xs us):us=[] ↔ xs=[]:=by
 cases r with
 | nil=>simp
 | cons _ _=>simp
theorem ai7:OpR X (binaryOp .Add) (amp X.K):=by
 intro pins s σ H x y v u Q I rx ry h
 obtain ⟨a,b,xs,ys,rfl,rfl,ha,hb,hx,hz,q1,q2⟩:=h
 cases rx
 cases ry
 obtain ⟨its,r1,p1,_⟩:=I.tuple ha
 obtain ⟨its2,r2,p2,_⟩:=I.tuple hb
 refine HT.cat_tup p1 p2 (fun z=>hx (r1.nil_iff.mp z)) (fun z=>⟨.ref a,H,I,rfl,q1 (r2.nil_iff.mp z)⟩) (fun z=>?_) (by rw [←r1.length,←r2.length]; exact hz)
 refine ⟨.ref s.heap.objs.size,_,I.laid (t':=s.toks) (o:= .tup (xs++ys)) (fun b ob q=>Heap.get?_push_of_some _ q) (Nat.le_refl _) ?_,rfl,q2 (fun w=>z (r2.nil_iff.mpr w)) _ (I.hok.fresh (Nat.le_refl _))⟩
 exact ⟨by rw [List.length_append]; exact hz,_,r1.append r2,IsTup.new _ _⟩
end
end L2
namespace L2
open PySem PySem.Spec PyProof.Rows
noncomputable def ixN (n:Nat) (i:Int):Option Nat:=if 0<=i then (if i < n then some i.toNat else none) else if -(n:Int)<=i then some (i+n).toNat else none
noncomputable def atI {α:Type} (xs:List α) (i:Int):Option α:=(ixN xs.length i).bind fun j=>xs[j]?
theorem ai8 {n:Nat}{i:Int}{j:Nat} (h:ixN n i=some j):seqIndex? i n=some j/\j < n/\-(n:Int)<=i/\i < n:=by
 unfold ixN at h
 by_cases h0:0<=i
 ·rw [if_pos h0] at h
  by_cases h1:i < n
  ·rw [if_pos h1] at h
   have e:i.toNat=j:=Option.some.inj h
   exact ⟨by rw [seqIndex_of h0 h1,e],by omega,by omega,h1⟩
  ·rw [if_neg h1] at h; cases h
 ·rw [if_neg h0] at h
  by_cases h1:-(n:Int)<=i
  ·rw [if_pos h1] at h
   have e:(i+n).toNat=j:=Option.some.inj h
   exact ⟨by rw [seqIndex_neg (by omega) h1,e],by omega,h1,by omega⟩
  ·rw [if_neg h1] at h; cases h
theorem ae1 {α:Type}{xs:List α}{i:Int}{v:α} (h:atI xs i=some v):∃ j,seqIndex? i xs.length=some j/\xs[j]?=some v/\j < xs.length/\-(xs.length:Int)<=i/\i < xs.length:=by
 unfold atI at h
 cases e:ixN xs.length i with
 | none=>rw [e] at h; cases h
 | some j=>
  rw [e] at h
  obtain ⟨h1,h2,h3,h4⟩:=ai8 e
  exact ⟨j,h1,h,h2,h3,h4⟩
noncomputable def ae2 (b:Expr):Prop:=∀ o i,subscripted b false o i=operate [o,i] (getItem o i)
noncomputable def IxR (X:Cx) (r:R2):Prop:=
 ∀ (value slice:Expr) (pins:List (Addr × Obj)) (s:Shared) (σ:St) (H:Hp) (x y:V) (v u:Value) (Q:VK),Inv X pins σ H s->jJ x v->jJ y u->r x y H Q->
  subscripted slice false v u=operate [v,u] (getItem v u)->wpAny (model X.prog X.w) X.A (subscriptTail value slice v u) (EP X pins σ Q) X.xe s
noncomputable def MtR (X:Cx) (id:String) (r:V->List V->Hp->VK->Prop):Prop:=
 ∀ (pins:List (Addr × Obj)) (s:Shared) (σ:St) (H:Hp) (x:V) (xs:List V) (v:Value) (us:List Value) (Q:VK),Inv X pins σ H s->jJ x v->jF xs us->r x xs H Q->
  wpAny (model X.prog X.w) X.A (call (.builtin id) (v::us)) (EP X pins σ Q) X.xe s
section
variable {X:Cx}{a b:Expr}{ta tb:TE}{pos:Pos}
theorem IxR.or {r r':R2} (h:IxR X r) (h':IxR X r'):IxR X (fun x y H Q=>r x y H Q ∨ r' x y H Q):=by
 intro value slice pins s σ H x y v u Q I rx ry q hs
 rcases q with q | q
 ·exact h value slice pins s σ H x y v u Q I rx ry q hs
 ·exact h' value slice pins s σ H x y v u Q I rx ry q hs
theorem MtR.or {id:String}{r r':V->List V->Hp->VK->Prop} (h:MtR X id r) (h':MtR X id r'):MtR X id (fun x xs H Q=>r x xs H Q ∨ r' x xs H Q):=by
 intro pins s σ H x xs v us Q I rx rs q
 rcases q with q | q
 ·exact h pins s σ H x xs v us Q I rx rs q
 ·exact h' pins s σ H x xs v us Q I rx rs q
theorem amq {r:R2} (hr:IxR X r) (ha:PE X a ta) (hb:PE X b tb) (hs:ae2 b):PE X (.Subscript a b pos) (tOp r ta tb):=by
 intro pins s σ H Q I h
 exact Subscript_ (akS ha hb I h fun v u s2 x y H2 I2 rx ry q=>hr a b pins s2 σ H2 x y v u Q I2 rx ry q (hs _ _))
noncomputable def anm (K:PySem.W.Frag):R2:=fun x y H Q=>∃ p xs i v,x= .ref p/\y= .int i/\SqL K H p xs/\atI xs i=some v/\Q v H
noncomputable def ann (K:PySem.W.Frag):R2:=fun x y H Q=>∃ p xs i v,x= .ref p/\y= .int i/\SqT K H p xs/\atI xs i=some v/\Q v H
theorem ai9:IxR X (anm X.K):=by
 intro value slice pins s σ H x y v u Q I rx ry h hs
 obtain ⟨p,xs,i,z,rfl,rfl,hq,he,q⟩:=h
 cases rx
 obtain ⟨t,rfl⟩:=ry
 obtain ⟨its,r,pl,hz⟩:=I.list hq
 obtain ⟨j,h1,h2,h3,h4,h5⟩:=ae1 he
 obtain ⟨w,ew,rw'⟩:=r.get h2
 have hl:=r.length
 have hn:=ad5
 have fin:EP X pins σ Q w s:=⟨z,H,I,rw',q⟩
 by_cases h0:0<=i
 ·have hj:i.toNat=j:=by
   rw [seqIndex_of h0 h5] at h1
   exact Option.some.inj h1
  exact item_listR pl.isList h0 (by omega) (by rw [hj]; simpa using ew) fin hs
 ·have hj:(i+(its.toArray.size:Int)).toNat=j:=by
   rw [seqIndex_neg (by omega) h4] at h1
   rw [List.size_toArray,←hl]
   exact Option.some.inj h1
  exact subscriptTail_builtinR (x:=w) pl.isList.typeIs slot_list_getitem.lookup
   (wpAny_getItem_list_neg (Q:=fun r s'=>r=w/\EP X pins σ Q r s') pl.isList (by omega) (by rw [List.size_toArray] <;> omega) (by omega) (by rw [hj]; simpa using ew) ⟨rfl,fin⟩) hs
theorem ak4:IxR X (ann X.K):=by
 intro value slice pins s σ H x y v u Q I rx ry h hs
 obtain ⟨p,xs,i,z,rfl,rfl,hq,he,q⟩:=h
 cases rx
 obtain ⟨t,rfl⟩:=ry
 obtain ⟨its,r,pl,hz⟩:=I.tuple hq
 obtain ⟨j,h1,h2,h3,h4,h5⟩:=ae1 he
 obtain ⟨w,ew,rw'⟩:=r.get h2
 have hl:=r.length
 have hn:=ad5
 have fin:EP X pins σ Q w s:=⟨z,H,I,rw',q⟩
 exact subscriptTail_builtinR (x:=w) pl.typeIs slot_tuple_getitem.lookup
  (getItem_tuple (j:=j) (Q:=fun r s'=>r=w/\EP X pins σ Q r s') pl (by omega) (by omega) (by rw [List.size_toArray,←hl]; exact h1) (by simpa using ew) ⟨rfl,fin⟩) hs
theorem Inv.lst {pins:List (Addr × Obj)}{σ:St}{H:Hp}{s:Shared}{p:Addr}{xs:List V} (I:Inv X pins σ H s) (h:H p=some (.lst xs)):
  ∃ (its:List Value) (n:Nat),jF xs its/\s.heap.get? p=some { cls:= .type "list",data:= .seq its.toArray n }/\xs.length<=sizeLine:=by
 obtain ⟨z,its,n,r,e⟩:=I.hok p _ h
 exact ⟨its,n,r,e,z⟩
theorem acb:zC X (.builtin "len") (fun xs H Q=>∃ p ys,xs=[.ref p]/\(SqL X.K H p ys ∨ SqT X.K H p ys)/\Q (.int ys.length) H):=by
 intro pins s σ H xs us Q I r h
 obtain ⟨p,ys,rfl,hq,q⟩:=h
 obtain ⟨u,rfl,rx⟩:=ac2 r
 cases rx
 have hn:=ad5
 rcases hq with hq | hq
 ·obtain ⟨its,r',pl,hz⟩:=I.list hq
  have hlen:=r'.length
  exact Calls.call_len_list pl.isList (by simp only [List.size_toArray] <;> omega) ⟨.int ys.length,H,I.tok _,⟨s.toks+1,by rw [List.size_toArray,hlen]⟩,q⟩
 ·obtain ⟨its,r',pl,hz⟩:=I.tuple hq
  have hlen:=r'.length
  exact len_tuple pl (by simp only [List.size_toArray] <;> omega) ⟨.int ys.length,H,I.tok _,⟨s.toks+1,by rw [List.size_toArray,hlen]⟩,q⟩
theorem zC.or {f:Value}{r r':List V->Hp->VK->Prop} (h:zC X f r) (h':zC X f r'):zC X f (fun xs H Q=>r xs H Q ∨ r' xs H Q):=by
 intro pins s σ H xs us Q I rs q
 rcases q with q | q
 ·exact h pins s σ H xs us Q I rs q
 ·exact h' pins s σ H xs us Q I rs q
theorem aa9:zC X (.type "tuple") (fun xs H Q=>∃ p ys,xs=[.ref p]/\((SqL X.K H p ys/\∀ l,H l=none->Q (.ref l) (upd H l (.tup ys))) ∨ (SqT X.K H p ys/\Q (.ref p) H))):=by
 intro pins s σ H xs us Q I r h
 obtain ⟨p,ys,rfl,h⟩:=h
 obtain ⟨u,rfl,rx⟩:=ac2 r
 cases rx
 rcases h with ⟨hq,q⟩ | ⟨hq,q⟩
 ·obtain ⟨its,r',pl,hz⟩:=I.list hq
  have hlen:=r'.length
  refine call_tuple_list pl.isList (fun h' kp=>?_) (by simp only [List.size_toArray] <;> omega)
  have I1:Inv X pins σ H { s with heap:=h' }:=I.kept (t':=s.toks) kp
  have I2:Inv X pins σ (upd H h'.objs.size (.tup ys)) { s with heap:=h'.push { cls:= .type "tuple",data:= .seq its.toArray } }:=
   I1.laid (t':=s.toks) (fun b o e=>Heap.get?_push_of_some _ e) (Nat.le_refl _) (show qt X.prog X.w _ _ _ (.tup ys) from ⟨hz,its,r',IsTup.new _ _⟩)
  exact ⟨.ref h'.objs.size,_,I2,rfl,q _ (I1.hok.fresh (Nat.le_refl _))⟩
 ·obtain ⟨its,r',pl,hz⟩:=I.tuple hq
  exact call_tuple_same pl ⟨.ref p,H,I,rfl,q⟩
noncomputable def tyV (K:PySem.W.Frag) (T:String) (x:V) (H:Hp):Prop:=match x with
 | .str _=>T="str"
 | .int _=>T="int"
 | .ref p=>(T="list"/\∃ xs,SqL K H p xs) ∨ (T="tuple"/\∃ o,K.lookup p=some o/\o.cls= .type "tuple"/\o.dict=none) ∨
   (T="dict"/\((∃ kvs,H p=some (.dK kvs)) ∨ ∃ kvs,H p=some (.dT kvs))) ∨ (T="set"/\∃ S n,H p=some (.set S n))
 | _=>False
theorem ak5 {pins:List (Addr × Obj)}{σ:St}{H:Hp}{s:Shared}{T:String}{x:V}{v:Value} (I:Inv X pins σ H s) (r:jJ x v) (ty:tyV X.K T x H):
  s.TypeIs v T/\∀ a,v= .ref a->∃ ob,s.heap.get? a=some ob/\ob.dict=none:=by
 cases x with
 | str z=>
  obtain ⟨t,rfl⟩:=r
  cases (show T="str" from ty)
  exact ⟨typeIs_str s z t,fun _ e=>nomatch e⟩
 | int i=>
  obtain ⟨t,rfl⟩:=r
  cases (show T="int" from ty)
  exact ⟨typeIs_int s i t,fun _ e=>nomatch e⟩
 | ref p=>
  cases r
  rcases ty with ⟨rfl,xs,hq⟩ | ⟨rfl,o,hk,hc,hd⟩ | ⟨rfl,hk⟩ | ⟨rfl,S,n,hk⟩
  ·obtain ⟨its,_,pl,_⟩:=I.list hq
   refine ⟨pl.isList.typeIs,fun a e=>?_⟩
   cases e
   obtain ⟨o,n,e,c,hd,_⟩:=pl
   exact ⟨o,e,hd⟩
  ·refine ⟨⟨o,I.kIn p o hk,hc⟩,fun a e=>?_⟩
   cases e
   exact ⟨o,I.kIn _ o hk,hd⟩
  ·have z:∃ o,s.heap.get? p=some o/\o.ExactDict:=by
    rcases hk with ⟨kvs,hk⟩ | ⟨kvs,hk⟩
    ·obtain ⟨_,_,_,_,o,_,_,e,ex,_⟩:=I.hok p _ hk
     exact ⟨o,e,ex⟩
    ·obtain ⟨_,_,_,_,o,_,_,e,ex,_⟩:=I.hok p _ hk
     exact ⟨o,e,ex⟩
   obtain ⟨o,e,ex⟩:=z
   refine ⟨⟨o,e,ex.1⟩,fun a e2=>?_⟩
   cases e2
   exact ⟨o,e,ex.2.1⟩
  ·obtain ⟨o,_,_,_,e,ex,_⟩:=I.hok p _ hk
   refine ⟨⟨o,e,ex.1⟩,fun a e2=>?_⟩
   cases e2
   exact ⟨o,e,ex.2.1⟩
 | _=>exact False.elim ty
noncomputable def tBM (K:PySem.W.Frag) (T:String) (r:V->List V->Hp->VK->Prop) (to:TE) (t:TA):TE:=fun σ H Q=>to σ H fun x H1=>tyV K T x H1/\t σ H1 fun xs H2=>r x xs H2 Q
variable {o e:Expr}{es:List Expr}{to:TE}{t:TA}{name:Str}{apos cpos:Pos}{T id:String}{r:V->List V->Hp->VK->Prop}
theorem ag7 (pa:PlainAttrs T) (slot:Slot T name id) (hty:typeOf (.builtin id)=pure (.type "method_descriptor")) (hm:MtR X id r) (ho:PE X o to) (ha:PA X (e::es) t)
  (hbase:attributeBase o name X.env (eval o X.env)=eval o X.env:=by rfl)
  (hfew:((backTo cpos (starEach (e::es) X.env)).all (fun x=>!x.1) && (backToKw cpos (keywordEach [] X.env)).all (fun x=>x.1.isSome)
   && decide ((e::es).length+([]:List Keyword).length+(if ([]:List Keyword).isEmpty then 0 else 1) < 30))=true:=by rfl)
  (hline:(apos.endLine == cpos.line)=true:=by rfl) (hs:starEach (e::es) X.env=(false,eval e X.env)::starEach es X.env:=by rfl) (hplain:(backTo cpos (starEach es X.env)).any (·.1)=false:=by rfl):
  PE X (.Call (.Attribute o name apos) (e::es) [] cpos) (tBM X.K T r to t):=by
 intro pins s σ H Q I h
 refine wpAny_Call_method_late hbase hfew hline rfl (thn (ho pins s σ H _ I h) fun v s1 ⟨x,H1,I1,r1,ty,q1⟩=>?_)
 obtain ⟨h1,h2⟩:=ak5 I1 r1 ty
 refine ⟨T,id,pa,slot,hty,h1,h2,?_⟩
 have hA:=ha cpos pins s1 σ H1 _ I1 q1
 rw [hs] at hA ⊢
 refine Calls.callWith_builtin (by show (false || (backTo cpos (starEach es X.env)).any (·.1))=false; rw [hplain] <;> rfl) (Calls.evalArgs_plain ?_)
 exact thn hA fun us s2 ⟨vs,H2,I2,r2,q2⟩=>hm pins s2 σ H2 x vs v us Q I2 r1 r2 q2
end
end L2
namespace L2
open PySem PySem.Spec PyProof.Rows
noncomputable def MtM (X:Cx) (id:String) (r:V->List V->Hp->VK->Prop):Prop:=
 ∀ (pins:List (Addr × Obj)) (s:Shared) (σ:St) (H:Hp) (x:V) (xs:List V) (v:Value) (us:List Value) (Q:VK),Inv X pins σ H s->jJ x v->jF xs us->r x xs H Q->
  wpAny (model X.prog X.w) X.A (call (.builtin id) (v::us)) (EP X pins σ Q) X.xe s
theorem jF.one:∀ {x:V}{us:List Value},jF [x] us->∃ u,us=[u]/\jJ x u
 | _,_,.cons r .nil=>⟨_,rfl,r⟩
theorem jF.two:∀ {x y:V}{us:List Value},jF [x,y] us->∃ u v,us=[u,v]/\jJ x u/\jJ y v
 | _,_,_,.cons r (.cons q .nil)=>⟨_,_,rfl,r,q⟩
theorem jF.zero:∀ {us:List Value},jF [] us->us=[]
 | _,.nil=>rfl
theorem jF.rep {xs:List V}{us:List Value} (h:jF xs us):∀ k:Nat,jF (List.replicate k xs).flatten (List.replicate k us).flatten
 | 0=> .nil
 | k+1=>by
  rw [List.replicate_succ,List.replicate_succ,List.flatten_cons,List.flatten_cons]
  exact jF.append h (jF.rep h k)
theorem Zm (its:List Value):∀ (k:Nat) (acc:List Value),
  List.foldl (fun x1 x2=>x1++x2) acc.toArray (List.replicate k its.toArray)=(acc++(List.replicate k its).flatten).toArray
 | 0,acc=>by simp
 | k+1,acc=>by
  have e:acc.toArray++its.toArray=(acc++its).toArray:=by simp
  have e2:(acc++its)++(List.replicate k its).flatten=acc++(List.replicate (k+1) its).flatten:=by
   rw [List.replicate_succ,List.flatten_cons,List.append_assoc]
  rw [←e2,←Zm its k (acc++its),←e,List.replicate_succ,List.foldl_cons]
section
variable {X:Cx}{pins:List (Addr × Obj)}{σ:St}{H:Hp}{s:Shared}{l b:Addr}{xs ys zs:List V}
theorem Inv.lset {its its':List Value}{n:Nat}{f:Array Value->Array Value}{t':Nat} (I:Inv X pins σ H s) (hH:H l=some (.lst xs))
  (e:s.heap.get? l=some { cls:= .type "list",data:= .seq its.toArray n }) (hf:f its.toArray=its'.toArray) (hv:jF ys its') (hz:ys.length<=sizeLine):
  Inv X pins σ (upd H l (.lst ys)) { s with heap:=s.heap.update l (Obj.mapSeq f),toks:=t' }:=by
 have q:=PySem.IsL.update e f
 rw [hf] at q
 refine I.write (x:=l) (e:=l) (by rw [hH]; exact trivial) (.inl rfl) (fun b' u hb hu=>(Heap.get?_update_other s.heap (Obj.mapSeq f) (Ne.symm hb)).trans hu) ⟨_,q⟩ ?_
 exact ⟨hz,its',_,hv,q⟩
theorem Inv.lnew {its:List Value}{t':Nat} (I:Inv X pins σ H s) (hv:jF ys its) (hz:ys.length<=sizeLine):
  Inv X pins σ (upd H s.heap.objs.size (.lst ys)) { s with heap:=s.heap.push { cls:= .type "list",data:= .seq its.toArray },toks:=t' }:=
 I.laid (fun _ _ q=>Heap.get?_push_of_some _ q) (Nat.le_refl _) ⟨hz,its,0,hv,Heap.get?_push_size _ rfl⟩
theorem Inv.fresh (I:Inv X pins σ H s):H s.heap.objs.size=none:=I.hok.fresh (Nat.le_refl _)
theorem Inv.lstM (I:Inv X pins σ H s) (hH:H l=some (.lst xs)):xs.length<=sizeLine/\∃ (its:List Value) (n:Nat),jF xs its/\xs.length=its.length/\s.heap.get? l=some { cls:= .type "list",data:= .seq its.toArray n }:=by
 obtain ⟨z,its,n,r,e⟩:=I.hok l _ hH
 exact ⟨z,its,n,r,r.length,e⟩
theorem ac6 {n:Nat} (h:n<=sizeLine):Builtin.List.listTooLong n=false:=by
 unfold Builtin.List.listTooLong
 exact decide_eq_false (by omega)
end
section
variable {X:Cx}
noncomputable def aja:V->List V->Hp->VK->Prop:=fun x vs H Q=>∃ l xs y,x= .ref l/\vs=[y]/\H l=some (.lst xs)/\xs.length < sizeLine/\Q .non (upd H l (.lst (xs++[y])))
theorem abv:MtM X "list.append" aja:=by
 intro pins s σ H x vs v us Q I rx rv h
 obtain ⟨l,xs,y,rfl,rfl,hH,hz,q⟩:=h
 cases rx
 obtain ⟨u,rfl,ru⟩:=rv.one
 obtain ⟨z,its,n,r,hl,e⟩:=I.lstM hH
 refine call_meets F.slot_list_append ⟨_,e,rfl⟩ F.entry_list_append (F.args_list_append_2 _ _) (PySem.list_append l its.toArray n u (by rw [List.size_toArray]; omega)) ⟨e,?_⟩
 refine ⟨.non,_,I.lset (its':=its++[u]) hH e (by simp) (r.append (.cons ru .nil)) ?_,rfl,q⟩
 rw [List.length_append,List.length_singleton]
 omega
noncomputable def ajb:V->List V->Hp->VK->Prop:=fun x vs H Q=>∃ l b xs zs,x= .ref l/\vs=[.ref b]/\H l=some (.lst xs)/\H b=some (.lst zs)/\xs.length+zs.length<=sizeLine/\Q .non (upd H l (.lst (xs++zs)))
theorem afW:MtM X "list.extend" ajb:=by
 intro pins s σ H x vs v us Q I rx rv h
 obtain ⟨l,b,xs,zs,rfl,rfl,hH,hB,hz,q⟩:=h
 cases rx
 obtain ⟨u,rfl,ru⟩:=rv.one
 cases ru
 obtain ⟨z,its,n,r,hl,e⟩:=I.lstM hH
 obtain ⟨z2,its2,n2,r2,hl2,e2⟩:=I.lstM hB
 have hsz:its.toArray.size+its2.toArray.size<=sizeLine:=by rw [List.size_toArray,List.size_toArray]; omega
 have hlong:¬ (!its.toArray.isEmpty && Builtin.List.listTooLong (its.toArray.size+its2.toArray.size))=true:=by
  rw [ac6 hsz,Bool.and_false]
  exact Bool.false_ne_true
 refine call_meets F.slot_list_extend ⟨_,e,rfl⟩ F.entry_list_extend (F.args_list_extend_2 _ _)
  (AutoSeq1.list_extend_list_list_0 l its.toArray n b its2.toArray n2 hlong (by rw [List.size_toArray]; omega) (by omega)) ⟨e,e2,?_⟩
 refine ⟨.non,_,I.lset (its':=its++its2) hH e (by simp) (r.append r2) ?_,rfl,q⟩
 rw [List.length_append]
 omega
noncomputable def ano:R2:=fun x y H Q=>∃ l b xs zs,x= .ref l/\y= .ref b/\H l=some (.lst xs)/\H b=some (.lst zs)/\xs.length+zs.length<=sizeLine/\∀ p,H p=none->Q (.ref p) (upd H p (.lst (xs++zs)))
theorem ak6:OpR X (binaryOp .Add) ano:=by
 intro pins s σ H x y v u Q I rx ry h
 obtain ⟨l,b,xs,zs,rfl,rfl,hH,hB,hz,q⟩:=h
 cases rx
 cases ry
 obtain ⟨z,its,n,r,hl,e⟩:=I.lstM hH
 obtain ⟨z2,its2,n2,r2,hl2,e2⟩:=I.lstM hB
 refine PySem.P.add_list e e2 ?_ (by rw [List.size_toArray,List.size_toArray]; omega)
 have ea:its.toArray++its2.toArray=(its++its2).toArray:=by simp
 rw [ea]
 exact ⟨.ref _,_,I.lnew (t':=s.toks) (r.append r2) (by rw [List.length_append]; omega),rfl,q _ I.fresh⟩
noncomputable def anp:R2:=fun x y H Q=>∃ l k xs,x= .ref l/\y= .int k/\H l=some (.lst xs)/\-(2 ^ 63)<=k/\k < 2 ^ 63/\xs.length*k.toNat<=sizeLine/\
 ∀ p,H p=none->Q (.ref p) (upd H p (.lst (List.replicate k.toNat xs).flatten))
theorem ae3 {α:Type} (xs:List α) (k:Nat):(List.replicate k xs).flatten.length=k*xs.length:=by
 induction k with
 | zero=>simp
 | succ k ih=>rw [List.replicate_succ,List.flatten_cons,List.length_append,ih,Nat.succ_mul,Nat.add_comm]
theorem ag8:OpR X (binaryOp .Mult) anp:=by
 intro pins s σ H x y v u Q I rx ry h
 obtain ⟨l,k,xs,rfl,rfl,hH,h1,h2,hz,q⟩:=h
 cases rx
 obtain ⟨t,rfl⟩:=ry
 obtain ⟨z,its,n,r,hl,e⟩:=I.lstM hH
 have hlen:its.toArray.size*k.toNat<=sizeLine:=by rw [List.size_toArray,←hl]; exact hz
 have hcap:¬ its.toArray.size*k.toNat > (2 ^ 63 - 1) / 8:=by
  have:(sizeLine:Nat)<=(2 ^ 63 - 1) / 8:=by decide
  omega
 have hfit:¬ (!Builtin.List.listFitsIndex k)=true:=by
  rw [fitsIndex_both h1 h2]
  exact Bool.false_ne_true
 have hlong:¬ Builtin.List.listTooLong (its.toArray.size*k.toNat)=true:=by
  rw [ac6 hlen]
  exact Bool.false_ne_true
 have hnew:List.foldl (fun x1 x2=>x1++x2) #[] (List.replicate (if its.toArray.isEmpty=true then 0 else k.toNat) its.toArray)=(List.replicate k.toNat its).flatten.toArray:=by
  have f0:∀ m:Nat,List.foldl (fun x1 x2=>x1++x2) #[] (List.replicate m its.toArray)=(List.replicate m its).flatten.toArray:=fun m=>by
   have:=Zm its m []
   rw [List.nil_append] at this
   exact this
  rw [f0]
  cases its with
  | nil=>simp
  | cons a r'=>rw [if_neg (by simp)]
 refine wpAny_binaryOp_repeat_ref (T:="list") (U:="int") (by decide) ⟨_,e,rfl⟩ (fun s'=>typeIs_int s' k t) noFill_list_mul F.fills_int_mul F.slot_int_rmul repeat_list F.slot_int_index.lookup
  (call_meets F.slot_int_rmul (typeIs_int s k t) F.entry_int_rmul (F.args_int_rmul_2 _ _) (int___rmul___int_list k t l its.toArray n)
   ⟨e,rfl,⟨_,e,rfl⟩,call_meets F.slot_list_mul ⟨_,e,rfl⟩ F.entry_list_mul (F.args_list_mul_2 _ _) (AutoListH.list___mul___list_int_3 l its.toArray n k t hfit hcap hlong) ⟨e,?_⟩⟩)
 rw [hnew]
 exact ⟨.ref _,_,I.lnew (t':=s.toks) (r.rep k.toNat) (by rw [ae3,Nat.mul_comm]; exact hz),rfl,q _ I.fresh⟩
end
section
variable {prog:Program}{w:World}{A:Around}{E:Value->Shared->Prop}{s:Shared}
set_option maxRecDepth 100000 in
end
section
variable {X:Cx}
end
end L2
namespace Att
open PySem PySem.W PySem.Calls PyProof.Rows
theorem ZX {P:Params}{h:Heap}:∀ (ns:List Int) (vs:List Value),WellAll P h vs (ns.map WData.int)->IntsAre vs ns:=by
 intro ns
 induction ns with
 | nil=>
  intro vs w
  rw [List.map_nil] at w
  cases w
  exact .nil
 | cons n ns ih=>
  intro vs w
  rw [List.map_cons] at w
  cases w with
  | cons a b=>
   cases a
   exact .cons _ _ (ih _ b)
theorem afX {l:OpenLaw}{n:Nat} (hn:l.most=some n) {P:Params}{h:Heap}{args:List WData}{vals:List Value}
  (hpre:l.row.toRowW.claim.pre args=true) (hwl:WellAll P h vals args):
  ∃ a vs ns,vals=[Value.ref a]/\args=[WData.list (ns.map WData.int)]/\h.get? a=some { cls:= .type "list",data:= .seq vs.toArray }/\IntsAre vs ns/\ns.length<=n:=by
 have hsh:WShape.hasAll [] args [.list .int]=true:=(pre_splitW hpre).1
 have hc:l.pre.holds [] { args:=args }=true:=(pre_splitW hpre).2
 obtain ⟨d,r,rfl,h1,h2⟩:=hasAllW_cons hsh
 obtain rfl:=hasAllW_nil h2
 obtain ⟨xs,rfl,h3⟩:=hasW_list h1
 obtain ⟨ns,rfl⟩:=items_int h3
 have hlen:ns.length<=n:=by
  unfold OpenLaw.pre at hc
  have h4:(WTm.not (.lt (.lit (.int (n:Int))) (.len (.arg 0)))).holds [] { args:=[.list (ns.map .int)] }=true:=by
   have h4:=(holds_andW hc).1
   rw [hn] at h4
   exact h4
  have h5:=condW_of h4 (w_not (w_lt w_lit (w_len_list (w_arg rfl))))
  rw [List.length_map] at h5
  refine Nat.le_of_not_lt fun q=>?_
  have q':(n:Int) < ((ns.length:Nat):Int):=by omega
  first
   | (rw [decide_eq_true q'] at h5; exact absurd h5 (by decide))
   | (simp at h5; omega)
 cases hwl with
 | cons w1 w2=>
  cases w2
  cases w1 with
  | list ho hall=>exact ⟨_,_,ns,rfl,rfl,ho,ZX ns _ hall,hlen⟩
theorem afY (l:OpenLaw) (args:List WData):l.row.toRowW.claim.post args (.bool true) args=true:=
 postW_of (r:=l.row.toRowW) (X:=(true == true))
  (show WShape.has [] (.bool true) .bool=true by first | rfl | decide | simp [WShape.has,WShape.arms,WShape.armsAll])
  (show (WTm.eq .res (.lit (.bool true))).value [] { args:=args,res:=some (.bool true),after:=args }=some (.bool (true == true)) from w_eq_bool (w_res rfl) w_lit) rfl
theorem attach_call {l:OpenLaw}{n:Nat}{q:Program}{loose:List Str}{XP:(Str->Option Value)->Heap->Prop}{YP:World->Heap->Prop}{d:DefRec}
  (hn:l.most=some n) (hdf:d.params.defaults=[])
  (call:∀ (w:World) (s₀ s₁:Shared) (mg mb:Str->Option Value) (fa:Addr) (o:Obj) (pm cd doc:Value) (a:Addr) (vs:List Value) (ns:List Int),
   Ground q loose [] XP w s₀ mg mb s₁.heap->YP w s₁.heap->
   s₁.heap.get? fa=some o->o.data= .func (docDef d.name d.params d.body d.scope pm cd doc)->s₁.heap.CodeRec cd d.name->mg d.name=some (.ref fa)->
   s₁.heap.get? a=some { cls:= .type "list",data:= .seq vs.toArray }->IntsAre vs ns->ns.length<=n->s₁.gens=#[]->
   codeAny (model l.prog w) callerA (.call (.ref fa) ⟨[.ref a],[]⟩) (fun r s'=>r= .ok (.ret (.bool true))/\OldK s₁.heap s'.heap/\s'.os=s₁.os/\AllBare s'.gens) s₁):
  WalkO q loose XP YP l.row.toRowW d [] (fun f vs=>PySem.call f vs):=by
 intro w s₀ s₁ mg mb G Y fa o pm cd doc dV kV ho hd hcd hD hmg hg args vals as hpre hlay hrd hwl hlo
 obtain rfl:dV= .none:=Dflts.none hD hdf
 obtain rfl:kV= .none:=Dflts.noKw hD
 obtain ⟨a,vs,ns,rfl,rfl,hobj,hints,hlen⟩:=afX hn hpre hwl
 refine enter_call (codeAny_mono (call w s₀ s₁ mg mb fa o pm cd doc a vs ns G Y ho (fd_plain hd) hcd hmg hobj hints hlen hg) fun r s' hq=>?_)
 obtain ⟨rfl,h2,h3,h4⟩:=hq
 exact ⟨.inl ⟨.bool true,.bool true,[],rfl,fun _=>rfl,.bool true,afY l _,fun _=>⟨List.Pairwise.nil,fun _ hm=>(nomatch hm)⟩⟩,h2,h3,h4⟩
section
variable {prog:Program}{w:World}{A:Around}{E:Value->Shared->Prop}{s:Shared}{K:Frag}
noncomputable def anq (h:Heap) (L d:Addr):List (Addr × Obj):=(List.range h.objs.size).filterMap fun a=>if a=L ∨ a=d then none else (h.get? a).map fun o=>(a,o)
end
end Att
namespace L2
open PySem PySem.Spec PyProof.Rows
theorem Qj:∀ {vs:List Value}{ns:List Int},IntsAre vs ns->jF (ns.map V.int) vs
 | _,_,.nil=> .nil
 | _,_,.cons n t h=> .cons ⟨t,rfl⟩ (Qj h)
noncomputable def ak7 (H:Hp):Prop:=∀ b,H b=none ∨ ∃ o xs,H b=some (.frz o (.lst xs))
theorem ag9 {P:Program}{w:World}{K:PySem.W.Frag}{mg mb:Str->Option Value}{CX:CXT}{k:Nat}{fa a:Addr}{fd:FuncData}{x:Str}{sp:Sp}{s₁:Shared}{vs:List Value}{ns:List Int}
  (KX:K.In s₁.heap) (hns:s₁.heap.Ns mainGlobals mg) (hb:s₁.heap.Ns builtinsNs mb) (hbb:∀ x:Str,x ≠ "__name__"->mb x=bootBuiltins x) (hlim:s₁.heap.NoLimit) (hg:s₁.gens=#[])
  (ha:s₁.heap.get? a=some { cls:= .type "list",data:= .seq vs.toArray }) (hi:IntsAre vs ns) (hl:ns.length<=sizeLine) (hr:Room k callerA)
  (F:∀ base:Heap,K.In base->base.Ns mainGlobals mg->FnOk P w K mg base CX k fa fd [x] sp) (hbind:∀ (s:Shared) (u:Value),BindsTo s fd ⟨[u],[]⟩ [(x,u)])
  (hsp:∀ H:Hp,ak7 H->SqL K H a (ns.map V.int)->sp [.ref a] H (fun v _=>v= .bl true) fun _ _ _=>False)
  (hCX:∀ H e s',CX [] H s₁ (fun _ _ _=>False) e s'->False):
  codeAny (model P w) callerA (.call (.ref fa) ⟨[.ref a],[]⟩) (fun r s'=>r= .ok (.ret (.bool true))/\OldK s₁.heap s'.heap/\s'.os=s₁.os/\AllBare s'.gens) s₁:=by
 have rv:=Qj hi
 have lenV:=hi.length
 have core:∀ H:Hp,ak7 H->SqL K H a (ns.map V.int)->HOk P w H s₁.heap->(∀ b,H b ≠ none->b=a)->(H a ≠ none->K.lookup a=none)->
   codeAny (model P w) callerA (.call (.ref fa) ⟨[.ref a],[]⟩) (fun r s'=>r= .ok (.ret (.bool true))/\OldK s₁.heap s'.heap/\s'.os=s₁.os/\AllBare s'.gens) s₁:=by
  intro H hO hS hok hA hK
  have base_of:∀ {b:Addr} {o:Obj},s₁.heap.get? b=some o->H b=none->(ab5 s₁.heap H).get? b=some o:=fun e n=>agS e n
  have noA:∀ {b:Addr} {o:Obj} {es:Array DictEntry} {ep:Nat},s₁.heap.get? b=some o->o.data= .dict es ep->H b=none:=fun {b o es ep} e d=>by
   cases q:H b with
   | none=>rfl
   | some u=>
    have e':b=a:=hA b (by rw [q]; simp)
    subst e'
    rw [ha] at e; cases e
    have d':Data.seq vs.toArray _=Data.dict es ep:=d
    cases d'
  have nsK:∀ {b:Addr} {m:Str->Option Value},s₁.heap.Ns b m->(ab5 s₁.heap H).Ns b m:=fun {b m} ⟨o,es,ep,e,d,r⟩=>⟨o,es,ep,base_of e (noA e d),d,r⟩
  have hKb:K.In (ab5 s₁.heap H):=fun b o e=>base_of (KX b o e) (by
   cases q:H b with
   | none=>rfl
   | some u=>
    have e':b=a:=hA b (by rw [q]; simp)
    subst e'
    rw [hK (by rw [q]; simp)] at e; cases e)
  have hM:Mod K mg (ab5 s₁.heap H):=⟨hKb,nsK hns,⟨mb,nsK hb,hbb⟩,let ⟨mc,h1,h2⟩:=hlim; ⟨mc,nsK h1,h2⟩⟩
  have e0:Env0 P w K mg (ab5 s₁.heap H) callerA [] s₁ H:=⟨rfl,hM,fun b o e=>aiX e,Nat.le_of_eq (afN _ _),trivial,fun b hb=>absurd (show b ∈ ([]:List Addr) from hb) (by simp),hok,.of_eq hg⟩
  refine codeAny_mono ((F _ hKb (nsK hns)).run callerA [] s₁ H ⟨[.ref a],[]⟩ [.ref a] [.ref a] _ _ hr e0 (hbind s₁ (.ref a)) (.cons rfl .nil) (hsp H hO hS)) fun r s' h=>?_
  cases r with
  | error e=>exact (hCX H e s' h).elim
  | ok fl=>
   cases fl with
   | next=>exact False.elim h
   | brk=>exact False.elim h
   | cont=>exact False.elim h
   | ret u=>
    obtain ⟨v,H',os,bare,un,hok',r',q⟩:=h
    have q':v= .bl true:=q
    subst q'
    obtain rfl:u=Value.bool true:=r'
    refine ⟨rfl,OldK.of_keep fun b o e=>?_,os,bare⟩
    cases q:H b with
    | none=>exact un.keep b o e q (by intro z; exact absurd (show b ∈ ([]:List Addr) from z) (by simp)) (by simp)
    | some u=>
     rcases hO b with z | ⟨ob,xs,z⟩
     ·rw [q] at z; cases z
     ·have z2:=un.frzs b ob _ z
      obtain ⟨e1,_⟩:=hok b _ z
      obtain ⟨e2,_⟩:=hok' b _ z2
      rw [e] at e1; cases e1
      exact e2
 cases hk:K.lookup a with
 | some o=>
  have e:=KX a o hk
  rw [ha] at e
  cases e
  refine core (fun _=>none) (fun _=> .inl rfl) (.inr ⟨_,vs.toArray,_,hk,rfl,rfl,rfl,by rw [List.size_toArray,lenV]; exact hl,by simpa using rv⟩) (fun b u z=>by have z':(none:Option HO)=some u:=z; cases z') (fun b z=>absurd rfl z) fun z=>absurd rfl z
 | none=>
  refine core (fun b=>if b=a then some (.frz { cls:= .type "list",data:= .seq vs.toArray } (.lst (ns.map V.int))) else none) (fun b=>?_) (.inl (.inr ⟨{ cls:= .type "list",data:= .seq vs.toArray },if_pos rfl⟩)) (fun b u z=>?_) (fun b z=>?_) fun _=>hk
  ·by_cases hb:b=a
   ·exact .inr ⟨_,_,if_pos hb⟩
   ·exact .inl (if_neg hb)
  ·by_cases hb:b=a
   ·have z':=(if_pos hb).symm.trans z
    cases z'
    subst hb
    exact ⟨ha,by rw [List.length_map]; exact hl,vs,_,rv,ha⟩
   ·have z':=(if_neg hb).symm.trans z
    cases z'
  ·by_cases hb:b=a
   ·exact hb
   ·exact absurd (if_neg hb) z
end L2
namespace L2
open PySem PySem.Spec PyProof.Rows
theorem ajc {l:PySem.W.OpenLaw}{n k:Nat}{q:Program}{loose:List Str}{XP:(Str->Option Value)->Heap->Prop}{YP:World->Heap->Prop}{d:DefRec}{K:Params->PySem.W.Frag}{CX:World->CXT}{sp:World->Sp}{x:Str}
  (hn:l.most=some n) (hn2:n<=sizeLine) (hdf:d.params.defaults=[]) (hr:Room k callerA)
  (hY:∀ (w:World) (h:Heap),YP w h->(K w.params).In h)
  (F:∀ (w:World) (mg:Str->Option Value) (fa:Addr) (h:Heap),(K w.params).In h->h.Ns mainGlobals mg->mg d.name=some (.ref fa)->
   ∃ fd:FuncData,(∀ (s:Shared) (u:Value),BindsTo s fd ⟨[u],[]⟩ [(x,u)])/\
    ∀ base:Heap,(K w.params).In base->base.Ns mainGlobals mg->FnOk l.prog w (K w.params) mg base (CX w) k fa fd [x] (sp w))
  (hsp:∀ (w:World) (H:Hp) (a:Addr) (ns:List Int),ns.length<=n->ak7 H->SqL (K w.params) H a (ns.map V.int)->sp w [.ref a] H (fun v _=>v= .bl true) fun _ _ _=>False)
  (hCX:∀ (w:World) (H:Hp) (s:Shared) (e:Value) (s':Shared),CX w [] H s (fun _ _ _=>False) e s'->False):
  PySem.W.WalkO q loose XP YP l.row.toRowW d [] (fun f vs=>PySem.call f vs):=by
 refine Att.attach_call hn hdf fun w s₀ s₁ mg mb fa o pm cd doc a vs ns G Y ho hd hcd hmg hobj hints hlen hg=>?_
 have KX:=hY w _ Y
 obtain ⟨fd,hb,hF⟩:=F w mg fa _ KX G.T.g hmg
 exact ag9 KX G.T.g G.T.b G.T.builtins G.T.nolimit hg hobj hints (Nat.le_trans hlen hn2) hr hF hb (fun H hO hS=>hsp w H a ns hlen hO hS) fun H e s'=>hCX w H s₁ e s'
end L2
namespace L2
open PySem PySem.Spec PyProof.Rows
noncomputable def Jt (s:Stmt):Arguments:=match s with
 | .FunctionDef _ a _ _ _ _ _ _ _ _=>a
 | _=>{ posonlyargs:=[],args:=[],vararg:=none,kwonlyargs:=[],kw_defaults:=[],kwarg:=none,defaults:=[] }
noncomputable def jP (s:Stmt):List Stmt:=match s with
 | .FunctionDef _ _ b _ _ _ _ _ _ _=>b
 | _=>[]
noncomputable def jm (s:Stmt):Scope:=match s with
 | .FunctionDef _ _ _ _ _ _ sc _ _ _=>sc
 | _=>{ kind:= .function,names:=[],isGenerator:=false,isCoroutine:=false }
noncomputable abbrev CX0:CXT:=fun _ _ _ _ _ _=>False
noncomputable abbrev E0:XK:=fun _ _ _=>False
theorem amr {X:Cx}:ad7 CX0 X E0:=fun _ _ _ _ _ _ _ h=>h.elim
structure Fun (K:PySem.W.Frag) (x qual:Str) (st:Stmt) (f:Addr) (fd:FuncData):Prop where
 ex:∃ (oc:Value) (od:Option Addr) (kV doc pm:Value) (an:Option Addr) (cdv ct:Value) (osl:Array (Option Value)),
  fd=PySem.W.fnOf x qual (Jt st) (jP st) (jm st) .none kV doc pm an cdv ct/\K.lookup f=some ⟨oc,od,.func fd,osl⟩/\PySem.W.codeIn K cdv qual=true
 kp:PySem.W.keepIn K (.ref f)=true
section
variable {P:Program}{w:World}{K:PySem.W.Frag}{mg:Str->Option Value}{base:Heap}
theorem Fun.ok {x qual:Str}{st:Stmt}{f:Addr}{fd:FuncData}{N ps:List Str}{k:Nat}{sp:Sp} (F:Fun K x qual st f fd) (S:FnScope N ps (jm st)) (len:∀ vs H Q E,sp vs H Q E->vs.length=ps.length)
  (hbody:∀ (cdv:Value) (A:Around) (outer:List Env) (s:Shared) (H:Hp) (vs:List V) (Q:VK) (E:XK),Room k (A.deeper (envOfC qual (jm st) s.heap.objs.size f cdv))->sp vs H Q E->
   ∃ t,PSs (aan CX0 P w K mg base N qual (jm st) f cdv A outer s H E).nox (jP st) t/\t { nx:=fun _ H'=>Q .non H',rt:=Q } (JS N vs) H):FnOk P w K mg base CX0 (k+1) f fd ps sp:=by
 obtain ⟨oc,od,kV,doc,pm,an,cdv,ct,osl,rfl,lk,hcd⟩:=F.ex
 refine amm lk hcd S len fun A outer s H vs Q E hr hsp=>?_
 obtain ⟨t,h,q⟩:=hbody cdv A outer s H vs Q E hr hsp
 exact ⟨t,h.nox,q⟩
theorem Fun.binds {x qual:Str}{st:Stmt}{f:Addr}{fd:FuncData}{ps:List Str} (F:Fun K x qual st f fd)
  (h:∀ (kV doc pm:Value) (an:Option Addr) (cdv ct:Value) (us:List Value),us.length=ps.length->bindArgs (PySem.W.fnOf x qual (Jt st) (jP st) (jm st) .none kV doc pm an cdv ct) ⟨us,[]⟩=pure (ps.zip us)):QN K fd ps []:=by
 obtain ⟨oc,od,kV,doc,pm,an,cdv,ct,osl,rfl,lk,hcd⟩:=F.ex
 exact .all (h kV doc pm an cdv ct)
theorem aha {x qual:Str}{st:Stmt}{f:Addr}{oc:Value}{od an:Option Addr}{osl:Array (Option Value)}{kV doc pm cdv ct:Value} (l:K.lookup f=some ⟨oc,od,.func (PySem.W.fnOf x qual (Jt st) (jP st) (jm st) .none kV doc pm an cdv ct),osl⟩)
  (c:PySem.W.codeIn K cdv qual=true) (k:PySem.W.keepIn K (.ref f)=true):Fun K x qual st f (PySem.W.fnOf x qual (Jt st) (jP st) (jm st) .none kV doc pm an cdv ct):=⟨⟨oc,od,kV,doc,pm,an,cdv,ct,osl,rfl,l,c⟩,k⟩
end
section
variable {X:Cx}
theorem pv (i:Nat) {x:Str}{pos:Pos} (hN:X.N[i]?=some x:=by rfl) (hv:Vis X.env.scope x:=by first | exact Or.inl rfl | exact Or.inr (Or.inl rfl) | exact Or.inr (Or.inr rfl)) (hd:(x == ("__debug__":Str))=false:=by decide)
  (hcd:(x == ("__classdict__":Str))=false:=by decide):PE X (.Name x pos) (al3 i):=aam hN hv hd hcd
end
theorem ams {A B:Prop} (h:B):if false=true then A else B:=by
 rw [if_neg Bool.false_ne_true]
 exact h
theorem amt {A B:Prop} (h:A):if true=true then A else B:=by
 rw [if_pos rfl]
 exact h
noncomputable def jr (H H':Hp):Prop:=∀ b o,H b=some o->H' b=some o
theorem jr.refl (H:Hp):jr H H:=fun _ _ h=>h
theorem jr.trans {H H1 H2:Hp} (a:jr H H1) (b:jr H1 H2):jr H H2:=fun c o h=>b c o (a c o h)
theorem jr.free {H H':Hp} (e:jr H H') {l:Addr} (h:H' l=Option.none):H l=Option.none:=by
 cases q:H l with
 | none=>rfl
 | some o=>
  rw [e l o q] at h
  cases h
theorem jr.seq {K:PySem.W.Frag}{H H':Hp}{a:Addr}{xs:List V} (e:jr H H') (h:SqL K H a xs):SqL K H' a xs:=by
 rcases h with (h | ⟨o,h⟩) | h
 ·exact .inl (.inl (e _ _ h))
 ·exact .inl (.inr ⟨o,e _ _ h⟩)
 ·exact .inr h
section
variable {κ:Type} [DecidableEq κ]
noncomputable def Ju (kvs:List (κ × V)) (k:κ):Option V:=(kvs.find? fun kv=>decide (kv.1=k)).map (·.2)
noncomputable def Ji (kvs:List (κ × V)) (k:κ) (v:V):List (κ × V):=
 if (kvs.any fun kv=>decide (kv.1=k))=true then kvs.map (fun kv=>if kv.1=k then (kv.1,v) else kv) else kvs++[(k,v)]
noncomputable def akq (kvs:List (κ × V)) (k:κ):List (κ × V):=kvs.filter fun kv=>decide (kv.1 ≠ k)
theorem aaq {p:κ × V}{r:List (κ × V)}{k:κ} (e:p.1=k):Ju (p::r) k=some p.2:=by simp [Ju,List.find?_cons,e]
theorem aar {p:κ × V}{r:List (κ × V)}{k:κ} (e:¬ p.1=k):Ju (p::r) k=Ju r k:=by simp [Ju,List.find?_cons,e]
theorem ac7 (k:κ):∀ kvs:List (κ × V),(kvs.any fun kv=>decide (kv.1=k))=(Ju kvs k).isSome
 | []=>rfl
 | p::r=>by
  rw [List.any_cons]
  by_cases e:p.1=k
  ·simp only [aaq e,decide_eq_true e,Bool.true_or,Option.isSome_some]
  ·rw [aar e,decide_eq_false e,Bool.false_or]; exact ac7 k r
theorem JT (kvs:List (κ × V)) (k:κ) (v:V):(Ji kvs k v).length<=kvs.length+1:=by
 unfold Ji
 split
 ·rw [List.length_map]; omega
 ·rw [List.length_append,List.length_cons,List.length_nil]; omega
theorem ZW.isSome_eq {o:Option V}{u:Option Value} (r:ZW o u):o.isSome=u.isSome:=by
 cases o with
 | none=>cases u with
  | none=>rfl
  | some _=>exact (show False from r).elim
 | some _=>cases u with
  | none=>exact (show False from r).elim
  | some _=>rfl
theorem ZW.getD {o:Option V}{u:Option Value}{d:V}{d':Value} (r:ZW o u) (rd:jJ d d'):jJ (o.getD d) (u.getD d'):=by
 cases o with
 | none=>cases u with
  | none=>exact rd
  | some _=>exact (show False from r).elim
 | some _=>cases u with
  | none=>exact (show False from r).elim
  | some _=>exact r
theorem KV.val {kvs:List (κ × V)}{vs:List (κ × Value)} (r:KV kvs vs) (k:κ):ZW (Ju kvs k) (valueAt vs k):=by
 unfold KV at r
 induction r with
 | nil=>exact True.intro
 | @cons p q ps qs h t ih=>
  obtain ⟨h1,h2⟩:=h
  by_cases e:p.1=k
  ·have e':q.1=k:=h1.symm.trans e
   have b:valueAt (q::qs) k=some q.2:=by simp [valueAt,List.find?_cons,e']
   rw [aaq e,b]; exact h2
  ·have e':¬ q.1=k:=fun z=>e (h1.trans z)
   have b:valueAt (q::qs) k=valueAt qs k:=by simp [valueAt,List.find?_cons,e']
   rw [aar e,b]; exact ih
theorem KV.any {kvs:List (κ × V)}{vs:List (κ × Value)} (r:KV kvs vs) (k:κ):(kvs.any fun kv=>decide (kv.1=k))=vs.any fun kv=>decide (kv.1=k):=by
 unfold KV at r
 induction r with
 | nil=>rfl
 | cons h t ih=>rw [List.any_cons,List.any_cons,ih,h.1]
theorem KV.repl {kvs:List (κ × V)}{vs:List (κ × Value)} (r:KV kvs vs) (k:κ) {y:V}{u:Value} (ry:jJ y u):
  KV (kvs.map fun kv=>if kv.1=k then (kv.1,y) else kv) (vs.map fun kv=>if kv.1=k then (kv.1,u) else kv):=by
 unfold KV at r ⊢
 induction r with
 | nil=>exact .nil
 | @cons p q ps qs h t ih=>
  rw [List.map_cons,List.map_cons]
  refine .cons ?_ ih
  obtain ⟨h1,h2⟩:=h
  by_cases e:p.1=k
  ·rw [if_pos e,if_pos (h1.symm.trans e)]; exact ⟨h1,ry⟩
  ·rw [if_neg e,if_neg (fun z=>e (h1.trans z))]; exact ⟨h1,h2⟩
theorem KV.put {kvs:List (κ × V)}{vs:List (κ × Value)} (r:KV kvs vs) (k:κ) {y:V}{u:Value} (ry:jJ y u):KV (Ji kvs k y) (stored vs k u):=by
 unfold Ji stored
 rw [r.any k]
 by_cases e:(vs.any fun kv=>decide (kv.1=k))=true
 ·rw [if_pos e,if_pos e]; exact r.repl k ry
 ·rw [if_neg e,if_neg e]; exact Paired.snoc r ⟨rfl,ry⟩
theorem KV.drop {kvs:List (κ × V)}{vs:List (κ × Value)} (r:KV kvs vs) (k:κ):KV (akq kvs k) (without vs k):=by
 unfold KV at r ⊢
 unfold akq without
 induction r with
 | nil=>exact .nil
 | @cons p q ps qs h t ih=>
  obtain ⟨h1,h2⟩:=h
  rw [List.filter_cons,List.filter_cons]
  by_cases e:p.1=k
  ·have a:¬ decide (p.1 ≠ k)=true:=by simp [e]
   have b:¬ decide (q.1 ≠ k)=true:=by simp [h1.symm.trans e]
   rw [if_neg a,if_neg b]; exact ih
  ·have e':¬ q.1=k:=fun z=>e (h1.trans z)
   have a:decide (p.1 ≠ k)=true:=by simp [e]
   have b:decide (q.1 ≠ k)=true:=by simp [e']
   rw [if_pos a,if_pos b]; exact .cons ⟨h1,h2⟩ ih
theorem KV.keys {kvs:List (κ × V)}{vs:List (κ × Value)} (r:KV kvs vs):kvs.map (·.1)=vs.map (·.1):=by
 unfold KV at r
 induction r with
 | nil=>rfl
 | cons h t ih=>rw [List.map_cons,List.map_cons,ih,h.1]
theorem KV.length {kvs:List (κ × V)}{vs:List (κ × Value)} (r:KV kvs vs):kvs.length=vs.length:=Paired.length r
end
theorem abw {P:Program}{w:World}{k:Key}{u:Value} (r:jJ (kV k) u):(jY P w).is k u=true:=by
 cases k with
 | inl i=>obtain ⟨t,e⟩:=(show ∃ t,u=Value.int i t from r); subst e; exact acV P w i t
 | inr x=>obtain ⟨t,e⟩:=(show ∃ t,u=Value.str x t from r); subst e; exact acW P w x t
theorem abx {P:Program}{w:World}:∀ {ks:List Key}{us:List Value},jF (ks.map kV) us->ItemsAre (jY P w) ks us
 | [],_,r=>by rw [List.map_nil] at r; cases r; exact .nil
 | k::ks,_,r=>by
  rw [List.map_cons] at r
  cases r with
  | cons h t=>exact .cons (abw h) (abx t)
noncomputable abbrev KT (H:Hp):List (List Key × V)->List (List Key × Addr × Value)->Prop:=Paired fun p q=>p.1=q.1/\H q.2.1=some (.tup (p.1.map kV))/\jJ p.2 q.2.2
theorem KT.val {H:Hp}{kvs:List (List Key × V)}{xs:List (List Key × Addr × Value)} (r:KT H kvs xs) (k:List Key):ZW (Ju kvs k) ((atKey xs k).map (·.2)):=by
 induction r with
 | nil=>exact True.intro
 | @cons p q ps qs h t ih=>
  obtain ⟨h1,_,h2⟩:=h
  by_cases e:p.1=k
  ·have e':q.1=k:=h1.symm.trans e
   have b:atKey (q::qs) k=some q.2:=by simp [atKey,List.find?_cons,e']
   rw [aaq e,b]; exact h2
  ·have e':¬ q.1=k:=fun z=>e (h1.trans z)
   have b:atKey (q::qs) k=atKey qs k:=by simp [atKey,List.find?_cons,e']
   rw [aar e,b]; exact ih
theorem KT.repl {H:Hp}{kvs:List (List Key × V)}{xs:List (List Key × Addr × Value)} (r:KT H kvs xs) (k:List Key) {y:V}{u:Value} (ry:jJ y u):
  KT H (kvs.map fun kv=>if kv.1=k then (kv.1,y) else kv) (xs.map (putAt k u)):=by
 induction r with
 | nil=>exact .nil
 | @cons p q ps qs h t ih=>
  rw [List.map_cons,List.map_cons]
  refine .cons ?_ ih
  obtain ⟨h1,h2,h3⟩:=h
  unfold putAt
  by_cases e:p.1=k
  ·rw [if_pos e,if_pos (h1.symm.trans e)]; exact ⟨h1,h2,ry⟩
  ·rw [if_neg e,if_neg (fun z=>e (h1.trans z))]; exact ⟨h1,h2,h3⟩
theorem KT.put {H:Hp}{kvs:List (List Key × V)}{xs:List (List Key × Addr × Value)} (r:KT H kvs xs) (k:List Key) {b:Addr}{y:V}{u:Value} (hb:H b=some (.tup (k.map kV))) (ry:jJ y u):
  KT H (Ji kvs k y) (storedH xs k b u):=by
 have e:(kvs.any fun kv=>decide (kv.1=k))=(atKey xs k).isSome:=by
  rw [ac7,(r.val k).isSome_eq,Option.isSome_map]
 unfold Ji storedH
 rw [e]
 by_cases q:(atKey xs k).isSome=true
 ·rw [if_pos q,if_pos q]; exact r.repl k ry
 ·rw [if_neg q,if_neg q]; exact Paired.snoc r ⟨rfl,hb,ry⟩
theorem KT.keeps {H H':Hp}{kvs:List (List Key × V)}{xs:List (List Key × Addr × Value)} (r:KT H kvs xs) (ht:∀ b ys,H b=some (.tup ys)->H' b=some (.tup ys)):KT H' kvs xs:=
 Paired.mapP r fun _ _ z=>⟨z.1,ht _ _ z.2.1,z.2.2⟩
section
variable {P:Program}{w:World}{H:Hp}{h:Heap}{a:Addr}
theorem akr {u:HO} (ok:HOk P w H h) (e:Rd H a u):qt P w H h a u:=e.ok ok
theorem aas {kvs:List (Key × V)} (ok:HOk P w H h) (e:Rd H a (.dK kvs)):kvs.length<=sizeLine/\(a == sysModules)=false/\∃ vs,KV kvs vs/\h.DictOf (jY P w) a vs:=
 show qt P w H h a (.dK kvs) from akr ok e
theorem aks {kvs:List (Key × V)} (ok:HOk P w H h) (e:H a=some (.dK kvs)):kvs.length<=sizeLine/\(a == sysModules)=false/\∃ vs,KV kvs vs/\h.DictOf (jY P w) a vs:=aas ok (.inl e)
theorem aat {ks:List Key} (ok:HOk P w H h) (e:H a=some (.tup (ks.map kV))):(tupleKind (jY P w)).is h ks a:=by
 obtain ⟨_,its,r,o,h1,h2,n,h3⟩:=(show qt P w H h a (.tup (ks.map kV)) from ok a _ e)
 exact ⟨o,its.toArray,n,h1,h2,h3,by simpa using abx r⟩
theorem aby {kvs:List (List Key × V)} (ok:HOk P w H h) (e:Rd H a (.dT kvs)):kvs.length<=sizeLine/\(a == sysModules)=false/\
  ∃ xs,KT H kvs xs/\h.DictOfH (tupleKind (jY P w)) a xs:=by
 obtain ⟨z,y,xs,r,o,es,ep,h1,h2,h3,h4,h5⟩:=(show qt P w H h a (.dT kvs) from akr ok e)
 refine ⟨z,y,xs,r,o,es,ep,h1,h2,h3,h4,fun x hx=>?_,h5⟩
 have all:∀ {l:List (List Key × V)} {m:List (List Key × Addr × Value)},KT H l m->∀ x ∈ m,(tupleKind (jY P w)).is h x.1 x.2.1:=by
  intro l m q
  induction q with
  | nil=>intro x hx; exact nomatch hx
  | @cons p q ps qs hq t ih=>
   intro x hx
   rcases List.mem_cons.mp hx with e | hx
   ·subst e
    exact aat ok (by rw [←hq.1]; exact hq.2.1)
   ·exact ih x hx
 exact all r x hx
theorem amu {kvs:List (List Key × V)} (ok:HOk P w H h) (e:H a=some (.dT kvs)):kvs.length<=sizeLine/\(a == sysModules)=false/\
  ∃ xs,KT H kvs xs/\h.DictOfH (tupleKind (jY P w)) a xs:=aby ok (.inl e)
end
noncomputable def ZY (H:Hp) (a:Addr) (y:V) (r:Option V):Prop:=
 (∃ kvs k,Rd H a (.dK kvs)/\y=kV k/\r=Ju kvs k) ∨ ∃ kvs k b,Rd H a (.dT kvs)/\y= .ref b/\H b=some (.tup (k.map kV))/\r=Ju kvs k
noncomputable def afZ (H:Hp) (a:Addr) (y v:V) (H':Hp):Prop:=
 (∃ kvs k,H a=some (.dK kvs)/\y=kV k/\kvs.length < sizeLine/\H'=upd H a (.dK (Ji kvs k v))) ∨
 ∃ kvs k b,H a=some (.dT kvs)/\y= .ref b/\H b=some (.tup (k.map kV))/\kvs.length < sizeLine/\H'=upd H a (.dT (Ji kvs k v))
theorem ZY.k {H:Hp}{a:Addr}{kvs:List (Key × V)}{k:Key} (e:H a=some (.dK kvs)):ZY H a (kV k) (Ju kvs k):= .inl ⟨kvs,k,.inl e,rfl,rfl⟩
theorem ZY.t {H:Hp}{a b:Addr}{kvs:List (List Key × V)}{k:List Key} (e:H a=some (.dT kvs)) (eb:H b=some (.tup (k.map kV))):ZY H a (.ref b) (Ju kvs k):= .inr ⟨kvs,k,b,.inl e,rfl,eb,rfl⟩
theorem afZ.k {H:Hp}{a:Addr}{kvs:List (Key × V)}{k:Key}{v:V} (e:H a=some (.dK kvs)) (hl:kvs.length < sizeLine):afZ H a (kV k) v (upd H a (.dK (Ji kvs k v))):= .inl ⟨kvs,k,e,rfl,hl,rfl⟩
theorem afZ.t {H:Hp}{a b:Addr}{kvs:List (List Key × V)}{k:List Key}{v:V} (e:H a=some (.dT kvs)) (eb:H b=some (.tup (k.map kV))) (hl:kvs.length < sizeLine):
  afZ H a (.ref b) v (upd H a (.dT (Ji kvs k v))):= .inr ⟨kvs,k,b,e,rfl,eb,hl,rfl⟩
section
variable {X:Cx}{pins:List (Addr × Obj)}{σ:St}{H:Hp}{s:Shared}{a:Addr}{y v:V}{u r:Value}{o:Option V}{A:Around}{E:Value->Shared->Prop}
theorem Inv.big (I:Inv X pins σ H s):sysModules < s.heap.objs.size:=by
 have h:mainGlobals < s.heap.objs.size:=(I.mod.glob.keeps I.bk).lt
 exact Nat.lt_trans (by decide) h
theorem af0 {Q:Value->Shared->Prop} (hu:A.units+1 < cLine) (I:Inv X pins σ H s) (g:ZY H a y (some v)) (ry:jJ y u) (h:∀ w' s',Inv X pins σ H s'->jJ v w'->Q w' s'):
  wpAny (model X.prog X.w) A (getItem (.ref a) u) Q E s:=by
 rcases g with ⟨kvs,k,e,ey,l⟩ | ⟨kvs,k,b,e,ey,eb,l⟩
 ·subst ey
  obtain ⟨z,hd,vs,rel,dd⟩:=aas I.hok e
  obtain ⟨w',hw,rw'⟩:=ZW.some_of (v:=v) (o:=valueAt vs k) (by rw [l]; exact rel.val k)
  exact wpAny_getItem_of (abw ry) dd.mapOf hw (h w' _ (I.tok _) rw')
 ·subst ey
  cases (show u=Value.ref b from ry)
  obtain ⟨z,hd,xs,rel,dd⟩:=aby I.hok e
  obtain ⟨w',hw,rw'⟩:=ZW.some_of (v:=v) (o:=(atKey xs k).map (·.2)) (by rw [l]; exact rel.val k)
  obtain ⟨p,hp,hp2⟩:=Option.map_eq_some_iff.mp hw
  refine wpAny_getItem_heap (tupleKind_room_in1 hu) (aat I.hok eb) dd hp ?_
  rw [hp2]
  exact h w' _ (I.tok _) rw'
theorem ajd {Q:Value->Shared->Prop} (hu:A.units+1 < cLine) (I:Inv X pins σ H s) (g:ZY H a y o) (ry:jJ y u) (h:∀ s',Inv X pins σ H s'->Q (.bool (!o.isSome)) s'):
  wpAny (model X.prog X.w) A (compareOp .NotIn u (.ref a)) Q E s:=by
 rcases g with ⟨kvs,k,e,ey,l⟩ | ⟨kvs,k,b,e,ey,eb,l⟩
 ·subst ey
  obtain ⟨z,hd,vs,rel,dd⟩:=aas I.hok e
  refine wpAny_notIn_of (abw ry) hd dd.mapOf ?_
  rw [←(rel.val k).isSome_eq,←l]
  exact h _ (I.tok _)
 ·subst ey
  cases (show u=Value.ref b from ry)
  obtain ⟨z,hd,xs,rel,dd⟩:=aby I.hok e
  refine wpAny_notIn_heap (tupleKind_room_in1 hu) (aat I.hok eb) hd dd ?_
  have q:=(rel.val k).isSome_eq
  rw [Option.isSome_map] at q
  rw [←q,←l]
  exact h _ (I.tok _)
theorem acd {h':Heap}{t':Nat}{ob:HO} (I:Inv X pins σ H s) (mu:Mut (H a)) (hs:Heap.SameBut a s.heap h') (he:∃ q,h'.get? a=some q) (new:qt X.prog X.w (upd H a ob) h' a ob):
  Inv X pins σ (upd H a ob) { s with heap:=h',toks:=t' }:=
 I.write (x:=a) (e:=a) mu (.inl rfl) (fun b q hb z=>(hs.2 b hb).trans z) he new
theorem ahb {P:Program}{w:World}{H':Hp}{h':Heap}{kvs:List (Key × V)}{vs:List (Key × Value)} (z:kvs.length<=sizeLine) (hd:(a == sysModules)=false) (rel:KV kvs vs) (dd:h'.DictOf (jY P w) a vs):
  qt P w H' h' a (.dK kvs):=⟨z,hd,vs,rel,dd⟩
theorem af1 {H':Hp}{Q:Unit->Shared->Prop} (hu:A.units+1 < cLine) (I:Inv X pins σ H s) (g:afZ H a y v H') (ry:jJ y u) (rv:jJ v r) (h:∀ s',Inv X pins σ H' s'->Q () s'):
  wpAny (model X.prog X.w) A (setItem (.ref a) u r) Q E s:=by
 rcases g with ⟨kvs,k,e,ey,l,eH⟩ | ⟨kvs,k,b,e,ey,eb,l,eH⟩
 ·subst ey eH
  obtain ⟨z,hd,vs,rel,dd⟩:=aks I.hok e
  have hz:vs.length<=sizeLine:=by rw [←rel.length]; exact z
  have hl:(Ji kvs k v).length<=sizeLine:=by have:=JT kvs k v; omega
  refine wpAny_setItem_pairs (hsz:=hz) (abw ry) dd fun h' dd' hs=>h _ ?_
  have he:∃ q,h'.get? a=some q:=let ⟨q,_,_,hq,_⟩:=dd'; ⟨q,hq⟩
  exact acd I (by rw [e]; exact True.intro) hs he (ahb hl hd (rel.put k rv) dd')
 ·subst ey eH
  cases (show u=Value.ref b from ry)
  obtain ⟨z,hd,xs,rel,dd⟩:=amu I.hok e
  have hz:xs.length<=sizeLine:=by rw [←Paired.length rel]; exact z
  have hl:(Ji kvs k v).length<=sizeLine:=by have:=JT kvs k v; omega
  refine wpAny_setItem_heap (hsz:=hz) (tupleKind_room_in1 hu) (aat I.hok eb) dd fun h' dd' hs=>h _ ?_
  obtain ⟨q,es,ep,hq,h2,h3,h4,_,h5⟩:=dd'
  refine acd I (by rw [e]; exact True.intro) hs ⟨q,hq⟩ ⟨hl,hd,_,(rel.put k eb rv).keeps fun c ys ec=>?_,q,es,ep,hq,h2,h3,h4,h5⟩
  rw [jn (al2 ec e (fun z=>nomatch z))]
  exact ec
end
section
variable {X:Cx}{pins:List (Addr × Obj)}{σ:St}{H:Hp}{s:Shared}{a:Addr}{kvs:List (Key × V)}{k:Key}{u:Value}{A:Around}{E:Value->Shared->Prop}
end
noncomputable def ak8 (i:Expr):Prop:=∀ ov iv,subscripted i false ov iv=operate [ov,iv] (getItem ov iv)
theorem aje {prog:Program}{w:World}{A:Around}{E:Value->Shared->Prop}{s:Shared}{env:Env}{value slice:Expr}{pos:Pos}{T id:String}{Q:Value->Shared->Prop}
  (hl:typeLookup (.type T) "__getitem__"=pure (some (.builtin id))) (hs:ak8 slice)
  (h:wpAny (model prog w) A (eval value env) (fun o s₁=>wpAny (model prog w) A (eval slice env) (fun i s₂=>s₂.TypeIs o T/\wpAny (model prog w) A (getItem o i) Q E s₂) E s₁) E s):
  wpAny (model prog w) A (eval (.Subscript value slice pos) env) Q E s:=by
 refine Subscript_ (wpAny_mono h (fun o s₁ h₁=>wpAny_mono h₁ (fun i s₂ h₂=>?_) fun _ _ x=>x) fun _ _ x=>x)
 obtain ⟨hT,h₂⟩:=h₂
 unfold subscriptTail
 refine wpAny_bind ?_
 rw [getitemInPython_of_ne hT.not_modules]
 refine wpAny_bind (wpAny_specialOf hT hl ?_)
 have fin:wpAny (model prog w) A (subscripted slice false o i) (fun r s₃=>wpAny (model prog w) A (letTemporaryGo value o r >>= fun _=>pure r) Q E s₃) E s₂:=by
  rw [hs o i]
  exact wpAny_operating (wpAny_mono h₂ (fun r s₃ h₃=>wpAny_bind (wpAny_letTemporaryGo (wpAny_pure h₃))) fun _ _ x=>x)
 first
  | exact wpAny_pure (wpAny_bind fin)
  | exact wpAny_bind (wpAny_pure (wpAny_bind fin))
  | exact wpAny_bind fin
theorem ac8 {X:Cx}{pins:List (Addr × Obj)}{σ:St}{H:Hp}{s:Shared}{a:Addr}{y:V}{o:Option V} (I:Inv X pins σ H s) (g:ZY H a y o):s.TypeIs (.ref a) "dict":=by
 rcases g with ⟨kvs,k,e,_,_⟩ | ⟨kvs,k,b,e,_,_,_⟩
 ·obtain ⟨_,_,vs,_,dd⟩:=aas I.hok e
  exact dd.typeIs
 ·obtain ⟨_,_,xs,_,dd⟩:=aby I.hok e
  exact dd.typeIs
noncomputable def amv (td ty:TE):TE:=fun σ H Q=>td σ H fun x H1=>ty σ H1 fun y H2=>∃ a v,x= .ref a/\ZY H2 a y (some v)/\Q v H2
noncomputable def ajf (ty td:TE):TE:=fun σ H Q=>ty σ H fun y H1=>td σ H1 fun x H2=>∃ a o,x= .ref a/\ZY H2 a y o/\Q (.bl (!o.isSome)) H2
section
variable {X:Cx}{o i e value:Expr}{pos pos' tpos:Pos}{td ty tv:TE}
theorem ajg (hu:X.A.units+1 < cLine) (ho:PE X o td) (hi:PE X i ty) (hs:ak8 i):PE X (.Subscript o i pos) (amv td ty):=by
 intro pins s σ H Q I h
 refine aje PySem.F.slot_dict_getitem.lookup hs (thn (ho pins s σ H _ I h) fun u s1 ⟨x,H1,I1,rx,q1⟩=>thn (hi pins s1 σ H1 _ I1 q1) fun iv s2 ⟨y,H2,I2,ry,a,v,ex,g,q2⟩=>?_)
 subst ex
 obtain rfl:u=Value.ref a:=rx
 exact ⟨ac8 I2 g,af0 hu I2 g ry fun w' s3 I3 rw'=>⟨v,H2,I3,rw',q2⟩⟩
theorem af2 (hu:X.A.units+1 < cLine) (hi:PE X i ty) (ho:PE X o td):PC X .NotIn i o (ajf ty td):=by
 intro pins s σ H Q I h
 refine thn (hi pins s σ H _ I h) fun iv s1 ⟨y,H1,I1,ry,q1⟩=>thn (ho pins s1 σ H1 _ I1 q1) fun u s2 ⟨x,H2,I2,rx,a,ov,ex,g,q2⟩=>?_
 subst ex
 obtain rfl:u=Value.ref a:=rx
 exact ajd hu I2 g ry fun s3 I3=>⟨.bl (!ov.isSome),H2,I3,rfl,q2⟩
end
theorem ac9 {P:Program}{w:World}{H:Hp} (h:Heap) (hb:sysModules < h.objs.size):qt P w H (h.push { cls:= .type "dict",data:= .dict #[] }) h.objs.size (.dK []):=
 ⟨Nat.zero_le _,beq_eq_false_iff_ne.mpr (Ne.symm (Nat.ne_of_lt hb)),[],.nil,Heap.DictOf.new h⟩
noncomputable def ak9:TE:=fun _ H Q=>∀ p,H p=none->Q (.ref p) (upd H p (.dK []))
section
variable {X:Cx}{pos:Pos}
theorem ahc:PE X (.Dict [] [] pos) ak9:=fun pins s σ H Q I h=>
 wpAny_Dict_empty ⟨.ref s.heap.objs.size,_,I.laid (a:=s.heap.objs.size) (o:= .dK []) (t':=s.toks) (fun _ _ q=>Heap.get?_push_of_some _ q) (Nat.le_refl _) (ac9 s.heap I.big),rfl,h _ (I.hok.fresh (Nat.le_refl _))⟩
end
noncomputable def aea:List (TE × TE)->St->Hp->(List (V × V)->Hp->Prop)->Prop
 | [],_,H,Q=>Q [] H
 | (tk,tv)::r,σ,H,Q=>tk σ H fun x H1=>tv σ H1 fun y H2=>aea r σ H2 fun ps H3=>Q ((x,y)::ps) H3
noncomputable abbrev VV:List (V × V)->List (Value × Value)->Prop:=Paired fun p q=>jJ p.1 q.1/\jJ p.2 q.2
noncomputable def PPs (X:Cx) (pos:Pos) (keys:List (Option Expr)) (values:List Expr) (trs:List (TE × TE)):Prop:=
 ∀ (pins:List (Addr × Obj)) (s:Shared) (σ:St) (H:Hp) (Q:List (V × V)->Hp->Prop),Inv X pins σ H s->aea trs σ H Q->
  wpAny (model X.prog X.w) X.A (evalPairs (pairTrees keys values X.env pos)) (fun vs s'=>∃ ps H',Inv X pins σ H' s'/\VV ps vs/\Q ps H') X.xe s
theorem ajh {X:Cx}{pos:Pos}:PPs X pos [] [] []:=fun pins s σ H Q I h=>pairTrees_nil_walk ⟨[],H,I,.nil,h⟩
theorem ahd {X:Cx}{pos:Pos}{k v:Expr}{ks:List (Option Expr)}{vs:List Expr}{tk tv:TE}{trs:List (TE × TE)} (hk:PE X k tk) (hv:PE X v tv) (hr:PPs X pos ks vs trs):
  PPs X pos (some k::ks) (v::vs) ((tk,tv)::trs):=fun pins s σ H Q I h=>
 pairTrees_cons_walk (thn (hk pins s σ H _ I h) fun u s1 ⟨x,H1,I1,rx,q1⟩=>thn (hv pins s1 σ H1 _ I1 q1) fun w2 s2 ⟨y,H2,I2,ry,q2⟩=>
  thn (hr pins s2 σ H2 _ I2 q2) fun ws s3 ⟨ps,H3,I3,rel,q3⟩=>⟨(x,y)::ps,H3,I3,.cons ⟨rx,ry⟩ rel,q3⟩)
noncomputable def aau (kvs more:List (Key × V)):List (Key × V):=more.foldl (fun acc kv=>Ji acc kv.1 kv.2) kvs
theorem KV.merge:∀ {more:List (Key × V)}{rs:List (Key × Value)}{kvs:List (Key × V)}{vs:List (Key × Value)},KV more rs->KV kvs vs->KV (aau kvs more) (merged vs rs):=by
 intro more rs kvs vs r
 unfold KV at r
 induction r generalizing kvs vs with
 | nil=>intro q; exact q
 | @cons p q ps qs h t ih=>
  intro r0
  have e:KV (Ji kvs p.1 p.2) (stored vs q.1 q.2):=by
   have:=r0.put p.1 h.2
   rw [←h.1]; exact this
  exact ih e
theorem Qy:∀ (more kvs:List (Key × V)),(aau kvs more).length<=kvs.length+more.length
 | [],kvs=>by show kvs.length<=kvs.length+0; omega
 | p::r,kvs=>by
  have h1:=Qy r (Ji kvs p.1 p.2)
  have h2:=JT kvs p.1 p.2
  show (aau (Ji kvs p.1 p.2) r).length<=_
  rw [List.length_cons]; omega
theorem aav {P:Program}{w:World}:∀ {kvs:List (Key × V)}{ws:List (Value × Value)},VV (kvs.map fun kv=>(kV kv.1,kv.2)) ws->∃ rs,Carries (jY P w) ws rs/\KV kvs rs
 | [],_,r=>by rw [List.map_nil] at r; cases r; exact ⟨[],True.intro,.nil⟩
 | p::kvs,_,r=>by
  rw [List.map_cons] at r
  cases r with
  | @cons a b as bs h t=>
   obtain ⟨rs,c,q⟩:=aav (P:=P) (w:=w) t
   obtain ⟨b1,b2⟩:=b
   exact ⟨(p.1,b2)::rs,⟨abw h.1,rfl,c⟩,.cons ⟨rfl,h.2⟩ q⟩
noncomputable def amw (trs:List (TE × TE)):TE:=fun σ H Q=>∀ p,H p=none->aea trs σ (upd H p (.dK [])) fun ps H2=>H2 p=some (.dK [])/\∃ kvs:List (Key × V),ps=kvs.map (fun kv=>(kV kv.1,kv.2))/\kvs.length<=15/\Q (.ref p) (upd H2 p (.dK (aau [] kvs)))
theorem aji {X:Cx}{pos:Pos}{keys:List (Option Expr)}{values:List Expr}{trs:List (TE × TE)} (h:PPs X pos keys values trs) (hall:keys.all (·.isSome)=true) (hl:keys.length=values.length) (h0:keys ≠ [])
  (h15:keys.length<=15):PE X (.Dict keys values pos) (amw trs):=by
 intro pins s σ H Q I q
 have hn:=I.hok.fresh (Nat.le_refl s.heap.objs.size)
 have I1:=I.laid (a:=s.heap.objs.size) (o:= .dK []) (h':=s.heap.push { cls:= .type "dict",data:= .dict #[] }) (t':=s.toks) (fun _ _ q=>Heap.get?_push_of_some _ q) (Nat.le_refl _) (ac9 s.heap I.big)
 refine wpAny_Dict_walk (knd:=jY X.prog X.w) hall hl h0 h15 (thn (h pins _ σ _ _ I1 (q _ hn)) fun ws s2 ⟨ps,H2,I2,rel,e,kvs,ep,lk,q2⟩=>?_)
 subst ep
 obtain ⟨rs,c,rk⟩:=aav (P:=X.prog) (w:=X.w) rel
 obtain ⟨z,hd,vs0,r0,dd⟩:=aks I2.hok e
 cases r0
 refine ⟨rs,c,dd,fun h' dd' hs=>⟨.ref s.heap.objs.size,_,?_,rfl,q2⟩⟩
 have hz:(aau [] kvs).length<=sizeLine:=by
  have h1:=Qy kvs []
  rw [List.length_nil] at h1
  rw [sizeLine_eq]; omega
 have he:∃ q,h'.get? s.heap.objs.size=some q:=let ⟨q,_,_,hq,_⟩:=dd'; ⟨q,hq⟩
 exact acd I2 (by rw [e]; exact True.intro) hs he (ahb hz hd (rk.merge .nil) dd')
structure M1 (X:Cx) (o:Expr) (m:Str) (apos:Pos) (e:Expr) (cpos:Pos):Prop where
 base:attributeBase o m X.env (eval o X.env)=eval o X.env
 few:((backTo cpos (starEach [e] X.env)).all (fun x=>!x.1) && (backToKw cpos (keywordEach [] X.env)).all (fun x=>x.1.isSome)
  && decide (([e]:List Expr).length+([]:List Keyword).length+(if ([]:List Keyword).isEmpty then 0 else 1) < 30))=true
 line:(apos.endLine == cpos.line)=true
 trees:backTo cpos (starEach [e] X.env)=[(false,eval e X.env)]
structure M2 (X:Cx) (o:Expr) (m:Str) (apos:Pos) (e f:Expr) (cpos:Pos):Prop where
 base:attributeBase o m X.env (eval o X.env)=eval o X.env
 few:((backTo cpos (starEach [e,f] X.env)).all (fun x=>!x.1) && (backToKw cpos (keywordEach [] X.env)).all (fun x=>x.1.isSome)
  && decide (([e,f]:List Expr).length+([]:List Keyword).length+(if ([]:List Keyword).isEmpty then 0 else 1) < 30))=true
 line:(apos.endLine == cpos.line)=true
 trees:backTo cpos (starEach [e,f] X.env)=[(false,eval e X.env),(false,eval f X.env)]
noncomputable def IsD (H:Hp) (a:Addr):Prop:=(∃ kvs,Rd H a (.dK kvs)) ∨ ∃ kvs,Rd H a (.dT kvs)
theorem ala {X:Cx}{pins:List (Addr × Obj)}{σ:St}{H:Hp}{s:Shared}{a:Addr} (I:Inv X pins σ H s) (d:IsD H a):
  s.TypeIs (.ref a) "dict"/\(∀ b,Value.ref a= .ref b->∃ ob,s.heap.get? b=some ob/\ob.dict=none)/\(a == sysModules)=false:=by
 rcases d with ⟨kvs,e⟩ | ⟨kvs,e⟩
 ·obtain ⟨_,hd,vs,_,dd⟩:=aas I.hok e
  refine ⟨dd.typeIs,fun b q=>?_,hd⟩
  cases q
  obtain ⟨ob,_,_,h1,h2,_⟩:=dd
  exact ⟨ob,h1,h2.2.1⟩
 ·obtain ⟨_,hd,xs,_,dd⟩:=aby I.hok e
  refine ⟨dd.typeIs,fun b q=>?_,hd⟩
  cases q
  obtain ⟨ob,_,_,h1,h2,_⟩:=dd
  exact ⟨ob,h1,h2.2.1⟩
section
variable {X:Cx}{pins:List (Addr × Obj)}{σ:St}{H:Hp}{s:Shared}{a:Addr}{y d:V}{u r:Value}{o:Option V}{A:Around}{E:Value->Shared->Prop}
theorem alb {Q:Value->Shared->Prop} (hu:A.units+1 < cLine) (I:Inv X pins σ H s) (g:ZY H a y o) (ry:jJ y u) (h:∀ w' s',Inv X pins σ H s'->jJ (o.getD .non) w'->Q w' s'):
  wpAny (model X.prog X.w) A (call (.builtin "dict.get") [.ref a,u]) Q E s:=by
 rcases g with ⟨kvs,k,e,ey,l⟩ | ⟨kvs,k,b,e,ey,eb,l⟩
 ·subst ey
  obtain ⟨z,hd,vs,rel,dd⟩:=aas I.hok e
  refine call_meetsIn PySem.F.slot_dict_get dd.typeIs PySem.F.entry_dict_get (PySem.F.args_dict_get_2 _ _) (meets_dict_get (jY X.prog X.w) a (abw ry) hd) ⟨_,dd.mapOf,h _ _ (I.tok _) ?_⟩
  rw [l]
  exact (rel.val k).getD rfl
 ·subst ey
  cases (show u=Value.ref b from ry)
  obtain ⟨z,hd,xs,rel,dd⟩:=aby I.hok e
  refine call_meetsIn PySem.F.slot_dict_get dd.typeIs PySem.F.entry_dict_get (PySem.F.args_dict_get_2 _ _) (meetsH_dict_get (tupleKind (jY X.prog X.w)) a b hd) ⟨tupleKind_room_in1 hu,k,xs,aat I.hok eb,dd,h _ _ (I.tok _) ?_⟩
  rw [l]
  exact (rel.val k).getD rfl
end
noncomputable def alc (td ty:TE):TE:=fun σ H Q=>td σ H fun x H1=>∃ a,x= .ref a/\IsD H1 a/\ty σ H1 fun y H2=>∃ o,ZY H2 a y o/\Q (o.getD .non) H2
section
variable {X:Cx}{o e f:Expr}{apos cpos:Pos}{td ty tx:TE}
theorem ahe (hu:X.A.units+1 < cLine) (ho:PE X o td) (he:PE X e ty) (m:M1 X o "get" apos e cpos):PE X (.Call (.Attribute o "get" apos) [e] [] cpos) (alc td ty):=by
 intro pins s σ H Q I h
 refine wpAny_Call_method m.base m.few m.line PySem.F.plainAttrs_dict PySem.F.slot_dict_get PySem.F.type_dict_get (thn (ho pins s σ H _ I h) fun u s1 ⟨x,H1,I1,rx,a,ex,d,q1⟩=>?_)
 subst ex
 obtain rfl:u=Value.ref a:=rx
 obtain ⟨t1,t2,_⟩:=ala I1 d
 refine ⟨t1,t2,?_⟩
 rw [m.trees]
 refine Calls.callWith_builtin rfl (Calls.evalArgs_plain (Calls.spliced_cons (thn (he pins s1 σ H1 _ I1 q1) fun iv s2 ⟨y,H2,I2,ry,ov,g,q2⟩=>Calls.spliced_nil ?_)))
 exact alb hu I2 g ry fun w' s3 I3 rw'=>⟨_,H2,I3,rw',q2⟩
end
section
variable {X:Cx}{pins:List (Addr × Obj)}{σ:St}{H:Hp}{s:Shared}{a:Addr}{kvs:List (Key × V)}{A:Around}{E:Value->Shared->Prop}
end
section
variable {X:Cx}{pins:List (Addr × Obj)}{σ:St}{H:Hp}{s:Shared}{a:Addr}{y:V}{u:Value}{A:Around}{E:Value->Shared->Prop}
end
end L2
namespace L2
open PySem PySem.Spec PyProof.Rows
section
variable {X:Cx}
end
section
variable {κ:Type} [DecidableEq κ]
end
end L2
end
section
namespace BX
open PySem PySem.Spec L2
open PyProof.Rows hiding St
noncomputable abbrev NoX:Value->Shared->Prop:=fun _ _=>False
noncomputable def ae4 (ts:List Expr) (en:Env):Sem Bool:=
 forIn ts true fun c r=>if r=true then do let ok ←isTrue c en (eval c en); pure (ForInStep.yield ok) else pure (ForInStep.yield r)
section
variable {prog:Program}{w:World}{A:Around}{s:Shared}{R:Result->Shared->Prop}
theorem abz {el tg src:Expr}{ts:List Expr}{sc:Scope}{ps:Pos}{it acc:Value}{en:Env} (J:Nat->Shared->Prop)
  (turn:∀ n s,J n s->wpAny (model prog w) A (pyNext it) (fun r s1=>match r with
   | none=>R (.ok .next) s1
   | some v=>wpAny (model prog w) A (letOwnedTupleGo tg it v) (fun _ sg=>wpAny (model prog w) A (assign tg en v) (fun _ s2=>
     wpAny (model prog w) A (ae4 ts en) (fun ok s3=>
      if ok=true then wpAny (model prog w) A (eval el en) (fun y s4=>
       wpAny (model prog w) A (call (.builtin "list.append") [acc,y]) (fun _ s5=>∃ m,m < n/\J m s5) NoX s4) NoX s3
      else ∃ m,m < n/\J m s3) NoX s2) NoX sg) NoX s1) NoX s)
  (n:Nat) (h:J n s):
  codeAny (model prog w) A (.compLoop (.ListComp el [⟨tg,src,ts,0⟩] sc ps) 0 it acc en) R s:=by
 refine codeAny_loop rfl J (fun n s hJ=>?_) n h
 show wpAny _ A
  ((compTurn (.ListComp el [⟨tg,src,ts,0⟩] sc ps) 0 it acc en).onRaise
   (fun x=>do noteFrame x en; theTreesLotGoes x)) _ _ s
 refine wpAny_noted ?_
 rw [compTurn_list]
 have no:∀ {E:Value->Shared->Prop} (e:Value) (s':Shared),NoX e s'->E e s':=fun _ _ z=>z.elim
 refine wpAny_bind (wpAny_standAt (wpAny_bind (wpAny_mono (turn n s hJ) (fun r s1 h1=>?_) no)))
 cases r with
 | none=>exact wpAny_pure h1
 | some v=>
  refine wpAny_bind (wpAny_mono h1 (fun _ sg hg=>?_) no)
  refine wpAny_bind (wpAny_mono hg (fun _ s2 h2=>?_) no)
  refine wpAny_bind (wpAny_mono h2 (fun ok s3 h3=>?_) no)
  cases ok with
  | false=>exact wpAny_pure ⟨rfl,h3⟩
  | true=>
   refine wpAny_bind (wpAny_bind (wpAny_mono h3 (fun y s4 h4=>?_) no))
   exact wpAny_bind (wpAny_mono h4 (fun _ s5 h5=>wpAny_pure (wpAny_pure ⟨rfl,h5⟩)) no)
end
noncomputable def JM (en:Env):List (Str × NameKind)->List (Str × Addr)->List (Str × Addr)
 | [],cs=>cs
 | (n,k)::r,cs=>JM en r (if k == .free then (n,(en.cells.lookup n).getD 0)::cs else cs)
theorem ae5 (sc:Scope) (en:Env) (h:∀ x ∈ sc.names,x.2= .free->∃ c,en.cells.lookup x.1=some c):closureFor sc en=pure (JM en sc.names []):=by
 have go:∀ (l:List (Str × NameKind)) (cs:List (Str × Addr)),(∀ x ∈ l,x.2= .free->∃ c,en.cells.lookup x.1=some c)->
   (forIn l cs (fun (x:Str × NameKind) (r:List (Str × Addr))=>(do
    if x.2 == .free then do
     let c ←cellOf en x.1
     pure (ForInStep.yield ((x.1,c)::r))
    else pure (ForInStep.yield r):Sem (ForInStep (List (Str × Addr))))):Sem _)=pure (JM en l cs):=by
  intro l
  induction l with
  | nil=>intro cs _; rfl
  | cons x l ih=>
   intro cs hl
   obtain ⟨n,k⟩:=x
   rw [List.forIn_cons]
   by_cases hk:(k == NameKind.free)=true
   ·obtain ⟨c,e⟩:=hl (n,k) List.mem_cons_self (by simpa using hk)
    have e':en.cells.lookup n=some c:=e
    simp only [hk,zzM,cellOf,e',pure_bind,JM,Option.getD_some]
    exact ih _ fun y hy=>hl y (List.mem_cons_of_mem _ hy)
   ·simp only [hk,pure_bind,JM,zzL,zzN]
    exact ih _ fun y hy=>hl y (List.mem_cons_of_mem _ hy)
 have:=go sc.names [] h
 unfold closureFor
 rw [←this]
 first
  | (simp only [bind_pure_comp,id_map',map_pure]; done)
  | (simp only [bind_pure_comp,id_map',map_pure]; exact bind_pure _)
theorem Zn (en:Env):∀ (l:List (Str × NameKind)) (cs:List (Str × Addr)),(∀ x ∈ l,x.2= .free->∃ c,en.cells.lookup x.1=some c)->(∀ p ∈ cs,en.cells.lookup p.1=some p.2)->
  ∀ p ∈ JM en l cs,en.cells.lookup p.1=some p.2
 | [],_,_,h,p,hp=>h p hp
 | (n,k)::r,cs,hl,h,p,hp=>by
  refine Zn en r _ (fun y hy=>hl y (List.mem_cons_of_mem _ hy)) (fun q hq=>?_) p hp
  by_cases hk:(k == NameKind.free)=true
  ·rw [if_pos hk] at hq
   rcases List.mem_cons.mp hq with rfl | hq
   ·obtain ⟨c,e⟩:=hl (n,k) List.mem_cons_self (by simpa using hk)
    have e':en.cells.lookup n=some c:=e
    show en.cells.lookup n=some ((en.cells.lookup n).getD 0)
    rw [e']; rfl
   ·exact h q hq
  ·rw [if_neg hk] at hq
   exact h q hq
theorem ZN (en:Env):∀ (l:List (Str × NameKind)) (cs:List (Str × Addr)) (x:Str),(∃ c,(x,c) ∈ cs)->∃ c,(x,c) ∈ JM en l cs
 | [],_,_,h=>h
 | (n,k)::r,cs,x,⟨c,h⟩=>by
  refine ZN en r _ x ?_
  by_cases hk:(k == NameKind.free)=true
  ·rw [if_pos hk]; exact ⟨c,List.mem_cons_of_mem _ h⟩
  ·rw [if_neg hk]; exact ⟨c,h⟩
theorem Jj (en:Env):∀ (l:List (Str × NameKind)) (cs:List (Str × Addr)) (x:Str),(x,NameKind.free) ∈ l->∃ c,(x,c) ∈ JM en l cs
 | (n,k)::r,cs,x,h=>by
  rcases List.mem_cons.mp h with e | h
  ·obtain ⟨e1,e2⟩:=Prod.mk.inj e
   subst e1; subst e2
   exact ZN en r _ _ ⟨_,by rw [if_pos (by rfl)]; exact List.mem_cons_self⟩
  ·exact Jj en r _ x h
theorem qH {β:Type}:∀ {l:List (Str × β)}{x:Str}{c:β},(x,c) ∈ l->∃ d,l.lookup x=some d
 | (n,k)::r,x,c,h=>by
  by_cases e:x=n
  ·subst e; exact ⟨k,by simp [List.lookup_cons]⟩
  ·have eb:(x == n)=false:=by simpa using e
   rcases List.mem_cons.mp h with z | h
   ·cases z; exact absurd rfl e
   ·obtain ⟨d,hd⟩:=qH h
    exact ⟨d,by simp only [List.lookup_cons,eb]; exact hd⟩
theorem zS {sc:Scope}{en:Env}{x:Str}{k:NameKind} (h:(x,k) ∈ (relabel sc en).names) (hc:∀ y ∈ sc.names,y.2 ≠ .cell) (hk:k= .cell ∨ k= .free):(x,NameKind.free) ∈ sc.names:=by
 obtain ⟨⟨n,j⟩,hm,e⟩:=List.mem_map.mp h
 by_cases q:(j == NameKind.free && en.scope.kind == .function && en.kindOf n == some .cell)=true
 ·have e1:(n,NameKind.cell)=(x,k):=by simpa only [q,zzM] using e
  cases e1
  have hj:j= .free:=by
   simp only [Bool.and_eq_true] at q
   simpa using q.1.1
  rw [←hj]; exact hm
 ·have e1:(n,j)=(x,k):=by simpa only [q,zzL,zzN] using e
  cases e1
  rcases hk with rfl | rfl
  ·exact absurd rfl (hc _ hm)
  ·exact hm
theorem Jv {en:Env}:∀ {l:List (Str × NameKind)}{x:Str},l.lookup x=some .free->
  (l.map fun (n,k)=>if (k == NameKind.free && en.scope.kind == .function && en.kindOf n == some .cell) then (n,NameKind.cell) else (n,k)).lookup x=some .cell ∨
  (l.map fun (n,k)=>if (k == NameKind.free && en.scope.kind == .function && en.kindOf n == some .cell) then (n,NameKind.cell) else (n,k)).lookup x=some .free
 | (n,k)::r,x,h=>by
  rw [List.map_cons]
  cases hx:x == n with
  | true=>
   simp only [List.lookup_cons,hx] at h
   cases h
   by_cases q:(NameKind.free == NameKind.free && en.scope.kind == .function && en.kindOf n == some .cell)=true
   ·left; simp only [q,zzM,List.lookup_cons,hx]
   ·right; simp only [q,zzL,zzN,List.lookup_cons,hx]
  | false=>
   simp only [List.lookup_cons,hx] at h
   rcases Jv (en:=en) h with g | g
   ·left
    by_cases q:(k == NameKind.free && en.scope.kind == .function && en.kindOf n == some .cell)=true
    ·simp only [q,zzM,List.lookup_cons,hx]; exact g
    ·simp only [q,zzL,zzN,List.lookup_cons,hx]; exact g
   ·right
    by_cases q:(k == NameKind.free && en.scope.kind == .function && en.kindOf n == some .cell)=true
    ·simp only [q,zzM,List.lookup_cons,hx]; exact g
    ·simp only [q,zzL,zzN,List.lookup_cons,hx]; exact g
noncomputable def blk (X:Cx) (N':List Str) (sc:Scope) (cl:List (Str × Addr)) (C:Addr) (s0:Shared) (H0:Hp) (fp:List Addr) (pn:List (Addr × Obj)):Cx:=
 { X with N:=N',s₀:=s0,H₀:=H0,env:=compEnvC sc cl C X.env,outer:=X.stack,ex:=fp,fn:=fun _=>false,pn:=pn,xe:=NoX }
noncomputable def ZZ (cap:List (Option Nat)) (σ:St):St:=cap.map fun o=>o.bind fun i=>(σ[i]?).join
noncomputable def PTs (X:Cx) (ts:List Expr) (t:TT):Prop:=
 ∀ (pins:List (Addr × Obj)) (s:Shared) (σ:St) (H:Hp) (Q:Bool->Hp->Prop),Inv X pins σ H s->t σ H Q->wpAny (model X.prog X.w) X.A (ae4 ts X.env) (TP X pins σ Q) X.xe s
noncomputable def amx:TT:=fun _ H Q=>Q true H
theorem ajj {X:Cx}:PTs X [] amx:=fun _ _ _ H _ I h=>wpAny_pure ⟨H,I,h⟩
theorem ajk {X:Cx}{c:Expr}{t:TT} (h:PT X c t):PTs X [c] t:=fun pins s σ H Q I hq=>wpAny_tests_one (h pins s σ H Q I hq)
structure CompOk (X:Cx) (sc:Scope) (N':List Str) (cap:List (Option Nat)):Prop where
 fr:∀ x ∈ sc.names,x.2= .free->X.env.kindOf x.1=some .cell ∨ X.env.kindOf x.1=some .free
 nc:∀ x ∈ sc.names,x.2 ≠ .cell
 kind:sc.kind= .function
 nm:∀ x ∈ sc.names,x.2= .local->sc.names.lookup x.1=some .local
 len:cap.length=N'.length
 cp:∀ (j i:Nat) (x:Str),N'[j]?=some x->cap[j]?=some (some i)->X.N[i]?=some x/\sc.names.lookup x=some .free
noncomputable def ahf (wi:TI) (cap:List (Option Nat)) (g:TG) (tt:TT) (te:TE):TE:=fun σ H Q=>wi σ H fun J H1=>
 ∃ W:Nat->Nat->St->List V->Hp->Prop,(∃ m,W 0 m (ZZ cap σ) [] H1)/\∀ i m τ ys H,W i m τ ys H->ys.length < sizeLine/\
  ((J.stop i H/\∀ l,H l=none->Q (.ref l) (upd H l (.lst ys))) ∨
   (J.go i H/\∀ x H',J.yld i H x H'->g x τ H' fun τ2 H2=>tt τ2 H2 fun b H3=>if b=true then te τ2 H3 fun y H4=>∃ m',m' < m/\W (i+1) m' τ2 (ys++[y]) H4 else ∃ m',m' < m/\W (i+1) m' τ2 ys H3))
theorem Inv.track {X:Cx}{pins:List (Addr × Obj)}{σ:St}{H:Hp}{s:Shared}{D:Addr}{o:HO} (I:Inv X pins σ H s) (hn:H D=none) (h1:X.s₀.heap.objs.size<=D) (h2:D ≠ X.env.locals) (h3:∀ x c,X.env.cells.lookup x=some c->c ≠ D)
  (h4:∀ p ∈ X.pn++pins,p.1 ≠ D) (new:qt X.prog X.w (upd H D o) s.heap D o):Inv X pins σ (upd H D o) s:=by
 have nd:∀ b u,H b=some u->b ≠ D:=fun b u e z=>by rw [z,hn] at e; cases e
 have hok:HOk X.prog X.w (upd H D o) s.heap:=fun b u e=>by
  by_cases hb:b=D
  ·subst hb; rw [jp] at e; cases e; exact new
  ·rw [jn hb] at e
   exact (I.hok b u e).stay (fun _ _ _ q=>q) (fun c q=>by rw [jn (nd c _ q)]; exact q) fun c xs q=>by rw [jn (nd c _ q)]; exact q
 refine I.step (h':=s.heap) (g':=s.gens) (d':=s.drawn) (t':=s.toks) (ch:=[D]) (fun b hb=>?_) (fun b o _ _ _ e _=>e) (fun b o _ _ _ e _=>⟨o.slots,e⟩) (fun b o hc _ n=>?_) (fun b o _ e=>⟨o,e⟩) (fun b xs e=>by rw [jn (nd b _ e)]; exact e)
  (fun b ob u e=>by rw [jn (nd b _ e)]; exact e) (fun b ps e=>⟨#[],by rw [jn (nd b _ e),e]; simp⟩) (fun m hm=>hm) hok I.bare
 ·have e:b=D:=by simpa using hb
  subst e
  exact ⟨.inr h1,h2,h3,h4⟩
 ·have e:b ≠ D:=by simpa using hc
  rw [jn e]; exact n
theorem ajl {X : Cx} {el tg src : Expr} {ts : List Expr} {sc : Scope} {ps : Pos} {wi : TI} {g : TG} {tt : TT} {te : TE} {N' : List Str} {cap : List (Option Nat)} (hc : X.calm = true) (hi : PI X tg src wi) (ok : CompOk X sc N' cap)
    (body : ∀ cl C s0 H0 fp pn, PG (blk X N' sc cl C s0 H0 fp pn) tg g /\ PTs (blk X N' sc cl C s0 H0 fp pn) ts tt /\ PE (blk X N' sc cl C s0 H0 fp pn) el te)
    (hs : ∀ x, foldedSetIterable src X.env x = pure x := by intro _; rfl) : PE X (.ListComp el [⟨tg, src, ts, 0⟩] sc ps) (ahf wi cap g tt te) := by
  intro pins s σ H Q I h
  have hfr : ∀ x ∈ sc.names, x.2 = .free -> ∃ c, X.env.cells.lookup x.1 = some c := fun x hx e => I.ok.has x.1 (ok.fr x hx e)
  have hcl := ae5 sc X.env hfr
  have clm : ∀ x c, (JM X.env sc.names []).lookup x = some c -> X.env.cells.lookup x = some c := fun x c e =>
    Zn X.env sc.names [] hfr (fun _ z => nomatch z) (x, c) (PySem.mem_of_lookup e)
  generalize hgl : JM X.env sc.names [] = cl at hcl clm
  rw [eval_ListComp]
  refine wpAny_comprehension_free (use := none) rfl hs hcl ok.kind ok.nm ?_
  refine thn (hi pins s σ H _ I h) fun v s1 h1 => thn h1 fun itv s2 h2 => ?_
  obtain ⟨it, fp, tn, J, H2, e, I2, T, st2, f2, W, ⟨m0, w0⟩, turn⟩ := h2
  subst e
  refine wpAny_newObj_type (wpAny_newFunctionEnv ok.nc (by intro y hy; simp at hy) (fun h4 hns hsb => ?_) ok.kind)
  dsimp only at hns hsb ⊢
  generalize hH3 : s2.heap.push { cls := .type "list", dict := none, data := .seq ([] : List Value).toArray } = h3 at hns hsb ⊢
  have hC : h3.objs.size = s2.heap.objs.size + 1 := by rw [← hH3, Heap.size_push]
  generalize hCC : h3.objs.size = C at hns hsb hC ⊢
  generalize hDD : s2.heap.objs.size = D at hC ⊢
  have hDC : D ≠ C := by rw [hC]; exact Nat.ne_of_lt (Nat.lt_succ_self _)
  have old : ∀ b o, s2.heap.get? b = some o -> h4.get? b = some o := fun b o e => hsb.extBut b o (by have := Heap.lt_size e; rw [hDD] at this; rw [hC]; exact Nat.ne_of_lt (Nat.lt_succ_of_lt this)) (Heap.get?_push_of_some _ (hH3 ▸ Heap.get?_push_of_some _ e))
  have accO : h4.get? D = some { cls := .type "list", data := .seq ([] : List Value).toArray 0 } := hsb.extBut _ _ hDC (Heap.get?_push_of_some _ (by rw [← hH3, ← hDD]; exact Heap.get?_push_size _ rfl))
  have H2D : H2 D = none := I2.hok.fresh (by rw [hDD]; exact Nat.le_refl _)
  have H2C : H2 C = none := I2.hok.fresh (by rw [hDD, hC]; exact Nat.le_succ _)
  have cellsLt : ∀ x c, X.env.cells.lookup x = some c -> c < D := fun x c e => by
    obtain ⟨v, q⟩ := I2.cell x c e
    rw [← hDD]; exact q.lt
  have pinLt : ∀ p ∈ X.pn ++ pins, p.1 < D := fun p hp => by rw [← hDD]; exact Heap.lt_size (I2.pin p hp).1
  have stkLt : ∀ b ∈ frs X.stack, b < D := fun b hb => by
    obtain ⟨_, o, ho, _⟩ := I2.stack.mem hb
    rw [← hDD]; exact Heap.lt_size ho
  have fpLt : ∀ b ∈ fp, b < D := fun b hb => by
    obtain ⟨o, ho, _⟩ := T.obj _ _ st2 b hb
    rw [← hDD]; exact Heap.lt_size ho
  have ltC : ∀ {b : Addr}, b < D -> b ≠ C := fun hb => by rw [hC]; exact Nat.ne_of_lt (Nat.lt_succ_of_lt hb)
  have locLt : X.env.locals < D := by rw [← hDD]; exact I2.lt
  have hDge : s2.heap.objs.size <= D := by rw [hDD]; exact Nat.le_refl _
  have hCge : s2.heap.objs.size <= C := by rw [hDD, hC]; exact Nat.le_succ _
  have bok : (blk X N' sc cl C s2 H2 fp (X.pn ++ pins)).Ok := by
    refine ⟨I2.ok.mod, ok.kind, I2.ok.glob, I2.ok.blt, hCge, fun x y c e1 e2 => I2.ok.inj x y c (clm x c e1) (clm y c e2), fun x hx => ?_, fun x c z _ => ?_, I2.ok.hd, I2.ok.frames, .inl rfl, fun b hb => ?_, I2.bs, Nat.le_trans I2.ok.bsz I2.sz, fun b o e hb => ?_, fun b hb z => ?_, I2.stack, I2.stkFree⟩
    · have hx' : (relabel sc X.env).names.lookup x = some .cell ∨ (relabel sc X.env).names.lookup x = some .free := hx
      have hm : (x, NameKind.free) ∈ sc.names := by
        rcases hx' with z | z
        · exact zS (PySem.mem_of_lookup z) ok.nc (.inl rfl)
        · exact zS (PySem.mem_of_lookup z) ok.nc (.inr rfl)
      obtain ⟨c, hc⟩ := Jj X.env sc.names [] x hm
      rw [hgl] at hc
      exact qH hc
    · exact absurd (show false = true from z) Bool.false_ne_true
    · exact ⟨ltC (fpLt b hb), fun x c e => (f2 b hb).2.2.2.2.1 x c (clm x c e)⟩
    · rcases (f2 b hb).2.2.2.1 with z | z
      · exact I2.ok.noex b o e z
      · have := Heap.lt_size e
        exact absurd (Nat.lt_of_lt_of_le this (Nat.le_trans I2.ok.bsz z)) (Nat.lt_irrefl _)
    · rcases List.mem_cons.mp (I2.stkSub b z) with q | q
      · exact (f2 b hb).2.1 q
      · exact (f2 b hb).2.2.1 q
  have pinB : ∀ p ∈ X.pn ++ pins, p.1 ≠ C /\ p.1 ∉ frs X.stack := fun p hp => ⟨ltC (pinLt p hp), fun z => by
    rcases List.mem_cons.mp (I2.stkSub p.1 z) with q | q
    · exact (I2.pin p hp).2.2.1 q
    · exact (I2.pin p hp).2.2.2.1 q⟩
  have I4 : Inv (blk X N' sc cl C s2 H2 fp (X.pn ++ pins)) [] (ZZ cap σ) H2 { s2 with heap := h4, toks := s2.toks + ([] : List (Str × Value)).length } := by
    refine ⟨bok, rfl, I2.bare, Un.kept old, ⟨_, hns, fun j x v e1 e2 e3 => ?_⟩, fun x c e => ?_, H2C, fun x c e => I2.freeC x c (clm x c e), fun p hp => ?_, I2.hok.kept old, ?_⟩
    · unfold ZZ at e2
      rw [List.getElem?_map] at e2
      cases e4 : cap[j]? with
      | none => rw [e4] at e2; cases e2
      | some o =>
        rw [e4] at e2
        cases o with
        | none => cases e2
        | some i =>
          obtain ⟨hNi, hf⟩ := ok.cp j i x e1 e4
          have e5 : (σ[i]?).join = some v := by
            have := Option.some.inj e2
            simpa using this
          have e6 : σ[i]? = some (some v) := by
            cases e7 : σ[i]? with
            | none => rw [e7] at e5; cases e5
            | some z => rw [e7] at e5; cases z with
              | none => cases e5
              | some z => cases e5; rfl
          have hk := ok.fr (x, .free) (PySem.mem_of_lookup hf) rfl
          obtain ⟨m, hn, hl⟩ := I2.loc
          have hv : Vis X.env.scope x := by
            rcases hk with z | z
            · exact .inr (.inl z)
            · exact .inr (.inr z)
          obtain ⟨u, r, lk⟩ := hl i x v hNi e6 hv
          have cellX : ∃ c, X.env.cells.lookup x = some c /\ s2.heap.IsCell c (some u) := by
            rcases lk with ⟨k1, _⟩ | ⟨_, c, e, z⟩
            · rcases hk with z | z
              · have z' : X.env.kindOf x = some .cell := z
                rw [k1] at z'; cases z'
              · have z' : X.env.kindOf x = some .free := z
                rw [k1] at z'; cases z'
            · exact ⟨c, e, z⟩
          obtain ⟨c, hc1, ob, hc2, hc3⟩ := cellX
          obtain ⟨c', hc'⟩ := Jj X.env sc.names [] x (PySem.mem_of_lookup hf)
          rw [hgl] at hc'
          obtain ⟨d, hd⟩ := qH hc'
          have ed : d = c := by
            have := clm x d hd
            rw [hc1] at this; cases this; rfl
          subst ed
          refine ⟨u, r, .inr ⟨?_, d, hd, ob, old _ _ hc2, hc3⟩⟩
          exact Jv hf
    · obtain ⟨v, ob, ho, hd⟩ := I2.cell x c (clm x c e)
      exact ⟨v, ob, old _ _ ho, hd⟩
    · have hp' : p ∈ X.pn ++ pins := by simpa [blk] using hp
      obtain ⟨e1, e2, e3, e4, e5⟩ := I2.pin p hp'
      exact ⟨old _ _ e1, e2, (pinB p hp').1, (pinB p hp').2, e5⟩
    · show (ZZ cap σ).length = N'.length
      unfold ZZ
      rw [List.length_map]; exact ok.len
  have fpB : ∀ {H' : Hp} {pl : List (Addr × Obj)}, (∀ b ∈ fp, H' b = none) -> (∀ p ∈ pl, p.1 ∉ fp) -> ∀ b ∈ fp, ac0 (blk X N' sc cl C s2 H2 fp (X.pn ++ pins)) pl H' b := fun {H' pl} hn hpl b hb =>
    ⟨hn b hb, ltC (fpLt b hb), bok.exfs b hb, .inl hb, fun x c e => (f2 b hb).2.2.2.2.1 x c (clm x c e), fun p hp z => by
      rcases List.mem_append.mp (show p ∈ (X.pn ++ pins) ++ pl from hp) with q | q
      · exact (f2 b hb).2.2.2.2.2 p q z
      · exact hpl p q (by rw [z]; exact hb)⟩
  have Dfp : ∀ (o : Obj), ∀ p ∈ [(D, o)], p.1 ∉ fp := fun o p hp z => by
    have e : p = (D, o) := by simpa using hp
    subst e
    exact Nat.lt_irrefl _ (fpLt D z)
  have Dfs : D ∉ frs X.stack := fun z => Nat.lt_irrefl _ (stkLt D z)
  obtain ⟨bG, bT, bE⟩ := body cl C s2 H2 fp (X.pn ++ pins)
  have loop : codeAny (model X.prog X.w) X.A (.compLoop (.ListComp el [⟨tg, src, ts, 0⟩] sc ps) 0 (.ref it) (.ref D) (compEnvC sc cl C X.env)) (compPost (model X.prog X.w) X.A X.xe none (EP X pins σ Q) (.ref D) C)
      { s2 with heap := h4, toks := s2.toks + ([] : List (Str × Value)).length } := by
    refine abz (fun n s' => ∃ i τ ys us k H', Inv (blk X N' sc cl C s2 H2 fp (X.pn ++ pins)) [] τ H' s' /\ tn i s'.heap /\ (∀ b ∈ fp, H' b = none) /\ jF ys us /\ s'.heap.get? D = some { cls := .type "list", data := .seq us.toArray k } /\ H' D = none /\ W i n τ ys H') ?_ m0
      ⟨0, _, [], [], 0, H2, I4, T.keep _ _ _ st2 (fun b _ o e => old b o e), fun b hb => (f2 b hb).1, .nil, accO, H2D, w0⟩
    rintro n s5 ⟨i, τ, ys, us, k, H5, I5, st5, fr5, rv5, ho5, hD5, w5⟩
    obtain ⟨hsz, alt⟩ := turn i n τ ys H5 w5
    have I5p : Inv (blk X N' sc cl C s2 H2 fp (X.pn ++ pins)) [(D, { cls := .type "list", data := .seq us.toArray k })] τ H5 s5 := I5.pins_of fun p hp => by
      have e : p = (D, { cls := .type "list", data := .seq us.toArray k }) := by simpa using hp
      subst e
      exact ⟨ho5, hD5, hDC, Dfs, fun v z => by cases z⟩
    rcases alt with ⟨stop, fin⟩ | ⟨go, step⟩
    · refine thn (T.done (blk X N' sc cl C s2 H2 fp (X.pn ++ pins)) rfl rfl rfl hc i _ s5 τ H5 NoX I5p (fpB fr5 (Dfp _)) st5 stop) fun r s6 ⟨hr, I6⟩ => ?_
      subst hr
      have ho6 := (I6.pin (D, _) (List.mem_append_right _ (List.mem_singleton.mpr rfl))).1
      obtain ⟨m6, hn6, _⟩ := I6.loc
      refine ⟨m6, hn6, fun h7 hs7 => ?_⟩
      have J6 : Inv X pins σ H5 s6 := I2.call' (ch := fp) I6.os I6.base I6.hok I6.bare fun b hb => ⟨(f2 b hb).2.2.2.1, (f2 b hb).2.1, (f2 b hb).2.2.2.2.1, (f2 b hb).2.2.2.2.2⟩
      have H5C : H5 C = none := I6.free
      have cne : ∀ {b : Addr}, b < D -> b ≠ C := ltC
      have J7 : Inv X pins σ H5 { s6 with heap := h7, toks := s6.toks } := J6.turned (it := C) (fun b o hb e => hs7.extBut b o hb e) H5C (Ne.symm (ltC locLt)) (.inr (Nat.le_trans I2.sz hCge)) (fun x c e => ltC (cellsLt x c e)) (fun p hp => ltC (pinLt p hp))
      have ho7 : h7.get? D = some { cls := .type "list", data := .seq us.toArray k } := hs7.extBut D _ hDC ho6
      refine ⟨.ref D, upd H5 D (.lst ys), ?_, rfl, fin D hD5⟩
      exact Inv.track J7 hD5 (Nat.le_trans I2.sz hDge) (Ne.symm (Nat.ne_of_lt locLt)) (fun x c e => Nat.ne_of_lt (cellsLt x c e)) (fun p hp => Nat.ne_of_lt (pinLt p hp)) ⟨Nat.le_of_lt hsz, us, k, rv5, ho7⟩
    · refine thn (T.item (blk X N' sc cl C s2 H2 fp (X.pn ++ pins)) rfl rfl rfl hc i _ s5 τ H5 NoX I5p (fpB fr5 (Dfp _)) st5 go) fun r s6 ⟨u, hr, h6⟩ => ?_
      subst hr
      refine thn h6 fun _ s7 ⟨x, H7, I7, r7, y7, st7, fr7⟩ => ?_
      have I7p := I7.pinned (fpB fr7 (Dfp _)) (T.obj _ _ st7)
      refine thn (bG _ s7 τ H7 x u _ I7p r7 (step x H7 y7)) fun _ s8 ⟨τ8, H8, I8, q8⟩ => ?_
      have back : ∀ {τ9 : St} {H9 : Hp} {s9 : Shared}, Inv (blk X N' sc cl C s2 H2 fp (X.pn ++ pins)) ([(D, { cls := .type "list", data := .seq us.toArray k })] ++ Zl fp s7.heap) τ9 H9 s9 ->
          tn (i + 1) s9.heap /\ (∀ b ∈ fp, H9 b = none) /\ s9.heap.get? D = some { cls := .type "list", data := .seq us.toArray k } /\ H9 D = none := fun {τ9 H9 s9} I9 => by
        have pD := I9.pin (D, { cls := .type "list", data := .seq us.toArray k }) (List.mem_append_right _ (List.mem_append_left _ (List.mem_singleton.mpr rfl)))
        refine ⟨T.keep _ _ _ st7 fun b hb o e => (I9.pin (b, o) (List.mem_append_right _ (List.mem_append_right _ (qY hb e)))).1, fun b hb => ?_, pD.1, pD.2.1⟩
        obtain ⟨o, e, _⟩ := T.obj _ _ st7 b hb
        exact (I9.pin (b, o) (List.mem_append_right _ (List.mem_append_right _ (qY hb e)))).2.1
      have drop : ∀ {τ9 : St} {H9 : Hp} {s9 : Shared} {pl : List (Addr × Obj)}, Inv (blk X N' sc cl C s2 H2 fp (X.pn ++ pins)) pl τ9 H9 s9 -> Inv (blk X N' sc cl C s2 H2 fp (X.pn ++ pins)) [] τ9 H9 s9 := fun I9 => I9.pins_of fun p hp => nomatch hp
      refine thn (bT _ s8 τ8 H8 _ I8 q8) fun b s9 ⟨H9, I9, q9⟩ => ?_
      cases b with
      | false =>
        rw [if_neg Bool.false_ne_true] at q9 ⊢
        obtain ⟨m', hm, w9⟩ := q9
        obtain ⟨t9, f9, o9, d9⟩ := back I9
        exact ⟨m', hm, i + 1, τ8, ys, us, k, H9, drop I9, t9, f9, rv5, o9, d9, w9⟩
      | true =>
        rw [if_pos rfl] at q9 ⊢
        refine thn (bE _ s9 τ8 H9 _ I9 q9) fun y s10 ⟨z, H10, I10, r10, q10⟩ => ?_
        obtain ⟨m', hm, w10⟩ := q10
        obtain ⟨t10, f10, o10, d10⟩ := back I10
        have hl := rv5.length
        refine append_at (hsz := by show us.toArray.size <= sizeLine; rw [List.size_toArray, ← hl]; exact Nat.le_of_lt hsz) o10 fun h11 hs11 hD11 => ?_
        have I11 : Inv (blk X N' sc cl C s2 H2 fp (X.pn ++ pins)) [] τ8 H10 { s10 with heap := h11, toks := s10.toks } := (drop I10).turned (it := D) (fun b o hb e => hs11.extBut b o hb e) d10 hDC (.inr hDge) (fun x c e => Nat.ne_of_lt (cellsLt x c (clm x c e)))
          (fun p hp => by have hp' : p ∈ X.pn ++ pins := by simpa [blk] using hp
                          exact Nat.ne_of_lt (pinLt p hp'))
        refine ⟨m', hm, i + 1, τ8, ys ++ [z], us ++ [y], k + 1, H10, I11, T.keep _ _ _ t10 (fun b hb o e => hs11.extBut b o (Nat.ne_of_lt (fpLt b hb)) e), f10, rv5.append (.cons r10 .nil), ?_, d10, w10⟩
        rw [hD11]
        simp
  refine codeAny_compStart_list loop ?_
  exact T.self _ 0 _ _ _ (T.keep _ _ _ st2 (fun b _ o e => old b o e)) loop
theorem jr.tup {K:PySem.W.Frag}{H H':Hp}{a:Addr}{xs:List V} (e:jr H H') (h:SqT K H a xs):SqT K H' a xs:=by
 rcases h with (h | ⟨o,h⟩) | h
 ·exact .inl (.inl (e _ _ h))
 ·exact .inl (.inr ⟨o,e _ _ h⟩)
 ·exact .inr h
noncomputable def scr (ns:List Int):PyData:= .dict (ns.map fun n=>(.int n,.none))
mutual
noncomputable def Rep (K:PySem.W.Frag) (H:Hp):PyData->V->Prop
 | .none,v=>v= .non
 | .bool b,v=>v= .bl b
 | .int i,v=>v= .int i
 | .str x,v=>v= .str x
 | .tuple ds,v=>∃ a xs,v= .ref a/\SqT K H a xs/\Reps K H ds xs
 | .list ds,v=>∃ a xs,v= .ref a/\H a=some (.lst xs)/\Reps K H ds xs
 | .dict kvs,v=>∃ a,v= .ref a/\((∃ ns:List Int,SqL K H a (List.map V.int ns)/\kvs=ns.map (fun n=>(PyData.int n,PyData.none))) ∨ (∃ ks ob,H a=some (.frz ob (.dK ks))/\RepD K H kvs ks) ∨ (∃ x:Str,kvs=[(.str x,.none)]/\PySem.W.nsIn K mainGlobals x=some (some (.ref a))) ∨ ∃ (x:Str) (C:Addr) (oe:Obj),kvs=[(.str x,.bool true)]/\H a=some (.frz oe (.own a))/\PySem.W.nsIn K mainGlobals x=some (some (.ref C))/\oe.cls= .ref C/\oe.dict=none/\∃ vs,oe.data= .fields vs)
noncomputable def Reps (K:PySem.W.Frag) (H:Hp):List PyData->List V->Prop
 | [],xs=>xs=[]
 | d::ds,xs=>∃ x r,xs=x::r/\Rep K H d x/\Reps K H ds r
noncomputable def RepD (K:PySem.W.Frag) (H:Hp):List (PyData × PyData)->List (Key × V)->Prop
 | [],_=>False
 | (.none,_)::r,ks=>RepM K H r ks
 | _::_,_=>False
noncomputable def RepM (K:PySem.W.Frag) (H:Hp):List (PyData × PyData)->List (Key × V)->Prop
 | [],ks=>ks=[]
 | (k,d)::r,ks=>∃ i x s,k= .int i/\ks=(Sum.inl i,x)::s/\Rep K H d x/\RepM K H r s
end
noncomputable def zh (kvs:List (PyData × PyData)):Bool:=kvs.all fun p=>match p with
 | (.int _,.none)=>true
 | _=>false
theorem abA (ns:List Int):zh (ns.map fun n=>(PyData.int n,PyData.none))=true:=by
 simp [zh]
theorem RepD.out {K:PySem.W.Frag}{H:Hp}:∀ {kvs:List (PyData × PyData)}{ks:List (Key × V)},RepD K H kvs ks->∃ c r,kvs=(.none,c)::r/\RepM K H r ks
 | [],_,h=>h.elim
 | (.none,c)::r,ks,h=>⟨c,r,rfl,h⟩
 | (.bool _,_)::_,_,h=>h.elim
 | (.int _,_)::_,_,h=>h.elim
 | (.str _,_)::_,_,h=>h.elim
 | (.list _,_)::_,_,h=>h.elim
 | (.tuple _,_)::_,_,h=>h.elim
 | (.dict _,_)::_,_,h=>h.elim
theorem Rep.scrOut {K:PySem.W.Frag}{H:Hp}{kvs:List (PyData × PyData)}{v:V} (h:Rep K H (.dict kvs) v) (hs:zh kvs=true):∃ a ns,v= .ref a/\SqL K H a (List.map V.int ns)/\kvs=ns.map (fun n=>(PyData.int n,PyData.none)):=by
 obtain ⟨a,h1,h2 | ⟨ks,ob,h2,h3⟩ | ⟨x,h2,_⟩ | ⟨x,_,_,h2,_⟩⟩:=h
 ·obtain ⟨ns,q1,q2⟩:=h2; exact ⟨a,ns,h1,q1,q2⟩
 ·obtain ⟨c,r,rfl,_⟩:=h3.out
  simp [zh] at hs
 ·subst h2; simp [zh] at hs
 ·subst h2; simp [zh] at hs
noncomputable def anr (x:Str):PyData:= .dict [(.str x,.bool true)]
noncomputable def fnD (x:Str):PyData:= .dict [(.str x,.none)]
noncomputable def jC (H H':Hp):Prop:=∀ b o,H b=some o->(∀ φ,o ≠ .ext φ)->H' b=some o
theorem jr.e {H H':Hp} (s:jr H H'):jC H H':=fun b o h _=>s b o h
theorem jC.refl (H:Hp):jC H H:=fun _ _ h _=>h
theorem jC.trans {H H1 H2:Hp} (a:jC H H1) (b:jC H1 H2):jC H H2:=fun c o h n=>b c o (a c o h n) n
theorem jC.tup {K:PySem.W.Frag}{H H':Hp}{a:Addr}{xs:List V} (e:jC H H') (h:SqT K H a xs):SqT K H' a xs:=by
 rcases h with (h | ⟨o,h⟩) | h
 ·exact .inl (.inl (e _ _ h fun _ z=>nomatch z))
 ·exact .inl (.inr ⟨o,e _ _ h fun _ z=>nomatch z⟩)
 ·exact .inr h
theorem jC.sql {K:PySem.W.Frag}{H H':Hp}{a:Addr}{xs:List V} (e:jC H H') (h:SqL K H a xs):SqL K H' a xs:=by
 rcases h with (h | ⟨o,h⟩) | h
 ·exact .inl (.inl (e _ _ h fun _ z=>nomatch z))
 ·exact .inl (.inr ⟨o,e _ _ h fun _ z=>nomatch z⟩)
 ·exact .inr h
section
variable {K:PySem.W.Frag}{H H':Hp}
mutual
theorem Rep.mono (e:jr H H'):∀ (d:PyData) (v:V),Rep K H d v->Rep K H' d v
 | .none,v,h=>h
 | .bool _,v,h=>h
 | .int _,v,h=>h
 | .str _,v,h=>h
 | .tuple ds,v,⟨a,xs,h1,h2,h3⟩=>⟨a,xs,h1,jr.tup e h2,Reps.mono e ds xs h3⟩
 | .list ds,v,⟨a,xs,h1,h2,h3⟩=>⟨a,xs,h1,e _ _ h2,Reps.mono e ds xs h3⟩
 | .dict kvs,v,⟨a,h1,h2⟩=>⟨a,h1,h2.imp (fun ⟨ns,q1,q2⟩=>⟨ns,e.seq q1,q2⟩) fun z=>z.imp (fun ⟨ks,ob,q1,q2⟩=>⟨ks,ob,e _ _ q1,RepD.mono e kvs ks q2⟩) fun y=>y.imp id fun ⟨x,C,oe,q1,q2,q3⟩=>⟨x,C,oe,q1,e _ _ q2,q3⟩⟩
theorem Reps.mono (e:jr H H'):∀ (ds:List PyData) (xs:List V),Reps K H ds xs->Reps K H' ds xs
 | [],xs,h=>h
 | d::ds,xs,⟨x,r,h1,h2,h3⟩=>⟨x,r,h1,Rep.mono e d x h2,Reps.mono e ds r h3⟩
theorem RepD.mono (e:jr H H'):∀ (kvs:List (PyData × PyData)) (ks:List (Key × V)),RepD K H kvs ks->RepD K H' kvs ks
 | [],_,h=>h
 | (.none,c)::r,ks,h=>RepM.mono e r ks h
 | (.bool _,_)::_,_,h=>h
 | (.int _,_)::_,_,h=>h
 | (.str _,_)::_,_,h=>h
 | (.list _,_)::_,_,h=>h
 | (.tuple _,_)::_,_,h=>h
 | (.dict _,_)::_,_,h=>h
theorem RepM.mono (e:jr H H'):∀ (kvs:List (PyData × PyData)) (ks:List (Key × V)),RepM K H kvs ks->RepM K H' kvs ks
 | [],_,h=>h
 | (k,d)::r,ks,⟨i,x,s,h1,h2,h3,h4⟩=>⟨i,x,s,h1,h2,Rep.mono e d x h3,RepM.mono e r s h4⟩
end
mutual
theorem Rep.monoE (e:jC H H'):∀ (d:PyData) (v:V),Rep K H d v->Rep K H' d v
 | .none,v,h=>h
 | .bool _,v,h=>h
 | .int _,v,h=>h
 | .str _,v,h=>h
 | .tuple ds,v,⟨a,xs,h1,h2,h3⟩=>⟨a,xs,h1,jC.tup e h2,Reps.monoE e ds xs h3⟩
 | .list ds,v,⟨a,xs,h1,h2,h3⟩=>⟨a,xs,h1,e _ _ h2 (fun _ z=>nomatch z),Reps.monoE e ds xs h3⟩
 | .dict kvs,v,⟨a,h1,h2⟩=>⟨a,h1,h2.imp (fun ⟨ns,q1,q2⟩=>⟨ns,jC.sql e q1,q2⟩) fun z=>z.imp (fun ⟨ks,ob,q1,q2⟩=>⟨ks,ob,e _ _ q1 (fun _ z=>nomatch z),RepD.monoE e kvs ks q2⟩) fun y=>y.imp id fun ⟨x,C,oe,q1,q2,q3⟩=>⟨x,C,oe,q1,e _ _ q2 (fun _ z=>nomatch z),q3⟩⟩
theorem Reps.monoE (e:jC H H'):∀ (ds:List PyData) (xs:List V),Reps K H ds xs->Reps K H' ds xs
 | [],xs,h=>h
 | d::ds,xs,⟨x,r,h1,h2,h3⟩=>⟨x,r,h1,Rep.monoE e d x h2,Reps.monoE e ds r h3⟩
theorem RepD.monoE (e:jC H H'):∀ (kvs:List (PyData × PyData)) (ks:List (Key × V)),RepD K H kvs ks->RepD K H' kvs ks
 | [],_,h=>h
 | (.none,c)::r,ks,h=>RepM.monoE e r ks h
 | (.bool _,_)::_,_,h=>h
 | (.int _,_)::_,_,h=>h
 | (.str _,_)::_,_,h=>h
 | (.list _,_)::_,_,h=>h
 | (.tuple _,_)::_,_,h=>h
 | (.dict _,_)::_,_,h=>h
theorem RepM.monoE (e:jC H H'):∀ (kvs:List (PyData × PyData)) (ks:List (Key × V)),RepM K H kvs ks->RepM K H' kvs ks
 | [],_,h=>h
 | (k,d)::r,ks,⟨i,x,s,h1,h2,h3,h4⟩=>⟨i,x,s,h1,h2,Rep.monoE e d x h3,RepM.monoE e r s h4⟩
end
theorem Reps.length:∀ {ds:List PyData}{xs:List V},Reps K H ds xs->xs.length=ds.length
 | [],xs,h=>by cases h; rfl
 | d::ds,xs,⟨x,r,h1,h2,h3⟩=>by subst h1; simp [Reps.length h3]
theorem Reps.get:∀ {ds:List PyData}{xs:List V}{i:Nat}{d:PyData},Reps K H ds xs->ds[i]?=some d->∃ x,xs[i]?=some x/\Rep K H d x
 | [],xs,i,d,h,e=>by simp at e
 | c::ds,xs,0,d,⟨x,r,h1,h2,h3⟩,e=>by subst h1; simp at e; subst e; exact ⟨x,rfl,h2⟩
 | c::ds,xs,i+1,d,⟨x,r,h1,h2,h3⟩,e=>by
  subst h1
  obtain ⟨y,e1,e2⟩:=Reps.get (i:=i) h3 (by simpa using e)
  exact ⟨y,by simpa using e1,e2⟩
theorem Reps.append:∀ {ds es:List PyData}{xs ys:List V},Reps K H ds xs->Reps K H es ys->Reps K H (ds++es) (xs++ys)
 | [],es,xs,ys,h,g=>by cases h; exact g
 | d::ds,es,xs,ys,⟨x,r,h1,h2,h3⟩,g=>by subst h1; exact ⟨x,r++ys,rfl,h2,Reps.append h3 g⟩
theorem Reps.take:∀ {ds:List PyData}{xs:List V} (n:Nat),Reps K H ds xs->Reps K H (ds.take n) (xs.take n)
 | ds,xs,0,h=>by simp; rfl
 | [],xs,n+1,h=>by cases h; rfl
 | d::ds,xs,n+1,⟨x,r,h1,h2,h3⟩=>by subst h1; exact ⟨x,_,rfl,h2,Reps.take n h3⟩
theorem Reps.drop:∀ {ds:List PyData}{xs:List V} (n:Nat),Reps K H ds xs->Reps K H (ds.drop n) (xs.drop n)
 | ds,xs,0,h=>by simpa using h
 | [],xs,n+1,h=>by cases h; rfl
 | d::ds,xs,n+1,⟨x,r,h1,h2,h3⟩=>by subst h1; simpa using Reps.drop n h3
theorem Reps.ints:∀ {ns:List Int}{xs:List V},Reps K H (ns.map PyData.int) xs->xs=ns.map V.int
 | [],xs,h=>h
 | n::ns,xs,⟨x,r,h1,h2,h3⟩=>by subst h1; cases (show x=V.int n from h2); rw [Reps.ints h3]; rfl
end
section
variable {X:Cx}{pins:List (Addr × Obj)}{σ:St}{H:Hp}{s:Shared}
mutual
theorem qu (I:Inv X pins σ H s):∀ (d:PyData) (v:V) (u:Value),Rep X.K H d v->jJ v u->d.canLay0=true->∃ as,Reads s.heap u d as
 | .none,v,u,h,r,_=>by cases h; cases r; exact ⟨_,.none⟩
 | .bool b,v,u,h,r,_=>by cases h; cases r; exact ⟨_,.bool b⟩
 | .int i,v,u,h,r,_=>by cases h; obtain ⟨t,rfl⟩:=r; exact ⟨_,.int i t⟩
 | .str x,v,u,h,r,_=>by cases h; obtain ⟨t,rfl⟩:=r; exact ⟨_,.str x t⟩
 | .tuple ds,v,u,⟨a,xs,h1,h2,h3⟩,r,hc=>by
  subst h1; cases r
  obtain ⟨its,rv,⟨o,e1,e2,n,e3⟩,_⟩:=I.tuple h2
  obtain ⟨as,ra⟩:=readsAll_of I ds xs its h3 rv (by simpa [PyData.canLay0] using hc)
  exact ⟨as,.tuple e1 e2 e3 (by simpa using ra)⟩
 | .list ds,v,u,⟨a,xs,h1,h2,h3⟩,r,hc=>by
  subst h1; cases r
  obtain ⟨its,rv,⟨o,n,e1,e2,e3,e4⟩,_⟩:=I.list (SqL.of h2)
  obtain ⟨as,ra⟩:=readsAll_of I ds xs its h3 rv (by simpa [PyData.canLay0] using hc)
  exact ⟨a::as,.list e1 e2 e4 (by simpa using ra)⟩
 | .dict kvs,v,u,h,r,hc=>by simp [PyData.canLay0] at hc
theorem readsAll_of (I:Inv X pins σ H s):∀ (ds:List PyData) (xs:List V) (us:List Value),Reps X.K H ds xs->jF xs us->PyData.canLayAll0 ds=true->∃ as,ReadsAll s.heap us ds as
 | [],xs,us,h,r,_=>by cases h; cases r; exact ⟨_,.nil⟩
 | d::ds,xs,us,⟨x,q,h1,h2,h3⟩,r,hc=>by
  subst h1
  cases r with
  | cons r1 r2=>
   have hc':d.canLay0=true/\PyData.canLayAll0 ds=true:=by simpa [PyData.canLayAll0] using hc
   obtain ⟨as,ra⟩:=qu I d x _ h2 r1 hc'.1
   obtain ⟨bs,rb⟩:=readsAll_of I ds q _ h3 r2 hc'.2
   exact ⟨_,.cons ra rb⟩
end
end
noncomputable abbrev Rho:=List (Option PyData)
structure EnvR (K:PySem.W.Frag) (H:Hp) (ρ:Rho) (σ:St):Prop where
 len:ρ.length=σ.length
 at':∀ (i:Nat) (d:PyData),ρ[i]?=some (some d)->∃ v,σ[i]?=some (some v)/\Rep K H d v
theorem EnvR.mono {K:PySem.W.Frag}{H H':Hp}{ρ:Rho}{σ:St} (e:EnvR K H ρ σ) (h:jr H H'):EnvR K H' ρ σ:=
 ⟨e.len,fun i d q=>let ⟨v,e1,e2⟩:=e.at' i d q; ⟨v,e1,Rep.mono h d v e2⟩⟩
theorem EnvR.set {K:PySem.W.Frag}{H:Hp}{ρ:Rho}{σ:St} (e:EnvR K H ρ σ) {i:Nat}{d:PyData}{v:V} (r:Rep K H d v):EnvR K H (ρ.set i (some d)) (σ.set i (some v)):=by
 refine ⟨by simp [e.len],fun j c q=>?_⟩
 by_cases hj:i=j
 ·subst hj
  rw [List.getElem?_set] at q ⊢
  simp only [zzM] at q ⊢
  by_cases hl:i < ρ.length
  ·rw [if_pos hl] at q
   rw [if_pos (by rw [←e.len]; exact hl)]
   cases q
   exact ⟨v,rfl,r⟩
  ·rw [if_neg hl] at q; cases q
 ·rw [List.getElem?_set_ne hj] at q ⊢
  exact e.at' j c q
noncomputable def lkp (i:Nat) (ρ:Rho):Option PyData:=(ρ[i]?).join
theorem qI {i:Nat}{ρ:Rho}{d:PyData} (h:lkp i ρ=some d):ρ[i]?=some (some d):=by
 unfold lkp at h
 cases e:ρ[i]? with
 | none=>rw [e] at h; cases h
 | some o=>rw [e] at h; cases o with
  | none=>cases h
  | some c=>cases h; rfl
noncomputable def tD (K:PySem.W.Frag) (f:Rho->Option PyData):TE:=fun σ H Q=>∃ ρ d,EnvR K H ρ σ/\f ρ=some d/\∀ v H',jr H H'->Rep K H' d v->Q v H'
@[irreducible] noncomputable def PD (X:Cx) (e:Expr) (f:Rho->Option PyData):Prop:=PE X e (tD X.K f)
noncomputable def tDT (K:PySem.W.Frag) (f:Rho->Option Bool):TT:=fun σ H Q=>∃ ρ b,EnvR K H ρ σ/\f ρ=some b/\∀ H',jr H H'->Q b H'
@[irreducible] noncomputable def PTD (X:Cx) (e:Expr) (f:Rho->Option Bool):Prop:=PT X e (tDT X.K f)
noncomputable def tDA (K:PySem.W.Frag) (f:Rho->Option (List PyData)):TA:=fun σ H Q=>∃ ρ ds,EnvR K H ρ σ/\f ρ=some ds/\∀ vs H',jr H H'->Reps K H' ds vs->Q vs H'
@[irreducible] noncomputable def PAD (X:Cx) (es:List Expr) (f:Rho->Option (List PyData)):Prop:=PA X es (tDA X.K f)
inductive Out where
 | nx (ρ:Rho) | rt (d:PyData) | bk (ρ:Rho) | ct (ρ:Rho)
noncomputable def ae6 (K:PySem.W.Frag) (D:Ends) (H:Hp):Out->Prop
 | .nx ρ=>∀ σ H',jr H H'->EnvR K H' ρ σ->D.nx σ H'
 | .rt d=>∀ v H',jr H H'->Rep K H' d v->D.rt v H'
 | .bk ρ=>∀ σ H',jr H H'->EnvR K H' ρ σ->D.bk σ H'
 | .ct ρ=>∀ σ H',jr H H'->EnvR K H' ρ σ->D.ct σ H'
theorem ae6.mono {K:PySem.W.Frag}{D:Ends}{H H':Hp}{o:Out} (h:ae6 K D H o) (e:jr H H'):ae6 K D H' o:=by
 cases o with
 | nx ρ=>exact fun σ H2 e2 r=>h σ H2 (e.trans e2) r
 | rt d=>exact fun v H2 e2 r=>h v H2 (e.trans e2) r
 | bk ρ=>exact fun σ H2 e2 r=>h σ H2 (e.trans e2) r
 | ct ρ=>exact fun σ H2 e2 r=>h σ H2 (e.trans e2) r
noncomputable def tDS (K:PySem.W.Frag) (F:Rho->Option Out):TS:=fun D σ H=>∃ ρ o,EnvR K H ρ σ/\F ρ=some o/\ae6 K D H o
@[irreducible] noncomputable def PSD (X:Cx) (st:Stmt) (F:Rho->Option Out):Prop:=PS X st (tDS X.K F)
@[irreducible] noncomputable def aaw (X:Cx) (st:List Stmt) (F:Rho->Option Out):Prop:=PSs X st (tDS X.K F)
noncomputable def tDG (K:PySem.W.Frag) (ga:PyData->Rho->Option Rho):TG:=fun v σ H Q=>∃ ρ d ρ',EnvR K H ρ σ/\Rep K H d v/\ga d ρ=some ρ'/\∀ σ' H',jr H H'->EnvR K H' ρ' σ'->Q σ' H'
@[irreducible] noncomputable def PGD (X:Cx) (tg:Expr) (ga:PyData->Rho->Option Rho):Prop:=PG X tg (tDG X.K ga)
section
variable {X:Cx}{e a b c:Expr}{es:List Expr}{fa fb fc:Rho->Option PyData}{pos:Pos}
theorem PE.imp {t t':TE} (h:PE X e t) (hi:∀ σ H Q,t' σ H Q->t σ H Q):PE X e t':=fun pins s σ H Q I q=>h pins s σ H Q I (hi σ H Q q)
theorem PT.imp {t t':TT} (h:PT X e t) (hi:∀ σ H Q,t' σ H Q->t σ H Q):PT X e t':=fun pins s σ H Q I q=>h pins s σ H Q I (hi σ H Q q)
theorem PA.imp {t t':TA} (h:PA X es t) (hi:∀ σ H Q,t' σ H Q->t σ H Q):PA X es t':=fun pos pins s σ H Q I q=>h pos pins s σ H Q I (hi σ H Q q)
theorem PS.imp {st:Stmt}{t t':TS} (h:PS X st t) (hi:∀ D σ H,t' D σ H->t D σ H):PS X st t':=fun pins s σ H D I q=>h pins s σ H D I (hi D σ H q)
theorem PSs.imp {st:List Stmt}{t t':TS} (h:PSs X st t) (hi:∀ D σ H,t' D σ H->t D σ H):PSs X st t':=fun pins s σ H D I q=>h pins s σ H D I (hi D σ H q)
theorem PG.imp {t t':TG} (h:PG X e t) (hi:∀ v σ H Q,t' v σ H Q->t v σ H Q):PG X e t':=fun pins s σ H v u Q I r q=>h pins s σ H v u Q I r (hi v σ H Q q)
theorem jb (i:Nat) {x:Str}{pos:Pos} (hN:X.N[i]?=some x:=by rfl) (hv:Vis X.env.scope x:=by first | exact Or.inl rfl | exact Or.inr (Or.inl rfl) | exact Or.inr (Or.inr rfl)) (hd:(x == ("__debug__":Str))=false:=by decide)
  (hcd:(x == ("__classdict__":Str))=false:=by decide):PD X (.Name x pos) (lkp i):=by
 with_unfolding_all exact (PE.imp (aam hN hv hd hcd) fun σ H Q ⟨ρ,d,e,h,k⟩=>let ⟨v,e1,e2⟩:=e.at' i d (qI h); ⟨v,e1,k v H (jr.refl H) e2⟩)
noncomputable def cst (d:PyData) (_:Rho):Option PyData:=some d
theorem ji {i j pos}:PD X (.Constant (.int i) j pos) (cst (.int i)):=by
 with_unfolding_all exact (PE.imp akD fun σ H Q ⟨ρ,d,e,h,k⟩=>by cases h; exact k _ H (jr.refl H) rfl)
theorem zn {i j pos}:PD X (.Constant (.bool i) j pos) (cst (.bool i)):=by
 with_unfolding_all exact (PE.imp al4 fun σ H Q ⟨ρ,d,e,h,k⟩=>by cases h; exact k _ H (jr.refl H) rfl)
theorem aeb {j pos}:PD X (.Constant .none j pos) (cst .none):=by
 with_unfolding_all exact (PE.imp akE fun σ H Q ⟨ρ,d,e,h,k⟩=>by cases h; exact k _ H (jr.refl H) rfl)
theorem aec {i j pos}:PD X (.Constant (.str i) j pos) (cst (.str i)):=by
 with_unfolding_all exact (PE.imp akF fun σ H Q ⟨ρ,d,e,h,k⟩=>by cases h; exact k _ H (jr.refl H) rfl)
theorem ajm {x:Str}{v:V}{u:Value}{d:PyData} (hg:Gl X x) (hm:X.mg x=some u) (r:jJ v u) (hr:∀ H,Rep X.K H d v) (hd:(x == ("__debug__":Str))=false:=by decide):PD X (.Name x pos) (cst d):=by
 with_unfolding_all exact (PE.imp (aiZ hg hm r hd) fun σ H Q ⟨ρ,d',e,h,k⟩=>by cases h; exact k _ H (jr.refl H) (hr H))
noncomputable def op2 (g:PyData->PyData->Option PyData) (fa fb:Rho->Option PyData):Rho->Option PyData:=fun ρ=>(fa ρ).bind fun x=>(fb ρ).bind fun y=>g x y
noncomputable def OpD (X:Cx) (f:Value->Value->Sem Value) (g:PyData->PyData->Option PyData):Prop:=
 ∃ r,OpR X f r/\∀ p q d x y H Q,g p q=some d->Rep X.K H p x->Rep X.K H q y->(∀ v H',jr H H'->Rep X.K H' d v->Q v H')->r x y H Q
theorem ajn {g:PyData->PyData->Option PyData}{K:PySem.W.Frag}{r:R2} (hr:∀ p q d x y H Q,g p q=some d->Rep K H p x->Rep K H q y->(∀ v H',jr H H'->Rep K H' d v->Q v H')->r x y H Q)
  {σ:St} {H:Hp} {Q:VK} (h:tD K (op2 g fa fb) σ H Q):tOp r (tD K fa) (tD K fb) σ H Q:=by
 obtain ⟨ρ,d,e,h,k⟩:=h
 unfold op2 at h
 cases ha:fa ρ with
 | none=>rw [ha] at h; cases h
 | some p=>
  rw [ha] at h
  cases hb:fb ρ with
  | none=>rw [hb] at h; cases h
  | some q=>
   rw [hb] at h
   refine ⟨ρ,p,e,ha,fun x H1 s1 r1=>⟨ρ,q,e.mono s1,hb,fun y H2 s2 r2=>?_⟩⟩
   exact hr p q d x y H2 Q h (Rep.mono s2 p x r1) r2 fun v H' s3 r3=>k v H' (s1.trans (s2.trans s3)) r3
theorem jq {op:Operator}{g:PyData->PyData->Option PyData} (ho:OpD X (binaryOp op) g) (ha:PD X a fa) (hb:PD X b fb):PD X (.BinOp a op b pos) (op2 g fa fb):=by
 with_unfolding_all
  obtain ⟨r,h1,h2⟩:=ho
  exact PE.imp (amd h1 ha hb) fun σ H Q h=>ajn h2 h
theorem Jd {op:CmpOp}{g:PyData->PyData->Option PyData} (ho:OpD X (compareOp op) g) (ha:PD X a fa) (hb:PD X b fb) (hm:behindInMarks op b=false:=by first | exact ad3 _ | with_unfolding_all rfl):PD X (.Compare a [op] [b] pos) (op2 g fa fb):=by
 with_unfolding_all
  obtain ⟨r,h1,h2⟩:=ho
  exact PE.imp (ai3 h1 ha hb hm) fun σ H Q h=>ajn h2 h
noncomputable def asB:PyData->Option Bool
 | .bool b=>some b
 | _=>none
noncomputable def tst (f:Rho->Option PyData):Rho->Option Bool:=fun ρ=>(f ρ).bind asB
theorem zD {d:PyData}{b:Bool} (h:asB d=some b):d= .bool b:=by
 cases d <;> simp [asB] at h
 rw [h]
theorem jL {op:CmpOp}{g:PyData->PyData->Option PyData} (ho:OpD X (compareOp op) g) (ha:PD X a fa) (hb:PD X b fb) (hm:behindInMarks op b=false:=by first | exact ad3 _ | with_unfolding_all rfl):PTD X (.Compare a [op] [b] pos) (tst (op2 g fa fb)):=by
 with_unfolding_all
  obtain ⟨r,h1,h2⟩:=ho
  refine PT.imp (ai4 h1 ha hb hm) fun σ H Q ⟨ρ,t,e,h,k⟩=>?_
  cases hd:op2 g fa fb ρ with
  | none=>simp [tst,hd] at h
  | some d=>
   have ht:d= .bool t:=zD (by simpa [tst,hd] using h)
   subst ht
   exact ajn h2 ⟨ρ,_,e,hd,fun v H' s r=>⟨t,r,k H' s⟩⟩
theorem qe (h:PD X e fa) (he:∀ whole,isTrue e X.env whole=(do let v ←whole; standAt e.pos; holding [v] (truthy v)):=by intro _; rfl):PTD X e (tst fa):=by
 with_unfolding_all
  refine PT.imp (akH h he) fun σ H Q ⟨ρ,t,e,h,k⟩=>?_
  cases hd:fa ρ with
  | none=>simp [tst,hd] at h
  | some d=>
   have ht:d= .bool t:=zD (by simpa [tst,hd] using h)
   subst ht
   exact ⟨ρ,_,e,hd,fun v H' s r=>⟨t,r,k H' s⟩⟩
variable {ta tb:Rho->Option Bool}{qq:List Expr}
@[irreducible] noncomputable def PWD (X:Cx) (e:Expr) (f:Rho->Option Bool):Prop:=PW X e (tDT X.K f)
theorem PW.imp {t t':TT} (h:PW X e t) (hi:∀ σ H Q,t' σ H Q->t σ H Q):PW X e t':=fun wh pins s σ H Q I q=>h wh pins s σ H Q I (hi σ H Q q)
noncomputable def aba (ta tb:Rho->Option Bool):Rho->Option Bool:=fun ρ=>(ta ρ).bind fun x=>if x=true then tb ρ else some false
noncomputable def orB (ta tb:Rho->Option Bool):Rho->Option Bool:=fun ρ=>(ta ρ).bind fun x=>if x=true then some true else tb ρ
noncomputable def zQ (ta:Rho->Option Bool):Rho->Option Bool:=fun ρ=>(ta ρ).map (!·)
theorem ahg (ha:PTD X a ta):PWD X (.BoolOp .And [a] pos) ta:=by
 with_unfolding_all exact (ai0 ha)
theorem qC (ha:PTD X a ta):PWD X (.BoolOp .Or [a] pos) ta:=by
 with_unfolding_all exact (akI ha)
theorem ajo (ha:PTD X a ta) (hb:PWD X (.BoolOp .And (b::qq) pos) tb):PWD X (.BoolOp .And (a::b::qq) pos) (aba ta tb):=by
 with_unfolding_all
  refine PW.imp (akJ ha hb) fun σ H Q ⟨ρ,t,e,h,k⟩=>?_
  cases h1:ta ρ with
  | none=>simp [aba,h1] at h
  | some x=>
   refine ⟨ρ,x,e,h1,fun H' s=>?_⟩
   cases x with
   | true=>rw [if_pos rfl]; exact ⟨ρ,t,e.mono s,by simpa [aba,h1] using h,fun H2 s2=>k H2 (s.trans s2)⟩
   | false=>
    rw [if_neg Bool.false_ne_true]
    have:t=false:=by simpa [aba,h1] using h.symm
    subst this
    exact k H' s
theorem qQ (ha:PTD X a ta) (hb:PWD X (.BoolOp .Or (b::qq) pos) tb):PWD X (.BoolOp .Or (a::b::qq) pos) (orB ta tb):=by
 with_unfolding_all
  refine PW.imp (al5 ha hb) fun σ H Q ⟨ρ,t,e,h,k⟩=>?_
  cases h1:ta ρ with
  | none=>simp [orB,h1] at h
  | some x=>
   refine ⟨ρ,x,e,h1,fun H' s=>?_⟩
   cases x with
   | false=>rw [if_neg Bool.false_ne_true]; exact ⟨ρ,t,e.mono s,by simpa [orB,h1] using h,fun H2 s2=>k H2 (s.trans s2)⟩
   | true=>
    rw [if_pos rfl]
    have:t=true:=by simpa [orB,h1] using h.symm
    subst this
    exact k H' s
theorem qf {op:BoolOp}{l:List Expr} (h:PWD X (.BoolOp op l pos) ta):PTD X (.BoolOp op l pos) ta:=by
 with_unfolding_all exact (h.pt)
theorem qj (ha:PTD X a ta):PTD X (.UnaryOp .Not a pos) (zQ ta):=by
 with_unfolding_all
  refine PT.imp (akK ha) fun σ H Q ⟨ρ,t,e,h,k⟩=>?_
  cases h1:ta ρ with
  | none=>simp [zQ,h1] at h
  | some x=>
   have:(!x)=t:=by simpa [zQ,h1] using h
   subst this
   exact ⟨ρ,x,e,h1,fun H' s=>k H' s⟩
noncomputable def ifD (tc:Rho->Option Bool) (fa fb:Rho->Option PyData):Rho->Option PyData:=fun ρ=>(tc ρ).bind fun x=>if x=true then fa ρ else fb ρ
theorem akt {tc:Rho->Option Bool} (hc:PTD X c tc) (ha:PD X a fa) (hb:PD X b fb):PD X (.IfExp c a b pos) (ifD tc fa fb):=by
 with_unfolding_all
  refine PE.imp (agU hc ha hb) fun σ H Q ⟨ρ,d,e,h,k⟩=>?_
  cases h1:tc ρ with
  | none=>simp [ifD,h1] at h
  | some x=>
   refine ⟨ρ,x,e,h1,fun H' s=>?_⟩
   cases x with
   | true=>rw [if_pos rfl]; exact ⟨ρ,d,e.mono s,by simpa [ifD,h1] using h,fun v H2 s2=>k v H2 (s.trans s2)⟩
   | false=>rw [if_neg Bool.false_ne_true]; exact ⟨ρ,d,e.mono s,by simpa [ifD,h1] using h,fun v H2 s2=>k v H2 (s.trans s2)⟩
noncomputable def jN (_:Rho):Option (List PyData):=some []
noncomputable def js (fa:Rho->Option PyData) (fr:Rho->Option (List PyData)):Rho->Option (List PyData):=fun ρ=>(fa ρ).bind fun x=>(fr ρ).map fun r=>x::r
theorem je:PAD X [] jN:=by
 with_unfolding_all exact (PA.imp JR fun σ H Q ⟨ρ,d,e,h,k⟩=>by cases h; exact k [] H (jr.refl H) rfl)
theorem ja {fr:Rho->Option (List PyData)} (ha:PD X e fa) (hr:PAD X es fr) (hs:starEach (e::es) X.env=(false,eval e X.env)::starEach es X.env:=by rfl):PAD X (e::es) (js fa fr):=by
 with_unfolding_all
  refine PA.imp (ze ha hr hs) fun σ H Q ⟨ρ,ds,en,h,k⟩=>?_
  cases h1:fa ρ with
  | none=>simp [js,h1] at h
  | some x=>
   cases h2:fr ρ with
   | none=>simp [js,h1,h2] at h
   | some r=>
    have:x::r=ds:=by simpa [js,h1,h2] using h
    subst this
    exact ⟨ρ,x,en,h1,fun v H1 s1 r1=>⟨ρ,r,en.mono s1,h2,fun vs H2 s2 r2=>k _ H2 (s1.trans s2) ⟨v,vs,rfl,Rep.mono s2 x v r1,r2⟩⟩⟩
noncomputable def few (ds:List PyData):Bool:=decide (ds.length < 1000000)
theorem aax {n:Nat} (h:n < 1000000):n<=sizeLine:=Nat.le_of_lt (Nat.lt_of_lt_of_le h (by rw [sizeLine_eq]; decide))
theorem jx {H:Hp}{p:Addr}{o:HO} (hp:H p=none):jr H (upd H p o):=fun b u h=>by rw [jn (qo h hp)]; exact h
noncomputable def Qx (fr:Rho->Option (List PyData)):Rho->Option PyData:=fun ρ=>(fr ρ).bind fun ds=>if few ds=true then some (.tuple ds) else none
noncomputable def JU (fr:Rho->Option (List PyData)):Rho->Option PyData:=fun ρ=>(fr ρ).bind fun ds=>if few ds=true then some (.list ds) else none
theorem qy {x1}{fr:Rho->Option (List PyData)} (h:PAD X es fr):PD X (.Tuple es x1 pos) (Qx fr):=by
 with_unfolding_all
  refine PE.imp (ag4 h) fun σ H Q ⟨ρ,d,e,h,k⟩=>?_
  cases h1:fr ρ with
  | none=>simp [Qx,h1] at h
  | some ds=>
   by_cases hf:few ds=true
   ·have:PyData.tuple ds=d:=by simpa [Qx,h1,hf] using h
    subst this
    refine ⟨ρ,ds,e,h1,fun vs H1 s1 r1=>⟨aax (by rw [r1.length]; simpa [few] using hf),fun p hp=>k _ _ (s1.trans (jx hp)) ⟨p,vs,rfl,SqT.of jp,Reps.mono (jx hp) _ _ r1⟩⟩⟩
   ·simp [Qx,h1,hf] at h
theorem aay {fr:Rho->Option (List PyData)} (h:PAD X es fr):PD X (.List es pos) (JU fr):=by
 with_unfolding_all
  refine PE.imp (ad6 h) fun σ H Q ⟨ρ,d,e,h,k⟩=>?_
  cases h1:fr ρ with
  | none=>simp [JU,h1] at h
  | some ds=>
   by_cases hf:few ds=true
   ·have:PyData.list ds=d:=by simpa [JU,h1,hf] using h
    subst this
    refine ⟨ρ,ds,e,h1,fun vs H1 s1 r1=>⟨aax (by rw [r1.length]; simpa [few] using hf),fun p hp=>k _ _ (s1.trans (jx hp)) ⟨p,vs,rfl,jp,Reps.mono (jx hp) _ _ r1⟩⟩⟩
   ·simp [JU,h1,hf] at h
end
end BX
end
section
namespace BX
open PySem PySem.Spec L2
open PyProof.Rows hiding St
section
variable {X:Cx}{e a b c tg src:Expr}{es:List Expr}{st:Stmt}{sts qq:List Stmt}{fa fb fc:Rho->Option PyData}{F G:Rho->Option Out}{pos:Pos}
noncomputable def qJ (fa:Rho->Option PyData):Rho->Option Out:=fun ρ=>(fa ρ).map Out.rt
theorem ju (h:PD X e fa):PSD X (.Return (some e) pos) (qJ fa):=by
 with_unfolding_all
  refine PS.imp (ad0 h) fun D σ H ⟨ρ,o,en,q,k⟩=>?_
  cases h1:fa ρ with
  | none=>simp [qJ,h1] at q
  | some d=>
   have:Out.rt d=o:=by simpa [qJ,h1] using q
   subst this
   exact ⟨ρ,d,en,h1,k⟩
noncomputable def ifS (tc:Rho->Option Bool) (F G:Rho->Option Out):Rho->Option Out:=fun ρ=>(tc ρ).bind fun x=>if x=true then F ρ else G ρ
theorem j0 {l r:List Stmt}{tc:Rho->Option Bool} (hc:PTD X c tc) (hl:aaw X l F) (hr:aaw X r G):PSD X (.If c l r pos) (ifS tc F G):=by
 with_unfolding_all
  refine PS.imp (ako hc hl hr) fun D σ H ⟨ρ,o,en,q,k⟩=>?_
  cases h1:tc ρ with
  | none=>simp [ifS,h1] at q
  | some x=>
   refine ⟨ρ,x,en,h1,fun H1 s1=>?_⟩
   cases x with
   | true=>rw [if_pos rfl]; exact ⟨ρ,o,en.mono s1,by simpa [ifS,h1] using q,k.mono s1⟩
   | false=>rw [if_neg Bool.false_ne_true]; exact ⟨ρ,o,en.mono s1,by simpa [ifS,h1] using q,k.mono s1⟩
noncomputable def qA:Rho->Option Out:=fun ρ=>some (.nx ρ)
noncomputable def j1 (F G:Rho->Option Out):Rho->Option Out:=fun ρ=>(F ρ).bind fun o=>match o with
 | .nx ρ'=>G ρ'
 | o=>some o
theorem jf:aaw X [] qA:=by
 with_unfolding_all
  refine PSs.imp aeW fun D σ H ⟨ρ,o,en,q,k⟩=>?_
  cases q
  exact k σ H (jr.refl H) en
theorem jd (h1 : PSD X st F) (h2 : aaw X qq G) : aaw X (st :: qq) (j1 F G) := by
  with_unfolding_all
   refine PSs.imp (JQ h1 h2) fun D σ H ⟨ρ, o, en, q, k⟩ => ?_
   cases hf : F ρ with
   | none => simp [j1, hf] at q
   | some p =>
     refine ⟨ρ, p, en, hf, ?_⟩
     cases p with
     | nx ρ' => exact fun σ' H' s' r' => ⟨ρ', o, r', by simpa [j1, hf] using q, k.mono s'⟩
     | rt d => have : Out.rt d = o := by simpa [j1, hf] using q
               subst this; exact k
     | bk d => have : Out.bk d = o := by simpa [j1, hf] using q
               subst this; exact k
     | ct d => have : Out.ct d = o := by simpa [j1, hf] using q
               subst this; exact k
noncomputable def ahh:Rho->Option Out:=fun _=>none
theorem Zo:PSD X st ahh:=by
 with_unfolding_all exact (PS.imp agW fun D σ H ⟨ρ,o,en,q,k⟩=>by cases q)
theorem QC:aaw X sts ahh:=by
 with_unfolding_all exact (PSs.imp afO fun D σ H ⟨ρ,o,en,q,k⟩=>by cases q)
noncomputable def ace (fa:Rho->Option PyData):Rho->Option Out:=fun ρ=>(fa ρ).map fun _=> .nx ρ
theorem qv (h:PD X e fa) (hs:swapsWith e none pos.line X.env=pure false:=by rfl):PSD X (.Expr e pos) (ace fa):=by
 with_unfolding_all
  refine PS.imp (ab7 h hs) fun D σ H ⟨ρ,o,en,q,k⟩=>?_
  cases h1:fa ρ with
  | none=>simp [ace,h1] at q
  | some d=>
   have:Out.nx ρ=o:=by simpa [ace,h1] using q
   subst this
   exact ⟨ρ,d,en,h1,fun v H' s r=>k σ H' s (en.mono s)⟩
noncomputable def jG (i:Nat) (d:PyData) (ρ:Rho):Option Rho:=some (ρ.set i (some d))
theorem jM (i:Nat) {x:Str} (hN:X.N.Nodup) (hi:X.N[i]?=some x:=by rfl) (hx:Loc X.env.scope x:=by first | exact Or.inl rfl | exact Or.inr rfl)
  (hf:X.fn x=true ∨ X.env.scope.names.lookup x=some .local:=by first | exact .inl rfl | exact .inr rfl | assumption):PGD X (.Name x pos) (jG i):=by
 with_unfolding_all
  refine PG.imp (QL hN hi hx hf) fun v σ H Q ⟨ρ,d,ρ',en,r,q,k⟩=>?_
  cases q
  exact k _ H (jr.refl H) (en.set r)
@[irreducible] noncomputable def ajp (X:Cx) (ts:List Expr) (ga:List PyData->Rho->Option Rho):Prop:=PGs X ts fun vs σ H Q=>∃ ρ ds ρ',EnvR X.K H ρ σ/\Reps X.K H ds vs/\ga ds ρ=some ρ'/\∀ σ' H',jr H H'->EnvR X.K H' ρ' σ'->Q σ' H'
noncomputable def qR (ds:List PyData) (ρ:Rho):Option Rho:=match ds with
 | []=>some ρ
 | _=>none
noncomputable def jH (ga:PyData->Rho->Option Rho) (gr:List PyData->Rho->Option Rho) (ds:List PyData) (ρ:Rho):Option Rho:=match ds with
 | d::r=>(ga d ρ).bind fun ρ1=>gr r ρ1
 | []=>none
theorem PGs.imp {ts:List Expr}{t t':TGs} (h:PGs X ts t) (hi:∀ v σ H Q,t' v σ H Q->t v σ H Q):PGs X ts t':=fun pins s σ H v u Q I r q=>h pins s σ H v u Q I r (hi v σ H Q q)
theorem aaz:ajp X [] qR:=by
 with_unfolding_all
  refine PGs.imp aeX fun vs σ H Q ⟨ρ,ds,ρ',en,r,q,k⟩=>?_
  cases ds with
  | nil=>cases r; cases q; exact ⟨rfl,k σ H (jr.refl H) en⟩
  | cons d ds=>cases q
theorem qN {ga:PyData->Rho->Option Rho}{gr:List PyData->Rho->Option Rho} (h1:PGD X e ga) (h2:ajp X es gr)
  (hs:(assignEach (e::es) X.env).map (·.2)=assign e X.env::(assignEach es X.env).map (·.2):=by rfl):ajp X (e::es) (jH ga gr):=by
 with_unfolding_all
  refine PGs.imp (acZ h1 h2 hs) fun vs σ H Q ⟨ρ,ds,ρ',en,r,q,k⟩=>?_
  cases ds with
  | nil=>cases q
  | cons d ds=>
   obtain ⟨x,rr,e1,r1,r2⟩:=r
   subst e1
   cases h3:ga d ρ with
   | none=>simp [jH,h3] at q
   | some ρ1=>
    refine ⟨x,rr,rfl,ρ,d,ρ1,en,r1,h3,fun σ1 H1 s1 e1=>⟨ρ1,ds,ρ',e1,Reps.mono s1 ds rr r2,by simpa [jH,h3] using q,fun σ2 H2 s2 e2=>k σ2 H2 (s1.trans s2) e2⟩⟩
noncomputable def Jk (n:Nat) (gr:List PyData->Rho->Option Rho) (d:PyData) (ρ:Rho):Option Rho:=match d with
 | .tuple ds=>if ds.length=n then gr ds ρ else none
 | _=>none
theorem acf {k n:Nat}{gr:List PyData->Rho->Option Rho} (hc:X.calm=true) (h:ajp X es gr) (hn:(assignEach es X.env).length=n:=by rfl) (hst:(assignEach es X.env).findIdx? (·.1)=none:=by rfl):
  PGD X (.Tuple es k pos) (Jk n gr):=by
 with_unfolding_all
  refine PG.imp (agY hc h hn hst) fun v σ H Q ⟨ρ,d,ρ',en,r,q,k⟩=>?_
  cases d with
  | tuple ds=>
   obtain ⟨a,xs,e1,e2,e3⟩:=r
   by_cases hl:ds.length=n
   ·exact ⟨a,xs,e1,e2,by rw [e3.length]; exact hl,ρ,ds,ρ',en,e3,by simpa [Jk,hl] using q,k⟩
   ·simp [Jk,hl] at q
  | _=>simp [Jk] at q
noncomputable def zo (fa:Rho->Option PyData) (ga:PyData->Rho->Option Rho):Rho->Option Out:=fun ρ=>(fa ρ).bind fun d=>(ga d ρ).map Out.nx
theorem jw (i:Nat) {x:Str}{pos':Pos} (hN:X.N.Nodup) (he:PD X e fa) (hi:X.N[i]?=some x:=by rfl) (hx:Loc X.env.scope x:=by first | exact Or.inl rfl | exact Or.inr rfl) (hs:swapsWith e (some (.Name x pos')) pos.line X.env=pure false:=by rfl)
  (hf:X.fn x=true ∨ X.env.scope.names.lookup x=some .local:=by first | exact .inl rfl | exact .inr rfl | assumption):PSD X (.Assign [.Name x pos'] e pos) (zo fa (jG i)):=by
 with_unfolding_all
  refine PS.imp (ab8 hN hi hx he hs hf) fun D σ H ⟨ρ,o,en,q,k⟩=>?_
  cases h1:fa ρ with
  | none=>simp [zo,h1] at q
  | some d=>
   have:Out.nx (ρ.set i (some d))=o:=by simpa [zo,h1,jG] using q
   subst this
   exact ⟨ρ,d,en,h1,fun v H1 s1 r1=>k _ H1 s1 ((en.mono s1).set r1)⟩
noncomputable def ahi (K:PySem.W.Frag) (J:It) (ds:List PyData) (H0:Hp):Prop:=∀ i H,jC H0 H->(i < ds.length->J.go i H)/\(ds.length<=i->J.stop i H)/\∀ x H',J.yld i H x H'->jr H H'/\∀ d,ds[i]?=some d->Rep K H' d x
noncomputable def tDI (K:PySem.W.Frag) (fi:Rho->Option (List PyData)):TI:=fun σ H R=>∃ ρ ds,EnvR K H ρ σ/\fi ρ=some ds/\∀ J H',jr H H'->ahi K J ds H'->R J H'
@[irreducible] noncomputable def PID (X:Cx) (tg src:Expr) (fi:Rho->Option (List PyData)):Prop:=PI X tg src (tDI X.K fi)
theorem PI.imp {t t':TI} (h:PI X tg src t) (hi:∀ σ H R,t' σ H R->t σ H R):PI X tg src t':=fun pins s σ H R I q=>h pins s σ H R I (hi σ H R q)
noncomputable def Zp:PyData->Option (List PyData)
 | .list ds=>some ds
 | _=>none
noncomputable def Zq:PyData->Option (List PyData)
 | .tuple ds=>some ds
 | _=>none
noncomputable def itL (fa:Rho->Option PyData):Rho->Option (List PyData):=fun ρ=>(fa ρ).bind Zp
noncomputable def itT (fa:Rho->Option PyData):Rho->Option (List PyData):=fun ρ=>(fa ρ).bind Zq
theorem aaA (h:PD X e fa):PID X tg e (itL fa):=by
 with_unfolding_all
  refine PI.imp (ai1 h) fun σ H R ⟨ρ,ds,en,q,k⟩=>?_
  cases h1:fa ρ with
  | none=>simp [itL,h1] at q
  | some d=>
   cases d with
   | list es=>
    have:es=ds:=by simpa [itL,h1,Zp] using q
    subst this
    refine ⟨ρ,_,en,h1,fun v H1 s1 r1=>?_⟩
    obtain ⟨a,xs,e1,e2,e3⟩:=r1
    refine ⟨a,e1,⟨xs,SqL.of e2⟩,k _ H1 s1 fun i H2 s2=>⟨fun hi=>?_,fun hi=>?_,fun x H' y=>?_⟩⟩
    ·exact ⟨xs,xs[i]'(by rw [e3.length]; exact hi),SqL.of (s2 _ _ e2 fun _ z=>nomatch z),by simp [e3.length,hi]⟩
    ·exact ⟨xs,SqL.of (s2 _ _ e2 fun _ z=>nomatch z),by rw [e3.length]; exact hi⟩
    ·obtain ⟨z1,z2⟩:=y
     subst z1
     refine ⟨jr.refl _,fun d hd=>?_⟩
     obtain ⟨y,e4,e5⟩:=(Reps.monoE s2 _ _ e3).get hd
     have:=z2 xs (SqL.of (s2 _ _ e2 fun _ z=>nomatch z))
     rw [e4] at this; cases this
     exact e5
   | _=>simp [itL,h1,Zp] at q
theorem acg (h:PD X e fa):PID X tg e (itT fa):=by
 with_unfolding_all
  refine PI.imp (akR h) fun σ H R ⟨ρ,ds,en,q,k⟩=>?_
  cases h1:fa ρ with
  | none=>simp [itT,h1] at q
  | some d=>
   cases d with
   | tuple es=>
    have:es=ds:=by simpa [itT,h1,Zq] using q
    subst this
    refine ⟨ρ,_,en,h1,fun v H1 s1 r1=>?_⟩
    obtain ⟨a,xs,e1,e2,e3⟩:=r1
    refine ⟨a,e1,⟨xs,e2⟩,k _ H1 s1 fun i H2 s2=>⟨fun hi=>?_,fun hi=>?_,fun x H' y=>?_⟩⟩
    ·exact ⟨xs,xs[i]'(by rw [e3.length]; exact hi),jC.tup s2 e2,by simp [e3.length,hi]⟩
    ·exact ⟨xs,jC.tup s2 e2,by rw [e3.length]; exact hi⟩
    ·obtain ⟨z1,z2⟩:=y
     subst z1
     refine ⟨jr.refl _,fun d hd=>?_⟩
     obtain ⟨y,e4,e5⟩:=(Reps.monoE s2 _ _ e3).get hd
     have:=z2 xs (jC.tup s2 e2)
     rw [e4] at this; cases this
     exact e5
   | _=>simp [itT,h1,Zq] at q
noncomputable def qV (lo:Int) (n:Nat):List PyData:=(List.range n).map fun (k:Nat)=>PyData.int (lo+(k:Int))
noncomputable def Zr (ds:List PyData):Option (List PyData):=match ds with
 | [.int j]=>if -(2 ^ 62)<=j/\j < 2 ^ 62 then some (qV 0 j.toNat) else none
 | _=>none
theorem ach {K:PySem.W.Frag}{H:Hp} (lo:Int) (n:Nat):ahi K (Itr lo n) (qV lo n) H:=fun i H2 s2=>by
 have hl:(qV lo n).length=n:=by simp [qV]
 refine ⟨fun hi=>by rw [hl] at hi; exact hi,fun hi=>by rw [hl] at hi; exact hi,fun x H' y=>?_⟩
 obtain ⟨z1,z2⟩:=y
 subst z1
 refine ⟨jr.refl _,fun d hd=>?_⟩
 have hi:i < n:=by
  have:=(List.getElem?_eq_some_iff.mp hd).1
  rw [hl] at this; exact this
 have:d= .int (lo+i):=by
  simp [qV,hi] at hd
  exact hd.symm
 subst this
 exact z2
theorem qZ {p pos:Pos}{fr:Rho->Option (List PyData)} (hg:Gl X "range") (hm:X.mg "range"=none) (ha:PAD X [a] fr) (hs:starEach [a] X.env=[(false,eval a X.env)]:=by rfl):PID X tg (.Call (.Name "range" p) [a] [] pos) (fun ρ=>(fr ρ).bind Zr):=by
 with_unfolding_all
  refine PI.imp (Zk hg hm ha hs) fun σ H R ⟨ρ,ds,en,q,k⟩=>?_
  cases h1:fr ρ with
  | none=>simp [h1] at q
  | some as=>
   have q':Zr as=some ds:=by simpa [h1] using q
   refine ⟨ρ,as,en,h1,fun vs H1 s1 r1=>?_⟩
   unfold Zr at q'
   split at q'
   ·rename_i j
    split at q'
    ·rename_i hj
     cases q'
     obtain ⟨x,r,e1,e2,e3⟩:=r1
     cases (show x=V.int j from e2)
     cases (show r=[] from e3)
     exact ⟨j,e1,hj.1,hj.2,k _ H1 s1 (ach 0 j.toNat)⟩
    ·cases q'
   ·cases q'
noncomputable def jD (ga:PyData->Rho->Option Rho) (F:Rho->Option Out):List PyData->Rho->Option Out
 | [],ρ=>some (.nx ρ)
 | d::r,ρ=>(ga d ρ).bind fun ρ1=>(F ρ1).bind fun o=>match o with
  | .nx ρ2=>jD ga F r ρ2
  | .ct ρ2=>jD ga F r ρ2
  | .bk ρ2=>some (.nx ρ2)
  | .rt d=>some (.rt d)
noncomputable def Jw (fi:Rho->Option (List PyData)) (ga:PyData->Rho->Option Rho) (F:Rho->Option Out):Rho->Option Out:=fun ρ=>(fi ρ).bind fun ds=>jD ga F ds ρ
theorem Jx {body:List Stmt}{fi:Rho->Option (List PyData)}{ga:PyData->Rho->Option Rho} (hp:PassesOwn (model X.prog X.w) X.A X.env X.xe) (hc:X.calm=true) (hi:PID X tg src fi) (hg:PGD X tg ga) (hb:aaw X body F)
  (hs:∀ x,foldedSetIterable src X.env x=pure x:=by intro _; rfl):PSD X (.For tg src body [] pos) (Jw fi ga F):=by
 with_unfolding_all
  refine PS.imp (ab9 hp hc hi hg hb hs) fun D σ H ⟨ρ,o,en,q,k⟩=>?_
  cases h1:fi ρ with
  | none=>simp [Jw,h1] at q
  | some ds=>
   have q':jD ga F ds ρ=some o:=by simpa [Jw,h1] using q
   refine ⟨ρ,ds,en,h1,fun J H1 s1 Y=>?_⟩
   refine ⟨fun i m σ H2=>m=ds.length - i/\i<=ds.length/\jr H1 H2/\∃ ρ2,EnvR X.K H2 ρ2 σ/\jD ga F (ds.drop i) ρ2=some o,⟨ds.length,by simp,Nat.zero_le _,jr.refl _,ρ,en.mono s1,by simpa using q'⟩,?_⟩
   rintro i m σ2 H2 ⟨rfl,hi,s2,ρ2,en2,q2⟩
   obtain ⟨g1,g2,g3⟩:=Y i H2 (jr.e s2)
   by_cases hlt:i < ds.length
   ·right
    have hd:ds.drop i=ds[i]::ds.drop (i+1):=List.drop_eq_getElem_cons hlt
    rw [hd] at q2
    refine ⟨g1 hlt,fun σ3 H3=>jr H1 H3/\∃ ρ3,EnvR X.K H3 ρ3 σ3/\jD ga F (ds.drop (i+1)) ρ3=some o,fun σ3 H3 ⟨a1,ρ3,a2,a3⟩=>⟨ds.length - (i+1),by omega,rfl,hlt,a1,ρ3,a2,a3⟩,fun x H3 y=>?_⟩
    obtain ⟨s3,r3⟩:=g3 x H3 y
    have r3':=r3 ds[i] (by simp [hlt])
    cases h4:ga ds[i] ρ2 with
    | none=>simp [jD,h4] at q2
    | some ρ4=>
     refine ⟨ρ2,ds[i],ρ4,en2.mono s3,r3',h4,fun σ5 H5 s5 en5=>?_⟩
     cases h5:F ρ4 with
     | none=>simp [jD,h4,h5] at q2
     | some p=>
      refine ⟨ρ4,p,en5,h5,?_⟩
      have s15:=s2.trans (s3.trans s5)
      cases p with
      | nx ρ6=>exact fun σ6 H6 s6 en6=>⟨s15.trans s6,ρ6,en6,by simpa [jD,h4,h5] using q2⟩
      | ct ρ6=>exact fun σ6 H6 s6 en6=>⟨s15.trans s6,ρ6,en6,by simpa [jD,h4,h5] using q2⟩
      | bk ρ6=>
       have:Out.nx ρ6=o:=by simpa [jD,h4,h5] using q2
       subst this
       exact fun σ6 H6 s6 en6=>k σ6 H6 (s1.trans (s15.trans s6)) en6
      | rt d=>
       have:Out.rt d=o:=by simpa [jD,h4,h5] using q2
       subst this
       exact fun v H6 s6 r6=>k v H6 (s1.trans (s15.trans s6)) r6
   ·left
    have he:i=ds.length:=by omega
    have hn:ds.drop i=[]:=by rw [he]; simp
    rw [hn] at q2
    have:Out.nx ρ2=o:=by simpa [jD] using q2
    subst this
    exact ⟨g2 (by omega),k σ2 H2 (s1.trans s2) en2⟩
noncomputable def JV (cap:List (Option Nat)) (ρ:Rho):Rho:=cap.map fun o=>o.bind fun i=>(ρ[i]?).join
theorem EnvR.cap {K:PySem.W.Frag}{H:Hp}{ρ:Rho}{σ:St} (e:EnvR K H ρ σ) (cap:List (Option Nat)):EnvR K H (JV cap ρ) (ZZ cap σ):=by
 refine ⟨by simp [JV,ZZ],fun j d q=>?_⟩
 unfold JV at q
 unfold ZZ
 rw [List.getElem?_map] at q ⊢
 cases h1:cap[j]? with
 | none=>rw [h1] at q; cases q
 | some o=>
  rw [h1] at q
  cases o with
  | none=>cases q
  | some i=>
   have q':lkp i ρ=some d:=by simpa [lkp] using q
   obtain ⟨v,e1,e2⟩:=e.at' i d (qI q')
   exact ⟨v,by simp [e1],e2⟩
noncomputable def jW (ga:PyData->Rho->Option Rho) (ft:Rho->Option Bool) (fe:Rho->Option PyData):List PyData->Rho->Option (List PyData)
 | [],_=>some []
 | d::r,τ=>(ga d τ).bind fun τ2=>(ft τ2).bind fun b=>if b=true then (fe τ2).bind fun y=>(jW ga ft fe r τ2).map fun ys=>y::ys else jW ga ft fe r τ2
noncomputable def qK (fi:Rho->Option (List PyData)) (cap:List (Option Nat)) (ga:PyData->Rho->Option Rho) (ft:Rho->Option Bool) (fe:Rho->Option PyData):Rho->Option PyData:=fun ρ=>(fi ρ).bind fun ds=>
 if few ds=true then (jW ga ft fe ds (JV cap ρ)).map PyData.list else none
@[irreducible] noncomputable def ajq (X:Cx) (ts:List Expr) (f:Rho->Option Bool):Prop:=PTs X ts (tDT X.K f)
noncomputable def Z0 (_:Rho):Option Bool:=some true
theorem zE:ajq X [] Z0:=by
 with_unfolding_all exact (fun pins s σ H Q I ⟨ρ,b,en,q,k⟩=>by cases q; exact ajj pins s σ H Q I (k H (jr.refl H)))
theorem ada {ft:Rho->Option Bool} (h:PTD X c ft):ajq X [c] ft:=by
 with_unfolding_all exact (ajk h)
theorem zT {el:Expr}{ts:List Expr}{sc:Scope}{ps:Pos}{fi:Rho->Option (List PyData)}{ga:PyData->Rho->Option Rho}{ft:Rho->Option Bool}{fe:Rho->Option PyData} (N':List Str) (cap:List (Option Nat)) (hc:X.calm=true) (hi:PID X tg src fi) (ok:CompOk X sc N' cap)
  (body:∀ cl C s0 H0 fp pn,PGD (blk X N' sc cl C s0 H0 fp pn) tg ga/\ajq (blk X N' sc cl C s0 H0 fp pn) ts ft/\PD (blk X N' sc cl C s0 H0 fp pn) el fe)
  (hs:∀ x,foldedSetIterable src X.env x=pure x:=by intro _; rfl):PD X (.ListComp el [⟨tg,src,ts,0⟩] sc ps) (qK fi cap ga ft fe):=by
 with_unfolding_all
  refine PE.imp (ajl (g:=tDG X.K ga) (tt:=tDT X.K ft) (te:=tD X.K fe) hc hi ok (fun cl C s0 H0 fp pn=>body cl C s0 H0 fp pn) hs) fun σ H Q ⟨ρ,d,en,q,k⟩=>?_
  cases h1:fi ρ with
  | none=>simp [qK,h1] at q
  | some ds=>
   by_cases hf:few ds=true
   ·cases h2:jW ga ft fe ds (JV cap ρ) with
    | none=>simp [qK,h1,hf,h2] at q
    | some ys=>
     have:PyData.list ys=d:=by simpa [qK,h1,hf,h2] using q
     subst this
     refine ⟨ρ,ds,en,h1,fun J H1 s1 Y=>?_⟩
     refine ⟨fun i m τ us H2=>m=ds.length - i/\i<=ds.length/\jr H1 H2/\us.length<=i/\∃ ρ2 zs ws,EnvR X.K H2 ρ2 τ/\Reps X.K H2 zs us/\jW ga ft fe (ds.drop i) ρ2=some ws/\ys=zs++ws,
      ⟨ds.length,by simp,Nat.zero_le _,jr.refl _,Nat.le_refl _,JV cap ρ,[],ys,(en.mono s1).cap cap,rfl,by simpa using h2,rfl⟩,?_⟩
     rintro i m τ us H2 ⟨rfl,hi',s2,hu,ρ2,zs,ws,en2,r2,q2,ey⟩
     have hsm:us.length < sizeLine:=Nat.lt_of_le_of_lt (Nat.le_trans hu hi') (Nat.lt_of_lt_of_le (by simpa [few] using hf) (by rw [sizeLine_eq]; decide:1000000<=sizeLine))
     obtain ⟨g1,g2,g3⟩:=Y i H2 (jr.e s2)
     refine ⟨hsm,?_⟩
     by_cases hlt:i < ds.length
     ·right
      have hd:ds.drop i=ds[i]::ds.drop (i+1):=List.drop_eq_getElem_cons hlt
      rw [hd] at q2
      refine ⟨g1 hlt,fun x H3 y=>?_⟩
      obtain ⟨s3,r3⟩:=g3 x H3 y
      have r3':=r3 ds[i] (by simp [hlt])
      cases h4:ga ds[i] ρ2 with
      | none=>simp [jW,h4] at q2
      | some ρ4=>
       refine ⟨ρ2,ds[i],ρ4,en2.mono s3,r3',h4,fun σ5 H5 s5 en5=>?_⟩
       cases h5:ft ρ4 with
       | none=>simp [jW,h4,h5] at q2
       | some b=>
        refine ⟨ρ4,b,en5,h5,fun H6 s6=>?_⟩
        have s26:=s3.trans (s5.trans s6)
        cases b with
        | false=>
         refine ams ?_
         exact ⟨ds.length - (i+1),by omega,rfl,hlt,s2.trans s26,by omega,ρ4,zs,ws,en5.mono s6,Reps.mono s26 _ _ r2,by simpa [jW,h4,h5] using q2,ey⟩
        | true=>
         refine amt ?_
         cases h6:fe ρ4 with
         | none=>simp [jW,h4,h5,h6] at q2
         | some y=>
          cases h7:jW ga ft fe (ds.drop (i+1)) ρ4 with
          | none=>simp [jW,h4,h5,h6,h7] at q2
          | some ws'=>
           have hw:y::ws'=ws:=by simpa [jW,h4,h5,h6,h7] using q2
           refine ⟨ρ4,y,en5.mono s6,h6,fun v H7 s7 r7=>?_⟩
           refine ⟨ds.length - (i+1),by omega,rfl,hlt,s2.trans (s26.trans s7),by rw [List.length_append]; simp; omega,ρ4,zs++[y],ws',(en5.mono s6).mono s7,(Reps.mono (s26.trans s7) _ _ r2).append ⟨v,[],rfl,r7,rfl⟩,h7,?_⟩
           rw [ey,←hw]; simp
     ·left
      have he:i=ds.length:=by omega
      have hn:ds.drop i=[]:=by rw [he]; simp
      rw [hn] at q2
      have hw:[]=ws:=by simpa [jW] using q2
      subst hw
      have ey':ys=zs:=by simpa using ey
      subst ey'
      exact ⟨g2 (by omega),fun l hl=>k _ _ (s1.trans (s2.trans (jx hl))) ⟨l,us,rfl,jp,Reps.mono (jx hl) _ _ r2⟩⟩
   ·simp [qK,h1,hf] at q
noncomputable def Pur (K:PySem.W.Frag) (n:Nat) (g:List PyData->Option PyData):Sp:=fun vs H Q _=>∃ ds d,ds.length=n/\Reps K H ds vs/\g ds=some d/\∀ v H',jr H H'->Rep K H' d v->Q v H'
noncomputable def jT (g:List PyData->Option PyData) (fr:Rho->Option (List PyData)):Rho->Option PyData:=fun ρ=>(fr ρ).bind g
theorem ajr {k n:Nat}{f:Addr}{fd:FuncData}{ps:List Str}{g:List PyData->Option PyData}{x:Str}{p:Pos}{fr:Rho->Option (List PyData)} (FO:FnOk X.prog X.w X.K X.mg X.base CX0 k f fd ps (Pur X.K n g)) (hr:Room k X.A) (hm:X.mg x=some (.ref f)) (hk:PySem.W.keepIn X.K (.ref f)=true)
  (hb:QN X.K fd ps []) (hn:(e::es).length=n) (ha:PAD X (e::es) fr) (hl:∀ ρ ds,fr ρ=some ds->ds.length=(e::es).length) (hg:Gl X x:=by rfl) (hdb:(x == ("__debug__":Str))=false:=by decide) (he:starEach (e::es) X.env=(false,eval e X.env)::starEach es X.env:=by rfl)
  (hpl:(backTo pos (starEach es X.env)).any (·.1)=false:=by rfl):PD X (.Call (.Name x p) (e::es) [] pos) (jT g fr):=by
 with_unfolding_all
  refine PE.imp (ai5 FO hr hg hm hk hb .nil amr ha hdb he hpl) fun σ H Q ⟨ρ,d,en,q,k⟩=>?_
  cases h1:fr ρ with
  | none=>simp [jT,h1] at q
  | some ds=>
   refine ⟨ρ,ds,en,h1,fun vs H1 s1 r1=>?_⟩
   refine ⟨ds,d,by rw [hl ρ ds h1,hn],by rw [List.append_nil]; exact r1,by simpa [jT,h1] using q,fun v H' s r=>k v H' (s1.trans s) r⟩
noncomputable def QO (X:Cx) (f:Value) (g:List PyData->Option PyData):Prop:=∃ r,zC X f r/\∀ ds d xs H Q,g ds=some d->Reps X.K H ds xs->(∀ v H',jr H H'->Rep X.K H' d v->Q v H')->r xs H Q
theorem jy {id:String}{g:List PyData->Option PyData}{x:Str}{p:Pos}{fr:Rho->Option (List PyData)} (hc:QO X (.builtin id) g) (hm:X.mg x=none) (hv:bootBuiltins x=some (.builtin id)) (ha:PAD X (e::es) fr) (hg:Gl X x:=by rfl) (hn:x ≠ "__name__":=by decide) (hdb:(x == ("__debug__":Str))=false:=by decide)
  (he:starEach (e::es) X.env=(false,eval e X.env)::starEach es X.env:=by rfl) (hpl:(backTo pos (starEach es X.env)).any (·.1)=false:=by rfl):PD X (.Call (.Name x p) (e::es) [] pos) (jT g fr):=by
 with_unfolding_all
  obtain ⟨r,h1,h2⟩:=hc
  refine PE.imp (aao h1 hg hm hv ha hn hdb he hpl) fun σ H Q ⟨ρ,d,en,q,k⟩=>?_
  cases h3:fr ρ with
  | none=>simp [jT,h3] at q
  | some ds=>exact ⟨ρ,ds,en,h3,fun vs H1 s1 r1=>h2 ds d vs H1 Q (by simpa [jT,h3] using q) r1 fun v H' s r=>k v H' (s1.trans s) r⟩
theorem abB {T:String}{g:List PyData->Option PyData}{x:Str}{p:Pos}{fr:Rho->Option (List PyData)} (hc:QO X (.type T) g) (hm:X.mg x=none) (hv:bootBuiltins x=some (.type T)) (ha:PAD X (e::es) fr) (hg:Gl X x:=by rfl) (hn:x ≠ "__name__":=by decide) (hdb:(x == ("__debug__":Str))=false:=by decide)
  (he:starEach (e::es) X.env=(false,eval e X.env)::starEach es X.env:=by rfl) (hpl:(backTo pos (starEach es X.env)).any (·.1)=false:=by rfl):PD X (.Call (.Name x p) (e::es) [] pos) (jT g fr):=by
 with_unfolding_all
  obtain ⟨r,h1,h2⟩:=hc
  refine PE.imp (afV h1 hg hm hv ha hn hdb he hpl) fun σ H Q ⟨ρ,d,en,q,k⟩=>?_
  cases h3:fr ρ with
  | none=>simp [jT,h3] at q
  | some ds=>exact ⟨ρ,ds,en,h3,fun vs H1 s1 r1=>h2 ds d vs H1 Q (by simpa [jT,h3] using q) r1 fun v H' s r=>k v H' (s1.trans s) r⟩
end
noncomputable def jX (N:List Str) (ds:List PyData):Rho:=ds.map some++List.replicate (N.length - ds.length) none
theorem af3 {K:PySem.W.Frag}{H:Hp}{N:List Str}{ds:List PyData}{vs:List V} (r:Reps K H ds vs):EnvR K H (jX N ds) (L2.JS N vs):=by
 have hl:=r.length
 refine ⟨by simp [jX,L2.JS,hl],fun i d q=>?_⟩
 unfold jX at q
 by_cases hi:i < ds.length
 ·rw [List.getElem?_append_left (by simpa using hi),List.getElem?_map] at q
  cases e:ds[i]? with
  | none=>rw [e] at q; cases q
  | some c=>
   rw [e] at q; cases q
   obtain ⟨x,e1,e2⟩:=r.get e
   refine ⟨x,?_,e2⟩
   unfold L2.JS
   rw [List.getElem?_append_left (by simp; omega),List.getElem?_map,e1]; rfl
 ·rw [List.getElem?_append_right (by simpa using hi),List.getElem?_replicate] at q
  split at q <;> cases q
noncomputable def jB (N:List Str) (n:Nat) (B:Rho->Option Out) (ds:List PyData):Option PyData:=if ds.length=n then match B (jX N ds) with
 | some (.rt d)=>some d
 | some (.nx _)=>some .none
 | _=>none else none
section
variable {P:Program}{w:World}{K:PySem.W.Frag}{mg:Str->Option Value}{base:Heap}
theorem jA {x qual:Str}{st:Stmt}{f:Addr}{fd:FuncData}{N ps:List Str}{k:Nat}{B:Rho->Option Out} (F:Fun K x qual st f fd) (S:FnScope N ps (jm st))
  (body:∀ (cdv:Value) (A:Around) (outer:List Env) (s:Shared) (H:Hp) (E:XK),Room k (A.deeper (envOfC qual (jm st) s.heap.objs.size f cdv))->
   aaw (aan CX0 P w K mg base N qual (jm st) f cdv A outer s H E).nox (jP st) B):FnOk P w K mg base CX0 (k+1) f fd ps (Pur K ps.length (jB N ps.length B)):=by
 with_unfolding_all
  refine F.ok S (fun vs H Q E h=>?_) (fun cdv A outer s H vs Q E hr h=>?_)
  ·obtain ⟨ds,d,h1,h2,_⟩:=h
   rw [h2.length]; exact h1
  ·obtain ⟨ds,d,h1,h2,h3,h4⟩:=h
   refine ⟨_,body cdv A outer s H E hr,?_⟩
   unfold jB at h3
   rw [if_pos h1] at h3
   cases hB:B (jX N ds) with
   | none=>rw [hB] at h3; cases h3
   | some o=>
    refine ⟨jX N ds,o,af3 h2,hB,?_⟩
    rw [hB] at h3
    cases o with
    | rt c=>cases h3; exact fun v H' s r=>h4 v H' s r
    | nx ρ=>cases h3; exact fun σ H' s r=>h4 .non H' s rfl
    | bk ρ=>cases h3
    | ct ρ=>cases h3
theorem amy {k n:Nat}{f:Addr}{fd:FuncData}{ps:List Str}{g g':List PyData->Option PyData} (F:FnOk P w K mg base CX0 k f fd ps (Pur K n g)) (h:∀ ds d,ds.length=n->g' ds=some d->g ds=some d):FnOk P w K mg base CX0 k f fd ps (Pur K n g'):=
 F.imp fun vs H Q E ⟨ds,d,h1,h2,h3,h4⟩=>⟨ds,d,h1,h2,h ds d h1 h3,h4⟩
end
section
variable {X:Cx}
noncomputable def amz (K:PySem.W.Frag):R2:=fun x y H Q=>∃ a b ys,x= .ref a/\y= .ref b/\SqT K H a []/\SqT K H b ys/\Q (.ref b) H
theorem ajs:OpR X (binaryOp .Add) (amz X.K):=by
 intro pins s σ H x y v u Q I rx ry h
 obtain ⟨a,b,ys,rfl,rfl,ha,hb,q⟩:=h
 cases rx
 cases ry
 obtain ⟨its,r1,p1,_⟩:=I.tuple ha
 obtain ⟨its2,r2,p2,_⟩:=I.tuple hb
 cases r1
 obtain ⟨⟨c1,d1,t1,l1⟩,ho,hc,n,hd⟩:=id p1
 obtain ⟨⟨c2,d2,t2,l2⟩,ho2,hc2,n2,hd2⟩:=id p2
 simp only at hc hd hc2 hd2
 subst hc hd hc2 hd2
 exact concat_meets ⟨_,ho,rfl⟩ ⟨_,ho2,rfl⟩ noFill_tuple_add seq_tuple_add PySem.F.slot_tuple_add PySem.F.entry_tuple_add (PySem.F.args_tuple_add_2 _ _)
  (tuple_addW0 a b _ _ n n2 d1 d2 l1 l2 (by simp)) ⟨ho,ho2,⟨.ref b,H,I,rfl,q⟩⟩
noncomputable def Je:PyData->PyData->Option PyData
 | .int i,.int j=>some (.int (i+j))
 | .list xs,.list ys=>if few (xs++ys)=true then some (.list (xs++ys)) else none
 | .tuple [],.tuple ys=>some (.tuple ys)
 | .tuple (x::xs),.tuple ys=>if few ((x::xs)++ys)=true then some (.tuple ((x::xs)++ys)) else none
 | _,_=>none
theorem jz:OpD X (binaryOp .Add) Je:=by
 refine ⟨_,akV.or (ak6.or (ajs.or ai7)),fun p q d x y H Q h rx ry k=>?_⟩
 unfold Je at h
 split at h
 ·cases h
  cases (show x=_ from rx)
  cases (show y=_ from ry)
  exact .inl ⟨_,_,rfl,rfl,k _ H (jr.refl H) rfl⟩
 ·rename_i xs ys
  split at h
  ·rename_i hf
   cases h
   obtain ⟨a,us,e1,e2,e3⟩:=rx
   obtain ⟨b,ws,e4,e5,e6⟩:=ry
   have hl:us.length+ws.length < 1000000:=by
    rw [e3.length,e6.length]
    simp [few] at hf
    try simp only [List.length_cons]
    omega
   exact .inr (.inl ⟨a,b,us,ws,e1,e4,e2,e5,aax hl,fun p hp=>k _ _ (jx hp) ⟨p,_,rfl,jp,Reps.mono (jx hp) _ _ (e3.append e6)⟩⟩)
  ·cases h
 ·rename_i ys
  cases h
  obtain ⟨a,us,e1,e2,e3⟩:=rx
  cases (show us=[] from e3)
  obtain ⟨b,ws,e4,e5,e6⟩:=ry
  exact .inr (.inr (.inl ⟨a,b,ws,e1,e4,e2,e5,k _ H (jr.refl H) ⟨b,ws,rfl,e5,e6⟩⟩))
 ·rename_i z xs ys
  split at h
  ·rename_i hf
   cases h
   obtain ⟨a,us,e1,e2,e3⟩:=rx
   obtain ⟨b,ws,e4,e5,e6⟩:=ry
   have hl:us.length+ws.length < 1000000:=by
    rw [e3.length,e6.length]
    simp [few] at hf
    try simp only [List.length_cons]
    omega
   refine .inr (.inr (.inr ⟨a,b,us,ws,e1,e4,e2,e5,fun z=>?_,aax hl,fun z=>?_,fun _ p hp=>?_⟩))
   ·have:=e3.length; rw [z] at this; simp at this
   ·subst z
    have:=e6.length
    have hy:ys=[]:=List.length_eq_zero_iff.mp (by simpa using this.symm)
    subst hy
    exact k _ H (jr.refl H) ⟨a,us,rfl,e2,by simpa using e3⟩
   ·exact k _ _ (jx hp) ⟨p,_,rfl,SqT.of jp,Reps.mono (jx hp) _ _ (e3.append e6)⟩
  ·cases h
 ·cases h
noncomputable def QD:PyData->PyData->Option PyData
 | .int i,.int j=>some (.int (i - j))
 | _,_=>none
theorem qM:OpD X (binaryOp .Sub) QD:=by
 refine ⟨_,akW,fun p q d x y H Q h rx ry k=>?_⟩
 unfold QD at h
 split at h
 ·cases h; cases (show x=_ from rx); cases (show y=_ from ry); exact ⟨_,_,rfl,rfl,k _ H (jr.refl H) rfl⟩
 ·cases h
theorem Reps.rep {K:PySem.W.Frag}{H:Hp}{ds:List PyData}{xs:List V} (h:Reps K H ds xs):∀ (n:Nat),Reps K H (List.replicate n ds).flatten (List.replicate n xs).flatten
 | 0=>rfl
 | n+1=>by rw [List.replicate_succ,List.replicate_succ,List.flatten_cons,List.flatten_cons]; exact h.append (Reps.rep h n)
noncomputable def zm:PyData->PyData->Option PyData
 | .int i,.int j=>if (-(2 ^ 64) < i/\i < 2 ^ 64) ∨ (-(2 ^ 64) < j/\j < 2 ^ 64) then some (.int (i*j)) else none
 | .list xs,.int k=>if k < 1000/\xs.length < 1000/\-1000 < k then some (.list (List.replicate k.toNat xs).flatten) else none
 | _,_=>none
theorem qg:OpD X (binaryOp .Mult) zm:=by
 refine ⟨_,akX.or ag8,fun p q d x y H Q h rx ry k=>?_⟩
 unfold zm at h
 split at h
 ·split at h
  ·rename_i hc
   cases h; cases (show x=_ from rx); cases (show y=_ from ry); exact .inl ⟨_,_,rfl,rfl,hc,k _ H (jr.refl H) rfl⟩
  ·cases h
 ·rename_i xs n
  split at h
  ·rename_i hc
   cases h
   obtain ⟨a,us,e1,e2,e3⟩:=rx
   cases (show y=_ from ry)
   have hl:=e3.length
   have hs:us.length*n.toNat<=sizeLine:=by
    rw [sizeLine_eq]
    have h1:us.length<=1000:=by omega
    have h2:n.toNat<=1000:=by omega
    exact Nat.le_trans (Nat.mul_le_mul h1 h2) (by decide)
   exact .inr ⟨a,n,us,e1,rfl,e2,by omega,by omega,hs,fun p hp=>k _ _ (jx hp) ⟨p,_,rfl,jp,Reps.mono (jx hp) _ _ (Reps.rep e3 n.toNat)⟩⟩
  ·cases h
 ·cases h
noncomputable def adb:PyData->PyData->Option PyData
 | .int i,.int j=>if 0 < j/\j < 1073741824 then some (.int (i / j)) else none
 | _,_=>none
theorem JW:OpD X (binaryOp .FloorDiv) adb:=by
 refine ⟨_,ai2,fun p q d x y H Q h rx ry k=>?_⟩
 unfold adb at h
 split at h
 ·split at h
  ·rename_i hc
   cases h; cases (show x=_ from rx); cases (show y=_ from ry); exact ⟨_,_,rfl,rfl,hc,k _ H (jr.refl H) rfl⟩
  ·cases h
 ·cases h
noncomputable def ahj:PyData->PyData->Option PyData
 | .int i,.int j=>if 0 < j then some (.int (i % j)) else none
 | _,_=>none
theorem Jy:OpD X (binaryOp .Mod) ahj:=by
 refine ⟨_,akY,fun p q d x y H Q h rx ry k=>?_⟩
 unfold ahj at h
 split at h
 ·split at h
  ·rename_i hc
   cases h; cases (show x=_ from rx); cases (show y=_ from ry); exact ⟨_,_,rfl,rfl,hc,k _ H (jr.refl H) rfl⟩
  ·cases h
 ·cases h
noncomputable def okD (d:PyData):Bool:=d.canLay0 && decide (d.depth < 30)
noncomputable def amA (K:PySem.W.Frag) (neg:Bool):R2:=fun x y H Q=>∃ p q,Rep K H p x/\Rep K H q y/\okD p=true/\okD q=true/\Q (.bl (if neg then !PyData.eqv p q else PyData.eqv p q)) H
theorem j8 {d:PyData} (h:okD d=true):d.canLay0=true:=by simp [okD] at h; exact h.1
theorem Z2 {d:PyData} (h:okD d=true):d.depth < 30:=by simp [okD] at h; exact h.2
theorem ald (hu:X.A.units+64 < cLine):OpR X (compareOp .Eq) (amA X.K false):=by
 intro pins s σ H x y v u Q I rx ry ⟨p,q,h1,h2,h3,h4,k⟩
 obtain ⟨as,ra⟩:=qu I p x v h1 rx (j8 h3)
 obtain ⟨bs,rb⟩:=qu I q y u h2 ry (j8 h4)
 have d1:=Z2 h3
 exact SeqAt.compareEq_reads ra rb (j8 h3) (j8 h4) (by omega) ⟨.bl _,H,I,rfl,k⟩
theorem ale (hu:X.A.units+64 < cLine):OpR X (compareOp .NotEq) (amA X.K true):=by
 intro pins s σ H x y v u Q I rx ry ⟨p,q,h1,h2,h3,h4,k⟩
 obtain ⟨as,ra⟩:=qu I p x v h1 rx (j8 h3)
 obtain ⟨bs,rb⟩:=qu I q y u h2 ry (j8 h4)
 have d1:=Z2 h3
 exact SeqAt.compareNe_reads ra rb (j8 h3) (j8 h4) (by omega) ⟨.bl _,H,I,rfl,k⟩
noncomputable def amB (K:PySem.W.Frag):R2:=fun x y H Q=>∃ a b ns,x= .ref a/\y= .ref b/\SqL K H a (List.map V.int ns)/\H b=some (.lst [])/\Q (.bl ns.isEmpty) H
theorem Qz (h:Heap):∀ (ns:List Int) (us:List Value),jF (List.map V.int ns) us->∃ as,ReadsAll h us (ns.map PyData.int) as
 | [],us,r=>by cases r; exact ⟨_,.nil⟩
 | n::ns,us,r=>by
  cases r with
  | cons r1 r2=>
   obtain ⟨t,rfl⟩:=r1
   obtain ⟨as,ra⟩:=Qz h ns _ r2
   exact ⟨_,.cons (.int n t) ra⟩
theorem adc:∀ ns:List Int,PyData.canLayAll0 (ns.map PyData.int)=true
 | []=>rfl
 | n::ns=>by simp [PyData.canLayAll0,PyData.canLay0,adc ns]
theorem ajt (hu:X.A.units+64 < cLine):OpR X (compareOp .Eq) (amB X.K):=by
 intro pins s σ H x y v u Q I rx ry ⟨a,b,ns,e1,e2,h1,h2,k⟩
 subst e1; subst e2
 cases rx; cases ry
 obtain ⟨its,rv,⟨o,n,g1,g2,g3,g4⟩,_⟩:=I.list h1
 obtain ⟨as,ra⟩:=Qz s.heap ns its rv
 obtain ⟨bs,rb⟩:=qu I (.list []) (.ref b) (.ref b) ⟨b,[],rfl,h2,rfl⟩ rfl rfl
 have ra':Reads s.heap (.ref a) (.list (ns.map PyData.int)) (a::as):= .list g1 g2 g4 (by simpa using ra)
 refine SeqAt.compareEq_reads ra' rb (by simpa [PyData.canLay0] using adc ns) rfl ?_ ⟨.bl _,H,I,rfl,?_⟩
 ·have:(PyData.list []).depth=1:=rfl
  rw [this]; omega
 ·have:PyData.eqv (.list (ns.map PyData.int)) (.list [])=ns.isEmpty:=by cases ns <;> simp [PyData.eqv,PyData.eqvAll]
  rw [this]; exact k
noncomputable def dEq:PyData->PyData->Option PyData
 | .dict kvs,.list []=>if zh kvs=true then some (.bool kvs.isEmpty) else none
 | p,q=>if okD p=true/\okD q=true then some (.bool (PyData.eqv p q)) else none
theorem zF (hu:X.A.units+64 < cLine):OpD X (compareOp .Eq) dEq:=by
 refine ⟨_,(ajt hu).or (ald hu),fun p q d x y H Q h rx ry k=>?_⟩
 unfold dEq at h
 split at h
 ·split at h
  ·rename_i hs
   cases h
   obtain ⟨a,ns,e1,e2,e3⟩:=rx.scrOut hs
   obtain ⟨b,ws,e4,e5,e6⟩:=ry
   cases (show ws=[] from e6)
   refine .inl ⟨a,b,ns,e1,e4,e2,e5,?_⟩
   have:ns.isEmpty=(ns.map fun n=>(PyData.int n,PyData.none)).isEmpty:=by simp
   subst e3
   rw [this]
   exact k _ H (jr.refl H) rfl
  ·cases h
 ·split at h
  ·rename_i hc
   cases h
   exact .inr ⟨p,q,rx,ry,hc.1,hc.2,k _ H (jr.refl H) rfl⟩
  ·cases h
noncomputable def dNe:PyData->PyData->Option PyData:=fun p q=>if okD p=true/\okD q=true then some (.bool (!PyData.eqv p q)) else none
theorem qF (hu:X.A.units+64 < cLine):OpD X (compareOp .NotEq) dNe:=by
 refine ⟨_,ale hu,fun p q d x y H Q h rx ry k=>?_⟩
 unfold dNe at h
 split at h
 ·rename_i hc
  cases h
  exact ⟨p,q,rx,ry,hc.1,hc.2,k _ H (jr.refl H) rfl⟩
 ·cases h
noncomputable def alf (K:PySem.W.Frag) (neg:Bool):R2:=fun x y H Q=>∃ p ds,Rep K H p x/\(Rep K H (.list ds) y ∨ Rep K H (.tuple ds) y)/\okD p=true/\okD (.list ds)=true/\Q (.bl (if neg then !(ds.any fun z=>PyData.eqv z p) else ds.any fun z=>PyData.eqv z p)) H
theorem alg (hu:X.A.units+64 < cLine):OpR X (compareOp .In) (alf X.K false):=by
 intro pins s σ H x y v u Q I rx ry ⟨p,ds,h1,h2,h3,h4,k⟩
 obtain ⟨as,ra⟩:=qu I p x v h1 rx (j8 h3)
 have d1:=Z2 h3
 have hc:PyData.canLayAll0 ds=true:=by simpa [PyData.canLay0] using j8 h4
 rcases h2 with h2 | h2
 ·obtain ⟨bs,rb⟩:=qu I (.list ds) y u h2 ry (j8 h4)
  exact SeqAt.in_list_reads rb ra hc (j8 h3) (by omega) ⟨.bl _,H,I,rfl,k⟩
 ·obtain ⟨bs,rb⟩:=qu I (.tuple ds) y u h2 ry (by simpa [PyData.canLay0] using hc)
  exact SeqAt.in_tuple_reads rb ra hc (j8 h3) (by omega) ⟨.bl _,H,I,rfl,k⟩
theorem af4 (hu:X.A.units+64 < cLine):OpR X (compareOp .NotIn) (alf X.K true):=by
 intro pins s σ H x y v u Q I rx ry ⟨p,ds,h1,h2,h3,h4,k⟩
 obtain ⟨as,ra⟩:=qu I p x v h1 rx (j8 h3)
 have d1:=Z2 h3
 have hc:PyData.canLayAll0 ds=true:=by simpa [PyData.canLay0] using j8 h4
 rcases h2 with h2 | h2
 ·obtain ⟨bs,rb⟩:=qu I (.list ds) y u h2 ry (j8 h4)
  exact SeqAt.notIn_list_reads rb ra hc (j8 h3) (by omega) ⟨.bl _,H,I,rfl,k⟩
 ·obtain ⟨bs,rb⟩:=qu I (.tuple ds) y u h2 ry (by simpa [PyData.canLay0] using hc)
  exact SeqAt.notIn_tuple_reads rb ra hc (j8 h3) (by omega) ⟨.bl _,H,I,rfl,k⟩
noncomputable def dIn (neg:Bool):PyData->PyData->Option PyData:=fun p q=>match q with
 | .list ds=>if okD p=true/\okD (.list ds)=true then some (.bool (if neg then !(ds.any fun z=>PyData.eqv z p) else ds.any fun z=>PyData.eqv z p)) else none
 | .tuple ds=>if okD p=true/\okD (.list ds)=true then some (.bool (if neg then !(ds.any fun z=>PyData.eqv z p) else ds.any fun z=>PyData.eqv z p)) else none
 | _=>none
theorem aku {neg:Bool}{p q d:PyData}{x y:V}{H:Hp}{Q:VK}{K:PySem.W.Frag} (h:dIn neg p q=some d) (rx:Rep K H p x) (ry:Rep K H q y) (k:∀ v H',jr H H'->Rep K H' d v->Q v H'):alf K neg x y H Q:=by
 unfold dIn at h
 split at h
 ·split at h
  ·rename_i ds hc
   cases h
   exact ⟨p,ds,rx,.inl ry,hc.1,hc.2,k _ H (jr.refl H) rfl⟩
  ·cases h
 ·split at h
  ·rename_i ds hc
   cases h
   exact ⟨p,ds,rx,.inr ry,hc.1,hc.2,k _ H (jr.refl H) rfl⟩
  ·cases h
 ·cases h
theorem alh (hu:X.A.units+64 < cLine):OpD X (compareOp .In) (dIn false):=⟨_,alg hu,fun p q d x y H Q h rx ry k=>aku h rx ry k⟩
theorem af5 (hu:X.A.units+64 < cLine):OpD X (compareOp .NotIn) (dIn true):=⟨_,af4 hu,fun p q d x y H Q h rx ry k=>aku h rx ry k⟩
noncomputable def zi (f:Int->Int->Bool):PyData->PyData->Option PyData
 | .int i,.int j=>some (.bool (f i j))
 | _,_=>none
theorem aed {f:Int->Int->Bool}{p q d:PyData}{x y:V}{H:Hp}{Q:VK}{K:PySem.W.Frag} (h:zi f p q=some d) (rx:Rep K H p x) (ry:Rep K H q y) (k:∀ v H',jr H H'->Rep K H' d v->Q v H'):rI0 (fun i j=> .bl (f i j)) x y H Q:=by
 unfold zi at h
 split at h
 ·cases h; cases (show x=_ from rx); cases (show y=_ from ry); exact ⟨_,_,rfl,rfl,k _ H (jr.refl H) rfl⟩
 ·cases h
theorem aee:OpD X (compareOp .Lt) (zi fun i j=>decide (i < j)):=⟨_,amg,fun p q d x y H Q h rx ry k=>aed h rx ry k⟩
theorem Zs:OpD X (compareOp .LtE) (zi fun i j=>decide (i<=j)):=⟨_,amh,fun p q d x y H Q h rx ry k=>aed h rx ry k⟩
theorem aef:OpD X (compareOp .Gt) (zi fun i j=>decide (j < i)):=⟨_,ami,fun p q d x y H Q h rx ry k=>aed h rx ry k⟩
noncomputable def chn (g g':PyData->PyData->Option PyData) (fa fb fc:Rho->Option PyData):Rho->Option PyData:=fun ρ=>(fa ρ).bind fun x=>(fb ρ).bind fun y=>(g x y).bind fun z=>(asB z).bind fun t=>if t=true then (fc ρ).bind fun w=>g' y w else some (.bool false)
variable {a b c e:Expr}{fa fb fc:Rho->Option PyData}{pos:Pos}
theorem akv {g g':PyData->PyData->Option PyData}{K:PySem.W.Frag}{r r':R2} (hr:∀ p q d x y H Q,g p q=some d->Rep K H p x->Rep K H q y->(∀ v H',jr H H'->Rep K H' d v->Q v H')->r x y H Q)
  (hr':∀ p q d x y H Q,g' p q=some d->Rep K H p x->Rep K H q y->(∀ v H',jr H H'->Rep K H' d v->Q v H')->r' x y H Q) {σ:St} {H:Hp} {Q:VK} (h:tD K (chn g g' fa fb fc) σ H Q):ad4 r r' (tD K fa) (tD K fb) (tD K fc) σ H Q:=by
 obtain ⟨ρ,d,en,h,k⟩:=h
 unfold chn at h
 cases ha:fa ρ with
 | none=>rw [ha] at h; cases h
 | some p=>
  cases hb:fb ρ with
  | none=>rw [ha,hb] at h; cases h
  | some q=>
   rw [ha,hb] at h
   cases hg:g p q with
   | none=>simp [hg] at h
   | some z=>
    cases ht:asB z with
    | none=>simp [hg,ht] at h
    | some t=>
     have hz:=zD ht
     subst hz
     refine ⟨ρ,p,en,ha,fun x H1 s1 r1=>⟨ρ,q,en.mono s1,hb,fun y H2 s2 r2=>?_⟩⟩
     refine hr p q _ x y H2 _ hg (Rep.mono s2 p x r1) r2 fun v H3 s3 r3=>⟨t,r3,?_⟩
     have s13:=s1.trans (s2.trans s3)
     cases t with
     | false=>
      rw [if_neg Bool.false_ne_true]
      have hd:PyData.bool false=d:=by simpa [hg,asB] using h
      subst hd
      exact k _ H3 s13 rfl
     | true=>
      rw [if_pos rfl]
      cases hc:fc ρ with
      | none=>simp [hg,asB,hc] at h
      | some w=>
       refine ⟨ρ,w,en.mono s13,hc,fun z H4 s4 r4=>?_⟩
       exact hr' q w d y z H4 Q (by simpa [hg,asB,hc] using h) (Rep.mono (s3.trans s4) q y r2) r4 fun v H5 s5 r5=>k v H5 (s13.trans (s4.trans s5)) r5
theorem ahk {op op':CmpOp}{g g':PyData->PyData->Option PyData} (ho:OpD X (compareOp op) g) (ho':OpD X (compareOp op') g') (ha:PD X a fa) (hb:PD X b fb) (hc:PD X c fc)
  (hm:lastMarks [op,op'] [b,c]=false:=by with_unfolding_all rfl):PD X (.Compare a [op,op'] [b,c] pos) (chn g g' fa fb fc):=by
 with_unfolding_all
  obtain ⟨r,h1,h2⟩:=ho
  obtain ⟨r',h3,h4⟩:=ho'
  exact PE.imp (ag0 h1 h3 ha hb hc hm) fun σ H Q h=>akv h2 h4 h
theorem abC {op op':CmpOp}{g g':PyData->PyData->Option PyData} (ho:OpD X (compareOp op) g) (ho':OpD X (compareOp op') g') (ha:PD X a fa) (hb:PD X b fb) (hc:PD X c fc)
  (hm:lastMarks [op,op'] [b,c]=false:=by with_unfolding_all rfl):PTD X (.Compare a [op,op'] [b,c] pos) (tst (chn g g' fa fb fc)):=by
 with_unfolding_all
  obtain ⟨r,h1,h2⟩:=ho
  obtain ⟨r',h3,h4⟩:=ho'
  refine PT.imp (ag1 h1 h3 ha hb hc hm) fun σ H Q ⟨ρ,t,en,h,k⟩=>?_
  cases hd:chn g g' fa fb fc ρ with
  | none=>simp [tst,hd] at h
  | some d=>
   have ht:d= .bool t:=zD (by simpa [tst,hd] using h)
   subst ht
   exact akv h2 h4 ⟨ρ,_,en,hd,fun v H' s r=>⟨t,r,k H' s⟩⟩
noncomputable def dIx:PyData->PyData->Option PyData
 | .list ds,.int i=>if ds.length < 1000000 then atI ds i else none
 | .tuple ds,.int i=>if ds.length < 1000000 then atI ds i else none
 | .dict kvs,.int i=>if kvs.length < 1000000/\zh kvs=true then (atI kvs i).map (·.1) else none
 | _,_=>none
theorem ae7 {K:PySem.W.Frag}{H:Hp}{ds:List PyData}{xs:List V}{i:Int}{d:PyData} (r:Reps K H ds xs) (h:atI ds i=some d):∃ x,atI xs i=some x/\Rep K H d x:=by
 have hl:=r.length
 unfold atI at h ⊢
 rw [hl]
 cases e:ixN ds.length i with
 | none=>rw [e] at h; cases h
 | some j=>
  rw [e] at h
  obtain ⟨x,e1,e2⟩:=r.get (show ds[j]?=some d from h)
  exact ⟨x,e1,e2⟩
noncomputable def IxD (X:Cx) (g:PyData->PyData->Option PyData):Prop:=∃ r,IxR X r/\∀ p q d x y H Q,g p q=some d->Rep X.K H p x->Rep X.K H q y->(∀ v H',jr H H'->Rep X.K H' d v->Q v H')->r x y H Q
theorem ixd:IxD X dIx:=by
 refine ⟨_,ai9.or ak4,fun p q d x y H Q h rx ry k=>?_⟩
 unfold dIx at h
 split at h
 ·split at h
  ·obtain ⟨a,us,e1,e2,e3⟩:=rx
   cases (show y=_ from ry)
   obtain ⟨z,g1,g2⟩:=ae7 e3 h
   exact .inl ⟨a,us,_,z,e1,rfl,SqL.of e2,g1,k z H (jr.refl H) g2⟩
  ·cases h
 ·split at h
  ·obtain ⟨a,us,e1,e2,e3⟩:=rx
   cases (show y=_ from ry)
   obtain ⟨z,g1,g2⟩:=ae7 e3 h
   exact .inr ⟨a,us,_,z,e1,rfl,e2,g1,k z H (jr.refl H) g2⟩
  ·cases h
 ·split at h
  ·rename_i hs
   obtain ⟨a,ns,e1,e2,e3⟩:=rx.scrOut hs.2
   cases (show y=_ from ry)
   subst e3
   rename_i i
   unfold atI at h
   rw [List.length_map] at h
   cases e:ixN ns.length i with
   | none=>rw [e] at h; cases h
   | some j=>
    rw [e] at h
    have h':((ns.map fun n=>(PyData.int n,PyData.none))[j]?).map (·.1)=some d:=h
    rw [List.getElem?_map] at h'
    cases e4:ns[j]? with
    | none=>rw [e4] at h'; cases h'
    | some n=>
     rw [e4] at h'
     cases h'
     refine .inl ⟨a,List.map V.int ns,i,.int n,e1,rfl,e2,?_,k _ H (jr.refl H) rfl⟩
     unfold atI
     rw [List.length_map,e]
     show (List.map V.int ns)[j]?=_
     rw [List.getElem?_map,e4]; rfl
  ·cases h
 ·cases h
theorem jK (ha:PD X a fa) (hb:PD X b fb) (hs:ae2 b:=by intro _ _; rfl):PD X (.Subscript a b pos) (op2 dIx fa fb):=by
 with_unfolding_all
  obtain ⟨r,h1,h2⟩:=ixd (X:=X)
  exact PE.imp (amq h1 ha hb hs) fun σ H Q h=>ajn h2 h
noncomputable def q0 (ds:List PyData):Option PyData:=match ds with
 | [.list xs]=>some (.int xs.length)
 | [.tuple xs]=>some (.int xs.length)
 | [.dict xs]=>if zh xs=true then some (.int xs.length) else none
 | _=>none
theorem j9:QO X (.builtin "len") q0:=by
 refine ⟨_,acb,fun ds d xs H Q h r k=>?_⟩
 unfold q0 at h
 split at h
 ·cases h
  obtain ⟨x,q,e1,e2,e3⟩:=r
  cases (show q=[] from e3)
  obtain ⟨a,us,g1,g2,g3⟩:=e2
  subst g1
  exact ⟨a,us,e1,.inl (SqL.of g2),k _ H (jr.refl H) (by show _=_; rw [g3.length])⟩
 ·cases h
  obtain ⟨x,q,e1,e2,e3⟩:=r
  cases (show q=[] from e3)
  obtain ⟨a,us,g1,g2,g3⟩:=e2
  subst g1
  exact ⟨a,us,e1,.inr g2,k _ H (jr.refl H) (by show _=_; rw [g3.length])⟩
 ·split at h
  ·rename_i hs
   cases h
   obtain ⟨x,q,e1,e2,e3⟩:=r
   cases (show q=[] from e3)
   obtain ⟨a,ns,g1,g2,g3⟩:=e2.scrOut hs
   subst g1; subst g3
   exact ⟨a,_,e1,.inl g2,k _ H (jr.refl H) (by show _=_; simp)⟩
  ·cases h
 ·cases h
noncomputable def ahl (ds:List PyData):Option PyData:=match ds with
 | [.int i,.int j]=>some (.int (if j > i then j else i))
 | _=>none
noncomputable def ahm (ds:List PyData):Option PyData:=match ds with
 | [.int i,.int j]=>some (.int (if j < i then j else i))
 | _=>none
theorem aju (hc:X.calm=true):QO X (.builtin "max") ahl:=by
 refine ⟨_,afR hc,fun ds d xs H Q h r k=>?_⟩
 unfold ahl at h
 split at h
 ·cases h
  obtain ⟨x,q,e1,e2,y,q',e3,e4,e5⟩:=r
  cases (show x=_ from e2); cases (show y=_ from e4); cases (show q'=[] from e5); subst e3
  exact ⟨_,_,e1,k _ H (jr.refl H) rfl⟩
 ·cases h
theorem ajv (hc:X.calm=true):QO X (.builtin "min") ahm:=by
 refine ⟨_,afS hc,fun ds d xs H Q h r k=>?_⟩
 unfold ahm at h
 split at h
 ·cases h
  obtain ⟨x,q,e1,e2,y,q',e3,e4,e5⟩:=r
  cases (show x=_ from e2); cases (show y=_ from e4); cases (show q'=[] from e5); subst e3
  exact ⟨_,_,e1,k _ H (jr.refl H) rfl⟩
 ·cases h
end
section
variable {X:Cx}{pins:List (Addr × Obj)}{σ:St}{H:Hp}{s:Shared}
theorem abD {prog:Program}{w:World}{A:Around}{E:Value->Shared->Prop}{l:Addr}{its:Array Value}{Q:Value->Shared->Prop} (hl:s.heap.IsList l its)
  (h:∀ (h2:Heap) (it:Addr),(h2.IsListIter it l 0/\h2.IsList l its)->(∀ b ∈ [it,l],b < h2.objs.size)->l ≠ it->(∀ b o,s.heap.get? b=some o->h2.get? b=some o)->s.heap.get? it=none->Q (.ref it) { s with heap:=h2 }):
  wpAny (model prog w) A (pyIter (.ref l)) Q E s:=by
 have hlt:l < s.heap.objs.size:=by
  obtain ⟨_,e,_⟩:=hl
  exact Heap.lt_size e
 refine wpAny_pyIter_list hl (h _ _ ⟨⟨_,Heap.get?_push_size _ rfl,rfl,rfl⟩,hl.push _⟩ (fun b hb=>?_) (Nat.ne_of_lt hlt) (fun b o e=>Heap.get?_push_of_some _ e) (Heap.get?_none_of_le (Nat.le_refl _)))
 rw [Heap.size_push]
 rcases List.mem_cons.mp hb with e | hb
 ·rw [e]; exact Nat.lt_succ_self _
 ·have e:b=l:=by simpa using hb
  rw [e]; exact Nat.lt_succ_of_lt hlt
theorem af6 {prog:Program}{w:World}{A:Around}{E:Value->Shared->Prop}{l:Addr}{its:Array Value}{Q:Value->Shared->Prop} (hl:s.heap.IsTuple l its)
  (h:∀ (h2:Heap) (it:Addr),(h2.IsTupleIter it l 0/\h2.IsTuple l its)->(∀ b ∈ [it,l],b < h2.objs.size)->l ≠ it->(∀ b o,s.heap.get? b=some o->h2.get? b=some o)->s.heap.get? it=none->Q (.ref it) { s with heap:=h2 }):
  wpAny (model prog w) A (pyIter (.ref l)) Q E s:=by
 have hlt:l < s.heap.objs.size:=by
  obtain ⟨_,e,_⟩:=hl
  exact Heap.lt_size e
 have hl2:∀ o,(s.heap.push o).IsTuple l its:=fun o=>by
  obtain ⟨ob,e,r⟩:=hl
  exact ⟨ob,Heap.get?_push_of_some _ e,r⟩
 refine wpAny_pyIter_tuple hl (h _ _ ⟨⟨_,Heap.get?_push_size _ rfl,rfl,rfl⟩,hl2 _⟩ (fun b hb=>?_) (Nat.ne_of_lt hlt) (fun b o e=>Heap.get?_push_of_some _ e) (Heap.get?_none_of_le (Nat.le_refl _)))
 rw [Heap.size_push]
 rcases List.mem_cons.mp hb with e | hb
 ·rw [e]; exact Nat.lt_succ_self _
 ·have e:b=l:=by simpa using hb
  rw [e]; exact Nat.lt_succ_of_lt hlt
theorem aci {h h2 h3 : Heap} {it : Addr} (k1 : ∀ b o, h.get? b = some o -> h2.get? b = some o) (hn : h.get? it = none) (k2 : ∀ b o, b ∉ [it] -> h2.get? b = some o -> h3.get? b = some o) : ∀ b o, h.get? b = some o -> h3.get? b = some o := fun b o e =>
  k2 b o (fun z => by have e1 : b = it := by simpa using z
                      rw [e1, hn] at e; cases e) (k1 b o e)
theorem ae8:∀ {bs:List Bool}{us:List Value},jF (bs.map V.bl) us->us=bs.map Value.bool
 | [],us,r=>by cases r; rfl
 | b::bs,us,r=>by
  cases r with
  | cons r1 r2=>cases (show _=_ from r1); rw [ae8 r2]; rfl
theorem af7 (bs:List Bool):(List.range bs.length).all (fun i=>bs.getD i false)=bs.all id:=by
 have:bs=(List.range bs.length).map (fun i=>bs.getD i false):=by
  apply List.ext_getElem?
  intro i
  rw [List.getElem?_map]
  by_cases h:i < bs.length
  ·rw [List.getElem?_range h]; simp [List.getD,h]
  ·simp [h]
 conv=>rhs; rw [this]
 rw [List.all_map]; rfl
noncomputable def ans (K:PySem.W.Frag):List V->Hp->VK->Prop:=fun xs H Q=>∃ a bs,xs=[.ref a]/\SqL K H a (List.map V.bl bs)/\Q (.bl (bs.all id)) H
theorem af8 (hc:X.calm=true):zC X (.builtin "all") (ans X.K):=by
 intro pins s σ H xs us Q I r ⟨a,bs,e,hq,q⟩
 subst e
 obtain ⟨u,rfl,rx⟩:=ac2 r
 cases rx
 obtain ⟨its,rv,pl,hz⟩:=I.list hq
 have ei:=ae8 rv
 have hh:=I.ok.hd hc
 refine call_all_walk (abD pl.isList fun h2 it st hlt hne k1 hn=>?_)
 refine ⟨it,[it,a],[it],its.toArray.size,(fun i v=>its.toArray[i]?=some v),_,fun i=>bs.getD i false,rfl,Walks.list (A:=X.A.in1) hh it a hne its.toArray,st,?_,fun h3 tk k2=>?_⟩
 ·intro i v s' Q' E' hP hq'
  have:v= .bool (bs.getD i false):=by
   have hP':its[i]?=some v:=by simpa using hP
   rw [ei,List.getElem?_map] at hP'
   cases hb:bs[i]? with
   | none=>rw [hb] at hP'; cases hP'
   | some b=>rw [hb] at hP'; cases hP'; simp [List.getD,hb]
  subst this
  exact wpAny_truthy_bool hq'
 ·have I3:=I.kept (t':=tk) (aci k1 hn k2)
  have hl:its.toArray.size=bs.length:=by rw [ei]; simp
  refine ⟨.bl (bs.all id),H,I3,?_,q⟩
  show _=_
  rw [hl,af7]
noncomputable def bls:List PyData->Option (List Bool)
 | []=>some []
 | d::r=>(asB d).bind fun b=>(bls r).map fun q=>b::q
theorem Reps.bls {K:PySem.W.Frag}{H:Hp}:∀ {ds:List PyData}{bs:List Bool}{xs:List V},BX.bls ds=some bs->Reps K H ds xs->xs=bs.map V.bl
 | [],bs,xs,h,r=>by simp [BX.bls] at h; subst h; exact r
 | d::ds,bs,xs,h,⟨x,q,e1,e2,e3⟩=>by
  subst e1
  cases h1:asB d with
  | none=>simp [BX.bls,h1] at h
  | some b=>
   cases h2:BX.bls ds with
   | none=>simp [BX.bls,h1,h2] at h
   | some r=>
    have:b::r=bs:=by simpa [BX.bls,h1,h2] using h
    subst this
    have hd:=zD h1
    subst hd
    cases (show x=_ from e2)
    rw [Reps.bls h2 e3]; rfl
noncomputable def ahn (ds:List PyData):Option PyData:=match ds with
 | [.list xs]=>(bls xs).map fun bs=> .bool (bs.all id)
 | _=>none
theorem aho (hc:X.calm=true):QO X (.builtin "all") ahn:=by
 refine ⟨_,af8 hc,fun ds d xs H Q h r k=>?_⟩
 unfold ahn at h
 split at h
 ·rename_i ys
  cases hb:bls ys with
  | none=>simp [hb] at h
  | some bs=>
   have:PyData.bool (bs.all id)=d:=by simpa [hb] using h
   subst this
   obtain ⟨x,q,e1,e2,e3⟩:=r
   cases (show q=[] from e3)
   obtain ⟨a,us,g1,g2,g3⟩:=e2
   subst g1
   have:=Reps.bls hb g3
   subst this
   exact ⟨a,bs,e1,SqL.of g2,k _ H (jr.refl H) rfl⟩
 ·cases h
noncomputable def acj:PyData->Option Int
 | .int i=>some i
 | _=>none
noncomputable def zG:List PyData->Option (List Int)
 | []=>some []
 | d::r=>(acj d).bind fun b=>(zG r).map fun q=>b::q
theorem Zt:∀ {ds:List PyData}{ns:List Int},zG ds=some ns->ds=ns.map PyData.int
 | [],ns,h=>by simp [zG] at h; subst h; rfl
 | d::ds,ns,h=>by
  cases d with
  | int i=>
   cases h2:zG ds with
   | none=>simp [zG,acj,h2] at h
   | some r=>
    have:i::r=ns:=by simpa [zG,acj,h2] using h
    subst this
    rw [Zt h2]; rfl
  | _=>simp [zG,acj] at h
theorem ZO {ns:List Int}{us:List Value}{i:Nat}{v:Value} (r:jF (ns.map V.int) us) (h:us.toArray[i]?=some v):∃ t,v= .int (ns.getD i 0) t:=by
 have h':us[i]?=some v:=by simpa using h
 have hi:i < us.length:=(List.getElem?_eq_some_iff.mp h').1
 have hl:=r.length
 rw [List.length_map] at hl
 obtain ⟨u,e1,e2⟩:=r.get (show (ns.map V.int)[i]?=some (V.int (ns.getD i 0)) by
  rw [List.getElem?_map]
  have:i < ns.length:=by omega
  simp [List.getD,this])
 rw [h'] at e1; cases e1
 exact e2
theorem ZP (ns:List Int):preSum (fun i=>ns.getD i 0) ns.length=ns.sum:=by
 have go:∀ k,k<=ns.length->preSum (fun i=>ns.getD i 0) k=(ns.take k).sum:=by
  intro k
  induction k with
  | zero=>intro _; simp [preSum]
  | succ k ih=>
   intro hk
   have hlt:k < ns.length:=by omega
   have h1:ns.take (k+1)=ns.take k++[ns[k]]:=by rw [List.take_succ]; simp [hlt]
   rw [h1]
   simp only [preSum,ih (by omega),List.sum_append,List.sum_cons,List.sum_nil,Int.add_zero]
   simp [List.getD,hlt]
 have:=go ns.length (Nat.le_refl _)
 simpa using this
noncomputable def ant (K:PySem.W.Frag):List V->Hp->VK->Prop:=fun xs H Q=>∃ a ns,xs=[.ref a]/\(SqL K H a (List.map V.int ns) ∨ SqT K H a (List.map V.int ns))/\Q (.int ns.sum) H
theorem af9 (hc:X.calm=true):zC X (.builtin "sum") (ant X.K):=by
 intro pins s σ H xs us Q I r ⟨a,ns,e,hq,q⟩
 subst e
 obtain ⟨u,rfl,rx⟩:=ac2 r
 cases rx
 have hh:=I.ok.hd hc
 rcases hq with hq | hq
 ·obtain ⟨its,rv,pl,hz⟩:=I.list hq
  have hl:its.toArray.size=ns.length:=by have:=rv.length; simp at this ⊢; omega
  refine call_sum_walkG (abD pl.isList fun h2 it st hlt hne k1 hn=>?_)
  refine ⟨it,[it,a],[it],its.toArray.size,(fun i v=>its.toArray[i]?=some v),_,fun i=>ns.getD i 0,rfl,Walks.list (A:=X.A.in1) hh it a hne its.toArray,st,hlt,fun i v hP=>ZO rv hP,fun h3 tk t' k2=>?_⟩
  exact ⟨.int ns.sum,H,I.kept (t':=tk) (aci k1 hn k2),⟨t',by rw [hl,ZP]⟩,q⟩
 ·obtain ⟨its,rv,pl,hz⟩:=I.tuple hq
  have hl:its.toArray.size=ns.length:=by have:=rv.length; simp at this ⊢; omega
  refine call_sum_walkG (af6 (show s.heap.IsTuple a its.toArray from pl) fun h2 it st hlt hne k1 hn=>?_)
  refine ⟨it,[it,a],[it],its.toArray.size,(fun i v=>its.toArray[i]?=some v),_,fun i=>ns.getD i 0,rfl,Walks.tuple (A:=X.A.in1) hh it a hne its.toArray,st,hlt,fun i v hP=>ZO rv hP,fun h3 tk t' k2=>?_⟩
  exact ⟨.int ns.sum,H,I.kept (t':=tk) (aci k1 hn k2),⟨t',by rw [hl,ZP]⟩,q⟩
noncomputable def ali (ds:List PyData):Option PyData:=match ds with
 | [.list xs]=>(zG xs).map fun ns=> .int ns.sum
 | [.tuple xs]=>(zG xs).map fun ns=> .int ns.sum
 | _=>none
theorem alj (hc:X.calm=true):QO X (.builtin "sum") ali:=by
 refine ⟨_,af9 hc,fun ds d xs H Q h r k=>?_⟩
 unfold ali at h
 split at h
 ·rename_i ys
  cases hb:zG ys with
  | none=>simp [hb] at h
  | some ns=>
   have:PyData.int ns.sum=d:=by simpa [hb] using h
   subst this
   obtain ⟨x,q,e1,e2,e3⟩:=r
   cases (show q=[] from e3)
   obtain ⟨a,us,g1,g2,g3⟩:=e2
   subst g1
   rw [Zt hb] at g3
   have:=Reps.ints g3
   subst this
   exact ⟨a,ns,e1,.inl (SqL.of g2),k _ H (jr.refl H) rfl⟩
 ·rename_i ys
  cases hb:zG ys with
  | none=>simp [hb] at h
  | some ns=>
   have:PyData.int ns.sum=d:=by simpa [hb] using h
   subst this
   obtain ⟨x,q,e1,e2,e3⟩:=r
   cases (show q=[] from e3)
   obtain ⟨a,us,g1,g2,g3⟩:=e2
   subst g1
   rw [Zt hb] at g3
   have:=Reps.ints g3
   subst this
   exact ⟨a,ns,e1,.inr g2,k _ H (jr.refl H) rfl⟩
 ·cases h
end
section
variable {prog:Program}{w:World}{A:Around}{E:Value->Shared->Prop}{s:Shared}
theorem Jz {it t:Addr}{i:Nat}{ys:Array Value}{x:Value}{Q:Value->Shared->Prop} (hit:s.heap.IsTupleIter it t i) (ht:s.heap.IsTuple t ys) (hx:ys[i]?=some x)
  (hQ:∀ h',h'.IsTupleIter it t (i+1)->Heap.SameBut it s.heap h'->Q x { s with heap:=h' }):wpAny (model prog w) A (Builtin.SmallTypes.nextOf (.ref it)) Q E s:=by
 obtain ⟨o,ho,hc,hd⟩:=id hit
 obtain ⟨ot,hot,_,nt,hdt⟩:=ht
 unfold Builtin.SmallTypes.nextOf
 refine wpAny_bind (wpAny_callSpecial?_slot (name:=Str.ofString "__next__") hit.typeIs F.slot_tuple_iterator_next
  (wpAny_call_entry F.slot_tuple_iterator_next hit.typeIs F.entry_tuple_iterator_next ?_
   (F.args_tuple_iterator_next_1 _)))
 refine wpAny_bind (m:=field (.ref it) 0) (wpAny_field ho hd (x:= .ref t) rfl ?_)
 have no:¬ ((Value.ref t == Value.none)=true):=Bool.false_ne_true
 show wpAny _ _ (if (Value.ref t == Value.none)=true then _ else
  _) _ _ s
 rw [if_neg no]
 refine wpAny_bind (m:=field (.ref it) 1) (wpAny_field ho hd (x:= .int i 0) rfl ?_)
 refine wpAny_bind (m:=seqItems? (.ref t)) (wpAny_seqItems hot hdt ?_)
 simp only [Int.toNat_natCast,hx]
 refine wpAny_bind (wpAny_setField ho hd (by simp) (wpAny_pure ⟨x,rfl,wpAny_pure (hQ _ ?_ (Heap.SameBut.update ..))⟩))
 refine ⟨_,Heap.get?_update_self _ ho (Obj.isFreed_of_fields (Obj.data_mapFields hd _)),(Obj.cls_mapFields ..).trans hc,?_⟩
 rw [Obj.data_mapFields hd]
 simp [rawInt]
theorem abE {it t:Addr}{i:Nat}{ys:Array Value}{Q:Value->Shared->Prop} (hh:A.handled=none) (hit:s.heap.IsTupleIter it t i) (ht:s.heap.IsTuple t ys) (hx:ys[i]?=none)
  (hE:∀ h' e,Heap.ExtBut it s.heap h'->(∃ o,h'.get? e=some o/\o.cls= .type "StopIteration")->E (.ref e) { s with heap:=h' }):wpAny (model prog w) A (Builtin.SmallTypes.nextOf (.ref it)) Q E s:=by
 obtain ⟨o,ho,hc,hd⟩:=id hit
 obtain ⟨ot,hot,_,nt,hdt⟩:=ht
 unfold Builtin.SmallTypes.nextOf
 refine wpAny_bind (wpAny_callSpecial?_slot (name:=Str.ofString "__next__") hit.typeIs F.slot_tuple_iterator_next
  (wpAny_call_entry F.slot_tuple_iterator_next hit.typeIs F.entry_tuple_iterator_next ?_
   (F.args_tuple_iterator_next_1 _)))
 refine wpAny_bind (m:=field (.ref it) 0) (wpAny_field ho hd (x:= .ref t) rfl ?_)
 have no:¬ ((Value.ref t == Value.none)=true):=Bool.false_ne_true
 show wpAny _ _ (if (Value.ref t == Value.none)=true then _ else
  _) _ _ s
 rw [if_neg no]
 refine wpAny_bind (m:=field (.ref it) 1) (wpAny_field ho hd (x:= .int i 0) rfl ?_)
 refine wpAny_bind (m:=seqItems? (.ref t)) (wpAny_seqItems hot hdt ?_)
 simp only [Int.toNat_natCast,hx]
 refine wpAny_bind (wpAny_rule (wpAny_bind (wpAny_setField ho hd (by simp) ?_)))
 refine wpAny_bind (m:=newExc (.type "StopIteration") []) ?_
 simp only [newExc,newTuple]
 refine wpAny_bind (wpAny_newObj_type ?_ (by size_fits))
 refine wpAny_bind (m:=firstArgMember _ _) (wpAny_of_eq (a:=Value.none)
  (by first | rfl | (simp only [firstArgMember]; rfl)) ?_)
 refine wpAny_newObj_type ?_ (by size_fits)
 simp only [raiseNew]
 refine wpAny_bind (wpAny_handled ?_)
 rw [show A.in1.handled=none from hh]
 refine wpAny_bind (wpAny_pure (wpAny_throw ?_))
 exact hE _ _ (((Heap.SameBut.update ..).extBut.push _).push _) ⟨_,Heap.get?_push_size _ rfl,rfl⟩
noncomputable abbrev QP (h:Heap) (T:Addr) (a b c:Value):Prop:=h.get? T=some { cls:= .type "tuple",data:= .seq #[a,b,c] }
theorem aaB {T:Addr}{a b c x:Value}{k:Nat}{Q:Unit->Shared->Prop} (hT:QP s.heap T a b c)
  (h:∀ h',h'.get? T=some { cls:= .type "tuple",data:= .seq ((#[a,b,c]:Array Value).setIfInBounds k x) }->Heap.SameBut T s.heap h'->Q () { s with heap:=h' }):
  wpAny (model prog w) A (updateSeq T (·.setIfInBounds k x)) Q E s:=by
 refine wpAny_updateSeq hT rfl (h _ ?_ (Heap.SameBut.update ..))
 rw [Heap.get?_update_self _ hT rfl]
 simp [Obj.mapSeq]
structure Apart3 (z TI TO i1 i2 i3 t1 t2 t3:Addr):Prop where
 nd:[z,TO,i1,i2,i3].Nodup
 ti:TI ∉ [z,TO,i1,i2,i3]
 s1:t1 ∉ [z,TO,i1,i2,i3]
 s2:t2 ∉ [z,TO,i1,i2,i3]
 s3:t3 ∉ [z,TO,i1,i2,i3]
structure Zip3 (h:Heap) (z TI TO i1 i2 i3 t1 t2 t3:Addr) (xs ys zs:Array Value) (f0:Value) (k:Nat):Prop where
 hz:IsZip h z TI TO f0
 hTI:QP h TI (.ref i1) (.ref i2) (.ref i3)
 hTO:∃ a b c,QP h TO a b c
 g1:h.IsTupleIter i1 t1 k
 g2:h.IsTupleIter i2 t2 k
 g3:h.IsTupleIter i3 t3 k
 a1:h.IsTuple t1 xs
 a2:h.IsTuple t2 ys
 a3:h.IsTuple t3 zs
theorem Zip3.keep {h h':Heap}{z TI TO i1 i2 i3 t1 t2 t3:Addr}{xs ys zs:Array Value}{f0:Value}{k:Nat} (S:Zip3 h z TI TO i1 i2 i3 t1 t2 t3 xs ys zs f0 k)
  (kp:∀ b ∈ [z,TI,TO,i1,i2,i3,t1,t2,t3],∀ o,h.get? b=some o->h'.get? b=some o):Zip3 h' z TI TO i1 i2 i3 t1 t2 t3 xs ys zs f0 k:=by
 obtain ⟨hz,hTI,⟨a,b,c,hTO⟩,⟨o1,e1,r1⟩,⟨o2,e2,r2⟩,⟨o3,e3,r3⟩,⟨p1,f1,q1⟩,⟨p2,f2,q2⟩,⟨p3,f3,q3⟩⟩:=S
 exact ⟨kp z (by simp) _ hz,kp TI (by simp) _ hTI,⟨a,b,c,kp TO (by simp) _ hTO⟩,⟨o1,kp i1 (by simp) _ e1,r1⟩,⟨o2,kp i2 (by simp) _ e2,r2⟩,⟨o3,kp i3 (by simp) _ e3,r3⟩,⟨p1,kp t1 (by simp) _ f1,q1⟩,⟨p2,kp t2 (by simp) _ f2,q2⟩,⟨p3,kp t3 (by simp) _ f3,q3⟩⟩
noncomputable def But (l:List Addr) (h h':Heap):Prop:=∀ b o,b ∉ l->h.get? b=some o->h'.get? b=some o
theorem But.of {b:Addr}{l:List Addr}{h h':Heap} (x:Heap.ExtBut b h h') (hb:b ∈ l):But l h h':=fun c o hc e=>x c o (fun z=>hc (by rw [z]; exact hb)) e
theorem But.trans {l:List Addr}{h h1 h2:Heap} (a:But l h h1) (b:But l h1 h2):But l h h2:=fun c o hc e=>b c o hc (a c o hc e)
theorem aga {z TI TO i1 i2 i3 t1 t2 t3:Addr}{xs ys zs:Array Value}{k:Nat}{x y v:Value}{Q:Value->Shared->Prop} (D:Apart3 z TI TO i1 i2 i3 t1 t2 t3) (S:Zip3 s.heap z TI TO i1 i2 i3 t1 t2 t3 xs ys zs .none k)
  (hx:xs[k]?=some x) (hy:ys[k]?=some y) (hv:zs[k]?=some v)
  (hQ:∀ h',Zip3 h' z TI TO i1 i2 i3 t1 t2 t3 xs ys zs (rawInt s.heap.objs.size) (k+1)->QP h' s.heap.objs.size x y v->But [z,TO,i1,i2,i3] s.heap h'->Q (.ref s.heap.objs.size) { s with heap:=h' }):
  wpAny (model prog w) A (Builtin.«zip.__next__» ⟨[.ref z],[]⟩) (fun fin s'=>∃ v,fin= .done (.ret v)/\Q v s') E s:=by
 obtain ⟨hz,hTI,⟨a,b,c,hTO⟩,g1,g2,g3,a1,a2,a3⟩:=S
 obtain ⟨nd,ti,s1,s2,s3⟩:=D
 simp only [List.nodup_cons,List.mem_cons,List.not_mem_nil,or_false,not_or] at nd ti s1 s2 s3
 obtain ⟨⟨n1,n2,n3,n4⟩,⟨n5,n6,n7⟩,⟨n8,n9⟩,n10,_⟩:=nd
 obtain ⟨t1z,t1o,t11,t12,t13⟩:=s1
 obtain ⟨t2z,t2o,t21,t22,t23⟩:=s2
 obtain ⟨t3z,t3o,t31,t32,t33⟩:=s3
 obtain ⟨tiz,tio,ti1,ti2,ti3⟩:=ti
 refine wpAny_bind (m:=field (.ref z) 2) (wpAny_field hz rfl (x:= .bool false) rfl ?_)
 refine wpAny_bind (m:=field (.ref z) 3) (wpAny_field hz rfl (x:= .ref TI) rfl ?_)
 refine wpAny_bind (wpAny_seqItems hTI rfl ?_)
 refine wpAny_bind (m:=Builtin.SmallTypes.ownedTupleIsFree (.ref z)) ?_
 unfold Builtin.SmallTypes.ownedTupleIsFree
 refine wpAny_bind (wpAny_field hz rfl (x:= .none) rfl (wpAny_pure ?_))
 simp only [zzM]
 refine wpAny_bind (wpAny_rule ?_)
 refine wpAny_bind (wpAny_field hz rfl (x:= .ref TO) rfl ?_)
 refine wpAny_bind (wpAny_setField_rec hz (by simp) fun h1 hz1 b1=>?_)
 replace hz1:IsZip h1 z TI TO .ellipsis:=hz1
 refine wpAny_bind ?_
 simp only [List.zipIdx_cons,List.zipIdx_nil,List.forIn_cons,List.forIn_nil]
 refine wpAny_bind (wpAny_bind (wpAny_onRaise ?_))
 refine wpAny_bind (m:=Builtin.SmallTypes.nextOf (.ref i1)) ?_
 refine Jz (g1.extBut b1.extBut (Ne.symm n2)) (a1.extBut b1.extBut t1z) hx fun h2 g1' b2=>wpAny_pure ?_
 have o2:QP h2 TO a b c:=b2.extBut _ _ n5 (b1.extBut _ _ (Ne.symm n1) hTO)
 refine wpAny_bind (wpAny_seqItems o2 rfl ?_)
 refine wpAny_bind (aaB o2 fun h3 o3 b3=>?_)
 replace o3:QP h3 TO x b c:=o3
 refine wpAny_bind (wpAny_letGo (wpAny_pure ?_))
 refine wpAny_bind (wpAny_bind (wpAny_onRaise ?_))
 refine wpAny_bind (m:=Builtin.SmallTypes.nextOf (.ref i2)) ?_
 refine Jz (((g2.extBut b1.extBut (Ne.symm n3)).extBut b2.extBut (Ne.symm n8)).extBut b3.extBut (Ne.symm n6)) (((a2.extBut b1.extBut t2z).extBut b2.extBut t21).extBut b3.extBut t2o) hy fun h4 g2' b4=>wpAny_pure ?_
 have o4:QP h4 TO x b c:=b4.extBut _ _ n6 o3
 refine wpAny_bind (wpAny_seqItems o4 rfl ?_)
 refine wpAny_bind (aaB o4 fun h5 o5 b5=>?_)
 replace o5:QP h5 TO x y c:=o5
 refine wpAny_bind (wpAny_letGo (wpAny_pure ?_))
 refine wpAny_bind (wpAny_bind (wpAny_onRaise ?_))
 refine wpAny_bind (m:=Builtin.SmallTypes.nextOf (.ref i3)) ?_
 refine Jz (((((g3.extBut b1.extBut (Ne.symm n4)).extBut b2.extBut (Ne.symm n9)).extBut b3.extBut (Ne.symm n7)).extBut b4.extBut (Ne.symm n10)).extBut b5.extBut (Ne.symm n7))
  (((((a3.extBut b1.extBut t3z).extBut b2.extBut t31).extBut b3.extBut t3o).extBut b4.extBut t32).extBut b5.extBut t3o) hv fun h6 g3' b6=>wpAny_pure ?_
 have o6:QP h6 TO x y c:=b6.extBut _ _ n7 o5
 refine wpAny_bind (wpAny_seqItems o6 rfl ?_)
 refine wpAny_bind (aaB o6 fun h7 o7 b7=>?_)
 replace o7:QP h7 TO x y v:=o7
 refine wpAny_bind (wpAny_letGo (wpAny_pure (wpAny_pure ?_)))
 refine wpAny_bind (wpAny_seqItems o7 rfl ?_)
 refine wpAny_bind (wpAny_newTuple ?_)
 have sz:h7.objs.size=s.heap.objs.size:=by rw [b7.1,b6.1,b5.1,b4.1,b3.1,b2.1,b1.1]
 have B:But [z,TO,i1,i2,i3] s.heap h7:=
  ((((((But.of b1.extBut (by simp)).trans (But.of b2.extBut (by simp))).trans (But.of b3.extBut (by simp))).trans (But.of b4.extBut (by simp))).trans (But.of b5.extBut (by simp))).trans (But.of b6.extBut (by simp))).trans (But.of b7.extBut (by simp))
 have z7:IsZip h7 z TI TO .ellipsis:=b7.extBut _ _ n1 (b6.extBut _ _ n4 (b5.extBut _ _ n1 (b4.extBut _ _ n3 (b3.extBut _ _ n1 (b2.extBut _ _ n2 hz1)))))
 have i17:h7.IsTupleIter i1 t1 (k+1):=((((g1'.extBut b3.extBut (Ne.symm n5)).extBut b4.extBut n8).extBut b5.extBut (Ne.symm n5)).extBut b6.extBut n9).extBut b7.extBut (Ne.symm n5)
 have i27:h7.IsTupleIter i2 t2 (k+1):=((g2'.extBut b5.extBut (Ne.symm n6)).extBut b6.extBut n10).extBut b7.extBut (Ne.symm n6)
 have i37:h7.IsTupleIter i3 t3 (k+1):=g3'.extBut b7.extBut (Ne.symm n7)
 refine wpAny_bind (m:=Builtin.SmallTypes.ownedTupleHandOut (.ref z) (.ref h7.objs.size)) ?_
 unfold Builtin.SmallTypes.ownedTupleHandOut
 have z8:IsZip (h7.push { cls:= .type "tuple",data:= .seq #[x,y,v] }) z TI TO .ellipsis:=Heap.get?_push_of_some _ z7
 refine wpAny_bind (wpAny_setField_rec z8 (by simp) fun h9 z9 b9=>?_)
 replace z9:IsZip h9 z TI TO (rawInt h7.objs.size):=z9
 refine wpAny_setField_rec z9 (by simp) fun h10 z10 b10=>?_
 replace z10:IsZip h10 z TI TO (rawInt h7.objs.size):=z10
 have up:∀ c o,c ≠ z->h7.get? c=some o->h10.get? c=some o:=fun c o c1 e=>b10.extBut _ _ c1 (b9.extBut _ _ c1 (Heap.get?_push_of_some _ e))
 have zlt:z < h7.objs.size:=Heap.lt_size z7
 have T10:QP h10 h7.objs.size x y v:=b10.extBut _ _ (Nat.ne_of_gt zlt) (b9.extBut _ _ (Nat.ne_of_gt zlt) (Heap.get?_push_size _ rfl))
 rw [sz] at z10 T10
 refine wpAny_pure ⟨_,rfl,?_⟩
 show Q (.ref h7.objs.size) _
 rw [sz]
 have itk:∀ {i t:Addr} {m:Nat},i ≠ z->h7.IsTupleIter i t m->h10.IsTupleIter i t m:=fun ne ⟨o,e,r⟩=>⟨o,up _ o ne e,r⟩
 have tuk:∀ {t:Addr} {us:Array Value},t ∉ [z,TO,i1,i2,i3]->s.heap.IsTuple t us->h10.IsTuple t us:=fun ne ⟨o,e,r⟩=>⟨o,up _ o (fun q=>ne (by simp [q])) (B _ o ne e),r⟩
 refine hQ h10 ⟨z10,up _ _ tiz (B _ _ (by simp [tiz,tio,ti1,ti2,ti3]) hTI),⟨x,y,v,up _ _ (Ne.symm n1) o7⟩,itk (Ne.symm n2) i17,itk (Ne.symm n3) i27,itk (Ne.symm n4) i37,
  tuk (by simp [t1z,t1o,t11,t12,t13]) a1,tuk (by simp [t2z,t2o,t21,t22,t23]) a2,tuk (by simp [t3z,t3o,t31,t32,t33]) a3⟩ T10 fun c o hc e=>up c o (fun q=>hc (by simp [q])) (B c o hc e)
theorem ahp {z TI TO i1 i2 i3 t1 t2 t3:Addr}{xs ys zs:Array Value}{k:Nat}{Q:Fin->Shared->Prop} (hh:A.handled=none) (D:Apart3 z TI TO i1 i2 i3 t1 t2 t3) (S:Zip3 s.heap z TI TO i1 i2 i3 t1 t2 t3 xs ys zs .none k) (hx:xs[k]?=none)
  (hE:∀ h' e,But [z,TO,i1,i2,i3] s.heap h'->(∃ o,h'.get? e=some o/\o.cls= .type "StopIteration")->E (.ref e) { s with heap:=h' }):
  wpAny (model prog w) A (Builtin.«zip.__next__» ⟨[.ref z],[]⟩) Q E s:=by
 obtain ⟨hz,hTI,⟨a,b,c,hTO⟩,g1,g2,g3,a1,a2,a3⟩:=S
 obtain ⟨nd,ti,s1,s2,s3⟩:=D
 simp only [List.nodup_cons,List.mem_cons,List.not_mem_nil,or_false,not_or] at nd ti s1 s2 s3
 obtain ⟨⟨n1,n2,n3,n4⟩,⟨n5,n6,n7⟩,⟨n8,n9⟩,n10,_⟩:=nd
 refine wpAny_bind (m:=field (.ref z) 2) (wpAny_field hz rfl (x:= .bool false) rfl ?_)
 refine wpAny_bind (m:=field (.ref z) 3) (wpAny_field hz rfl (x:= .ref TI) rfl ?_)
 refine wpAny_bind (wpAny_seqItems hTI rfl ?_)
 refine wpAny_bind (m:=Builtin.SmallTypes.ownedTupleIsFree (.ref z)) ?_
 unfold Builtin.SmallTypes.ownedTupleIsFree
 refine wpAny_bind (wpAny_field hz rfl (x:= .none) rfl (wpAny_pure ?_))
 simp only [zzM]
 refine wpAny_bind (wpAny_rule ?_)
 refine wpAny_bind (wpAny_field hz rfl (x:= .ref TO) rfl ?_)
 refine wpAny_bind (wpAny_setField_rec hz (by simp) fun h1 hz1 b1=>?_)
 replace hz1:IsZip h1 z TI TO .ellipsis:=hz1
 refine wpAny_bind ?_
 simp only [List.zipIdx_cons,List.zipIdx_nil,List.forIn_cons,List.forIn_nil]
 refine wpAny_bind (wpAny_bind (wpAny_onRaise ?_))
 refine wpAny_bind (m:=Builtin.SmallTypes.nextOf (.ref i1)) ?_
 refine abE hh (g1.extBut b1.extBut (Ne.symm n2)) (a1.extBut b1.extBut s1.1) hx fun h2 e b2 he=>?_
 obtain ⟨oe,ho,hc⟩:=he
 have z2:IsZip h2 z TI TO .ellipsis:=b2 _ _ n2 hz1
 have ez:e ≠ z:=fun q=>by subst q; rw [z2] at ho; cases ho; simp at hc
 refine wpAny_setField_rec z2 (by simp) fun h3 _ b3=>?_
 exact hE h3 e (((But.of b1.extBut (by simp)).trans (But.of b2 (by simp))).trans (But.of b3.extBut (by simp))) ⟨oe,b3.extBut _ _ ez ho,hc⟩
end
structure ZipC (h:Heap) (z TI TO i1 i2 i3 t1 t2 t3:Addr) (f0:Value) (k:Nat):Prop where
 hz:IsZip h z TI TO f0
 hTI:QP h TI (.ref i1) (.ref i2) (.ref i3)
 hTO:∃ a b c,QP h TO a b c
 g1:h.IsTupleIter i1 t1 k
 g2:h.IsTupleIter i2 t2 k
 g3:h.IsTupleIter i3 t3 k
theorem ZipC.all {h:Heap}{z TI TO i1 i2 i3 t1 t2 t3:Addr}{f0:Value}{k:Nat} (S:ZipC h z TI TO i1 i2 i3 t1 t2 t3 f0 k) {xs ys zs:Array Value} (a1:h.IsTuple t1 xs) (a2:h.IsTuple t2 ys) (a3:h.IsTuple t3 zs):
  Zip3 h z TI TO i1 i2 i3 t1 t2 t3 xs ys zs f0 k:=⟨S.hz,S.hTI,S.hTO,S.g1,S.g2,S.g3,a1,a2,a3⟩
theorem Zip3.c {h:Heap}{z TI TO i1 i2 i3 t1 t2 t3:Addr}{xs ys zs:Array Value}{f0:Value}{k:Nat} (S:Zip3 h z TI TO i1 i2 i3 t1 t2 t3 xs ys zs f0 k):ZipC h z TI TO i1 i2 i3 t1 t2 t3 f0 k:=⟨S.hz,S.hTI,S.hTO,S.g1,S.g2,S.g3⟩
theorem ZipC.keep {h h':Heap}{z TI TO i1 i2 i3 t1 t2 t3:Addr}{f0:Value}{k:Nat} (S:ZipC h z TI TO i1 i2 i3 t1 t2 t3 f0 k) (kp:∀ b ∈ [z,TI,TO,i1,i2,i3],∀ o,h.get? b=some o->h'.get? b=some o):
  ZipC h' z TI TO i1 i2 i3 t1 t2 t3 f0 k:=by
 obtain ⟨hz,hTI,⟨a,b,c,hTO⟩,⟨o1,e1,r1⟩,⟨o2,e2,r2⟩,⟨o3,e3,r3⟩⟩:=S
 exact ⟨kp z (by simp) _ hz,kp TI (by simp) _ hTI,⟨a,b,c,kp TO (by simp) _ hTO⟩,⟨o1,kp i1 (by simp) _ e1,r1⟩,⟨o2,kp i2 (by simp) _ e2,r2⟩,⟨o3,kp i3 (by simp) _ e3,r3⟩⟩
noncomputable def Itz (K:PySem.W.Frag) (t1 t2 t3:Addr):It:=
 ⟨fun i H=>∃ xs ys zs x y v,SqT K H t1 xs/\SqT K H t2 ys/\SqT K H t3 zs/\xs[i]?=some x/\ys[i]?=some y/\zs[i]?=some v,
  fun i H u H'=>∃ p x y v,u= .ref p/\H p=none/\H'=upd H p (.tup [x,y,v])/\∀ xs ys zs,SqT K H t1 xs->SqT K H t2 ys->SqT K H t3 zs->xs[i]?=some x/\ys[i]?=some y/\zs[i]?=some v,
  fun i H=>∃ xs ys zs,SqT K H t1 xs/\SqT K H t2 ys/\SqT K H t3 zs/\xs.length<=i⟩
theorem ahq {P:Program}{w:World}{K:PySem.W.Frag}{elts:List Expr}{x1:Nat}{pos:Pos}{z TI TO i1 i2 i3 t1 t2 t3:Addr} (nd:[z,TO,i1,i2,i3].Nodup) (ti:TI ∉ [z,TO,i1,i2,i3]):
  Turn P w K (.Tuple elts x1 pos) (Itz K t1 t2 t3) [z,TI,TO,i1,i2,i3] z (fun i h=>ZipC h z TI TO i1 i2 i3 t1 t2 t3 .none i) where
 mem:=by simp
 obj:=fun i h st b hb=>by
  obtain ⟨hz,hTI,⟨a,b',c,hTO⟩,⟨o1,e1,_,d1⟩,⟨o2,e2,_,d2⟩,⟨o3,e3,_,d3⟩⟩:=st
  simp only [List.mem_cons,List.not_mem_nil,or_false] at hb
  rcases hb with rfl | rfl | rfl | rfl | rfl | rfl
  ·exact ⟨_,hz,fun v q=>by cases q⟩
  ·exact ⟨_,hTI,fun v q=>by cases q⟩
  ·exact ⟨_,hTO,fun v q=>by cases q⟩
  ·exact ⟨o1,e1,fun v q=>by rw [d1] at q; cases q⟩
  ·exact ⟨o2,e2,fun v q=>by rw [d2] at q; cases q⟩
  ·exact ⟨o3,e3,fun v q=>by rw [d3] at q; cases q⟩
 keep:=fun i h h' st k=>st.keep k
 item:=by
  intro X hP hw hK hc i pins s σ H E I hf st hg
  subst hP hw hK
  obtain ⟨xs,ys,zs,x,y,v,q1,q2,q3,ex,ey,ev⟩:=hg
  obtain ⟨us1,r1,p1,z1⟩:=I.tuple q1
  obtain ⟨us2,r2,p2,z2⟩:=I.tuple q2
  obtain ⟨us3,r3,p3,z3⟩:=I.tuple q3
  obtain ⟨u1,m1,l1⟩:=r1.get ex
  obtain ⟨u2,m2,l2⟩:=r2.get ey
  obtain ⟨u3,m3,l3⟩:=r3.get ev
  have trk:∀ {t:Addr} {ws:List V},SqT X.K H t ws->t ∉ [z,TO,i1,i2,i3]:=fun {t ws} hq hb=>by
   have hb':t ∈ [z,TI,TO,i1,i2,i3]:=by
    simp only [List.mem_cons,List.not_mem_nil,or_false] at hb ⊢
    rcases hb with e | e | e | e | e <;> simp [e]
   rcases hq with (e | ⟨o,e⟩) | ⟨o,its,n,hk,hcl,hs,_,_⟩
   ·have:=(hf t hb').1; rw [e] at this; cases this
   ·have:=(hf t hb').1; rw [e] at this; cases this
   ·-- an object of the module is no iterator of ours
    obtain ⟨f0,f1,f2,f3,f4,f5⟩:=hf t hb'
    have hbase:=I.mod.kin t o hk
    rcases f3 with q | q
    ·exact I.ok.noex t o hbase q
    ·exact absurd (Nat.lt_of_lt_of_le (Heap.lt_size hbase) (Nat.le_trans I.ok.bsz q)) (Nat.lt_irrefl _)
  have D:Apart3 z TI TO i1 i2 i3 t1 t2 t3:=⟨nd,ti,trk q1,trk q2,trk q3⟩
  have S:=st.all (xs:=us1.toArray) (ys:=us2.toArray) (zs:=us3.toArray) p1 p2 p3
  have hT:s.TypeIs (.ref z) "zip":=⟨_,st.hz,rfl⟩
  unfold pyNext
  refine wpAny_bind (wpAny_attempt (wpAny_callSpecial?_slot (name:=Str.ofString "__next__") hT F.slot_zip_next
   (wpAny_call_entry F.slot_zip_next hT F.entry_zip_next (aga D S (by simpa using m1) (by simpa using m2) (by simpa using m3) fun h1 S1 T1 B1=>wpAny_pure ?_)
    (F.args_zip_next_1 _))))
  refine ⟨_,rfl,?_⟩
  refine wpAny_letOwnedTupleGo_zip (s:={ s with heap:=h1 }) S1.hz fun h2 z2' b2=>?_
  have nT:H s.heap.objs.size=none:=I.hok.fresh (Nat.le_refl _)
  have zlt:z < s.heap.objs.size:=Heap.lt_size st.hz
  have T2:QP h2 s.heap.objs.size u1 u2 u3:=b2.extBut _ _ (Nat.ne_of_gt zlt) T1
  have B2:But [z,TO,i1,i2,i3] s.heap h2:=B1.trans (But.of b2.extBut (by simp))
  have inF:∀ b ∈ [z,TO,i1,i2,i3],b ∈ [z,TI,TO,i1,i2,i3]:=fun b hb=>by
   simp only [List.mem_cons,List.not_mem_nil,or_false] at hb ⊢
   rcases hb with e | e | e | e | e <;> simp [e]
  have ntr:∀ b u,H b=some u->b ∉ [z,TO,i1,i2,i3]:=fun b u e hb=>by
   have:=(hf b (inF b hb)).1
   rw [e] at this; cases this
  have neT:∀ b u,H b=some u->b ≠ s.heap.objs.size:=fun b u e q=>by rw [q,nT] at e; cases e
  have hok2:HOk X.prog X.w (upd H s.heap.objs.size (.tup [x,y,v])) h2:=fun b u e=>by
   by_cases hb:b=s.heap.objs.size
   ·subst hb
    rw [jp] at e
    cases e
    exact ⟨by show 3<=sizeLine; rw [sizeLine_eq]; decide,[u1,u2,u3],.cons l1 (.cons l2 (.cons l3 .nil)),⟨_,T2,rfl,_,rfl⟩⟩
   ·rw [jn hb] at e
    refine (I.hok b u e).stay (fun c o hc' q=>B2 c o ?_ q) (fun c q=>by rw [jn (neT c _ q)]; exact q) fun c ws q=>by rw [jn (neT c _ q)]; exact q
    rcases hc' with q' | q'
    ·rw [q']; exact ntr b u e
    ·exact ntr c _ q'
  have I2:Inv X pins σ (upd H s.heap.objs.size (.tup [x,y,v])) { s with heap:=h2,toks:=s.toks }:=by
   refine I.step (g':=s.gens) (d':=s.drawn) (ch:=[z,TO,i1,i2,i3]) (fun b hb=>?_) (fun b o _ _ hb e _=>B2 b o hb e) (fun b o _ _ hb e _=>⟨o.slots,B2 b o hb e⟩) (fun b o hb e n=>?_) (fun b o hb e=>⟨o,B2 b o hb e⟩)
    (fun b ws e=>by rw [jn (neT b _ e)]; exact e) (fun b ob ws e=>by rw [jn (neT b _ e)]; exact e) (fun b ps e=>⟨#[],by rw [jn (neT b _ e),e]; simp⟩) (fun m hm=>?_) hok2 I.bare
   ·obtain ⟨f0,f1,f2,f3,f4,f5⟩:=hf b (inF b hb)
    exact ⟨f3,f1,f4,f5⟩
   ·rw [jn (Nat.ne_of_lt (Heap.lt_size e))]; exact n
   ·obtain ⟨o,es,ep,ho,r⟩:=hm
    refine ⟨o,es,ep,B2 _ o (fun hb=>?_) ho,r⟩
    exact (hf _ (inF _ hb)).2.1 rfl
  refine ⟨.ref s.heap.objs.size,_,I2,rfl,⟨_,x,y,v,rfl,nT,rfl,fun as bs cs g1 g2 g3=>?_⟩,?_,fun b hb=>?_⟩
  ·rw [I.tuple_inj g1 q1,I.tuple_inj g2 q2,I.tuple_inj g3 q3]
   exact ⟨ex,ey,ev⟩
  ·have c1:=S1.c
   obtain ⟨_,hTI,⟨a,b,c,hTO⟩,⟨o1,e1,w1⟩,⟨o2,e2,w2⟩,⟨o3,e3,w3⟩⟩:=c1
   simp only [List.nodup_cons,List.mem_cons,List.not_mem_nil,or_false,not_or] at nd ti
   obtain ⟨⟨n1,n2,n3,n4⟩,_⟩:=nd
   exact ⟨z2',b2.extBut _ _ ti.1 hTI,⟨a,b,c,b2.extBut _ _ (Ne.symm n1) hTO⟩,⟨o1,b2.extBut _ _ (Ne.symm n2) e1,w1⟩,⟨o2,b2.extBut _ _ (Ne.symm n3) e2,w2⟩,⟨o3,b2.extBut _ _ (Ne.symm n4) e3,w3⟩⟩
  ·obtain ⟨o,ho,_⟩:∃ o,s.heap.get? b=some o/\True:=by
    obtain ⟨hz,hTI,⟨a,b',c,hTO⟩,⟨o1,e1,_⟩,⟨o2,e2,_⟩,⟨o3,e3,_⟩⟩:=st
    simp only [List.mem_cons,List.not_mem_nil,or_false] at hb
    rcases hb with rfl | rfl | rfl | rfl | rfl | rfl
    ·exact ⟨_,hz,trivial⟩
    ·exact ⟨_,hTI,trivial⟩
    ·exact ⟨_,hTO,trivial⟩
    ·exact ⟨_,e1,trivial⟩
    ·exact ⟨_,e2,trivial⟩
    ·exact ⟨_,e3,trivial⟩
   rw [jn (Nat.ne_of_lt (Heap.lt_size ho))]
   exact (hf b hb).1
 done:=by
  intro X hP hw hK hc i pins s σ H E I hf st hg
  subst hP hw hK
  obtain ⟨xs,ys,zs,q1,q2,q3,hl⟩:=hg
  obtain ⟨us1,r1,p1,z1⟩:=I.tuple q1
  obtain ⟨us2,r2,p2,z2⟩:=I.tuple q2
  obtain ⟨us3,r3,p3,z3⟩:=I.tuple q3
  have trk:∀ {t:Addr} {ws:List V},SqT X.K H t ws->t ∉ [z,TO,i1,i2,i3]:=fun {t ws} hq hb=>by
   have hb':t ∈ [z,TI,TO,i1,i2,i3]:=by
    simp only [List.mem_cons,List.not_mem_nil,or_false] at hb ⊢
    rcases hb with e | e | e | e | e <;> simp [e]
   rcases hq with (e | ⟨o,e⟩) | ⟨o,its,n,hk,hcl,hs,_,_⟩
   ·have:=(hf t hb').1; rw [e] at this; cases this
   ·have:=(hf t hb').1; rw [e] at this; cases this
   ·obtain ⟨f0,f1,f2,f3,f4,f5⟩:=hf t hb'
    have hbase:=I.mod.kin t o hk
    rcases f3 with q | q
    ·exact I.ok.noex t o hbase q
    ·exact absurd (Nat.lt_of_lt_of_le (Heap.lt_size hbase) (Nat.le_trans I.ok.bsz q)) (Nat.lt_irrefl _)
  have D:Apart3 z TI TO i1 i2 i3 t1 t2 t3:=⟨nd,ti,trk q1,trk q2,trk q3⟩
  have S:=st.all (xs:=us1.toArray) (ys:=us2.toArray) (zs:=us3.toArray) p1 p2 p3
  have hT:s.TypeIs (.ref z) "zip":=⟨_,st.hz,rfl⟩
  have hlen:=r1.length
  unfold pyNext
  refine wpAny_bind (wpAny_attempt (wpAny_callSpecial?_slot (name:=Str.ofString "__next__") hT F.slot_zip_next
   (wpAny_call_entry F.slot_zip_next hT F.entry_zip_next (ahp (I.ok.hd hc) D S (by simp; omega) fun h1 e B1 he=>?_)
    (F.args_zip_next_1 _))))
  obtain ⟨o,ho,hcl⟩:=he
  refine wpAny_bind (wpAny_isInstance (T:="StopIteration") (b:=true) ⟨o,ho,hcl⟩ isSubtype_stop ?_)
  refine wpAny_pure ⟨rfl,?_⟩
  have inF:∀ b ∈ [z,TO,i1,i2,i3],b ∈ [z,TI,TO,i1,i2,i3]:=fun b hb=>by
   simp only [List.mem_cons,List.not_mem_nil,or_false] at hb ⊢
   rcases hb with e | e | e | e | e <;> simp [e]
  have ntr:∀ b u,H b=some u->b ∉ [z,TO,i1,i2,i3]:=fun b u e hb=>by
   have:=(hf b (inF b hb)).1
   rw [e] at this; cases this
  refine I.step (t':=s.toks) (g':=s.gens) (d':=s.drawn) (ch:=[z,TO,i1,i2,i3]) (fun b hb=>?_) (fun b o _ _ hb e _=>B1 b o hb e) (fun b o _ _ hb e _=>⟨o.slots,B1 b o hb e⟩) (fun b o hb e n=>n) (fun b o hb e=>⟨o,B1 b o hb e⟩)
   (fun b ws e=>e) (fun b ob ws e=>e) (fun b ps e=>⟨#[],by rw [e]; simp⟩) (fun m hm=>?_) (fun b u e=>?_) I.bare
  ·obtain ⟨f0,f1,f2,f3,f4,f5⟩:=hf b (inF b hb)
   exact ⟨f3,f1,f4,f5⟩
  ·obtain ⟨o,es,ep,ho,r⟩:=hm
   refine ⟨o,es,ep,B1 _ o (fun hb=>?_) ho,r⟩
   exact (hf _ (inF _ hb)).2.1 rfl
  ·refine (I.hok b u e).stay (fun c o hc' q=>B1 c o ?_ q) (fun c q=>q) fun c ws q=>q
   rcases hc' with q' | q'
   ·rw [q']; exact ntr b u e
   ·exact ntr c _ q'
 self:=fun _ _ _ _ _ st h=>wpAny_pyIter_zip st.hz h
theorem abb (a b c:Value):checkTypeCall "zip" ⟨[a,b,c],[]⟩=pure ():=by kernel_rfl
theorem ack (a b c:Value):checkBuiltinCall "zip.__new__" ⟨[.type "zip",a,b,c],[]⟩=pure ():=by kernel_rfl
theorem aeg (a b c d:Value):argsOk "object.__init__" ⟨[a,b,c,d],[]⟩:=by
 unfold argsOk
 rw [signature?_of (id:="object.__init__") (n:=['_','_','t','i','n','i','_','_'])
  (o:=['t','c','e','j','b','o']) (by kernel_rfl) F.owner_object]
 kernel_rfl
noncomputable abbrev alk (t:Addr):Obj:={ cls:= .type "tuple_iterator",data:= .fields #[.ref t,.int 0 0] }
noncomputable abbrev zh1 (h:Heap) (a:Addr):Heap:=h.push (alk a)
noncomputable abbrev zh2 (h:Heap) (a b:Addr):Heap:=(zh1 h a).push (alk b)
noncomputable abbrev zh3 (h:Heap) (a b c:Addr):Heap:=(zh2 h a b).push (alk c)
noncomputable abbrev zh4 (h:Heap) (a b c:Addr):Heap:=(zh3 h a b c).push { cls:= .type "tuple",data:= .seq #[.ref h.objs.size,.ref (zh1 h a).objs.size,.ref (zh2 h a b).objs.size] }
noncomputable abbrev zh5 (h:Heap) (a b c:Addr):Heap:=(zh4 h a b c).push { cls:= .type "tuple",data:= .seq #[.none,.none,.none] }
noncomputable abbrev zh6 (h:Heap) (a b c:Addr):Heap:=(zh5 h a b c).push { cls:= .type "zip",data:= .fields #[.none,.bool false,.bool false,.ref (zh3 h a b c).objs.size,.ref (zh4 h a b c).objs.size] }
theorem ahr (a b c:Addr) (xs ys zs:Array Value):
  Meets (Builtin.«zip.__new__» ⟨[.type "zip",.ref a,.ref b,.ref c],[]⟩) (fun _ R s=>s.heap.IsTuple a xs/\s.heap.IsTuple b ys/\s.heap.IsTuple c zs/\
   R (.ok (.ret (.ref (zh5 s.heap a b c).objs.size))) { s with heap:=zh6 s.heap a b c }):=
 .of_wp fun prog w A R s h=>by
  obtain ⟨hp,g,d,tk,os⟩:=s
  obtain ⟨h1,h2,h3,h⟩:=h
  have hsub:=sub_zip
  have k1:Heap.IsTuple (Shared.heap ⟨hp,g,d,tk,os⟩) a xs:=h1
  have k2:Heap.IsTuple (Shared.heap ⟨zh1 hp a,g,d,tk,os⟩) b ys:=Heap.IsTuple.push h2 _
  have k3:Heap.IsTuple (Shared.heap ⟨zh2 hp a b,g,d,tk,os⟩) c zs:=Heap.IsTuple.push (Heap.IsTuple.push h3 _) _
  wp_walk using wpAny_pyIter_tuple k1,wpAny_pyIter_tuple k2,wpAny_pyIter_tuple k3
  exact ⟨_,rfl,h⟩
section
variable {X:Cx}
noncomputable def amC (K:PySem.W.Frag) (ta:TA):TI:=fun σ H R=>ta σ H fun vs H1=>∃ a b c xs ys zs,vs=[.ref a,.ref b,.ref c]/\SqT K H1 a xs/\SqT K H1 b ys/\SqT K H1 c zs/\R (Itz K a b c) H1
theorem ajw {ea eb ec:Expr}{elts:List Expr}{x1:Nat}{tp:Pos}{ta:TA}{p pos:Pos} (hg:Gl X "zip") (hm:X.mg "zip"=none) (ha:PA X [ea,eb,ec] ta)
  (hs:starEach [ea,eb,ec] X.env=[(false,eval ea X.env),(false,eval eb X.env),(false,eval ec X.env)]:=by rfl) (hs2:starEach [eb,ec] X.env=[(false,eval eb X.env),(false,eval ec X.env)]:=by rfl):
  PI X (.Tuple elts x1 tp) (.Call (.Name "zip" p) [ea,eb,ec] [] pos) (amC X.K ta):=by
 intro pins s σ H R I h
 refine Call_ (JP I hg hm boot_zip (PyProof.Rows.callWith_type1 (thn (ha pos pins s σ H _ I h) fun us s1 ⟨vs,H1,I1,r1,q1⟩=>?_) (by rw [hs,hs2]) (by rw [hs2]; rfl)))
 obtain ⟨a,b,c,xs,ys,zs,e,q1,q2,q3,q⟩:=q1
 subst e
 cases r1 with
 | cons r1 rr=>
  cases rr with
  | cons r2 rr=>
   cases rr with
   | cons r3 rr=>
    cases rr
    cases r1; cases r2; cases r3
    obtain ⟨us1,v1,p1,z1⟩:=I1.tuple q1
    obtain ⟨us2,v2,p2,z2⟩:=I1.tuple q2
    obtain ⟨us3,v3,p3,z3⟩:=I1.tuple q3
    refine callType_new F.called_zip (by decide) (abb _ _ _) (ack _ _ _) (fun obj=>aeg obj _ _ _) F.entry_zip_new
     (ahr a b c us1.toArray us2.toArray us3.toArray) ⟨p1,p2,p3,?_⟩
    have n1:(zh1 s1.heap a).objs.size=s1.heap.objs.size+1:=Heap.size_push ..
    have n2:(zh2 s1.heap a b).objs.size=s1.heap.objs.size+2:=by rw [Heap.size_push,n1]
    have n3:(zh3 s1.heap a b c).objs.size=s1.heap.objs.size+3:=by rw [Heap.size_push,n2]
    have n4:(zh4 s1.heap a b c).objs.size=s1.heap.objs.size+4:=by rw [Heap.size_push,n3]
    have n5:(zh5 s1.heap a b c).objs.size=s1.heap.objs.size+5:=by rw [Heap.size_push,n4]
    have g6:(zh6 s1.heap a b c).get? (zh5 s1.heap a b c).objs.size=some _:=Heap.get?_push_size _ rfl
    have g5:(zh6 s1.heap a b c).get? (zh4 s1.heap a b c).objs.size=some _:=Heap.get?_push_of_some _ (Heap.get?_push_size _ rfl)
    have g4:(zh6 s1.heap a b c).get? (zh3 s1.heap a b c).objs.size=some _:=Heap.get?_push_of_some _ (Heap.get?_push_of_some _ (Heap.get?_push_size _ rfl))
    have up3:∀ x o,(zh3 s1.heap a b c).get? x=some o->(zh6 s1.heap a b c).get? x=some o:=fun x o e=>Heap.get?_push_of_some _ (Heap.get?_push_of_some _ (Heap.get?_push_of_some _ e))
    have g3:(zh6 s1.heap a b c).get? (zh2 s1.heap a b).objs.size=some _:=up3 _ _ (Heap.get?_push_size _ rfl)
    have g2:(zh6 s1.heap a b c).get? (zh1 s1.heap a).objs.size=some _:=up3 _ _ (Heap.get?_push_of_some _ (Heap.get?_push_size _ rfl))
    have g1:(zh6 s1.heap a b c).get? s1.heap.objs.size=some _:=up3 _ _ (Heap.get?_push_of_some _ (Heap.get?_push_of_some _ (Heap.get?_push_size _ rfl)))
    have kp:∀ x o,s1.heap.get? x=some o->(zh6 s1.heap a b c).get? x=some o:=fun x o e=>up3 _ _ (Heap.get?_push_of_some _ (Heap.get?_push_of_some _ (Heap.get?_push_of_some _ e)))
    show _/\_
    refine ⟨⟨_,g6,rfl⟩,?_⟩
    refine wpAny_pyIter_zip g6 ?_
    have I2:Inv X pins σ H1 { s1 with heap:=zh6 s1.heap a b c }:=I1.kept (t':=s1.toks) kp
    refine ⟨_,[(zh5 s1.heap a b c).objs.size,(zh3 s1.heap a b c).objs.size,(zh4 s1.heap a b c).objs.size,s1.heap.objs.size,(zh1 s1.heap a).objs.size,(zh2 s1.heap a b).objs.size],
     _,_,H1,rfl,I2,ahq (z:=(zh5 s1.heap a b c).objs.size) (TI:=(zh3 s1.heap a b c).objs.size) (TO:=(zh4 s1.heap a b c).objs.size) (i1:=s1.heap.objs.size) (i2:=(zh1 s1.heap a).objs.size) (i3:=(zh2 s1.heap a b).objs.size) (t1:=a) (t2:=b) (t3:=c) ?_ ?_,
     ⟨g6,g4,⟨_,_,_,g5⟩,⟨_,g1,rfl,rfl⟩,⟨_,g2,rfl,rfl⟩,⟨_,g3,rfl,rfl⟩⟩,fun x hx=>?_,q⟩
    ·rw [n5,n4,n1,n2]
     simp [List.nodup_cons]
    ·rw [n3,n5,n4,n1,n2]
     simp
    ·have hle:s1.heap.objs.size<=x:=by
      rw [n5,n3,n4,n1,n2] at hx
      simp only [List.mem_cons,List.not_mem_nil,or_false] at hx
      rcases hx with e | e | e | e | e | e <;> rw [e] <;> first | exact Nat.le_refl _ | exact Nat.le_add_right _ _
     exact I1.fpOk hle (I1.hok.fresh hle)
noncomputable def JX:List PyData->List PyData->List PyData->List PyData
 | x::xs,y::ys,z::zs=> .tuple [x,y,z]::JX xs ys zs
 | _,_,_=>[]
noncomputable def ae9 (ds:List PyData):Option (List PyData):=match ds with
 | [.tuple xs,.tuple ys,.tuple zs]=>if xs.length=ys.length/\ys.length=zs.length then some (JX xs ys zs) else none
 | _=>none
theorem abF:∀ (xs ys zs:List PyData),xs.length=ys.length->ys.length=zs.length->(JX xs ys zs).length=xs.length
 | [],_,_,_,_=>by simp [JX]
 | x::xs,[],_,h,_=>by simp at h
 | x::xs,y::ys,[],_,h=>by simp at h
 | x::xs,y::ys,z::zs,h,g=>by simp [JX,abF xs ys zs (by simpa using h) (by simpa using g)]
theorem abG:∀ (xs ys zs:List PyData) (i:Nat) (d:PyData),(JX xs ys zs)[i]?=some d->∃ x y z,xs[i]?=some x/\ys[i]?=some y/\zs[i]?=some z/\d= .tuple [x,y,z]
 | [],_,_,i,d,h=>by simp [JX] at h
 | x::xs,[],_,i,d,h=>by simp [JX] at h
 | x::xs,y::ys,[],i,d,h=>by simp [JX] at h
 | x::xs,y::ys,z::zs,0,d,h=>by simp [JX] at h; exact ⟨x,y,z,rfl,rfl,rfl,h.symm⟩
 | x::xs,y::ys,z::zs,i+1,d,h=>by
  obtain ⟨a,b,c,e1,e2,e3,e4⟩:=abG xs ys zs i d (by simpa [JX] using h)
  exact ⟨a,b,c,by simpa using e1,by simpa using e2,by simpa using e3,e4⟩
theorem ahs {ea eb ec:Expr}{elts:List Expr}{x1:Nat}{tp:Pos}{p pos:Pos}{fr:Rho->Option (List PyData)} (hm:X.mg "zip"=none) (ha:PAD X [ea,eb,ec] fr) (hg:Gl X "zip":=by rfl)
  (hs:starEach [ea,eb,ec] X.env=[(false,eval ea X.env),(false,eval eb X.env),(false,eval ec X.env)]:=by rfl) (hs2:starEach [eb,ec] X.env=[(false,eval eb X.env),(false,eval ec X.env)]:=by rfl):
  PID X (.Tuple elts x1 tp) (.Call (.Name "zip" p) [ea,eb,ec] [] pos) (fun ρ=>(fr ρ).bind ae9):=by
 with_unfolding_all
  refine PI.imp (ajw hg hm ha hs hs2) fun σ H R ⟨ρ,ds,en,q,k⟩=>?_
  cases h1:fr ρ with
  | none=>simp [h1] at q
  | some as=>
   have q':ae9 as=some ds:=by simpa [h1] using q
   refine ⟨ρ,as,en,h1,fun vs H1 s1 r1=>?_⟩
   unfold ae9 at q'
   split at q'
   ·rename_i xs ys zs
    split at q'
    ·rename_i hl
     cases q'
     obtain ⟨v1,w1,e1,⟨a,us1,ea',qa,ra⟩,v2,w2,e2,⟨b,us2,eb',qb,rb⟩,v3,w3,e3,⟨c,us3,ec',qc,rc⟩,e4⟩:=r1
     cases (show w3=[] from e4)
     subst ea'; subst eb'; subst ec'; subst e3; subst e2
     have l1:=ra.length
     have l2:=rb.length
     have l3:=rc.length
     have lz:=abF xs ys zs hl.1 hl.2
     refine ⟨a,b,c,us1,us2,us3,e1,qa,qb,qc,k _ H1 s1 fun i H2 s2=>⟨fun hi=>?_,fun hi=>?_,fun u H3 y=>?_⟩⟩
     ·rw [lz] at hi
      exact ⟨us1,us2,us3,us1[i]'(by omega),us2[i]'(by omega),us3[i]'(by omega),jC.tup s2 qa,jC.tup s2 qb,jC.tup s2 qc,by simp <;> omega,by simp <;> omega,by simp <;> omega⟩
     ·rw [lz] at hi
      exact ⟨us1,us2,us3,jC.tup s2 qa,jC.tup s2 qb,jC.tup s2 qc,by omega⟩
     ·obtain ⟨pp,x,y,v,e5,e6,e7,e8⟩:=y
      subst e5; subst e7
      refine ⟨jx e6,fun d hd=>?_⟩
      obtain ⟨dx,dy,dz,g1,g2,g3,g4⟩:=abG xs ys zs i d hd
      subst g4
      obtain ⟨f1,f2,f3⟩:=e8 us1 us2 us3 (jC.tup s2 qa) (jC.tup s2 qb) (jC.tup s2 qc)
      have m:=s2.trans (jr.e (jx (o:= .tup [x,y,v]) e6))
      obtain ⟨x',a1,a2⟩:=(Reps.monoE m _ _ ra).get g1
      obtain ⟨y',b1,b2⟩:=(Reps.monoE m _ _ rb).get g2
      obtain ⟨z',c1,c2⟩:=(Reps.monoE m _ _ rc).get g3
      rw [f1] at a1; cases a1
      rw [f2] at b1; cases b1
      rw [f3] at c1; cases c1
      exact ⟨pp,[x,y,v],rfl,SqT.of jp,x,_,rfl,a2,y,_,rfl,b2,v,_,rfl,c2,rfl⟩
    ·cases q'
   ·cases q'
noncomputable def tyn:PyData->String
 | .none=>"NoneType"
 | .bool _=>"bool"
 | .int _=>"int"
 | .str _=>"str"
 | .tuple _=>"tuple"
 | .list _=>"list"
 | .dict kvs=>if zh kvs then "list" else "dict"
noncomputable def isFn:PyData->Bool
 | .dict [(.str _,_)]=>true
 | _=>false
noncomputable def QE (T:String) (d:PyData):Option PyData:=if isFn d=true then none else some (.bool (tyn d == T || (T == "int" && tyn d == "bool")))
theorem aht {pins:List (Addr × Obj)}{σ:St}{H:Hp}{s:Shared}{E:Value->Shared->Prop}{Q:Value->Shared->Prop}{d:PyData}{v:V}{u c:Value}{b:Bool} (I:Inv X pins σ H s) (r:Rep X.K H d v) (hF:isFn d=false) (rv:jJ v u)
  (e:PySem.W.kitOne X.K (.type (tyn d)) c=some b) (h:∀ tk,Q (.bool b) { s with toks:=tk }):wpAny (model X.prog X.w) X.A (call (.builtin "isinstance") [u,c]) Q E s:=by
 cases d with
 | none=>cases r; cases rv; exact PySem.W.kia_one PySem.W.kitx_none I.kIn True.intro e (fun z=>nomatch z) h
 | bool y=>cases r; cases rv; exact PySem.W.kia_one PySem.W.kitx_bool I.kIn True.intro e (fun z=>nomatch z) h
 | int i=>cases r; obtain ⟨t,rfl⟩:=rv; exact PySem.W.kia_one PySem.W.kitx_int I.kIn True.intro e (fun z=>nomatch z) h
 | str y=>cases r; obtain ⟨t,rfl⟩:=rv; exact PySem.W.kia_one PySem.W.kitx_str I.kIn True.intro e (fun z=>nomatch z) h
 | tuple ds=>
  obtain ⟨a,xs,e1,e2,e3⟩:=r
  subst e1; cases rv
  obtain ⟨its,_,⟨o,h1,h2,_⟩,_⟩:=I.tuple e2
  exact PySem.W.kia_one PySem.W.kitx_tuple I.kIn ⟨o,h1,h2⟩ e (fun z=>nomatch z) h
 | list ds=>
  obtain ⟨a,xs,e1,e2,e3⟩:=r
  subst e1; cases rv
  obtain ⟨its,_,⟨o,n,h1,h2,_⟩,_⟩:=I.list (SqL.of e2)
  exact PySem.W.kia_one PySem.W.kitx_list I.kIn ⟨o,h1,h2⟩ e (fun z=>nomatch z) h
 | dict ds=>
  obtain ⟨a,e1,⟨ns,e2,e3⟩ | ⟨ks,ob,e2,e3⟩ | ⟨x,e2,_⟩ | ⟨x,_,_,e2,_⟩⟩:=r
  ·subst e1; cases rv
   subst e3
   have e:PySem.W.kitOne X.K (.type "list") c=some b:=by simpa [tyn,abA] using e
   obtain ⟨its,_,⟨o,n,h1,h2,_⟩,_⟩:=I.list e2
   exact PySem.W.kia_one PySem.W.kitx_list I.kIn ⟨o,h1,h2⟩ e (fun z=>nomatch z) h
  ·subst e1; cases rv
   obtain ⟨cc,rr,rfl,e4⟩:=e3.out
   have e:PySem.W.kitOne X.K (.type "dict") c=some b:=by simpa [tyn,zh] using e
   obtain ⟨_,_,vs,_,dd⟩:=aas I.hok (.inr ⟨ob,e2⟩)
   obtain ⟨o,es,ep,h1,h2,_⟩:=dd
   exact PySem.W.kia_one PySem.W.kitx_dict I.kIn ⟨o,h1,h2.1⟩ e (fun z=>nomatch z) h
  ·subst e2; simp [isFn] at hF
  ·subst e2; simp [isFn] at hF
noncomputable def anu (K:PySem.W.Frag) (T:String):List V->Hp->VK->Prop:=fun xs H Q=>∃ x d b,xs=[x,.ty T]/\Rep K H d x/\isFn d=false/\PySem.W.kitOne K (.type (tyn d)) (.type T)=some b/\Q (.bl b) H
theorem add {T:String}:zC X (.builtin "isinstance") (anu X.K T):=by
 intro pins s σ H xs us Q I r ⟨x,d,b,e,h1,hF,h2,q⟩
 subst e
 obtain ⟨u,w',rfl,r1,r2⟩:=ag2 r
 cases (show w'=_ from r2)
 exact aht I h1 hF r1 h2 fun tk=>⟨.bl b,H,I.tok tk,rfl,q⟩
noncomputable def zH (T:String) (d:PyData):Bool:=tyn d == T || (T == "int" && tyn d == "bool")
@[simp] theorem alY (T:String):QE T .none=some (.bool (zH T .none)):=rfl
@[simp] theorem alZ (T:String) (b:Bool):QE T (.bool b)=some (.bool (zH T (.bool b))):=rfl
@[simp] theorem amD (T:String) (i:Int):QE T (.int i)=some (.bool (zH T (.int i))):=rfl
@[simp] theorem amE (T:String) (x:Str):QE T (.str x)=some (.bool (zH T (.str x))):=rfl
@[simp] theorem alm (T:String) (ds:List PyData):QE T (.tuple ds)=some (.bool (zH T (.tuple ds))):=rfl
@[simp] theorem al0 (T:String) (ds:List PyData):QE T (.list ds)=some (.bool (zH T (.list ds))):=rfl
theorem ade {T:String}{d e:PyData} (h:QE T d=some e):isFn d=false/\e= .bool (zH T d):=by
 unfold QE at h
 split at h
 ·cases h
 ·rename_i hf; cases h; exact ⟨by simpa using hf,rfl⟩
theorem ajx {K:PySem.W.Frag}{T:String} (hT:T="bool" ∨ T="int" ∨ T="tuple") (d:PyData):PySem.W.kitOne K (.type (tyn d)) (.type T)=some (zH T d):=by
 rcases hT with rfl | rfl | rfl <;> cases d <;> first | rfl | (rename_i kvs; by_cases h:zh kvs=true <;> simp only [tyn,zH,h] <;> rfl)
theorem Zu {a:Expr}{fa:Rho->Option PyData}{T:Str}{Tn:String}{p p2 pos:Pos} (hT:Tn="bool" ∨ Tn="int" ∨ Tn="tuple") (hm1:X.mg "isinstance"=none) (hm2:X.mg T=none) (hv:bootBuiltins T=some (.type Tn)) (ha:PD X a fa)
  (hg1:Gl X "isinstance":=by rfl) (hg2:Gl X T:=by rfl) (hn:T ≠ "__name__":=by decide) (hd:(T == ("__debug__":Str))=false:=by decide)
  (he:starEach [a,.Name T p2] X.env=[(false,eval a X.env),(false,eval (.Name T p2) X.env)]:=by rfl) (he2:starEach [.Name T p2] X.env=[(false,eval (.Name T p2) X.env)]:=by rfl) (hpl:(backTo pos (starEach [.Name T p2] X.env)).any (·.1)=false:=by rfl):
  PD X (.Call (.Name "isinstance" p) [a,.Name T p2] [] pos) (fun ρ=>(fa ρ).bind fun d=>QE Tn d):=by
 with_unfolding_all
  have hT2:PE X (.Name T p2) (tC (.ty Tn)):=aeV hg2 hm2 hv rfl hn hd
  refine PE.imp (aao (add (T:=Tn)) hg1 hm1 (by decide +kernel) (ze ha (ze hT2 JR (by rw [he2]; rfl)) (by rw [he,he2])) (by decide) (by decide) (by rw [he,he2]) hpl) fun σ H Q ⟨ρ,d,en,q,k⟩=>?_
  cases h1:fa ρ with
  | none=>simp [h1] at q
  | some c=>
   obtain ⟨hF,rfl⟩:=ade (show QE Tn c=some d by simpa [h1] using q)
   exact ⟨ρ,c,en,h1,fun v H1 s1 r1=>⟨v,c,_,rfl,r1,hF,ajx hT c,k _ H1 s1 rfl⟩⟩
end
noncomputable def qW (H H':Hp):Prop:=∀ b o,H b=some o->(∀ xs,o ≠ .lst xs)->H' b=some o
theorem jr.n {H H':Hp} (e:jr H H'):qW H H':=fun b o h _=>e b o h
theorem qW.refl (H:Hp):qW H H:=fun _ _ h _=>h
theorem qW.trans {H H1 H2:Hp} (a:qW H H1) (b:qW H1 H2):qW H H2:=fun c o h n=>b c o (a c o h n) n
theorem qW.upd {H:Hp}{p:Addr}{xs ys:List V} (hp:H p=some (.lst xs)):qW H (upd H p (.lst ys)):=fun b o h n=>by
 have:b ≠ p:=fun e=>by subst e; rw [hp] at h; cases h; exact n _ rfl
 rw [jn this]; exact h
mutual
noncomputable def noL:PyData->Bool
 | .none=>true
 | .bool _=>true
 | .int _=>true
 | .str _=>true
 | .tuple ds=>noLs ds
 | .list _=>false
 | .dict _=>false
noncomputable def noLs:List PyData->Bool
 | []=>true
 | d::ds=>noL d && noLs ds
end
section
variable {K:PySem.W.Frag}{H H':Hp}
theorem qW.tup {a:Addr}{xs:List V} (e:qW H H') (h:SqT K H a xs):SqT K H' a xs:=by
 rcases h with (h | ⟨o,h⟩) | h
 ·exact .inl (.inl (e _ _ h fun _ z=>nomatch z))
 ·exact .inl (.inr ⟨o,e _ _ h fun _ z=>nomatch z⟩)
 ·exact .inr h
mutual
theorem Rep.monoN (e:qW H H'):∀ (d:PyData) (v:V),noL d=true->Rep K H d v->Rep K H' d v
 | .none,v,_,h=>h
 | .bool _,v,_,h=>h
 | .int _,v,_,h=>h
 | .str _,v,_,h=>h
 | .tuple ds,v,n,⟨a,xs,h1,h2,h3⟩=>⟨a,xs,h1,qW.tup e h2,Reps.monoN e ds xs (by simpa [noL] using n) h3⟩
 | .list ds,v,n,h=>by simp [noL] at n
 | .dict ds,v,n,h=>by simp [noL] at n
theorem Reps.monoN (e:qW H H'):∀ (ds:List PyData) (xs:List V),noLs ds=true->Reps K H ds xs->Reps K H' ds xs
 | [],xs,_,h=>h
 | d::ds,xs,n,⟨x,r,h1,h2,h3⟩=>by
  have n':noL d=true/\noLs ds=true:=by simpa [noLs] using n
  exact ⟨x,r,h1,Rep.monoN e d x n'.1 h2,Reps.monoN e ds r n'.2 h3⟩
end
theorem JY:∀ (ds es:List PyData),noLs (ds++es)=(noLs ds && noLs es)
 | [],es=>by simp [noLs]
 | d::ds,es=>by simp [noLs,JY ds es,Bool.and_assoc]
theorem JZ:∀ {ds:List PyData},(∀ d ∈ ds,noL d=true)->noLs ds=true
 | [],_=>rfl
 | d::ds,h=>by simp [noLs,h d List.mem_cons_self,JZ fun x hx=>h x (List.mem_cons_of_mem _ hx)]
end
end BX
end
section
namespace BX
open PySem PySem.Spec L2
open PyProof.Rows hiding St
noncomputable def jl (P:Program) (w:World) (K:PySem.W.Frag) (mg:Str->Option Value) (base:Heap) (x:Str) (ps:List Str) (k n:Nat) (g:List PyData->Option PyData):Prop:=
 ∃ (f:Addr) (fd:FuncData),FnOk P w K mg base CX0 k f fd ps (Pur K n g)/\mg x=some (.ref f)/\PySem.W.keepIn K (.ref f)=true/\QN K fd ps []
theorem jk:∀ (ρ:Rho) (ds:List PyData),jN ρ=some ds->ds.length=0:=fun ρ ds h=>by cases h; rfl
theorem jc {fa:Rho->Option PyData}{fr:Rho->Option (List PyData)}{n:Nat} (h:∀ (ρ:Rho) (ds:List PyData),fr ρ=some ds->ds.length=n):∀ (ρ:Rho) (ds:List PyData),js fa fr ρ=some ds->ds.length=n+1:=fun ρ ds q=>by
 cases h1:fa ρ with
 | none=>simp [js,h1] at q
 | some x=>
  cases h2:fr ρ with
  | none=>simp [js,h1,h2] at q
  | some r=>
   have:x::r=ds:=by simpa [js,h1,h2] using q
   subst this
   simp [h ρ r h2]
section
variable {X:Cx}{e:Expr}{es:List Expr}{pos:Pos}
theorem jg {k j n:Nat}{ps:List Str}{g:List PyData->Option PyData}{x:Str}{p:Pos}{fr:Rho->Option (List PyData)} (c:jl X.prog X.w X.K X.mg X.base x ps k n g) (hr:Room j X.A) (hkj:k<=j) (ha:PAD X (e::es) fr)
  (hl:∀ (ρ:Rho) (ds:List PyData),fr ρ=some ds->ds.length=n) (hn:(e::es).length=n:=by rfl) (hg:Gl X x:=by rfl) (hdb:(x == ("__debug__":Str))=false:=by decide) (he:starEach (e::es) X.env=(false,eval e X.env)::starEach es X.env:=by rfl)
  (hpl:(backTo pos (starEach es X.env)).any (·.1)=false:=by rfl):PD X (.Call (.Name x p) (e::es) [] pos) (jT g fr):=by
 with_unfolding_all
  obtain ⟨f,fd,h1,h2,h3,h4⟩:=c
  exact ajr h1 (hr.mono hkj) h2 h3 h4 hn ha (fun ρ ds q=>by rw [hl ρ ds q,hn]) hg hdb he hpl
end
theorem QQ {ft:Rho->Option Bool}{fe:Rho->Option PyData}{i:Nat} (p:PyData->Bool) (h:PyData->PyData):∀ (ds:List PyData) (τ:Rho),(∀ d ∈ ds,ft (τ.set i (some d))=some (p d))->(∀ d ∈ ds,p d=true->fe (τ.set i (some d))=some (h d))->
  jW (jG i) ft fe ds τ=some ((ds.filter p).map h)
 | [],τ,_,_=>rfl
 | d::ds,τ,h1,h2=>by
  have ih:=QQ p h ds (τ.set i (some d)) (fun c hc=>by rw [List.set_set]; exact h1 c (List.mem_cons_of_mem _ hc)) (fun c hc hp=>by rw [List.set_set]; exact h2 c (List.mem_cons_of_mem _ hc) hp)
  simp only [jW,jG,zzD,h1 d List.mem_cons_self]
  by_cases hp:p d=true
  ·simp [hp,h2 d List.mem_cons_self hp,ih,List.filter_cons]
  ·simp [hp,ih,List.filter_cons]
theorem Qk {fe:Rho->Option PyData}{i:Nat} (h:PyData->PyData) (ds:List PyData) (τ:Rho) (h2:∀ d ∈ ds,fe (τ.set i (some d))=some (h d)):jW (jG i) Z0 fe ds τ=some (ds.map h):=by
 rw [QQ (fun _=>true) h ds τ (fun _ _=>rfl) (fun d hd _=>h2 d hd),List.filter_eq_self.mpr (fun _ _=>rfl)]
noncomputable def afa (st:Scope) (N:List Str) (sc:Scope) (N':List Str) (cap:List (Option Nat)):Bool:=
 sc.names.all (fun x=>!decide (x.2= .free) || decide (st.names.lookup x.1=some .cell) || decide (st.names.lookup x.1=some .free)) && sc.names.all (fun x=>!decide (x.2= .cell)) && decide (sc.kind= .function) &&
 sc.names.all (fun x=>!decide (x.2= .local) || decide (sc.names.lookup x.1=some .local)) && decide (cap.length=N'.length) &&
 (List.range N'.length).all (fun j=>match N'[j]?,cap[j]? with
  | some x,some (some i)=>decide (N[i]?=some x) && decide (sc.names.lookup x=some .free)
  | _,_=>true)
theorem zp {X:Cx}{sc:Scope}{N':List Str}{cap:List (Option Nat)} (st:Scope) (N:List Str) (h:afa st N sc N' cap=true) (hst:X.env.scope=st:=by rfl) (hN:X.N=N:=by rfl):CompOk X sc N' cap:=by
 simp only [afa,Bool.and_eq_true,List.all_eq_true,Bool.or_eq_true,Bool.not_eq_true',decide_eq_true_eq,decide_eq_false_iff_not] at h
 obtain ⟨⟨⟨⟨⟨h1,h2⟩,h3⟩,h4⟩,h5⟩,h6⟩:=h
 subst hst; subst hN
 refine ⟨fun x hx e=>?_,h2,h3,fun x hx e=>?_,h5,fun j i x e1 e2=>?_⟩
 ·rcases h1 x hx with (z | z) | z
  ·exact absurd e z
  ·exact .inl z
  ·exact .inr z
 ·rcases h4 x hx with z | z
  ·exact absurd e z
  ·exact z
 ·have hj:j < N'.length:=(List.getElem?_eq_some_iff.mp e1).1
  have:=h6 j (List.mem_range.mpr hj)
  rw [e1,e2] at this
  simpa using this
section
variable {X:Cx}{pins:List (Addr × Obj)}{σ:St}{H:Hp}{s:Shared}
end
structure Own1 (X:Cx) (pins:List (Addr × Obj)) (b:Addr):Prop where
 h1:b ≠ X.env.locals
 h2:b ∉ X.fs
 h3:X.s₀.heap.objs.size<=b
 h4:∀ x c,X.env.cells.lookup x=some c->c ≠ b
 h5:∀ p ∈ X.pn++pins,p.1 ≠ b
theorem ahu:bootBuiltins "min"=some (.builtin "min"):=by decide +kernel
theorem ahv:bootBuiltins "max"=some (.builtin "max"):=by decide +kernel
section
variable {X:Cx}{a:Expr}{fa:Rho->Option PyData}{pos p p2 p3 kp kp2:Pos}{j3:Nat}
end
noncomputable def afb:Int->List Int->Int
 | b,[]=>b
 | b,d::r=>if d > b then afb d r else afb b r
noncomputable def aln:Option Int->List Int->PyData
 | none,[]=> .none
 | none,d::r=> .int (afb d r)
 | some b,r=> .int (afb b r)
section
variable {X:Cx}{a:Expr}{fa:Rho->Option PyData}{pos p p3 kp2:Pos}{j3:Nat}
end
end BX
end
section
namespace BX.Srt
open PySem PySem.W
open PyProof.Rows (mirror bubble mirror_size mirror_perm bubble_size bubble_perm getElem?_mirror_all getElem?_bubble)
section
variable (rk:Nat->Int) (n:Nat)
noncomputable def val (p:Array Nat) (k:Nat):Int:=rk (p.getD k 0)
noncomputable def OKp (p:Array Nat):Prop:=p.Perm (List.range n).toArray
end
section
variable {rk:Nat->Int}{n:Nat}{p p':Array Nat}
theorem OKp.size (h:OKp n p):p.size=n:=by
 have:=h.size_eq
 simpa using this
theorem OKp.lt (h:OKp n p) {k:Nat} (hk:k < n):p.getD k 0 < n:=by
 have hs:=h.size
 have e:p.getD k 0=p[k]'(by omega):=by simp [Array.getD,hs,hk]
 have:p[k]'(by omega) ∈ (List.range n).toArray:=h.mem_iff.mp (Array.getElem_mem _)
 rw [e]
 simpa using this
end
variable {rk:Nat->Int}{n:Nat}{cmp:Nat->Nat->(Bool->Shared->Prop)->Shared->Prop}
section
variable {s:Shared} (hc:∀ i j (C:Bool->Shared->Prop),i < n->j < n->C (decide (rk i < rk j)) s->cmp i j C s)
include hc
end
end BX.Srt
end
section
namespace BX
open PySem PySem.Spec L2
open PyProof.Rows hiding St
section
variable {prog:Program}{w:World}{A:Around}{E:Value->Shared->Prop}{s:Shared}
end
theorem qt.there {P:Program}{w:World}{H:Hp}{h:Heap}{a:Addr}{o:HO} (x:qt P w H h a o):∃ u,h.get? a=some u:=by
 cases o with
 | lst xs=>obtain ⟨_,_,_,_,e⟩:=x; exact ⟨_,e⟩
 | tup xs=>obtain ⟨_,_,_,u,e,_⟩:=x; exact ⟨_,e⟩
 | dK kvs=>obtain ⟨_,_,_,_,o,_,_,e,_⟩:=x; exact ⟨_,e⟩
 | dT kvs=>obtain ⟨_,_,_,_,o,_,_,e,_⟩:=x; exact ⟨_,e⟩
 | set S n=>obtain ⟨o,_,_,_,e,_⟩:=x; exact ⟨_,e⟩
 | ins C dx fs=>obtain ⟨_,_,_,e,_⟩:=x; exact ⟨_,e⟩
 | own y=>obtain ⟨_,e⟩:=x; exact ⟨_,e⟩
 | xd fs=>obtain ⟨_,⟨_,_,_,e,_⟩,_⟩:=x; exact ⟨_,e⟩
 | rng lo hi=>obtain ⟨_,_,_,e⟩:=x; exact ⟨_,e⟩
 | frz ob u=>obtain ⟨e,_⟩:=x; exact ⟨_,e⟩
 | tbl ps=>exact ⟨_,(show h.get? a=some _ from x)⟩
 | met f y=>exact ⟨_,(show h.get? a=some _ from x)⟩
 | ext φ=>obtain ⟨_,⟨_,e⟩,_⟩:=x; exact ⟨_,e⟩
structure PairAt (h:Heap) (u:Value) (p:Int × Int):Prop where
 ex:∃ a o k t t',u= .ref a/\h.get? a=some o/\o.cls= .type "tuple"/\o.data= .seq #[.int p.1 t,.int p.2 t'] k
theorem getD_some {α:Type}{l:List α}{i:Nat}{d x:α} (h:l[i]?=some x):l.getD i d=x:=by simp [List.getD,h]
section
variable {X:Cx}
variable {a b:Expr}{fa fb:Rho->Option PyData}{pos p2:Pos}
noncomputable def ahw:PyData->Option PyData
 | .int i=>some (.int (-i))
 | _=>none
theorem acl (h:PD X a fa):PD X (.UnaryOp .USub a pos) (fun ρ=>(fa ρ).bind ahw):=by
 with_unfolding_all
  refine PE.imp (ame akZ h) fun σ H Q ⟨ρ,d,en,q,k⟩=>?_
  cases h1:fa ρ with
  | none=>simp [h1] at q
  | some y=>
   refine ⟨ρ,y,en,h1,fun v H1 s1 r1=>?_⟩
   have q':ahw y=some d:=by simpa [h1] using q
   cases y with
   | int i=>cases q'; cases (show v=_ from r1); exact ⟨i,rfl,k _ H1 s1 rfl⟩
   | _=>cases q'
end
variable {X:Cx}
end BX
end
section
namespace BX
open PySem PySem.Spec L2
open PyProof.Rows hiding St
variable {X:Cx}
noncomputable def abc (f:Expr->Option PyData):List Expr->Option (List PyData)
 | []=>some []
 | e::es=>(f e).bind fun d=>(abc f es).map fun ds=>d::ds
noncomputable def lit:Nat->Expr->Option PyData
 | 0,_=>none
 | n+1,e=>match e with
  | .Constant (.int i) _ _=>some (.int i)
  | .Constant (.bool b) _ _=>some (.bool b)
  | .Constant .none _ _=>some .none
  | .Constant (.str x) _ _=>some (.str x)
  | .Tuple es _ _=>(abc (lit n) es).bind fun ds=>if few ds=true then some (.tuple ds) else none
  | .List es _=>(abc (lit n) es).bind fun ds=>if few ds=true then some (.list ds) else none
  | _=>none
theorem PD.as {e:Expr}{F G:Rho->Option PyData} (h:PD X e F) (hi:∀ ρ d,G ρ=some d->F ρ=some d):PD X e G:=by
 with_unfolding_all exact (PE.imp h fun σ H Q ⟨ρ,d,en,q,k⟩=>⟨ρ,d,en,hi ρ d q,k⟩)
theorem PAD.as {es:List Expr}{F G:Rho->Option (List PyData)} (h:PAD X es F) (hi:∀ ρ d,G ρ=some d->F ρ=some d):PAD X es G:=by
 with_unfolding_all exact (PA.imp h fun σ H Q ⟨ρ,d,en,q,k⟩=>⟨ρ,d,en,hi ρ d q,k⟩)
noncomputable def ahx (e:Expr):Prop:=∀ (es:List Expr) (env:Env),starEach (e::es) env=(false,eval e env)::starEach es env
theorem acm {f:Expr->Option PyData} (hf:∀ e d,f e=some d->PD X e (cst d)/\ahx e):∀ (es:List Expr) (ds:List PyData),abc f es=some ds->PAD X es (fun _=>some ds)
 | [],ds,h=>by cases h; exact je
 | e::es,ds,h=>by
  cases h1:f e with
  | none=>simp [abc,h1] at h
  | some d=>
   cases h2:abc f es with
   | none=>simp [abc,h1,h2] at h
   | some r=>
    have:d::r=ds:=by with_unfolding_all simpa [abc,h1,h2] using h
    subst this
    obtain ⟨p,st⟩:=hf e d h1
    exact (ja p (acm hf es r h2) (st es X.env)).as fun ρ d' q=>by cases q; simp [js,cst]
theorem aeh:∀ (n:Nat) (e:Expr) (d:PyData),lit n e=some d->PD X e (cst d)/\ahx e
 | 0,e,d,h=>by cases h
 | n+1,e,d,h=>by
  unfold lit at h
  split at h
  ·cases h; exact ⟨ji,fun _ _=>rfl⟩
  ·cases h; exact ⟨zn,fun _ _=>rfl⟩
  ·cases h; exact ⟨aeb,fun _ _=>rfl⟩
  ·cases h; exact ⟨aec,fun _ _=>rfl⟩
  ·rename_i es x1 pos
   cases h1:abc (lit n) es with
   | none=>simp [h1] at h
   | some ds=>
    by_cases hf:few ds=true
    ·have:PyData.tuple ds=d:=by with_unfolding_all simpa [h1,hf] using h
     subst this
     exact ⟨(qy (acm (aeh n) es ds h1)).as fun ρ d' q=>by cases q; simp [Qx,hf],fun _ _=>rfl⟩
    ·simp [h1,hf] at h
  ·rename_i es pos
   cases h1:abc (lit n) es with
   | none=>simp [h1] at h
   | some ds=>
    by_cases hf:few ds=true
    ·have:PyData.list ds=d:=by simpa [h1,hf] using h
     subst this
     exact ⟨(aay (acm (aeh n) es ds h1)).as fun ρ d' q=>by cases q; simp [JU,hf],fun _ _=>rfl⟩
    ·simp [h1,hf] at h
  ·cases h
theorem ahy (n:Nat) {e:Expr} (d:PyData) (h:lit n e=some d):PD X e (cst d):=by
 with_unfolding_all exact ((aeh n e d h).1)
end BX
end
section
namespace BX
open PySem L2
open PyProof.Rows hiding St
noncomputable def jU (K:PySem.W.Frag) (x:Str) (st:Stmt):Prop:=
 ∃ (f:Addr) (oc:Value) (od an:Option Addr) (kV doc pm cdv ct:Value) (osl:Array (Option Value)),PySem.W.nsIn K mainGlobals x=some (some (.ref f))/\
  K.lookup f=some ⟨oc,od,.func (PySem.W.fnOf x x (Jt st) (jP st) (jm st) .none kV doc pm an cdv ct),osl⟩/\PySem.W.codeIn K cdv x=true/\PySem.W.keepIn K (.ref f)=true
theorem ahz {K:PySem.W.Frag}{x:Str}{st:Stmt}{f:Addr}{oc:Value}{od an:Option Addr}{kV doc pm cdv ct:Value}{osl:Array (Option Value)} (a:PySem.W.nsIn K mainGlobals x=some (some (.ref f)))
  (l:K.lookup f=some ⟨oc,od,.func (PySem.W.fnOf x x (Jt st) (jP st) (jm st) .none kV doc pm an cdv ct),osl⟩) (c:PySem.W.codeIn K cdv x=true) (k:PySem.W.keepIn K (.ref f)=true):jU K x st:=
 ⟨f,oc,od,an,kV,doc,pm,cdv,ct,osl,a,l,c,k⟩
noncomputable abbrev jt (x:Str) (st:Stmt) (ps:List Str):Prop:=∀ (kV doc pm:Value) (an:Option Addr) (cdv ct:Value) (us:List Value),us.length=ps.length->bindArgs (PySem.W.fnOf x x (Jt st) (jP st) (jm st) .none kV doc pm an cdv ct) ⟨us,[]⟩=pure (ps.zip us)
theorem jU.callee {P:Program}{w:World}{K:PySem.W.Frag}{mg:Str->Option Value}{base h:Heap}{x:Str}{st:Stmt}{ps:List Str}{k n:Nat}{g:List PyData->Option PyData} (T:jU K x st) (X:K.In h) (G:h.Ns mainGlobals mg)
  (hb:jt x st ps) (F:∀ (f:Addr) (fd:FuncData),Fun K x x st f fd->FnOk P w K mg base CX0 k f fd ps (Pur K n g)):jl P w K mg base x ps k n g:=by
 obtain ⟨f,oc,od,an,kV,doc,pm,cdv,ct,osl,a,l,c,kp⟩:=T
 have F1:=aha (st:=st) l c kp
 exact ⟨f,_,F f _ F1,PySem.W.mg_of X G a,kp,F1.binds hb⟩
theorem jl.as {P:Program}{w:World}{K:PySem.W.Frag}{mg:Str->Option Value}{base:Heap}{x:Str}{ps:List Str}{k n:Nat}{g g':List PyData->Option PyData} (C:jl P w K mg base x ps k n g) (h:∀ ds d,g' ds=some d->g ds=some d):jl P w K mg base x ps k n g':=by
 obtain ⟨f,fd,F,a,b,c⟩:=C
 exact ⟨f,fd,amy F fun ds d _ q=>h ds d q,a,b,c⟩
theorem aaC {K:PySem.W.Frag}{mg:Str->Option Value}{h:Heap}{x:Str}{a:Addr}{ob:Obj}{ds:List PyData} (X:K.In h) (G:h.Ns mainGlobals mg) (e:PySem.W.nsIn K mainGlobals x=some (some (.ref a))) (l:K.lookup a=some ob)
  (hc:ob.cls= .type "tuple") (hi:∃ (its:Array Value) (n:Nat) (xs:List V),ob.data= .seq its n/\its.size<=sizeLine/\jF xs its.toList/\∀ H,Reps K H ds xs):∃ v u,mg x=some u/\jJ v u/\∀ H,Rep K H (.tuple ds) v:=by
 obtain ⟨its,n,xs,h1,h2,h3,h4⟩:=hi
 exact ⟨.ref a,.ref a,PySem.W.mg_of X G e,rfl,fun H=>⟨a,xs,rfl,.inr ⟨ob,its,n,l,hc,h1,h2,h3⟩,h4 H⟩⟩
end BX
end
section
namespace BX
open PySem PySem.Spec L2
open PyProof.Rows hiding St
noncomputable def JN (a:Addr) (xs:List V):HO:= .ext fun h=>xs.length<=sizeLine/\∃ (its:List Value) (n:Nat),jF xs its/\h.get? a=some { cls:= .type "list",data:= .seq its.toArray n }
noncomputable def ZQ (P:Program) (w:World) (a:Addr) (ob:Obj) (ks:List (Key × V)):HO:= .ext fun h=>h.get? a=some ob/\ks.length<=sizeLine/\(a == sysModules)=false/\∃ vs,KV ks vs/\h.DictOf (jY P w) a vs
inductive Seal (P:Program) (w:World) (a:Addr):HO->HO->Prop where
 | l (xs:List V):Seal P w a (JN a xs) (.lst xs)
 | d (ob:Obj) (ks:List (Key × V)):Seal P w a (ZQ P w a ob ks) (.frz ob (.dK ks))
theorem Seal.ext {P:Program}{w:World}{a:Addr}{c o:HO} (S:Seal P w a c o):∃ φ,c= .ext φ:=by cases S <;> exact ⟨_,rfl⟩
section
variable {X:Cx}{pins:List (Addr × Obj)}{σ:St}{H:Hp}{s:Shared}{a:Addr}{c o:HO}
theorem Inv.opened (I:Inv X pins σ H s) (S:Seal X.prog X.w a c o) (e:H a=some c):Inv X pins σ (upd H a o) s:=by
 have q:=I.hok a c e
 have mu:Mut (H a):=by rw [e]; obtain ⟨φ,rfl⟩:=S.ext; trivial
 cases S with
 | l xs=>
  obtain ⟨h1,h2,_⟩:=q
  exact I.write (x:=a) (e:=a) (h':=s.heap) (t':=s.toks) mu (.inl rfl) (fun _ _ _ z=>z) h2 h1
 | d ob ks=>
  obtain ⟨h1,h2,_⟩:=q
  exact I.write (x:=a) (e:=a) (h':=s.heap) (t':=s.toks) mu (.inl rfl) (fun _ _ _ z=>z) h2 ⟨h1.1,h1.2⟩
theorem Inv.redesc {o1 o2:HO} (I:Inv X pins σ H s) (h1:H a=some o1) (n1:∀ y,o1 ≠ .own y) (n2:∀ xs,o1 ≠ .tup xs) (n3:∀ ps,o1 ≠ .tbl ps) (nf:∀ ob u,X.H₀ a ≠ some (.frz ob u)) (new:qt X.prog X.w (upd H a o2) s.heap a o2):Inv X pins σ (upd H a o2) s:=by
 have na:∀ b,H b=none->upd H a o2 b=none:=fun b z=>by
  have:b ≠ a:=fun q=>by subst q; rw [h1] at z; cases z
  rw [jn this]; exact z
 refine ⟨I.ok,I.os,I.bare,⟨I.base.keep,I.base.slot,fun b u q n hx=>na b (I.base.free b u q n hx),I.base.there,fun b xs q=>?_,fun b ob u q=>?_,fun b ps q=>?_⟩,I.loc,I.cell,na _ I.free,fun x c' q=>na _ (I.freeC x c' q),fun p hp=>?_,fun b u q=>?_,I.len⟩
 ·have q':=I.base.tups b xs q
  have:b ≠ a:=fun z=>by subst z; rw [h1] at q'; cases q'; exact n2 _ rfl
  rw [jn this]; exact q'
 ·have:b ≠ a:=fun z=>by subst z; exact nf _ _ q
  rw [jn this]; exact I.base.frzs b ob u q
 ·obtain ⟨more,q'⟩:=I.base.tbls b ps q
  have:b ≠ a:=fun z=>by subst z; rw [h1] at q'; cases q'; exact n3 _ rfl
  exact ⟨more,by rw [jn this]; exact q'⟩
 ·obtain ⟨g1,g2,g3⟩:=I.pin p hp
  exact ⟨g1,na _ g2,g3⟩
 ·by_cases hb:b=a
  ·subst hb
   rw [jp] at q; cases q
   exact new
  ·rw [jn hb] at q
   refine (I.hok b u q).stay (fun c' v _ z=>z) (fun c' z=>?_) fun c' xs z=>?_
   ·have:c' ≠ a:=fun m=>by subst m; rw [h1] at z; cases z; exact n1 _ rfl
    rw [jn this]; exact z
   ·have:c' ≠ a:=fun m=>by subst m; rw [h1] at z; cases z; exact n2 _ rfl
    rw [jn this]; exact z
theorem Inv.nofrz {φ:Heap->Prop} (I:Inv X pins σ H s) (e:H a=some (.ext φ)):∀ ob u,X.H₀ a ≠ some (.frz ob u):=fun ob u z=>by
 have:=I.base.frzs _ _ _ z
 rw [e] at this; cases this
theorem Inv.closed (I:Inv X pins σ H s) (S:Seal X.prog X.w a c o) (e:H a=some o) (nf:∀ ob u,X.H₀ a ≠ some (.frz ob u)):Inv X pins σ (upd H a c) s:=by
 have q:=I.hok a o e
 cases S with
 | l xs=>
  obtain ⟨h1,its,n,h2,h3⟩:=q
  refine I.write (x:=a) (e:=a) (h':=s.heap) (t':=s.toks) (by rw [e]; trivial) (.inl rfl) (fun _ _ _ z=>z) ⟨_,h3⟩ ⟨⟨h1,its,n,h2,h3⟩,⟨_,h3⟩,?_⟩
  rintro g1 g2 ⟨z1,its,n,z2,z3⟩ k
  exact ⟨z1,its,n,z2,k _ z3⟩
 | d ob ks=>
  obtain ⟨h0,h1,h2,vs,h3,ob',es,ep,h4,h5⟩:=q
  refine Inv.redesc I e (fun _ z=>nomatch z) (fun _ z=>nomatch z) (fun _ z=>nomatch z) nf ⟨⟨h0,h1,h2,vs,h3,ob',es,ep,h4,h5⟩,⟨_,h4⟩,?_⟩
  rintro g1 g2 ⟨z0,z1,z2,vs,z3,ob',es,ep,z4,z5⟩ k
  exact ⟨k _ z0,z1,z2,vs,z3,ob',es,ep,k _ z4,z5⟩
theorem Inv.sealedD {ks:List (Key × V)} (I:Inv X pins σ H s) (e:H a=some (.dK ks)):∃ ob,Inv X pins σ (upd H a (ZQ X.prog X.w a ob ks)) s:=by
 obtain ⟨h1,h2,vs,h3,ob,es,ep,h4,h5⟩:=I.hok a _ e
 refine ⟨ob,I.write (x:=a) (e:=a) (h':=s.heap) (t':=s.toks) (by rw [e]; trivial) (.inl rfl) (fun _ _ _ z=>z) ⟨_,h4⟩ ⟨⟨h4,h1,h2,vs,h3,ob,es,ep,h4,h5⟩,⟨_,h4⟩,?_⟩⟩
 rintro g1 g2 ⟨z0,z1,z2,vs,z3,ob',es,ep,z4,z5⟩ k
 exact ⟨k _ z0,z1,z2,vs,z3,ob',es,ep,k _ z4,z5⟩
theorem Inv.openD {ob:Obj}{ks:List (Key × V)} (I:Inv X pins σ H s) (e:H a=some (ZQ X.prog X.w a ob ks)):Inv X pins σ (upd H a (.dK ks)) s:=by
 obtain ⟨h1,h2,_⟩:=I.hok a _ e
 exact I.write (x:=a) (e:=a) (h':=s.heap) (t':=s.toks) (by rw [e]; trivial) (.inl rfl) (fun _ _ _ z=>z) h2 h1.2
end
mutual
noncomputable def noD:PyData->Bool
 | .tuple ds=>noDs ds
 | .list ds=>noDs ds
 | .dict _=>false
 | _=>true
noncomputable def noDs:List PyData->Bool
 | []=>true
 | d::ds=>noD d && noDs ds
end
noncomputable def adf (H H':Hp):Prop:=∀ b o,H b=some o->(∀ ob ks,o ≠ .frz ob (.dK ks))->H' b=some o
section
variable {K:PySem.W.Frag}{H H':Hp}
theorem adf.tup {a:Addr}{xs:List V} (e:adf H H') (h:SqT K H a xs):SqT K H' a xs:=by
 rcases h with (h | ⟨o,h⟩) | h
 ·exact .inl (.inl (e _ _ h fun _ _ z=>nomatch z))
 ·exact .inl (.inr ⟨o,e _ _ h fun _ _ z=>nomatch z⟩)
 ·exact .inr h
mutual
theorem Rep.monoM (e:adf H H'):∀ (d:PyData) (v:V),noD d=true->Rep K H d v->Rep K H' d v
 | .none,v,_,h=>h
 | .bool _,v,_,h=>h
 | .int _,v,_,h=>h
 | .str _,v,_,h=>h
 | .tuple ds,v,n,⟨a,xs,h1,h2,h3⟩=>⟨a,xs,h1,adf.tup e h2,Reps.monoM e ds xs (by simpa [noD] using n) h3⟩
 | .list ds,v,n,⟨a,xs,h1,h2,h3⟩=>⟨a,xs,h1,e _ _ h2 (fun _ _ z=>nomatch z),Reps.monoM e ds xs (by simpa [noD] using n) h3⟩
 | .dict ds,v,n,h=>by simp [noD] at n
theorem Reps.monoM (e:adf H H'):∀ (ds:List PyData) (xs:List V),noDs ds=true->Reps K H ds xs->Reps K H' ds xs
 | [],xs,_,h=>h
 | d::ds,xs,n,⟨x,r,h1,h2,h3⟩=>by
  have n':noD d=true/\noDs ds=true:=by simpa [noDs] using n
  exact ⟨x,r,h1,Rep.monoM e d x n'.1 h2,Reps.monoM e ds r n'.2 h3⟩
end
end
noncomputable def okB (c d:PyData):Bool:=match c with
 | .list _=>noL d
 | .dict _=>noD d
 | _=>false
noncomputable def QR (P:Program) (w:World) (K:PySem.W.Frag) (H:Hp) (a:Addr):PyData->Prop
 | .list ds=>∃ xs,H a=some (JN a xs)/\Reps K H ds xs
 | .dict kvs=>∃ ks r ob,kvs=(.none,.none)::r/\H a=some (ZQ P w a ob ks)/\RepM K H r ks
 | _=>False
theorem QR.out {P:Program}{w:World}{K:PySem.W.Frag}{H:Hp}{a:Addr}{d:PyData} (h:QR P w K H a d):∃ c o,Seal P w a c o/\H a=some c/\
  (∀ H',jC H H'->H' a=some o->Rep K H' d (.ref a))/\(∀ H',jC H H'->H' a=some c->QR P w K H' a d)/\
  ∀ x H3 v,okB d x=true->H3 a=some o->Rep K H3 x v->Rep K (upd H3 a c) x v:=by
 cases d with
 | list ds=>
  obtain ⟨xs,h1,h2⟩:=h
  exact ⟨_,_,.l xs,h1,fun H' e q=>⟨a,xs,rfl,q,Reps.monoE e _ _ h2⟩,fun H' e q=>⟨xs,q,Reps.monoE e _ _ h2⟩,fun x H3 v n q r=>Rep.monoN (fun b u hb m=>by
   have:b ≠ a:=fun z=>by subst z; rw [q] at hb; cases hb; exact m _ rfl
   rw [jn this]; exact hb) x v n r⟩
 | dict kvs=>
  obtain ⟨ks,r,ob,rfl,h1,h2⟩:=h
  exact ⟨_,_,.d ob ks,h1,fun H' e q=>⟨a,rfl,.inr (.inl ⟨ks,ob,q,show RepM K H' r ks from RepM.monoE e _ _ h2⟩)⟩,fun H' e q=>⟨ks,r,ob,rfl,q,RepM.monoE e _ _ h2⟩,fun x H3 v n q r=>Rep.monoM (fun b u hb m=>by
   have:b ≠ a:=fun z=>by subst z; rw [q] at hb; cases hb; exact m _ _ rfl
   rw [jn this]; exact hb) x v n r⟩
 | none=>exact h.elim
 | bool _=>exact h.elim
 | int _=>exact h.elim
 | str _=>exact h.elim
 | tuple _=>exact h.elim
theorem jC.upd {H:Hp}{a:Addr}{φ:Heap->Prop}{o:HO} (e:H a=some (.ext φ)):jC H (upd H a o):=fun b u h n=>by
 have:b ≠ a:=fun z=>by subst z; rw [e] at h; cases h; exact n _ rfl
 rw [jn this]; exact h
structure EnvO (P:Program) (w:World) (K:PySem.W.Frag) (Hs H:Hp) (own:Option Nat) (ρ:Rho) (σ:St):Prop where
 len:ρ.length=σ.length
 sm:jr Hs H
 pl:∀ i d,ρ[i]?=some (some d)->own ≠ some i->∃ v,σ[i]?=some (some v)/\Rep K H d v
 ow:∀ i,own=some i->∃ d a,ρ[i]?=some (some d)/\σ[i]?=some (some (.ref a))/\Hs a=none/\QR P w K H a d
noncomputable def hid (own:Option Nat) (ρ:Rho):Rho:=match own with
 | none=>ρ
 | some i=>ρ.set i none
section
variable {P:Program}{w:World}{K:PySem.W.Frag}{Hs H H':Hp}{own:Option Nat}{ρ:Rho}{σ:St}
theorem EnvO.of (e:EnvR K H ρ σ) (s:jr Hs H):EnvO P w K Hs H none ρ σ:=⟨e.len,s,fun i d h _=>e.at' i d h,fun i z=>nomatch z⟩
theorem EnvO.to (e:EnvO P w K Hs H none ρ σ):EnvR K H ρ σ:=⟨e.len,fun i d h=>e.pl i d h (fun z=>nomatch z)⟩
theorem EnvO.hid (e:EnvO P w K Hs H own ρ σ):EnvR K H (hid own ρ) σ:=by
 cases own with
 | none=>exact e.to
 | some i=>
  refine ⟨by simp [BX.hid,e.len],fun j d h=>?_⟩
  by_cases hj:i=j
  ·subst hj
   simp only [BX.hid] at h
   rw [List.getElem?_set] at h
   simp at h
  ·simp only [BX.hid] at h
   rw [List.getElem?_set_ne hj] at h
   exact e.pl j d h (fun z=>hj (Option.some.inj z))
theorem QR.mono {a:Addr}{d:PyData} (h:QR P w K H a d) (s:jr H H'):QR P w K H' a d:=by
 obtain ⟨c,o,_,h1,_,h2,_⟩:=h.out
 exact h2 H' (jr.e s) (s _ _ h1)
theorem EnvO.mono (e:EnvO P w K Hs H own ρ σ) (s:jr H H'):EnvO P w K Hs H' own ρ σ:=
 ⟨e.len,e.sm.trans s,fun i d h n=>let ⟨v,h1,h2⟩:=e.pl i d h n; ⟨v,h1,Rep.mono s d v h2⟩,fun i n=>let ⟨d,a,h1,h2,h3,h4⟩:=e.ow i n; ⟨d,a,h1,h2,h3,h4.mono s⟩⟩
theorem EnvO.opn {i:Nat} (e:EnvO P w K Hs H (some i) ρ σ):∃ d a c o,ρ[i]?=some (some d)/\σ[i]?=some (some (.ref a))/\Hs a=none/\Seal P w a c o/\H a=some c/\EnvR K (upd H a o) ρ σ/\jr Hs (upd H a o)/\
  (∀ H3,jr (upd H a o) H3->jC H (upd H3 a c)/\EnvO P w K Hs (upd H3 a c) (some i) ρ σ)/\∀ x H3 v,okB d x=true->H3 a=some o->Rep K H3 x v->Rep K (upd H3 a c) x v:=by
 obtain ⟨d,a,h1,h2,h3,h4⟩:=e.ow i rfl
 obtain ⟨c,o,S,h5,h6,h7,h8⟩:=h4.out
 obtain ⟨φ,rfl⟩:=S.ext
 have s1:jC H (upd H a o):=jC.upd h5
 have sH:∀ {H2:Hp},(∀ b u,b ≠ a->H b=some u->H2 b=some u)->jr Hs H2:=fun {H2} k b u q=>k b u (fun z=>by subst z; rw [h3] at q; cases q) (e.sm b u q)
 refine ⟨d,a,_,o,h1,h2,h3,S,h5,⟨e.len,fun j x q=>?_⟩,sH fun b u n q=>by rw [jn n]; exact q,fun H3 s3=>⟨fun b u q m=>?_,e.len,sH fun b u n q=>by rw [jn n]; exact s3 b u (by rw [jn n]; exact q),fun j x q n=>?_,fun j n=>?_⟩,h8⟩
 ·by_cases hj:i=j
  ·subst hj
   rw [h1] at q; cases q
   exact ⟨.ref a,h2,h6 _ s1 jp⟩
  ·obtain ⟨v,g1,g2⟩:=e.pl j x q (fun z=>hj (Option.some.inj z))
   exact ⟨v,g1,Rep.monoE s1 _ _ g2⟩
 ·have:b ≠ a:=fun z=>by subst z; rw [h5] at q; cases q; exact m _ rfl
  rw [jn this]
  exact s3 b u (by rw [jn this]; exact q)
 ·have s4:jC H (upd H3 a (.ext φ)):=fun b u q m=>by
   have:b ≠ a:=fun z=>by subst z; rw [h5] at q; cases q; exact m _ rfl
   rw [jn this]
   exact s3 b u (by rw [jn this]; exact q)
  obtain ⟨v,g1,g2⟩:=e.pl j x q n
  exact ⟨v,g1,Rep.monoE s4 _ _ g2⟩
 ·cases n
  have s4:jC H (upd H3 a (.ext φ)):=fun b u q m=>by
   have:b ≠ a:=fun z=>by subst z; rw [h5] at q; cases q; exact m _ rfl
   rw [jn this]
   exact s3 b u (by rw [jn this]; exact q)
  exact ⟨d,a,h1,h2,h3,h7 _ s4 jp⟩
end
end BX
end
section
namespace BX
open PySem PySem.Spec L2
open PyProof.Rows hiding St
noncomputable def brw (own:Option Nat) (f:Rho->Option PyData):Rho->Option PyData:=fun ρ=>match f (hid own ρ) with
 | some d=>some d
 | none=>match own with
  | none=>none
  | some i=>match f ρ,lkp i ρ with
   | some d,some c=>if okB c d=true then some d else none
   | _,_=>none
theorem ajy {own:Option Nat}{f:Rho->Option PyData}{ρ:Rho}{d:PyData} (h:brw own f ρ=some d):f (hid own ρ)=some d ∨ ∃ i c,own=some i/\f ρ=some d/\ρ[i]?=some (some c)/\okB c d=true:=by
 unfold brw at h
 cases h1:f (hid own ρ) with
 | some x=>rw [h1] at h; exact .inl h
 | none=>
  rw [h1] at h
  cases own with
  | none=>cases h
  | some i=>
   simp only at h
   cases h2:f ρ with
   | none=>rw [h2] at h; cases h
   | some x=>
    rw [h2] at h
    cases h3:lkp i ρ with
    | none=>rw [h3] at h; cases h
    | some c=>
     rw [h3] at h
     simp only at h
     split at h
     ·rename_i ok
      cases h
      exact .inr ⟨i,c,rfl,rfl,qI h3,ok⟩
     ·cases h
section
variable {X:Cx}{e a b c tg src:Expr}{es:List Expr}{st:Stmt}{sts qq:List Stmt}{fa fb fc:Rho->Option PyData}{F G:Rho->Option Out}{pos:Pos}{own:Option Nat}
noncomputable def tE (P:Program) (w:World) (K:PySem.W.Frag) (own:Option Nat) (f:Rho->Option PyData):TE:=fun σ H Q=>∃ Hs ρ d,EnvO P w K Hs H own ρ σ/\brw own f ρ=some d/\∀ v H',jC H H'->EnvO P w K Hs H' own ρ σ->Rep K H' d v->Q v H'
theorem aei (h:PD X e fa):PE X e (tE X.prog X.w X.K own fa):=by
 with_unfolding_all
  intro pins s σ H Q I ⟨Hs,ρ,d,E,hb,k⟩
  rcases ajy hb with h1 | ⟨i,c,ho,h1,h2,ok⟩
  ·exact h pins s σ H Q I ⟨hid own ρ,d,E.hid,h1,fun v H' s r=>k v H' (jr.e s) (E.mono s) r⟩
  ·subst ho
   obtain ⟨d0,a,cl,o,g1,g2,g3,S,g4,env,sm,back,keep⟩:=E.opn
   rw [h2] at g1; cases g1
   refine thn (h pins s σ (upd H a o) (fun v H3=>jr (upd H a o) H3/\Rep X.K H3 d v) (Inv.opened I S g4) ⟨ρ,d,env,h1,fun v H3 s3 r3=>⟨s3,r3⟩⟩) fun u s1 ⟨v,H3,I3,r,s3,r3⟩=>?_
   have e3:H3 a=some o:=s3 _ _ jp
   exact ⟨v,upd H3 a cl,Inv.closed I3 S e3 (by obtain ⟨φ,rfl⟩:=S.ext; exact Inv.nofrz I g4),r,k v _ (back H3 s3).1 (back H3 s3).2 (keep d H3 v ok e3 r3)⟩
noncomputable def tT (P:Program) (w:World) (K:PySem.W.Frag) (own:Option Nat) (f:Rho->Option Bool):TT:=fun σ H Q=>∃ Hs ρ d,EnvO P w K Hs H own ρ σ/\f ρ=some d/\∀ H',jC H H'->EnvO P w K Hs H' own ρ σ->Q d H'
theorem alo {tc:Rho->Option Bool} (h:PTD X e tc):PT X e (tT X.prog X.w X.K own tc):=by
 with_unfolding_all
  intro pins s σ H Q I ⟨Hs,ρ,d,E,h1,k⟩
  cases own with
  | none=>exact h pins s σ H Q I ⟨ρ,d,E.to,h1,fun H' s=>k H' (jr.e s) (E.mono s)⟩
  | some i=>
   obtain ⟨d0,a,cl,o,g1,g2,g3,S,g4,env,sm,back,keep⟩:=E.opn
   refine thn (h pins s σ (upd H a o) (fun b H3=>b=d/\jr (upd H a o) H3) (Inv.opened I S g4) ⟨ρ,d,env,h1,fun H3 s3=>⟨rfl,s3⟩⟩) fun b s1 ⟨H3,I3,hb,s3⟩=>?_
   subst hb
   exact ⟨upd H3 a cl,Inv.closed I3 S (s3 _ _ jp) (by obtain ⟨φ,rfl⟩:=S.ext; exact Inv.nofrz I g4),k _ (back H3 s3).1 (back H3 s3).2⟩
noncomputable def tF (P:Program) (w:World) (K:PySem.W.Frag) (own:Option Nat) (f:Rho->Option PyData):TE:=fun σ H Q=>∃ Hs ρ d,EnvO P w K Hs H own ρ σ/\f ρ=some d/\∀ v H',jr Hs H'->Rep K H' d v->Q v H'
theorem alp (h:PD X e fa):PE X e (tF X.prog X.w X.K own fa):=by
 with_unfolding_all
  intro pins s σ H Q I ⟨Hs,ρ,d,E,h1,k⟩
  cases own with
  | none=>exact h pins s σ H Q I ⟨ρ,d,E.to,h1,fun v H' s r=>k v H' (E.sm.trans s) r⟩
  | some i=>
   obtain ⟨d0,a,cl,o,g1,g2,g3,S,g4,env,sm,back,keep⟩:=E.opn
   exact h pins s σ (upd H a o) Q (Inv.opened I S g4) ⟨ρ,d,env,h1,fun v H3 s3 r3=>k v H3 (sm.trans s3) r3⟩
noncomputable def amF (P:Program) (w:World) (K:PySem.W.Frag) (Hs:Hp) (own:Option Nat) (D:Ends):Out->Prop
 | .nx ρ=>∀ σ H,EnvO P w K Hs H own ρ σ->D.nx σ H
 | .rt d=>∀ v H,jr Hs H->Rep K H d v->D.rt v H
 | .bk ρ=>∀ σ H,EnvO P w K Hs H own ρ σ->D.bk σ H
 | .ct ρ=>∀ σ H,EnvO P w K Hs H own ρ σ->D.ct σ H
noncomputable def tOS (P:Program) (w:World) (K:PySem.W.Frag) (own:Option Nat) (F:Rho->Option Out):TS:=fun D σ H=>∃ Hs ρ o,EnvO P w K Hs H own ρ σ/\F ρ=some o/\amF P w K Hs own D o
@[irreducible] noncomputable def PSO (X:Cx) (own:Option Nat) (st:Stmt) (F:Rho->Option Out):Prop:=PS X st (tOS X.prog X.w X.K own F)
@[irreducible] noncomputable def abd (X:Cx) (own:Option Nat) (sts:List Stmt) (F:Rho->Option Out):Prop:=PSs X sts (tOS X.prog X.w X.K own F)
theorem abH (h:PSD X st F):PSO X none st F:=by
 with_unfolding_all
  refine PS.imp h fun D σ H ⟨Hs,ρ,o,E,q,k⟩=>⟨ρ,o,E.to,q,?_⟩
  cases o with
  | nx ρ'=>exact fun σ' H' s r=>k σ' H' (EnvO.of r (E.sm.trans s))
  | rt d=>exact fun v H' s r=>k v H' (E.sm.trans s) r
  | bk ρ'=>exact fun σ' H' s r=>k σ' H' (EnvO.of r (E.sm.trans s))
  | ct ρ'=>exact fun σ' H' s r=>k σ' H' (EnvO.of r (E.sm.trans s))
theorem QS (h:abd X none sts F):aaw X sts F:=by
 with_unfolding_all
  refine PSs.imp h fun D σ H ⟨ρ,o,en,q,k⟩=>⟨H,ρ,o,EnvO.of en (jr.refl H),q,?_⟩
  cases o with
  | nx ρ'=>exact fun σ' H' E=>k σ' H' E.sm E.to
  | rt d=>exact fun v H' s r=>k v H' s r
  | bk ρ'=>exact fun σ' H' E=>k σ' H' E.sm E.to
  | ct ρ'=>exact fun σ' H' E=>k σ' H' E.sm E.to
theorem j6:abd X own [] qA:=by
 with_unfolding_all
  refine PSs.imp aeW fun D σ H ⟨Hs,ρ,o,E,q,k⟩=>?_
  cases q
  exact k σ H E
theorem jE (h1 : PSO X own st F) (h2 : abd X own qq G) : abd X own (st :: qq) (j1 F G) := by
  with_unfolding_all
   refine PSs.imp (JQ h1 h2) fun D σ H ⟨Hs, ρ, o, E, q, k⟩ => ?_
   cases hf : F ρ with
   | none => simp [j1, hf] at q
   | some p =>
     refine ⟨Hs, ρ, p, E, hf, ?_⟩
     cases p with
     | nx ρ' => exact fun σ' H' E' => ⟨Hs, ρ', o, E', by simpa [j1, hf] using q, k⟩
     | rt d => have : Out.rt d = o := by simpa [j1, hf] using q
               subst this; exact k
     | bk d => have : Out.bk d = o := by simpa [j1, hf] using q
               subst this; exact k
     | ct d => have : Out.ct d = o := by simpa [j1, hf] using q
               subst this; exact k
theorem Z3 (h:PD X e fa):PSO X own (.Return (some e) pos) (qJ fa):=by
 with_unfolding_all
  refine PS.imp (ad0 (alp (own:=own) h)) fun D σ H ⟨Hs,ρ,o,E,q,k⟩=>?_
  cases h1:fa ρ with
  | none=>simp [qJ,h1] at q
  | some d=>
   have:Out.rt d=o:=by simpa [qJ,h1] using q
   subst this
   exact ⟨Hs,ρ,d,E,h1,k⟩
theorem ahA {l r:List Stmt}{tc:Rho->Option Bool} (hc:PTD X c tc) (hl:abd X own l F) (hr:abd X own r G):PSO X own (.If c l r pos) (ifS tc F G):=by
 with_unfolding_all
  refine PS.imp (ako (alo (own:=own) hc) hl hr) fun D σ H ⟨Hs,ρ,o,E,q,k⟩=>?_
  cases h1:tc ρ with
  | none=>simp [ifS,h1] at q
  | some x=>
   refine ⟨Hs,ρ,x,E,h1,fun H1 _ E1=>?_⟩
   cases x with
   | true=>rw [if_pos rfl]; exact ⟨Hs,ρ,o,E1,by simpa [ifS,h1] using q,k⟩
   | false=>rw [if_neg Bool.false_ne_true]; exact ⟨Hs,ρ,o,E1,by simpa [ifS,h1] using q,k⟩
theorem EnvO.set {P:Program}{w:World}{K:PySem.W.Frag}{Hs H:Hp}{ρ:Rho}{σ:St}{i:Nat}{d:PyData}{v:V} (E:EnvO P w K Hs H own ρ σ) (hi:own ≠ some i) (r:Rep K H d v):EnvO P w K Hs H own (ρ.set i (some d)) (σ.set i (some v)):=by
 refine ⟨by simp [E.len],E.sm,fun j x q n=>?_,fun j n=>?_⟩
 ·by_cases hj:i=j
  ·subst hj
   rw [List.getElem?_set] at q ⊢
   simp only [zzM] at q ⊢
   by_cases hl:i < ρ.length
   ·rw [if_pos hl] at q
    rw [if_pos (by rw [←E.len]; exact hl)]
    cases q
    exact ⟨v,rfl,r⟩
   ·rw [if_neg hl] at q; cases q
  ·rw [List.getElem?_set_ne hj] at q ⊢
   exact E.pl j x q n
 ·have hj:i ≠ j:=fun z=>by subst z; exact hi n
  rw [List.getElem?_set_ne hj,List.getElem?_set_ne hj]
  exact E.ow j n
theorem afc (i:Nat) {x:Str}{pos':Pos} (hN:X.N.Nodup) (he:PD X e fa) (ho:own ≠ some i:=by decide) (hi:X.N[i]?=some x:=by rfl) (hx:Loc X.env.scope x:=by first | exact Or.inl rfl | exact Or.inr rfl) (hs:swapsWith e (some (.Name x pos')) pos.line X.env=pure false:=by rfl)
  (hf:X.fn x=true ∨ X.env.scope.names.lookup x=some .local:=by first | exact .inl rfl | exact .inr rfl | assumption):PSO X own (.Assign [.Name x pos'] e pos) (zo (brw own fa) (jG i)):=by
 with_unfolding_all
  refine PS.imp (ab8 hN hi hx (aei (own:=own) he) hs hf) fun D σ H ⟨Hs,ρ,o,E,q,k⟩=>?_
  cases h1:brw own fa ρ with
  | none=>simp [zo,h1] at q
  | some d=>
   have:Out.nx (ρ.set i (some d))=o:=by simpa [zo,h1,jG] using q
   subst this
   exact ⟨Hs,ρ,d,E,h1,fun v H1 _ E1 r1=>k _ H1 (E1.set ho r1)⟩
end
section
variable {X:Cx}{e a b c tg src:Expr}{es:List Expr}{st:Stmt}{sts qq body:List Stmt}{fa fb fc:Rho->Option PyData}{F G:Rho->Option Out}{pos:Pos}{own:Option Nat}
@[irreducible] noncomputable def PGO (X:Cx) (own:Option Nat) (tg:Expr) (ga:PyData->Rho->Option Rho):Prop:=
 PG X tg fun v σ H Q=>∃ Hs ρ d ρ',EnvO X.prog X.w X.K Hs H own ρ σ/\Rep X.K H d v/\ga d ρ=some ρ'/\∀ σ' H',EnvO X.prog X.w X.K Hs H' own ρ' σ'->Q σ' H'
@[irreducible] noncomputable def ajz (X:Cx) (own:Option Nat) (ts:List Expr) (ga:List PyData->Rho->Option Rho):Prop:=
 PGs X ts fun vs σ H Q=>∃ Hs ρ ds ρ',EnvO X.prog X.w X.K Hs H own ρ σ/\Reps X.K H ds vs/\ga ds ρ=some ρ'/\∀ σ',EnvO X.prog X.w X.K Hs H own ρ' σ'->Q σ' H
theorem QT (i:Nat) {x:Str} (hN:X.N.Nodup) (ho:own ≠ some i:=by decide) (hi:X.N[i]?=some x:=by rfl) (hx:Loc X.env.scope x:=by first | exact Or.inl rfl | exact Or.inr rfl)
  (hf:X.fn x=true ∨ X.env.scope.names.lookup x=some .local:=by first | exact .inl rfl | exact .inr rfl | assumption):PGO X own (.Name x pos) (jG i):=by
 with_unfolding_all
  refine PG.imp (QL hN hi hx hf) fun v σ H Q ⟨Hs,ρ,d,ρ',E,r,q,k⟩=>?_
  cases q
  exact k _ H (E.set ho r)
theorem aaD:ajz X own [] qR:=by
 with_unfolding_all
  refine PGs.imp aeX fun vs σ H Q ⟨Hs,ρ,ds,ρ',E,r,q,k⟩=>?_
  cases ds with
  | nil=>cases r; cases q; exact ⟨rfl,k σ E⟩
  | cons d ds=>cases q
theorem zx (i:Nat) {x:Str}{gr:List PyData->Rho->Option Rho} (hN:X.N.Nodup) (h2:ajz X own es gr) (ho:own ≠ some i:=by decide) (hi:X.N[i]?=some x:=by rfl) (hx:Loc X.env.scope x:=by first | exact Or.inl rfl | exact Or.inr rfl)
  (hf:X.fn x=true ∨ X.env.scope.names.lookup x=some .local:=by first | exact .inl rfl | exact .inr rfl | assumption)
  (hs:(assignEach (.Name x pos::es) X.env).map (·.2)=assign (.Name x pos) X.env::(assignEach es X.env).map (·.2):=by rfl):ajz X own (.Name x pos::es) (jH (jG i) gr):=by
 with_unfolding_all
  refine PGs.imp (acZ (QL hN hi hx hf) h2 hs) fun vs σ H Q ⟨Hs,ρ,ds,ρ',E,r,q,k⟩=>?_
  cases ds with
  | nil=>cases q
  | cons d ds=>
   obtain ⟨y,rr,e1,r1,r2⟩:=r
   subst e1
   exact ⟨y,rr,rfl,Hs,_,ds,ρ',E.set ho r1,r2,by simpa [jH,jG] using q,k⟩
theorem acn {k n:Nat}{gr:List PyData->Rho->Option Rho} (hc:X.calm=true) (h:ajz X own es gr) (hn:(assignEach es X.env).length=n:=by rfl) (hst:(assignEach es X.env).findIdx? (·.1)=none:=by rfl):
  PGO X own (.Tuple es k pos) (Jk n gr):=by
 with_unfolding_all
  refine PG.imp (agY hc h hn hst) fun v σ H Q ⟨Hs,ρ,d,ρ',E,r,q,k⟩=>?_
  cases d with
  | tuple ds=>
   obtain ⟨a,xs,e1,e2,e3⟩:=r
   by_cases hl:ds.length=n
   ·exact ⟨a,xs,e1,e2,by rw [e3.length]; exact hl,Hs,ρ,ds,ρ',E,e3,by simpa [Jk,hl] using q,fun σ' E'=>k σ' H E'⟩
   ·simp [Jk,hl] at q
  | _=>simp [Jk] at q
theorem EnvO.rebase {P:Program}{w:World}{K:PySem.W.Frag}{Hs H:Hp}{ρ:Rho}{σ:St} (E:EnvO P w K Hs H own ρ σ):∃ Hb,EnvO P w K Hb H own ρ σ/\(∀ H3,jr Hb H3->jC H H3)/\
  (∀ H3 ρ3 σ3,EnvO P w K Hb H3 own ρ3 σ3->EnvO P w K Hs H3 own ρ3 σ3)/\∀ H3,jr Hb H3->jr Hs H3:=by
 cases own with
 | none=>exact ⟨H,⟨E.len,jr.refl H,E.pl,fun i z=>nomatch z⟩,fun _ s=>jr.e s,fun H3 ρ3 σ3 E3=>⟨E3.len,E.sm.trans E3.sm,E3.pl,fun i z=>nomatch z⟩,fun _ s=>E.sm.trans s⟩
 | some i=>
  obtain ⟨d,a,h1,h2,h3,h4⟩:=E.ow i rfl
  obtain ⟨c,o,S,h5,_⟩:=h4.out
  obtain ⟨φ,rfl⟩:=S.ext
  let Hb:Hp:=fun b=>if b=a then none else H b
  have ha:Hb a=none:=if_pos rfl
  have hb:∀ b,b ≠ a->Hb b=H b:=fun b n=>if_neg n
  have sH:∀ H3,jr Hb H3->jr Hs H3:=fun H3 s b u q=>by
   have n:b ≠ a:=fun z=>by subst z; rw [h3] at q; cases q
   exact s b u (by rw [hb b n]; exact E.sm b u q)
  refine ⟨Hb,⟨E.len,fun b u q=>?_,E.pl,fun j n=>?_⟩,fun H3 s b u q m=>?_,fun H3 ρ3 σ3 E3=>⟨E3.len,sH H3 E3.sm,E3.pl,fun j n=>?_⟩,sH⟩
  ·by_cases n:b=a
   ·subst n; rw [ha] at q; cases q
   ·rw [hb b n] at q; exact q
  ·cases n
   exact ⟨d,a,h1,h2,ha,h4⟩
  ·have n:b ≠ a:=fun z=>by subst z; rw [h5] at q; cases q; exact m _ rfl
   exact s b u (by rw [hb b n]; exact q)
  ·obtain ⟨d3,a3,g1,g2,g3,g4⟩:=E3.ow j n
   refine ⟨d3,a3,g1,g2,?_,g4⟩
   by_cases z:a3=a
   ·rw [z]; exact h3
   ·rw [hb a3 z] at g3
    cases q:Hs a3 with
    | none=>rfl
    | some u=>have:=E.sm _ _ q; rw [g3] at this; cases this
theorem JA {fi:Rho->Option (List PyData)}{ga:PyData->Rho->Option Rho} (hp:PassesOwn (model X.prog X.w) X.A X.env X.xe) (hc:X.calm=true) (hi:PID X tg src fi) (hg:PGO X own tg ga) (hb:abd X own body F)
  (hs:∀ x,foldedSetIterable src X.env x=pure x:=by intro _; rfl):PSO X own (.For tg src body [] pos) (Jw (fun ρ=>fi (hid own ρ)) ga F):=by
 with_unfolding_all
  refine PS.imp (ab9 hp hc hi hg hb hs) fun D σ H ⟨Hs,ρ,o,E,q,k⟩=>?_
  cases h1:fi (hid own ρ) with
  | none=>simp [Jw,h1] at q
  | some ds=>
   have q':jD ga F ds ρ=some o:=by simpa [Jw,h1] using q
   refine ⟨hid own ρ,ds,E.hid,h1,fun J H1 s1 Y=>?_⟩
   obtain ⟨Hb,Eb,sE,back,sb⟩:=(E.mono s1).rebase
   refine ⟨fun i m σ H2=>m=ds.length - i/\i<=ds.length/\∃ ρ2,EnvO X.prog X.w X.K Hb H2 own ρ2 σ/\jD ga F (ds.drop i) ρ2=some o,⟨ds.length,by simp,Nat.zero_le _,ρ,Eb,by simpa using q'⟩,?_⟩
   rintro i m σ2 H2 ⟨rfl,hi,ρ2,en2,q2⟩
   obtain ⟨g1,g2,g3⟩:=Y i H2 (sE H2 en2.sm)
   by_cases hlt:i < ds.length
   ·right
    have hd:ds.drop i=ds[i]::ds.drop (i+1):=List.drop_eq_getElem_cons hlt
    rw [hd] at q2
    refine ⟨g1 hlt,fun σ3 H3=>∃ ρ3,EnvO X.prog X.w X.K Hb H3 own ρ3 σ3/\jD ga F (ds.drop (i+1)) ρ3=some o,fun σ3 H3 ⟨ρ3,a2,a3⟩=>⟨ds.length - (i+1),by omega,rfl,hlt,ρ3,a2,a3⟩,fun x H3 y=>?_⟩
    obtain ⟨s3,r3⟩:=g3 x H3 y
    have r3':=r3 ds[i] (by simp [hlt])
    cases h4:ga ds[i] ρ2 with
    | none=>simp [jD,h4] at q2
    | some ρ4=>
     refine ⟨Hb,ρ2,ds[i],ρ4,en2.mono s3,r3',h4,fun σ5 H5 en5=>?_⟩
     cases h5:F ρ4 with
     | none=>simp [jD,h4,h5] at q2
     | some p=>
      refine ⟨Hb,ρ4,p,en5,h5,?_⟩
      cases p with
      | nx ρ6=>exact fun σ6 H6 en6=>⟨ρ6,en6,by simpa [jD,h4,h5] using q2⟩
      | ct ρ6=>exact fun σ6 H6 en6=>⟨ρ6,en6,by simpa [jD,h4,h5] using q2⟩
      | bk ρ6=>
       have:Out.nx ρ6=o:=by simpa [jD,h4,h5] using q2
       subst this
       exact fun σ6 H6 en6=>k σ6 H6 (back _ _ _ en6)
      | rt d=>
       have:Out.rt d=o:=by simpa [jD,h4,h5] using q2
       subst this
       exact fun v H6 s6 r6=>k v H6 (sb _ s6) r6
   ·left
    have he:i=ds.length:=by omega
    have hn:ds.drop i=[]:=by rw [he]; simp
    rw [hn] at q2
    have:Out.nx ρ2=o:=by simpa [jD] using q2
    subst this
    exact ⟨g2 (by omega),k σ2 H2 (back _ _ _ en2)⟩
end
theorem Qi {H:Hp}{a:Addr}{o o':HO}:upd (upd H a o) a o'=upd H a o':=by
 funext b
 by_cases h:b=a
 ·subst h; rw [jp,jp]
 ·rw [jn h,jn h,jn h]
section
variable {P:Program}{w:World}{K:PySem.W.Frag}{Hs H:Hp}{ρ:Rho}{σ:St}{i:Nat}
theorem EnvO.put {a:Addr}{d d':PyData}{φ:Heap->Prop}{H3:Hp}{c:HO} (E:EnvO P w K Hs H (some i) ρ σ) (h0:ρ[i]?=some (some d)) (h2:σ[i]?=some (some (.ref a))) (h3:Hs a=none) (h5:H a=some (.ext φ))
  (s3:∀ b u,b ≠ a->H b=some u->H3 b=some u) (ow:QR P w K (upd H3 a c) a d'):EnvO P w K Hs (upd H3 a c) (some i) (ρ.set i (some d')) σ:=by
 have hi:i < ρ.length:=(List.getElem?_eq_some_iff.mp h0).1
 have s4:jC H (upd H3 a c):=fun b u q m=>by
  have:b ≠ a:=fun z=>by subst z; rw [h5] at q; cases q; exact m _ rfl
  rw [jn this]; exact s3 b u this q
 refine ⟨by simp [E.len],fun b u q=>?_,fun j x q n=>?_,fun j n=>?_⟩
 ·have:b ≠ a:=fun z=>by subst z; rw [h3] at q; cases q
  rw [jn this]; exact s3 b u this (E.sm b u q)
 ·have hj:i ≠ j:=fun z=>n (by rw [z])
  rw [List.getElem?_set_ne hj] at q
  obtain ⟨v,g1,g2⟩:=E.pl j x q n
  exact ⟨v,g1,Rep.monoE s4 _ _ g2⟩
 ·cases n
  exact ⟨d',a,by rw [List.getElem?_set_self hi],h2,h3,ow⟩
theorem EnvO.opnL {ds:List PyData} (E:EnvO P w K Hs H (some i) ρ σ) (h:ρ[i]?=some (some (.list ds))):∃ a xs,σ[i]?=some (some (.ref a))/\Hs a=none/\H a=some (JN a xs)/\Reps K H ds xs/\EnvR K (upd H a (.lst xs)) ρ σ:=by
 obtain ⟨d,a,h1,h2,h3,h4⟩:=E.ow i rfl
 rw [h] at h1; cases h1
 obtain ⟨xs,h5,h6⟩:=h4
 have s1:jC H (upd H a (.lst xs)):=jC.upd h5
 refine ⟨a,xs,h2,h3,h5,h6,E.len,fun j x q=>?_⟩
 by_cases hj:i=j
 ·subst hj
  rw [h] at q; cases q
  exact ⟨.ref a,h2,a,xs,rfl,jp,Reps.monoE s1 _ _ h6⟩
 ·obtain ⟨v,g1,g2⟩:=E.pl j x q (fun z=>hj (Option.some.inj z))
  exact ⟨v,g1,Rep.monoE s1 _ _ g2⟩
end
section
variable {X:Cx}{e a b c tg src:Expr}{es:List Expr}{st:Stmt}{sts qq body:List Stmt}{fa fb fc:Rho->Option PyData}{F G:Rho->Option Out}{pos:Pos}
noncomputable def alq (P:Program) (w:World) (K:PySem.W.Frag) (i:Nat) (g:Rho->Option PyData):TE:=fun σ H Q=>∃ Hs ρ d',EnvO P w K Hs H (some i) ρ σ/\g ρ=some d'/\∀ H',EnvO P w K Hs H' (some i) (ρ.set i (some d')) σ->Q .non H'
noncomputable def QU (i:Nat) (g:Rho->Option PyData):Rho->Option Out:=fun ρ=>(g ρ).map fun d=> .nx (ρ.set i (some d))
theorem aco {i:Nat}{g:Rho->Option PyData} (h:PE X e (alq X.prog X.w X.K i g)) (hs:swapsWith e none pos.line X.env=pure false:=by rfl):PSO X (some i) (.Expr e pos) (QU i g):=by
 with_unfolding_all
  refine PS.imp (ab7 h hs) fun D σ H ⟨Hs,ρ,o,E,q,k⟩=>?_
  cases h1:g ρ with
  | none=>simp [QU,h1] at q
  | some d=>
   have:Out.nx (ρ.set i (some d))=o:=by simpa [QU,h1] using q
   subst this
   exact ⟨Hs,ρ,d,E,h1,fun H' E'=>k σ H' E'⟩
noncomputable def ajA (c d:Option PyData):Option PyData:=match c,d with
 | some (.list ds),some d=>if noL d=true/\ds.length < 1000000 then some (.list (ds++[d])) else none
 | _,_=>none
noncomputable def Z1 (i:Nat) (fa:Rho->Option PyData):Rho->Option PyData:=fun ρ=>ajA (lkp i ρ) (fa ρ)
theorem ahB {c d:Option PyData}{r:PyData} (h:ajA c d=some r):∃ ds x,c=some (.list ds)/\d=some x/\noL x=true/\ds.length < 1000000/\r= .list (ds++[x]):=by
 unfold ajA at h
 split at h
 ·split at h
  ·rename_i hc
   cases h
   exact ⟨_,_,rfl,rfl,hc.1,hc.2,rfl⟩
  ·cases h
 ·cases h
theorem QF {n:Nat} (h:n < 1000000):n < sizeLine:=Nat.lt_of_lt_of_le h (by rw [sizeLine_eq]; decide)
theorem agb (i:Nat) {x:Str}{p1 apos cpos:Pos} (h:PD X e fa) (hN:X.N[i]?=some x:=by rfl) (hv:Vis X.env.scope x:=by first | exact Or.inl rfl | exact Or.inr (Or.inl rfl) | exact Or.inr (Or.inr rfl)) (hd:(x == ("__debug__":Str))=false:=by decide)
  (hcd:(x == ("__classdict__":Str))=false:=by decide) (hbase:attributeBase (.Name x p1) "append" X.env (eval (.Name x p1) X.env)=eval (.Name x p1) X.env:=by rfl)
  (hfew:((backTo cpos (starEach [e] X.env)).all (fun x=>!x.1) && (backToKw cpos (keywordEach [] X.env)).all (fun x=>x.1.isSome) && decide ([e].length+([]:List Keyword).length+(if ([]:List Keyword).isEmpty then 0 else 1) < 30))=true:=by rfl)
  (hline:(apos.endLine == cpos.line)=true:=by rfl) (hs:starEach [e] X.env=(false,eval e X.env)::starEach [] X.env:=by rfl) (hplain:(backTo cpos (starEach [] X.env)).any (·.1)=false:=by rfl):
  PE X (.Call (.Attribute (.Name x p1) "append" apos) [e] [] cpos) (alq X.prog X.w X.K i (Z1 i fa)):=by
 with_unfolding_all
  intro pins s σ H Q I ⟨Hs,ρ,d',E,hg,k⟩
  obtain ⟨ds,d,q1,q2,hn,hl,rfl⟩:=ahB hg
  obtain ⟨a,xs,g2,g3,g4,g5,env⟩:=E.opnL (qI q1)
  have hlen:=g5.length
  have W:=ag7 (X:=X) (cpos:=cpos) (apos:=apos) PySem.F.plainAttrs_list PySem.F.slot_list_append PySem.F.type_list_append abv (aam hN hv hd hcd) (ze h JR hs) hbase hfew hline hs hplain
  refine thn (W pins s σ (upd H a (.lst xs)) (fun v H4=>∃ H3 y,v= .non/\H4=upd H3 a (.lst (xs++[y]))/\jr (upd H a (.lst xs)) H3/\Rep X.K H3 d y) (Inv.opened I (.l xs) g4)
   ⟨.ref a,g2,.inl ⟨rfl,_,SqL.of jp⟩,ρ,d,env,q2,fun y H3 s3 r3=>⟨a,xs,y,rfl,rfl,s3 _ _ jp,by rw [hlen]; exact QF hl,H3,y,rfl,rfl,s3,r3⟩⟩) fun u s1 ⟨v,H4,I4,r,H3,y,e1,e2,s3,r3⟩=>?_
  subst e1
  have e4:H4 a=some (.lst (xs++[y])):=by rw [e2]; exact jp
  have sb:∀ b u,b ≠ a->H b=some u->H4 b=some u:=fun b u n q=>by rw [e2,jn n]; exact s3 b u (by rw [jn n]; exact q)
  refine ⟨.non,upd H4 a (JN a (xs++[y])),Inv.closed I4 (.l _) e4 (Inv.nofrz I g4),r,k _ (E.put (qI q1) g2 g3 g4 sb ⟨xs++[y],jp,?_⟩)⟩
  have s5:jC H (upd H4 a (JN a (xs++[y]))):=fun b u q m=>by
   have:b ≠ a:=fun z=>by subst z; rw [g4] at q; cases q; exact m _ rfl
   rw [jn this]; exact sb b u this q
  have s6:qW H3 (upd H4 a (JN a (xs++[y]))):=fun b u q m=>by
   have e3:H3 a=some (.lst xs):=s3 _ _ jp
   have:b ≠ a:=fun z=>by subst z; rw [e3] at q; cases q; exact m _ rfl
   rw [jn this,e2,jn this]; exact q
  exact (Reps.monoE s5 _ _ g5).append ⟨y,[],rfl,Rep.monoN s6 _ _ hn r3,rfl⟩
end
section
variable {X:Cx}{e a b c tg src:Expr}{es:List Expr}{st:Stmt}{sts qq body:List Stmt}{fa fb fc:Rho->Option PyData}{F G:Rho->Option Out}{pos:Pos}
@[irreducible] noncomputable def PN (X:Cx) (e:Expr) (f:Rho->Option PyData):Prop:=
 PE X e fun σ H Q=>∃ ρ d,EnvR X.K H ρ σ/\f ρ=some d/\∀ a H',jr H H'->H a=none->QR X.prog X.w X.K H' a d->Q (.ref a) H'
theorem aej {fr:Rho->Option (List PyData)} (h:PAD X es fr):PN X (.List es pos) (JU fr):=by
 with_unfolding_all
  intro pins s σ H Q I ⟨ρ,d,en,hf,k⟩
  cases h1:fr ρ with
  | none=>simp [JU,h1] at hf
  | some ds=>
   by_cases hfew:few ds=true
   ·have:PyData.list ds=d:=by simpa [JU,h1,hfew] using hf
    subst this
    refine thn (ad6 h pins s σ H (fun v H2=>∃ a xs H1,v= .ref a/\H1 a=none/\jr H H1/\H2=upd H1 a (.lst xs)/\Reps X.K H1 ds xs) I ⟨ρ,ds,en,h1,fun vs H1 s1 r1=>⟨by rw [r1.length]; exact aax (by simpa [few] using hfew),fun l hl=>⟨l,vs,H1,rfl,hl,s1,rfl,r1⟩⟩⟩) fun u s1 ⟨v,H2,I2,r,a,xs,H1,e1,e2,s1',e3,r1⟩=>?_
    subst e1
    have e4:H2 a=some (.lst xs):=by rw [e3]; exact jp
    have e5:upd H2 a (JN a xs)=upd H1 a (JN a xs):=by rw [e3,Qi]
    have s2:jr H1 (upd H2 a (JN a xs)):=by rw [e5]; exact jx e2
    exact ⟨.ref a,_,Inv.closed I2 (.l xs) e4 (fun ob u z=>by have:=I.base.frzs _ _ _ z; rw [s1'.free e2] at this; cases this),r,k a _ (s1'.trans s2) (s1'.free e2) ⟨xs,jp,Reps.mono s2 _ _ r1⟩⟩
   ·simp [JU,h1,hfew] at hf
theorem ahC:PN X (.Dict [] [] pos) (cst (.dict [(.none,.none)])):=by
 with_unfolding_all
  intro pins s σ H Q I ⟨ρ,d,en,hf,k⟩
  cases hf
  refine thn (ahc pins s σ H (fun v H2=>∃ a,v= .ref a/\H a=none/\H2=upd H a (.dK [])) I (fun l hl=>⟨l,rfl,hl,rfl⟩)) fun u s1 ⟨v,H2,I2,r,a,e1,e2,e3⟩=>?_
  subst e1
  have e4:H2 a=some (.dK []):=by rw [e3]; exact jp
  obtain ⟨ob,I3⟩:=Inv.sealedD I2 e4
  have s2:jr H (upd H2 a (ZQ X.prog X.w a ob [])):=by rw [e3,Qi]; exact jx e2
  exact ⟨.ref a,_,I3,r,k a _ s2 e2 ⟨[],[],ob,rfl,jp,rfl⟩⟩
noncomputable def QG (i:Nat) (f:Rho->Option PyData) (G:Rho->Option Out):Rho->Option Out:=fun ρ=>(f ρ).bind fun d=>if i < ρ.length then (G (ρ.set i (some d))).bind fun o=>match o with
  | .rt c=>some (.rt c)
  | _=>none
 else none
theorem QV (i:Nat) {x:Str}{pos':Pos} (hN:X.N.Nodup) (he:PN X e fa) (h:abd X (some i) qq G) (hi:X.N[i]?=some x:=by rfl) (hx:Loc X.env.scope x:=by first | exact Or.inl rfl | exact Or.inr rfl) (hs:swapsWith e (some (.Name x pos')) pos.line X.env=pure false:=by rfl)
  (hf:X.fn x=true ∨ X.env.scope.names.lookup x=some .local:=by first | exact .inl rfl | exact .inr rfl | assumption):abd X none (.Assign [.Name x pos'] e pos::qq) (QG i fa G):=by
 with_unfolding_all
  refine PSs.imp (JQ (ab8 hN hi hx he hs hf) h) fun D σ H ⟨Hs,ρ,o,E,q,k⟩=>?_
  cases h1:fa ρ with
  | none=>simp [QG,h1] at q
  | some d=>
   by_cases hl:i < ρ.length
   ·cases h2:G (ρ.set i (some d)) with
    | none=>simp [QG,h1,h2] at q
    | some p=>
     cases p with
     | rt c=>
      have:Out.rt c=o:=by simpa [QG,h1,h2,hl] using q
      subst this
      refine ⟨ρ,d,E.to,h1,fun a H' s hn ow=>⟨Hs,ρ.set i (some d),.rt c,⟨by simp [E.len],E.sm.trans s,fun j y q n=>?_,fun j n=>?_⟩,h2,k⟩⟩
      ·have hj:i ≠ j:=fun z=>n (by rw [z])
       rw [List.getElem?_set_ne hj] at q ⊢
       obtain ⟨v,g1,g2⟩:=E.pl j y q (fun z=>nomatch z)
       exact ⟨v,g1,Rep.mono s _ _ g2⟩
      ·cases n
       refine ⟨d,a,by rw [List.getElem?_set_self hl],by rw [List.getElem?_set_self (by rw [←E.len]; exact hl)],E.sm.free hn,ow⟩
     | nx _=>simp [QG,h1,h2,hl] at q
     | bk _=>simp [QG,h1,h2,hl] at q
     | ct _=>simp [QG,h1,h2,hl] at q
   ·simp [QG,h1,hl] at q
noncomputable def isI (n:Int):PyData->Bool
 | .int m=>decide (m=n)
 | _=>false
noncomputable def JO (r:List (PyData × PyData)) (n:Int):Option PyData:=(r.find? fun p=>isI n p.1).map (·.2)
noncomputable def aek (r:List (PyData × PyData)) (n:Int) (d:PyData):List (PyData × PyData):=if r.any (fun p=>isI n p.1)=true then r.map (fun p=>if isI n p.1=true then (p.1,d) else p) else r++[(.int n,d)]
theorem QW {K:PySem.W.Frag}{H:Hp} (n:Int):∀ {r:List (PyData × PyData)}{ks:List (Key × V)},RepM K H r ks->(JO r n=none/\Ju ks (Sum.inl n:Key)=none) ∨ ∃ d x,JO r n=some d/\Ju ks (Sum.inl n:Key)=some x/\Rep K H d x
 | [],ks,h=>by cases (show ks=[] from h); exact .inl ⟨rfl,rfl⟩
 | (k,d)::r,ks,⟨i,x,s,h1,h2,h3,h4⟩=>by
  subst h1; subst h2
  by_cases hn:i=n
  ·subst hn
   exact .inr ⟨d,x,by simp [JO,isI],by simp [Ju],h3⟩
  ·have e1:JO ((.int i,d)::r) n=JO r n:=by simp [JO,isI,hn,List.find?_cons]
   have e2:Ju ((Sum.inl i,x)::s) (Sum.inl n:Key)=Ju s (Sum.inl n):=by
    have:¬ (Sum.inl i:Key)=Sum.inl n:=fun z=>hn (Sum.inl.inj z)
    simp [Ju,List.find?_cons,this]
   rw [e1,e2]
   exact QW n h4
theorem RepM.any {K:PySem.W.Frag}{H:Hp} (n:Int):∀ {r:List (PyData × PyData)}{ks:List (Key × V)},RepM K H r ks->r.any (fun p=>isI n p.1)=ks.any fun kv=>decide (kv.1=(Sum.inl n:Key))
 | [],ks,h=>by cases (show ks=[] from h); rfl
 | (k,d)::r,ks,⟨i,x,s,h1,h2,h3,h4⟩=>by
  subst h1; subst h2
  rw [List.any_cons,List.any_cons,RepM.any n h4]
  congr 1
  by_cases hn:i=n
  ·subst hn; simp [isI]
  ·have:¬ (Sum.inl i:Key)=Sum.inl n:=fun z=>hn (Sum.inl.inj z)
   simp [isI,hn]
theorem RepM.repl {K:PySem.W.Frag}{H:Hp} (n:Int) {d':PyData}{x':V} (hr:Rep K H d' x'):∀ {r:List (PyData × PyData)}{ks:List (Key × V)},RepM K H r ks->
  RepM K H (r.map fun p=>if isI n p.1=true then (p.1,d') else p) (ks.map fun kv=>if kv.1=(Sum.inl n:Key) then (kv.1,x') else kv)
 | [],ks,h=>by cases (show ks=[] from h); exact rfl
 | (k,d)::r,ks,⟨i,x,s,h1,h2,h3,h4⟩=>by
  subst h1; subst h2
  by_cases hn:i=n
  ·subst hn
   have c1:isI i ((PyData.int i,d):PyData × PyData).1=true:=by simp [isI]
   rw [List.map_cons,List.map_cons,if_pos c1,if_pos rfl]
   exact ⟨i,x',_,rfl,rfl,hr,RepM.repl i hr h4⟩
  ·have c1:¬ isI n ((PyData.int i,d):PyData × PyData).1=true:=by simp [isI,hn]
   have c2:¬ ((Sum.inl i,x):Key × V).1=Sum.inl n:=fun z=>hn (Sum.inl.inj z)
   rw [List.map_cons,List.map_cons,if_neg c1,if_neg c2]
   exact ⟨i,x,_,rfl,rfl,h3,RepM.repl n hr h4⟩
theorem RepM.snoc {K:PySem.W.Frag}{H:Hp} (n:Int) {d':PyData}{x':V} (hr:Rep K H d' x'):∀ {r:List (PyData × PyData)}{ks:List (Key × V)},RepM K H r ks->RepM K H (r++[(.int n,d')]) (ks++[(Sum.inl n,x')])
 | [],ks,h=>by cases (show ks=[] from h); exact ⟨n,x',[],rfl,rfl,hr,rfl⟩
 | (k,d)::r,ks,⟨i,x,s,h1,h2,h3,h4⟩=>by
  subst h2
  exact ⟨i,x,_,h1,rfl,h3,RepM.snoc n hr h4⟩
theorem RepM.put {K:PySem.W.Frag}{H:Hp} (n:Int) {d':PyData}{x':V} (hr:Rep K H d' x') {r:List (PyData × PyData)}{ks:List (Key × V)} (h:RepM K H r ks):RepM K H (aek r n d') (Ji ks (Sum.inl n) x'):=by
 unfold aek Ji
 rw [h.any n]
 by_cases c:(ks.any fun kv=>decide (kv.1=(Sum.inl n:Key)))=true
 ·rw [if_pos c,if_pos c]; exact h.repl n hr
 ·rw [if_neg c,if_neg c]; exact h.snoc n hr
theorem RepM.length {K:PySem.W.Frag}{H:Hp}:∀ {r:List (PyData × PyData)}{ks:List (Key × V)},RepM K H r ks->ks.length=r.length
 | [],ks,h=>by cases (show ks=[] from h); rfl
 | (k,d)::r,ks,⟨i,x,s,h1,h2,h3,h4⟩=>by subst h2; simp [RepM.length h4]
noncomputable def amG (P:Program) (w:World):V->V->V->Hp->(Hp->Prop)->Prop:=fun o k v H Q=>∃ a ks ob n,o= .ref a/\k= .int n/\H a=some (ZQ P w a ob ks)/\ks.length < sizeLine/\∀ ob',Q (upd H a (ZQ P w a ob' (Ji ks (Sum.inl n) v)))
theorem ahD (hu:X.A.units+1 < cLine):al9 X (amG X.prog X.w):=by
 intro pins s σ H o k v ov iv u Q I ro rk rv ⟨a,ks,ob,n,e1,e2,h1,h2,q⟩
 subst e1; subst e2
 cases ro
 obtain ⟨t,rfl⟩:=rk
 refine af1 hu (Inv.openD I h1) (afZ.k (k:=Sum.inl n) jp h2) ⟨t,rfl⟩ rv fun s' I'=>?_
 obtain ⟨ob',I2⟩:=Inv.sealedD I' jp
 rw [Qi,Qi] at I2
 exact ⟨_,I2,q ob'⟩
noncomputable def ahE (c v k:Option PyData):Option PyData:=match c,v,k with
 | some (.dict ((.none,.none)::r)),some d,some (.int n)=>if r.length < 1000000 then some (.dict ((.none,.none)::aek r n d)) else none
 | _,_,_=>none
theorem ahF {c v k:Option PyData}{o:PyData} (h:ahE c v k=some o):∃ r d n,c=some (.dict ((.none,.none)::r))/\v=some d/\k=some (.int n)/\r.length < 1000000/\o= .dict ((.none,.none)::aek r n d):=by
 unfold ahE at h
 split at h
 ·split at h
  ·rename_i hc
   cases h
   exact ⟨_,_,_,rfl,rfl,rfl,hc,rfl⟩
  ·cases h
 ·cases h
noncomputable def agc (i:Nat) (fk fv:Rho->Option PyData):Rho->Option Out:=fun ρ=>(ahE (lkp i ρ) (brw (some i) fv ρ) (brw (some i) fk ρ)).map fun d=> .nx (ρ.set i (some d))
theorem ajB (i:Nat) {x:Str}{p1 p2:Pos}{fk fv:Rho->Option PyData} (hu:X.A.units+1 < cLine) (hk:PD X b fk) (he:PD X e fv) (hN:X.N[i]?=some x:=by rfl) (hv:Vis X.env.scope x:=by first | exact Or.inl rfl | exact Or.inr (Or.inl rfl) | exact Or.inr (Or.inr rfl))
  (hd:(x == ("__debug__":Str))=false:=by decide) (hcd:(x == ("__classdict__":Str))=false:=by decide)
  (ha:∀ v,assign (.Subscript (.Name x p1) b p2) X.env v=(do
   let ov ←holding [v] (eval (.Name x p1) X.env)
   let iv ←holding [v,ov] (eval b X.env)
   standAt p2
   holding [v,ov,iv] (setItem ov iv v)
   release [v,ov,iv] []):=by intro _; rfl)
  (hs:swapsWithSole [.Subscript (.Name x p1) b p2] e pos.line X.env=pure false:=by rfl) (hw:swappedStores [.Subscript (.Name x p1) b p2] e X.env=pure none:=by rfl)
  (h1:(assignEach [.Subscript (.Name x p1) b p2] X.env).map (·.2)=[assign (.Subscript (.Name x p1) b p2) X.env]:=by rfl):PSO X (some i) (.Assign [.Subscript (.Name x p1) b p2] e pos) (agc i fk fv):=by
 with_unfolding_all
  refine PS.imp (akQ (aei (own:=some i) he) (akO (aam hN hv hd hcd) (aei (own:=some i) hk) (ahD hu) ha) hs hw h1) fun D σ H ⟨Hs,ρ,o,E,q,k⟩=>?_
  cases hp:ahE (lkp i ρ) (brw (some i) fv ρ) (brw (some i) fk ρ) with
  | none=>simp [agc,hp] at q
  | some nw=>
   have:Out.nx (ρ.set i (some nw))=o:=by simpa [agc,hp] using q
   subst this
   obtain ⟨r,d,n,q1,q2,q3,hl,rfl⟩:=ahF hp
   refine ⟨Hs,ρ,d,E,q2,fun v H1 s1 E1 r1=>?_⟩
   obtain ⟨d0,a,g1,g2,g3,g4⟩:=E1.ow i rfl
   rw [qI q1] at g1; cases g1
   refine ⟨.ref a,g2,Hs,ρ,.int n,E1,q3,fun kv H2 s2 E2 r2=>?_⟩
   cases (show kv=V.int n from r2)
   obtain ⟨d1,a1,f1,f2,f3,f4⟩:=E2.ow i rfl
   rw [qI q1] at f1; cases f1
   rw [g2] at f2; cases f2
   obtain ⟨ks,r',ob,e1,e2,e3⟩:=f4
   cases e1
   refine ⟨a,ks,ob,n,rfl,rfl,e2,by rw [e3.length]; exact QF hl,fun ob'=>k _ _ (E2.put (qI q1) g2 f3 e2 (fun _ _ _ z=>z) ⟨_,_,ob',rfl,jp,?_⟩)⟩
   have s5:jC H2 (upd H2 a (ZQ X.prog X.w a ob' (Ji ks (Sum.inl n) v))):=jC.upd e2
   exact RepM.put n (Rep.monoE (s2.trans s5) _ _ r1) (RepM.monoE s5 _ _ e3)
end
noncomputable def zq:PyData->Option (List (PyData × PyData))
 | .dict ((.none,_)::r)=>some r
 | _=>none
theorem zU {K:PySem.W.Frag}{H:Hp}{d:PyData}{r:List (PyData × PyData)}{v:V} (h:zq d=some r) (q:Rep K H d v):∃ a ks ob,v= .ref a/\H a=some (.frz ob (.dK ks))/\RepM K H r ks:=by
 unfold zq at h
 split at h
 ·cases h
  obtain ⟨a,h1,⟨ns,h2,h3⟩ | ⟨ks,ob,h2,h3⟩ | ⟨x,h2,_⟩ | ⟨x,_,_,h2,_⟩⟩:=q
  ·cases ns with
   | nil=>cases h3
   | cons n ns=>cases h3
  ·exact ⟨a,ks,ob,h1,h2,h3⟩
  ·cases h2
  ·cases h2
 ·cases h
theorem aaE {H:Hp}{a:Addr}{ob:Obj}{ks:List (Key × V)} (h:H a=some (.frz ob (.dK ks))) (n:Int):ZY H a (.int n) (Ju ks (Sum.inl n:Key)):= .inl ⟨ks,Sum.inl n,.inr ⟨ob,h⟩,rfl,rfl⟩
section
variable {X:Cx}{e a b c tg src:Expr}{es:List Expr}{fa fb fc:Rho->Option PyData}{pos:Pos}
noncomputable def agd (p q:PyData):Option PyData:=match zq p,q with
 | some r,.int n=>JO r n
 | _,_=>none
theorem ahG (hu:X.A.units+1 < cLine) (ha:PD X a fa) (hb:PD X b fb) (hs:ak8 b:=by intro _ _; rfl):PD X (.Subscript a b pos) (op2 agd fa fb):=by
 with_unfolding_all
  refine PE.imp (ajg hu ha hb hs) fun σ H Q ⟨ρ,d,en,h,k⟩=>?_
  cases h1:fa ρ with
  | none=>simp [op2,h1] at h
  | some p=>
   cases h2:fb ρ with
   | none=>simp [op2,h1,h2] at h
   | some q=>
    have h':agd p q=some d:=by simpa [op2,h1,h2] using h
    unfold agd at h'
    split at h'
    ·rename_i r n hp
     refine ⟨ρ,p,en,h1,fun v H1 s1 r1=>⟨ρ,.int n,en.mono s1,h2,fun y H2 s2 r2=>?_⟩⟩
     cases (show y=V.int n from r2)
     obtain ⟨ad,ks,ob,e1,e2,e3⟩:=zU hp (Rep.mono s2 _ _ r1)
     rcases QW n e3 with ⟨z,_⟩ | ⟨d',x,z1,z2,z3⟩
     ·rw [z] at h'; cases h'
     ·rw [z1] at h'; cases h'
      exact ⟨ad,x,e1,by rw [←z2]; exact aaE e2 n,k x H2 (s1.trans s2) z3⟩
    ·cases h'
noncomputable def adg (p q:PyData):Option PyData:=match zq p,q with
 | some r,.int n=>some ((JO r n).getD .none)
 | _,_=>none
theorem ahH {apos cpos:Pos} (hu:X.A.units+1 < cLine) (ha:PD X a fa) (hb:PD X b fb) (m:M1 X a "get" apos b cpos:=by exact ⟨rfl,rfl,rfl,rfl⟩):PD X (.Call (.Attribute a "get" apos) [b] [] cpos) (op2 adg fa fb):=by
 with_unfolding_all
  refine PE.imp (ahe hu ha hb m) fun σ H Q ⟨ρ,d,en,h,k⟩=>?_
  cases h1:fa ρ with
  | none=>simp [op2,h1] at h
  | some p=>
   cases h2:fb ρ with
   | none=>simp [op2,h1,h2] at h
   | some q=>
    have h':adg p q=some d:=by simpa [op2,h1,h2] using h
    unfold adg at h'
    split at h'
    ·rename_i r n hp
     cases h'
     refine ⟨ρ,p,en,h1,fun v H1 s1 r1=>?_⟩
     obtain ⟨ad,ks,ob,e1,e2,e3⟩:=zU hp r1
     refine ⟨ad,e1,.inl ⟨ks,.inr ⟨ob,e2⟩⟩,ρ,.int n,en.mono s1,h2,fun y H2 s2 r2=>?_⟩
     cases (show y=V.int n from r2)
     refine ⟨_,aaE (s2 _ _ e2) n,?_⟩
     rcases QW n (RepM.mono s2 _ _ e3) with ⟨z1,z2⟩ | ⟨d',x,z1,z2,z3⟩
     ·rw [z2]; exact k _ H2 (s1.trans s2) (by rw [z1]; exact rfl)
     ·rw [z2]; exact k _ H2 (s1.trans s2) (by rw [z1]; exact z3)
    ·cases h'
noncomputable def age (neg:Bool) (q p:PyData):Option PyData:=match zq p,q with
 | some r,.int n=>some (.bool (if neg then !(JO r n).isSome else (JO r n).isSome))
 | _,_=>none
theorem ahI (hu:X.A.units+1 < cLine) (ha:PD X a fa) (hb:PD X b fb):PC X .NotIn a b (tD X.K (op2 (age true) fa fb)):=by
 with_unfolding_all
  intro pins s σ H Q I ⟨ρ,d,en,h,k⟩
  cases h1:fa ρ with
  | none=>simp [op2,h1] at h
  | some q=>
   cases h2:fb ρ with
   | none=>simp [op2,h1,h2] at h
   | some p=>
    have h':age true q p=some d:=by simpa [op2,h1,h2] using h
    unfold age at h'
    split at h'
    ·rename_i r n hp
     cases h'
     refine af2 hu ha hb pins s σ H Q I ⟨ρ,.int n,en,h1,fun v H1 s1 r1=>⟨ρ,p,en.mono s1,h2,fun y H2 s2 r2=>?_⟩⟩
     cases (show v=V.int n from r1)
     obtain ⟨ad,ks,ob,e1,e2,e3⟩:=zU hp r2
     refine ⟨ad,_,e1,aaE e2 n,k _ H2 (s1.trans s2) ?_⟩
     rcases QW n e3 with ⟨z1,z2⟩ | ⟨d',x,z1,z2,z3⟩
     ·rw [z1,z2]; rfl
     ·rw [z1,z2]; rfl
    ·cases h'
theorem agf {op:CmpOp}{f:Rho->Option PyData} (h:PC X op a b (tD X.K f)) (hm:behindInMarks op b=false:=by first | exact ad3 _ | with_unfolding_all rfl):PTD X (.Compare a [op] [b] pos) (tst f):=by
 with_unfolding_all
  refine PT.imp (akG h hm) fun σ H Q ⟨ρ,t,en,h,k⟩=>?_
  cases hd:f ρ with
  | none=>simp [tst,hd] at h
  | some d=>
   have ht:d= .bool t:=zD (by simpa [tst,hd] using h)
   subst ht
   exact ⟨ρ,_,en,hd,fun v H' s r=>⟨t,r,k H' s⟩⟩
noncomputable def Itd (d:Addr) (ob:Obj) (ks:List (Key × V)):It:=
 ⟨fun i H=>H d=some (.frz ob (.dK ks))/\i < ks.length,fun i H x H'=>H'=H/\∃ kv,ks[i]?=some kv/\x=kV kv.1,fun i H=>H d=some (.frz ob (.dK ks))/\ks.length<=i⟩
theorem agg {k:Key}{v:Value} (h:aal k v=true):jJ (kV k) v:=by
 rcases j4 h with ⟨i,t,rfl,rfl⟩ | ⟨x,t,rfl,rfl⟩
 ·exact ⟨t,rfl⟩
 ·exact ⟨t,rfl⟩
theorem ahJ {P:Program}{w:World}{H:Hp}{h:Heap}{d:Addr}{ob:Obj}{ks:List (Key × V)}{es:Array DictEntry}{ep:Nat} (ok:HOk P w H h) (e:H d=some (.frz ob (.dK ks))) (hd:ob.data= .dict es ep):∃ vs,KV ks vs/\h.DictAt (jY P w) d vs ep:=by
 obtain ⟨h0,z,nm,vs,rel,ob',es',ep',h4,h5,h6,h7⟩:=ok d _ e
 rw [h0] at h4; cases h4
 rw [hd] at h6; cases h6
 exact ⟨vs,rel,ob,es,h0,h5,hd,h7⟩
theorem agh {P:Program}{w:World}{K:PySem.W.Frag}{tg:Expr} (d it:Addr) (hne:d ≠ it) (ob:Obj) (ks:List (Key × V)) (es:Array DictEntry) (ep:Nat) (hd:ob.data= .dict es ep):Turn P w K tg (Itd d ob ks) [it] it (fun i h=>h.IsKeyIter it d i ks.length ep) where
 mem:=by simp
 obj:=fun i h st b hb=>by
  have e:b=it:=by simpa using hb
  subst e
  obtain ⟨o,e,c,d⟩:=st
  exact ⟨o,e,fun v z=>by rw [d] at z; cases z⟩
 keep:=fun i h h' st k=>st.at fun o e=>k it (by simp) o e
 item:=by
  intro X hP hw hK hc i pins s σ H E I hf st hg
  subst hP hw hK
  obtain ⟨hH,hi⟩:=hg
  obtain ⟨vs,rel,dat⟩:=ahJ I.hok hH hd
  have hl:=rel.length
  obtain ⟨f0,f1,f2,f3,f4,f5⟩:=hf it (by simp)
  have hi':i < vs.length:=by omega
  obtain ⟨⟨k,x⟩,hx⟩:∃ p,vs[i]?=some p:=⟨vs[i],by simp [hi']⟩
  rw [hl] at st
  refine wpAny_pyNext_dict_item st dat hx fun key h' hkey st' sb=>?_
  have I1:Inv X pins σ H { s with heap:=h' }:=I.turned (t':=s.toks) (fun b o hb e=>(sb.2 b hb).trans e) f0 f1 f3 f4 f5
  obtain ⟨o,e,c,dd⟩:=id st'
  rw [←hl] at st'
  have hk:(ks.map (·.1))[i]?=some k:=by rw [rel.keys,List.getElem?_map,hx]; rfl
  rw [List.getElem?_map] at hk
  cases hq:ks[i]? with
  | none=>rw [hq] at hk; cases hk
  | some kv=>
   rw [hq] at hk
   have hk':kv.1=k:=by simpa using hk
   exact ⟨key,rfl,ac1 (s:={ s with heap:=h' }) e c dd (by decide) ⟨kV k,H,I1,agg hkey,⟨rfl,kv,hq,by rw [hk']⟩,st',fun b hb=>(hf b hb).1⟩⟩
 done:=by
  intro X hP hw hK hc i pins s σ H E I hf st hg
  subst hP hw hK
  obtain ⟨hH,hi⟩:=hg
  obtain ⟨vs,rel,dat⟩:=ahJ I.hok hH hd
  have hl:=rel.length
  obtain ⟨f0,f1,f2,f3,f4,f5⟩:=hf it (by simp)
  rw [hl] at st
  exact wpAny_pyNext_dict_end (I.ok.hd hc) st dat (by simp; omega) fun h' eb=>⟨rfl,I.turned (t':=s.toks) (fun b o hb e=>eb b o hb e) f0 f1 f3 f4 f5⟩
 self:=fun _ _ _ _ _ st h=>wpAny_pyIter_keyiter st h
end
noncomputable def amH:HO->Bool
 | .lst _=>true
 | .tup _=>true
 | .frz _ _=>true
 | _=>false
noncomputable def J0 (H H':Hp):Prop:=∀ b o,H b=some o->amH o=true->H' b=some o
section
variable {K:PySem.W.Frag}{H H':Hp}
theorem J0.tup {a:Addr}{xs:List V} (e:J0 H H') (h:SqT K H a xs):SqT K H' a xs:=by
 rcases h with (h | ⟨o,h⟩) | h
 ·exact .inl (.inl (e _ _ h rfl))
 ·exact .inl (.inr ⟨o,e _ _ h rfl⟩)
 ·exact .inr h
theorem J0.sql {a:Addr}{xs:List V} (e:J0 H H') (h:SqL K H a xs):SqL K H' a xs:=by
 rcases h with (h | ⟨o,h⟩) | h
 ·exact .inl (.inl (e _ _ h rfl))
 ·exact .inl (.inr ⟨o,e _ _ h rfl⟩)
 ·exact .inr h
mutual
theorem Rep.monoA (e:J0 H H'):∀ (d:PyData) (v:V),Rep K H d v->Rep K H' d v
 | .none,v,h=>h
 | .bool _,v,h=>h
 | .int _,v,h=>h
 | .str _,v,h=>h
 | .tuple ds,v,⟨a,xs,h1,h2,h3⟩=>⟨a,xs,h1,J0.tup e h2,Reps.monoA e ds xs h3⟩
 | .list ds,v,⟨a,xs,h1,h2,h3⟩=>⟨a,xs,h1,e _ _ h2 rfl,Reps.monoA e ds xs h3⟩
 | .dict kvs,v,⟨a,h1,h2⟩=>⟨a,h1,h2.imp (fun ⟨ns,q1,q2⟩=>⟨ns,J0.sql e q1,q2⟩) fun z=>z.imp (fun ⟨ks,ob,q1,q2⟩=>⟨ks,ob,e _ _ q1 rfl,RepD.monoA e kvs ks q2⟩) fun y=>y.imp id fun ⟨x,C,oe,q1,q2,q3⟩=>⟨x,C,oe,q1,e _ _ q2 rfl,q3⟩⟩
theorem Reps.monoA (e:J0 H H'):∀ (ds:List PyData) (xs:List V),Reps K H ds xs->Reps K H' ds xs
 | [],xs,h=>h
 | d::ds,xs,⟨x,r,h1,h2,h3⟩=>⟨x,r,h1,Rep.monoA e d x h2,Reps.monoA e ds r h3⟩
theorem RepD.monoA (e:J0 H H'):∀ (kvs:List (PyData × PyData)) (ks:List (Key × V)),RepD K H kvs ks->RepD K H' kvs ks
 | [],_,h=>h
 | (.none,c)::r,ks,h=>RepM.monoA e r ks h
 | (.bool _,_)::_,_,h=>h
 | (.int _,_)::_,_,h=>h
 | (.str _,_)::_,_,h=>h
 | (.list _,_)::_,_,h=>h
 | (.tuple _,_)::_,_,h=>h
 | (.dict _,_)::_,_,h=>h
theorem RepM.monoA (e:J0 H H'):∀ (kvs:List (PyData × PyData)) (ks:List (Key × V)),RepM K H kvs ks->RepM K H' kvs ks
 | [],_,h=>h
 | (k,d)::r,ks,⟨i,x,s,h1,h2,h3,h4⟩=>⟨i,x,s,h1,h2,Rep.monoA e d x h3,RepM.monoA e r s h4⟩
end
end
section
variable {X:Cx}{e a b c tg src:Expr}{es:List Expr}{fa fb fc:Rho->Option PyData}{pos:Pos}
noncomputable def anv (K:PySem.W.Frag) (tl:TE):TI:=fun σ H R=>tl σ H fun x H1=>∃ d ob ks,x= .ref d/\H1 d=some (.frz ob (.dK ks))/\R (Itd d ob ks) H1
theorem ajC {l:Expr}{tl:TE} (hl:PE X l tl):PI X tg l (anv X.K tl):=by
 intro pins s σ H R I h
 refine thn (hl pins s σ H _ I h) fun v s1 ⟨x,H1,I1,r1,q1⟩=>?_
 obtain ⟨d,ob,ks,e,hq,q⟩:=q1
 subst e
 cases r1
 obtain ⟨h0,z,nm,vs,rel,ob',es,ep,h4,h5,h6,h7⟩:=I1.hok d _ hq
 rw [h0] at h4; cases h4
 have hl:=rel.length
 refine wpAny_pyIter_dict nm (show s1.heap.DictAt (jY X.prog X.w) d vs ep from ⟨ob,es,h0,h5,h6,h7⟩) ?_
 rw [←hl]
 refine ⟨s1.heap.objs.size,[s1.heap.objs.size],_,_,H1,rfl,I1.kept (t':=s1.toks) fun b o e=>Heap.get?_push_of_some _ e,agh d _ (Nat.ne_of_lt (Heap.lt_size h0)) ob ks es ep h6,⟨_,Heap.get?_push_size _ rfl,rfl,rfl⟩,fun b hb=>?_,q⟩
 have e:b=s1.heap.objs.size:=by simpa using hb
 subst e
 exact I1.fpOk (Nat.le_refl _) (I1.hok.fresh (Nat.le_refl _))
theorem RepM.keys {K:PySem.W.Frag}{H:Hp}:∀ {r:List (PyData × PyData)}{ks:List (Key × V)}{i:Nat}{d:PyData}{kv:Key × V},RepM K H r ks->(r.map (·.1))[i]?=some d->ks[i]?=some kv->Rep K H d (kV kv.1)
 | [],ks,i,d,kv,h,e,q=>by simp at e
 | (k,c)::r,ks,0,d,kv,⟨i,x,s,h1,h2,h3,h4⟩,e,q=>by
  subst h1; subst h2
  simp at e q
  subst e; subst q
  exact rfl
 | (k,c)::r,ks,j+1,d,kv,⟨i,x,s,h1,h2,h3,h4⟩,e,q=>by
  subst h2
  exact RepM.keys (i:=j) h4 (by simpa using e) (by simpa using q)
noncomputable def itD (fa:Rho->Option PyData):Rho->Option (List PyData):=fun ρ=>(fa ρ).bind fun d=>(zq d).map fun r=>r.map (·.1)
theorem ahK (h:PD X e fa):PID X tg e (itD fa):=by
 with_unfolding_all
  refine PI.imp (ajC h) fun σ H R ⟨ρ,ds,en,q,k⟩=>?_
  cases h1:fa ρ with
  | none=>simp [itD,h1] at q
  | some d=>
   cases h2:zq d with
   | none=>simp [itD,h1,h2] at q
   | some r=>
    have:r.map (·.1)=ds:=by simpa [itD,h1,h2] using q
    subst this
    refine ⟨ρ,_,en,h1,fun v H1 s1 r1=>?_⟩
    obtain ⟨a,ks,ob,e1,e2,e3⟩:=zU h2 r1
    have hl:=e3.length
    refine ⟨a,ob,ks,e1,e2,k _ H1 s1 fun i H2 s2=>⟨fun hi=>?_,fun hi=>?_,fun x H' y=>?_⟩⟩
    ·exact ⟨s2 _ _ e2 (fun _ z=>nomatch z),by rw [hl]; simpa using hi⟩
    ·exact ⟨s2 _ _ e2 (fun _ z=>nomatch z),by rw [hl]; simpa using hi⟩
    ·obtain ⟨z1,kv,z2,z3⟩:=y
     subst z1; subst z3
     exact ⟨jr.refl _,fun d hd=>RepM.keys (RepM.monoE s2 _ _ e3) hd z2⟩
noncomputable def agi (fa fb:Rho->Option PyData):Rho->Option PyData:=fun ρ=>(fa ρ).bind fun k=>(fb ρ).bind fun d=>match k with
 | .int n=>some (.dict [(.none,.none),(.int n,d)])
 | _=>none
theorem ahL (ha:PD X a fa) (hb:PD X b fb):PD X (.Dict [some a] [b] pos) (agi fa fb):=by
 with_unfolding_all
  intro pins s σ H Q I ⟨ρ,d,en,hf,k⟩
  cases h1:fa ρ with
  | none=>simp [agi,h1] at hf
  | some p=>
   cases h2:fb ρ with
   | none=>simp [agi,h1,h2] at hf
   | some q=>
    cases p with
    | int n=>
     have:PyData.dict [(.none,.none),(.int n,q)]=d:=by simpa [agi,h1,h2] using hf
     subst this
     have W:=aji (X:=X) (pos:=pos) (ahd ha hb ajh) rfl rfl (by simp) (by simp)
     refine thn (W pins s σ H (fun v H4=>∃ l y H3,v= .ref l/\H l=none/\H3 l=some (.dK [])/\jr (upd H l (.dK [])) H3/\Rep X.K H3 q y/\H4=upd H3 l (.dK [(Sum.inl n,y)])) I fun l hl=>?_) fun u s1 ⟨v,H4,I4,r,l,y,H3,e1,e2,e3,e4,e5,e6⟩=>?_
     ·have s0:jr H (upd H l (.dK [])):=jx hl
      refine ⟨ρ,.int n,en.mono s0,h1,fun x H1 s1 r1=>⟨ρ,q,(en.mono s0).mono s1,h2,fun y H2 s2 r2=>?_⟩⟩
      cases (show x=V.int n from r1)
      have el:H2 l=some (.dK []):=s2 _ _ (s1 _ _ jp)
      exact ⟨el,[(Sum.inl n,y)],rfl,by simp,l,y,H2,rfl,hl,el,s1.trans s2,r2,rfl⟩
     ·subst e1
      have e7:H4 l=some (.dK [(Sum.inl n,y)]):=by rw [e6]; exact jp
      obtain ⟨ob,I5⟩:=Inv.sealedD I4 e7
      have I6:=Inv.opened I5 (.d ob _) jp
      rw [Qi] at I6
      have sA:J0 H3 (upd H4 l (.frz ob (.dK [(Sum.inl n,y)]))):=fun b o z dt=>by
       have:b ≠ l:=fun m=>by subst m; rw [e3] at z; cases z; cases dt
       rw [jn this,e6,jn this]; exact z
      have sH:jr H (upd H4 l (.frz ob (.dK [(Sum.inl n,y)]))):=fun b o z=>by
       have:b ≠ l:=fun m=>by subst m; rw [e2] at z; cases z
       rw [jn this,e6,jn this]; exact e4 b o (by rw [jn this]; exact z)
      exact ⟨.ref l,_,I6,r,k _ _ sH ⟨l,rfl,.inr (.inl ⟨_,ob,jp,show RepM X.K _ [(.int n,q)] _ from ⟨n,y,[],rfl,rfl,Rep.monoA sA _ _ e5,rfl⟩⟩)⟩⟩
    | _=>simp [agi,h1,h2] at hf
end
end BX
end
section
namespace BX
open PySem PySem.Spec L2
theorem adh (l:Addr) (items:Array Value) (n:Nat) (u:Tok) (dd:Option Addr) (sl:Array (Option Value)):
  Meets (Builtin.«tuple.__mul__» ⟨[.ref l,.int 1 u],[]⟩) (fun _ R s=>s.heap.get? l=some { cls:= .type "tuple",dict:=dd,data:= .seq items n,slots:=sl }/\R (.ok (.ret (.ref l))) s):=
 .of_wp fun prog w A R s h=>by
  obtain ⟨hp,g,d,tk,os⟩:=s
  obtain ⟨hl,h⟩:=h
  have e1:(items.isEmpty || (1:Int) == 1)=true:=by simp
  wp_walk
  exact ⟨_,rfl,h⟩
theorem adi (l:Addr) (items:Array Value) (n:Nat) (x:Int) (u:Tok) (dd:Option Addr) (sl:Array (Option Value)) (hx:x<=0) (hx2:-(2 ^ 63)<=x) (hi:items.isEmpty=false):
  Meets (Builtin.«tuple.__mul__» ⟨[.ref l,.int x u],[]⟩) (fun _ R s=>s.heap.get? l=some { cls:= .type "tuple",dict:=dd,data:= .seq items n,slots:=sl }/\R (.ok (.ret (.ref s.heap.objs.size))) { s with heap:=s.heap.push { cls:= .type "tuple",data:= .seq #[] } }):=
 .of_wp fun prog w A R s h=>by
  obtain ⟨hp,g,d,tk,os⟩:=s
  obtain ⟨hl,h⟩:=h
  have e0:(decide (x < -(2 ^ 63)) || decide (x >= 2 ^ 63))=false:=by simp; omega
  have e1:(items.isEmpty || x == 1)=false:=by rw [hi]; simp; omega
  have e2:(decide (x<=0) || items.isEmpty)=true:=by simp [hx]
  wp_walk
  refine wpAny_ite_false (by rw [e0]; rfl) ?_
  wp_walk
  refine wpAny_ite_false (by rw [e1]; rfl) ?_
  wp_walk
  exact ⟨_,rfl,h⟩
theorem adj (l:Addr) (items:Array Value) (n:Nat) (x:Int) (u:Tok) (dd:Option Addr) (sl:Array (Option Value)) (hx:2<=x) (hx2:x < 2 ^ 63) (hi:items.isEmpty=false) (hz:(items.size:Int)*x<=sizeLine) (hsz:(List.foldl (fun x1 x2=>x1++x2) #[] (List.replicate x.toNat items)).size<=sizeLine):
  Meets (Builtin.«tuple.__mul__» ⟨[.ref l,.int x u],[]⟩) (fun _ R s=>s.heap.get? l=some { cls:= .type "tuple",dict:=dd,data:= .seq items n,slots:=sl }/\R (.ok (.ret (.ref s.heap.objs.size))) { s with heap:=s.heap.push { cls:= .type "tuple",data:= .seq (List.foldl (fun x1 x2=>x1++x2) #[] (List.replicate x.toNat items)) } }):=
 .of_wp fun prog w A R s h=>by
  obtain ⟨hp,g,d,tk,os⟩:=s
  obtain ⟨hl,h⟩:=h
  have hs:((2 ^ 63 - 1) / 8:Int) >= (sizeLine:Int):=by rw [sizeLine_eq]; decide
  have e0:(decide (x < -(2 ^ 63)) || decide (x >= 2 ^ 63))=false:=by simp; omega
  have e1:(items.isEmpty || x == 1)=false:=by rw [hi]; simp; omega
  have e2:(decide (x<=0) || items.isEmpty)=false:=by rw [hi]; simp; omega
  have e3:¬ (items.size:Int)*x > (2 ^ 63 - 1) / 8:=by omega
  have e4:Builtin.Tuple.tupleTooMany ((items.size:Int)*x)=false:=by simp [Builtin.Tuple.tupleTooMany]; omega
  wp_walk
  refine wpAny_ite_false (by rw [e0]; rfl) ?_
  wp_walk
  refine wpAny_ite_false (by rw [e1]; rfl) ?_
  wp_walk
  refine wpAny_ite_false (by rw [e2]; rfl) ?_
  wp_walk
  rw [if_neg e3]
  refine wpAny_ite_false (by rw [e4]; rfl) ?_
  wp_walk
  exact ⟨_,rfl,h⟩
theorem Zv:fillsNumberSlot (.type "tuple") "mul"=pure false:=
 PySem.fillsNumberSlot_seq (id:="tuple.__mul__") (r:=some (.builtin "tuple.__rmul__")) F.slot_tuple_mul.lookup (by decide +kernel) F.slot_tuple_rmul.lookup (by decide +kernel)
theorem acp:seqRepeat? (.type "tuple")=pure (some (.builtin "tuple.__mul__")):=by
 unfold seqRepeat?
 rw [PySem.seqSlot_of (T:="tuple") (name:="__mul__") (id:="tuple.__mul__") F.slot_tuple_mul.lookup (by decide +kernel),PySem.seqSlot_of (T:="tuple") (name:="__rmul__") (id:="tuple.__rmul__") F.slot_tuple_rmul.lookup (by decide +kernel)]
 rfl
theorem aaF (a:Int) (t:Tok) (l:Addr) (items:Array Value) (n:Nat) (dd:Option Addr) (sl:Array (Option Value)):
  Meets (Builtin.«int.__rmul__» ⟨[.int a t,.ref l],[]⟩) (fun _ R s=>s.heap.get? l=some { cls:= .type "tuple",dict:=dd,data:= .seq items n,slots:=sl }/\R (.ok (.ret Value.notImplemented)) s):=
 .of_wp fun prog w A R s h=>by
  obtain ⟨hp,g,d,tk,os⟩:=s; obtain ⟨hl,h⟩:=h
  wp_walk
  exact ⟨_,rfl,h⟩
section
open PyProof.Rows hiding St
variable {X:Cx}{e a b c tg src:Expr}{es:List Expr}{fa fb fc:Rho->Option PyData}{pos:Pos}{qq:List Expr}
noncomputable def amI (K:PySem.W.Frag):R2:=fun x y H Q=>∃ l k xs,x= .ref l/\y= .int k/\SqT K H l xs/\0 < xs.length/\-(2 ^ 63)<=k/\k < 2 ^ 63/\(xs.length:Int)*k<=sizeLine/\
 (∀ p,H p=none->Q (.ref p) (upd H p (.tup (List.replicate k.toNat xs).flatten)))/\(k=1->Q (.ref l) H)
theorem ajD:OpR X (binaryOp .Mult) (amI X.K):=by
 intro pins s σ H x y v u Q I rx ry h
 obtain ⟨l,k,xs,rfl,rfl,hH,hne,h1,h2,hz,q,q1⟩:=h
 cases rx
 obtain ⟨t,rfl⟩:=ry
 obtain ⟨its,r,⟨⟨oc,od,odt,osl⟩,e,c,n,d⟩,hlz⟩:=I.tuple hH
 have hl:=r.length
 cases c
 cases (show odt=_ from d)
 have hi:its.toArray.isEmpty=false:=by
  cases its with
  | nil=>rw [hl] at hne; simp at hne
  | cons a r'=>simp
 refine wpAny_binaryOp_repeat_ref (T:="tuple") (U:="int") (by decide) ⟨_,e,rfl⟩ (fun s'=>typeIs_int s' k t) Zv F.fills_int_mul F.slot_int_rmul acp F.slot_int_index.lookup
  (call_meets F.slot_int_rmul (typeIs_int s k t) F.entry_int_rmul (F.args_int_rmul_2 _ _) (aaF k t l its.toArray n od osl) ⟨e,rfl,⟨_,e,rfl⟩,?_⟩)
 have fresh:∀ {ys:List V} {jts:List Value},jF ys jts->ys.length<=sizeLine->Inv X pins σ (upd H s.heap.objs.size (.tup ys)) { s with heap:=s.heap.push { cls:= .type "tuple",data:= .seq jts.toArray } }:=fun {ys jts} rv hy=>
  I.laid (t':=s.toks) (fun b o e=>Heap.get?_push_of_some _ e) (Nat.le_refl _) (show qt X.prog X.w _ _ _ (.tup ys) from ⟨hy,jts,rv,IsTup.new _ _⟩)
 by_cases k1:k=1
 ·subst k1
  exact call_meets F.slot_tuple_mul ⟨_,e,rfl⟩ F.entry_tuple_mul (F.args_tuple_mul_2 _ _) (adh l its.toArray n t od osl) ⟨e,.ref l,H,I,rfl,q1 rfl⟩
 ·by_cases k0:k<=0
  ·have hk:k.toNat=0:=by omega
   refine call_meets F.slot_tuple_mul ⟨_,e,rfl⟩ F.entry_tuple_mul (F.args_tuple_mul_2 _ _) (adi l its.toArray n k t od osl k0 h1 hi) ⟨e,.ref _,_,fresh (ys:=[]) (jts:=[]) .nil (Nat.zero_le _),rfl,?_⟩
   have:=q _ (I.hok.fresh (Nat.le_refl _))
   rw [hk] at this
   exact this
  ·have hnew:List.foldl (fun x1 x2=>x1++x2) #[] (List.replicate k.toNat its.toArray)=(List.replicate k.toNat its).flatten.toArray:=by
    have:=Zm its k.toNat []
    rw [List.nil_append] at this
    exact this
   have hlen:((List.replicate k.toNat xs).flatten.length:Int)=xs.length*k:=by
    rw [ae3,Int.natCast_mul,Int.mul_comm,Int.toNat_of_nonneg (by omega)]
   have hlen2:(List.replicate k.toNat xs).flatten.length<=sizeLine:=by omega
   have hl2:=(r.rep k.toNat).length
   refine call_meets F.slot_tuple_mul ⟨_,e,rfl⟩ F.entry_tuple_mul (F.args_tuple_mul_2 _ _) (adj l its.toArray n k t od osl (by omega) h2 hi (by rw [List.size_toArray,←hl]; exact hz) (by rw [hnew,List.size_toArray,←hl2]; exact hlen2)) ⟨e,?_⟩
   rw [hnew]
   exact ⟨.ref _,_,fresh (r.rep k.toNat) hlen2,rfl,q _ (I.hok.fresh (Nat.le_refl _))⟩
end
end BX
end
section
namespace BX
open PySem PySem.Spec L2
open PyProof.Rows hiding St
section
variable {X:Cx}{e a b c tg src:Expr}{es:List Expr}{fa fb fc:Rho->Option PyData}{pos:Pos}{qq:List Expr}
noncomputable def ahM (p q:PyData):Option PyData:=match p,q with
 | .tuple ds,.int k=>if 0 < ds.length/\ds.length < 1000/\-1000 < k/\k < 1000 then some (.tuple (List.replicate k.toNat ds).flatten) else none
 | _,_=>none
theorem ahN:OpD X (binaryOp .Mult) ahM:=by
 refine ⟨_,ajD,fun p q d x y H Q h rx ry k=>?_⟩
 unfold ahM at h
 split at h
 ·rename_i ds n
  split at h
  ·rename_i hc
   cases h
   obtain ⟨a,us,e1,e2,e3⟩:=rx
   cases (show y=V.int n from ry)
   have hl:=e3.length
   have hz:(us.length:Int)*n<=1000000:=by
    have h1:(us.length:Int)*n<=us.length*1000:=Int.mul_le_mul_of_nonneg_left (by omega) (by omega)
    omega
   refine ⟨a,n,us,e1,rfl,e2,by omega,by omega,by omega,Int.le_trans hz (by rw [sizeLine_eq]; decide),fun p hp=>?_,fun h1=>?_⟩
   ·have s1:=jx (o:= .tup (List.replicate n.toNat us).flatten) hp
    exact k _ _ s1 ⟨p,_,rfl,SqT.of jp,Reps.mono s1 _ _ (e3.rep _)⟩
   ·subst h1
    refine k _ H (jr.refl H) ⟨a,us,rfl,e2,?_⟩
    simpa using e3
  ·cases h
 ·cases h
noncomputable def amJ (lo:Int) (n:Nat):It:=⟨fun i _=>i < n,fun i H x H'=>H'=H/\x= .int (lo - i),fun i _=>n<=i⟩
theorem adk {P:Program}{w:World}{K:PySem.W.Frag}{tg:Expr} (it:Addr) (lo:Int) (n:Nat):Turn P w K tg (amJ lo n) [it] it (fun i h=>IsRangeIter h it (lo+(i:Nat)*(-1)) ((n:Int) - (i:Nat)) (-1)) where
 mem:=by simp
 obj:=fun i h st b hb=>by
  have e:b=it:=by simpa using hb
  subst e
  exact ⟨_,st,fun v z=>by
   have z':Data.fields _=Data.cell v:=z
   cases z'⟩
 keep:=fun i h h' st k=>k it (by simp) _ st
 item:=by
  intro X hP hw hK hc i pins s σ H E I hf st hg
  subst hP hw hK
  obtain ⟨f0,f1,f2,f3,f4,f5⟩:=hf it (by simp)
  have W:=Walks.range (prog:=X.prog) (w:=X.w) (I.ok.hd hc) it lo (-1) n
  refine W.item i s _ _ hg st fun v h' tk hv st' kk=>?_
  obtain ⟨t,rfl⟩:=hv
  have I1:Inv X pins σ H { s with heap:=h',toks:=tk }:=I.turned (fun b o hb e=>kk b o (by simpa using hb) e) f0 f1 f3 f4 f5
  refine ⟨_,rfl,ac1 (s:={ s with heap:=h',toks:=tk }) (n:="range_iterator") st' rfl rfl (by decide) ⟨.int (lo - i),H,I1,⟨t,?_⟩,⟨rfl,rfl⟩,st',fun b hb=>(hf b hb).1⟩⟩
  congr 1
  omega
 done:=by
  intro X hP hw hK hc i pins s σ H E I hf st hg
  subst hP hw hK
  obtain ⟨f0,f1,f2,f3,f4,f5⟩:=hf it (by simp)
  exact wpAny_pyNext_range_end (I.ok.hd hc) st (by have:n<=i:=hg; omega) fun h' eb=>⟨rfl,I.turned (t':=s.toks) (fun b o hb e=>eb b o hb e) f0 f1 f3 f4 f5⟩
 self:=fun _ _ _ _ _ st h=>wpAny_pyIter_rangeiter st h
theorem J1 (a b:Int):Builtin.Range.rangeSize a b (-1)=if a > b then a - b else 0:=by
 unfold Builtin.Range.rangeSize
 simp only [show ¬ (-1:Int) > 0 by decide,zzN,Int.neg_neg,Int.ediv_one]
 split <;> omega
theorem ael {a b:Int} (ha:-1000000<=a) (ha':a < 1000000) (hb:-1000000<=b) (hb':b < 1000000):Builtin.Range.small a b (-1)=true:=by
 unfold Builtin.Range.small
 rw [J1]
 simp only [Builtin.Range.rangeFitsLong,Bool.and_eq_true,Bool.or_eq_true,decide_eq_true_eq,beq_iff_eq,show ¬ (-1:Int) > 0 by decide,zzN]
 split <;> omega
noncomputable def amK (ta:TA):TI:=fun σ H R=>ta σ H fun vs H1=>∃ i j:Int,vs=[.int i,.int j,.int (-1)]/\(-1000000<=i/\i < 1000000/\-1000000<=j/\j < 1000000)/\R (amJ i (i - j).toNat) H1
theorem agj {ta:TA}{p pos:Pos} (hg:Gl X "range") (hm:X.mg "range"=none) (ha:PA X [a,b,c] ta) (hs:starEach [a,b,c] X.env=[(false,eval a X.env),(false,eval b X.env),(false,eval c X.env)]:=by rfl) (hs2:starEach [b,c] X.env=[(false,eval b X.env),(false,eval c X.env)]:=by rfl):
  PI X tg (.Call (.Name "range" p) [a,b,c] [] pos) (amK ta):=by
 intro pins s σ H R I h
 refine Call_ (JP I hg hm boot_range (PyProof.Rows.callWith_type1 (thn (ha pos pins s σ H _ I h) fun us s1 ⟨vs,H1,I1,r1,q1⟩=>?_) (by rw [hs,hs2]) (by rw [hs2]; rfl)))
 obtain ⟨i,j,e,⟨q1,q2,q3,q4⟩,q⟩:=q1
 subst e
 cases r1 with
 | cons r rr=>
  cases rr with
  | cons r' rr=>
   cases rr with
   | cons r'' rr=>
    cases rr
    obtain ⟨t,rfl⟩:=r
    obtain ⟨t',rfl⟩:=r'
    obtain ⟨t'',rfl⟩:=r''
    refine PySem.call_range_3 (by decide) ?_ (Or.inl (PyProof.noPylong_small (by decide)))
    refine wpAny_pyIter_range (IsRange.new ..) (ael q1 q2 q3 q4) ?_
    have I2:Inv X pins σ H1 { s1 with heap:=s1.heap.push { cls:= .type "range",data:= .fields #[.int i t,.int j t',.int (-1) t''] },toks:=s1.toks }:=I1.kept fun b o e=>Heap.get?_push_of_some _ e
    refine ⟨(s1.heap.push { cls:= .type "range",data:= .fields #[.int i t,.int j t',.int (-1) t''] }).objs.size,[(s1.heap.push { cls:= .type "range",data:= .fields #[.int i t,.int j t',.int (-1) t''] }).objs.size],_,_,H1,rfl,
     I2.kept (t':=s1.toks) fun b o e=>Heap.get?_push_of_some _ e,adk _ i (i - j).toNat,?_,fun b hb=>?_,q⟩
    ·have e1:i+((0:Nat):Int)*(-1)=i:=by simp
     have e2:(((i - j).toNat:Nat):Int) - ((0:Nat):Int)=Builtin.Range.rangeSize i j (-1):=by rw [J1]; split <;> omega
     show IsRangeIter _ _ (i+((0:Nat):Int)*(-1)) ((((i - j).toNat:Nat):Int) - ((0:Nat):Int)) (-1)
     rw [e1,e2]
     exact Heap.get?_push_size _ rfl
    ·have e:b=(s1.heap.push { cls:= .type "range",data:= .fields #[.int i t,.int j t',.int (-1) t''] }).objs.size:=by simpa using hb
     subst e
     exact I2.fpOk (Nat.le_refl _) (I2.hok.fresh (Nat.le_refl _))
noncomputable def afd (lo:Int) (n:Nat):List PyData:=(List.range n).map fun (k:Nat)=>PyData.int (lo - (k:Int))
noncomputable def ahO (ds:List PyData):Option (List PyData):=match ds with
 | [.int i,.int j,.int c]=>if c=-1/\-1000000<=i/\i < 1000000/\-1000000<=j/\j < 1000000 then some (afd i (i - j).toNat) else none
 | _=>none
theorem aem {p pos:Pos}{fr:Rho->Option (List PyData)} (hg:Gl X "range") (hm:X.mg "range"=none) (ha:PAD X [a,b,c] fr) (hs:starEach [a,b,c] X.env=[(false,eval a X.env),(false,eval b X.env),(false,eval c X.env)]:=by rfl) (hs2:starEach [b,c] X.env=[(false,eval b X.env),(false,eval c X.env)]:=by rfl):
  PID X tg (.Call (.Name "range" p) [a,b,c] [] pos) (fun ρ=>(fr ρ).bind ahO):=by
 with_unfolding_all
  refine PI.imp (agj hg hm ha hs hs2) fun σ H R ⟨ρ,ds,en,q,k⟩=>?_
  cases h1:fr ρ with
  | none=>simp [h1] at q
  | some as=>
   have q':ahO as=some ds:=by simpa [h1] using q
   refine ⟨ρ,as,en,h1,fun vs H1 s1 r1=>?_⟩
   unfold ahO at q'
   split at q'
   ·rename_i i j cc
    split at q'
    ·rename_i hj
     cases q'
     obtain ⟨rfl,hj⟩:=hj
     obtain ⟨x,r,e1,e2,y,r',e3,e4,z,r'',e5,e6,e7⟩:=r1
     cases (show x=V.int i from e2)
     cases (show y=V.int j from e4)
     cases (show z=V.int (-1) from e6)
     cases (show r''=[] from e7)
     subst e5; subst e3
     refine ⟨i,j,e1,hj,k _ H1 s1 fun n H2 s2=>?_⟩
     have hl:(afd i (i - j).toNat).length=(i - j).toNat:=by simp [afd]
     refine ⟨fun hi=>by rw [hl] at hi; exact hi,fun hi=>by rw [hl] at hi; exact hi,fun x H' y=>?_⟩
     obtain ⟨z1,z2⟩:=y
     subst z1
     refine ⟨jr.refl _,fun d hd=>?_⟩
     have hi:n < (i - j).toNat:=by
      have:=(List.getElem?_eq_some_iff.mp hd).1
      rw [hl] at this; exact this
     have:d= .int (i - n):=by
      simp [afd,hi] at hd
      exact hd.symm
     subst this
     exact z2
    ·cases q'
   ·cases q'
noncomputable def aaG (fa fb:Rho->Option PyData):Rho->Option PyData:=fun ρ=>(fa ρ).bind fun x=>(asB x).bind fun t=>if t=true then fb ρ else some (.bool false)
theorem aen {op:BoolOp} (ha:PD X a fa):PD X (.BoolOp op [a] pos) fa:=by
 with_unfolding_all exact (akL ha)
theorem aeo (ha:PD X a fa) (hb:PD X (.BoolOp .And (b::qq) pos) fb):PD X (.BoolOp .And (a::b::qq) pos) (aaG fa fb):=by
 with_unfolding_all
  refine PE.imp (akM ha hb) fun σ H Q ⟨ρ,d,en,h,k⟩=>?_
  cases h1:fa ρ with
  | none=>simp [aaG,h1] at h
  | some x=>
   cases h2:asB x with
   | none=>simp [aaG,h1,h2] at h
   | some t=>
    have hx:=zD h2
    subst hx
    refine ⟨ρ,_,en,h1,fun v H1 s1 r1=>⟨t,r1,?_⟩⟩
    cases t with
    | true=>rw [if_pos rfl]; exact ⟨ρ,d,en.mono s1,by simpa [aaG,h1,h2] using h,fun v H2 s2 r2=>k v H2 (s1.trans s2) r2⟩
    | false=>
     rw [if_neg Bool.false_ne_true]
     have:PyData.bool false=d:=by simpa [aaG,h1,h2] using h
     subst this
     exact k _ H1 s1 rfl
noncomputable def ajE:PyData->Bool
 | .none=>true
 | _=>false
theorem ahP {K:PySem.W.Frag}{H:Hp}{p:PyData}{x:V} (r:Rep K H p x):decide (x= .non)=ajE p:=by
 cases p with
 | none=>cases (show x= .non from r); rfl
 | bool b=>cases (show x=_ from r); rfl
 | int b=>cases (show x=_ from r); rfl
 | str b=>cases (show x=_ from r); rfl
 | tuple ds=>obtain ⟨a,xs,h,_⟩:=r; subst h; rfl
 | list ds=>obtain ⟨a,xs,h,_⟩:=r; subst h; rfl
 | dict ds=>obtain ⟨a,h,_⟩:=r; subst h; rfl
noncomputable def alr (p q:PyData):Option PyData:=match q with
 | .none=>some (.bool (ajE p))
 | _=>none
theorem ajF:OpD X (compareOp .Is) alr:=by
 refine ⟨_,ak1,fun p q d x y H Q h rx ry k=>?_⟩
 unfold alr at h
 split at h
 ·cases h
  exact ⟨ry,by rw [ahP rx]; exact k _ H (jr.refl H) rfl⟩
 ·cases h
end
section
variable {X:Cx}{e a b c tg src:Expr}{es:List Expr}{fa fb fc:Rho->Option PyData}{pos:Pos}
noncomputable def ahQ (c d:Option PyData):Option PyData:=match c,d with
 | some (.list ds),some (.list es)=>if noLs es=true/\ds.length+es.length < 1000000 then some (.list (ds++es)) else none
 | _,_=>none
noncomputable def abe (i:Nat) (fa:Rho->Option PyData):Rho->Option PyData:=fun ρ=>ahQ (lkp i ρ) (fa ρ)
theorem ahR {c d:Option PyData}{r:PyData} (h:ahQ c d=some r):∃ ds es,c=some (.list ds)/\d=some (.list es)/\noLs es=true/\ds.length+es.length < 1000000/\r= .list (ds++es):=by
 unfold ahQ at h
 split at h
 ·split at h
  ·rename_i hc
   cases h
   exact ⟨_,_,rfl,rfl,hc.1,hc.2,rfl⟩
  ·cases h
 ·cases h
theorem abI (i:Nat) {x:Str}{p1 apos cpos:Pos} (h:PD X e fa) (hN:X.N[i]?=some x:=by rfl) (hv:Vis X.env.scope x:=by first | exact Or.inl rfl | exact Or.inr (Or.inl rfl) | exact Or.inr (Or.inr rfl)) (hd:(x == ("__debug__":Str))=false:=by decide)
  (hcd:(x == ("__classdict__":Str))=false:=by decide) (hbase:attributeBase (.Name x p1) "extend" X.env (eval (.Name x p1) X.env)=eval (.Name x p1) X.env:=by rfl)
  (hfew:((backTo cpos (starEach [e] X.env)).all (fun x=>!x.1) && (backToKw cpos (keywordEach [] X.env)).all (fun x=>x.1.isSome) && decide ([e].length+([]:List Keyword).length+(if ([]:List Keyword).isEmpty then 0 else 1) < 30))=true:=by rfl)
  (hline:(apos.endLine == cpos.line)=true:=by rfl) (hs:starEach [e] X.env=(false,eval e X.env)::starEach [] X.env:=by rfl) (hplain:(backTo cpos (starEach [] X.env)).any (·.1)=false:=by rfl):
  PE X (.Call (.Attribute (.Name x p1) "extend" apos) [e] [] cpos) (alq X.prog X.w X.K i (abe i fa)):=by
 with_unfolding_all
  intro pins s σ H Q I ⟨Hs,ρ,d',E,hg,k⟩
  obtain ⟨ds,es,q1,q2,hn,hl,rfl⟩:=ahR hg
  obtain ⟨a,xs,g2,g3,g4,g5,env⟩:=E.opnL (qI q1)
  have hlen:=g5.length
  have W:=ag7 (X:=X) (cpos:=cpos) (apos:=apos) PySem.F.plainAttrs_list PySem.F.slot_list_extend PySem.F.type_list_extend afW (aam hN hv hd hcd) (ze h JR hs) hbase hfew hline hs hplain
  refine thn (W pins s σ (upd H a (.lst xs)) (fun v H4=>∃ H3 zs,v= .non/\H4=upd H3 a (.lst (xs++zs))/\jr (upd H a (.lst xs)) H3/\Reps X.K H3 es zs) (Inv.opened I (.l xs) g4)
   ⟨.ref a,g2,.inl ⟨rfl,_,SqL.of jp⟩,ρ,.list es,env,q2,fun y H3 s3 r3=>?_⟩) fun u s1 ⟨v,H4,I4,r,H3,zs,e1,e2,s3,r3⟩=>?_
  ·obtain ⟨b,zs,z1,z2,z3⟩:=r3
   have hz:=z3.length
   exact ⟨a,b,xs,zs,rfl,by rw [z1],s3 _ _ jp,z2,by rw [hlen,hz]; exact Nat.le_of_lt (QF hl),H3,zs,rfl,rfl,s3,z3⟩
  subst e1
  have e4:H4 a=some (.lst (xs++zs)):=by rw [e2]; exact jp
  have sb:∀ b u,b ≠ a->H b=some u->H4 b=some u:=fun b u n q=>by rw [e2,jn n]; exact s3 b u (by rw [jn n]; exact q)
  refine ⟨.non,upd H4 a (JN a (xs++zs)),Inv.closed I4 (.l _) e4 (Inv.nofrz I g4),r,k _ (E.put (qI q1) g2 g3 g4 sb ⟨xs++zs,jp,?_⟩)⟩
  have s5:jC H (upd H4 a (JN a (xs++zs))):=fun b u q m=>by
   have:b ≠ a:=fun z=>by subst z; rw [g4] at q; cases q; exact m _ rfl
   rw [jn this]; exact sb b u this q
  have s6:qW H3 (upd H4 a (JN a (xs++zs))):=fun b u q m=>by
   have e3:H3 a=some (.lst xs):=s3 _ _ jp
   have:b ≠ a:=fun z=>by subst z; rw [e3] at q; cases q; exact m _ rfl
   rw [jn this,e2,jn this]; exact q
  exact (Reps.monoE s5 _ _ g5).append (Reps.monoN s6 _ _ hn r3)
end
section
variable {X:Cx}{e a b c tg src:Expr}{es:List Expr}{fa fb fc:Rho->Option PyData}{pos:Pos}
theorem Reps.set {K:PySem.W.Frag}{H:Hp}{d:PyData}{v:V} (r:Rep K H d v):∀ {ds:List PyData}{xs:List V} (j:Nat),Reps K H ds xs->Reps K H (ds.set j d) (xs.set j v)
 | [],xs,j,h=>by cases (show xs=[] from h); exact rfl
 | _::ds,xs,0,⟨x,q,h1,h2,h3⟩=>by subst h1; exact ⟨v,q,rfl,r,h3⟩
 | _::ds,xs,j+1,⟨x,q,h1,h2,h3⟩=>by subst h1; exact ⟨x,_,rfl,h2,Reps.set r j h3⟩
noncomputable def acq (ds:List PyData):Option PyData:=match ds with
 | [.list xs]=>some (.tuple xs)
 | [.tuple xs]=>some (.tuple xs)
 | _=>none
theorem adl:QO X (.type "tuple") acq:=by
 refine ⟨_,aa9,fun ds d xs H Q h r k=>?_⟩
 unfold acq at h
 split at h
 ·cases h
  obtain ⟨x,q,e1,e2,e3⟩:=r
  cases (show q=[] from e3)
  obtain ⟨a,us,g1,g2,g3⟩:=e2
  subst g1
  refine ⟨a,us,e1,.inl ⟨SqL.of g2,fun l hl=>?_⟩⟩
  have s1:=jx (o:= .tup us) hl
  exact k _ _ s1 ⟨l,us,rfl,SqT.of jp,Reps.mono s1 _ _ g3⟩
 ·cases h
  obtain ⟨x,q,e1,e2,e3⟩:=r
  cases (show q=[] from e3)
  obtain ⟨a,us,g1,g2,g3⟩:=e2
  subst g1
  exact ⟨a,us,e1,.inr ⟨g2,k _ H (jr.refl H) ⟨a,us,rfl,g2,g3⟩⟩⟩
 ·cases h
end
section
variable {X:Cx}{e a b c:Expr}{fa fb fc:Rho->Option PyData}{pos p2:Pos}
noncomputable def abf (ds:List PyData) (lo hi:Option Int):List PyData:=(ds.drop (HT.sIx ds.length 0 lo)).take (HT.sIx ds.length ds.length hi - HT.sIx ds.length 0 lo)
noncomputable def inI:PyData->Option Int
 | .int i=>some i
 | _=>none
theorem adm {d:PyData}{i:Int} (h:inI d=some i):d= .int i:=by cases d <;> simp [inI] at h; rw [h]
end
section
variable {prog:Program}{w:World}{A:Around}{E:Value->Shared->Prop}{s:Shared}
noncomputable def ItA (g:Bool) (h:Heap) (i t:Addr) (k:Nat):Prop:=match g with
 | true=>h.IsListIter i t k
 | false=>h.IsTupleIter i t k
noncomputable def SrA (g:Bool) (h:Heap) (t:Addr) (xs:Array Value):Prop:=match g with
 | true=>h.IsList t xs
 | false=>h.IsTuple t xs
theorem ItA.to {g:Bool}{h h':Heap}{i t:Addr}{k:Nat} (x:ItA g h i t k) (kp:∀ o,h.get? i=some o->h'.get? i=some o):ItA g h' i t k:=by
 cases g <;> exact (let ⟨o,e,r⟩:=x; ⟨o,kp o e,r⟩)
theorem SrA.to {g:Bool}{h h':Heap}{t:Addr}{xs:Array Value} (x:SrA g h t xs) (kp:∀ o,h.get? t=some o->h'.get? t=some o):SrA g h' t xs:=by
 cases g <;> exact (let ⟨o,e,r⟩:=x; ⟨o,kp o e,r⟩)
theorem ItA.extBut {g:Bool}{h h':Heap}{i t b:Addr}{k:Nat} (x:ItA g h i t k) (e:Heap.ExtBut b h h') (n:i ≠ b):ItA g h' i t k:=x.to fun o q=>e i o n q
theorem SrA.extBut {g:Bool}{h h':Heap}{t b:Addr}{xs:Array Value} (x:SrA g h t xs) (e:Heap.ExtBut b h h') (n:t ≠ b):SrA g h' t xs:=x.to fun o q=>e t o n q
theorem ItA.obj {g:Bool}{h:Heap}{i t:Addr}{k:Nat} (x:ItA g h i t k):∃ o vs,h.get? i=some o/\o.data= .fields vs:=by
 cases g <;> exact (let ⟨o,e,_,d⟩:=x; ⟨o,_,e,d⟩)
theorem JB {g:Bool}{it t:Addr}{i:Nat}{ys:Array Value}{x:Value}{Q:Value->Shared->Prop} (hit:ItA g s.heap it t i) (ht:SrA g s.heap t ys) (hx:ys[i]?=some x)
  (hQ:∀ h',ItA g h' it t (i+1)->Heap.SameBut it s.heap h'->Q x { s with heap:=h' }):wpAny (model prog w) A (Builtin.SmallTypes.nextOf (.ref it)) Q E s:=by
 cases g with
 | true=>exact wpAny_nextOf_list_item hit ht hx hQ
 | false=>exact Jz hit ht hx hQ
theorem Ql {g:Bool}{it t:Addr}{i:Nat}{ys:Array Value}{Q:Value->Shared->Prop} (hh:A.handled=none) (hit:ItA g s.heap it t i) (ht:SrA g s.heap t ys) (hx:ys[i]?=none)
  (hE:∀ h' e,Heap.ExtBut it s.heap h'->(∃ o,h'.get? e=some o/\o.cls= .type "StopIteration")->E (.ref e) { s with heap:=h' }):wpAny (model prog w) A (Builtin.SmallTypes.nextOf (.ref it)) Q E s:=by
 cases g with
 | true=>exact wpAny_nextOf_list_end hh hit ht hx hE
 | false=>exact abE hh hit ht hx hE
theorem aaH {T:Addr}{a b x:Value}{k:Nat}{Q:Unit->Shared->Prop} (hT:IsPair s.heap T a b)
  (h:∀ h',h'.get? T=some { cls:= .type "tuple",data:= .seq ((#[a,b]:Array Value).setIfInBounds k x) }->Heap.SameBut T s.heap h'->Q () { s with heap:=h' }):
  wpAny (model prog w) A (updateSeq T (·.setIfInBounds k x)) Q E s:=by
 refine wpAny_updateSeq hT rfl (h _ ?_ (Heap.SameBut.update ..))
 rw [Heap.get?_update_self _ hT rfl]
 simp [Obj.mapSeq]
structure Apart2 (z TI TO i1 i2 t1 t2:Addr):Prop where
 nd:[z,TO,i1,i2].Nodup
 ti:TI ∉ [z,TO,i1,i2]
 s1:t1 ∉ [z,TO,i1,i2]
 s2:t2 ∉ [z,TO,i1,i2]
structure Zip2 (ga gb:Bool) (h:Heap) (z TI TO i1 i2 t1 t2:Addr) (f0:Value) (k:Nat):Prop where
 hz:IsZip h z TI TO f0
 hTI:IsPair h TI (.ref i1) (.ref i2)
 hTO:∃ a b,IsPair h TO a b
 g1:ItA ga h i1 t1 k
 g2:ItA gb h i2 t2 k
theorem Zip2.keep {ga gb:Bool}{h h':Heap}{z TI TO i1 i2 t1 t2:Addr}{f0:Value}{k:Nat} (S:Zip2 ga gb h z TI TO i1 i2 t1 t2 f0 k) (kp:∀ b ∈ [z,TI,TO,i1,i2],∀ o,h.get? b=some o->h'.get? b=some o):
  Zip2 ga gb h' z TI TO i1 i2 t1 t2 f0 k:=by
 obtain ⟨hz,hTI,⟨a,b,hTO⟩,g1,g2⟩:=S
 exact ⟨kp z (by simp) _ hz,kp TI (by simp) _ hTI,⟨a,b,kp TO (by simp) _ hTO⟩,g1.to (kp i1 (by simp)),g2.to (kp i2 (by simp))⟩
theorem agk {ga gb:Bool}{z TI TO i1 i2 t1 t2:Addr}{xs ys:Array Value}{k:Nat}{x y:Value}{Q:Value->Shared->Prop} (D:Apart2 z TI TO i1 i2 t1 t2) (S:Zip2 ga gb s.heap z TI TO i1 i2 t1 t2 .none k)
  (a1:SrA ga s.heap t1 xs) (a2:SrA gb s.heap t2 ys) (hx:xs[k]?=some x) (hy:ys[k]?=some y)
  (hQ:∀ h',Zip2 ga gb h' z TI TO i1 i2 t1 t2 (rawInt s.heap.objs.size) (k+1)->IsPair h' s.heap.objs.size x y->But [z,TO,i1,i2] s.heap h'->Q (.ref s.heap.objs.size) { s with heap:=h' }):
  wpAny (model prog w) A (Builtin.«zip.__next__» ⟨[.ref z],[]⟩) (fun fin s'=>∃ v,fin= .done (.ret v)/\Q v s') E s:=by
 obtain ⟨hz,hTI,⟨a,b,hTO⟩,g1,g2⟩:=S
 obtain ⟨nd,ti,s1,s2⟩:=D
 simp only [List.nodup_cons,List.mem_cons,List.not_mem_nil,or_false,not_or] at nd ti s1 s2
 obtain ⟨⟨n1,n2,n3⟩,⟨n5,n6⟩,n8,_⟩:=nd
 obtain ⟨t1z,t1o,t11,t12⟩:=s1
 obtain ⟨t2z,t2o,t21,t22⟩:=s2
 obtain ⟨tiz,tio,ti1,ti2⟩:=ti
 refine wpAny_bind (m:=field (.ref z) 2) (wpAny_field hz rfl (x:= .bool false) rfl ?_)
 refine wpAny_bind (m:=field (.ref z) 3) (wpAny_field hz rfl (x:= .ref TI) rfl ?_)
 refine wpAny_bind (wpAny_seqItems hTI rfl ?_)
 refine wpAny_bind (m:=Builtin.SmallTypes.ownedTupleIsFree (.ref z)) ?_
 unfold Builtin.SmallTypes.ownedTupleIsFree
 refine wpAny_bind (wpAny_field hz rfl (x:= .none) rfl (wpAny_pure ?_))
 simp only [zzM]
 refine wpAny_bind (wpAny_rule ?_)
 refine wpAny_bind (wpAny_field hz rfl (x:= .ref TO) rfl ?_)
 refine wpAny_bind (wpAny_setField_rec hz (by simp) fun h1 hz1 b1=>?_)
 replace hz1:IsZip h1 z TI TO .ellipsis:=hz1
 refine wpAny_bind ?_
 simp only [List.zipIdx_cons,List.zipIdx_nil,List.forIn_cons,List.forIn_nil]
 refine wpAny_bind (wpAny_bind (wpAny_onRaise ?_))
 refine wpAny_bind (m:=Builtin.SmallTypes.nextOf (.ref i1)) ?_
 refine JB (g1.extBut b1.extBut (Ne.symm n2)) (a1.extBut b1.extBut t1z) hx fun h2 g1' b2=>wpAny_pure ?_
 have o2:IsPair h2 TO a b:=b2.extBut _ _ n5 (b1.extBut _ _ (Ne.symm n1) hTO)
 refine wpAny_bind (wpAny_seqItems o2 rfl ?_)
 refine wpAny_bind (aaH o2 fun h3 o3 b3=>?_)
 replace o3:IsPair h3 TO x b:=o3
 refine wpAny_bind (wpAny_letGo (wpAny_pure ?_))
 refine wpAny_bind (wpAny_bind (wpAny_onRaise ?_))
 refine wpAny_bind (m:=Builtin.SmallTypes.nextOf (.ref i2)) ?_
 refine JB (((g2.extBut b1.extBut (Ne.symm n3)).extBut b2.extBut (Ne.symm n8)).extBut b3.extBut (Ne.symm n6)) (((a2.extBut b1.extBut t2z).extBut b2.extBut t21).extBut b3.extBut t2o) hy fun h4 g2' b4=>wpAny_pure ?_
 have o4:IsPair h4 TO x b:=b4.extBut _ _ n6 o3
 refine wpAny_bind (wpAny_seqItems o4 rfl ?_)
 refine wpAny_bind (aaH o4 fun h7 o7 b7=>?_)
 replace o7:IsPair h7 TO x y:=o7
 refine wpAny_bind (wpAny_letGo (wpAny_pure (wpAny_pure ?_)))
 refine wpAny_bind (wpAny_seqItems o7 rfl ?_)
 refine wpAny_bind (wpAny_newTuple ?_)
 have sz:h7.objs.size=s.heap.objs.size:=by rw [b7.1,b4.1,b3.1,b2.1,b1.1]
 have B:But [z,TO,i1,i2] s.heap h7:=
  ((((But.of b1.extBut (by simp)).trans (But.of b2.extBut (by simp))).trans (But.of b3.extBut (by simp))).trans (But.of b4.extBut (by simp))).trans (But.of b7.extBut (by simp))
 have z7:IsZip h7 z TI TO .ellipsis:=b7.extBut _ _ n1 (b4.extBut _ _ n3 (b3.extBut _ _ n1 (b2.extBut _ _ n2 hz1)))
 have i17:ItA ga h7 i1 t1 (k+1):=((g1'.extBut b3.extBut (Ne.symm n5)).extBut b4.extBut n8).extBut b7.extBut (Ne.symm n5)
 have i27:ItA gb h7 i2 t2 (k+1):=g2'.extBut b7.extBut (Ne.symm n6)
 refine wpAny_bind (m:=Builtin.SmallTypes.ownedTupleHandOut (.ref z) (.ref h7.objs.size)) ?_
 unfold Builtin.SmallTypes.ownedTupleHandOut
 have z8:IsZip (h7.push { cls:= .type "tuple",data:= .seq #[x,y] }) z TI TO .ellipsis:=Heap.get?_push_of_some _ z7
 refine wpAny_bind (wpAny_setField_rec z8 (by simp) fun h9 z9 b9=>?_)
 replace z9:IsZip h9 z TI TO (rawInt h7.objs.size):=z9
 refine wpAny_setField_rec z9 (by simp) fun h10 z10 b10=>?_
 replace z10:IsZip h10 z TI TO (rawInt h7.objs.size):=z10
 have up:∀ c o,c ≠ z->h7.get? c=some o->h10.get? c=some o:=fun c o c1 e=>b10.extBut _ _ c1 (b9.extBut _ _ c1 (Heap.get?_push_of_some _ e))
 have zlt:z < h7.objs.size:=Heap.lt_size z7
 have T10:IsPair h10 h7.objs.size x y:=b10.extBut _ _ (Nat.ne_of_gt zlt) (b9.extBut _ _ (Nat.ne_of_gt zlt) (Heap.get?_push_size _ rfl))
 rw [sz] at z10 T10
 refine wpAny_pure ⟨_,rfl,?_⟩
 show Q (.ref h7.objs.size) _
 rw [sz]
 refine hQ h10 ⟨z10,up _ _ tiz (B _ _ (by simp [tiz,tio,ti1,ti2]) hTI),⟨x,y,up _ _ (Ne.symm n1) o7⟩,i17.to fun o=>up _ o (Ne.symm n2),i27.to fun o=>up _ o (Ne.symm n3)⟩ T10 fun c o hc e=>up c o (fun q=>hc (by simp [q])) (B c o hc e)
theorem ahS {ga gb:Bool}{z TI TO i1 i2 t1 t2:Addr}{xs ys:Array Value}{k:Nat}{Q:Fin->Shared->Prop} (hh:A.handled=none) (D:Apart2 z TI TO i1 i2 t1 t2) (S:Zip2 ga gb s.heap z TI TO i1 i2 t1 t2 .none k)
  (a1:SrA ga s.heap t1 xs) (a2:SrA gb s.heap t2 ys) (hx:xs[k]?=none ∨ ys[k]?=none)
  (hE:∀ h' e,But [z,TO,i1,i2] s.heap h'->(∃ o,h'.get? e=some o/\o.cls= .type "StopIteration")->E (.ref e) { s with heap:=h' }):
  wpAny (model prog w) A (Builtin.«zip.__next__» ⟨[.ref z],[]⟩) Q E s:=by
 obtain ⟨hz,hTI,⟨a,b,hTO⟩,g1,g2⟩:=S
 obtain ⟨nd,ti,s1,s2⟩:=D
 simp only [List.nodup_cons,List.mem_cons,List.not_mem_nil,or_false,not_or] at nd ti s1 s2
 obtain ⟨⟨n1,n2,n3⟩,⟨n5,n6⟩,n8,_⟩:=nd
 obtain ⟨t2z,t2o,t21,t22⟩:=s2
 refine wpAny_bind (m:=field (.ref z) 2) (wpAny_field hz rfl (x:= .bool false) rfl ?_)
 refine wpAny_bind (m:=field (.ref z) 3) (wpAny_field hz rfl (x:= .ref TI) rfl ?_)
 refine wpAny_bind (wpAny_seqItems hTI rfl ?_)
 refine wpAny_bind (m:=Builtin.SmallTypes.ownedTupleIsFree (.ref z)) ?_
 unfold Builtin.SmallTypes.ownedTupleIsFree
 refine wpAny_bind (wpAny_field hz rfl (x:= .none) rfl (wpAny_pure ?_))
 simp only [zzM]
 refine wpAny_bind (wpAny_rule ?_)
 refine wpAny_bind (wpAny_field hz rfl (x:= .ref TO) rfl ?_)
 refine wpAny_bind (wpAny_setField_rec hz (by simp) fun h1 hz1 b1=>?_)
 replace hz1:IsZip h1 z TI TO .ellipsis:=hz1
 refine wpAny_bind ?_
 simp only [List.zipIdx_cons,List.zipIdx_nil,List.forIn_cons,List.forIn_nil]
 refine wpAny_bind (wpAny_bind (wpAny_onRaise ?_))
 refine wpAny_bind (m:=Builtin.SmallTypes.nextOf (.ref i1)) ?_
 cases hx1:xs[k]? with
 | none=>
  refine Ql hh (g1.extBut b1.extBut (Ne.symm n2)) (a1.extBut b1.extBut s1.1) hx1 fun h2 e b2 he=>?_
  obtain ⟨oe,ho,hc⟩:=he
  have z2:IsZip h2 z TI TO .ellipsis:=b2 _ _ n2 hz1
  have ez:e ≠ z:=fun q=>by subst q; rw [z2] at ho; cases ho; simp at hc
  refine wpAny_setField_rec z2 (by simp) fun h3 _ b3=>?_
  exact hE h3 e (((But.of b1.extBut (by simp)).trans (But.of b2 (by simp))).trans (But.of b3.extBut (by simp))) ⟨oe,b3.extBut _ _ ez ho,hc⟩
 | some x=>
  have hy:ys[k]?=none:=hx.resolve_left (by rw [hx1]; simp)
  refine JB (g1.extBut b1.extBut (Ne.symm n2)) (a1.extBut b1.extBut s1.1) hx1 fun h2 g1' b2=>wpAny_pure ?_
  have o2:IsPair h2 TO a b:=b2.extBut _ _ n5 (b1.extBut _ _ (Ne.symm n1) hTO)
  refine wpAny_bind (wpAny_seqItems o2 rfl ?_)
  refine wpAny_bind (aaH o2 fun h3 o3 b3=>?_)
  refine wpAny_bind (wpAny_letGo (wpAny_pure ?_))
  refine wpAny_bind (wpAny_bind (wpAny_onRaise ?_))
  refine wpAny_bind (m:=Builtin.SmallTypes.nextOf (.ref i2)) ?_
  refine Ql hh (((g2.extBut b1.extBut (Ne.symm n3)).extBut b2.extBut (Ne.symm n8)).extBut b3.extBut (Ne.symm n6)) (((a2.extBut b1.extBut t2z).extBut b2.extBut t21).extBut b3.extBut t2o) hy fun h4 e b4 he=>?_
  obtain ⟨oe,ho,hc⟩:=he
  have z4:IsZip h4 z TI TO .ellipsis:=b4 _ _ n3 (b3.extBut _ _ n1 (b2.extBut _ _ n2 hz1))
  have ez:e ≠ z:=fun q=>by subst q; rw [z4] at ho; cases ho; simp at hc
  refine wpAny_setField_rec z4 (by simp) fun h5 _ b5=>?_
  exact hE h5 e (((((But.of b1.extBut (by simp)).trans (But.of b2.extBut (by simp))).trans (But.of b3.extBut (by simp))).trans (But.of b4 (by simp))).trans (But.of b5.extBut (by simp))) ⟨oe,b5.extBut _ _ ez ho,hc⟩
end
noncomputable def Sq (g:Bool) (K:PySem.W.Frag) (H:Hp) (t:Addr) (xs:List V):Prop:=match g with
 | true=>SqL K H t xs
 | false=>SqT K H t xs
theorem Sq.inv {g:Bool}{X:Cx}{pins:List (Addr × Obj)}{σ:St}{H:Hp}{s:Shared}{a:Addr}{xs:List V} (q:Sq g X.K H a xs) (I:Inv X pins σ H s):∃ its:List Value,jF xs its/\SrA g s.heap a its.toArray:=by
 cases g with
 | true=>obtain ⟨its,r,p,_⟩:=I.list q; exact ⟨its,r,p.isList⟩
 | false=>obtain ⟨its,r,p,_⟩:=I.tuple q; exact ⟨its,r,p⟩
theorem Sq.inj {g:Bool}{X:Cx}{pins:List (Addr × Obj)}{σ:St}{H:Hp}{s:Shared}{a:Addr}{xs ys:List V} (I:Inv X pins σ H s) (q:Sq g X.K H a xs) (q':Sq g X.K H a ys):xs=ys:=by
 cases g with
 | true=>exact I.list_inj q q'
 | false=>exact I.tuple_inj q q'
theorem Sq.monoE {g:Bool}{K:PySem.W.Frag}{H H':Hp}{a:Addr}{xs:List V} (e:jC H H') (h:Sq g K H a xs):Sq g K H' a xs:=by
 cases g with
 | true=>exact jC.sql e h
 | false=>exact jC.tup e h
theorem Sq.at {g:Bool}{K:PySem.W.Frag}{H:Hp}{a:Addr}{xs:List V} (h:Sq g K H a xs):(∃ u,H a=some u) ∨ ∃ o,K.lookup a=some o:=by
 cases g with
 | true=>rcases h with (e | ⟨o,e⟩) | ⟨o,its,n,hk,_⟩ <;> first | exact .inl ⟨_,e⟩ | exact .inr ⟨_,hk⟩
 | false=>rcases h with (e | ⟨o,e⟩) | ⟨o,its,n,hk,_⟩ <;> first | exact .inl ⟨_,e⟩ | exact .inr ⟨_,hk⟩
noncomputable def Itq (K:PySem.W.Frag) (ga gb:Bool) (t1 t2:Addr):It:=
 ⟨fun i H=>∃ xs ys x y,Sq ga K H t1 xs/\Sq gb K H t2 ys/\xs[i]?=some x/\ys[i]?=some y,
  fun i H u H'=>∃ p x y,u= .ref p/\H p=none/\H'=upd H p (.tup [x,y])/\∀ xs ys,Sq ga K H t1 xs->Sq gb K H t2 ys->xs[i]?=some x/\ys[i]?=some y,
  fun i H=>∃ xs ys,Sq ga K H t1 xs/\Sq gb K H t2 ys/\(xs.length<=i ∨ ys.length<=i)⟩
theorem agl {P:Program}{w:World}{K:PySem.W.Frag}{elts:List Expr}{x1:Nat}{pos:Pos}{ga gb:Bool}{z TI TO i1 i2 t1 t2:Addr} (nd:[z,TO,i1,i2].Nodup) (ti:TI ∉ [z,TO,i1,i2]):
  Turn P w K (.Tuple elts x1 pos) (Itq K ga gb t1 t2) [z,TI,TO,i1,i2] z (fun i h=>Zip2 ga gb h z TI TO i1 i2 t1 t2 .none i) where
 mem:=by simp
 obj:=fun i h st b hb=>by
  obtain ⟨hz,hTI,⟨a,b',hTO⟩,g1,g2⟩:=st
  obtain ⟨o1,v1,e1,d1⟩:=g1.obj
  obtain ⟨o2,v2,e2,d2⟩:=g2.obj
  simp only [List.mem_cons,List.not_mem_nil,or_false] at hb
  rcases hb with rfl | rfl | rfl | rfl | rfl
  ·exact ⟨_,hz,fun v q=>by cases q⟩
  ·exact ⟨_,hTI,fun v q=>by cases q⟩
  ·exact ⟨_,hTO,fun v q=>by cases q⟩
  ·exact ⟨o1,e1,fun v q=>by rw [d1] at q; cases q⟩
  ·exact ⟨o2,e2,fun v q=>by rw [d2] at q; cases q⟩
 keep:=fun i h h' st k=>st.keep k
 item:=by
  intro X hP hw hK hc i pins s σ H E I hf st hg
  subst hP hw hK
  obtain ⟨xs,ys,x,y,q1,q2,ex,ey⟩:=hg
  obtain ⟨us1,r1,p1⟩:=q1.inv I
  obtain ⟨us2,r2,p2⟩:=q2.inv I
  obtain ⟨u1,m1,l1⟩:=r1.get ex
  obtain ⟨u2,m2,l2⟩:=r2.get ey
  have trk:∀ {g:Bool} {t:Addr} {ws:List V},Sq g X.K H t ws->t ∉ [z,TO,i1,i2]:=fun {g t ws} hq hb=>by
   have hb':t ∈ [z,TI,TO,i1,i2]:=by
    simp only [List.mem_cons,List.not_mem_nil,or_false] at hb ⊢
    rcases hb with e | e | e | e <;> simp [e]
   rcases hq.at with ⟨u,e⟩ | ⟨o,hk⟩
   ·have:=(hf t hb').1; rw [e] at this; cases this
   ·obtain ⟨f0,f1,f2,f3,f4,f5⟩:=hf t hb'
    have hbase:=I.mod.kin t o hk
    rcases f3 with q | q
    ·exact I.ok.noex t o hbase q
    ·exact absurd (Nat.lt_of_lt_of_le (Heap.lt_size hbase) (Nat.le_trans I.ok.bsz q)) (Nat.lt_irrefl _)
  have D:Apart2 z TI TO i1 i2 t1 t2:=⟨nd,ti,trk q1,trk q2⟩
  have hT:s.TypeIs (.ref z) "zip":=⟨_,st.hz,rfl⟩
  unfold pyNext
  refine wpAny_bind (wpAny_attempt (wpAny_callSpecial?_slot (name:=Str.ofString "__next__") hT F.slot_zip_next
   (wpAny_call_entry F.slot_zip_next hT F.entry_zip_next (agk D st p1 p2 (by simpa using m1) (by simpa using m2) fun h1 S1 T1 B1=>wpAny_pure ?_)
    (F.args_zip_next_1 _))))
  refine ⟨_,rfl,?_⟩
  refine wpAny_letOwnedTupleGo_zip (s:={ s with heap:=h1 }) S1.hz fun h2 z2' b2=>?_
  have nT:H s.heap.objs.size=none:=I.hok.fresh (Nat.le_refl _)
  have zlt:z < s.heap.objs.size:=Heap.lt_size st.hz
  have T2:IsPair h2 s.heap.objs.size u1 u2:=b2.extBut _ _ (Nat.ne_of_gt zlt) T1
  have B2:But [z,TO,i1,i2] s.heap h2:=B1.trans (But.of b2.extBut (by simp))
  have inF:∀ b ∈ [z,TO,i1,i2],b ∈ [z,TI,TO,i1,i2]:=fun b hb=>by
   simp only [List.mem_cons,List.not_mem_nil,or_false] at hb ⊢
   rcases hb with e | e | e | e <;> simp [e]
  have ntr:∀ b u,H b=some u->b ∉ [z,TO,i1,i2]:=fun b u e hb=>by
   have:=(hf b (inF b hb)).1
   rw [e] at this; cases this
  have neT:∀ b u,H b=some u->b ≠ s.heap.objs.size:=fun b u e q=>by rw [q,nT] at e; cases e
  have hok2:HOk X.prog X.w (upd H s.heap.objs.size (.tup [x,y])) h2:=fun b u e=>by
   by_cases hb:b=s.heap.objs.size
   ·subst hb
    rw [jp] at e
    cases e
    exact ⟨by show 2<=sizeLine; rw [sizeLine_eq]; decide,[u1,u2],.cons l1 (.cons l2 .nil),⟨_,T2,rfl,_,rfl⟩⟩
   ·rw [jn hb] at e
    refine (I.hok b u e).stay (fun c o hc' q=>B2 c o ?_ q) (fun c q=>by rw [jn (neT c _ q)]; exact q) fun c ws q=>by rw [jn (neT c _ q)]; exact q
    rcases hc' with q' | q'
    ·rw [q']; exact ntr b u e
    ·exact ntr c _ q'
  have I2:Inv X pins σ (upd H s.heap.objs.size (.tup [x,y])) { s with heap:=h2,toks:=s.toks }:=by
   refine I.step (g':=s.gens) (d':=s.drawn) (ch:=[z,TO,i1,i2]) (fun b hb=>?_) (fun b o _ _ hb e _=>B2 b o hb e) (fun b o _ _ hb e _=>⟨o.slots,B2 b o hb e⟩) (fun b o hb e n=>?_) (fun b o hb e=>⟨o,B2 b o hb e⟩)
    (fun b ws e=>by rw [jn (neT b _ e)]; exact e) (fun b ob ws e=>by rw [jn (neT b _ e)]; exact e) (fun b ps e=>⟨#[],by rw [jn (neT b _ e),e]; simp⟩) (fun m hm=>?_) hok2 I.bare
   ·obtain ⟨f0,f1,f2,f3,f4,f5⟩:=hf b (inF b hb)
    exact ⟨f3,f1,f4,f5⟩
   ·rw [jn (Nat.ne_of_lt (Heap.lt_size e))]; exact n
   ·obtain ⟨o,es,ep,ho,r⟩:=hm
    refine ⟨o,es,ep,B2 _ o (fun hb=>?_) ho,r⟩
    exact (hf _ (inF _ hb)).2.1 rfl
  refine ⟨.ref s.heap.objs.size,_,I2,rfl,⟨_,x,y,rfl,nT,rfl,fun as bs g1 g2=>?_⟩,?_,fun b hb=>?_⟩
  ·rw [Sq.inj I g1 q1,Sq.inj I g2 q2]
   exact ⟨ex,ey⟩
  ·obtain ⟨_,hTI,⟨a,b,hTO⟩,g1,g2⟩:=S1
   simp only [List.nodup_cons,List.mem_cons,List.not_mem_nil,or_false,not_or] at nd ti
   obtain ⟨⟨n1,n2,n3⟩,_⟩:=nd
   exact ⟨z2',b2.extBut _ _ ti.1 hTI,⟨a,b,b2.extBut _ _ (Ne.symm n1) hTO⟩,g1.extBut b2.extBut (Ne.symm n2),g2.extBut b2.extBut (Ne.symm n3)⟩
  ·obtain ⟨o,ho,_⟩:∃ o,s.heap.get? b=some o/\True:=by
    obtain ⟨hz,hTI,⟨a,b',hTO⟩,g1,g2⟩:=st
    obtain ⟨o1,v1,e1,d1⟩:=g1.obj
    obtain ⟨o2,v2,e2,d2⟩:=g2.obj
    simp only [List.mem_cons,List.not_mem_nil,or_false] at hb
    rcases hb with rfl | rfl | rfl | rfl | rfl
    ·exact ⟨_,hz,trivial⟩
    ·exact ⟨_,hTI,trivial⟩
    ·exact ⟨_,hTO,trivial⟩
    ·exact ⟨_,e1,trivial⟩
    ·exact ⟨_,e2,trivial⟩
   rw [jn (Nat.ne_of_lt (Heap.lt_size ho))]
   exact (hf b hb).1
 done:=by
  intro X hP hw hK hc i pins s σ H E I hf st hg
  subst hP hw hK
  obtain ⟨xs,ys,q1,q2,hl⟩:=hg
  obtain ⟨us1,r1,p1⟩:=q1.inv I
  obtain ⟨us2,r2,p2⟩:=q2.inv I
  have trk:∀ {g:Bool} {t:Addr} {ws:List V},Sq g X.K H t ws->t ∉ [z,TO,i1,i2]:=fun {g t ws} hq hb=>by
   have hb':t ∈ [z,TI,TO,i1,i2]:=by
    simp only [List.mem_cons,List.not_mem_nil,or_false] at hb ⊢
    rcases hb with e | e | e | e <;> simp [e]
   rcases hq.at with ⟨u,e⟩ | ⟨o,hk⟩
   ·have:=(hf t hb').1; rw [e] at this; cases this
   ·obtain ⟨f0,f1,f2,f3,f4,f5⟩:=hf t hb'
    have hbase:=I.mod.kin t o hk
    rcases f3 with q | q
    ·exact I.ok.noex t o hbase q
    ·exact absurd (Nat.lt_of_lt_of_le (Heap.lt_size hbase) (Nat.le_trans I.ok.bsz q)) (Nat.lt_irrefl _)
  have D:Apart2 z TI TO i1 i2 t1 t2:=⟨nd,ti,trk q1,trk q2⟩
  have hT:s.TypeIs (.ref z) "zip":=⟨_,st.hz,rfl⟩
  have hlen:=r1.length
  have hlen2:=r2.length
  unfold pyNext
  refine wpAny_bind (wpAny_attempt (wpAny_callSpecial?_slot (name:=Str.ofString "__next__") hT F.slot_zip_next
   (wpAny_call_entry F.slot_zip_next hT F.entry_zip_next (ahS (I.ok.hd hc) D st p1 p2 (hl.imp (fun h=>by simp; omega) fun h=>by simp; omega) fun h1 e B1 he=>?_)
    (F.args_zip_next_1 _))))
  obtain ⟨o,ho,hcl⟩:=he
  refine wpAny_bind (wpAny_isInstance (T:="StopIteration") (b:=true) ⟨o,ho,hcl⟩ isSubtype_stop ?_)
  refine wpAny_pure ⟨rfl,?_⟩
  have inF:∀ b ∈ [z,TO,i1,i2],b ∈ [z,TI,TO,i1,i2]:=fun b hb=>by
   simp only [List.mem_cons,List.not_mem_nil,or_false] at hb ⊢
   rcases hb with e | e | e | e <;> simp [e]
  have ntr:∀ b u,H b=some u->b ∉ [z,TO,i1,i2]:=fun b u e hb=>by
   have:=(hf b (inF b hb)).1
   rw [e] at this; cases this
  refine I.step (t':=s.toks) (g':=s.gens) (d':=s.drawn) (ch:=[z,TO,i1,i2]) (fun b hb=>?_) (fun b o _ _ hb e _=>B1 b o hb e) (fun b o _ _ hb e _=>⟨o.slots,B1 b o hb e⟩) (fun b o hb e n=>n) (fun b o hb e=>⟨o,B1 b o hb e⟩)
   (fun b ws e=>e) (fun b ob ws e=>e) (fun b ps e=>⟨#[],by rw [e]; simp⟩) (fun m hm=>?_) (fun b u e=>?_) I.bare
  ·obtain ⟨f0,f1,f2,f3,f4,f5⟩:=hf b (inF b hb)
   exact ⟨f3,f1,f4,f5⟩
  ·obtain ⟨o,es,ep,ho,r⟩:=hm
   refine ⟨o,es,ep,B1 _ o (fun hb=>?_) ho,r⟩
   exact (hf _ (inF _ hb)).2.1 rfl
  ·refine (I.hok b u e).stay (fun c o hc' q=>B1 c o ?_ q) (fun c q=>q) fun c ws q=>q
   rcases hc' with q' | q'
   ·rw [q']; exact ntr b u e
   ·exact ntr c _ q'
 self:=fun _ _ _ _ _ st h=>wpAny_pyIter_zip st.hz h
theorem abg (a b:Value):checkTypeCall "zip" ⟨[a,b],[]⟩=pure ():=by kernel_rfl
theorem acr (a b:Value):checkBuiltinCall "zip.__new__" ⟨[.type "zip",a,b],[]⟩=pure ():=by kernel_rfl
theorem aep (a b c:Value):argsOk "object.__init__" ⟨[a,b,c],[]⟩:=by
 unfold argsOk
 rw [signature?_of (id:="object.__init__") (n:=['_','_','t','i','n','i','_','_'])
  (o:=['t','c','e','j','b','o']) (by kernel_rfl) F.owner_object]
 kernel_rfl
noncomputable def itO (g:Bool) (t:Addr):Obj:=match g with
 | true=>{ cls:= .type "list_iterator",data:= .fields #[.ref t,.int 0 0] }
 | false=>{ cls:= .type "tuple_iterator",data:= .fields #[.ref t,.int 0 0] }
theorem QX {g:Bool}{prog:Program}{w:World}{A:Around}{E:Value->Shared->Prop}{s:Shared}{l:Addr}{items:Array Value}{Q:Value->Shared->Prop} (h:SrA g s.heap l items)
  (q:Q (.ref s.heap.objs.size) { s with heap:=s.heap.push (itO g l) }):wpAny (model prog w) A (pyIter (.ref l)) Q E s:=by
 cases g with
 | true=>exact wpAny_pyIter_list h q
 | false=>exact wpAny_pyIter_tuple h q
theorem aaI (g:Bool) (t:Addr):(itO g t).isFreed=false:=by cases g <;> rfl
theorem aeq {g:Bool}{h:Heap}{i t:Addr} (e:h.get? i=some (itO g t)):ItA g h i t 0:=by
 cases g <;> exact ⟨_,e,rfl,rfl⟩
noncomputable abbrev qh1 (ga:Bool) (h:Heap) (a:Addr):Heap:=h.push (itO ga a)
noncomputable abbrev qh2 (ga gb:Bool) (h:Heap) (a b:Addr):Heap:=(qh1 ga h a).push (itO gb b)
noncomputable abbrev qh4 (ga gb:Bool) (h:Heap) (a b:Addr):Heap:=(qh2 ga gb h a b).push { cls:= .type "tuple",data:= .seq #[.ref h.objs.size,.ref (qh1 ga h a).objs.size] }
noncomputable abbrev qh5 (ga gb:Bool) (h:Heap) (a b:Addr):Heap:=(qh4 ga gb h a b).push { cls:= .type "tuple",data:= .seq #[.none,.none] }
noncomputable abbrev qh6 (ga gb:Bool) (h:Heap) (a b:Addr):Heap:=(qh5 ga gb h a b).push { cls:= .type "zip",data:= .fields #[.none,.bool false,.bool false,.ref (qh2 ga gb h a b).objs.size,.ref (qh4 ga gb h a b).objs.size] }
theorem ahT (ga gb:Bool) (a b:Addr) (xs ys:Array Value):
  Meets (Builtin.«zip.__new__» ⟨[.type "zip",.ref a,.ref b],[]⟩) (fun _ R s=>SrA ga s.heap a xs/\SrA gb s.heap b ys/\
   R (.ok (.ret (.ref (qh5 ga gb s.heap a b).objs.size))) { s with heap:=qh6 ga gb s.heap a b }):=
 .of_wp fun prog w A R s h=>by
  obtain ⟨hp,g,d,tk,os⟩:=s
  obtain ⟨h1,h2,h⟩:=h
  have hsub:=sub_zip
  have k1:SrA ga (Shared.heap ⟨hp,g,d,tk,os⟩) a xs:=h1
  have k2:SrA gb (Shared.heap ⟨qh1 ga hp a,g,d,tk,os⟩) b ys:=h2.to fun o e=>Heap.get?_push_of_some _ e
  wp_walk using QX k1,QX k2
  exact ⟨_,rfl,h⟩
section
variable {X:Cx}
noncomputable def amL (K:PySem.W.Frag) (ta:TA):TI:=fun σ H R=>ta σ H fun vs H1=>∃ ga gb a b xs ys,vs=[.ref a,.ref b]/\Sq ga K H1 a xs/\Sq gb K H1 b ys/\R (Itq K ga gb a b) H1
theorem ajG {ea eb:Expr}{elts:List Expr}{x1:Nat}{tp:Pos}{ta:TA}{p pos:Pos} (hg:Gl X "zip") (hm:X.mg "zip"=none) (ha:PA X [ea,eb] ta)
  (hs:starEach [ea,eb] X.env=[(false,eval ea X.env),(false,eval eb X.env)]:=by rfl) (hs2:starEach [eb] X.env=[(false,eval eb X.env)]:=by rfl):
  PI X (.Tuple elts x1 tp) (.Call (.Name "zip" p) [ea,eb] [] pos) (amL X.K ta):=by
 intro pins s σ H R I h
 refine Call_ (JP I hg hm boot_zip (PyProof.Rows.callWith_type1 (thn (ha pos pins s σ H _ I h) fun us s1 ⟨vs,H1,I1,r1,q1⟩=>?_) (by rw [hs,hs2]) (by rw [hs2]; rfl)))
 obtain ⟨ga,gb,a,b,xs,ys,e,q1,q2,q⟩:=q1
 subst e
 cases r1 with
 | cons r1 rr=>
  cases rr with
  | cons r2 rr=>
   cases rr
   cases r1; cases r2
   obtain ⟨us1,v1,p1⟩:=q1.inv I1
   obtain ⟨us2,v2,p2⟩:=q2.inv I1
   refine callType_new F.called_zip (by decide) (abg _ _) (acr _ _) (fun obj=>aep obj _ _) F.entry_zip_new
    (ahT ga gb a b us1.toArray us2.toArray) ⟨p1,p2,?_⟩
   have n1:(qh1 ga s1.heap a).objs.size=s1.heap.objs.size+1:=Heap.size_push ..
   have n2:(qh2 ga gb s1.heap a b).objs.size=s1.heap.objs.size+2:=by rw [Heap.size_push,n1]
   have n4:(qh4 ga gb s1.heap a b).objs.size=s1.heap.objs.size+3:=by rw [Heap.size_push,n2]
   have n5:(qh5 ga gb s1.heap a b).objs.size=s1.heap.objs.size+4:=by rw [Heap.size_push,n4]
   have g6:(qh6 ga gb s1.heap a b).get? (qh5 ga gb s1.heap a b).objs.size=some _:=Heap.get?_push_size _ rfl
   have g5:(qh6 ga gb s1.heap a b).get? (qh4 ga gb s1.heap a b).objs.size=some _:=Heap.get?_push_of_some _ (Heap.get?_push_size _ rfl)
   have g4:(qh6 ga gb s1.heap a b).get? (qh2 ga gb s1.heap a b).objs.size=some _:=Heap.get?_push_of_some _ (Heap.get?_push_of_some _ (Heap.get?_push_size _ rfl))
   have up3:∀ x o,(qh2 ga gb s1.heap a b).get? x=some o->(qh6 ga gb s1.heap a b).get? x=some o:=fun x o e=>Heap.get?_push_of_some _ (Heap.get?_push_of_some _ (Heap.get?_push_of_some _ e))
   have g2:(qh6 ga gb s1.heap a b).get? (qh1 ga s1.heap a).objs.size=some _:=up3 _ _ (Heap.get?_push_size _ (aaI gb b))
   have g1:(qh6 ga gb s1.heap a b).get? s1.heap.objs.size=some _:=up3 _ _ (Heap.get?_push_of_some _ (Heap.get?_push_size _ (aaI ga a)))
   have kp:∀ x o,s1.heap.get? x=some o->(qh6 ga gb s1.heap a b).get? x=some o:=fun x o e=>up3 _ _ (Heap.get?_push_of_some _ (Heap.get?_push_of_some _ e))
   show _/\_
   refine ⟨⟨_,g6,rfl⟩,?_⟩
   refine wpAny_pyIter_zip g6 ?_
   have I2:Inv X pins σ H1 { s1 with heap:=qh6 ga gb s1.heap a b }:=I1.kept (t':=s1.toks) kp
   refine ⟨_,[(qh5 ga gb s1.heap a b).objs.size,(qh2 ga gb s1.heap a b).objs.size,(qh4 ga gb s1.heap a b).objs.size,s1.heap.objs.size,(qh1 ga s1.heap a).objs.size],
    _,_,H1,rfl,I2,agl (z:=(qh5 ga gb s1.heap a b).objs.size) (TI:=(qh2 ga gb s1.heap a b).objs.size) (TO:=(qh4 ga gb s1.heap a b).objs.size) (i1:=s1.heap.objs.size) (i2:=(qh1 ga s1.heap a).objs.size) (t1:=a) (t2:=b) ?_ ?_,
    ⟨g6,g4,⟨_,_,g5⟩,aeq g1,aeq g2⟩,fun x hx=>?_,q⟩
   ·rw [n5,n4,n1]
    simp [List.nodup_cons]
   ·rw [n2,n5,n4,n1]
    simp
   ·have hle:s1.heap.objs.size<=x:=by
     rw [n5,n2,n4,n1] at hx
     simp only [List.mem_cons,List.not_mem_nil,or_false] at hx
     rcases hx with e | e | e | e | e <;> rw [e] <;> first | exact Nat.le_refl _ | exact Nat.le_add_right _ _
    exact I1.fpOk hle (I1.hok.fresh hle)
noncomputable def aaJ:PyData->Option (List PyData)
 | .tuple xs=>some xs
 | .list xs=>some xs
 | _=>none
noncomputable def zI:List PyData->List PyData->List PyData
 | x::xs,y::ys=> .tuple [x,y]::zI xs ys
 | _,_=>[]
noncomputable def afe (ds:List PyData):Option (List PyData):=match ds with
 | [p,q]=>(aaJ p).bind fun xs=>(aaJ q).bind fun ys=>some (zI xs ys)
 | _=>none
theorem Zw:∀ (xs ys:List PyData),(zI xs ys).length=min xs.length ys.length
 | [],_=>by simp [zI]
 | x::xs,[]=>by simp [zI]
 | x::xs,y::ys=>by simp [zI,Zw xs ys,Nat.succ_min_succ]
theorem abJ:∀ (xs ys:List PyData) (i:Nat) (d:PyData),(zI xs ys)[i]?=some d->∃ x y,xs[i]?=some x/\ys[i]?=some y/\d= .tuple [x,y]
 | [],_,i,d,h=>by simp [zI] at h
 | x::xs,[],i,d,h=>by simp [zI] at h
 | x::xs,y::ys,0,d,h=>by simp [zI] at h; exact ⟨x,y,rfl,rfl,h.symm⟩
 | x::xs,y::ys,i+1,d,h=>by
  obtain ⟨a,b,e1,e2,e4⟩:=abJ xs ys i d (by simpa [zI] using h)
  exact ⟨a,b,by simpa using e1,by simpa using e2,e4⟩
theorem aaK {K:PySem.W.Frag}{H:Hp}{d:PyData}{v:V}{xs:List PyData} (h:aaJ d=some xs) (r:Rep K H d v):∃ g a us,v= .ref a/\Sq g K H a us/\Reps K H xs us:=by
 cases d with
 | tuple ds=>cases h; obtain ⟨a,us,e,q,r⟩:=r; exact ⟨false,a,us,e,q,r⟩
 | list ds=>cases h; obtain ⟨a,us,e,q,r⟩:=r; exact ⟨true,a,us,e,SqL.of q,r⟩
 | _=>cases h
theorem ahU {ea eb:Expr}{elts:List Expr}{x1:Nat}{tp:Pos}{p pos:Pos}{fr:Rho->Option (List PyData)} (hm:X.mg "zip"=none) (ha:PAD X [ea,eb] fr) (hg:Gl X "zip":=by rfl)
  (hs:starEach [ea,eb] X.env=[(false,eval ea X.env),(false,eval eb X.env)]:=by rfl) (hs2:starEach [eb] X.env=[(false,eval eb X.env)]:=by rfl):
  PID X (.Tuple elts x1 tp) (.Call (.Name "zip" p) [ea,eb] [] pos) (fun ρ=>(fr ρ).bind afe):=by
 with_unfolding_all
  refine PI.imp (ajG hg hm ha hs hs2) fun σ H R ⟨ρ,ds,en,q,k⟩=>?_
  cases h1:fr ρ with
  | none=>simp [h1] at q
  | some as=>
   have q':afe as=some ds:=by simpa [h1] using q
   refine ⟨ρ,as,en,h1,fun vs H1 s1 r1=>?_⟩
   unfold afe at q'
   split at q'
   ·rename_i dp dq
    cases hp:aaJ dp with
    | none=>simp [hp] at q'
    | some xs=>
     cases hq:aaJ dq with
     | none=>simp [hp,hq] at q'
     | some ys=>
      simp only [hp,hq,zzD,Option.some.injEq] at q'
      subst q'
      obtain ⟨v1,w1,e1,rp,v2,w2,e2,rq,e4⟩:=r1
      cases (show w2=[] from e4)
      obtain ⟨ga,a,us1,ea',qa,ra⟩:=aaK hp rp
      obtain ⟨gb,b,us2,eb',qb,rb⟩:=aaK hq rq
      subst ea'; subst eb'; subst e2
      have l1:=ra.length
      have l2:=rb.length
      have lz:=Zw xs ys
      refine ⟨ga,gb,a,b,us1,us2,e1,qa,qb,k _ H1 s1 fun i H2 s2=>⟨fun hi=>?_,fun hi=>?_,fun u H3 y=>?_⟩⟩
      ·rw [lz] at hi
       exact ⟨us1,us2,us1[i]'(by omega),us2[i]'(by omega),qa.monoE s2,qb.monoE s2,by simp <;> omega,by simp <;> omega⟩
      ·rw [lz] at hi
       exact ⟨us1,us2,qa.monoE s2,qb.monoE s2,by omega⟩
      ·obtain ⟨pp,x,y,e5,e6,e7,e8⟩:=y
       subst e5; subst e7
       refine ⟨jx e6,fun d hd=>?_⟩
       obtain ⟨dx,dy,g1,g2,g4⟩:=abJ xs ys i d hd
       subst g4
       obtain ⟨f1,f2⟩:=e8 us1 us2 (qa.monoE s2) (qb.monoE s2)
       have m:=s2.trans (jr.e (jx (o:= .tup [x,y]) e6))
       obtain ⟨x',a1,a2⟩:=(Reps.monoE m _ _ ra).get g1
       obtain ⟨y',b1,b2⟩:=(Reps.monoE m _ _ rb).get g2
       rw [f1] at a1; cases a1
       rw [f2] at b1; cases b1
       exact ⟨pp,[x,y],rfl,SqT.of jp,x,_,rfl,a2,y,_,rfl,b2,rfl⟩
   ·cases q'
end
section
variable {X:Cx}{e a b c:Expr}{fa fb fc:Rho->Option PyData}{pos p2:Pos}
noncomputable def ajH (ds:List PyData):Option PyData:=match ds with
 | [.int i]=>some (.int (if i < 0 then -i else i))
 | _=>none
theorem aer:QO X (.builtin "abs") ajH:=by
 refine ⟨_,ag3,fun ds d xs H Q h r k=>?_⟩
 unfold ajH at h
 split at h
 ·cases h
  obtain ⟨x,q,e1,e2,e3⟩:=r
  cases (show q=[] from e3)
  cases (show x=_ from e2)
  exact ⟨_,e1,k _ H (jr.refl H) rfl⟩
 ·cases h
noncomputable def aff (p q:PyData):Option PyData:=match p,q with
 | .list ds,.int k=>if ds.length < 1000/\-1000 < k/\k < 1000 then some (.list (List.replicate k.toNat ds).flatten) else none
 | _,_=>none
theorem ahV:OpD X (binaryOp .Mult) aff:=by
 refine ⟨_,ag8,fun p q d x y H Q h rx ry k=>?_⟩
 unfold aff at h
 split at h
 ·rename_i ds n
  split at h
  ·rename_i hc
   cases h
   obtain ⟨l,us,e1,e2,e3⟩:=rx
   cases (show y=V.int n from ry)
   have hl:=e3.length
   refine ⟨l,n,us,e1,rfl,e2,by omega,by omega,?_,fun p hp=>?_⟩
   ·rw [sizeLine_eq]
    have h1:us.length*n.toNat<=1000*1000:=Nat.mul_le_mul (by omega) (by omega)
    exact Nat.le_trans h1 (by decide)
   ·have s1:=jx (o:= .lst (List.replicate n.toNat us).flatten) hp
    exact k _ _ s1 ⟨p,_,rfl,jp,Reps.mono s1 _ _ (e3.rep _)⟩
  ·cases h
 ·cases h
theorem Qj:∀ {is:List Int}{us:List Value},jF (is.map V.int) us->∀ (j:Nat) (i:Int),is[j]?=some i->∃ t,us[j]?=some (.int i t)
 | [],us,r,j,i,h=>by simp at h
 | i0::is,u::us,.cons r rr,j,i,h=>by
  cases j with
  | zero=>cases h; obtain ⟨t,rfl⟩:=r; exact ⟨t,rfl⟩
  | succ j=>exact Qj rr j i (by simpa using h)
end
structure OneCell (sc:Scope) (y0:Str) (pre post:List (Str × NameKind)):Prop where
 split:sc.names=pre++(y0,.cell)::post
 pre:∀ x ∈ pre,x.2 ≠ .cell
 post:∀ x ∈ post,x.2 ≠ .cell
structure CompOk1 (X:Cx) (sc:Scope) (N':List Str) (cap:List (Option Nat)) (y0:Str):Prop where
 fr:∀ x ∈ sc.names,x.2= .free->X.env.kindOf x.1=some .cell ∨ X.env.kindOf x.1=some .free
 one:∃ pre post,OneCell sc y0 pre post
 lk:sc.names.lookup y0=some .cell
 kind:sc.kind= .function
 nm:∀ x ∈ sc.names,x.2= .local->sc.names.lookup x.1=some .local
 len:cap.length=N'.length
 cp:∀ (j i:Nat) (x:Str),N'[j]?=some x->cap[j]?=some (some i)->X.N[i]?=some x/\sc.names.lookup x=some .free
section
variable {X:Cx}{e:Expr}{fa:Rho->Option PyData}
end
theorem ajI {X : Cx} {i0 : Nat} {x0 : Str} {pos0 pos1 : Pos} {el tg src : Expr} {ts : List Expr} {sc : Scope} {ps : Pos} {wi : TI} {g : TG} {tt : TT} {te : TE} {N' : List Str} {cap : List (Option Nat)} (hc : X.calm = true) (hi : PI X tg src wi) (ok : CompOk X sc N' cap)
    (body : ∀ cl C s0 H0 fp pn, PG (blk X N' sc cl C s0 H0 fp pn) tg g /\ PTs (blk X N' sc cl C s0 H0 fp pn) ts tt /\ PE (blk X N' sc cl C s0 H0 fp pn) el te)
    (hN : X.N.Nodup) (hi0 : X.N[i0]? = some x0) (hx0 : Loc X.env.scope x0) (hsw : swapsWith (.ListComp el [⟨tg, src, ts, 0⟩] sc ps) (some (.Name x0 pos0)) pos1.line X.env = pure true)
    (hf0 : X.fn x0 = true ∨ X.env.scope.names.lookup x0 = some .local)
    (hs : ∀ x, foldedSetIterable src X.env x = pure x := by intro _; rfl) : PS X (.Assign [.Name x0 pos0] (.ListComp el [⟨tg, src, ts, 0⟩] sc ps) pos1) (akP (ahf wi cap g tt te) (agX i0)) := by
  intro pins s σ H Dn I h
  have hfr : ∀ x ∈ sc.names, x.2 = .free -> ∃ c, X.env.cells.lookup x.1 = some c := fun x hx e => I.ok.has x.1 (ok.fr x hx e)
  have hcl := ae5 sc X.env hfr
  have clm : ∀ x c, (JM X.env sc.names []).lookup x = some c -> X.env.cells.lookup x = some c := fun x c e =>
    Zn X.env sc.names [] hfr (fun _ z => nomatch z) (x, c) (PySem.mem_of_lookup e)
  generalize hgl : JM X.env sc.names [] = cl at hcl clm
  rw [exec_Assign_Name_used _ _ _ _ hsw]
  refine wpAny_bind (wpAny_standAt (wpAny_bind ?_))
  show wpAny _ X.A (do let _ ← comprehension (.ListComp el [⟨tg, src, ts, 0⟩] sc ps) sc X.env _ (newList []) false (eval src X.env) (some (assign (.Name x0 pos0) X.env))) _ _ s
  refine wpAny_bind (wpAny_mono (wpAny_comprehension_free (use := some (assign (.Name x0 pos0) X.env)) (Q := fun _ s' => SP X pins Dn .next s') rfl hs hcl ok.kind ok.nm ?_) (fun _ s' hq => wpAny_pure (wpAny_pure hq)) fun _ _ e => e)
  refine thn (hi pins s σ H _ I h) fun v s1 h1 => thn h1 fun itv s2 h2 => ?_
  obtain ⟨it, fp, tn, J, H2, e, I2, T, st2, f2, W, ⟨m0, w0⟩, turn⟩ := h2
  subst e
  refine wpAny_newObj_type (wpAny_newFunctionEnv ok.nc (by intro y hy; simp at hy) (fun h4 hns hsb => ?_) ok.kind)
  dsimp only at hns hsb ⊢
  generalize hH3 : s2.heap.push { cls := .type "list", dict := none, data := .seq ([] : List Value).toArray } = h3 at hns hsb ⊢
  have hC : h3.objs.size = s2.heap.objs.size + 1 := by rw [← hH3, Heap.size_push]
  generalize hCC : h3.objs.size = C at hns hsb hC ⊢
  generalize hDD : s2.heap.objs.size = D at hC ⊢
  have hDC : D ≠ C := by rw [hC]; exact Nat.ne_of_lt (Nat.lt_succ_self _)
  have old : ∀ b o, s2.heap.get? b = some o -> h4.get? b = some o := fun b o e => hsb.extBut b o (by have := Heap.lt_size e; rw [hDD] at this; rw [hC]; exact Nat.ne_of_lt (Nat.lt_succ_of_lt this)) (Heap.get?_push_of_some _ (hH3 ▸ Heap.get?_push_of_some _ e))
  have accO : h4.get? D = some { cls := .type "list", data := .seq ([] : List Value).toArray 0 } := hsb.extBut _ _ hDC (Heap.get?_push_of_some _ (by rw [← hH3, ← hDD]; exact Heap.get?_push_size _ rfl))
  have H2D : H2 D = none := I2.hok.fresh (by rw [hDD]; exact Nat.le_refl _)
  have H2C : H2 C = none := I2.hok.fresh (by rw [hDD, hC]; exact Nat.le_succ _)
  have cellsLt : ∀ x c, X.env.cells.lookup x = some c -> c < D := fun x c e => by
    obtain ⟨v, q⟩ := I2.cell x c e
    rw [← hDD]; exact q.lt
  have pinLt : ∀ p ∈ X.pn ++ pins, p.1 < D := fun p hp => by rw [← hDD]; exact Heap.lt_size (I2.pin p hp).1
  have stkLt : ∀ b ∈ frs X.stack, b < D := fun b hb => by
    obtain ⟨_, o, ho, _⟩ := I2.stack.mem hb
    rw [← hDD]; exact Heap.lt_size ho
  have fpLt : ∀ b ∈ fp, b < D := fun b hb => by
    obtain ⟨o, ho, _⟩ := T.obj _ _ st2 b hb
    rw [← hDD]; exact Heap.lt_size ho
  have ltC : ∀ {b : Addr}, b < D -> b ≠ C := fun hb => by rw [hC]; exact Nat.ne_of_lt (Nat.lt_succ_of_lt hb)
  have locLt : X.env.locals < D := by rw [← hDD]; exact I2.lt
  have hDge : s2.heap.objs.size <= D := by rw [hDD]; exact Nat.le_refl _
  have hCge : s2.heap.objs.size <= C := by rw [hDD, hC]; exact Nat.le_succ _
  have bok : (blk X N' sc cl C s2 H2 fp (X.pn ++ pins)).Ok := by
    refine ⟨I2.ok.mod, ok.kind, I2.ok.glob, I2.ok.blt, hCge, fun x y c e1 e2 => I2.ok.inj x y c (clm x c e1) (clm y c e2), fun x hx => ?_, fun x c z _ => ?_, I2.ok.hd, I2.ok.frames, .inl rfl, fun b hb => ?_, I2.bs, Nat.le_trans I2.ok.bsz I2.sz, fun b o e hb => ?_, fun b hb z => ?_, I2.stack, I2.stkFree⟩
    · have hx' : (relabel sc X.env).names.lookup x = some .cell ∨ (relabel sc X.env).names.lookup x = some .free := hx
      have hm : (x, NameKind.free) ∈ sc.names := by
        rcases hx' with z | z
        · exact zS (PySem.mem_of_lookup z) ok.nc (.inl rfl)
        · exact zS (PySem.mem_of_lookup z) ok.nc (.inr rfl)
      obtain ⟨c, hc⟩ := Jj X.env sc.names [] x hm
      rw [hgl] at hc
      exact qH hc
    · exact absurd (show false = true from z) Bool.false_ne_true
    · exact ⟨ltC (fpLt b hb), fun x c e => (f2 b hb).2.2.2.2.1 x c (clm x c e)⟩
    · rcases (f2 b hb).2.2.2.1 with z | z
      · exact I2.ok.noex b o e z
      · have := Heap.lt_size e
        exact absurd (Nat.lt_of_lt_of_le this (Nat.le_trans I2.ok.bsz z)) (Nat.lt_irrefl _)
    · rcases List.mem_cons.mp (I2.stkSub b z) with q | q
      · exact (f2 b hb).2.1 q
      · exact (f2 b hb).2.2.1 q
  have pinB : ∀ p ∈ X.pn ++ pins, p.1 ≠ C /\ p.1 ∉ frs X.stack := fun p hp => ⟨ltC (pinLt p hp), fun z => by
    rcases List.mem_cons.mp (I2.stkSub p.1 z) with q | q
    · exact (I2.pin p hp).2.2.1 q
    · exact (I2.pin p hp).2.2.2.1 q⟩
  have I4 : Inv (blk X N' sc cl C s2 H2 fp (X.pn ++ pins)) [] (ZZ cap σ) H2 { s2 with heap := h4, toks := s2.toks + ([] : List (Str × Value)).length } := by
    refine ⟨bok, rfl, I2.bare, Un.kept old, ⟨_, hns, fun j x v e1 e2 e3 => ?_⟩, fun x c e => ?_, H2C, fun x c e => I2.freeC x c (clm x c e), fun p hp => ?_, I2.hok.kept old, ?_⟩
    · unfold ZZ at e2
      rw [List.getElem?_map] at e2
      cases e4 : cap[j]? with
      | none => rw [e4] at e2; cases e2
      | some o =>
        rw [e4] at e2
        cases o with
        | none => cases e2
        | some i =>
          obtain ⟨hNi, hf⟩ := ok.cp j i x e1 e4
          have e5 : (σ[i]?).join = some v := by
            have := Option.some.inj e2
            simpa using this
          have e6 : σ[i]? = some (some v) := by
            cases e7 : σ[i]? with
            | none => rw [e7] at e5; cases e5
            | some z => rw [e7] at e5; cases z with
              | none => cases e5
              | some z => cases e5; rfl
          have hk := ok.fr (x, .free) (PySem.mem_of_lookup hf) rfl
          obtain ⟨m, hn, hl⟩ := I2.loc
          have hv : Vis X.env.scope x := by
            rcases hk with z | z
            · exact .inr (.inl z)
            · exact .inr (.inr z)
          obtain ⟨u, r, lk⟩ := hl i x v hNi e6 hv
          have cellX : ∃ c, X.env.cells.lookup x = some c /\ s2.heap.IsCell c (some u) := by
            rcases lk with ⟨k1, _⟩ | ⟨_, c, e, z⟩
            · rcases hk with z | z
              · have z' : X.env.kindOf x = some .cell := z
                rw [k1] at z'; cases z'
              · have z' : X.env.kindOf x = some .free := z
                rw [k1] at z'; cases z'
            · exact ⟨c, e, z⟩
          obtain ⟨c, hc1, ob, hc2, hc3⟩ := cellX
          obtain ⟨c', hc'⟩ := Jj X.env sc.names [] x (PySem.mem_of_lookup hf)
          rw [hgl] at hc'
          obtain ⟨d, hd⟩ := qH hc'
          have ed : d = c := by
            have := clm x d hd
            rw [hc1] at this; cases this; rfl
          subst ed
          refine ⟨u, r, .inr ⟨?_, d, hd, ob, old _ _ hc2, hc3⟩⟩
          exact Jv hf
    · obtain ⟨v, ob, ho, hd⟩ := I2.cell x c (clm x c e)
      exact ⟨v, ob, old _ _ ho, hd⟩
    · have hp' : p ∈ X.pn ++ pins := by simpa [blk] using hp
      obtain ⟨e1, e2, e3, e4, e5⟩ := I2.pin p hp'
      exact ⟨old _ _ e1, e2, (pinB p hp').1, (pinB p hp').2, e5⟩
    · show (ZZ cap σ).length = N'.length
      unfold ZZ
      rw [List.length_map]; exact ok.len
  have fpB : ∀ {H' : Hp} {pl : List (Addr × Obj)}, (∀ b ∈ fp, H' b = none) -> (∀ p ∈ pl, p.1 ∉ fp) -> ∀ b ∈ fp, ac0 (blk X N' sc cl C s2 H2 fp (X.pn ++ pins)) pl H' b := fun {H' pl} hn hpl b hb =>
    ⟨hn b hb, ltC (fpLt b hb), bok.exfs b hb, .inl hb, fun x c e => (f2 b hb).2.2.2.2.1 x c (clm x c e), fun p hp z => by
      rcases List.mem_append.mp (show p ∈ (X.pn ++ pins) ++ pl from hp) with q | q
      · exact (f2 b hb).2.2.2.2.2 p q z
      · exact hpl p q (by rw [z]; exact hb)⟩
  have Dfp : ∀ (o : Obj), ∀ p ∈ [(D, o)], p.1 ∉ fp := fun o p hp z => by
    have e : p = (D, o) := by simpa using hp
    subst e
    exact Nat.lt_irrefl _ (fpLt D z)
  have Dfs : D ∉ frs X.stack := fun z => Nat.lt_irrefl _ (stkLt D z)
  obtain ⟨bG, bT, bE⟩ := body cl C s2 H2 fp (X.pn ++ pins)
  have loop : codeAny (model X.prog X.w) X.A (.compLoop (.ListComp el [⟨tg, src, ts, 0⟩] sc ps) 0 (.ref it) (.ref D) (compEnvC sc cl C X.env)) (compPost (model X.prog X.w) X.A X.xe (some (assign (.Name x0 pos0) X.env)) (fun _ s' => SP X pins Dn .next s') (.ref D) C)
      { s2 with heap := h4, toks := s2.toks + ([] : List (Str × Value)).length } := by
    refine abz (fun n s' => ∃ i τ ys us k H', Inv (blk X N' sc cl C s2 H2 fp (X.pn ++ pins)) [] τ H' s' /\ tn i s'.heap /\ (∀ b ∈ fp, H' b = none) /\ jF ys us /\ s'.heap.get? D = some { cls := .type "list", data := .seq us.toArray k } /\ H' D = none /\ W i n τ ys H') ?_ m0
      ⟨0, _, [], [], 0, H2, I4, T.keep _ _ _ st2 (fun b _ o e => old b o e), fun b hb => (f2 b hb).1, .nil, accO, H2D, w0⟩
    rintro n s5 ⟨i, τ, ys, us, k, H5, I5, st5, fr5, rv5, ho5, hD5, w5⟩
    obtain ⟨hsz, alt⟩ := turn i n τ ys H5 w5
    have I5p : Inv (blk X N' sc cl C s2 H2 fp (X.pn ++ pins)) [(D, { cls := .type "list", data := .seq us.toArray k })] τ H5 s5 := I5.pins_of fun p hp => by
      have e : p = (D, { cls := .type "list", data := .seq us.toArray k }) := by simpa using hp
      subst e
      exact ⟨ho5, hD5, hDC, Dfs, fun v z => by cases z⟩
    rcases alt with ⟨stop, fin⟩ | ⟨go, step⟩
    · refine thn (T.done (blk X N' sc cl C s2 H2 fp (X.pn ++ pins)) rfl rfl rfl hc i _ s5 τ H5 NoX I5p (fpB fr5 (Dfp _)) st5 stop) fun r s6 ⟨hr, I6⟩ => ?_
      subst hr
      have ho6 := (I6.pin (D, _) (List.mem_append_right _ (List.mem_singleton.mpr rfl))).1
      obtain ⟨m6, hn6, _⟩ := I6.loc
      have J6 : Inv X pins σ H5 s6 := I2.call' (ch := fp) I6.os I6.base I6.hok I6.bare fun b hb => ⟨(f2 b hb).2.2.2.1, (f2 b hb).2.1, (f2 b hb).2.2.2.2.1, (f2 b hb).2.2.2.2.2⟩
      have H5C : H5 C = none := I6.free
      have J7 : Inv X pins σ (upd H5 D (.lst ys)) s6 := Inv.track J6 hD5 (Nat.le_trans I2.sz hDge) (Ne.symm (Nat.ne_of_lt locLt)) (fun x c e => Nat.ne_of_lt (cellsLt x c e)) (fun p hp => Nat.ne_of_lt (pinLt p hp)) ⟨Nat.le_of_lt hsz, us, k, rv5, ho6⟩
      refine wpAny_assign_Name (abo J7 hN hi0 hx0 (show jJ (.ref D) (.ref D) from rfl) (fun s8 I8 ⟨a, sb, ha⟩ => ?_) hf0)
      have aC : C ≠ a := by
        rcases ha with z | z
        · rw [z]; exact Ne.symm (ltC locLt)
        · exact Ne.symm (ltC (cellsLt _ _ z))
      refine ⟨m6, hn6.sameBut sb aC, fun h7 hs7 => ?_⟩
      have J8 : Inv X pins (σ.set i0 (some (.ref D))) (upd H5 D (.lst ys)) { s8 with heap := h7, toks := s8.toks } := I8.turned (it := C) (fun b o hb e => hs7.extBut b o hb e) (by rw [jn (Ne.symm hDC)]; exact H5C) (Ne.symm (ltC locLt)) (.inr (Nat.le_trans I2.sz hCge)) (fun x c e => ltC (cellsLt x c e)) (fun p hp => ltC (pinLt p hp))
      exact ⟨_, _, J8, fin D hD5⟩
    · refine thn (T.item (blk X N' sc cl C s2 H2 fp (X.pn ++ pins)) rfl rfl rfl hc i _ s5 τ H5 NoX I5p (fpB fr5 (Dfp _)) st5 go) fun r s6 ⟨u, hr, h6⟩ => ?_
      subst hr
      refine thn h6 fun _ s7 ⟨x, H7, I7, r7, y7, st7, fr7⟩ => ?_
      have I7p := I7.pinned (fpB fr7 (Dfp _)) (T.obj _ _ st7)
      refine thn (bG _ s7 τ H7 x u _ I7p r7 (step x H7 y7)) fun _ s8 ⟨τ8, H8, I8, q8⟩ => ?_
      have back : ∀ {τ9 : St} {H9 : Hp} {s9 : Shared}, Inv (blk X N' sc cl C s2 H2 fp (X.pn ++ pins)) ([(D, { cls := .type "list", data := .seq us.toArray k })] ++ Zl fp s7.heap) τ9 H9 s9 ->
          tn (i + 1) s9.heap /\ (∀ b ∈ fp, H9 b = none) /\ s9.heap.get? D = some { cls := .type "list", data := .seq us.toArray k } /\ H9 D = none := fun {τ9 H9 s9} I9 => by
        have pD := I9.pin (D, { cls := .type "list", data := .seq us.toArray k }) (List.mem_append_right _ (List.mem_append_left _ (List.mem_singleton.mpr rfl)))
        refine ⟨T.keep _ _ _ st7 fun b hb o e => (I9.pin (b, o) (List.mem_append_right _ (List.mem_append_right _ (qY hb e)))).1, fun b hb => ?_, pD.1, pD.2.1⟩
        obtain ⟨o, e, _⟩ := T.obj _ _ st7 b hb
        exact (I9.pin (b, o) (List.mem_append_right _ (List.mem_append_right _ (qY hb e)))).2.1
      have drop : ∀ {τ9 : St} {H9 : Hp} {s9 : Shared} {pl : List (Addr × Obj)}, Inv (blk X N' sc cl C s2 H2 fp (X.pn ++ pins)) pl τ9 H9 s9 -> Inv (blk X N' sc cl C s2 H2 fp (X.pn ++ pins)) [] τ9 H9 s9 := fun I9 => I9.pins_of fun p hp => nomatch hp
      refine thn (bT _ s8 τ8 H8 _ I8 q8) fun b s9 ⟨H9, I9, q9⟩ => ?_
      cases b with
      | false =>
        rw [if_neg Bool.false_ne_true] at q9 ⊢
        obtain ⟨m', hm, w9⟩ := q9
        obtain ⟨t9, f9, o9, d9⟩ := back I9
        exact ⟨m', hm, i + 1, τ8, ys, us, k, H9, drop I9, t9, f9, rv5, o9, d9, w9⟩
      | true =>
        rw [if_pos rfl] at q9 ⊢
        refine thn (bE _ s9 τ8 H9 _ I9 q9) fun y s10 ⟨z, H10, I10, r10, q10⟩ => ?_
        obtain ⟨m', hm, w10⟩ := q10
        obtain ⟨t10, f10, o10, d10⟩ := back I10
        have hl := rv5.length
        refine append_at (hsz := by show us.toArray.size <= sizeLine; rw [List.size_toArray, ← hl]; exact Nat.le_of_lt hsz) o10 fun h11 hs11 hD11 => ?_
        have I11 : Inv (blk X N' sc cl C s2 H2 fp (X.pn ++ pins)) [] τ8 H10 { s10 with heap := h11, toks := s10.toks } := (drop I10).turned (it := D) (fun b o hb e => hs11.extBut b o hb e) d10 hDC (.inr hDge) (fun x c e => Nat.ne_of_lt (cellsLt x c (clm x c e)))
          (fun p hp => by have hp' : p ∈ X.pn ++ pins := by simpa [blk] using hp
                          exact Nat.ne_of_lt (pinLt p hp'))
        refine ⟨m', hm, i + 1, τ8, ys ++ [z], us ++ [y], k + 1, H10, I11, T.keep _ _ _ t10 (fun b hb o e => hs11.extBut b o (Nat.ne_of_lt (fpLt b hb)) e), f10, rv5.append (.cons r10 .nil), ?_, d10, w10⟩
        rw [hD11]
        simp
  refine codeAny_compStart_list loop ?_
  exact T.self _ 0 _ _ _ (T.keep _ _ _ st2 (fun b _ o e => old b o e)) loop
theorem ahW {K:PySem.W.Frag}{fi:Rho->Option (List PyData)}{cap:List (Option Nat)}{ga:PyData->Rho->Option Rho}{ft:Rho->Option Bool}{fe:Rho->Option PyData}{σ:St}{H:Hp}{Q:VK} (h:tD K (qK fi cap ga ft fe) σ H Q):
  ahf (tDI K fi) cap (tDG K ga) (tDT K ft) (tD K fe) σ H Q:=by
 obtain ⟨ρ,d,en,q,k⟩:=h
 cases h1:fi ρ with
 | none=>simp [qK,h1] at q
 | some ds=>
  by_cases hf:few ds=true
  ·cases h2:jW ga ft fe ds (JV cap ρ) with
   | none=>simp [qK,h1,hf,h2] at q
   | some ys=>
    have:PyData.list ys=d:=by simpa [qK,h1,hf,h2] using q
    subst this
    refine ⟨ρ,ds,en,h1,fun J H1 s1 Y=>?_⟩
    refine ⟨fun i m τ us H2=>m=ds.length - i/\i<=ds.length/\jr H1 H2/\us.length<=i/\∃ ρ2 zs ws,EnvR K H2 ρ2 τ/\Reps K H2 zs us/\jW ga ft fe (ds.drop i) ρ2=some ws/\ys=zs++ws,
     ⟨ds.length,by simp,Nat.zero_le _,jr.refl _,Nat.le_refl _,JV cap ρ,[],ys,(en.mono s1).cap cap,rfl,by simpa using h2,rfl⟩,?_⟩
    rintro i m τ us H2 ⟨rfl,hi',s2,hu,ρ2,zs,ws,en2,r2,q2,ey⟩
    have hsm:us.length < sizeLine:=Nat.lt_of_le_of_lt (Nat.le_trans hu hi') (Nat.lt_of_lt_of_le (by simpa [few] using hf) (by rw [sizeLine_eq]; decide:1000000<=sizeLine))
    obtain ⟨g1,g2,g3⟩:=Y i H2 (jr.e s2)
    refine ⟨hsm,?_⟩
    by_cases hlt:i < ds.length
    ·right
     have hd:ds.drop i=ds[i]::ds.drop (i+1):=List.drop_eq_getElem_cons hlt
     rw [hd] at q2
     refine ⟨g1 hlt,fun x H3 y=>?_⟩
     obtain ⟨s3,r3⟩:=g3 x H3 y
     have r3':=r3 ds[i] (by simp [hlt])
     cases h4:ga ds[i] ρ2 with
     | none=>simp [jW,h4] at q2
     | some ρ4=>
      refine ⟨ρ2,ds[i],ρ4,en2.mono s3,r3',h4,fun σ5 H5 s5 en5=>?_⟩
      cases h5:ft ρ4 with
      | none=>simp [jW,h4,h5] at q2
      | some b=>
       refine ⟨ρ4,b,en5,h5,fun H6 s6=>?_⟩
       have s26:=s3.trans (s5.trans s6)
       cases b with
       | false=>
        refine ams ?_
        exact ⟨ds.length - (i+1),by omega,rfl,hlt,s2.trans s26,by omega,ρ4,zs,ws,en5.mono s6,Reps.mono s26 _ _ r2,by simpa [jW,h4,h5] using q2,ey⟩
       | true=>
        refine amt ?_
        cases h6:fe ρ4 with
        | none=>simp [jW,h4,h5,h6] at q2
        | some y=>
         cases h7:jW ga ft fe (ds.drop (i+1)) ρ4 with
         | none=>simp [jW,h4,h5,h6,h7] at q2
         | some ws'=>
          have hw:y::ws'=ws:=by simpa [jW,h4,h5,h6,h7] using q2
          refine ⟨ρ4,y,en5.mono s6,h6,fun v H7 s7 r7=>?_⟩
          refine ⟨ds.length - (i+1),by omega,rfl,hlt,s2.trans (s26.trans s7),by rw [List.length_append]; simp; omega,ρ4,zs++[y],ws',(en5.mono s6).mono s7,(Reps.mono (s26.trans s7) _ _ r2).append ⟨v,[],rfl,r7,rfl⟩,h7,?_⟩
          rw [ey,←hw]; simp
    ·left
     have he:i=ds.length:=by omega
     have hn:ds.drop i=[]:=by rw [he]; simp
     rw [hn] at q2
     have hw:[]=ws:=by simpa [jW] using q2
     subst hw
     have ey':ys=zs:=by simpa using ey
     subst ey'
     exact ⟨g2 (by omega),fun l hl=>k _ _ (s1.trans (s2.trans (jx hl))) ⟨l,us,rfl,jp,Reps.mono (jx hl) _ _ r2⟩⟩
  ·simp [qK,h1,hf] at q
section
variable {X:Cx}{tg src:Expr}{pos pos':Pos}
end
structure Mine (X:Cx) (H:Hp) (b:Addr):Prop where
 un:H b=none
 new:X.s₀.heap.get? b=none
 loc:b ≠ X.env.locals
 cel:∀ x c,X.env.cells.lookup x=some c->c ≠ b
 pin:∀ p ∈ X.pn,p.1 ≠ b
structure Xc (X:Cx) (H:Hp) (h:Heap) (e C:Addr):Prop where
 mine:Mine X H e
 ob:∃ oe vs,h.get? e=some oe/\(oe.cls= .ref C/\oe.dict=none)/\oe.data= .fields vs/\1 < vs.size/\
  (vs[1]?=some .none ∨ ∃ T oT ts,vs[1]?=some (.ref T)/\T ≠ e/\Mine X H T/\h.get? T=some oT/\oT.data= .fields ts/\3 < ts.size)
theorem Inv.exIn {X:Cx}{pins:List (Addr × Obj)}{σ:St}{H:Hp}{s:Shared}{ch:List Addr} (I:Inv X pins σ H s) (hn:∀ b ∈ ch,X.s₀.heap.get? b=none/\b ≠ X.env.locals/\∀ x c,X.env.cells.lookup x=some c->c ≠ b):Inv { X with ex:=ch++X.ex } pins σ H s:=by
 have no:∀ b,b ∉ ch++X.ex->b ∉ X.ex:=fun b h z=>h (List.mem_append_right _ z)
 refine ⟨⟨I.ok.mod,I.ok.kind,I.ok.glob,I.ok.blt,I.ok.above,I.ok.inj,I.ok.has,I.ok.cab,I.ok.hd,I.ok.frames,I.ok.stk,fun b hb=>?_,I.ok.bs,I.ok.bsz,fun b o e hb=>?_,fun b hb z=>?_,I.ok.funs,I.ok.frf⟩,I.os,I.bare,
  ⟨fun b o e n hf hx=>I.base.keep b o e n hf (no b hx),fun b o e n hf hx=>I.base.slot b o e n hf (no b hx),fun b o e n hx=>I.base.free b o e n (no b hx),fun b o e hx=>I.base.there b o e (no b hx),I.base.tups,I.base.frzs,I.base.tbls⟩,I.loc,I.cell,I.free,I.freeC,I.pin,I.hok,I.len⟩
 ·rcases List.mem_append.mp hb with q | q
  ·exact (hn b q).2
  ·exact I.ok.exf b q
 ·rcases List.mem_append.mp hb with q | q
  ·have:=(I.ok.bs b o e).1
   rw [(hn b q).1] at this; cases this
  ·exact I.ok.noex b o e q
 ·rcases List.mem_append.mp hb with q | q
  ·obtain ⟨_,o,ho,_⟩:=I.ok.funs.mem z
   rw [(hn b q).1] at ho; cases ho
  ·exact I.ok.exfs b q z
theorem Inv.exOut {X:Cx}{pins:List (Addr × Obj)}{σ:St}{H:Hp}{s:Shared}{ch:List Addr} (I:Inv { X with ex:=ch++X.ex } pins σ H s) (ok:X.Ok) (hn:∀ b ∈ ch,X.s₀.heap.get? b=none):Inv X pins σ H s:=by
 have no:∀ b o,X.s₀.heap.get? b=some o->b ∉ X.ex->b ∉ ch++X.ex:=fun b o e h z=>by
  rcases List.mem_append.mp z with q | q
  ·rw [hn b q] at e; cases e
  ·exact h q
 exact ⟨ok,I.os,I.bare,⟨fun b o e n hf hx=>I.base.keep b o e n hf (no b o e hx),fun b o e n hf hx=>I.base.slot b o e n hf (no b o e hx),fun b o e n hx=>I.base.free b o e n (no b o e hx),fun b o e hx=>I.base.there b o e (no b o e hx),I.base.tups,I.base.frzs,I.base.tbls⟩,I.loc,I.cell,I.free,I.freeC,I.pin,I.hok,I.len⟩
section
variable {X:Cx}{σ:St}{H:Hp}{s:Shared}{h':Heap}{e C:Addr}{E:Value->Shared->Prop}{A:Around}
theorem Inv.shake {ch:List Addr} (I:Inv X [] σ H s) (hm:∀ b ∈ ch,Mine X H b) (keep:∀ b o,b ∉ frs X.stack->b ∉ ch->s.heap.get? b=some o->h'.get? b=some o)
  (slot:∀ b o,b ∈ frs X.stack->b ∉ ch->s.heap.get? b=some o->∃ sl,h'.get? b=some { o with slots:=sl }):Inv X [] σ H { s with heap:=h' }:=by
 have u:Un (frs X.stack) ch H H s.heap h':=⟨fun b o q _ nf nc=>keep b o nf nc q,fun b o q _ hf nc=>slot b o hf nc q,fun _ _ _ n _=>n,fun b o q nc=>by
  by_cases hf:b ∈ frs X.stack
  ·obtain ⟨sl,z⟩:=slot b o hf nc q; exact ⟨_,z⟩
  ·exact ⟨o,keep b o hf nc q⟩,fun _ _ q=>q,fun _ _ _ q=>q,fun _ ps q=>⟨#[],by rw [q]; simp⟩⟩
 have hok:HOk X.prog X.w H h':=fun b o q=>(I.hok b o q).stay (fun c v hc r=>by
  have hb:H c ≠ none:=by
   rcases hc with rfl | hc
   ·rw [q]; exact fun z=>nomatch z
   ·rw [hc]; exact fun z=>nomatch z
  exact keep c v (fun z=>hb (I.stkFree c z)) (fun z=>hb (hm c z).un) r) (fun _ r=>r) fun _ _ r=>r
 exact Inv.exOut (Inv.call (X:={ X with ex:=ch++X.ex }) (g':=s.gens) (d':=s.drawn) (t':=s.toks) (Inv.exIn I fun b hb=>⟨(hm b hb).new,(hm b hb).loc,(hm b hb).cel⟩) u hok I.bare fun b hb=>⟨.inl (List.mem_append_left _ hb),(hm b hb).loc,(hm b hb).cel,fun p hp=>(hm b hb).pin p (by simpa using hp)⟩) I.ok fun b hb=>(hm b hb).new
structure XcT (X:Cx) (H:Hp) (h:Heap) (e C:Addr):Prop where
 mine:Mine X H e
 ob:∃ oe vs T oT ts,h.get? e=some oe/\(oe.cls= .ref C/\oe.dict=none)/\oe.data= .fields vs/\vs[1]?=some (.ref T)/\T ≠ e/\Mine X H T/\h.get? T=some oT/\oT.data= .fields ts/\3 < ts.size
theorem XcT.c {h:Heap} (x:XcT X H h e C):Xc X H h e C:=by
 obtain ⟨oe,vs,T,oT,ts,h1,h2,h3,h4,h5,h6,h7,h8,h9⟩:=x.ob
 exact ⟨x.mine,oe,vs,h1,h2,h3,(Array.getElem?_eq_some_iff.mp h4).1,.inr ⟨T,oT,ts,h4,h5,h6,h7,h8,h9⟩⟩
structure Top0 (X:Cx):Prop where
 st:X.stack=X.env::X.outer
 fr:X.env.frame=some X.env.locals
 ex:X.ex=[]
theorem Mine.nofr {b:Addr} (m:Mine X H b) (I:Inv X [] σ H s):b ∉ frs X.stack:=fun z=>by
 rcases List.mem_cons.mp (I.stkSub b z) with q | q
 ·exact m.loc q
 ·obtain ⟨_,o,ho,_⟩:=I.ok.funs.mem q
  rw [m.new] at ho; cases ho
theorem ajJ {P:Program}{w:World}{h:Heap}{b:Addr}{u:HO} (hok:HOk P w H h) (hH:H b=some u) (hb:h.get? b=none):False:=by
 have x:=hok b u hH
 have no:∀ {o:Obj},h.get? b=some o->False:=fun {o} q=>by rw [hb] at q; cases q
 cases u with
 | lst xs=>obtain ⟨_,_,_,_,e⟩:=x; exact no e
 | tup xs=>obtain ⟨_,_,_,⟨_,e,_⟩⟩:=x; exact no e
 | dK kvs=>obtain ⟨_,_,_,_,o,_,_,e,_⟩:=x; exact no e
 | dT kvs=>obtain ⟨_,_,_,_,o,_,_,e,_⟩:=x; exact no e
 | set S n=>obtain ⟨o,_,_,_,e,_⟩:=x; exact no e
 | ins C dx fs=>obtain ⟨_,_,_,e,_⟩:=x; exact no e
 | own y=>obtain ⟨_,e⟩:=x; exact no e
 | xd fs=>obtain ⟨_,⟨_,_,_,e,_⟩,_⟩:=x; exact no e
 | rng lo hi=>obtain ⟨_,_,_,e⟩:=x; exact no e
 | frz ob u=>obtain ⟨e,_⟩:=x; exact no e
 | tbl ps=>exact no (show h.get? b=some _ from x)
 | met f y=>exact no (show h.get? b=some _ from x)
 | ext φ=>obtain ⟨_,⟨_,e⟩,_⟩:=x; exact no e
theorem aaL (hx:X.ex=[]) (I:Inv X [] σ H s) {b:Addr} (hb:s.heap.get? b=none):Mine X H b:=by
 have no:∀ {o:Obj},s.heap.get? b=some o->False:=fun {o} q=>by rw [hb] at q; cases q
 refine ⟨?_,?_,fun z=>?_,fun x c q z=>?_,fun p hp z=>?_⟩
 ·cases hH:H b with
  | none=>rfl
  | some u=>exact (ajJ I.hok hH hb).elim
 ·cases h0:X.s₀.heap.get? b with
  | none=>rfl
  | some o=>
   obtain ⟨o',q⟩:=I.base.there b o h0 (by rw [hx]; simp)
   exact (no q).elim
 ·subst z
  obtain ⟨m,⟨o,_,_,ho,_⟩,_⟩:=I.loc
  exact no ho
 ·obtain ⟨v,o,ho,_⟩:=I.cell x c q
  subst z
  exact no ho
 ·have:=(I.pin p (List.mem_append_left _ hp)).1
  rw [z] at this
  exact no this
theorem adn {oe:Obj}{vs:Array Value}{head:Value}{hadNext:Bool} (T0:Top0 X) (hA:A.frames=some X.stack) (I:Inv X [] σ H s) (me:Mine X H e) (he:s.heap.get? e=some oe) (hc:oe.cls= .ref C/\oe.dict=none) (hd:oe.data= .fields vs) (hsz:1 < vs.size):
  wpAny (model X.prog X.w) A (do let a ←frameOf X.env; let pl ←entryPlaceOf X.env.locals hadNext; let b ←EntryCells.newEntry head a .none (rawInt X.env.locals) .none pl; setField (.ref e) 1 b) (fun _ s'=>Inv X [] σ H s'/\XcT X H s'.heap e C) E s:=by
 have hst:=T0.st
 have hfn:=I.stack
 rw [hst] at hfn hA
 have hene:e ∉ (X.env::X.outer).filterMap (·.frame):=by
  have:=me.nofr I
  rw [hst] at this; exact this
 refine wpAny_bind (wpAny_frameOf_fun hA hfn T0.fr fun h₁ hs₁=>?_)
 refine wpAny_bind (wpAny_entryPlaceOf fun pl hpl=>?_)
 unfold EntryCells.newEntry newFields
 refine wpAny_bind (wpAny_newObj_type ?_ (hpl.sizeOk5 _ _ _ _ _))
 have he₁:h₁.get? e=some oe:=(hs₁.2.1 e hene).trans he
 generalize hob:({ cls:= .type "traceback",dict:=none,data:= .fields ([head,Value.ref X.env.locals,.none,rawInt X.env.locals,.none]++(if pl.isEmpty then List.replicate 6 Value.none else pl)).toArray }:Obj)=ob
 have obd:ob.data= .fields ([head,Value.ref X.env.locals,.none,rawInt X.env.locals,.none]++(if pl.isEmpty then List.replicate 6 Value.none else pl)).toArray:=by rw [←hob]
 have obf:ob.isFreed=false:=by rw [←hob]; rfl
 have he₂:(h₁.push ob).get? e=some oe:=Heap.get?_push_of_some ob he₁
 refine wpAny_setField he₂ hd hsz ?_
 have hTe:h₁.objs.size ≠ e:=Nat.ne_of_gt (Heap.lt_size he₁)
 have hd₃:=Obj.data_mapFields hd (·.setIfInBounds 1 (Value.ref h₁.objs.size))
 have he₃:=Heap.get?_update_self (Obj.mapFields (·.setIfInBounds 1 (Value.ref h₁.objs.size))) he₂ (Obj.isFreed_of_fields hd₃)
 have hT₃:((h₁.push ob).update e (Obj.mapFields (·.setIfInBounds 1 (Value.ref h₁.objs.size)))).get? h₁.objs.size=some ob:=(Heap.get?_update_other _ _ (Ne.symm hTe)).trans (Heap.get?_push_size h₁ obf)
 have keep:∀ b o,b ≠ e->h₁.get? b=some o->((h₁.push ob).update e (Obj.mapFields (·.setIfInBounds 1 (Value.ref h₁.objs.size)))).get? b=some o:=fun b o hb q=>by
  rw [Heap.get?_update_other _ _ (Ne.symm hb)]
  exact Heap.get?_push_of_some _ q
 have hfr:frs X.stack=(X.env::X.outer).filterMap (·.frame):=by rw [hst]; rfl
 have sz:h₁.objs.size=s.heap.objs.size:=hs₁.1
 have J:Inv X [] σ H { s with heap:=(h₁.push ob).update e (Obj.mapFields (·.setIfInBounds 1 (Value.ref h₁.objs.size))) }:=by
  refine Inv.shake (s:=s) (ch:=[e]) I (fun b hb=>by rw [List.mem_singleton.mp hb]; exact me) (fun b o nf nc q=>keep b o (fun z=>nc (by simp [z])) ((hs₁.2.1 b (by rw [←hfr]; exact nf)).trans q)) (fun b o _ nc q=>?_)
  obtain ⟨sl,z⟩:=hs₁.2.2 b o q
  exact ⟨sl,keep b _ (fun w=>nc (by simp [w])) z⟩
 refine ⟨J,me,_,_,h₁.objs.size,ob,_,he₃,?_,hd₃,by simp [hsz],hTe,?_,hT₃,obd,?_⟩
 ·rw [Obj.cls_mapFields]; exact ⟨hc.1,by unfold Obj.mapFields; split <;> exact hc.2⟩
 ·exact aaL T0.ex I (Heap.get?_none_of_le (by rw [sz]; exact Nat.le_refl _))
 ·simp only [List.size_toArray,List.length_append,List.length_cons,List.length_nil]; omega
theorem ajK (T0:Top0 X) (hA:A.frames=some X.stack) (I:Inv X [] σ H s) (x:Xc X H s.heap e C):wpAny (model X.prog X.w) A (noteFrame (.ref e) X.env) (fun _ s'=>Inv X [] σ H s'/\XcT X H s'.heap e C) E s:=by
 obtain ⟨oe,vs,he,hc,hd,hsz,hT⟩:=x.ob
 unfold noteFrame
 simp only [T0.fr]
 rcases hT with h1 | ⟨T,oT,ts,h1,hTe,mT,hT,hdT,h3⟩
 ·refine wpAny_bind (wpAny_field he hd h1 ?_)
  rw [if_neg (by decide)]
  exact adn T0 hA I x.mine he hc hd hsz
 ·refine wpAny_bind (wpAny_field he hd h1 ?_)
  rw [if_pos (show (Value.ref T != Value.none)=true from by simp)]
  refine wpAny_bind (wpAny_field hT hdT (x:=ts[3]) (by simp [h3]) ?_)
  by_cases hq:(ts[3] == rawInt X.env.locals)=true
  ·rw [if_pos hq]
   exact wpAny_pure ⟨I,x.mine,oe,vs,T,oT,ts,he,hc,hd,h1,hTe,mT,hT,hdT,h3⟩
  ·rw [if_neg hq]
   refine wpAny_bind (wpAny_setField hT hdT h3 ?_)
   have other:∀ b,b ≠ T->(s.heap.update T (Obj.mapFields (·.setIfInBounds 3 Value.none))).get? b=s.heap.get? b:=fun b hb=>Heap.get?_update_other _ _ (Ne.symm hb)
   have J:Inv X [] σ H { s with heap:=s.heap.update T (Obj.mapFields (·.setIfInBounds 3 Value.none)) }:=
    Inv.shake (s:=s) (ch:=[T]) I (fun b hb=>by rw [List.mem_singleton.mp hb]; exact mT) (fun b o _ nc q=>(other b fun z=>nc (by simp [z])).trans q) fun b o _ nc q=>⟨o.slots,(other b fun z=>nc (by simp [z])).trans q⟩
   exact adn (s:={ s with heap:=s.heap.update T (Obj.mapFields (·.setIfInBounds 3 Value.none)) }) T0 hA J x.mine ((other e (Ne.symm hTe)).trans he) hc hd hsz
theorem abK (fl:Option Addr) (I:Inv X [] σ H s) (x:XcT X H s.heap e C):wpAny (model X.prog X.w) A (setFlight (.ref e) fl) (fun _ s'=>Inv X [] σ H s'/\XcT X H s'.heap e C) E s:=by
 obtain ⟨oe,vs,T,oT,ts,he,hc,hd,h1,hTe,mT,hT,hdT,h3⟩:=x.ob
 unfold setFlight
 refine wpAny_bind (wpAny_field he hd h1 ?_)
 rw [if_pos (show (Value.ref T != Value.none)=true from by simp)]
 refine wpAny_setField hT hdT h3 ?_
 have other:∀ b,b ≠ T->(s.heap.update T (Obj.mapFields (·.setIfInBounds 3 (fl.elim Value.none fun f=>rawInt f)))).get? b=s.heap.get? b:=fun b hb=>Heap.get?_update_other _ _ (Ne.symm hb)
 have J:Inv X [] σ H { s with heap:=s.heap.update T (Obj.mapFields (·.setIfInBounds 3 (fl.elim Value.none fun f=>rawInt f))) }:=
  Inv.shake (s:=s) (ch:=[T]) I (fun b hb=>by rw [List.mem_singleton.mp hb]; exact mT) (fun b o _ nc q=>(other b fun z=>nc (by simp [z])).trans q) fun b o _ nc q=>⟨o.slots,(other b fun z=>nc (by simp [z])).trans q⟩
 exact ⟨J,x.mine,oe,vs,T,_,_,(other e (Ne.symm hTe)).trans he,hc,hd,h1,hTe,mT,Heap.get?_update_self _ hT (Obj.isFreed_of_fields (Obj.data_mapFields hdT _)),Obj.data_mapFields hdT _,by simpa using h3⟩
theorem anw {P:Value->Shared->Prop} (T0:Top0 X) (hA:A.frames=some X.stack) (hP:∀ e s,P e s->∃ a C σ H,e= .ref a/\Inv X [] σ H s/\Xc X H s.heap a C/\∀ s',Inv X [] σ H s'->XcT X H s'.heap a C->P e s'):PassesOwn (model X.prog X.w) A X.env P:=fun ev s' h=>by
 obtain ⟨a,C,σ,H,rfl,I,x,back⟩:=hP ev s' h
 refine wpAny_mono (ajK (E:=fun _ _=>False) T0 hA I x) (fun _ s2 ⟨I2,x2⟩=>?_) fun _ _ z=>z.elim
 obtain ⟨oe,vs,T,oT,ts,he,hc,hd,h1,r⟩:=id x2.ob
 unfold cameBackBy
 refine wpAny_bind (wpAny_field he hd h1 ?_)
 rw [if_neg (by simp)]
 first
  | exact wpAny_mono (abK (E:=fun _ _=>False) _ I2 x2) (fun _ s3 ⟨I3,x3⟩=>back s3 I3 x3) fun _ _ z=>z.elim
  | exact wpAny_bind (wpAny_pure (wpAny_mono (abK (E:=fun _ _=>False) _ I2 x2) (fun _ s3 ⟨I3,x3⟩=>back s3 I3 x3) fun _ _ z=>z.elim))
end
structure XcO (h0:Heap) (H:Hp) (h:Heap) (e C:Addr):Prop where
 un:H e=none
 new:h0.get? e=none
 ob:∃ oe vs T oT ts,h.get? e=some oe/\(oe.cls= .ref C/\oe.dict=none)/\oe.data= .fields vs/\vs[1]?=some (.ref T)/\T ≠ e/\H T=none/\h0.get? T=none/\h.get? T=some oT/\oT.data= .fields ts/\3 < ts.size
noncomputable def CXt (P:Program) (w:World):CXT:=fun outer H s E ev s'=>∃ e C H',ev= .ref e/\s'.os=s.os/\AllBare s'.gens/\Un (frs outer) [] H H' s.heap s'.heap/\HOk P w H' s'.heap/\XcO s.heap H' s'.heap e C/\E (.ref C) none H'
section
variable {X:Cx}
theorem Xc.of (hx:X.ex=[]) {pins:List (Addr × Obj)}{σ:St}{H H':Hp}{s s':Shared}{e0 C:Addr} (I:Inv X pins σ H s) (x:XcO s.heap H' s'.heap e0 C):Xc X H' s'.heap e0 C:=by
 have J:Inv X [] σ H s:=I.pins_of fun p hp=>nomatch hp
 obtain ⟨oe,ws,T,oT,ts,h1,h2,h3,h4,h5,h6,h7,h8,h9,h10⟩:=x.ob
 have m1:=aaL hx J x.new
 have m2:=aaL hx J h7
 exact ⟨⟨x.un,m1.new,m1.loc,m1.cel,m1.pin⟩,oe,ws,h1,h2,h3,(Array.getElem?_eq_some_iff.mp h4).1,.inr ⟨T,oT,ts,h4,h5,⟨h6,m2.new,m2.loc,m2.cel,m2.pin⟩,h8,h9,h10⟩⟩
end
noncomputable def Thr (X:Cx) (H:Hp) (c:Str) (ev:Value) (s':Shared):Prop:=∃ e C σ' H',ev= .ref e/\X.mg c=some (.ref C)/\Inv X [] σ' H' s'/\jr H H'/\Xc X H' s'.heap e C
theorem Thr.mono {X:Cx}{H H1:Hp}{c:Str}{ev:Value}{s':Shared} (s:jr H H1) (h:Thr X H1 c ev s'):Thr X H c ev s':=by
 obtain ⟨e,C,σ',H',h1,h2,h3,h4,h5⟩:=h
 exact ⟨e,C,σ',H',h1,h2,h3,s.trans h4,h5⟩
@[irreducible] noncomputable def anx (X:Cx) (sts:List Stmt) (fx:Rho->Option Str):Prop:=∀ (s:Shared) (σ:St) (H:Hp) (ρ:Rho) (c:Str),Inv X [] σ H s->EnvR X.K H ρ σ->fx ρ=some c->(∀ ev s',Thr X H c ev s'->X.xe ev s')->wpAny (model X.prog X.w) X.A (execs sts X.env) (fun _ _=>False) X.xe s
noncomputable def vB:List Value:=[.type "ValueError",.type "Exception",.type "BaseException",.type "object"]
section
variable {X:Cx}{e a b c:Expr}{es:List Expr}{st:Stmt}{sts qq:List Stmt}{fx gx:Rho->Option Str}{F:Rho->Option Out}{pos:Pos}
noncomputable def nxX (F:Rho->Option Out) (gx:Rho->Option Str):Rho->Option Str:=fun ρ=>(F ρ).bind fun o=>match o with
 | .nx ρ'=>gx ρ'
 | _=>none
noncomputable def ifX (tc:Rho->Option Bool) (fx gx:Rho->Option Str):Rho->Option Str:=fun ρ=>(tc ρ).bind fun x=>if x=true then fx ρ else gx ρ
noncomputable def als:Rho->Option Str:=fun _=>none
end
noncomputable def anz (K:PySem.W.Frag) (mg:Str->Option Value) (n:Nat) (gx:List PyData->Option Str):Sp:=fun vs H _ E=>∃ ds c,ds.length=n/\Reps K H ds vs/\gx ds=some c/\∀ C H',mg c=some (.ref C)->jr H H'->E (.ref C) none H'
noncomputable def anM (P:Program) (w:World) (K:PySem.W.Frag) (mg:Str->Option Value) (base:Heap) (x:Str) (ps:List Str) (k n:Nat) (gx:List PyData->Option Str):Prop:=
 ∃ (f:Addr) (fd:FuncData),FnOk P w K mg base (CXt P w) k f fd ps (anz K mg n gx)/\mg x=some (.ref f)/\PySem.W.keepIn K (.ref f)=true/\QN K fd ps []
section
variable {X:Cx}{e a b c:Expr}{es:List Expr}{st:Stmt}{sts qq:List Stmt}{fx gx:Rho->Option Str}{F:Rho->Option Out}{pos:Pos}
end
section
variable {P:Program}{w:World}{K:PySem.W.Frag}{mg:Str->Option Value}{base:Heap}
end
theorem Mine.unwish {X:Cx}{E:Value->Shared->Prop}{H:Hp}{b:Addr} (m:Mine (X.wish E) H b):Mine X H b:=⟨m.un,m.new,m.loc,m.cel,m.pin⟩
theorem Xc.unwish {X:Cx}{E:Value->Shared->Prop}{H:Hp}{h:Heap}{e C:Addr} (x:Xc (X.wish E) H h e C):Xc X H h e C:=by
 obtain ⟨oe,vs,h1,h2,h3,h4,h5⟩:=x.ob
 refine ⟨x.mine.unwish,oe,vs,h1,h2,h3,h4,?_⟩
 rcases h5 with q | ⟨T,oT,ts,q1,q2,q3,q4⟩
 ·exact .inl q
 ·exact .inr ⟨T,oT,ts,q1,q2,q3.unwish,q4⟩
section
variable {X:Cx}{st:Stmt}{sts qq tb hb:List Stmt}{F G:Rho->Option Out}{pos:Pos}
end
section
variable {X:Cx}{st b0:Stmt}{sts qq tb hb:List Stmt}{F G:Rho->Option Out}{fx:Rho->Option Str}{pos:Pos}
end
section
variable {P:Program}{w:World}{K:PySem.W.Frag}{mg:Str->Option Value}{base:Heap}
end
theorem QY {t sl:Addr}{items:Array Value}{vl vu:Value}{lo hi:Option Int}{Q:Value->Shared->Prop} (ht:IsTup s.heap t items) (hs:s.heap.IsSliceOf sl vl vu .none) (pl:IsPart vl lo) (pu:IsPart vu hi)
  (hw:HT.sIx items.size 0 lo=0/\HT.sIx items.size items.size hi=items.size) (h:Q (.ref t) s):wpAny (model prog w) A (getItem (.ref t) (.ref sl)) Q E s:=by
 obtain ⟨os,hos,hcs,hds⟩:=id hs
 have hTs:s.TypeIs (.ref sl) "slice":=⟨os,hos,hcs⟩
 unfold getItem
 first | (with_reducible refine wpAny_holding ?_) | skip
 first | refine wpAny_bind (wpAny_pure ?_) | skip
 refine wpAny_bind (wpAny_sequenceKey ht.typeIs (by decide) ?_)
 refine wpAny_bind (wpAny_callSpecial?_slot (name:=Str.ofString "__getitem__") ht.typeIs PyProof.Rows.slot_tuple_getitem (wpAny_call_entry PyProof.Rows.slot_tuple_getitem ht.typeIs entry_tuple_getitem ?_ (args_tuple_getitem _ _)))
 show wpAny _ _ (Builtin.Tuple.tupleItemsOf (.ref t) >>= _) _ _ s
 refine wpAny_bind (tupleItemsOf_ ht (wpAny_bind (wpAny_typeOf hTs ?_)))
 rw [if_pos (show (Value.type "slice" == Value.type "slice")=true by decide)]
 refine wpAny_bind (HT.sliceApplied_gen hs pl pu ?_)
 rw [hw.1,hw.2]
 have hyes:((((0:Nat):Int) == 0 && (1:Int) == 1 && (items.size - 0) == items.size)=true):=by simp
 show wpAny _ _ (if ((((0:Nat):Int) == 0 && (1:Int) == 1 && (items.size - 0) == items.size)=true) then _ else _) _ _ s
 rw [if_pos hyes]
 obtain ⟨o,ho,hc,hd⟩:=id ht
 have hT:s.TypeIs (.ref t) "tuple":=⟨o,ho,hc⟩
 have ex:∀ {R:Bool->Shared->Prop} {A':Around} {E':Value->Shared->Prop},R true s->wpAny (model prog w) A' (Builtin.Tuple.tupleIsExact (.ref t)) R E' s:=fun {R A' E'} hR=>by
  unfold Builtin.Tuple.tupleIsExact
  first
   | exact wpAny_bind (wpAny_typeOf hT (wpAny_pure hR))
   | (wp_walk; exact hR)
 first
  | exact wpAny_bind (ex (wpAny_bind (wpAny_rule (wpAny_pure ⟨_,rfl,wpAny_pure h⟩))))
  | exact wpAny_bind (ex (by rw [if_pos rfl]; exact wpAny_bind (wpAny_rule (wpAny_pure ⟨_,rfl,wpAny_pure h⟩))))
  | (refine wpAny_bind (ex ?_); wp_walk; exact ⟨_,rfl,wpAny_pure h⟩)
  | (refine wpAny_bind (wpAny_bind (ex ?_)); wp_walk; exact ⟨_,rfl,wpAny_pure h⟩)
section
variable {X:Cx}{e a b c:Expr}{fa fb fc:Rho->Option PyData}{pos p2:Pos}
noncomputable def amM (K:PySem.W.Frag):V->Option Int->Option Int->Hp->VK->Prop:=fun x lo hi H Q=>∃ a xs,x= .ref a/\SqT K H a xs/\(HT.sIx xs.length 0 lo=0/\HT.sIx xs.length xs.length hi=xs.length)/\Q (.ref a) H
theorem ado:SlR X (amM X.K):=by
 intro pins s σ H x v vl vu lo hi sl Q I rx hs pl pu h
 obtain ⟨a,xs,rfl,hx,hw,q⟩:=h
 cases rx
 obtain ⟨its,r,ht,hz⟩:=I.tuple hx
 have hlen:its.toArray.size=xs.length:=by rw [List.size_toArray]; exact r.length.symm
 exact ⟨"tuple",_,PyProof.Rows.slot_tuple_getitem.lookup,ht.typeIs,QY ht hs pl pu (by rw [hlen]; exact hw) ⟨.ref a,H,I,rfl,q⟩⟩
noncomputable def abh (p:PyData) (lo hi:Option Int):Option PyData:=match p with
 | .tuple ds=>some (.tuple (abf ds lo hi))
 | _=>none
theorem ahX {K:PySem.W.Frag}{p d:PyData}{lo hi:Option Int}{x:V}{H:Hp}{Q:VK} (h:abh p lo hi=some d) (r:Rep K H p x) (k:∀ v H',jr H H'->Rep K H' d v->Q v H'):amo K x lo hi H Q ∨ amM K x lo hi H Q:=by
 unfold abh at h
 split at h
 ·rename_i ds
  cases h
  obtain ⟨a,xs,e1,e2,e3⟩:=r
  have hl:=e3.length
  have rr:Reps K H (abf ds lo hi) (aca xs lo hi):=by
   unfold aca abf
   rw [hl]
   exact (e3.drop _).take _
  by_cases hw:HT.sIx xs.length 0 lo=0/\HT.sIx xs.length xs.length hi=xs.length
  ·refine .inr ⟨a,xs,e1,e2,hw,k _ H (jr.refl H) ⟨a,xs,rfl,e2,?_⟩⟩
   have ex:aca xs lo hi=xs:=by unfold aca; rw [hw.1,hw.2]; simp
   rw [ex] at rr
   exact rr
  ·refine .inl ⟨a,xs,e1,e2,hw,fun q hq=>?_⟩
   have s1:=jx (o:= .tup (aca xs lo hi)) hq
   exact k _ _ s1 ⟨q,_,rfl,SqT.of jp,Reps.mono s1 _ _ rr⟩
 ·cases h
noncomputable def abL (fa fb:Rho->Option PyData):Rho->Option PyData:=fun ρ=>(fa ρ).bind fun p=>(fb ρ).bind fun q=>(inI q).bind fun i=>abh p none (some i)
theorem ahY (ha:PD X a fa) (hb:PD X b fb):PD X (.Subscript a (.Slice none (some b) none p2) pos) (abL fa fb):=by
 with_unfolding_all
  refine PE.imp (ac4 (ag6.or ado) ha aeZ (ae0 hb)) fun σ H Q ⟨ρ,d,en,q,k⟩=>?_
  cases h1:fa ρ with
  | none=>simp [abL,h1] at q
  | some y=>
   cases h2:fb ρ with
   | none=>simp [abL,h1,h2] at q
   | some z=>
    cases h3:inI z with
    | none=>simp [abL,h1,h2,h3] at q
    | some i=>
     have q':abh y none (some i)=some d:=by simpa [abL,h1,h2,h3] using q
     have hz:=adm h3
     subst hz
     refine ⟨ρ,y,en,h1,fun v H1 s1 r1=>⟨ρ,_,en.mono s1,h2,fun u H2 s2 r2=>?_⟩⟩
     cases (show u=_ from r2)
     exact ⟨i,rfl,ahX q' (Rep.mono s2 _ _ r1) fun v H' s r=>k v H' (s1.trans (s2.trans s)) r⟩
noncomputable def JC (fa fb:Rho->Option PyData):Rho->Option PyData:=fun ρ=>(fa ρ).bind fun p=>(fb ρ).bind fun q=>(inI q).bind fun i=>abh p (some i) none
theorem aaM (ha:PD X a fa) (hb:PD X b fb):PD X (.Subscript a (.Slice (some b) none none p2) pos) (JC fa fb):=by
 with_unfolding_all
  refine PE.imp (ac4 (ag6.or ado) ha (ae0 hb) aeZ) fun σ H Q ⟨ρ,d,en,q,k⟩=>?_
  cases h1:fa ρ with
  | none=>simp [JC,h1] at q
  | some y=>
   cases h2:fb ρ with
   | none=>simp [JC,h1,h2] at q
   | some z=>
    cases h3:inI z with
    | none=>simp [JC,h1,h2,h3] at q
    | some i=>
     have q':abh y (some i) none=some d:=by simpa [JC,h1,h2,h3] using q
     have hz:=adm h3
     subst hz
     refine ⟨ρ,y,en,h1,fun v H1 s1 r1=>⟨ρ,_,en.mono s1,h2,fun u H2 s2 r2=>?_⟩⟩
     cases (show u=_ from r2)
     exact ⟨i,rfl,ahX q' (Rep.mono s2 _ _ r1) fun v H' s r=>k v H' (s1.trans (s2.trans s)) r⟩
end
section
variable {X:Cx}
theorem ahZ {K:PySem.W.Frag}{T:String} (hT:T="list") (d:PyData):PySem.W.kitOne K (.type (tyn d)) (.type T)=some (zH T d):=by
 subst hT
 cases d <;> first | rfl | (rename_i kvs; by_cases h:zh kvs=true <;> simp only [tyn,zH,h] <;> rfl)
theorem ajL {a:Expr}{fa:Rho->Option PyData}{T:Str}{Tn:String}{p p2 pos:Pos} (hT:Tn="list") (hm1:X.mg "isinstance"=none) (hm2:X.mg T=none) (hv:bootBuiltins T=some (.type Tn)) (ha:PD X a fa)
  (hg1:Gl X "isinstance":=by rfl) (hg2:Gl X T:=by rfl) (hn:T ≠ "__name__":=by decide) (hd:(T == ("__debug__":Str))=false:=by decide)
  (he:starEach [a,.Name T p2] X.env=[(false,eval a X.env),(false,eval (.Name T p2) X.env)]:=by rfl) (he2:starEach [.Name T p2] X.env=[(false,eval (.Name T p2) X.env)]:=by rfl) (hpl:(backTo pos (starEach [.Name T p2] X.env)).any (·.1)=false:=by rfl):
  PD X (.Call (.Name "isinstance" p) [a,.Name T p2] [] pos) (fun ρ=>(fa ρ).bind fun d=>QE Tn d):=by
 with_unfolding_all
  have hT2:PE X (.Name T p2) (tC (.ty Tn)):=aeV hg2 hm2 hv rfl hn hd
  refine PE.imp (aao (add (T:=Tn)) hg1 hm1 (by decide +kernel) (ze ha (ze hT2 JR (by rw [he2]; rfl)) (by rw [he,he2])) (by decide) (by decide) (by rw [he,he2]) hpl) fun σ H Q ⟨ρ,d,en,q,k⟩=>?_
  cases h1:fa ρ with
  | none=>simp [h1] at q
  | some c=>
   obtain ⟨hF,rfl⟩:=ade (show QE Tn c=some d by simpa [h1] using q)
   exact ⟨ρ,c,en,h1,fun v H1 s1 r1=>⟨v,c,_,rfl,r1,hF,ahZ hT c,k _ H1 s1 rfl⟩⟩
end
section
variable {X:Cx}
end
section
variable {X:Cx}{e a b c:Expr}{fa fb fc:Rho->Option PyData}{pos p2:Pos}
end
section
variable {X:Cx}
noncomputable def J2:Nat->List PyData->List PyData
 | _,[]=>[]
 | i,d::ds=> .tuple [.int (i:Int),d]::J2 (i+1) ds
theorem abM:∀ (xs:List PyData) (k:Nat),(J2 k xs).length=xs.length
 | [],_=>rfl
 | _::xs,k=>by simp [J2,abM xs]
theorem abN:∀ (xs:List PyData) (k i:Nat) (d:PyData),(J2 k xs)[i]?=some d->∃ x,xs[i]?=some x/\d= .tuple [.int ((k+i:Nat):Int),x]
 | [],_,_,_,h=>by simp [J2] at h
 | x::xs,k,0,d,h=>by simp [J2] at h; exact ⟨x,rfl,h.symm⟩
 | x::xs,k,i+1,d,h=>by
  simp only [J2,zzB] at h
  obtain ⟨y,h1,h2⟩:=abN xs (k+1) i d h
  exact ⟨y,by simpa using h1,by rw [h2,show k+1+i=k+(i+1) by omega]⟩
end
section
variable {X:Cx}{e:Expr}{es:List Expr}{pos p:Pos}
noncomputable def akw (x:Str):PyData->Bool
 | .dict [(.str y,.none)]=>decide (y=x)
 | _=>false
@[simp] theorem alu (x:Str):akw x (fnD x)=true:=by simp [akw,fnD]
end
section
variable {X:Cx}{e a b c:Expr}{es:List Expr}{fa:Rho->Option PyData}{fx gx:Rho->Option Str}{pos:Pos}
end
section
variable {X:Cx}{own:Option Nat}{e a b c tg src:Expr}{es:List Expr}{st:Stmt}{sts qq body:List Stmt}{fx gx:Rho->Option Str}{F:Rho->Option Out}{fa:Rho->Option PyData}{pos:Pos}
theorem Thr.unwish {W:Value->Shared->Prop}{Hb Hs:Hp}{c:Str}{ev:Value}{s':Shared} (sb:∀ H3,jr Hb H3->jr Hs H3) (h:Thr (X.wish W) Hb c ev s'):Thr X Hs c ev s':=by
 obtain ⟨e,C,σ',H',h1,h2,h3,h4,h5⟩:=h
 exact ⟨e,C,σ',H',h1,h2,h3.unwish,sb _ h4,h5.unwish⟩
end
section
variable {X:Cx}{e a b c:Expr}{es:List Expr}{st:Stmt}{sts qq:List Stmt}{fx gx:Rho->Option Str}{F:Rho->Option Out}{pos p:Pos}
noncomputable def orX (fx gx:Rho->Option Str):Rho->Option Str:=fun ρ=>match fx ρ with
 | some c=>some c
 | none=>gx ρ
end
section
variable {X:Cx}{a b c:Expr}{tc ta tb:Rho->Option Bool}{pos:Pos}
end
section
variable {X:Cx}{a b:Expr}{fa fb:Rho->Option PyData}
end
structure RoomH (k:Nat) (A:Around):Prop where
 dp:A.depth+3*k+5 < recursionLimit
 un:A.units+16*k+200 < cLine
theorem RoomH.deeper {k:Nat}{A:Around} (r:RoomH (k+1) A) (env:Env):RoomH k (A.deeper env):=
 ⟨by have:=r.dp; show A.depth+1+3*k+5 < _; omega,by have:=r.un; show A.units+3+16*k+200 < _; omega⟩
theorem Room.h {k:Nat}{A:Around} (r:Room k A):RoomH k A:=⟨r.dp,r.un⟩
theorem RoomH.mark {k:Nat}{A:Around}{v:Option Value} (r:RoomH k A):RoomH k (A.mark v):=⟨r.dp,r.un⟩
structure FnH (P:Program) (w:World) (K:PySem.W.Frag) (mg:Str->Option Value) (base:Heap) (k:Nat) (f:Addr) (fd:FuncData) (ps:List Str) (sp:Sp):Prop where
 len:∀ vs H Q E,sp vs H Q E->vs.length=ps.length
 run:∀ (A:Around) (outer:List Env) (s:Shared) (H:Hp) (args:Args) (us:List Value) (vs:List V) (Q:VK) (E:XK),RoomH k A->Env0 P w K mg base A outer s H->BindsTo s fd args (ps.zip us)->jF vs us->sp vs H Q E->
  codeAny (model P w) A (.call (.ref f) args) (CR CX0 outer P w H s Q E) s
noncomputable def am3 (P:Program) (w:World) (K:PySem.W.Frag) (mg:Str->Option Value) (base:Heap) (x:Str) (ps:List Str) (k n:Nat) (g:List PyData->Option PyData):Prop:=
 ∃ (f:Addr) (fd:FuncData),FnH P w K mg base k f fd ps (Pur K n g)/\mg x=some (.ref f)/\PySem.W.keepIn K (.ref f)=true/\QN K fd ps []
section
variable {P:Program}{w:World}{K:PySem.W.Frag}{mg:Str->Option Value}{base:Heap}
end
section
variable {X:Cx}{e:Expr}{es:List Expr}{pos:Pos}
end
structure ExcK (K:PySem.W.Frag) (C:Addr):Prop where
 exc:PySem.W.excIn K C vB "ValueError.__new__"=true
 ga:PySem.W.findIn K (.ref C) "__getattribute__"=some (some (.builtin "BaseException.__getattribute__"))
 gt:PySem.W.findIn K (.ref C) "__getattr__"=some none
 cl:PySem.W.findIn K (.ref C) "__class__"=some (some (.builtin "object.__class__"))
 mo:PySem.W.mroIn K C (.type "object")=some true
 mb:PySem.W.mroIn K C (.type "BaseException")=some true
structure ClsG (K:PySem.W.Frag):Prop where
 gt:PySem.W.specialIn K (.builtin "object.__class__") "__get__"=some (some (.builtin "getset_descriptor.__get__"))
 tk:PySem.W.takesIn K (.builtin "object.__class__")=some true
section
variable {prog:Program}{w:World}{A:Around}{E:Value->Shared->Prop}{s:Shared}{K:PySem.W.Frag}{a C:Addr}{oe:Obj}
end
noncomputable def adr (K:PySem.W.Frag) (c:Str):Option Addr:=match PySem.W.nsIn K mainGlobals c with
 | some (some (.ref C))=>some C
 | _=>none
noncomputable def alv (K:PySem.W.Frag) (C:Addr):Bool:=PySem.W.excIn K C vB "ValueError.__new__" && ((PySem.W.findIn K (.ref C) "__getattribute__" == some (some (.builtin "BaseException.__getattribute__"))) && ((PySem.W.findIn K (.ref C) "__getattr__" == some none) && ((PySem.W.findIn K (.ref C) "__class__" == some (some (.builtin "object.__class__"))) && ((PySem.W.mroIn K C (.type "object") == some true) && (PySem.W.mroIn K C (.type "BaseException") == some true)))))
theorem ah0 {K:PySem.W.Frag}{C:Addr} (h:alv K C=true):ExcK K C:=by
 unfold alv at h
 simp only [Bool.and_eq_true,beq_iff_eq] at h
 obtain ⟨h1,h2,h3,h4,h5,h6⟩:=h
 exact ⟨h1,h2,h3,h4,h5,h6⟩
noncomputable def aes (K:PySem.W.Frag) (y:Str) (cs:List Str):Bool:=(PySem.W.specialIn K (.builtin "object.__class__") "__get__" == some (some (.builtin "getset_descriptor.__get__"))) && ((PySem.W.takesIn K (.builtin "object.__class__") == some true) && (match adr K y with
 | none=>false
 | some B=>(PySem.W.typeIn K (.ref B) == some (.type "type")) && ((PySem.W.mroIn K B (.type "BaseException") == some true) && cs.all fun c=>match adr K c with
  | none=>false
  | some C=>alv K C && ((PySem.W.mroIn K C (.ref B) == some true) && ((PySem.W.kitOne K (.ref C) (.type "ValueError") == some true) && cs.all fun d=>match adr K d with
   | none=>false
   | some D=>PySem.W.kitOne K (.ref C) (.ref D) == some (c == d))))))
structure ErrT (K:PySem.W.Frag) (mg:Str->Option Value) (y:Str) (cs:List Str):Prop where
 tab:aes K y cs=true
 mgs:∀ c C,adr K c=some C->mg c=some (.ref C)
section
variable {K:PySem.W.Frag}{mg:Str->Option Value}{y:Str}{cs:List Str}
theorem ErrT.g (h:ErrT K mg y cs):ClsG K:=by
 have:=h.tab
 unfold aes at this
 simp only [Bool.and_eq_true,beq_iff_eq] at this
 exact ⟨this.1,this.2.1⟩
theorem ErrT.par (h:ErrT K mg y cs):∃ B,adr K y=some B/\mg y=some (.ref B)/\PySem.W.typeIn K (.ref B)=some (.type "type")/\PySem.W.mroIn K B (.type "BaseException")=some true/\
  ∀ c ∈ cs,∃ C,adr K c=some C/\mg c=some (.ref C)/\ExcK K C/\PySem.W.mroIn K C (.ref B)=some true/\PySem.W.kitOne K (.ref C) (.type "ValueError")=some true/\∀ d ∈ cs,∃ D,adr K d=some D/\mg d=some (.ref D)/\PySem.W.kitOne K (.ref C) (.ref D)=some (c == d):=by
 have q:=h.tab
 unfold aes at q
 simp only [Bool.and_eq_true,beq_iff_eq] at q
 obtain ⟨_,_,q⟩:=q
 cases hB:adr K y with
 | none=>rw [hB] at q; cases q
 | some B=>
  rw [hB] at q
  simp only [Bool.and_eq_true,beq_iff_eq,List.all_eq_true] at q
  obtain ⟨q1,q2,q3⟩:=q
  refine ⟨B,rfl,h.mgs y B hB,q1,q2,fun c hc=>?_⟩
  have z:=q3 c hc
  cases hC:adr K c with
  | none=>rw [hC] at z; cases z
  | some C=>
   rw [hC] at z
   simp only [Bool.and_eq_true,beq_iff_eq,List.all_eq_true] at z
   obtain ⟨z1,z2,z3,z4⟩:=z
   refine ⟨C,rfl,h.mgs c C hC,ah0 z1,z2,z3,fun d hd=>?_⟩
   have v:=z4 d hd
   cases hD:adr K d with
   | none=>rw [hD] at v; cases v
   | some D=>
    rw [hD] at v
    exact ⟨D,rfl,h.mgs d D hD,beq_iff_eq.mp v⟩
end
noncomputable def amN:PyData->Option Str
 | .dict [(.str c,.bool true)]=>some c
 | _=>none
@[simp] theorem alw (c:Str):amN (anr c)=some c:=rfl
section
variable {X:Cx}{a:Expr}{fa:Rho->Option PyData}{pos p p2:Pos}{y:Str}{cs:List Str}
end
section
variable {X:Cx}{σ:St}{H:Hp}{s:Shared}{e C:Addr}
theorem Inv.take {oe:Obj} (I:Inv X [] σ H s) (m:Mine X H e) (he:s.heap.get? e=some oe):Inv X [] σ (upd H e (.frz oe (.own e))) s/\jr H (upd H e (.frz oe (.own e))):=by
 have ne:∀ b o,H b=some o->b ≠ e:=fun b o q z=>by subst z; rw [m.un] at q; cases q
 have sm:jr H (upd H e (.frz oe (.own e))):=fun b o q=>by rw [jn (ne b o q)]; exact q
 have u:Un (frs X.stack) [e] H (upd H e (.frz oe (.own e))) s.heap s.heap:=⟨fun b o q _ _ _=>q,fun b o q _ _ _=>⟨o.slots,q⟩,fun b o q n nc=>by rw [jn (fun z=>nc (by simp [z]))]; exact n,fun b o q _=>⟨o,q⟩,fun b xs q=>sm b _ q,fun b o v q=>sm b _ q,fun b ps q=>⟨#[],by rw [sm b _ q]; simp⟩⟩
 have hok:HOk X.prog X.w (upd H e (.frz oe (.own e))) s.heap:=fun b o q=>by
  by_cases hb:b=e
  ·subst hb
   rw [jp] at q; cases q
   exact ⟨he,_,he⟩
  ·rw [jn hb] at q
   exact (I.hok b o q).stay (fun c v hc r=>r) (fun c r=>sm _ _ r) fun c v r=>sm _ _ r
 refine ⟨?_,sm⟩
 have J:=Inv.call (X:={ X with ex:=[e]++X.ex }) (g':=s.gens) (d':=s.drawn) (t':=s.toks) (Inv.exIn I fun b hb=>by rw [List.mem_singleton.mp hb]; exact ⟨m.new,m.loc,m.cel⟩) u hok I.bare fun b hb=>by
  rw [List.mem_singleton.mp hb]
  exact ⟨.inl (List.mem_append_left _ (by simp)),m.loc,m.cel,fun p hp=>m.pin p (by simpa using hp)⟩
 exact Inv.exOut J I.ok fun b hb=>by rw [List.mem_singleton.mp hb]; exact m.new
end
section
variable {X:Cx}{st b0:Stmt}{sts qq tb hb:List Stmt}{F G:Rho->Option Out}{fx:Rho->Option Str}{pos:Pos}
end
noncomputable abbrev anA:=Int × (Int × Int)
structure TripAt (h:Heap) (u:Value) (t:anA):Prop where
 ex:∃ a o k tk a2,u= .ref a/\h.get? a=some o/\o.cls= .type "tuple"/\o.data= .seq #[.int t.1 tk,.ref a2] k/\PairAt h (.ref a2) t.2
section
variable {X:Cx}
end
section
variable {α:Type}
end
section
variable {X:Cx}{e a b c:Expr}{es qq:List Expr}{st:Stmt}{sts srest:List Stmt}{fx gx:Rho->Option Str}{fa fb:Rho->Option PyData}{F:Rho->Option Out}{pos:Pos}
noncomputable def items:PyData->Option (List PyData)
 | .list ds=>some ds
 | .tuple ds=>some ds
 | _=>none
noncomputable def itS (fa:Rho->Option PyData):Rho->Option (List PyData):=fun ρ=>(fa ρ).bind items
theorem JD {tg:Expr} (h:PD X e fa):PID X tg e (itS fa):=by
 with_unfolding_all
  intro pins s σ H R I ⟨ρ,ds,en,q,k⟩
  cases hf:fa ρ with
  | none=>simp [itS,hf] at q
  | some d=>
   have q':items d=some ds:=by simpa [itS,hf] using q
   cases d with
   | list es=>
    cases q'
    exact aaA (tg:=tg) h pins s σ H R I ⟨ρ,ds,en,by simp [itL,hf,Zp],k⟩
   | tuple es=>
    cases q'
    exact acg (tg:=tg) h pins s σ H R I ⟨ρ,ds,en,by simp [itT,hf,Zq],k⟩
   | _=>cases q'
end
theorem _root_.L2.Room.sort {k:Nat}{A:Around} (r:Room k A):A.in1.in1.units+8 < cLine:=by
 have:=r.un
 show A.units+1+1+8 < cLine
 omega
theorem _root_.L2.Room.units1 {k:Nat}{A:Around} (r:Room k A):A.units+1 < cLine:=by have:=r.un; omega
theorem RoomH.units {k:Nat}{A:Around} (r:RoomH k A):A.units+64 < cLine:=by have:=r.un; omega
theorem RoomH.mono {j k:Nat}{A:Around} (r:RoomH k A) (h:j<=k):RoomH j A:=⟨by have:=r.dp; omega,by have:=r.un; omega⟩
section
variable {X:Cx}{a b:Expr}{pos:Pos}
end
section
variable {X:Cx}{e a b c:Expr}{l r:List Stmt}{fx gx:Rho->Option Str}{pos:Pos}
end
section
variable {X:Cx}{own:Option Nat}{tg:Expr}{st:Stmt}{sts:List Stmt}{fx:Rho->Option Str}{F:Rho->Option Out}
end
section
variable {X:Cx}{a i e:Expr}{es:List Expr}{pos fp:Pos}
end
theorem jr.sE {H H':Hp} (s:jr H H'):jC H H':=jr.e s
section
variable {X:Cx}{own:Option Nat}{e a b c:Expr}{es:List Expr}{st:Stmt}{sts qq:List Stmt}{fa fb fc:Rho->Option PyData}{F G:Rho->Option Out}{pos:Pos}
end
section
variable {X:Cx}{tg src:Expr}{pos pos':Pos}{own:Option Nat}
theorem ah1 (i:Nat) {x:Str}{el:Expr}{ts:List Expr}{sc:Scope}{ps:Pos}{fi:Rho->Option (List PyData)}{ga:PyData->Rho->Option Rho}{ft:Rho->Option Bool}{fe:Rho->Option PyData} (N':List Str) (cap:List (Option Nat)) (hc:X.calm=true) (hN:X.N.Nodup) (hi:PID X tg src fi) (ok:CompOk X sc N' cap)
  (body:∀ cl C s0 H0 fp pn,PGD (blk X N' sc cl C s0 H0 fp pn) tg ga/\ajq (blk X N' sc cl C s0 H0 fp pn) ts ft/\PD (blk X N' sc cl C s0 H0 fp pn) el fe)
  (ho:own ≠ some i:=by decide) (hi0:X.N[i]?=some x:=by rfl) (hx:Loc X.env.scope x:=by first | exact Or.inl rfl | exact Or.inr rfl) (hsw:swapsWith (.ListComp el [⟨tg,src,ts,0⟩] sc ps) (some (.Name x pos')) pos.line X.env=pure true:=by rfl)
  (hf:X.fn x=true ∨ X.env.scope.names.lookup x=some .local:=by first | exact .inl rfl | exact .inr rfl | assumption)
  (hs:∀ x,foldedSetIterable src X.env x=pure x:=by intro _; rfl):PSO X own (.Assign [.Name x pos'] (.ListComp el [⟨tg,src,ts,0⟩] sc ps) pos) (zo (fun ρ=>qK fi cap ga ft fe (hid own ρ)) (jG i)):=by
 with_unfolding_all
  refine PS.imp (ajI (g:=tDG X.K ga) (tt:=tDT X.K ft) (te:=tD X.K fe) hc hi ok (fun cl C s0 H0 fp pn=>body cl C s0 H0 fp pn) hN hi0 hx hsw hf hs) fun D σ H ⟨Hs,ρ,o,E,q,k⟩=>ahW ?_
  cases h1:qK fi cap ga ft fe (hid own ρ) with
  | none=>simp [zo,h1] at q
  | some d=>
   have:Out.nx (ρ.set i (some d))=o:=by simpa [zo,h1,jG] using q
   subst this
   exact ⟨hid own ρ,d,E.hid,h1,fun v H1 s1 r1=>k _ H1 ((E.mono s1).set ho r1)⟩
end
noncomputable def Z4 (h:Heap):List Value->List (Int × Int)->Prop
 | [],ps=>ps=[]
 | v::vs,ps=>∃ p r a,ps=p::r/\v= .ref a/\PairAt h (.ref a) p/\Z4 h vs r
theorem Z4.len {h:Heap}:∀ {vs:List Value}{ps:List (Int × Int)},Z4 h vs ps->vs.length=ps.length
 | [],ps,e=>by cases (show ps=[] from e); rfl
 | v::vs,ps,⟨p,r,a,e,_,_,k⟩=>by rw [e,List.length_cons,List.length_cons,k.len]
structure SetAt (h:Heap) (u:Value) (ps:List (Int × Int)):Prop where
 ex:∃ a o k vs,u= .ref a/\h.get? a=some o/\o.cls= .type "tuple"/\o.data= .seq (List.toArray vs) k/\Z4 h vs ps
section
variable {X:Cx}
end
noncomputable def afg:PyData->Option (Int × Int)
 | .tuple [.int p,.int q]=>some (p,q)
 | _=>none
noncomputable def J3:List PyData->Option (List (Int × Int))
 | []=>some []
 | d::ds=>(afg d).bind fun t=>(J3 ds).map fun ts=>t::ts
theorem alx {prog:Program}{w:World}{A:Around} (hh:A.handled=none) (g:Bool) (it t:Addr) (hne:t ≠ it) (xs:Array Value):
  Draws prog w A it [it,t] xs.size (fun i v=>xs[i]?=some v) (fun i h=>ItA g h it t i/\SrA g h t xs):=
 ⟨fun _ _ st=>by obtain ⟨o,_,e,_⟩:=st.1.obj; exact ⟨o,e⟩,
  fun _ _ _ st kp=>⟨st.1.to fun o e=>kp it (by simp) o e,st.2.to fun o e=>kp t (by simp) o e⟩,
  fun i s Q E hi st hQ=>JB st.1 st.2 (x:=xs[i]) (by simp [hi]) fun h' q sb=>hQ _ h' s.toks (by simp [hi]) ⟨q,st.2.extBut sb.extBut hne⟩ sb,
  fun s Q E st hE=>Ql hh st.1 st.2 (by simp) hE⟩
noncomputable def enO (it:Addr):Obj:={ cls:= .type "enumerate",data:= .fields #[.none,.bool false,.ref it,rawInt 0,.none,.none] }
set_option maxHeartbeats 4000000 in
theorem agm (g:Bool) (a:Addr) (xs:Array Value):
  Meets (Builtin.«enumerate.__new__» ⟨[.type "enumerate",.ref a],[]⟩) (fun _ R s=>SrA g s.heap a xs/\
   R (.ok (.ret (.ref (qh1 g s.heap a).objs.size))) { s with heap:=(qh1 g s.heap a).push (enO s.heap.objs.size) }):=
 .of_wp fun prog w A R s h=>by
  obtain ⟨hp,g2,d,tk,os⟩:=s
  obtain ⟨h1,h⟩:=h
  have hsub:=sub_enumerate
  have k1:SrA g (Shared.heap ⟨hp,g2,d,tk,os⟩) a xs:=h1
  wp_walk
  refine wpAny_stack_any fun st=>wpAny_pure ?_
  split
  ·rename_i c _ _ _ _ _
   cases (c == Value.type "enumerate")
   ·wp_walk using QX k1
    exact ⟨_,rfl,h⟩
   ·wp_walk using QX k1
    exact ⟨_,rfl,h⟩
  ·wp_walk using QX k1
   exact ⟨_,rfl,h⟩
noncomputable def amO (K:PySem.W.Frag) (g:Bool) (l:Addr):It:=
 ⟨fun i H=>∃ xs x,Sq g K H l xs/\xs[i]?=some x,
  fun i H u H'=>∃ p x,u= .ref p/\H p=none/\H'=upd H p (.tup [.int (i:Int),x])/\∀ xs,Sq g K H l xs->xs[i]?=some x,
  fun i H=>∃ xs,Sq g K H l xs/\xs.length<=i⟩
theorem aet {P:Program}{w:World}{K:PySem.W.Frag}{g:Bool}{elts:List Expr}{x1:Nat}{pos:Pos}{e it l:Addr} (hei:e ≠ it) (hl0:l ≠ e/\l ≠ it):
  Turn P w K (.Tuple elts x1 pos) (amO K g l) [e,it] e (fun i h=>(∃ old,IsEnum h e it i old)/\ItA g h it l i) where
 mem:=by simp
 obj:=fun i h st b hb=>by
  obtain ⟨⟨old,he⟩,hi⟩:=st
  obtain ⟨o,vs,ho,hd⟩:=hi.obj
  simp only [List.mem_cons,List.not_mem_nil,or_false] at hb
  rcases hb with rfl | rfl
  ·exact ⟨_,he,fun v q=>by cases q⟩
  ·exact ⟨o,ho,fun v q=>by rw [hd] at q; cases q⟩
 keep:=fun i h h' st k=>by
  obtain ⟨⟨old,he⟩,hi⟩:=st
  exact ⟨⟨old,k e (by simp) _ he⟩,hi.to fun o q=>k it (by simp) o q⟩
 item:=by
  intro X hP hw hK hc i pins s σ H E I hf st hg
  subst hP hw hK
  obtain ⟨xs,x,q1,ex⟩:=hg
  obtain ⟨us1,r1,p1⟩:=q1.inv I
  obtain ⟨u1,m1,l1⟩:=r1.get ex
  obtain ⟨⟨old,he⟩,hit⟩:=st
  have hi:i < us1.toArray.size:=by
   have:=(List.getElem?_eq_some_iff.mp m1).1
   simpa using this
  refine wpAny_pyNext_enum_itemD (alx (A:=X.A.in1) (show X.A.in1.handled=none from I.ok.hd hc) g it l hl0.2 us1.toArray) he ⟨hit,p1⟩ hi hei (by simp only [List.mem_cons,List.not_mem_nil,or_false,not_or]; exact ⟨hei,hl0.1.symm⟩) fun x1 h1 tk hx1 ho hit1 hT hsz hk=>⟨_,rfl,?_⟩
  have hx1:x1=u1:=by
   have:us1[i]?=some x1:=by simpa using hx1
   rw [m1] at this
   exact (Option.some.inj this).symm
  subst hx1
  have hit1:=hit1.1
  refine wpAny_letOwnedTupleGo_enum (s:={ s with heap:=h1,toks:=tk+1 }) ho fun h2 he2 hs2=>?_
  have nT:H s.heap.objs.size=none:=I.hok.fresh (Nat.le_refl _)
  have elt:e < s.heap.objs.size:=Heap.lt_size he
  have B2:∀ b o,b ∉ [e,it]->s.heap.get? b=some o->h2.get? b=some o:=fun b o hb q=>by
   simp only [List.mem_cons,List.not_mem_nil,or_false,not_or] at hb
   exact (hs2.2 b hb.1).trans (hk b o hb.1 hb.2 q)
  have T2:h2.get? s.heap.objs.size=some { cls:= .type "tuple",data:= .seq #[.int i tk,x1] }:=(hs2.2 _ (Nat.ne_of_gt elt)).trans hT
  have hit2:ItA g h2 it l (i+1):=hit1.to fun o ho'=>(hs2.2 it hei.symm).trans ho'
  have ntr:∀ b u,H b=some u->b ∉ [e,it]:=fun b u q hb=>by
   have:=(hf b hb).1
   rw [q] at this; cases this
  have neT:∀ b u,H b=some u->b ≠ s.heap.objs.size:=fun b u e q=>by rw [q,nT] at e; cases e
  have hok2:HOk X.prog X.w (upd H s.heap.objs.size (.tup [.int (i:Int),x])) h2:=fun b u q=>by
   by_cases hb:b=s.heap.objs.size
   ·subst hb
    rw [jp] at q
    cases q
    exact ⟨by show 2<=sizeLine; rw [sizeLine_eq]; decide,[.int i tk,x1],.cons ⟨_,rfl⟩ (.cons l1 .nil),⟨_,T2,rfl,_,rfl⟩⟩
   ·rw [jn hb] at q
    refine (I.hok b u q).stay (fun c o hc' z=>B2 c o ?_ z) (fun c z=>by rw [jn (neT c _ z)]; exact z) fun c ws z=>by rw [jn (neT c _ z)]; exact z
    rcases hc' with q' | q'
    ·rw [q']; exact ntr b u q
    ·exact ntr c _ q'
  have I2:Inv X pins σ (upd H s.heap.objs.size (.tup [.int (i:Int),x])) { s with heap:=h2,toks:=tk+1 }:=by
   refine I.step (t':=tk+1) (g':=s.gens) (d':=s.drawn) (ch:=[e,it]) (fun b hb=>?_) (fun b o _ _ hb q _=>B2 b o hb q) (fun b o _ _ hb q _=>⟨o.slots,B2 b o hb q⟩) (fun b o hb q n=>?_) (fun b o hb q=>⟨o,B2 b o hb q⟩)
    (fun b ws q=>by rw [jn (neT b _ q)]; exact q) (fun b ob ws q=>by rw [jn (neT b _ q)]; exact q) (fun b ps q=>⟨#[],by rw [jn (neT b _ q),q]; simp⟩) (fun m hm=>?_) hok2 I.bare
   ·obtain ⟨f0,f1,f2,f3,f4,f5⟩:=hf b hb
    exact ⟨f3,f1,f4,f5⟩
   ·rw [jn (Nat.ne_of_lt (Heap.lt_size q))]; exact n
   ·obtain ⟨o,es,ep,ho',r⟩:=hm
    refine ⟨o,es,ep,B2 _ o (fun hb=>?_) ho',r⟩
    exact (hf _ hb).2.1 rfl
  refine ⟨.ref s.heap.objs.size,_,I2,rfl,⟨_,x,rfl,nT,rfl,fun as g1=>?_⟩,⟨⟨_,by simpa using he2⟩,hit2⟩,fun b hb=>?_⟩
  ·rw [Sq.inj I g1 q1]; exact ex
  ·have hlt:b < s.heap.objs.size:=by
    simp only [List.mem_cons,List.not_mem_nil,or_false] at hb
    rcases hb with rfl | rfl
    ·exact elt
    ·obtain ⟨o,vs,ho',_⟩:=hit.obj; exact Heap.lt_size ho'
   rw [jn (Nat.ne_of_lt hlt)]
   exact (hf b hb).1
 done:=by
  intro X hP hw hK hc i pins s σ H E I hf st hg
  subst hP hw hK
  obtain ⟨xs,q1,hl⟩:=hg
  obtain ⟨us1,r1,p1⟩:=q1.inv I
  have hlen:=r1.length
  obtain ⟨⟨old,he⟩,hit⟩:=st
  refine wpAny_pyNext_enum_endD (n:=i) (fp:=[it,l]) (P:=fun _ _=>False) (St:=fun k h=>k=i/\ItA g h it l i/\SrA g h l us1.toArray) ⟨fun _ _ st=>by obtain ⟨o,_,e,_⟩:=st.2.1.obj; exact ⟨o,e⟩,fun _ _ _ st kp=>⟨st.1,st.2.1.to fun o e=>kp it (by simp) o e,st.2.2.to fun o e=>kp l (by simp) o e⟩,fun k s Q E hk st=>absurd st.1 (by omega),fun s Q E st hE=>Ql (show X.A.in1.handled=none from I.ok.hd hc) st.2.1 st.2.2 (by simp; omega) hE⟩ he ⟨rfl,hit,p1⟩ fun h1 hx=>⟨rfl,?_⟩
  have ntr:∀ b u,H b=some u->b ≠ it:=fun b u q hb=>by
   have:=(hf it (by simp)).1
   rw [hb] at q
   rw [q] at this; cases this
  refine I.step (t':=s.toks) (g':=s.gens) (d':=s.drawn) (ch:=[it]) (fun b hb=>?_) (fun b o _ _ hb q _=>hx b o (by simpa using hb) q) (fun b o _ _ hb q _=>⟨o.slots,hx b o (by simpa using hb) q⟩) (fun b o hb q n=>n) (fun b o hb q=>⟨o,hx b o (by simpa using hb) q⟩)
   (fun b ws q=>q) (fun b ob ws q=>q) (fun b ps q=>⟨#[],by rw [q]; simp⟩) (fun m hm=>?_) (fun b u q=>?_) I.bare
  ·obtain ⟨f0,f1,f2,f3,f4,f5⟩:=hf b (by simp only [List.mem_cons,List.not_mem_nil,or_false] at hb ⊢; exact .inr hb)
   exact ⟨f3,f1,f4,f5⟩
  ·obtain ⟨o,es,ep,ho,r⟩:=hm
   refine ⟨o,es,ep,hx _ o (fun hb=>?_) ho,r⟩
   exact (hf it (by simp)).2.1 hb.symm
  ·refine (I.hok b u q).stay (fun c o hc' z=>hx c o ?_ z) (fun c z=>z) fun c ws z=>z
   rcases hc' with q' | q'
   ·rw [q']; exact ntr b u q
   ·exact ntr c _ q'
 self:=fun _ _ _ _ _ st h=>by
  obtain ⟨⟨old,he⟩,_⟩:=st
  exact wpAny_pyIter_enum he h
section
variable {X:Cx}
noncomputable def aly (K:PySem.W.Frag) (ta:TA):TI:=fun σ H R=>ta σ H fun vs H1=>∃ g a xs,vs=[.ref a]/\Sq g K H1 a xs/\R (amO K g a) H1
theorem ah2 {ea:Expr}{elts:List Expr}{x1:Nat}{tp:Pos}{ta:TA}{p pos:Pos} (hg:Gl X "enumerate") (hm:X.mg "enumerate"=none) (ha:PA X [ea] ta)
  (hs:starEach [ea] X.env=[(false,eval ea X.env)]:=by rfl):
  PI X (.Tuple elts x1 tp) (.Call (.Name "enumerate" p) [ea] [] pos) (aly X.K ta):=by
 intro pins s σ H R I h
 refine Call_ (JP I hg hm boot_enumerate (PyProof.Rows.callWith_type1 (thn (ha pos pins s σ H _ I h) fun us s1 ⟨vs,H1,I1,r1,q1⟩=>?_) (by rw [hs]; rfl) (by rfl)))
 obtain ⟨g,a,xs,e,q1,q⟩:=q1
 subst e
 cases r1 with
 | cons r1 rr=>
  cases rr
  cases r1
  obtain ⟨us1,v1,p1⟩:=q1.inv I1
  have al:a < s1.heap.objs.size:=by
   cases g with
   | true=>obtain ⟨o,e,_⟩:=p1; exact Heap.lt_size e
   | false=>obtain ⟨o,e,_⟩:=p1; exact Heap.lt_size e
  have hz:(qh1 g s1.heap a).objs.size=s1.heap.objs.size+1:=Heap.size_push ..
  refine callType_new F.called_enumerate (by decide) (F.typeCall_enumerate_1 _) (F.newCall_enumerate_1 _) (fun obj=>F.args_object_init_2 obj _) F.entry_enumerate_new (agm g a us1.toArray) ⟨p1,?_⟩
  have he:IsEnum ((qh1 g s1.heap a).push (enO s1.heap.objs.size)) (qh1 g s1.heap a).objs.size s1.heap.objs.size 0 .none:=Heap.get?_push_size (qh1 g s1.heap a) (o:=enO s1.heap.objs.size) rfl
  have hit:ItA g ((qh1 g s1.heap a).push (enO s1.heap.objs.size)) s1.heap.objs.size a 0:=aeq (Heap.get?_push_of_some _ (Heap.get?_push_size _ (aaI g a)))
  have kp:∀ b o,s1.heap.get? b=some o->((qh1 g s1.heap a).push (enO s1.heap.objs.size)).get? b=some o:=fun b o e=>Heap.get?_push_of_some _ (Heap.get?_push_of_some _ e)
  show _/\_
  refine ⟨⟨_,he,rfl⟩,?_⟩
  rw [hz] at he ⊢
  refine wpAny_pyIter_enum he ?_
  have I2:Inv X pins σ H1 { s1 with heap:=(qh1 g s1.heap a).push (enO s1.heap.objs.size) }:=I1.kept (t':=s1.toks) kp
  refine ⟨_,[s1.heap.objs.size+1,s1.heap.objs.size],_,_,H1,rfl,I2,aet (g:=g) (e:=s1.heap.objs.size+1) (it:=s1.heap.objs.size) (l:=a) (Nat.succ_ne_self _) ⟨Nat.ne_of_lt (Nat.lt_succ_of_lt al),Nat.ne_of_lt al⟩,⟨⟨_,he⟩,hit⟩,fun x hx=>?_,q⟩
  have hle:s1.heap.objs.size<=x:=by
   simp only [List.mem_cons,List.not_mem_nil,or_false] at hx
   rcases hx with e | e <;> rw [e] <;> omega
  exact I1.fpOk hle (I1.hok.fresh hle)
noncomputable def adp (ds:List PyData):Option (List PyData):=match ds with
 | [p]=>(aaJ p).map (J2 0)
 | _=>none
theorem abO {ea:Expr}{elts:List Expr}{x1:Nat}{tp:Pos}{p pos:Pos}{fr:Rho->Option (List PyData)} (hm:X.mg "enumerate"=none) (ha:PAD X [ea] fr) (hg:Gl X "enumerate":=by rfl)
  (hs:starEach [ea] X.env=[(false,eval ea X.env)]:=by rfl):
  PID X (.Tuple elts x1 tp) (.Call (.Name "enumerate" p) [ea] [] pos) (fun ρ=>(fr ρ).bind adp):=by
 with_unfolding_all
  refine PI.imp (ah2 hg hm ha hs) fun σ H R ⟨ρ,ds,en,q,k⟩=>?_
  cases h1:fr ρ with
  | none=>simp [h1] at q
  | some as=>
   have q':adp as=some ds:=by simpa [h1] using q
   refine ⟨ρ,as,en,h1,fun vs H1 s1 r1=>?_⟩
   unfold adp at q'
   split at q'
   ·rename_i dp
    cases hp:aaJ dp with
    | none=>simp [hp] at q'
    | some xs=>
    simp only [hp,zzE,Option.some.injEq] at q'
    subst q'
    obtain ⟨v1,w1,e1,rp,e4⟩:=r1
    cases (show w1=[] from e4)
    obtain ⟨g,a,us,g1,qa,ra⟩:=aaK hp rp
    subst g1
    have l1:=ra.length
    have lz:=abM xs 0
    refine ⟨g,a,us,e1,qa,k _ H1 s1 fun i H2 s2=>⟨fun hi=>?_,fun hi=>?_,fun u H3 y=>?_⟩⟩
    ·rw [lz] at hi
     exact ⟨us,us[i]'(by omega),Sq.monoE s2 qa,by simp <;> omega⟩
    ·rw [lz] at hi
     exact ⟨us,Sq.monoE s2 qa,by omega⟩
    ·obtain ⟨pp,x,e5,e6,e7,e8⟩:=y
     subst e5; subst e7
     refine ⟨jx e6,fun d hd=>?_⟩
     obtain ⟨dx,g3,g4⟩:=abN xs 0 i d hd
     subst g4
     have f1:=e8 us (Sq.monoE s2 qa)
     have m:=s2.trans (jr.e (jx (o:= .tup [.int (i:Int),x]) e6))
     obtain ⟨x',a1,a2⟩:=(Reps.monoE m _ _ ra).get g3
     rw [f1] at a1; cases a1
     exact ⟨pp,[.int (i:Int),x],rfl,SqT.of jp,_,_,rfl,by show V.int (i:Int)=V.int ((0+i:Nat):Int); rw [Nat.zero_add],x,_,rfl,a2,rfl⟩
   ·cases q'
end
end BX
end
local macro_rules
  | `(tactic| dsimp? [$xs,*])=>`(tactic| simp only [BX.j1,BX.ifS,BX.ifD,BX.ifX,BX.aba,BX.orB,BX.zQ,BX.tst,BX.op2,BX.chn,BX.jT,BX.Qx,BX.JU,BX.js,BX.jN,BX.lkp,BX.cst,BX.qJ,BX.ace,BX.zo,BX.jG,BX.qA,BX.nxX,BX.orX,BX.als,BX.ahh,BX.asB,zzA,zzB,zzC,zzD,zzH,zzE,zzI,zzF,zzG,zzJ,zzK,zzL,zzM,zzN,$(⟨xs.elemsAndSeps⟩),*])
section
namespace Rods
open PySem L2 BX
open PyProof.Rows hiding St
noncomputable def top (i:Nat):Stmt:=PySem.Challenge.pw_beadrods_k22_whole_moves.main.body.getD i (.Pass ⟨0,0,0,0⟩)
structure Bare (mg:Str->Option Value):Prop where
 isi:mg "isinstance"=none
 bool:mg "bool"=none
 int:mg "int"=none
 tuple:mg "tuple"=none
 zip:mg "zip"=none
 range:mg "range"=none
 all:mg "all"=none
 len:mg "len"=none
 max:mg "max"=none
 min:mg "min"=none
 sum:mg "sum"=none
 sorted:mg "sorted"=none
 abs:mg "abs"=none
 list:mg "list"=none
 enum:mg "enumerate"=none
 vale:mg "ValueError"=none
 str:mg "str"=none
 set:mg "set"=none
 dict:mg "dict"=none
theorem ajM:bootBuiltins "bool"=some (.type "bool"):=by decide +kernel
theorem alz:bootBuiltins "int"=some (.type "int"):=by decide +kernel
theorem Jl:bootBuiltins "tuple"=some (.type "tuple"):=by decide +kernel
theorem ajN:bootBuiltins "list"=some (.type "list"):=by decide +kernel
theorem ah3:bootBuiltins "all"=some (.builtin "all"):=by decide +kernel
theorem qd:bootBuiltins "len"=some (.builtin "len"):=by decide +kernel
theorem ahv:bootBuiltins "max"=some (.builtin "max"):=by decide +kernel
theorem ahu:bootBuiltins "min"=some (.builtin "min"):=by decide +kernel
theorem alA:bootBuiltins "sum"=some (.builtin "sum"):=by decide +kernel
theorem aeu:bootBuiltins "abs"=some (.builtin "abs"):=by decide +kernel
end Rods
namespace Rods
open PySem L2 BX
open PyProof.Rows hiding St
noncomputable abbrev QZ:Stmt:=top 7
noncomputable abbrev Qm:Stmt:=top 16
noncomputable abbrev Q1:Stmt:=top 15
noncomputable abbrev qD (C:Program->World->PySem.W.Frag->(Str->Option Value)->Heap->Prop) (qual:Str) (st:Stmt) (N:List Str) (k:Nat) (B:Rho->Option Out):Prop:=
 ∀ (P:Program) (w:World) (K:PySem.W.Frag) (mg:Str->Option Value) (base:Heap) (f:Addr) (cdv:Value) (A:Around) (outer:List Env) (s:Shared) (H:Hp) (E:XK),C P w K mg base->Room k (A.deeper (envOfC qual (jm st) s.heap.objs.size f cdv))->
  aaw (aan CX0 P w K mg base N qual (jm st) f cdv A outer s H E).nox (jP st) B
theorem aev:FnScope ["thing","least","most"] ["thing","least","most"] (jm QZ):=⟨rfl,rfl,rfl,by decide +kernel,rfl,by decide +kernel,by decide +kernel⟩
noncomputable def Q2:{ B:Rho->Option Out // qD (fun _ _ _ mg _=>Bare mg) "is_whole" QZ ["thing","least","most"] 0 B }:=
 ⟨_,fun P w K mg base f cdv A outer s H E T hr=>
  jd (j0 (qf (qQ (qe (Zu (.inl rfl) T.isi T.bool ajM (jb 0))) (qC (qj (qe (Zu (.inr (.inl rfl)) T.isi T.int alz (jb 0))))))) (jd (ju zn) jf) jf)
  (jd (ju (ahk Zs Zs (jb 1) (jb 0) (jb 2))) jf)⟩
noncomputable def jO:List PyData->Option PyData:=jB ["thing","least","most"] 3 Q2.1
theorem adq:FnScope ["manner","rod"] ["manner","rod"] (jm Qm):=⟨rfl,rfl,rfl,by decide +kernel,rfl,by decide +kernel,by decide +kernel⟩
noncomputable def Zx:{ B:Rho->Option Out // qD (fun _ _ _ _ _=>True) "rod_worth" Qm ["manner","rod"] 0 B }:=
 ⟨_,fun P w K mg base f cdv A outer s H E T hr=>
  jd (ju (jq jz (jq qg (jK (jb 1) ji) (jK (jb 0) ji)) (jK (jb 1) ji))) jf⟩
noncomputable def qE:List PyData->Option PyData:=jB ["manner","rod"] 2 Zx.1
noncomputable def zJ (i:Nat) (m:Nat):List PyData:=(List.range m).map fun (j:Nat)=>PyData.tuple [.int (i:Int),.int (j:Int)]
noncomputable def zV (n m:Nat):List PyData:=(List.range n).flatMap fun (i:Nat)=>zJ i m
theorem ads (i m:Nat):zJ i (m+1)=zJ i m++[PyData.tuple [.int (i:Int),.int (m:Int)]]:=by simp [zJ,List.range_succ]
theorem QH (n m:Nat):zV (n+1) m=zV n m++zJ n m:=by simp [zV,List.range_succ]
theorem adt (i m:Nat):noLs (zJ i m)=true:=JZ fun d hd=>by
 obtain ⟨j,_,rfl⟩:=List.mem_map.mp hd
 simp [noL,noLs]
theorem agn (n m:Nat):noLs (zV n m)=true:=by
 induction n with
 | zero=>simp [zV,noLs]
 | succ n ih=>rw [QH,JY,ih,adt]; rfl
theorem afh (i m:Nat):(zJ i m).length=m:=by simp [zJ]
theorem aaN (n m:Nat):(zV n m).length=n*m:=by
 induction n with
 | zero=>simp [zV]
 | succ n ih=>rw [QH,List.length_append,ih,afh,Nat.succ_mul]
noncomputable def zj (ds:List PyData):Option PyData:=match ds with
 | [.tuple [.int u,.int _,.int l,.int _]]=>if 0<=u/\u < 1000/\0<=l/\l < 1000 then some (.list (zV (u+1).toNat (l+1).toNat)) else none
 | _=>none
theorem JE:FnScope ["manner","rods","upper","lower"] ["manner"] (jm Q1):=⟨rfl,rfl,rfl,by decide +kernel,rfl,by decide +kernel,by decide +kernel⟩
end Rods
namespace Rods
open PySem L2 BX
open PyProof.Rows hiding St
section
variable {P:Program}{w:World}{K:PySem.W.Frag}{mg:Str->Option Value}{base:Heap}
theorem aew {f:Addr}{fd:FuncData} (F:Fun K "all_rods" "all_rods" Q1 f fd) (T:Bare mg):FnOk P w K mg base CX0 1 f fd ["manner"] (Pur K 1 zj):=by
 with_unfolding_all
  refine F.ok JE (fun vs H Q E h=>?_) (fun cdv A outer s H vs Q E hr h=>?_)
  ·obtain ⟨ds,d,h1,h2,_⟩:=h
   rw [h2.length]; exact h1
  ·obtain ⟨ds,d,h1,h2,h3,k⟩:=h
   unfold zj at h3
   split at h3
   ·rename_i u e l b
    split at h3
    ·rename_i hb
     obtain ⟨hu0,hu1,hl0,hl1⟩:=hb
     cases h3
     refine ⟨_,JQ (ab8 (i:=1) JE.nd rfl (Or.inl rfl) (ad6 JR))
      (JQ (ab9 PassesOwn.never rfl (Zk rfl T.range (ja (jq jz (jK (jb 0) ji) ji) je)) (QL (i:=2) JE.nd rfl (Or.inl rfl))
       (ab6 (ab9 PassesOwn.never rfl (Zk rfl T.range (ja (jq jz (jK (jb 0) ji) ji) je)) (QL (i:=3) JE.nd rfl (Or.inl rfl))
        (ab6 (ab7 (ag7 PySem.F.plainAttrs_list PySem.F.slot_list_append PySem.F.type_list_append abv (pv 1) (ze (ag4 (ze (pv 2) (ze (pv 3) JR))) JR)))))))
      (ab6 (ad0 (pv 1)))),?_⟩
     obtain ⟨mv,rr,e1,em,e2⟩:=h2
     cases (show rr=[] from e2)
     subst e1
     have nm:noL (PyData.tuple [.int u,.int e,.int l,.int b])=true:=by simp [noL,noLs]
     refine ⟨Nat.zero_le _,fun p hp=>?_⟩
     have envr:∀ {H2:Hp} {x2 x3:Option V} {y:Option V},jr H H2->EnvR K H2 [some (PyData.tuple [.int u,.int e,.int l,.int b]),none,none,none] [some mv,y,x2,x3]:=fun {H2 x2 x3 y} s2=>
      ⟨rfl,fun i d q=>by
       cases i with
       | zero=>cases q; exact ⟨mv,rfl,Rep.mono s2 _ _ em⟩
       | succ i=>
        match i,q with
        | 0,q=>cases q
        | 1,q=>cases q
        | 2,q=>cases q
        | j+3,q=>simp at q⟩
     refine ⟨_,[.int (u+1)],envr (jx hp),by simp [js,jN,op2,lkp,dIx,atI,ixN,cst,Je],fun vs1 H1 s1 r1=>?_⟩
     obtain ⟨y1,q1,f1,f2,f3⟩:=r1
     cases (show y1=V.int (u+1) from f2)
     cases (show q1=[] from f3)
     subst f1
     refine ⟨u+1,rfl,by omega,by omega,abp (n:=(u+1).toNat) (fun i σ H2=>∃ x2 x3 xs,σ=[some mv,some (.ref p),x2,x3]/\jr H H2/\H2 p=some (.lst xs)/\Reps K H2 (zV i (l+1).toNat) xs)
      ⟨none,none,[],rfl,(jx hp).trans s1,s1 _ _ jp,rfl⟩ ?_ ?_⟩
     ·rintro i σ H2 hi ⟨x2,x3,xs,rfl,s2,hp2,r2⟩
      refine ⟨_,[.int (l+1)],envr s2,by simp [js,jN,op2,lkp,dIx,atI,ixN,cst,Je],fun vs2 H3 s3 r3=>?_⟩
      obtain ⟨y2,q2,g1,g2,g3⟩:=r3
      cases (show y2=V.int (l+1) from g2)
      cases (show q2=[] from g3)
      subst g1
      refine ⟨l+1,rfl,by omega,by omega,abp (n:=(l+1).toNat) (fun j σ H4=>∃ x3 ys,σ=[some mv,some (.ref p),some (.int (0+i)),x3]/\jr H H4/\H4 p=some (.lst ys)/\Reps K H4 (zV i (l+1).toNat++zJ i j) ys)
       ⟨x3,xs,rfl,s2.trans s3,s3 _ _ hp2,by simpa [zJ] using Reps.mono s3 _ _ r2⟩ ?_ ?_⟩
      ·rintro j σ H4 hj ⟨x3',ys,rfl,s4,hp4,r4⟩
       have hlen:ys.length < sizeLine:=by
        rw [r4.length,List.length_append,aaN,afh,sizeLine_eq]
        have h1:i*(l+1).toNat<=1000*1001:=Nat.mul_le_mul (by omega) (by omega)
        omega
       refine ⟨_,rfl,.inl ⟨rfl,ys,SqL.of hp4⟩,_,rfl,_,rfl,by show 2<=sizeLine; rw [sizeLine_eq]; decide,fun q hq=>?_⟩
       have npq:p ≠ q:=qo hp4 hq
       refine ⟨p,ys,.ref q,rfl,rfl,by rw [jn npq]; exact hp4,hlen,?_⟩
       have t1:qW H4 (upd (upd H4 q (.tup [.int (0+(i:Int)),.int (0+(j:Int))])) p (.lst (ys++[.ref q]))):=
        (jr.n (jx hq)).trans (qW.upd (xs:=ys) (by rw [jn npq]; exact hp4))
       refine ⟨_,ys++[.ref q],rfl,fun c o hc=>?_,jp,?_⟩
       ·have hc4:=s4 c o hc
        rw [jn (qo hc hp),jn (qo hc4 hq)]
        exact hc4
       ·rw [ads,←List.append_assoc]
        refine (Reps.monoN t1 _ _ (by rw [JY,agn,adt]; rfl) r4).append ⟨.ref q,[],rfl,⟨q,_,rfl,SqT.of (by rw [jn (Ne.symm npq)]; exact jp),?_⟩,rfl⟩
        exact ⟨_,_,rfl,by show _=V.int _; rw [Int.zero_add],_,_,rfl,by show _=V.int _; rw [Int.zero_add],rfl⟩
      ·rintro σ H4 ⟨x3',ys,rfl,s4,hp4,r4⟩
       exact ⟨_,x3',ys,rfl,s4,hp4,by rw [QH]; exact r4⟩
     ·rintro σ H2 ⟨x2,x3,xs,rfl,s2,hp2,r2⟩
      exact ⟨_,rfl,k _ _ s2 ⟨p,xs,rfl,hp2,r2⟩⟩
    ·cases h3
   ·cases h3
end
end Rods
namespace Rods
open PySem L2 BX
open PyProof.Rows hiding St
noncomputable abbrev Qn:Stmt:=top 12
noncomputable abbrev Qo:Stmt:=top 11
noncomputable abbrev CC:=Program->World->PySem.W.Frag->(Str->Option Value)->Heap->Prop
structure CHasAll (P:Program) (w:World) (K:PySem.W.Frag) (mg:Str->Option Value) (base:Heap):Prop where
 t:Bare mg
 allRods:jl P w K mg base "all_rods" ["manner"] 1 1 zj
 rodWorth:jl P w K mg base "rod_worth" ["manner","rod"] 1 2 qE
theorem abP:FnScope ["manner","worths"] ["manner"] (jm Qn):=⟨rfl,rfl,rfl,by decide +kernel,rfl,by decide +kernel,by decide +kernel⟩
theorem nd2:(["rod","manner"]:List Str).Nodup:=by decide +kernel
theorem nd3:(["digit","worths"]:List Str).Nodup:=by decide +kernel
noncomputable def acs:{ B:Rho->Option Out // qD CHasAll "has_all_digits" Qn ["manner","worths"] 1 B }:=
 ⟨_,fun P w K mg base f cdv A outer s H E C hr=>
  jd (jw 1 abP.nd (zT ["rod","manner"] [none,some 0] rfl (aaA (jg C.allRods hr (Nat.le_refl _) (ja (jb 0) je) (jc jk))) (zp (jm Qn) ["manner","worths"] (by decide +kernel))
   fun cl C' s0 H0 fp pn=>⟨jM 0 nd2,zE,jg C.rodWorth hr (Nat.le_refl _) (ja (jb 1) (ja (jb 0) je)) (jc (jc jk))⟩))
  (jd (ju (jy (aho rfl) C.t.all ah3 (ja (zT ["digit","worths"] [none,some 1] rfl (qZ rfl C.t.range (ja (jK (jb 0) ji) je)) (zp (jm Qn) ["manner","worths"] (by decide +kernel))
   fun cl C' s0 H0 fp pn=>⟨jM 0 nd3,zE,Jd (alh hr.units) (jb 0) (jb 1)⟩) je))) jf)⟩
noncomputable abbrev act:Stmt:=top 13
noncomputable def GC (K:PySem.W.Frag) (mg:Str->Option Value) (x:Str) (d:PyData):Prop:=∃ v u,mg x=some u/\jJ v u/\∀ H,Rep K H d v
theorem Q3 {X:Cx}{pos:Pos}{x:Str}{d:PyData} (c:GC X.K X.mg x d) (hg:Gl X x:=by rfl) (hd:(x == ("__debug__":Str))=false:=by decide):PD X (.Name x pos) (cst d):=by
 with_unfolding_all
  obtain ⟨v,u,h1,h2,h3⟩:=c
  exact ajm hg h1 h2 h3 hd
noncomputable def Q4:List PyData->Option PyData:=jB ["manner","worths"] 1 acs.1
structure CIsManner (P:Program) (w:World) (K:PySem.W.Frag) (mg:Str->Option Value) (base:Heap):Prop where
 t:Bare mg
 least:GC K mg "LEAST_PARTS" (.tuple [.int 0,.int 1,.int 0,.int 2])
 most:GC K mg "MOST_PARTS" (.tuple [.int 3,.int 16,.int 12,.int 16])
 isWhole:jl P w K mg base "is_whole" ["thing","least","most"] 1 3 jO
 hasAll:jl P w K mg base "has_all_digits" ["manner"] 2 1 Q4
theorem zW:FnScope ["thing","part","least","most"] ["thing"] (jm Qo):=⟨rfl,rfl,rfl,by decide +kernel,rfl,by decide +kernel,by decide +kernel⟩
noncomputable def Zy:{ B:Rho->Option Out // qD CIsManner "is_manner" Qo ["thing","part","least","most"] 2 B }:=
 ⟨_,fun P w K mg base f cdv A outer s H E C hr=>
  jd (j0 (qf (qQ (qj (qe (Zu (.inr (.inr rfl)) C.t.isi C.t.tuple Jl (jb 0)))) (qC (jL (qF hr.units) (jy j9 C.t.len qd (ja (jb 0) je)) (jy j9 C.t.len qd (ja (Q3 C.most) je)))))) (jd (ju zn) jf) jf)
  (jd (Jx PassesOwn.never rfl (ahs C.t.zip (ja (jb 0) (ja (Q3 C.least) (ja (Q3 C.most) je)))) (acf (n:=3) rfl (qN (jM 1 zW.nd) (qN (jM 2 zW.nd) (qN (jM 3 zW.nd) aaz))))
   (jd (j0 (qj (qe (jg C.isWhole hr (by decide) (ja (jb 1) (ja (jb 2) (ja (jb 3) je))) (jc (jc (jc jk)))))) (jd (ju zn) jf) jf) jf))
  (jd (ju (jg C.hasAll hr (Nat.le_refl _) (ja (jb 0) je) (jc jk))) jf))⟩
noncomputable def zy:List PyData->Option PyData:=jB ["thing","part","least","most"] 1 Zy.1
structure CCheck (P:Program) (w:World) (K:PySem.W.Frag) (mg:Str->Option Value) (base:Heap):Prop where
 isManner:jl P w K mg base "is_manner" ["thing"] 3 1 zy
theorem ah4:FnScope ["thing"] ["thing"] (jm act):=⟨rfl,rfl,rfl,by decide +kernel,rfl,by decide +kernel,by decide +kernel⟩
noncomputable def aex:{ B:Rho->Option Out // qD CCheck "check_manner" act ["thing"] 3 B }:=
 ⟨_,fun P w K mg base f cdv A outer s H E C hr=>
  jd (j0 (qj (qe (jg C.isManner hr (Nat.le_refl _) (ja (jb 0) je) (jc jk)))) QC jf) jf⟩
noncomputable def Zz:List PyData->Option PyData:=jB ["thing"] 1 aex.1
noncomputable abbrev zr:Stmt:=top 22
noncomputable abbrev zz:Stmt:=top 24
noncomputable abbrev Qp:Stmt:=top 25
noncomputable abbrev zA:Stmt:=top 26
noncomputable abbrev abQ (C:CC) (qual:Str) (st:Stmt) (N:List Str) (k:Nat) (sts:List Stmt) (B:Rho->Option Out):Prop:=
 ∀ (P:Program) (w:World) (K:PySem.W.Frag) (mg:Str->Option Value) (base:Heap) (f:Addr) (cdv:Value) (A:Around) (outer:List Env) (s:Shared) (H:Hp) (E:XK),C P w K mg base->Room k (A.deeper (envOfC qual (jm st) s.heap.objs.size f cdv))->
  aaw (aan CX0 P w K mg base N qual (jm st) f cdv A outer s H E).nox sts B
noncomputable abbrev aaO (own:Nat) (C:CC) (qual:Str) (st:Stmt) (N:List Str) (k:Nat) (sts:List Stmt) (B:Rho->Option Out):Prop:=
 ∀ (P:Program) (w:World) (K:PySem.W.Frag) (mg:Str->Option Value) (base:Heap) (f:Addr) (cdv:Value) (A:Around) (outer:List Env) (s:Shared) (H:Hp) (E:XK),C P w K mg base->Room k (A.deeper (envOfC qual (jm st) s.heap.objs.size f cdv))->
  abd (aan CX0 P w K mg base N qual (jm st) f cdv A outer s H E).nox (some own) sts B
noncomputable def qh:Stmt->List Stmt
 | .For _ _ b _ _=>b
 | _=>[]
noncomputable def J4 (l:List Stmt) (i:Nat):Stmt:=l.getD i (.Pass ⟨0,0,0,0⟩)
structure CNum (P:Program) (w:World) (K:PySem.W.Frag) (mg:Str->Option Value) (base:Heap):Prop where
 rodWorth:jl P w K mg base "rod_worth" ["manner","rod"] 1 2 qE
noncomputable abbrev ajO:List Str:=["manner","setting","number","rod"]
theorem acu:FnScope ajO ["manner","setting"] (jm zz):=⟨rfl,rfl,rfl,by decide +kernel,rfl,by decide +kernel,by decide +kernel⟩
noncomputable def acv:{ B:Rho->Option Out // abQ CNum "number_on" zz ajO 1 (qh (J4 (jP zz) 1)) B }:=
 ⟨_,fun P w K mg base f cdv A outer s H E C hr=>
  jd (jw 2 acu.nd (jq jz (jq qg (jb 2) (jK (jb 0) ji)) (jg C.rodWorth hr (Nat.le_refl _) (ja (jb 0) (ja (jb 3) je)) (jc (jc jk))))) jf⟩
noncomputable def ajP:{ B:Rho->Option Out // qD CNum "number_on" zz ajO 1 B }:=
 ⟨_,fun P w K mg base f cdv A outer s H E C hr=>
  jd (jw 2 acu.nd ji) (jd (Jx PassesOwn.never rfl (acg (jb 1)) (jM 3 acu.nd) (acv.2 P w K mg base f cdv A outer s H E C hr)) (jd (ju (jb 2)) jf))⟩
noncomputable def adu:List PyData->Option PyData:=jB ajO 2 ajP.1
theorem ajQ:FnScope ["manner","rods"] ["manner","rods"] (jm Qp):=⟨rfl,rfl,rfl,by decide +kernel,rfl,by decide +kernel,by decide +kernel⟩
noncomputable def afi:{ B:Rho->Option Out // qD (fun _ _ _ _ _=>True) "full_rods" Qp ["manner","rods"] 0 B }:=
 ⟨_,fun P w K mg base f cdv A outer s H E C hr=>
  jd (ju (jq ahN (qy (ja (qy (ja (jK (jb 0) ji) (ja (jK (jb 0) ji) je))) je)) (jb 1))) jf⟩
noncomputable def ah5:List PyData->Option PyData:=jB ["manner","rods"] 2 afi.1
structure CLast (P:Program) (w:World) (K:PySem.W.Frag) (mg:Str->Option Value) (base:Heap):Prop where
 allRods:jl P w K mg base "all_rods" ["manner"] 1 1 zj
 rodWorth:jl P w K mg base "rod_worth" ["manner","rod"] 1 2 qE
 num:jl P w K mg base "number_on" ["manner","setting"] 2 2 adu
 full:jl P w K mg base "full_rods" ["manner","rods"] 1 2 ah5
noncomputable abbrev afj:List Str:=["manner","ahead","number","base","most","told","rod","left"]
theorem Qq:FnScope afj ["manner","ahead","number"] (jm zA):=⟨rfl,rfl,rfl,by decide +kernel,rfl,by decide +kernel,by decide +kernel⟩
noncomputable def Qr:{ B:Rho->Option Out // aaO 5 CLast "last_rods" zA afj 2 (qh (J4 (jP zA) 3)) B }:=
 ⟨_,fun P w K mg base f cdv A outer s H E C hr=>
  jE (afc 7 Qq.nd (jq qM (jb 2) (jg C.rodWorth hr (by decide) (ja (jb 0) (ja (jb 6) je)) (jc (jc jk)))))
  (jE (ahA (qf (ajo (jL (zF hr.units) (jq Jy (jb 7) (jb 3)) ji) (ahg (abC Zs Zs ji (jb 7) (jq qg (jb 3) (jb 4))))))
   (jE (aco (agb 5 (qy (ja (jb 6) (ja (jq JW (jb 7) (jb 3)) je))))) j6) j6) j6)⟩
noncomputable def afk:{ B:Rho->Option Out // qD CLast "last_rods" zA afj 2 B }:=
 ⟨_,fun P w K mg base f cdv A outer s H E C hr=>
  QS (jE (abH (jw 3 Qq.nd (jK (jb 0) ji)))
  (jE (abH (jw 4 Qq.nd (jg C.num hr (Nat.le_refl _) (ja (jb 0) (ja (jg C.full hr (by decide) (ja (jb 0) (ja (jb 1) je)) (jc (jc jk))) je)) (jc (jc jk)))))
  (QV 5 Qq.nd (aej je)
  (jE (JA PassesOwn.never rfl (aaA (jg C.allRods hr (by decide) (ja (jb 0) je) (jc jk))) (QT 6 Qq.nd) (Qr.2 P w K mg base f cdv A outer s H E C hr))
  (jE (Z3 (jb 5)) j6)))))⟩
noncomputable def afl:List PyData->Option PyData:=jB afj 3 afk.1
structure CChkNum (P:Program) (w:World) (K:PySem.W.Frag) (mg:Str->Option Value) (base:Heap):Prop where
 isWhole:jl P w K mg base "is_whole" ["thing","least","most"] 1 3 jO
 most:GC K mg "MOST_NUMBER" (.int 99999)
theorem ago:FnScope ["number"] ["number"] (jm zr):=⟨rfl,rfl,rfl,by decide +kernel,rfl,by decide +kernel,by decide +kernel⟩
noncomputable def acw:{ B:Rho->Option Out // qD CChkNum "check_number" zr ["number"] 1 B }:=
 ⟨_,fun P w K mg base f cdv A outer s H E C hr=>
  jd (j0 (qj (qe (jg C.isWhole hr (Nat.le_refl _) (ja (jb 0) (ja ji (ja (Q3 C.most) je))) (jc (jc (jc jk)))))) QC jf) jf⟩
noncomputable def JF:List PyData->Option PyData:=jB ["number"] 1 acw.1
noncomputable abbrev acx:Stmt:=top 14
noncomputable abbrev zK:Stmt:=top 20
noncomputable abbrev zf:Stmt:=top 21
noncomputable def al1:Stmt->List Stmt
 | .While _ b _ _=>b
 | _=>[]
structure CIsRod (P:Program) (w:World) (K:PySem.W.Frag) (mg:Str->Option Value) (base:Heap):Prop where
 t:Bare mg
 isWhole:jl P w K mg base "is_whole" ["thing","least","most"] 1 3 jO
theorem ah6:FnScope ["manner","thing"] ["manner","thing"] (jm acx):=⟨rfl,rfl,rfl,by decide +kernel,rfl,by decide +kernel,by decide +kernel⟩
noncomputable def ZA:{ B:Rho->Option Out // qD CIsRod "is_rod" acx ["manner","thing"] 1 B }:=
 ⟨_,fun P w K mg base f cdv A outer s H E C hr=>
  jd (j0 (qf (qQ (qj (qe (Zu (.inr (.inr rfl)) C.t.isi C.t.tuple Jl (jb 1)))) (qC (jL (qF hr.units) (jy j9 C.t.len qd (ja (jb 1) je)) ji)))) (jd (ju zn) jf) jf)
  (jd (ju (aeo (jg C.isWhole hr (Nat.le_refl _) (ja (jK (jb 1) ji) (ja ji (ja (jK (jb 0) ji) je))) (jc (jc (jc jk)))) (aen (jg C.isWhole hr (Nat.le_refl _) (ja (jK (jb 1) ji) (ja ji (ja (jK (jb 0) ji) je))) (jc (jc (jc jk))))))) jf)⟩
noncomputable def Jf:List PyData->Option PyData:=jB ["manner","thing"] 2 ZA.1
structure CIsSet (P:Program) (w:World) (K:PySem.W.Frag) (mg:Str->Option Value) (base:Heap):Prop where
 t:Bare mg
 check:jl P w K mg base "check_manner" ["thing"] 4 1 Zz
 isRod:jl P w K mg base "is_rod" ["manner","thing"] 2 2 Jf
 most:GC K mg "MOST_RODS" (.int 4)
theorem ah7:FnScope ["manner","thing"] ["manner","thing"] (jm zK):=⟨rfl,rfl,rfl,by decide +kernel,rfl,by decide +kernel,by decide +kernel⟩
theorem ndp:(["part","manner"]:List Str).Nodup:=by decide +kernel
noncomputable def ZB:{ B:Rho->Option Out // qD CIsSet "is_setting" zK ["manner","thing"] 4 B }:=
 ⟨_,fun P w K mg base f cdv A outer s H E C hr=>
  jd (qv (jg C.check hr (Nat.le_refl _) (ja (jb 0) je) (jc jk)))
  (jd (j0 (qf (qQ (qj (qe (Zu (.inr (.inr rfl)) C.t.isi C.t.tuple Jl (jb 1)))) (qC (qj (abC Zs Zs ji (jy j9 C.t.len qd (ja (jb 1) je)) (Q3 C.most)))))) (jd (ju zn) jf) jf)
  (jd (ju (jy (aho rfl) C.t.all ah3 (ja (zT ["part","manner"] [none,some 0] rfl (acg (jb 1)) (zp (jm zK) ["manner","thing"] (by decide +kernel))
   fun cl C' s0 H0 fp pn=>⟨jM 0 ndp,zE,jg C.isRod hr (by decide) (ja (jb 1) (ja (jb 0) je)) (jc (jc jk))⟩) je))) jf))⟩
noncomputable def ZC:List PyData->Option PyData:=jB ["manner","thing"] 2 ZB.1
structure CChkSet (P:Program) (w:World) (K:PySem.W.Frag) (mg:Str->Option Value) (base:Heap):Prop where
 isSet:jl P w K mg base "is_setting" ["manner","thing"] 5 2 ZC
theorem agp:FnScope ["manner","thing"] ["manner","thing"] (jm zf):=⟨rfl,rfl,rfl,by decide +kernel,rfl,by decide +kernel,by decide +kernel⟩
noncomputable def Z5:{ B:Rho->Option Out // qD CChkSet "check_setting" zf ["manner","thing"] 5 B }:=
 ⟨_,fun P w K mg base f cdv A outer s H E C hr=>
  jd (j0 (qj (qe (jg C.isSet hr (Nat.le_refl _) (ja (jb 0) (ja (jb 1) je)) (jc (jc jk))))) QC jf) jf⟩
noncomputable def jV:List PyData->Option PyData:=jB ["manner","thing"] 2 Z5.1
noncomputable abbrev acy:Stmt:=top 23
noncomputable abbrev afm:Stmt:=top 47
noncomputable abbrev acz:Stmt:=top 48
noncomputable abbrev Z6:Stmt:=top 49
noncomputable abbrev Jm:Stmt:=top 50
noncomputable abbrev nMS:List Str:=["manner","setting"]
structure CValue (P:Program) (w:World) (K:PySem.W.Frag) (mg:Str->Option Value) (base:Heap):Prop where
 check:jl P w K mg base "check_setting" ["manner","thing"] 6 2 jV
 num:jl P w K mg base "number_on" ["manner","setting"] 2 2 adu
theorem ah8:FnScope nMS nMS (jm acy):=⟨rfl,rfl,rfl,by decide +kernel,rfl,by decide +kernel,by decide +kernel⟩
noncomputable def aey:{ B:Rho->Option Out // qD CValue "value" acy nMS 6 B }:=
 ⟨_,fun P w K mg base f cdv A outer s H E C hr=>
  jd (qv (jg C.check hr (by decide) (ja (jb 0) (ja (jb 1) je)) (jc (jc jk)))) (jd (ju (jg C.num hr (by decide) (ja (jb 0) (ja (jb 1) je)) (jc (jc jk)))) jf)⟩
noncomputable def JG:List PyData->Option PyData:=jB nMS 2 aey.1
theorem ajR:FnScope ["_law_script","_law_k"] ["_law_script","_law_k"] (jm afm):=⟨rfl,rfl,rfl,by decide +kernel,rfl,by decide +kernel,by decide +kernel⟩
noncomputable def afn:{ B:Rho->Option Out // qD (fun _ _ _ mg _=>Bare mg) "_law_cell" afm ["_law_script","_law_k"] 0 B }:=
 ⟨_,fun P w K mg base f cdv A outer s H E C hr=>
  jd (j0 (jL (zF hr.units) (jb 0) (aay je)) (jd (ju (jq qg ji (jb 1))) jf) jf)
  (jd (ju (jq jz (jK (jb 0) (jq Jy (jb 1) (jy j9 C.len qd (ja (jb 0) je)))) (jq qg ji (jq JW (jb 1) (jy j9 C.len qd (ja (jb 0) je)))))) jf)⟩
noncomputable def adv:List PyData->Option PyData:=jB ["_law_script","_law_k"] 2 afn.1
structure CDrawn (P:Program) (w:World) (K:PySem.W.Frag) (mg:Str->Option Value) (base:Heap):Prop where
 cell:jl P w K mg base "_law_cell" ["_law_script","_law_k"] 1 2 adv
theorem aaP:FnScope ["_law_script","_law_k","_law_many","_law_cell_here"] ["_law_script","_law_k","_law_many"] (jm acz):=⟨rfl,rfl,rfl,by decide +kernel,rfl,by decide +kernel,by decide +kernel⟩
noncomputable def aez:{ B:Rho->Option Out // qD CDrawn "_law_drawn" acz ["_law_script","_law_k","_law_many","_law_cell_here"] 1 B }:=
 ⟨_,fun P w K mg base f cdv A outer s H E C hr=>
  jd (jw 3 aaP.nd (jq Jy (jq jz (jq qg (jq Jy (jg C.cell hr (Nat.le_refl _) (ja (jb 0) (ja (jb 1) je)) (jc (jc jk))) ji) ji) (jq qg ji (jq jz (jb 1) ji))) ji))
  (jd (jw 3 aaP.nd (jq Jy (jq jz (jq qg (jb 3) (jb 3)) (jq JW (jb 3) ji)) ji))
  (jd (ju (jq Jy (jq JW (jq Jy (jq jz (jq qg (jb 3) (jb 3)) (jq JW (jb 3) ji)) ji) ji) (jb 2))) jf))⟩
noncomputable def aaQ:List PyData->Option PyData:=jB ["_law_script","_law_k","_law_many","_law_cell_here"] 3 aez.1
noncomputable abbrev acA:List Str:=["_law_script","_law_at","_law_known","_law_way","_law_each","_law_upper","_law_lower"]
structure CManner (P:Program) (w:World) (K:PySem.W.Frag) (mg:Str->Option Value) (base:Heap):Prop where
 t:Bare mg
 drawn:jl P w K mg base "_law_drawn" ["_law_script","_law_k","_law_many"] 2 3 aaQ
theorem za:FnScope acA ["_law_script","_law_at"] (jm Z6):=⟨rfl,rfl,rfl,by decide +kernel,rfl,by decide +kernel,by decide +kernel⟩
noncomputable def jo (a b c d:Int):PyData:= .tuple [.int a,.int b,.int c,.int d]
noncomputable def ZD:List PyData:=[jo 1 5 4 10,jo 2 5 5 10,jo 0 1 9 10,jo 1 5 5 10,jo 0 1 10 10,jo 1 2 1 4,jo 0 1 1 2]
noncomputable def ZE:List PyData:=[jo 1 4 3 8,jo 1 3 2 5,jo 3 4 3 16,jo 2 3 2 7,jo 1 1 1 3]
noncomputable def Z7:{ B:Rho->Option Out // qD CManner "_law_manner" Z6 acA 2 B }:=
 ⟨_,fun P w K mg base f cdv A outer s H E C hr=>
  jd (jw 2 za.nd (ahy 3 (.list ZD) (by kernel_rfl)))
  (jd (jw 2 za.nd (jq jz (jb 2) (ahy 3 (.list ZE) (by kernel_rfl))))
  (jd (jw 3 za.nd (jg C.drawn hr (Nat.le_refl _) (ja (jb 0) (ja (jb 1) (ja (jq qg ji (jy j9 C.t.len qd (ja (jb 2) je))) je))) (jc (jc (jc jk)))))
  (jd (j0 (jL aee (jb 3) (jy j9 C.t.len qd (ja (jb 2) je))) (jd (ju (jK (jb 2) (jb 3))) jf) jf)
  (jd (jw 4 za.nd (jq jz ji (jg C.drawn hr (Nat.le_refl _) (ja (jb 0) (ja (jq jz (jb 1) ji) (ja ji je))) (jc (jc (jc jk))))))
  (jd (jw 5 za.nd (jg C.drawn hr (Nat.le_refl _) (ja (jb 0) (ja (jq jz (jb 1) ji) (ja ji je))) (jc (jc (jc jk)))))
  (jd (jw 6 za.nd (jq jz (jy (aju rfl) C.t.max ahv (ja (jq qM (jb 4) ji) (ja ji je))) (jg C.drawn hr (Nat.le_refl _) (ja (jb 0) (ja (jq jz (jb 1) ji) (ja ji je))) (jc (jc (jc jk))))))
  (jd (ju (qy (ja (jb 5) (ja (jb 4) (ja (jb 6) (ja (jq jz ji (jg C.drawn hr (Nat.le_refl _) (ja (jb 0) (ja (jq jz (jb 1) ji) (ja (jy (ajv rfl) C.t.min ahu (ja ji (ja (jq jz (jq qg (jb 5) (jb 4)) (jb 6)) je))) je))) (jc (jc (jc jk))))) je)))))) jf)))))))⟩
noncomputable def Qs:List PyData->Option PyData:=jB acA 2 Z7.1
structure CSetting (P:Program) (w:World) (K:PySem.W.Frag) (mg:Str->Option Value) (base:Heap):Prop where
 t:Bare mg
 drawn:jl P w K mg base "_law_drawn" ["_law_script","_law_k","_law_many"] 2 3 aaQ
noncomputable abbrev ajS:List Str:=["_law_script","_law_at","_law_manner_here","_law_most","_law_rods_here","_law_found","_law_k","_law_rod"]
theorem ZF:FnScope ajS ["_law_script","_law_at","_law_manner_here","_law_most"] (jm Jm):=⟨rfl,rfl,rfl,by decide +kernel,rfl,by decide +kernel,by decide +kernel⟩
noncomputable def acB:{ B:Rho->Option Out // abQ CSetting "_law_setting" Jm ajS 2 (qh (J4 (jP Jm) 2)) B }:=
 ⟨_,fun P w K mg base f cdv A outer s H E C hr=>
  (jd (jw 7 ZF.nd (qy (ja (jg C.drawn hr (by decide) (ja (jb 0) (ja (jq jz (jq jz (jb 1) ji) (jq qg ji (jb 6))) (ja (jq jz (jK (jb 2) ji) ji) je))) (jc (jc (jc jk)))) (ja (jg C.drawn hr (by decide) (ja (jb 0) (ja (jq jz (jq jz (jb 1) ji) (jq qg ji (jb 6))) (ja (jq jz (jK (jb 2) ji) ji) je))) (jc (jc (jc jk)))) je))))
  (jd (jw 5 ZF.nd (jq jz (jb 5) (qy (ja (jb 7) je))))
  jf))⟩
noncomputable def ajT:{ B:Rho->Option Out // qD CSetting "_law_setting" Jm ajS 2 B }:=
 ⟨_,fun P w K mg base f cdv A outer s H E C hr=>
  (jd (jw 4 ZF.nd (jq jz ji (jg C.drawn hr (by decide) (ja (jb 0) (ja (jb 1) (ja (jb 3) je))) (jc (jc (jc jk))))))
  (jd (jw 5 ZF.nd (qy je))
  (jd (Jx PassesOwn.never rfl (qZ rfl C.t.range (ja (jb 4) je)) (jM 6 ZF.nd) (acB.2 P w K mg base f cdv A outer s H E C hr))
  (jd (ju (jb 5))
  jf))))⟩
noncomputable def adw:List PyData->Option PyData:=jB ajS 4 ajT.1
noncomputable abbrev anL (C:CC) (qual:Str) (st:Stmt) (N:List Str) (k:Nat) (Fx:Rho->Option Str):Prop:=
 ∀ (P:Program) (w:World) (K:PySem.W.Frag) (mg:Str->Option Value) (base:Heap) (f:Addr) (cdv:Value) (A:Around) (outer:List Env) (s:Shared) (H:Hp) (E:XK),C P w K mg base->Room k (A.deeper (envOfC qual (jm st) s.heap.objs.size f cdv))->
  anx (aan (CXt P w) P w K mg base N qual (jm st) f cdv A outer s H E) (jP st) Fx
noncomputable def qr (k:Bool):PyData:= .str (if k=true then "lower" else "upper")
noncomputable def mv (r:Int) (k:Bool) (c:Int):PyData:= .tuple [.int r,qr k,.int c]
theorem JZ {ds:List PyData} (h:∀ d ∈ ds,noL d=true):noLs ds=true:=by
 induction ds with
 | nil=>rfl
 | cons d ds ih=>simp only [noLs,h d List.mem_cons_self,ih fun c hc=>h c (List.mem_cons_of_mem _ hc),Bool.and_self]
end Rods
namespace Rods
open PySem L2 BX
open PyProof.Rows hiding St
noncomputable abbrev zX:Stmt:=top 32
structure CNamesBeads (P:Program) (w:World) (K:PySem.W.Frag) (mg:Str->Option Value) (base:Heap):Prop where
 t:Bare mg
 c_isWhole:jl P w K mg base "is_whole" ["thing","least","most"] 1 3 jO
 k_DECKS:GC K mg "DECKS" (.tuple [.str "upper",.str "lower"])
noncomputable abbrev J5:List Str:=["setting","thing"]
theorem abi:FnScope J5 ["setting","thing"] (jm zX):=⟨rfl,rfl,rfl,by decide +kernel,rfl,by decide +kernel,by decide +kernel⟩
noncomputable def qB:{ B:Rho->Option Out // qD CNamesBeads "names_beads" zX J5 1 B }:=
 ⟨_,fun P w K mg base f cdv A outer s H E C hr=>
  (jd (j0 (qf (qQ (qj (qe (Zu (.inr (.inr rfl)) C.t.isi C.t.tuple Jl (jb 1)))) (qC (jL (qF hr.units) (jy j9 C.t.len qd (ja (jb 1) je)) ji)))) (jd (ju zn)
  jf) jf)
  (jd (j0 (qf (qQ (qj (qe (jg C.c_isWhole hr (by decide) (ja (jK (jb 1) ji) (ja ji (ja (jq qM (jy j9 C.t.len qd (ja (jb 0) je)) ji) je))) (jc (jc (jc jk)))))) (qC (jL (af5 hr.units) (jK (jb 1) ji) (Q3 C.k_DECKS))))) (jd (ju zn)
  jf) jf)
  (jd (ju (aeo (jg C.c_isWhole hr (by decide) (ja (jK (jb 1) ji) (ja (acl ji) (ja ji je))) (jc (jc (jc jk)))) (aen (Jd (qF hr.units) (jK (jb 1) ji) ji))))
  jf)))⟩
noncomputable def zY:List PyData->Option PyData:=jB J5 2 qB.1
noncomputable abbrev Z8:Stmt:=top 33
structure CPushed (P:Program) (w:World) (K:PySem.W.Frag) (mg:Str->Option Value) (base:Heap):Prop where
 tr:True
noncomputable abbrev acC:List Str:=["rod","deck","by"]
theorem agq:FnScope acC ["rod","deck","by"] (jm Z8):=⟨rfl,rfl,rfl,by decide +kernel,rfl,by decide +kernel,by decide +kernel⟩
noncomputable def Q5:{ B:Rho->Option Out // qD CPushed "pushed" Z8 acC 0 B }:=
 ⟨_,fun P w K mg base f cdv A outer s H E C hr=>
  (jd (j0 (jL (zF hr.units) (jb 1) aec) (jd (ju (qy (ja (jq jz (jK (jb 0) ji) (jb 2)) (ja (jK (jb 0) ji) je))))
  jf) jf)
  (jd (ju (qy (ja (jK (jb 0) ji) (ja (jq jz (jK (jb 0) ji) (jb 2)) je))))
  jf))⟩
noncomputable def Z9:List PyData->Option PyData:=jB acC 3 Q5.1
noncomputable abbrev Q6:Stmt:=top 31
structure CCanMove (P:Program) (w:World) (K:PySem.W.Frag) (mg:Str->Option Value) (base:Heap):Prop where
 c_NamesBeads:jl P w K mg base "names_beads" ["setting","thing"] 2 2 zY
 c_isRod:jl P w K mg base "is_rod" ["manner","thing"] 2 2 Jf
 c_Pushed:jl P w K mg base "pushed" ["rod","deck","by"] 1 3 Z9
noncomputable abbrev aaR:List Str:=["manner","setting","thing"]
theorem aeA:FnScope aaR ["manner","setting","thing"] (jm Q6):=⟨rfl,rfl,rfl,by decide +kernel,rfl,by decide +kernel,by decide +kernel⟩
noncomputable def Q7:{ B:Rho->Option Out // qD CCanMove "can_move" Q6 aaR 2 B }:=
 ⟨_,fun P w K mg base f cdv A outer s H E C hr=>
  (jd (j0 (qj (qe (jg C.c_NamesBeads hr (by decide) (ja (jb 1) (ja (jb 2) je)) (jc (jc jk))))) (jd (ju zn)
  jf) jf)
  (jd (ju (jg C.c_isRod hr (by decide) (ja (jb 0) (ja (jg C.c_Pushed hr (by decide) (ja (jK (jb 1) (jK (jb 2) ji)) (ja (jK (jb 2) ji) (ja (jK (jb 2) ji) je))) (jc (jc (jc jk)))) je)) (jc (jc jk))))
  jf))⟩
noncomputable def qS:List PyData->Option PyData:=jB aaR 3 Q7.1
noncomputable abbrev aaa:Stmt:=top 30
structure CIsMove (P:Program) (w:World) (K:PySem.W.Frag) (mg:Str->Option Value) (base:Heap):Prop where
 c_chkSet:jl P w K mg base "check_setting" ["manner","thing"] 6 2 jV
 c_CanMove:jl P w K mg base "can_move" ["manner","setting","thing"] 3 3 qS
noncomputable abbrev acD:List Str:=["manner","setting","thing"]
theorem agr:FnScope acD ["manner","setting","thing"] (jm aaa):=⟨rfl,rfl,rfl,by decide +kernel,rfl,by decide +kernel,by decide +kernel⟩
noncomputable def aab:{ B:Rho->Option Out // qD CIsMove "is_move" aaa acD 6 B }:=
 ⟨_,fun P w K mg base f cdv A outer s H E C hr=>
  (jd (qv (jg C.c_chkSet hr (by decide) (ja (jb 0) (ja (jb 1) je)) (jc (jc jk))))
  (jd (ju (jg C.c_CanMove hr (by decide) (ja (jb 0) (ja (jb 1) (ja (jb 2) je))) (jc (jc (jc jk)))))
  jf))⟩
noncomputable def aac:List PyData->Option PyData:=jB acD 3 aab.1
noncomputable abbrev zZ:Stmt:=top 34
structure CBehindMove (P:Program) (w:World) (K:PySem.W.Frag) (mg:Str->Option Value) (base:Heap):Prop where
 c_Pushed:jl P w K mg base "pushed" ["rod","deck","by"] 1 3 Z9
noncomputable abbrev J9:List Str:=["setting","move","at"]
theorem QA:FnScope J9 ["setting","move"] (jm zZ):=⟨rfl,rfl,rfl,by decide +kernel,rfl,by decide +kernel,by decide +kernel⟩
noncomputable def Ja:{ B:Rho->Option Out // qD CBehindMove "behind_move" zZ J9 1 B }:=
 ⟨_,fun P w K mg base f cdv A outer s H E C hr=>
  (jd (jw 2 QA.nd (jK (jb 1) ji))
  (jd (ju (jq jz (jq jz (ahY (jb 0) (jb 2)) (qy (ja (jg C.c_Pushed hr (by decide) (ja (jK (jb 0) (jb 2)) (ja (jK (jb 1) ji) (ja (jK (jb 1) ji) je))) (jc (jc (jc jk)))) je))) (aaM (jb 0) (jq jz (jb 2) ji))))
  jf))⟩
noncomputable def qm:List PyData->Option PyData:=jB J9 2 Ja.1
noncomputable abbrev acE:Stmt:=top 35
structure CMoved (P:Program) (w:World) (K:PySem.W.Frag) (mg:Str->Option Value) (base:Heap):Prop where
 c_chkSet:jl P w K mg base "check_setting" ["manner","thing"] 6 2 jV
 c_CanMove:jl P w K mg base "can_move" ["manner","setting","thing"] 3 3 qS
 c_BehindMove:jl P w K mg base "behind_move" ["setting","move"] 2 2 qm
noncomputable abbrev aeB:List Str:=["manner","setting","move"]
theorem ah9:FnScope aeB ["manner","setting","move"] (jm acE):=⟨rfl,rfl,rfl,by decide +kernel,rfl,by decide +kernel,by decide +kernel⟩
noncomputable def acF:{ B:Rho->Option Out // qD CMoved "moved" acE aeB 6 B }:=
 ⟨_,fun P w K mg base f cdv A outer s H E C hr=>
  (jd (qv (jg C.c_chkSet hr (by decide) (ja (jb 0) (ja (jb 1) je)) (jc (jc jk))))
  (jd (j0 (qj (qe (jg C.c_CanMove hr (by decide) (ja (jb 0) (ja (jb 1) (ja (jb 2) je))) (jc (jc (jc jk)))))) (jd Zo
  jf) jf)
  (jd (ju (jg C.c_BehindMove hr (by decide) (ja (jb 1) (ja (jb 2) je)) (jc (jc jk))))
  jf)))⟩
noncomputable def Qa:List PyData->Option PyData:=jB aeB 3 acF.1
noncomputable abbrev qw:Stmt:=top 36
structure CAllMoves (P:Program) (w:World) (K:PySem.W.Frag) (mg:Str->Option Value) (base:Heap):Prop where
 t:Bare mg
 c_chkSet:jl P w K mg base "check_setting" ["manner","thing"] 6 2 jV
 c_CanMove:jl P w K mg base "can_move" ["manner","setting","thing"] 3 3 qS
 k_DECKS:GC K mg "DECKS" (.tuple [.str "upper",.str "lower"])
 k_WAYS:GC K mg "WAYS" (.tuple [.int 1,.int (-1)])
noncomputable abbrev zb:List Str:=["manner","setting","told","rod","deck","several"]
theorem zk:FnScope zb ["manner","setting"] (jm qw):=⟨rfl,rfl,rfl,by decide +kernel,rfl,by decide +kernel,by decide +kernel⟩
theorem aia:(["by","rod","deck"]:List Str).Nodup:=by decide +kernel
theorem aib:(["move","manner","setting"]:List Str).Nodup:=by decide +kernel
noncomputable def QI:{ B:Rho->Option Out // aaO 2 CAllMoves "all_moves" qw zb 6 (qh (J4 (qh (J4 (jP qw) 2)) 0)) B }:=
 ⟨_,fun P w K mg base f cdv A outer s H E C hr=>
  (jE (ah1 5 ["by","rod","deck"] [none,some 3,some 4] rfl zk.nd (JD (Q3 C.k_WAYS)) (zp (jm qw) zb (by decide +kernel))
   fun cl C' s0 H0 fp pn=>⟨(jM 0 aia),zE,(qy (ja (jb 1) (ja (jb 2) (ja (jb 0) je))))⟩)
  (jE (aco (abI 2 (zT ["move","manner","setting"] [none,some 0,some 1] rfl (JD (jb 5)) (zp (jm qw) zb (by decide +kernel))
   fun cl C' s0 H0 fp pn=>⟨(jM 0 aib),(ada (qe (jg C.c_CanMove hr (by decide) (ja (jb 1) (ja (jb 2) (ja (jb 0) je))) (jc (jc (jc jk)))))),(jb 0)⟩)))
  j6))⟩
noncomputable def zL:{ B:Rho->Option Out // aaO 2 CAllMoves "all_moves" qw zb 6 (qh (J4 (jP qw) 2)) B }:=
 ⟨_,fun P w K mg base f cdv A outer s H E C hr=>
  (jE (JA PassesOwn.never rfl (JD (Q3 C.k_DECKS)) (QT 4 zk.nd) (QI.2 P w K mg base f cdv A outer s H E C hr))
  j6)⟩
noncomputable def Qt:{ B:Rho->Option Out // qD CAllMoves "all_moves" qw zb 6 B }:=
 ⟨_,fun P w K mg base f cdv A outer s H E C hr=>
  (jd (qv (jg C.c_chkSet hr (by decide) (ja (jb 0) (ja (jb 1) je)) (jc (jc jk))))
  (QS (QV 2 zk.nd (aej je)
  (jE (JA PassesOwn.never rfl (qZ rfl C.t.range (ja (jy j9 C.t.len qd (ja (jb 1) je)) je)) (QT 3 zk.nd) (zL.2 P w K mg base f cdv A outer s H E C hr))
  (jE (Z3 (jb 2))
  j6)))))⟩
noncomputable def zc:List PyData->Option PyData:=jB zb 2 Qt.1
noncomputable abbrev ags:Stmt:=top 37
structure CRun (P:Program) (w:World) (K:PySem.W.Frag) (mg:Str->Option Value) (base:Heap):Prop where
 t:Bare mg
 c_chkSet:jl P w K mg base "check_setting" ["manner","thing"] 6 2 jV
 c_Moved:jl P w K mg base "moved" ["manner","setting","move"] 7 3 Qa
noncomputable abbrev ajU:List Str:=["manner","setting","moves","now","move"]
theorem acG:FnScope ajU ["manner","setting","moves"] (jm ags):=⟨rfl,rfl,rfl,by decide +kernel,rfl,by decide +kernel,by decide +kernel⟩
noncomputable def adx:{ B:Rho->Option Out // abQ CRun "run" ags ajU 7 (qh (J4 (jP ags) 3)) B }:=
 ⟨_,fun P w K mg base f cdv A outer s H E C hr=>
  (jd (jw 3 acG.nd (jg C.c_Moved hr (by decide) (ja (jb 0) (ja (jb 3) (ja (jb 4) je))) (jc (jc (jc jk)))))
  jf)⟩
noncomputable def ajV:{ B:Rho->Option Out // qD CRun "run" ags ajU 7 B }:=
 ⟨_,fun P w K mg base f cdv A outer s H E C hr=>
  (jd (qv (jg C.c_chkSet hr (by decide) (ja (jb 0) (ja (jb 1) je)) (jc (jc jk))))
  (jd (j0 (qj (qe (ajL rfl C.t.isi C.t.list ajN (jb 2)))) (jd Zo
  jf) jf)
  (jd (jw 3 acG.nd (jb 1))
  (jd (Jx PassesOwn.never rfl (JD (jb 2)) (jM 4 acG.nd) (adx.2 P w K mg base f cdv A outer s H E C hr))
  (jd (ju (jb 3))
  jf)))))⟩
noncomputable def aic:List PyData->Option PyData:=jB ajU 3 ajV.1
noncomputable abbrev Qu:Stmt:=top 39
structure CRodApart (P:Program) (w:World) (K:PySem.W.Frag) (mg:Str->Option Value) (base:Heap):Prop where
 t:Bare mg
noncomputable abbrev ZG:List Str:=["rod","goal"]
theorem ady:FnScope ZG ["rod","goal"] (jm Qu):=⟨rfl,rfl,rfl,by decide +kernel,rfl,by decide +kernel,by decide +kernel⟩
noncomputable def Qv:{ B:Rho->Option Out // qD CRodApart "rod_apart" Qu ZG 0 B }:=
 ⟨_,fun P w K mg base f cdv A outer s H E C hr=>
  (jd (ju (jq jz (jy aer C.t.abs aeu (ja (jq qM (jK (jb 1) ji) (jK (jb 0) ji)) je)) (jy aer C.t.abs aeu (ja (jq qM (jK (jb 1) ji) (jK (jb 0) ji)) je))))
  jf)⟩
noncomputable def Qw:List PyData->Option PyData:=jB ZG 2 Qv.1
noncomputable abbrev aaS:Stmt:=top 38
structure CApart (P:Program) (w:World) (K:PySem.W.Frag) (mg:Str->Option Value) (base:Heap):Prop where
 t:Bare mg
 c_RodApart:jl P w K mg base "rod_apart" ["rod","goal"] 1 2 Qw
noncomputable abbrev acH:List Str:=["one","other"]
theorem aid:FnScope acH ["one","other"] (jm aaS):=⟨rfl,rfl,rfl,by decide +kernel,rfl,by decide +kernel,by decide +kernel⟩
theorem adz:(["rod","goal"]:List Str).Nodup:=by decide +kernel
noncomputable def acI:{ B:Rho->Option Out // qD CApart "apart" aaS acH 1 B }:=
 ⟨_,fun P w K mg base f cdv A outer s H E C hr=>
  (jd (ju (jy (alj rfl) C.t.sum alA (ja (zT ["rod","goal"] [none,none] rfl (ahU C.t.zip (ja (jb 0) (ja (jb 1) je))) (zp (jm aaS) acH (by decide +kernel))
   fun cl C' s0 H0 fp pn=>⟨(acf (n:=2) rfl (qN (jM 0 adz) (qN (jM 1 adz) aaz))),zE,(jg C.c_RodApart hr (by decide) (ja (jb 0) (ja (jb 1) je)) (jc (jc jk)))⟩) je)))
  jf)⟩
noncomputable def zM:List PyData->Option PyData:=jB acH 2 acI.1
noncomputable abbrev JH:Stmt:=top 41
structure CDeckMoves (P:Program) (w:World) (K:PySem.W.Frag) (mg:Str->Option Value) (base:Heap):Prop where
 t:Bare mg
noncomputable abbrev QJ:List Str:=["at","deck","change","by"]
theorem Q8:FnScope QJ ["at","deck","change"] (jm JH):=⟨rfl,rfl,rfl,by decide +kernel,rfl,by decide +kernel,by decide +kernel⟩
noncomputable def zN:{ B:Rho->Option Out // qD CDeckMoves "deck_moves" JH QJ 0 B }:=
 ⟨_,fun P w K mg base f cdv A outer s H E C hr=>
  (jd (jw 3 Q8.nd (akt (jL aef (jb 2) ji) ji (acl ji)))
  (jd (ju (jq ahV (aay (ja (qy (ja (jb 0) (ja (jb 1) (ja (jb 3) je)))) je)) (jy aer C.t.abs aeu (ja (jb 2) je))))
  jf))⟩
noncomputable def QK:List PyData->Option PyData:=jB QJ 3 zN.1
noncomputable abbrev zl:Stmt:=top 40
structure CMovesTo (P:Program) (w:World) (K:PySem.W.Frag) (mg:Str->Option Value) (base:Heap):Prop where
 t:Bare mg
 c_chkSet:jl P w K mg base "check_setting" ["manner","thing"] 6 2 jV
 c_DeckMoves:jl P w K mg base "deck_moves" ["at","deck","change"] 1 3 QK
 k_DECKS:GC K mg "DECKS" (.tuple [.str "upper",.str "lower"])
noncomputable abbrev Qb:List Str:=["manner","one","other","told","at","rod","deck","name"]
theorem zd:FnScope Qb ["manner","one","other"] (jm zl):=⟨rfl,rfl,rfl,by decide +kernel,rfl,by decide +kernel,by decide +kernel⟩
noncomputable def ZH:{ B:Rho->Option Out // aaO 3 CMovesTo "moves_to" zl Qb 6 (qh (J4 (qh (J4 (jP zl) 4)) 0)) B }:=
 ⟨_,fun P w K mg base f cdv A outer s H E C hr=>
  (jE (aco (abI 3 (jg C.c_DeckMoves hr (by decide) (ja (jb 4) (ja (jb 7) (ja (jq qM (jK (jK (jb 2) (jb 4)) (jb 6)) (jK (jb 5) (jb 6))) je))) (jc (jc (jc jk))))))
  j6)⟩
noncomputable def Jn:{ B:Rho->Option Out // aaO 3 CMovesTo "moves_to" zl Qb 6 (qh (J4 (jP zl) 4)) B }:=
 ⟨_,fun P w K mg base f cdv A outer s H E C hr=>
  (jE (JA PassesOwn.never rfl (abO C.t.enum (ja (Q3 C.k_DECKS) je)) (acn (n:=2) rfl (zx 6 zd.nd (zx 7 zd.nd aaD))) (ZH.2 P w K mg base f cdv A outer s H E C hr))
  j6)⟩
noncomputable def Q9:{ B:Rho->Option Out // qD CMovesTo "moves_to" zl Qb 6 B }:=
 ⟨_,fun P w K mg base f cdv A outer s H E C hr=>
  (jd (qv (jg C.c_chkSet hr (by decide) (ja (jb 0) (ja (jb 1) je)) (jc (jc jk))))
  (jd (qv (jg C.c_chkSet hr (by decide) (ja (jb 0) (ja (jb 2) je)) (jc (jc jk))))
  (jd (j0 (jL (qF hr.units) (jy j9 C.t.len qd (ja (jb 1) je)) (jy j9 C.t.len qd (ja (jb 2) je))) (jd Zo
  jf) jf)
  (QS (QV 3 zd.nd (aej je)
  (jE (JA PassesOwn.never rfl (abO C.t.enum (ja (jb 1) je)) (acn (n:=2) rfl (zx 4 zd.nd (zx 5 zd.nd aaD))) (Jn.2 P w K mg base f cdv A outer s H E C hr))
  (jE (Z3 (jb 3))
  j6)))))))⟩
noncomputable def Jo:List PyData->Option PyData:=jB Qb 3 Q9.1
noncomputable abbrev qi:Stmt:=top 43
structure CNearestEnds (P:Program) (w:World) (K:PySem.W.Frag) (mg:Str->Option Value) (base:Heap):Prop where
 c_last:jl P w K mg base "last_rods" ["manner","ahead","number"] 3 3 afl
 c_Apart:jl P w K mg base "apart" ["one","other"] 2 2 zM
noncomputable abbrev qT:List Str:=["manner","setting","ahead","ends","here","longer","number","rod","left","end"]
theorem j7:FnScope qT ["manner","setting","ahead","ends"] (jm qi):=⟨rfl,rfl,rfl,by decide +kernel,rfl,by decide +kernel,by decide +kernel⟩
noncomputable def zg:{ B:Rho->Option Out // aaO 5 CNearestEnds "nearest_ends" qi qT 3 (qh (J4 (qh (J4 (jP qi) 2)) 0)) B }:=
 ⟨_,fun P w K mg base f cdv A outer s H E C hr=>
  (jE (afc 9 j7.nd (jq jz (qy (ja (jb 7) je)) (ahG hr.units1 (jb 3) (jb 6))))
  (jE (ahA (qf (qQ (agf (ahI hr.units1 (jb 8) (jb 5))) (qC (jL aee (jg C.c_Apart hr (by decide) (ja (jb 4) (ja (jb 9) je)) (jc (jc jk))) (jg C.c_Apart hr (by decide) (ja (jb 4) (ja (ahG hr.units1 (jb 5) (jb 8)) je)) (jc (jc jk))))))) (jE (ajB 5 hr.units1 (jb 8) (jb 9))
  j6) j6)
  j6))⟩
noncomputable def qL:{ B:Rho->Option Out // aaO 5 CNearestEnds "nearest_ends" qi qT 3 (qh (J4 (jP qi) 2)) B }:=
 ⟨_,fun P w K mg base f cdv A outer s H E C hr=>
  (jE (JA PassesOwn.never rfl (JD (jg C.c_last hr (by decide) (ja (jb 0) (ja (jb 2) (ja (jb 6) je))) (jc (jc (jc jk))))) (acn (n:=2) rfl (zx 7 j7.nd (zx 8 j7.nd aaD))) (zg.2 P w K mg base f cdv A outer s H E C hr))
  j6)⟩
noncomputable def zt:{ B:Rho->Option Out // qD CNearestEnds "nearest_ends" qi qT 3 B }:=
 ⟨_,fun P w K mg base f cdv A outer s H E C hr=>
  (jd (jw 4 j7.nd (aaM (jb 1) (jb 2)))
  (QS (QV 5 j7.nd ahC
  (jE (JA PassesOwn.never rfl (ahK (jb 3)) (QT 6 j7.nd) (qL.2 P w K mg base f cdv A outer s H E C hr))
  (jE (Z3 (jb 5))
  j6)))))⟩
noncomputable def qU:List PyData->Option PyData:=jB qT 4 zt.1
noncomputable abbrev Jp:Stmt:=top 42
structure CNearest (P:Program) (w:World) (K:PySem.W.Frag) (mg:Str->Option Value) (base:Heap):Prop where
 t:Bare mg
 c_chkSet:jl P w K mg base "check_setting" ["manner","thing"] 6 2 jV
 c_chkNum:jl P w K mg base "check_number" ["number"] 2 1 JF
 c_NearestEnds:jl P w K mg base "nearest_ends" ["manner","setting","ahead","ends"] 4 4 qU
noncomputable abbrev Za:List Str:=["manner","setting","number","ends","ahead"]
theorem JI:FnScope Za ["manner","setting","number"] (jm Jp):=⟨rfl,rfl,rfl,by decide +kernel,rfl,by decide +kernel,by decide +kernel⟩
noncomputable def Jq:{ B:Rho->Option Out // abQ CNearest "nearest" Jp Za 6 (qh (J4 (jP Jp) 3)) B }:=
 ⟨_,fun P w K mg base f cdv A outer s H E C hr=>
  (jd (jw 3 JI.nd (jg C.c_NearestEnds hr (by decide) (ja (jb 0) (ja (jb 1) (ja (jb 4) (ja (jb 3) je)))) (jc (jc (jc (jc jk))))))
  jf)⟩
noncomputable def Zb:{ B:Rho->Option Out // qD CNearest "nearest" Jp Za 6 B }:=
 ⟨_,fun P w K mg base f cdv A outer s H E C hr=>
  (jd (qv (jg C.c_chkSet hr (by decide) (ja (jb 0) (ja (jb 1) je)) (jc (jc jk))))
  (jd (qv (jg C.c_chkNum hr (by decide) (ja (jb 2) je) (jc jk)))
  (jd (jw 3 JI.nd (ahL (jb 2) (qy je)))
  (jd (Jx PassesOwn.never rfl (aem rfl C.t.range (ja (jq qM (jy j9 C.t.len qd (ja (jb 1) je)) ji) (ja (acl ji) (ja (acl ji) je)))) (jM 4 JI.nd) (Jq.2 P w K mg base f cdv A outer s H E C hr))
  (jd (ju (ahH hr.units1 (jb 3) ji))
  jf)))))⟩
noncomputable def zO:List PyData->Option PyData:=jB Za 3 Zb.1
noncomputable abbrev zu:Stmt:=top 44
structure CFewestMoves (P:Program) (w:World) (K:PySem.W.Frag) (mg:Str->Option Value) (base:Heap):Prop where
 c_Nearest:jl P w K mg base "nearest" ["manner","setting","number"] 7 3 zO
 c_Apart:jl P w K mg base "apart" ["one","other"] 2 2 zM
noncomputable abbrev JJ:List Str:=["manner","setting","number","found"]
theorem Qc:FnScope JJ ["manner","setting","number"] (jm zu):=⟨rfl,rfl,rfl,by decide +kernel,rfl,by decide +kernel,by decide +kernel⟩
noncomputable def zv:{ B:Rho->Option Out // qD CFewestMoves "fewest_moves" zu JJ 7 B }:=
 ⟨_,fun P w K mg base f cdv A outer s H E C hr=>
  (jd (jw 3 Qc.nd (jg C.c_Nearest hr (by decide) (ja (jb 0) (ja (jb 1) (ja (jb 2) je))) (jc (jc (jc jk)))))
  (jd (j0 (jL ajF (jb 3) aeb) (jd (ju aeb)
  jf) jf)
  (jd (ju (jg C.c_Apart hr (by decide) (ja (jb 1) (ja (jb 3) je)) (jc (jc jk))))
  jf)))⟩
noncomputable def zw:List PyData->Option PyData:=jB JJ 3 zv.1
noncomputable abbrev aaT:Stmt:=top 45
structure CSlips (P:Program) (w:World) (K:PySem.W.Frag) (mg:Str->Option Value) (base:Heap):Prop where
 c_chkSet:jl P w K mg base "check_setting" ["manner","thing"] 6 2 jV
 c_chkNum:jl P w K mg base "check_number" ["number"] 2 1 JF
 c_AllMoves:jl P w K mg base "all_moves" ["manner","setting"] 7 2 zc
 c_num:jl P w K mg base "number_on" ["manner","setting"] 2 2 adu
 c_BehindMove:jl P w K mg base "behind_move" ["setting","move"] 2 2 qm
noncomputable abbrev acJ:List Str:=["manner","setting","number","several"]
theorem adA:FnScope acJ ["manner","setting","number"] (jm aaT):=⟨rfl,rfl,rfl,by decide +kernel,rfl,by decide +kernel,by decide +kernel⟩
theorem aie:(["move","number","manner","setting"]:List Str).Nodup:=by decide +kernel
noncomputable def acK:{ B:Rho->Option Out // qD CSlips "slips" aaT acJ 7 B }:=
 ⟨_,fun P w K mg base f cdv A outer s H E C hr=>
  (jd (qv (jg C.c_chkSet hr (by decide) (ja (jb 0) (ja (jb 1) je)) (jc (jc jk))))
  (jd (qv (jg C.c_chkNum hr (by decide) (ja (jb 2) je) (jc jk)))
  (jd (jw 3 adA.nd (jg C.c_AllMoves hr (by decide) (ja (jb 0) (ja (jb 1) je)) (jc (jc jk))))
  (jd (ju (zT ["move","number","manner","setting"] [none,some 2,some 0,some 1] rfl (JD (jb 3)) (zp (jm aaT) acJ (by decide +kernel))
   fun cl C' s0 H0 fp pn=>⟨(jM 0 aie),(ada (jL (zF hr.units) (jg C.c_num hr (by decide) (ja (jb 2) (ja (jg C.c_BehindMove hr (by decide) (ja (jb 3) (ja (jb 0) je)) (jc (jc jk))) je)) (jc (jc jk))) (jb 1))),(jb 0)⟩))
  jf))))⟩
noncomputable def aaU:List PyData->Option PyData:=jB acJ 3 acK.1
noncomputable abbrev abj:Stmt:=top 55
structure CLaw (P:Program) (w:World) (K:PySem.W.Frag) (mg:Str->Option Value) (base:Heap):Prop where
 t:Bare mg
 c_manner:jl P w K mg base "_law_manner" ["_law_script","_law_at"] 3 2 Qs
 c_setting:jl P w K mg base "_law_setting" ["_law_script","_law_at","_law_manner_here","_law_most"] 3 4 adw
 c_MovesTo:jl P w K mg base "moves_to" ["manner","one","other"] 7 3 Jo
 c_Apart:jl P w K mg base "apart" ["one","other"] 2 2 zM
 c_Run:jl P w K mg base "run" ["manner","setting","moves"] 8 3 aic
 c_AllMoves:jl P w K mg base "all_moves" ["manner","setting"] 7 2 zc
 c_Moved:jl P w K mg base "moved" ["manner","setting","move"] 7 3 Qa
 c_value:jl P w K mg base "value" ["manner","setting"] 7 2 JG
 c_isSet:jl P w K mg base "is_setting" ["manner","thing"] 5 2 ZC
 c_IsMove:jl P w K mg base "is_move" ["manner","setting","thing"] 7 3 aac
 c_FewestMoves:jl P w K mg base "fewest_moves" ["manner","setting","number"] 8 3 zw
 c_Nearest:jl P w K mg base "nearest" ["manner","setting","number"] 7 3 zO
 c_Slips:jl P w K mg base "slips" ["manner","setting","number"] 8 3 aaU
noncomputable abbrev aeC:List Str:=["_law_script","_law_manner_here","_law_one","_law_other","_law_third","_law_rows","_law_rod","_law_deck","_law_by","_law_more","_law_step","_law_k","_law_number","_law_few","_law_told"]
theorem qG:FnScope aeC ["_law_script"] (jm abj):=⟨rfl,rfl,rfl,by decide +kernel,rfl,by decide +kernel,by decide +kernel⟩
theorem adB:(["_law_k","_law_script","_law_manner_here"]:List Str).Nodup:=by decide +kernel
noncomputable def abR:{ B:Rho->Option Out // abQ CLaw "law" abj aeC 8 (qh (J4 (qh (J4 (jP abj) 8)) 2)) B }:=
 ⟨_,fun P w K mg base f cdv A outer s H E C hr=>
  (jd (jw 10 qG.nd (jq qg (jb 10) (jK (jb 1) ji)))
  jf)⟩
noncomputable def abS:{ B:Rho->Option Out // abQ CLaw "law" abj aeC 8 (qh (J4 (jP abj) 8)) B }:=
 ⟨_,fun P w K mg base f cdv A outer s H E C hr=>
  (jd (jw 9 qG.nd (jg C.c_Moved hr (by decide) (ja (jb 1) (ja (jb 2) (ja (qy (ja (jb 6) (ja (jb 7) (ja (jb 8) je)))) je))) (jc (jc (jc jk)))))
  (jd (jw 10 qG.nd (jq qg (jb 8) (akt (jL (zF hr.units) (jb 7) aec) (jK (jb 1) ji) ji)))
  (jd (Jx PassesOwn.never rfl (qZ rfl C.t.range (ja (jq qM (jq qM (jy j9 C.t.len qd (ja (jb 2) je)) ji) (jb 6)) je)) (jM 11 qG.nd) (abR.2 P w K mg base f cdv A outer s H E C hr))
  (jd (j0 (qf (qQ (qj (qe (jg C.c_isSet hr (by decide) (ja (jb 1) (ja (jb 9) je)) (jc (jc jk))))) (qQ (jL (qF hr.units) (jq qM (jg C.c_value hr (by decide) (ja (jb 1) (ja (jb 9) je)) (jc (jc jk))) (jg C.c_value hr (by decide) (ja (jb 1) (ja (jb 2) je)) (jc (jc jk)))) (jb 10)) (qC (jL (qF hr.units) (jg C.c_Apart hr (by decide) (ja (jb 2) (ja (jb 9) je)) (jc (jc jk))) ji))))) (jd (ju zn)
  jf) jf)
  (jd (j0 (qf (qQ (qj (qe (jg C.c_IsMove hr (by decide) (ja (jb 1) (ja (jb 9) (ja (qy (ja (jb 6) (ja (jb 7) (ja (jq qM ji (jb 8)) je)))) je))) (jc (jc (jc jk)))))) (qC (jL (qF hr.units) (jg C.c_Moved hr (by decide) (ja (jb 1) (ja (jb 9) (ja (qy (ja (jb 6) (ja (jb 7) (ja (jq qM ji (jb 8)) je)))) je))) (jc (jc (jc jk)))) (jb 2))))) (jd (ju zn)
  jf) jf)
  jf)))))⟩
noncomputable def aif:{ B:Rho->Option Out // qD CLaw "law" abj aeC 8 B }:=
 ⟨_,fun P w K mg base f cdv A outer s H E C hr=>
  (jd (jw 1 qG.nd (jg C.c_manner hr (by decide) (ja (jb 0) (ja ji je)) (jc (jc jk))))
  (jd (jw 2 qG.nd (jg C.c_setting hr (by decide) (ja (jb 0) (ja ji (ja (jb 1) (ja ji je)))) (jc (jc (jc (jc jk))))))
  (jd (jw 3 qG.nd (abB adl C.t.tuple Jl (ja (zT ["_law_k","_law_script","_law_manner_here"] [none,some 0,some 1] rfl (qZ rfl C.t.range (ja (jy j9 C.t.len qd (ja (jb 2) je)) je)) (zp (jm abj) aeC (by decide +kernel))
   fun cl C' s0 H0 fp pn=>⟨(jM 0 adB),zE,(jK (jg C.c_setting hr (by decide) (ja (jb 1) (ja (jq jz ji (jq qg ji (jb 0))) (ja (jb 2) (ja ji je)))) (jc (jc (jc (jc jk))))) ji)⟩) je)))
  (jd (jw 4 qG.nd (abB adl C.t.tuple Jl (ja (zT ["_law_k","_law_script","_law_manner_here"] [none,some 0,some 1] rfl (qZ rfl C.t.range (ja (jy j9 C.t.len qd (ja (jb 2) je)) je)) (zp (jm abj) aeC (by decide +kernel))
   fun cl C' s0 H0 fp pn=>⟨(jM 0 adB),zE,(jK (jg C.c_setting hr (by decide) (ja (jb 1) (ja (jq jz ji (jq qg ji (jb 0))) (ja (jb 2) (ja ji je)))) (jc (jc (jc (jc jk))))) ji)⟩) je)))
  (jd (jw 5 qG.nd (jg C.c_MovesTo hr (by decide) (ja (jb 1) (ja (jb 2) (ja (jb 3) je))) (jc (jc (jc jk)))))
  (jd (j0 (qf (qQ (jL (qF hr.units) (jg C.c_Run hr (by decide) (ja (jb 1) (ja (jb 2) (ja (jb 5) je))) (jc (jc (jc jk)))) (jb 3)) (qC (jL (qF hr.units) (jy j9 C.t.len qd (ja (jb 5) je)) (jg C.c_Apart hr (by decide) (ja (jb 2) (ja (jb 3) je)) (jc (jc jk))))))) (jd (ju zn)
  jf) jf)
  (jd (j0 (jL (qF hr.units) (jy j9 C.t.len qd (ja (jg C.c_MovesTo hr (by decide) (ja (jb 1) (ja (jb 3) (ja (jb 2) je))) (jc (jc (jc jk)))) je)) (jy j9 C.t.len qd (ja (jb 5) je))) (jd (ju zn)
  jf) jf)
  (jd (j0 (qf (qQ (jL aee (jq jz (jg C.c_Apart hr (by decide) (ja (jb 2) (ja (jb 4) je)) (jc (jc jk))) (jg C.c_Apart hr (by decide) (ja (jb 4) (ja (jb 3) je)) (jc (jc jk)))) (jy j9 C.t.len qd (ja (jb 5) je))) (qC (jL (qF hr.units) (Jd (zF hr.units) (jb 5) (aay je)) (Jd (zF hr.units) (jb 2) (jb 3)))))) (jd (ju zn)
  jf) jf)
  (jd (Jx PassesOwn.never rfl (JD (jg C.c_AllMoves hr (by decide) (ja (jb 1) (ja (jb 2) je)) (jc (jc jk)))) (acf (n:=3) rfl (qN (jM 6 qG.nd) (qN (jM 7 qG.nd) (qN (jM 8 qG.nd) aaz)))) (abS.2 P w K mg base f cdv A outer s H E C hr))
  (jd (jw 12 qG.nd (jg C.c_value hr (by decide) (ja (jb 1) (ja (jb 3) je)) (jc (jc jk))))
  (jd (jw 13 qG.nd (jg C.c_FewestMoves hr (by decide) (ja (jb 1) (ja (jb 2) (ja (jb 12) je))) (jc (jc (jc jk)))))
  (jd (jw 14 qG.nd (jg C.c_Nearest hr (by decide) (ja (jb 1) (ja (jb 2) (ja (jb 12) je))) (jc (jc (jc jk)))))
  (jd (j0 (qf (qQ (jL aef (jb 13) (jy j9 C.t.len qd (ja (jb 5) je))) (qC (jL (qF hr.units) (Jd (zF hr.units) (jb 13) ji) (Jd (zF hr.units) (jb 12) (jg C.c_value hr (by decide) (ja (jb 1) (ja (jb 2) je)) (jc (jc jk)))))))) (jd (ju zn)
  jf) jf)
  (jd (j0 (qf (qQ (jL (qF hr.units) (jg C.c_Apart hr (by decide) (ja (jb 2) (ja (jb 14) je)) (jc (jc jk))) (jb 13)) (qC (jL (qF hr.units) (jg C.c_value hr (by decide) (ja (jb 1) (ja (jb 14) je)) (jc (jc jk))) (jb 12))))) (jd (ju zn)
  jf) jf)
  (jd (ju (Jd (zF hr.units) (Jd (zF hr.units) (jb 13) ji) (aeo (Jd aef (jb 13) ji) (aen (Jd (qF hr.units) (jg C.c_Slips hr (by decide) (ja (jb 1) (ja (jb 2) (ja (jb 12) je))) (jc (jc (jc jk)))) (aay je))))))
  jf)))))))))))))))⟩
noncomputable def ajW:List PyData->Option PyData:=jB aeC 1 aif.1
theorem j2 (i a b:Int):jO [.int i,.int a,.int b]=some (.bool (decide (a<=i) && decide (i<=b))):=by
 by_cases h:a<=i <;> simp [jO,jB,Q2,jX,j1,ifS,orB,tst,lkp,zH,tyn,asB,zQ,chn,zi,qJ,qA,h]
theorem Zc (u e l b x y:Int) (h:-18446744073709551616 < x/\x < 18446744073709551616):qE [.tuple [.int u,.int e,.int l,.int b],.tuple [.int x,.int y]]=some (.int (x*e+y)):=by
 simp [qE,jB,Zx,jX,j1,op2,lkp,dIx,atI,ixN,qJ,qA,cst,zm,Je,h]
theorem aig {n:Nat}{i:Int} (h0:0<=i) (h:i.toNat < n):ixN n i=some i.toNat:=by
 unfold ixN
 rw [if_pos h0,if_pos (by omega)]
noncomputable def okN (u e l b:Int):Bool:=decide (0<=u) && decide (u<=3) && decide (1<=e) && decide (e<=5) && decide (e - 1<=l) && decide (1<=l) && decide (l<=11) && decide (2<=b) && decide (b<=16) && decide (b<=u*e+l+1)
noncomputable def jZ (u l:Int):List PyData:=zV (u+1).toNat (l+1).toNat
noncomputable def jI (e:Int):PyData->Int
 | .tuple [.int x,.int y]=>x*e+y
 | _=>-1
noncomputable def pr (p:Int × Int):PyData:= .tuple [.int p.1,.int p.2]
noncomputable def jh (ps:List (Int × Int)):PyData:= .tuple (ps.map pr)
noncomputable def okP (u l:Int) (p:Int × Int):Bool:=decide (0<=p.1) && decide (p.1<=u) && decide (0<=p.2) && decide (p.2<=l)
noncomputable def okS (u l:Int) (ps:List (Int × Int)):Bool:=decide (1<=ps.length) && decide (ps.length<=4) && ps.all (okP u l)
noncomputable def wt (e:Int) (p:Int × Int):Int:=p.1*e+p.2
noncomputable def val (b e:Int) (ps:List (Int × Int)):Int:=ps.foldl (fun n p=>n*b+wt e p) 0
noncomputable def bds (ps:List (Int × Int)):Int:=(ps.map fun p=>p.1+p.2).sum
noncomputable def amP (e:Int):List Int->List PyData->List Int
 | c,[]=>c
 | c,r::rs=>amP e (c.set (jI e r).toNat (c.getD (jI e r).toNat 0+1)) rs
noncomputable def amQ (u e l:Int):List Int:=amP e (List.replicate (u*e+l+1).toNat 0) (jZ u l)
noncomputable def cnt (u e l n:Int):Int:=((jZ u l).filter fun r=>jI e r == n).length
noncomputable def okM (u e l b:Int):Bool:=decide (0<=u) && decide (u<=3) && decide (1<=e) && decide (e<=5) && decide (e - 1<=l) && decide (1<=l) && decide (l<=10) && decide (2<=b) && decide (b<=16) && decide (b<=u*e+l+1)
theorem abT {n m:Nat}{d:PyData} (h:d ∈ zV n m):∃ i j:Nat,i < n/\j < m/\d= .tuple [.int i,.int j]:=by
 obtain ⟨i,hi,hd⟩:=List.mem_flatMap.mp h
 obtain ⟨j,hj,rfl⟩:=List.mem_map.mp hd
 exact ⟨i,j,List.mem_range.mp hi,List.mem_range.mp hj,rfl⟩
theorem Jb (i:Int):okD (.int i)=true:=by simp [okD,PyData.canLay0,PyData.depth]
theorem ZR {u e l b:Int} (hu:0<=u) (hu':u < 100) (hl:0<=l) (hl':l < 100):zj [jo u e l b]=some (.list (jZ u l)):=by
 simp [zj,jo,jZ,hu,hl,show u < 1000 by omega,show l < 1000 by omega]
theorem adC {u l:Int} (hu':u < 100) (hl':l < 100):few (jZ u l)=true:=by
 simp only [few,jZ,aaN,decide_eq_true_eq]
 have:(u+1).toNat*(l+1).toNat<=100*100:=Nat.mul_le_mul (by omega) (by omega)
 omega
theorem abU {u e l b:Int} (hu':u < 100) {d:PyData} (h:d ∈ jZ u l):qE [jo u e l b,d]=some (.int (jI e d)):=by
 obtain ⟨i,j,hi,hj,rfl⟩:=abT h
 exact Zc u e l b i j (by omega)
theorem aaV {α:Type} (f:α->Int):∀ xs:List α,zG (xs.map fun d=>PyData.int (f d))=some (xs.map f)
 | []=>rfl
 | x::xs=>by simp [zG,acj,aaV f xs]
theorem aih (ns:List Int):okD (.list (ns.map PyData.int))=true:=by
 have h1:∀ ns:List Int,PyData.canLayAll0 (ns.map PyData.int)=true:=fun ns=>by
  induction ns with
  | nil=>rfl
  | cons n ns ih=>simp [PyData.canLayAll0,PyData.canLay0,ih]
 have h2:∀ ns:List Int,PyData.depthAll (ns.map PyData.int)=0:=fun ns=>by
  induction ns with
  | nil=>rfl
  | cons n ns ih=>simp [PyData.depthAll,PyData.depth,ih]
 simp [okD,PyData.canLay0,h1,PyData.depth,h2]
theorem aii (ns:List Int) (d:Int):(ns.map PyData.int).any (fun z=>PyData.eqv z (.int d))=ns.any (fun z=>z == d):=by
 induction ns with
 | nil=>rfl
 | cons n ns ih=>simp only [List.map_cons,List.any_cons,ih]; rfl
theorem aad {α:Type} (f:α->Bool):∀ xs:List α,bls (xs.map fun d=>PyData.bool (f d))=some (xs.map f)
 | []=>rfl
 | x::xs=>by simp [bls,asB,aad f xs]
theorem ix0 (u e l b:Int):dIx (jo u e l b) (.int 0)=some (.int u):=rfl
theorem ix1 (u e l b:Int):dIx (jo u e l b) (.int 1)=some (.int e):=rfl
theorem ix2 (u e l b:Int):dIx (jo u e l b) (.int 2)=some (.int l):=rfl
theorem ix3 (u e l b:Int):dIx (jo u e l b) (.int 3)=some (.int b):=rfl
theorem aae {j:Int} (h:0<=j) (h':j < 1000000):Zr [.int j]=some (qV 0 j.toNat):=by
 unfold Zr
 exact if_pos (by omega)
theorem JK (a b:Int):PyData.eqv (.int a) (.int b)=(a == b):=by unfold PyData.eqv; rfl
theorem aaW {u e l b:Int} (hu:0<=u) (hu':u < 100) (hl:0<=l) (hl':l < 100) (hb:0<=b) (hb':b < 100):Q4 [jo u e l b]=some (.bool ((List.range b.toNat).all fun d=>((jZ u l).map (jI e)).any fun z=>z == (d:Int))):=by
 have h1:=ZR (e:=e) (b:=b) hu hu' hl hl'
 have h2:=adC hu' hl'
 have h4:few (qV 0 b.toNat)=true:=by simp [few,qV]; omega
 simp only [Q4,jB,acs,jX,j1,qJ,qK,itL,jT,js,jN,lkp,Zp,List.length_cons,List.length_nil,zzM,List.map_cons,List.map_nil,List.cons_append,List.nil_append,zzA,zzC,zzD,zzE,h1,h2,JV,zo]
 rw [Qk (fun d=> .int (jI e d))]
 ·simp only [jG,qA,op2,cst,lkp,zzD,zzE,zzF,zzG,List.replicate,List.length_cons,List.length_nil,zzA,zzB,zzC,ix3,aae hb (show b < 1000000 by omega),h4,zzM]
  rw [Qk (fun d=> .bool (((jZ u l).map (jI e)).any fun z=>z == (acj d).getD 0))]
  ·have:(qV 0 b.toNat).map (fun d=>PyData.bool (((jZ u l).map (jI e)).any fun z=>z == (acj d).getD 0))=(List.range b.toNat).map fun (d:Nat)=>PyData.bool (((jZ u l).map (jI e)).any fun z=>z == (d:Int)):=by
    simp [qV,acj,Function.comp_def]
   simp only [zzE,zzD,this,ahn,aad (fun (d:Nat)=>((jZ u l).map (jI e)).any fun z=>z == (d:Int)),List.all_map,Function.comp_def,id]
  ·intro d hd
   obtain ⟨k,_,rfl⟩:=List.mem_map.mp hd
   have h5:(jZ u l).map (fun d=>PyData.int (jI e d))=((jZ u l).map (jI e)).map PyData.int:=by simp
   have h6:=aih ((jZ u l).map (jI e))
   simp only [op2,lkp,zzG,zzA,zzB,zzC,zzD,dIn,Jb,h5,h6,aii]
   simp [acj]
 ·intro d hd
  simp [jT,js,jN,lkp,abU (b:=b) (e:=e) hu' hd]
theorem acL {u e l b:Int} (hu:0<=u) (hu':u<=3) (he:1<=e) (he':e<=16) (hl:0<=l) (hl':l<=12) (hb:2<=b) (hb':b<=16):zy [jo u e l b]=Q4 [jo u e l b]:=by
 have g:=aaW (e:=e) hu (by omega) hl (by omega) (show 0<=b by omega) (by omega)
 have w1:jO [.int u,.int 0,.int 3]=some (.bool true):=by rw [j2]; simp [hu,hu']
 have w2:jO [.int e,.int 1,.int 16]=some (.bool true):=by rw [j2]; simp [he,he']
 have w3:jO [.int l,.int 0,.int 12]=some (.bool true):=by rw [j2]; simp [hl,hl']
 have w4:jO [.int b,.int 2,.int 16]=some (.bool true):=by rw [j2]; simp [hb,hb']
 have z:ae9 [jo u e l b,.tuple [.int 0,.int 1,.int 0,.int 2],.tuple [.int 3,.int 16,.int 12,.int 16]]=some [.tuple [.int u,.int 0,.int 3],.tuple [.int e,.int 1,.int 16],.tuple [.int l,.int 0,.int 12],.tuple [.int b,.int 2,.int 16]]:=rfl
 rw [g]
 rw [show jo u e l b= .tuple [.int u,.int e,.int l,.int b] from rfl] at g z ⊢
 simp [zy,jB,Zy,jX,j1,ifS,orB,zQ,tst,zH,tyn,asB,lkp,op2,jT,js,jN,q0,cst,dNe,Jb,JK,qA,Jw,z,jD,Jk,jH,qR,jG,w1,w2,w3,w4,qJ,g]
theorem abV {m:PyData} (h:zy [m]=some (.bool true)):Zz [m]=some .none:=by
 simp [Zz,jB,aex,jX,j1,ifS,zQ,tst,asB,jT,js,jN,lkp,h,qA]
theorem JL:few []=true:=by simp [few]
theorem add_int (i j:Int):Je (.int i) (.int j)=some (.int (i+j)):=rfl
theorem jR {i j:Int} (h:-1000000000000 < i/\i < 1000000000000):zm (.int i) (.int j)=some (.int (i*j)):=by
 unfold zm; exact if_pos (.inl ⟨by omega,by omega⟩)
theorem Zd {i j:Int} (h:0 < j):ahj (.int i) (.int j)=some (.int (i % j)):=by unfold ahj; exact if_pos h
theorem Qd {i j:Int} (h:0 < j) (h':j < 1000000000):adb (.int i) (.int j)=some (.int (i / j)):=by unfold adb; exact if_pos ⟨h,by omega⟩
theorem aij (ns:List Int) (hn:ns.length < 1000000) (k:Int) (hk:0<=k):∃ c,adv [scr ns,.int k]=some (.int c):=by
 cases ns with
 | nil=>
  refine ⟨7*k,?_⟩
  simp [adv,jB,afn,jX,j1,ifS,tst,op2,lkp,JU,jN,few,dEq,scr,zh,asB,qJ,cst,jR,qA]
 | cons n ns=>
  have hl:0 < (((n::ns).map fun n=>(PyData.int n,PyData.none)).length:Int):=by simp
  have hl':(((n::ns).map fun n=>(PyData.int n,PyData.none)).length:Int) < 1000000:=by simp at hn ⊢; omega
  have hsc:=abA (n::ns)
  have e1:dEq (scr (n::ns)) (.list [])=some (.bool false):=by
   show (if zh ((n::ns).map fun n=>(PyData.int n,PyData.none))=true then some (PyData.bool ((n::ns).map fun n=>(PyData.int n,PyData.none)).isEmpty) else none)=_
   rw [if_pos hsc]; rfl
  have e2:q0 [scr (n::ns)]=some (.int (((n::ns).map fun n=>(PyData.int n,PyData.none)).length)):=by
   show (if zh ((n::ns).map fun n=>(PyData.int n,PyData.none))=true then some (PyData.int ((n::ns).map fun n=>(PyData.int n,PyData.none)).length) else none)=_
   rw [if_pos hsc]
  generalize hL:(((n::ns).map fun n=>(PyData.int n,PyData.none)).length:Int)=L at*
  have h0:0<=k % L:=Int.emod_nonneg _ (by omega)
  have h1:k % L < L:=Int.emod_lt_of_pos _ hl
  have e3:∃ c,dIx (scr (n::ns)) (.int (k % L))=some (.int c):=by
   have hlen:((n::ns).map fun n=>(PyData.int n,PyData.none)).length < 1000000:=by omega
   have hlt:(k % L).toNat < ((n::ns).map fun n=>(PyData.int n,PyData.none)).length:=by omega
   have hx:ixN ((n::ns).map fun n=>(PyData.int n,PyData.none)).length (k % L)=some (k % L).toNat:=aig h0 hlt
   refine ⟨((n::ns)[(k % L).toNat]'(by simpa using hlt)),?_⟩
   show (if ((n::ns).map fun n=>(PyData.int n,PyData.none)).length < 1000000/\zh ((n::ns).map fun n=>(PyData.int n,PyData.none))=true then (atI ((n::ns).map fun n=>(PyData.int n,PyData.none)) (k % L)).map (·.1) else none)=_
   rw [if_pos ⟨hlen,hsc⟩]
   unfold atI
   rw [hx,zzD,List.getElem?_eq_getElem hlt,zzE,List.getElem_map]
  obtain ⟨c,e3⟩:=e3
  refine ⟨c+6553*(k / L),?_⟩
  simp [adv,jB,afn,jX,j1,ifS,tst,op2,lkp,JU,jN,few,asB,qJ,cst,qA,jT,js,e1,e2,e3,Zd hl,Qd hl (show L < 1000000000 by omega),jR,add_int]
theorem qO (ns:List Int) (hn:ns.length < 1000000) (k m:Int) (hk:0<=k) (hm:0 < m):∃ r,aaQ [scr ns,.int k,.int m]=some (.int r)/\0<=r/\r < m:=by
 obtain ⟨c,hc⟩:=aij ns hn k hk
 generalize h1:(c % 2147483563*69069+104723*(k+1)) % 2147483563=a
 generalize h2:(a*a+a / 3) % 2147483399=d
 have ha:0<=a/\a < 2147483563:=by rw [←h1]; exact ⟨Int.emod_nonneg _ (by omega),Int.emod_lt_of_pos _ (by omega)⟩
 have hd:0<=d/\d < 2147483399:=by rw [←h2]; exact ⟨Int.emod_nonneg _ (by omega),Int.emod_lt_of_pos _ (by omega)⟩
 have hc':0<=c % 2147483563/\c % 2147483563 < 2147483563:=⟨Int.emod_nonneg _ (by omega),Int.emod_lt_of_pos _ (by omega)⟩
 refine ⟨(d*d+d / 7) % 2147483647 / 11 % m,?_,Int.emod_nonneg _ (by omega),Int.emod_lt_of_pos _ hm⟩
 have m1:zm (.int (c % 2147483563)) (.int 69069)=some (.int (c % 2147483563*69069)):=jR (by omega)
 have m2:zm (.int 104723) (.int (k+1))=some (.int (104723*(k+1))):=jR (by omega)
 have m3:zm (.int a) (.int a)=some (.int (a*a)):=jR (by omega)
 have m4:zm (.int d) (.int d)=some (.int (d*d)):=jR (by omega)
 simp [aaQ,jB,aez,jX,j1,zo,jG,op2,lkp,jN,qJ,cst,qA,jT,js,hc,m1,m2,m3,m4,Zd,Qd,add_int,h1,h2,hm]
theorem aik (w:Int) (h0:0<=w) (h:w < 12):∃ u e l b,dIx (.list (ZD++ZE)) (.int w)=some (jo u e l b)/\okM u e l b=true:=by
 obtain ⟨n,rfl⟩:=Int.eq_ofNat_of_zero_le h0
 have hn:n < 12:=by omega
 have:∀ n < 12,∃ u e l b,dIx (.list (ZD++ZE)) (.int (n:Nat))=some (jo u e l b)/\okM u e l b=true:=by
  intro n hn
  match n,hn with
  | 0,_=>exact ⟨_,_,_,_,rfl,by decide⟩
  | 1,_=>exact ⟨_,_,_,_,rfl,by decide⟩
  | 2,_=>exact ⟨_,_,_,_,rfl,by decide⟩
  | 3,_=>exact ⟨_,_,_,_,rfl,by decide⟩
  | 4,_=>exact ⟨_,_,_,_,rfl,by decide⟩
  | 5,_=>exact ⟨_,_,_,_,rfl,by decide⟩
  | 6,_=>exact ⟨_,_,_,_,rfl,by decide⟩
  | 7,_=>exact ⟨_,_,_,_,rfl,by decide⟩
  | 8,_=>exact ⟨_,_,_,_,rfl,by decide⟩
  | 9,_=>exact ⟨_,_,_,_,rfl,by decide⟩
  | 10,_=>exact ⟨_,_,_,_,rfl,by decide⟩
  | 11,_=>exact ⟨_,_,_,_,rfl,by decide⟩
  | k+12,h=>omega
 exact this n hn
theorem aeD (ns:List Int) (hn:ns.length < 1000000) (k:Int) (hk:0<=k):∃ u e l b,Qs [scr ns,.int k]=some (jo u e l b)/\okM u e l b=true:=by
 obtain ⟨w,hw,hw0,hw1⟩:=qO ns hn k 24 hk (by omega)
 have a1:Je (.list ZD) (.list ZE)=some (.list (ZD++ZE)):=rfl
 have a2:q0 [.list (ZD++ZE)]=some (.int 12):=rfl
 have a3:zm (.int 2) (.int 12)=some (.int 24):=rfl
 by_cases hlt:w < 12
 ·obtain ⟨u,e,l,b,h1,h2⟩:=aik w hw0 hlt
  refine ⟨u,e,l,b,?_,h2⟩
  simp [Qs,jB,Z7,jX,j1,zo,jG,op2,lkp,jN,qJ,cst,qA,jT,js,ifS,tst,asB,a1,a2,a3,hw,zi,hlt,h1]
 ·obtain ⟨r1,e1,p1,q1⟩:=qO ns hn (k+1) 5 (by omega) (by omega)
  obtain ⟨r2,e2,p2,q2⟩:=qO ns hn (k+2) 4 (by omega) (by omega)
  obtain ⟨r3,e3,p3,q3⟩:=qO ns hn (k+3) 4 (by omega) (by omega)
  generalize hlo:(if (1:Int) > 1+r1 - 1 then 1 else 1+r1 - 1)+r3=lo
  have hlo1:1<=lo/\r1<=lo/\lo<=10:=by
   rw [←hlo]; split <;> omega
  have hue:0<=r2*(1+r1)/\r2*(1+r1)<=3*5:=⟨Int.mul_nonneg p2 (by omega),Int.mul_le_mul (by omega) (by omega) (by omega) (by omega)⟩
  generalize hmn:(if r2*(1+r1)+lo < 15 then r2*(1+r1)+lo else 15)=mn
  have hmn1:0 < mn/\mn<=15/\mn<=r2*(1+r1)+lo:=by
   rw [←hmn]; split <;> omega
  obtain ⟨r4,e4,p4,q4⟩:=qO ns hn (k+4) mn (by omega) (by omega)
  refine ⟨r2,1+r1,lo,2+r4,?_,?_⟩
  ·have m1:zm (.int r2) (.int (1+r1))=some (.int (r2*(1+r1))):=jR (by omega)
   have x1:ahl [.int (1+r1 - 1),.int 1]=some (.int (if (1:Int) > 1+r1 - 1 then 1 else 1+r1 - 1)):=rfl
   have x2:ahm [.int 15,.int (r2*(1+r1)+lo)]=some (.int (if r2*(1+r1)+lo < 15 then r2*(1+r1)+lo else 15)):=rfl
   have x3:QD (.int (1+r1)) (.int 1)=some (.int (1+r1 - 1)):=rfl
   simp only [Qs,jB,Z7,jX,j1,zo,jG,op2,lkp,jN,qJ,cst,qA,jT,js,ifS,tst,asB,a1,a2,a3,hw,zi,hlt,zzD,zzE,zzF,zzG,List.replicate,List.length_cons,List.length_nil,zzM,List.map_cons,List.map_nil,List.cons_append,List.nil_append,zzA,zzB,zzC,add_int,e1,e2,e3,m1,x1,x2,x3,decide_false,hlo,hmn,e4]
   simp [e1,e2,e3,m1,x1,x2,x3,hlo,hmn,e4,add_int,lkp,Qx,js,jN,few,jo]
   simp only [Qx,js,jN,lkp,op2,jT,cst,zzD,zzE,zzA,zzB,zzC,add_int,m1,x2,hmn,e4]
   simp
  ·have:=hue.1
   simp [okM]
   omega
noncomputable def isInt (t:Int):PyData->Bool
 | .int x=>x == t
 | _=>false
noncomputable def alB (u e l:Int):Bool:=
 isInt (u*e+l) (aln none ((jZ u l).map (jI e))) &&
 ((List.range (u*e+l+1).toNat).all fun n=>(jZ u l).any fun r=>jI e r == (n:Int)) &&
 ((jZ u l).all fun r=>decide (0<=jI e r) && decide (jI e r<=u*e+l)) &&
 decide (amQ u e l=(List.range (u*e+l+1).toNat).map fun (n:Nat)=>cnt u e l n)
noncomputable def zR:Bool:=(List.range 4).all fun (i:Nat)=>(List.range 5).all fun (j:Nat)=>(List.range 11).all fun (k:Nat)=>decide (k+1 < j) || alB i (j+1) (k+1)
structure Chk (u e l:Int):Prop where
 most:aln none ((jZ u l).map (jI e))= .int (u*e+l)
 dig:∀ n:Nat,n < (u*e+l+1).toNat->((jZ u l).any fun r=>jI e r == (n:Int))=true
 rng:∀ r ∈ jZ u l,0<=jI e r/\jI e r<=u*e+l
 lst:amQ u e l=(List.range (u*e+l+1).toNat).map fun (n:Nat)=>cnt u e l n
theorem alC {u e l:Int} (h:alB u e l=true):Chk u e l:=by
 simp only [alB,Bool.and_eq_true,List.all_eq_true,decide_eq_true_eq] at h
 obtain ⟨⟨⟨h1,h2⟩,h3⟩,h4⟩:=h
 refine ⟨?_,fun n hn=>h2 n (List.mem_range.mpr hn),fun r hr=>h3 r hr,h4⟩
 generalize aln none ((jZ u l).map (jI e))=x at h1
 cases x <;> simp [isInt] at h1
 rw [h1]
theorem qz {u e l b:Int} (h:okN u e l b=true):0<=u/\u<=3/\1<=e/\e<=5/\e - 1<=l/\1<=l/\l<=11/\2<=b/\b<=16/\b<=u*e+l+1:=by
 simp only [okN,Bool.and_eq_true,decide_eq_true_eq] at h
 omega
theorem alD {u e l b:Int} (H:zR=true) (h:okN u e l b=true):Chk u e l:=by
 obtain ⟨a1,a2,a3,a4,a5,a6,a7,_⟩:=qz h
 simp only [zR,List.all_eq_true,Bool.or_eq_true,decide_eq_true_eq] at H
 have:=H u.toNat (List.mem_range.mpr (by omega)) (e - 1).toNat (List.mem_range.mpr (by omega)) (l - 1).toNat (List.mem_range.mpr (by omega))
 rcases this with z | z
 ·exfalso; omega
 ·rw [show ((u.toNat:Nat):Int)=u by omega,show (((e - 1).toNat:Nat):Int)+1=e by omega,show (((l - 1).toNat:Nat):Int)+1=l by omega] at z
  exact alC z
theorem ajX {u e l b:Int} (h:okM u e l b=true):okN u e l b=true:=by
 simp only [okM,okN,Bool.and_eq_true,decide_eq_true_eq] at h ⊢
 omega
theorem alE {u e l b:Int} (H:zR=true) (h:okN u e l b=true) {n:Int} (h0:0<=n) (hn:n < b):((jZ u l).any fun r=>jI e r == n)=true:=by
 obtain ⟨a1,a2,a3,a4,a5,a6,a7,a8,a9,a10⟩:=qz h
 have:=(alD H h).dig n.toNat (by omega)
 rw [show ((n.toNat:Nat):Int)=n by omega] at this
 exact this
end Rods
theorem Rods.allN_true:Rods.zR=true:=by decide +kernel
namespace Rods
open PySem L2 BX
open PyProof.Rows hiding St
theorem jv {F G:Rho->Option Out}{ρ ρ1:Rho} (h:F ρ=some (.nx ρ1)):j1 F G ρ=G ρ1:=by
 unfold j1
 rw [h]
 rfl
theorem jQ {N:List Str}{n:Nat}{B:Rho->Option Out}{ds:List PyData}{d:PyData} (hl:ds.length=n) (h:B (jX N ds)=some (.rt d)):jB N n B ds=some d:=by
 unfold jB
 rw [if_pos hl,h]
theorem ZI {b:Int} (hb:0 < b):∀ r:Nat,0 < b ^ r
 | 0=>by simp
 | r+1=>by rw [Int.pow_succ]; exact Int.mul_pos (ZI hb r) hb
theorem ail {b:Int} (h0:0 < b) (h:b<=16):∀ r:Nat,b ^ r<=16 ^ r
 | 0=>by simp
 | r+1=>by
  rw [Int.pow_succ,Int.pow_succ]
  exact Int.mul_le_mul (ail h0 h r) h (by omega) (Int.le_of_lt (ZI (by decide) r))
theorem alF {b:Int} (h0:0 < b) (h:b<=16) {r:Nat} (hr:r<=4):b ^ r<=65536:=by
 have:r=0 ∨ r=1 ∨ r=2 ∨ r=3 ∨ r=4:=by omega
 have:=ail h0 h r
 rcases ‹r=0 ∨ _› with e | e | e | e | e <;> subst e <;> first | (exact Int.le_trans this (by decide))
theorem aim (b e:Int) (ps:List (Int × Int)) (p:Int × Int):val b e (ps++[p])=val b e ps*b+wt e p:=by simp [val]
end Rods
namespace Rods
open PySem L2 BX
open PyProof.Rows hiding St
section
variable {u e l b:Int}
theorem qx {u l:Int}{p:Int × Int} (h:okP u l p=true):0<=p.1/\p.1<=u/\0<=p.2/\p.2<=l:=by
 simp only [okP,Bool.and_eq_true,decide_eq_true_eq] at h
 exact ⟨h.1.1.1,h.1.1.2,h.1.2,h.2⟩
theorem afo {e u l:Int} (he:1<=e) {p:Int × Int} (h:okP u l p=true):0<=wt e p:=by
 obtain ⟨h1,h2,h3,h4⟩:=qx h
 have:=Int.mul_nonneg h1 (show 0<=e by omega)
 unfold wt; omega
theorem ain {e u l:Int} (he:1<=e) (he5:e<=5) (hu:u<=3) (hl:l<=11) {p:Int × Int} (h:okP u l p=true):wt e p<=26:=by
 obtain ⟨h1,h2,h3,h4⟩:=qx h
 have:p.1*e<=3*5:=Int.mul_le_mul (by omega) he5 (by omega) (by omega)
 unfold wt; omega
theorem afp {b e u l:Int} (h2:2<=b) (hb:b<=16) (he:1<=e) (he5:e<=5) (hu:u<=3) (hl:l<=11):∀ (ps:List (Int × Int)) (acc:Int),ps.all (okP u l)=true->0<=acc->0<=ps.foldl (fun n p=>n*b+wt e p) acc/\ps.foldl (fun n p=>n*b+wt e p) acc+30<=(acc+30)*16 ^ ps.length
 | [],acc,_,h=>⟨h,by simp⟩
 | p::ps,acc,hp,h=>by
  rw [List.all_cons,Bool.and_eq_true] at hp
  have w0:=afo he hp.1
  have w1:=ain he he5 hu hl hp.1
  have ha:0<=acc*b:=Int.mul_nonneg h (by omega)
  have hb2:acc*b<=acc*16:=Int.mul_le_mul_of_nonneg_left hb h
  obtain ⟨h1,h3⟩:=afp h2 hb he he5 hu hl ps (acc*b+wt e p) hp.2 (by omega)
  refine ⟨h1,Int.le_trans h3 ?_⟩
  rw [List.length_cons,Int.pow_succ,Int.mul_comm (16 ^ ps.length) 16,←Int.mul_assoc]
  refine Int.mul_le_mul_of_nonneg_right ?_ (Int.le_of_lt (ZI (by decide) _))
  omega
theorem alG (h:okN u e l b=true) {ps:List (Int × Int)} (hp:ps.all (okP u l)=true):0<=val b e ps:=by
 obtain ⟨a1,a2,a3,a4,a5,a6,a7,a8,a9,a10⟩:=qz h
 exact (afp a8 a9 a3 a4 a2 a7 ps 0 hp (by omega)).1
end
end Rods
namespace Rods
open PySem L2 BX
open PyProof.Rows hiding St
theorem Jc {ds:List PyData} (h:ds.length < 10000):few ds=true:=by
 rw [few]
 refine decide_eq_true ?_
 omega
theorem amR {u e l b:Int} (H:zR=true) (h:okN u e l b=true):zy [jo u e l b]=some (.bool true):=by
 obtain ⟨a1,a2,a3,a4,a5,a6,a7,a8,a9,a10⟩:=qz h
 rw [acL a1 a2 a3 (by omega) (by omega) (by omega) a8 a9,aaW a1 (by omega) (by omega) (by omega) (by omega) (by omega)]
 congr 2
 refine List.all_eq_true.mpr fun d hd=>?_
 have:=alE H h (n:=(d:Int)) (by omega) (by have:=List.mem_range.mp hd; omega)
 simpa [List.any_map,Function.comp_def] using this
theorem jS {u l:Int}{ps:List (Int × Int)} (h:okS u l ps=true):1<=ps.length/\ps.length<=4/\ps.all (okP u l)=true:=by
 simp only [okS,Bool.and_eq_true,decide_eq_true_eq] at h
 exact ⟨h.1.1,h.1.2,h.2⟩
theorem aaX {u l:Int}{ps:List (Int × Int)} (h1:1<=ps.length) (h2:ps.length<=4) (h3:ps.all (okP u l)=true):okS u l ps=true:=by
 simp only [okS,Bool.and_eq_true,decide_eq_true_eq]
 exact ⟨⟨h1,h2⟩,h3⟩
end Rods
namespace Rods
open PySem L2 BX
open PyProof.Rows hiding St
section
variable {u e l b:Int}{ps qs:List (Int × Int)}
theorem adD (h:okN u e l b=true) {S:PyData}:∀ (qs:List (Int × Int)) (acc:Int) (x:Option PyData),qs.all (okP u l)=true->0<=acc->(acc+30)*16 ^ qs.length<=1000000000->
  ∃ y,jD (jG 3) acv.1 (qs.map pr) [some (jo u e l b),some S,some (.int acc),x]=some (.nx [some (jo u e l b),some S,some (.int (qs.foldl (fun n p=>n*b+wt e p) acc)),y])
 | [],acc,x,_,_,_=>⟨x,rfl⟩
 | q::qs,acc,x,hq,h0,hB=>by
  obtain ⟨a1,a2,a3,a4,a5,a6,a7,a8,a9,a10⟩:=qz h
  rw [List.all_cons,Bool.and_eq_true] at hq
  obtain ⟨q1,q2,q3,q4⟩:=qx hq.1
  have w0:=afo a3 hq.1
  have w1:=ain a3 a4 a2 a7 hq.1
  have hp:=ZI (b:=16) (by decide) qs.length
  rw [List.length_cons,Int.pow_succ,Int.mul_comm (16 ^ qs.length) 16,←Int.mul_assoc] at hB
  have ha:0<=acc*b:=Int.mul_nonneg h0 (by omega)
  have hb2:acc*b<=acc*16:=Int.mul_le_mul_of_nonneg_left a9 h0
  have hB':(acc*b+wt e q+30)*16 ^ qs.length<=1000000000:=Int.le_trans (Int.mul_le_mul_of_nonneg_right (by omega) (Int.le_of_lt hp)) hB
  have hacc:acc<=1000000000:=by
   have h1:(acc+30)*16*1<=(acc+30)*16*16 ^ qs.length:=Int.mul_le_mul_of_nonneg_left (by omega) (by omega)
   omega
  have m1:zm (.int acc) (.int b)=some (.int (acc*b)):=jR ⟨by omega,by omega⟩
  have w':qE [jo u e l b,pr q]=some (.int (wt e q)):=Zc u e l b q.1 q.2 (by omega)
  have step:acv.1 [some (jo u e l b),some S,some (.int acc),some (pr q)]=some (.nx [some (jo u e l b),some S,some (.int (acc*b+wt e q)),some (pr q)]):=by
   simp only [acv,j1,zo,op2,jT,js,jN,lkp,cst,jG,zzA,zzB,zzC,zzD,zzE,ix3,m1,w',add_int,zzF,zzG,qA]
  obtain ⟨y,hy⟩:=adD h (S:=S) qs (acc*b+wt e q) (some (pr q)) hq.2 (by omega) hB'
  refine ⟨y,?_⟩
  rw [List.map_cons]
  simp only [jD,jG,zzD,zzF,zzG,step]
  exact hy
theorem acM (h:okN u e l b=true) (h4:ps.length<=4) (hp:ps.all (okP u l)=true):adu [jo u e l b,jh ps]=some (.int (val b e ps)):=by
 have hB:(0+30:Int)*16 ^ ps.length<=1000000000:=by
  have:=alF (b:=16) (by decide) (by decide) h4
  omega
 obtain ⟨y,hy⟩:=adD h (S:=jh ps) ps 0 none hp (by omega) hB
 refine jQ rfl ?_
 show ajP.1 [some (jo u e l b),some (jh ps),none,none]=_
 simp only [ajP]
 refine (jv (ρ1:=[some (jo u e l b),some (jh ps),some (.int 0),none]) ?_).trans ?_
 ·simp only [zo,cst,jG,zzD,zzE,zzF,zzG]
 refine (jv (ρ1:=[some (jo u e l b),some (jh ps),some (.int (val b e ps)),y]) ?_).trans ?_
 ·show (itT (lkp 1) _).bind _=_
  rw [show itT (lkp 1) [some (jo u e l b),some (jh ps),some (.int 0),none]=some (ps.map pr) from rfl]
  exact hy
 rfl
theorem agt {p:Int × Int} (hp:okP u l p=true):Jf [jo u e l b,pr p]=some (.bool true):=by
 obtain ⟨q1,q2,q3,q4⟩:=qx hp
 have w1:jO [.int p.1,.int 0,.int u]=some (.bool true):=by rw [j2]; simp [q1,q2]
 have w2:jO [.int p.2,.int 0,.int l]=some (.bool true):=by rw [j2]; simp [q3,q4]
 simp [Jf,jB,ZA,jX,j1,ifS,orB,zQ,tst,zH,tyn,asB,lkp,op2,jT,js,jN,q0,cst,dNe,Jb,JK,qA,qJ,aaG,pr,jo,dIx,atI,ixN,w1,w2]
theorem abW (H:zR=true) (h:okN u e l b=true) (hs:okS u l ps=true):ZC [jo u e l b,jh ps]=some (.bool true):=by
 obtain ⟨h1,h4,hp⟩:=jS hs
 have g0:=abV (amR H h)
 have hf:few (ps.map pr)=true:=Jc (by rw [List.length_map]; omega)
 have c1:zi (fun i j=>decide (i<=j)) (.int 1) (.int ((ps.map pr).length:Int))=some (.bool true):=by
  show some (PyData.bool (decide ((1:Int)<=((ps.map pr).length:Int))))=_
  rw [decide_eq_true (by rw [List.length_map]; omega)]
 have c2:zi (fun i j=>decide (i<=j)) (.int ((ps.map pr).length:Int)) (.int 4)=some (.bool true):=by
  show some (PyData.bool (decide (((ps.map pr).length:Int)<=4)))=_
  rw [decide_eq_true (by rw [List.length_map]; omega)]
 refine jQ rfl ?_
 show ZB.1 [some (jo u e l b),some (jh ps)]=_
 simp only [ZB]
 refine (jv (ρ1:=[some (jo u e l b),some (jh ps)]) ?_).trans ?_
 ·simp only [ace,jT,js,jN,lkp,zzA,zzB,zzC,zzD,zzE,g0]
 refine (jv (ρ1:=[some (jo u e l b),some (jh ps)]) ?_).trans ?_
 ·simp [ifS,orB,zQ,tst,zH,tyn,asB,lkp,jh,chn,jT,js,jN,q0,cst,qA]
  simp [List.length_map] at c1 c2
  simp [c1,c2]
  rfl
 simp only [j1,qJ,jT,js,jN,qK,itT,lkp,jh,Zq,zzA,zzB,zzC,zzD,zzE,hf,zzM,JV,List.map_cons,List.map_nil,zzH]
 rw [Qk (fun _=> .bool true)]
 ·have:bls ((ps.map pr).map fun _=>PyData.bool true)=some ((ps.map pr).map fun _=>true):=aad (fun _=>true) _
  simp only [zzE,zzD,ahn,this]
  simp
 ·intro d hd
  obtain ⟨p,hp',rfl⟩:=List.mem_map.mp hd
  simp [jT,js,jN,lkp,agt (e:=e) (b:=b) (List.all_eq_true.mp hp p hp')]
theorem aio (H:zR=true) (h:okN u e l b=true) (hs:okS u l ps=true):jV [jo u e l b,jh ps]=some .none:=by
 have g:=abW H h hs
 simp [jV,jB,Z5,jX,j1,ifS,zQ,tst,asB,jT,js,jN,lkp,g,qA]
theorem Jr (H:zR=true) (h:okN u e l b=true) (hs:okS u l ps=true):JG [jo u e l b,jh ps]=some (.int (val b e ps)):=by
 obtain ⟨h1,h4,hp⟩:=jS hs
 have g:=aio H h hs
 have g2:=acM h h4 hp
 simp [JG,jB,aey,jX,j1,ace,qJ,jT,js,jN,lkp,g,g2,qA]
end
end Rods
namespace Rods
open PySem L2 BX
open PyProof.Rows hiding St
theorem adE {n:Int} (h0:0<=n) (h1:n<=99999):JF [.int n]=some .none:=by
 have w:jO [.int n,.int 0,.int 99999]=some (.bool true):=by rw [j2]; simp [h0,h1]
 simp [JF,jB,acw,jX,j1,ifS,zQ,tst,asB,jT,js,jN,lkp,cst,w,qA]
end Rods
namespace Rods
open PySem L2 BX
open PyProof.Rows hiding St
section
variable {u e l b:Int}{ps qs:List (Int × Int)}
theorem Ze (i j:Int):dEq (.int i) (.int j)=some (.bool (decide (i=j))):=by
 have:(i == j)=decide (i=j):=rfl
 simp only [dEq,Jb,JK,and_self,zzM,this]
theorem zP (ps:List (Int × Int)):q0 [jh ps]=some (.int (ps.length:Int)):=by
 show some (PyData.int ((ps.map pr).length:Int))=_
 rw [List.length_map]
theorem alH (p q:Int × Int):PyData.eqv (pr p) (pr q)=decide (p=q):=by
 obtain ⟨a,b⟩:=p
 obtain ⟨c,d⟩:=q
 simp only [pr,PyData.eqv,PyData.eqvAll,Prod.mk.injEq,Bool.and_true,Bool.decide_and]
 rfl
theorem abX:∀ (ps qs:List (Int × Int)),PyData.eqvAll (ps.map pr) (qs.map pr)=decide (ps=qs)
 | [],[]=>by simp [PyData.eqvAll]
 | [],q::qs=>by simp [PyData.eqvAll]
 | p::ps,[]=>by simp [PyData.eqvAll]
 | p::ps,q::qs=>by simp [PyData.eqvAll,alH,abX ps qs]
theorem adF (ps qs:List (Int × Int)):PyData.eqv (jh ps) (jh qs)=decide (ps=qs):=by
 unfold jh PyData.eqv
 exact abX ps qs
theorem Zf (ps:List (Int × Int)):okD (jh ps)=true:=by
 have h1:∀ ps:List (Int × Int),PyData.canLayAll0 (ps.map pr)=true:=fun ps=>by
  induction ps with
  | nil=>rfl
  | cons p ps ih=>simp [PyData.canLayAll0,PyData.canLay0,pr,ih]
 have h2:∀ ps:List (Int × Int),PyData.depthAll (ps.map pr)<=1:=fun ps=>by
  induction ps with
  | nil=>simp [PyData.depthAll]
  | cons p ps ih=>simp [PyData.depthAll,PyData.depth,pr] at ih ⊢; omega
 have:=h2 ps
 simp [okD,jh,PyData.canLay0,h1,PyData.depth]
 omega
theorem ajY (ps qs:List (Int × Int)):dEq (jh ps) (jh qs)=some (.bool (decide (ps=qs))):=by
 show (if okD _=true/\okD _=true then some (PyData.bool _) else none)=_
 rw [if_pos ⟨Zf ps,Zf qs⟩,adF]
theorem afq (ps qs:List (Int × Int)):dNe (jh ps) (jh qs)=some (.bool (!decide (ps=qs))):=by
 unfold dNe
 rw [if_pos ⟨Zf ps,Zf qs⟩,adF]
end
end Rods
namespace Rods
open PySem L2 BX
open PyProof.Rows hiding St
theorem aip {α:Type} (x:α):∀ n:Nat,(List.replicate n [x]).flatten=List.replicate n x
 | 0=>rfl
 | n+1=>by rw [List.replicate_succ,List.flatten_cons,aip x n,List.replicate_succ]; rfl
noncomputable def qX (u e l b:Int) (a:Nat):Int:=val b e (List.replicate a (u,l))
theorem aiq {u e l b:Int} (h:okN u e l b=true) (a:Nat):(List.replicate a (u,l)).all (okP u l)=true:=by
 obtain ⟨a1,a2,a3,a4,a5,a6,a7,a8,a9,a10⟩:=qz h
 refine List.all_eq_true.mpr fun p hp=>?_
 rw [(List.mem_replicate.mp hp).2]
 simp only [okP,Bool.and_eq_true,decide_eq_true_eq]
 exact ⟨⟨⟨a1,Int.le_refl _⟩,by omega⟩,Int.le_refl _⟩
theorem air {u e l b:Int} (a:Nat) (ha:a < 4):ah5 [jo u e l b,.int (a:Int)]=some (jh (List.replicate a (u,l))):=by
 refine jQ rfl ?_
 have f1:few [pr (u,l)]=true:=Jc (by simp)
 have f2:few [PyData.int u,.int l]=true:=Jc (by simp)
 have rp:ahM (.tuple [.tuple [.int u,.int l]]) (.int (a:Int))=some (jh (List.replicate a (u,l))):=by
  show (if 0 < [pr (u,l)].length/\[pr (u,l)].length < 1000/\-1000 < (a:Int)/\(a:Int) < 1000 then some (PyData.tuple (List.replicate (a:Int).toNat [pr (u,l)]).flatten) else none)=_
  rw [if_pos ⟨by simp,by simp,by omega,by omega⟩,aip]
  simp [jh]
 have f1':few [PyData.tuple [.int u,.int l]]=true:=f1
 generalize (a:Int)=aa at*
 show afi.1 [some (jo u e l b),some (.int aa)]=_
 simp only [afi,j1,qJ,op2,Qx,js,jN,lkp,cst,zzA,zzB,zzC,zzD,zzE,ix0,ix2,f1',f2,zzM,rp]
noncomputable def ZJ (e n:Int) (r:PyData):Int:=n - jI e r
noncomputable def okL (e b m n:Int) (r:PyData):Bool:=decide (ZJ e n r % b=0) && (decide (0<=ZJ e n r) && decide (ZJ e n r<=b*m))
noncomputable def abY (e b n:Int) (r:PyData):PyData:= .tuple [r,.int (ZJ e n r / b)]
theorem ajZ {u e l b m n:Int} (hu':u < 100) (hb:0 < b) (hb':b < 100) {A x7:Option PyData}{ds:List PyData} (hds:ds.length < 1000000) {R:PyData} (nR:noL R=true) {L:Int}:tst (op2 dEq (op2 ahj (lkp 7) (lkp 3)) (cst (.int 0))) [some (jo u e l b),A,some (.int n),some (.int b),some (.int m),some (.list ds),some R,some (.int L)]=some (decide (L % b=0)):=by
 have mb:zm (.int b) (.int m)=some (.int (b*m)):=jR (by omega)
 have md:=fun x=>Zd (i:=x) hb
 have fd:=fun x=>Qd (i:=x) hb (by omega)
 have sb:∀ x y:Int,QD (.int x) (.int y)=some (.int (x - y)):=fun _ _=>rfl
 have le:∀ x y:Int,zi (fun i j=>decide (i<=j)) (.int x) (.int y)=some (.bool (decide (x<=y))):=fun _ _=>rfl
 simp only [tst,op2,lkp,cst,zzA,zzB,zzC,zzD,md,Ze,asB]
theorem aj0 {u e l b m n:Int} (hu':u < 100) (hb:0 < b) (hb':b < 100) {A x7:Option PyData}{ds:List PyData} (hds:ds.length < 1000000) {R:PyData} (nR:noL R=true) {L:Int}:tst (chn (zi fun i j=>decide (i<=j)) (zi fun i j=>decide (i<=j)) (cst (.int 0)) (lkp 7) (op2 zm (lkp 3) (lkp 4))) [some (jo u e l b),A,some (.int n),some (.int b),some (.int m),some (.list ds),some R,some (.int L)]=some (decide (0<=L) && decide (L<=b*m)):=by
 have mb:zm (.int b) (.int m)=some (.int (b*m)):=jR (by omega)
 have md:=fun x=>Zd (i:=x) hb
 have fd:=fun x=>Qd (i:=x) hb (by omega)
 have sb:∀ x y:Int,QD (.int x) (.int y)=some (.int (x - y)):=fun _ _=>rfl
 have le:∀ x y:Int,zi (fun i j=>decide (i<=j)) (.int x) (.int y)=some (.bool (decide (x<=y))):=fun _ _=>rfl
 simp only [tst,chn,op2,lkp,cst,zzA,zzB,zzC,zzD,le,mb,asB]
 by_cases c2:0<=L
 ·simp [c2,asB]
 ·simp [c2,asB]
theorem aj1 {u e l b m n:Int} (hu':u < 100) (hb:0 < b) (hb':b < 100) {A x7:Option PyData}{ds:List PyData} (hds:ds.length < 1000000) {R:PyData} (nR:noL R=true) {L:Int}:QU 5 (Z1 5 (Qx (js (lkp 6) (js (op2 adb (lkp 7) (lkp 3)) jN)))) [some (jo u e l b),A,some (.int n),some (.int b),some (.int m),some (.list ds),some R,some (.int L)]=some (.nx [some (jo u e l b),A,some (.int n),some (.int b),some (.int m),some (.list (ds++[.tuple [R,.int (L / b)]])),some R,some (.int L)]):=by
 have mb:zm (.int b) (.int m)=some (.int (b*m)):=jR (by omega)
 have md:=fun x=>Zd (i:=x) hb
 have fd:=fun x=>Qd (i:=x) hb (by omega)
 have sb:∀ x y:Int,QD (.int x) (.int y)=some (.int (x - y)):=fun _ _=>rfl
 have le:∀ x y:Int,zi (fun i j=>decide (i<=j)) (.int x) (.int y)=some (.bool (decide (x<=y))):=fun _ _=>rfl
 have hn:noL (.tuple [R,.int (L / b)])=true:=by simp [noL,noLs,nR]
 have hf2:few [R,PyData.int (L / b)]=true:=by simp [few]
 simp only [QU,Z1,Qx,js,jN,op2,lkp,zzA,zzB,zzC,zzD,zzE,fd,hf2,zzM,ajA,hn,hds,and_self,zzF,zzG]
theorem aeE {u e l b m n:Int} (hu':u < 100) (hb:0 < b) (hb':b < 100) {A x7:Option PyData}{ds:List PyData} (hds:ds.length < 1000000) {R:PyData} (nR:noL R=true) {L:Int} (hL':n - jI e R=L) (hw:qE [jo u e l b,R]=some (.int (jI e R))):
  Qr.1 [some (jo u e l b),A,some (.int n),some (.int b),some (.int m),some (.list ds),some R,x7]=
   some (.nx [some (jo u e l b),A,some (.int n),some (.int b),some (.int m),some (.list (ds++if (decide (L % b=0) && (decide (0<=L) && decide (L<=b*m)))=true then [.tuple [R,.int (L / b)]] else [])),some R,some (.int L)]):=by
 have sb:∀ x y:Int,QD (.int x) (.int y)=some (.int (x - y)):=fun _ _=>rfl
 simp only [Qr]
 refine (jv (ρ1:=[some (jo u e l b),A,some (.int n),some (.int b),some (.int m),some (.list ds),some R,some (.int L)]) ?_).trans ?_
 ·simp only [zo,brw,hid,op2,lkp,jT,js,jN,zzF,zzG,zzA,zzB,zzC,zzD,zzE,hw,sb,jG,hL']
 ·have q1:=ajZ (u:=u) (e:=e) (l:=l) (m:=m) (n:=n) hu' hb hb' (A:=A) (x7:=x7) hds nR (L:=L)
  have q2:=aj0 (u:=u) (e:=e) (l:=l) (m:=m) (n:=n) hu' hb hb' (A:=A) (x7:=x7) hds nR (L:=L)
  have q3:=aj1 (u:=u) (e:=e) (l:=l) (m:=m) (n:=n) hu' hb hb' (A:=A) (x7:=x7) hds nR (L:=L)
  cases c1:decide (L % b=0) with
  | false=>simp only [j1,ifS,aba,q1,c1,zzD,zzL,zzN,qA,Bool.false_and,List.append_nil]
  | true=>
   cases c2:(decide (0<=L) && decide (L<=b*m)) with
   | false=>simp only [j1,ifS,aba,q1,q2,c1,c2,zzD,zzM,zzL,zzN,qA,Bool.and_false,List.append_nil]
   | true=>simp only [j1,ifS,aba,q1,q2,q3,c1,c2,zzD,zzM,qA,Bool.and_self]
theorem agu {u e l b m n:Int} (hu':u < 100) (hb:0 < b) (hb':b < 100) {A x7:Option PyData}{ds:List PyData} (hds:ds.length < 1000000) {r:PyData} (hr:r ∈ jZ u l):
  Qr.1 [some (jo u e l b),A,some (.int n),some (.int b),some (.int m),some (.list ds),some r,x7]=
   some (.nx [some (jo u e l b),A,some (.int n),some (.int b),some (.int m),some (.list (ds++if okL e b m n r=true then [abY e b n r] else [])),some r,some (.int (ZJ e n r))]):=by
 have hw:=abU (e:=e) (b:=b) hu' hr
 have nR:noL r=true:=by obtain ⟨i,j,_,_,rfl⟩:=abT hr; simp [noL,noLs]
 exact aeE hu' hb hb' hds nR rfl hw
theorem abZ {u e l b m n:Int} (hu':u < 100) (hb:0 < b) (hb':b < 100) {A:Option PyData}:∀ (rs ds:List PyData) (x6 x7:Option PyData),(∀ r ∈ rs,r ∈ jZ u l)->ds.length+rs.length < 1000000->
  ∃ y6 y7,jD (jG 6) Qr.1 rs [some (jo u e l b),A,some (.int n),some (.int b),some (.int m),some (.list ds),x6,x7]=
   some (.nx [some (jo u e l b),A,some (.int n),some (.int b),some (.int m),some (.list (ds++(rs.filter (okL e b m n)).map (abY e b n))),y6,y7])
 | [],ds,x6,x7,_,_=>⟨x6,x7,by simp [jD]⟩
 | r::rs,ds,x6,x7,h,hl=>by
  have hl':ds.length+(rs.length+1) < 1000000:=hl
  have s:=agu (l:=l) (e:=e) (m:=m) (n:=n) hu' hb hb' (A:=A) (x7:=x7) (ds:=ds) (by omega) (h r List.mem_cons_self)
  obtain ⟨y6,y7,ih⟩:=abZ (l:=l) (e:=e) (m:=m) (n:=n) hu' hb hb' (A:=A) rs (ds++if okL e b m n r=true then [abY e b n r] else []) (some r) (some (.int (ZJ e n r))) (fun x hx=>h x (List.mem_cons_of_mem _ hx)) (by split <;> simp <;> omega)
  refine ⟨y6,y7,?_⟩
  rw [jD]
  simp only [jG,zzF,zzG,zzD,s,ih]
  by_cases c:okL e b m n r=true
  ·simp [c,List.filter_cons]
  ·simp [c,List.filter_cons]
theorem ais {u e l b n:Int} (h:okN u e l b=true) (a:Nat) (ha:a < 4):
  afl [jo u e l b,.int (a:Int),.int n]=some (.list (((jZ u l).filter (okL e b (qX u e l b a) n)).map (abY e b n))):=by
 obtain ⟨a1,a2,a3,a4,a5,a6,a7,a8,a9,a10⟩:=qz h
 have hu:0<=u:=a1
 have hu':u < 100:=by omega
 have hl:0<=l:=by omega
 have hl':l < 100:=by omega
 have hb:0 < b:=by omega
 have hb':b < 100:=by omega
 refine jQ rfl ?_
 have h1:=air (u:=u) (e:=e) (l:=l) (b:=b) a ha
 have h2:adu [jo u e l b,jh (List.replicate a (u,l))]=some (.int (qX u e l b a)):=acM h (by rw [List.length_replicate]; omega) (aiq h a)
 have h3:=ZR (e:=e) (b:=b) hu hu' hl hl'
 have hf:=adC (u:=u) (l:=l) hu' hl'
 have hlen:(jZ u l).length < 1000000:=by simpa [few] using hf
 obtain ⟨y6,y7,lp⟩:=abZ (u:=u) (l:=l) (e:=e) (m:=qX u e l b a) (n:=n) hu' hb hb' (A:=some (.int (a:Int))) (jZ u l) [] none none (fun _ h=>h) (by simpa using hlen)
 show afk.1 [some (jo u e l b),some (.int (a:Int)),some (.int n),none,none,none,none,none]=_
 simp only [afk]
 refine (jv (ρ1:=[some (jo u e l b),some (.int (a:Int)),some (.int n),some (.int b),none,none,none,none]) ?_).trans ?_
 ·simp only [zo,op2,lkp,cst,jG,zzA,zzC,zzD,zzE,ix3,zzF,zzG]
 refine (jv (ρ1:=[some (jo u e l b),some (.int (a:Int)),some (.int n),some (.int b),some (.int (qX u e l b a)),none,none,none]) ?_).trans ?_
 ·simp only [zo,jT,js,jN,lkp,jG,zzA,zzB,zzC,zzD,zzE,h1,h2,zzF,zzG]
 have f0:few ([]:List PyData)=true:=JL
 simp only [QG,JU,jN,f0,zzD,zzM,List.length_cons,List.length_nil,Nat.lt_add_one,zzF,zzG]
 have q:j1 (Jw (fun ρ=>itL (jT zj (js (lkp 0) jN)) (hid (some 5) ρ)) (jG 6) Qr.1) (j1 (qJ (lkp 5)) qA) [some (jo u e l b),some (.int (a:Int)),some (.int n),some (.int b),some (.int (qX u e l b a)),some (.list []),none,none]=
   some (.rt (.list (((jZ u l).filter (okL e b (qX u e l b a) n)).map (abY e b n)))):=by
  refine (jv (ρ1:=[some (jo u e l b),some (.int (a:Int)),some (.int n),some (.int b),some (.int (qX u e l b a)),some (.list ([]++((jZ u l).filter (okL e b (qX u e l b a) n)).map (abY e b n))),y6,y7]) ?_).trans ?_
  ·simp only [Jw,itL,Zp,jT,js,jN,lkp,hid,zzF,zzG,zzA,zzC,zzD,zzE,h3,lp]
  ·simp only [j1,qJ,lkp,zzA,zzB,zzC,zzE,zzD,List.nil_append]
 rw [if_pos (by decide),q]
 rfl
noncomputable abbrev KI:=List (Int × Int)
noncomputable def enc (kv:KI):List (PyData × PyData):=kv.map fun p=>(.int p.1,.int p.2)
noncomputable def dI (kv:KI):PyData:= .dict ((.none,.none)::enc kv)
noncomputable def amS (kv:KI) (k:Int):Option Int:=(kv.find? fun p=>decide (p.1=k)).map (·.2)
noncomputable def anB (kv:KI) (k:Int):Int:=(amS kv k).getD 0
noncomputable def rp (u l:Int):List (Int × Int):=(List.range (u+1).toNat).flatMap fun (i:Nat)=>(List.range (l+1).toNat).map fun (j:Nat)=>((i:Int),(j:Int))
theorem afr (u l:Int):jZ u l=(rp u l).map pr:=by
 simp [jZ,zV,zJ,rp,List.map_flatMap,List.map_map,Function.comp_def,pr]
theorem alI {u l:Int}{p:Int × Int} (h:okP u l p=true):p ∈ rp u l:=by
 obtain ⟨q1,q2,q3,q4⟩:=qx h
 refine List.mem_flatMap.mpr ⟨p.1.toNat,List.mem_range.mpr (by omega),List.mem_map.mpr ⟨p.2.toNat,List.mem_range.mpr (by omega),?_⟩⟩
 exact Prod.ext (by show ((p.1.toNat:Nat):Int)=p.1; omega) (by show ((p.2.toNat:Nat):Int)=p.2; omega)
theorem amT {u l:Int}{p:Int × Int} (h:p ∈ rp u l):okP u l p=true:=by
 obtain ⟨i,hi,h2⟩:=List.mem_flatMap.mp h
 obtain ⟨j,hj,rfl⟩:=List.mem_map.mp h2
 have:=List.mem_range.mp hi
 have:=List.mem_range.mp hj
 simp only [okP,Bool.and_eq_true,decide_eq_true_eq]
 exact ⟨⟨⟨by omega,by omega⟩,by omega⟩,by omega⟩
theorem alJ (u l:Int):(rp u l).length=(jZ u l).length:=by rw [afr,List.length_map]
theorem ait {u e l b:Int} (h:okN u e l b=true):(rp u l).length<=48:=by
 obtain ⟨a1,a2,a3,a4,a5,a6,a7,a8,a9,a10⟩:=qz h
 rw [alJ]
 show (zV (u+1).toNat (l+1).toNat).length<=48
 rw [aaN]
 exact Nat.le_trans (Nat.mul_le_mul (show (u+1).toNat<=4 by omega) (show (l+1).toNat<=12 by omega)) (by decide)
noncomputable def bd (p:Int × Int):Int:=p.1+p.2
noncomputable def okQ (e b M n:Int) (p:Int × Int):Bool:=decide ((n - wt e p) % b=0) && (decide (0<=n - wt e p) && decide (n - wt e p<=b*M))
noncomputable def lps (u e l b:Int) (a:Nat) (n:Int):List ((Int × Int) × Int):=((rp u l).filter (okQ e b (qX u e l b a) n)).map fun p=>(p,(n - wt e p) / b)
noncomputable def aiu (q:(Int × Int) × Int):PyData:= .tuple [pr q.1,.int q.2]
theorem agv {u e l b n:Int} (h:okN u e l b=true) (a:Nat) (ha:a < 4):afl [jo u e l b,.int (a:Int),.int n]=some (.list ((lps u e l b a n).map aiu)):=by
 rw [ais h a ha,afr,List.filter_map,List.map_map]
 unfold lps
 rw [List.map_map]
 rfl
theorem afs (u e l b:Int) (a:Nat) (n:Int):(lps u e l b a n).length<=(rp u l).length:=by unfold lps; rw [List.length_map]; exact List.length_filter_le _ _
noncomputable def amU (d:Option Int) (P:Int->Prop):Prop:=(∀ v,d=some v->P v)/\∀ v,P v->∃ m,d=some m/\m<=v
noncomputable def ctr (u e l b:Int) (a:Nat) (kv:KI) (p:Int × Int):List (Int × Int):=(lps u e l b a p.1).map fun q=>(q.2,anB kv p.1+bd q.1)
end Rods
namespace BX
open PySem PySem.Spec L2
open PyProof.Rows hiding St
theorem Qe {ga:PyData->Rho->Option Rho}{F:Rho->Option Out} (Iv:Nat->Rho->Prop):∀ (ds:List PyData) (i:Nat) (ρ:Rho),Iv i ρ->
  (∀ j d ρ,ds[j]?=some d->Iv (i+j) ρ->∃ ρ1 ρ2,ga d ρ=some ρ1/\F ρ1=some (.nx ρ2)/\Iv (i+j+1) ρ2)->∃ ρ',jD ga F ds ρ=some (.nx ρ')/\Iv (i+ds.length) ρ'
 | [],i,ρ,h,_=>⟨ρ,rfl,h⟩
 | d::ds,i,ρ,h,hs=>by
  obtain ⟨ρ1,ρ2,h1,h2,h3⟩:=hs 0 d ρ rfl h
  obtain ⟨ρ',h4,h5⟩:=Qe Iv ds (i+1) ρ2 h3 fun j d ρ hd hi=>by
   have:=hs (j+1) d ρ (by simpa using hd) (by rw [show i+(j+1)=i+1+j by omega]; exact hi)
   rw [show i+1+j+1=i+(j+1)+1 by omega]; exact this
  refine ⟨ρ',?_,by rw [List.length_cons,show i+(ds.length+1)=i+1+ds.length by omega]; exact h5⟩
  simp [jD,h1,h2,h4]
theorem aaY {n j:Nat}{d:PyData} (h:(qV 0 n)[j]?=some d):j < n/\d= .int j:=by
 simp only [qV,List.getElem?_map] at h
 cases hj:(List.range n)[j]? with
 | none=>rw [hj] at h; cases h
 | some k=>
  rw [hj] at h
  obtain ⟨h1,h2⟩:=List.getElem?_eq_some_iff.mp hj
  simp at h1 h2
  subst h2
  simp at h
  exact ⟨h1,h.symm⟩
theorem Qf (n:Nat):(qV 0 n).length=n:=by simp [qV]
end BX
namespace Rods
open PySem L2 BX
open PyProof.Rows hiding St
section
variable {u e l b:Int}
theorem Js (b e:Int) (p:Int × Int) (t:List (Int × Int)):val b e (p::t)=wt e p*b ^ t.length+val b e t:=by
 have key:∀ (t:List (Int × Int)) (acc:Int),t.foldl (fun n p=>n*b+wt e p) acc=acc*b ^ t.length+val b e t:=by
  intro t
  induction t with
  | nil=>intro acc; simp [val]
  | cons q t ih=>
   intro acc
   rw [List.foldl_cons,ih]
   show _=acc*b ^ (q::t).length+(q::t).foldl (fun n p=>n*b+wt e p) 0
   rw [List.foldl_cons,ih,List.length_cons,Int.pow_succ,Int.mul_comm (b ^ t.length) b,←Int.mul_assoc,Int.add_mul,Int.zero_mul,Int.zero_add,Int.add_assoc]
 show (p::t).foldl (fun n p=>n*b+wt e p) 0=_
 rw [List.foldl_cons,key]
 simp
theorem aeF (a:Nat):qX u e l b (a+1)=qX u e l b a*b+wt e (u,l):=by
 unfold qX
 rw [List.replicate_succ']
 exact aim _ _ _ _
noncomputable def BkD (u e l b N:Int) (r j:Nat) (D:KI):Prop:=∀ k,amU (amS D k) fun v=>(j=0 ∨ (0<=k/\k<=qX u e l b (r - j)))/\∃ t:List (Int × Int),t.length=j/\t.all (okP u l)=true/\k*b ^ j+val b e t=N/\bds t=v
theorem agw {r:Nat} (h1:1<=r) (h3:r<=3):ahO [.int ((r:Int) - 1),.int (-1),.int (-1)]=some ((List.range r).map fun (j:Nat)=> .int (((r - (j+1):Nat):Int))):=by
 have:r=1 ∨ r=2 ∨ r=3:=by omega
 rcases this with q | q | q <;> subst q <;> rfl
theorem aiv {r j:Nat}{d:PyData} (h:((List.range r).map fun (j:Nat)=>PyData.int (((r - (j+1):Nat):Int)))[j]?=some d):j < r/\d= .int (((r - (j+1):Nat):Int)):=by
 rw [List.getElem?_map] at h
 cases hj:(List.range r)[j]? with
 | none=>rw [hj] at h; cases h
 | some k=>
  rw [hj] at h
  obtain ⟨h1,h2⟩:=List.getElem?_eq_some_iff.mp hj
  simp at h1 h2
  subst h2
  simp at h
  exact ⟨h1,h.symm⟩
theorem aiw {n:Nat} (hn:n<=1000):Zr [.int (n:Int)]=some (qV 0 n):=by
 have:=aae (j:=(n:Int)) (by omega) (by omega)
 rw [show ((n:Int)).toNat=n by omega] at this
 exact this
noncomputable def CN (u e l b:Int):Nat->Int->Int
 | 0,n=>if n=0 then 1 else 0
 | r+1,n=>((jZ u l).map fun x=>if (n - jI e x) % b=0/\0<=n - jI e x then CN u e l b r ((n - jI e x) / b) else 0).sum
end
end Rods
namespace Rods
open PySem L2 BX
open PyProof.Rows hiding St
theorem aeG (ns:List Int):zG (ns.map PyData.int)=some ns:=by
 have:=aaV (fun x:Int=>x) ns
 simpa using this
end Rods
namespace Rods
open PySem L2 BX
open PyProof.Rows hiding St
section
variable {u e l b:Int}{ps qs:List (Int × Int)}
theorem aaf {xs ys:List PyData} (hx:xs ≠ [] ∨ True) (hl:xs.length+ys.length < 10000):Je (.tuple xs) (.tuple ys)=some (.tuple (xs++ys)):=by
 cases xs with
 | nil=>rfl
 | cons x xs=>
  have hf:few ((x::xs)++ys)=true:=Jc (by rw [List.length_append]; exact hl)
  show (if few ((x::xs)++ys)=true then some (PyData.tuple ((x::xs)++ys)) else none)=_
  rw [if_pos hf]
theorem alK {ns:List Int} (hn:ns.length < 1000000) (h:okN u e l b=true) {at_:Int} (ha:0<=at_) {j:Nat} (hj:j < 4) {x3 x4 x7:Option PyData} (hq:qs.length<=4):
  ∃ p,okP u l p=true/\acB.1 [some (scr ns),some (.int at_),some (jo u e l b),x3,x4,some (jh qs),some (.int (j:Int)),x7]=some (.nx [some (scr ns),some (.int at_),some (jo u e l b),x3,x4,some (jh (qs++[p])),some (.int (j:Int)),some (pr p)]):=by
 obtain ⟨a1,a2,a3,a4,a5,a6,a7,a8,a9,a10⟩:=qz h
 obtain ⟨x,d1,x0,x1⟩:=qO ns hn (at_+1+2*(j:Int)) (u+1) (by omega) (by omega)
 obtain ⟨y,d2,y0,y1⟩:=qO ns hn (at_+2+2*(j:Int)) (l+1) (by omega) (by omega)
 have m1:zm (.int 2) (.int (j:Int))=some (.int (2*(j:Int))):=jR ⟨by omega,by omega⟩
 have f2:few [PyData.int x,.int y]=true:=Jc (by simp)
 have f1:few [PyData.tuple [.int x,.int y]]=true:=Jc (by simp)
 have ad:Je (jh qs) (.tuple [.tuple [.int x,.int y]])=some (jh (qs++[(x,y)])):=by
  have:=aaf (xs:=qs.map pr) (ys:=[pr (x,y)]) (.inr trivial) (by simp; omega)
  rw [show jh (qs++[(x,y)])= .tuple (qs.map pr++[pr (x,y)]) by simp [jh]]
  exact this
 generalize scr ns=S at*
 refine ⟨(x,y),?_,?_⟩
 ·simp only [okP,Bool.and_eq_true,decide_eq_true_eq]
  exact ⟨⟨⟨x0,by omega⟩,y0⟩,by omega⟩
 ·simp only [acB]
  refine (jv (ρ1:=[some S,some (.int at_),some (jo u e l b),x3,x4,some (jh qs),some (.int (j:Int)),some (.tuple [.int x,.int y])]) ?_).trans ?_
  ·simp only [zo,Qx,jT,js,jN,op2,lkp,cst,jG,zzA,zzB,zzC,zzD,zzE,ix0,ix2,m1,add_int,d1,d2,f2,zzM,zzF,zzG]
  simp only [j1,zo,Qx,js,jN,op2,lkp,jG,zzA,zzB,zzC,zzD,zzE,f1,zzM,ad,zzF,zzG,qA]
  rfl
theorem aaZ {ns:List Int} (hn:ns.length < 1000000) (h:okN u e l b=true) {at_:Int} (ha:0<=at_) {mo:Int} (hm1:1<=mo) (hm4:mo<=4):∃ ps,adw [scr ns,.int at_,jo u e l b,.int mo]=some (jh ps)/\okS u l ps=true/\(ps.length:Int)<=mo:=by
 obtain ⟨r,d0,r0,r1⟩:=qO ns hn at_ mo ha (by omega)
 have hr:Zr [.int (1+r)]=some (qV 0 (1+r).toNat):=aae (by omega) (by omega)
 obtain ⟨ρ',hl,hI⟩:=Qe (ga:=jG 6) (F:=acB.1) (fun i ρ=>∃ qs x6 x7,ρ=[some (scr ns),some (.int at_),some (jo u e l b),some (.int mo),some (.int (1+r)),some (jh qs),x6,x7]/\qs.length=i/\qs.all (okP u l)=true) (qV 0 (1+r).toNat) 0
  [some (scr ns),some (.int at_),some (jo u e l b),some (.int mo),some (.int (1+r)),some (jh []),none,none] ⟨[],none,none,rfl,rfl,rfl⟩ (fun j d ρ hd hi=>by
   obtain ⟨hj,rfl⟩:=aaY hd
   obtain ⟨qs,x6,x7,rfl,hlen,hall⟩:=hi
   obtain ⟨p,hp,hb⟩:=alK hn h ha (j:=j) (by omega) (x3:=some (.int mo)) (x4:=some (.int (1+r))) (x7:=x7) (qs:=qs) (by omega)
   exact ⟨_,_,rfl,hb,qs++[p],_,_,rfl,by rw [List.length_append,hlen]; rfl,by rw [List.all_append,hall,List.all_cons,hp]; rfl⟩)
 obtain ⟨qs,x6,x7,rfl,hlen,hall⟩:=hI
 rw [Qf,Nat.zero_add] at hlen
 refine ⟨qs,jQ rfl ?_,aaX (by omega) (by omega) hall,by omega⟩
 generalize scr ns=S at*
 show ajT.1 [some S,some (.int at_),some (jo u e l b),some (.int mo),none,none,none,none]=_
 simp only [ajT]
 refine (jv (ρ1:=[some S,some (.int at_),some (jo u e l b),some (.int mo),some (.int (1+r)),none,none,none]) ?_).trans ?_
 ·simp only [zo,jT,js,jN,op2,lkp,cst,jG,zzA,zzB,zzC,zzD,zzE,d0,add_int,zzF,zzG]
 refine (jv (ρ1:=[some S,some (.int at_),some (jo u e l b),some (.int mo),some (.int (1+r)),some (jh []),none,none]) rfl).trans ?_
 refine (jv (ρ1:=[some S,some (.int at_),some (jo u e l b),some (.int mo),some (.int (1+r)),some (jh qs),x6,x7]) ?_).trans ?_
 ·show (Option.bind (Option.bind _ Zr) _)=_
  simp only [js,jN,lkp,zzA,zzB,zzC,zzD,zzE,hr]
  exact hl
 rfl
theorem acN (i j:Int):dNe (.int i) (.int j)=some (.bool (!decide (i=j))):=by
 have:(i == j)=decide (i=j):=rfl
 simp only [dNe,Jb,JK,and_self,zzM,this]
theorem alL (h:okN u e l b=true) (hp:ps.all (okP u l)=true):val b e ps+2<=2*16 ^ ps.length:=by
 obtain ⟨a1,a2,a3,a4,a5,a6,a7,a8,a9,a10⟩:=qz h
 have key:∀ (ps:List (Int × Int)) (acc:Int),ps.all (okP u l)=true->0<=acc->ps.foldl (fun n p=>n*b+wt e p) acc+2<=(acc+2)*16 ^ ps.length:=by
  intro ps
  induction ps with
  | nil=>intro acc _ h; simp
  | cons p ps ih=>
   intro acc hp h0
   rw [List.all_cons,Bool.and_eq_true] at hp
   have w0:=afo a3 hp.1
   have w1:=ain a3 a4 a2 a7 hp.1
   have ha:0<=acc*b:=Int.mul_nonneg h0 (by omega)
   have hb2:acc*b<=acc*16:=Int.mul_le_mul_of_nonneg_left a9 h0
   refine Int.le_trans (ih (acc*b+wt e p) hp.2 (by omega)) ?_
   rw [List.length_cons,Int.pow_succ,Int.mul_comm (16 ^ ps.length) 16,←Int.mul_assoc]
   exact Int.mul_le_mul_of_nonneg_right (by omega) (Int.le_of_lt (ZI (by decide) _))
 have:=key ps 0 hp (by omega)
 simpa [val] using this
end
end Rods
namespace Rods
open PySem L2 BX
open PyProof.Rows hiding St
theorem amV (ds:List PyData) (k:Nat):abf ds none (some (k:Int))=ds.take k:=by
 unfold abf
 rw [HT.sIx_none,HT.sIx_nat,List.drop_zero,Nat.sub_zero]
 by_cases h:k<=ds.length
 ·rw [Nat.min_eq_left h]
 ·rw [Nat.min_eq_right (by omega),List.take_of_length_le (by omega),List.take_of_length_le (by omega)]
theorem aft (ds:List PyData) (k:Nat):abf ds (some (k:Int)) none=ds.drop k:=by
 unfold abf
 rw [HT.sIx_none,HT.sIx_nat]
 by_cases h:k<=ds.length
 ·rw [Nat.min_eq_left h,List.take_of_length_le (by rw [List.length_drop]; omega)]
 ·rw [Nat.min_eq_right (by omega),List.drop_of_length_le (by omega),List.drop_of_length_le (by omega),List.take_nil]
end Rods
namespace Rods
open PySem L2 BX
open PyProof.Rows hiding St
section
variable {u e l b:Int}{ps qs:List (Int × Int)}
end
end Rods
namespace Rods
open PySem L2 BX
open PyProof.Rows hiding St
noncomputable def whB (a b:Int):PyData->Bool
 | .int i=>decide (a<=i) && decide (i<=b)
 | _=>false
theorem ZS (d:PyData) (hd:noD d=true) (a b:Int):jO [d,.int a,.int b]=some (.bool (whB a b d)):=by
 cases d with
 | int i=>exact j2 i a b
 | dict k=>simp [noD] at hd
 | _=>simp [jO,jB,Q2,jX,j1,ifS,orB,tst,lkp,zH,tyn,asB,zQ,chn,zi,qJ,qA,whB,cst]
noncomputable def abk (u l:Int):PyData->Bool
 | .tuple [x,y]=>whB 0 u x && whB 0 l y
 | _=>false
theorem aix {ds:List PyData} (h:noDs ds=true):∀ d ∈ ds,noD d=true:=by
 induction ds with
 | nil=>intro d hd; cases hd
 | cons x xs ih=>
  have h':noD x=true/\noDs xs=true:=by simpa [noDs] using h
  intro d hd
  rcases List.mem_cons.mp hd with rfl | q
  ·exact h'.1
  ·exact ih h'.2 d q
end Rods
namespace Rods
open PySem L2 BX
open PyProof.Rows hiding St
section
variable {u e l b:Int}
theorem agx (d:PyData) (hd:noD d=true) (h:∀ x y,d ≠ .tuple [x,y]):Jf [jo u e l b,d]=some (.bool false):=by
 cases d with
 | dict k=>simp [noD] at hd
 | tuple ds=>
  have hl:¬ (ds.length:Int)=2:=fun z=>by
   have z':ds.length=2:=by omega
   match ds,z' with
   | [x,y],_=>exact h x y rfl
  simp [Jf,jB,ZA,jX,j1,ifS,orB,zQ,tst,zH,tyn,asB,lkp,op2,jT,js,jN,q0,cst,dNe,Jb,JK,qA,qJ,hl]
 | _=>simp [Jf,jB,ZA,jX,j1,ifS,orB,zQ,tst,zH,tyn,asB,lkp,op2,jT,js,jN,q0,cst,dNe,Jb,JK,qA,qJ]
theorem ab0 (d:PyData) (hd:noD d=true):Jf [jo u e l b,d]=some (.bool (abk u l d)):=by
 by_cases h:∃ x y,d= .tuple [x,y]
 ·obtain ⟨x,y,rfl⟩:=h
  have hx:noD x=true/\noD y=true:=by simpa [noD,noDs] using hd
  have w1:=ZS x hx.1 0 u
  have w2:=ZS y hx.2 0 l
  cases c1:whB 0 u x <;> rw [c1] at w1 <;> simp [Jf,jB,ZA,jX,j1,ifS,orB,zQ,tst,zH,tyn,asB,lkp,op2,jT,js,jN,q0,cst,dNe,Jb,JK,qA,qJ,aaG,jo,dIx,atI,ixN,w1,w2,abk,c1]
 ·rw [agx d hd fun x y z=>h ⟨x,y,z⟩]
  congr 2
  unfold abk
  split
  ·exact absurd ⟨_,_,rfl⟩ h
  ·rfl
noncomputable def acO (u l:Int):PyData->Bool
 | .tuple ds=>decide (1<=ds.length) && decide (ds.length<=4) && ds.all (abk u l)
 | _=>false
theorem agy (hm:Zz [jo u e l b]=some .none) (d:PyData) (hd:noD d=true):ZC [jo u e l b,d]=some (.bool (acO u l d)):=by
 refine jQ rfl ?_
 show ZB.1 [some (jo u e l b),some d]=_
 simp only [ZB]
 refine (jv (ρ1:=[some (jo u e l b),some d]) ?_).trans ?_
 ·simp only [ace,jT,js,jN,lkp,zzA,zzB,zzC,zzD,zzE,hm]
 cases d with
 | dict k=>simp [noD] at hd
 | tuple ds=>
  by_cases h1:1<=ds.length
  ·by_cases h4:ds.length<=4
   ·have hf:few ds=true:=Jc (by omega)
    have c1:zi (fun i j=>decide (i<=j)) (.int 1) (.int (ds.length:Int))=some (.bool true):=by
     show some (PyData.bool (decide ((1:Int)<=(ds.length:Int))))=_
     rw [decide_eq_true (by omega)]
    have c2:zi (fun i j=>decide (i<=j)) (.int (ds.length:Int)) (.int 4)=some (.bool true):=by
     show some (PyData.bool (decide ((ds.length:Int)<=4)))=_
     rw [decide_eq_true (by omega)]
    refine (jv (ρ1:=[some (jo u e l b),some (.tuple ds)]) ?_).trans ?_
    ·simp [ifS,orB,zQ,tst,zH,tyn,asB,lkp,chn,jT,js,jN,q0,cst,qA,c1,c2]
    simp only [j1,qJ,jT,js,jN,qK,itT,lkp,Zq,zzA,zzB,zzC,zzD,zzE,hf,zzM,JV,List.map_cons,List.map_nil,zzH]
    rw [Qk (fun d=> .bool (abk u l d))]
    ·have:bls (ds.map fun d=>PyData.bool (abk u l d))=some (ds.map (abk u l)):=aad (abk u l) _
     simp only [zzE,zzD,ahn,this,acO,decide_eq_true h1,decide_eq_true h4,Bool.true_and,List.all_map,Function.comp_def,id]
    ·intro d hd'
     simp [jT,js,jN,lkp,ab0 (e:=e) (b:=b) d (aix (by simpa [noD] using hd) d hd')]
   ·have c1:zi (fun i j=>decide (i<=j)) (.int 1) (.int (ds.length:Int))=some (.bool true):=by
     show some (PyData.bool (decide ((1:Int)<=(ds.length:Int))))=_
     rw [decide_eq_true (by omega)]
    have c2:zi (fun i j=>decide (i<=j)) (.int (ds.length:Int)) (.int 4)=some (.bool false):=by
     show some (PyData.bool (decide ((ds.length:Int)<=4)))=_
     rw [decide_eq_false (by omega)]
    simp [j1,ifS,orB,zQ,tst,zH,tyn,asB,lkp,chn,jT,js,jN,q0,cst,qA,c1,c2,qJ,acO,h4]
  ·have c1:zi (fun i j=>decide (i<=j)) (.int 1) (.int (ds.length:Int))=some (.bool false):=by
    show some (PyData.bool (decide ((1:Int)<=(ds.length:Int))))=_
    rw [decide_eq_false (by omega)]
   simp [j1,ifS,orB,zQ,tst,zH,tyn,asB,lkp,chn,jT,js,jN,q0,cst,qA,c1,qJ,acO,h1]
 | _=>simp [j1,ifS,orB,zQ,tst,zH,tyn,asB,lkp,chn,jT,js,jN,cst,qA,qJ,acO]
theorem aeH (hm:Zz [jo u e l b]=some .none) (d:PyData) (hd:noD d=true) (hs:acO u l d=true):jV [jo u e l b,d]=some .none:=by
 have g:=agy (e:=e) hm d hd
 rw [hs] at g
 simp [jV,jB,Z5,jX,j1,ifS,zQ,tst,asB,jT,js,jN,lkp,g,qA]
end
end Rods
namespace Rods
open PySem L2 BX
open PyProof.Rows hiding St
theorem afu {u l:Int} (p:Int × Int):abk u l (pr p)=okP u l p:=by
 simp [abk,pr,whB,okP,Bool.and_assoc]
theorem agz {u l:Int} (ps:List (Int × Int)):acO u l (jh ps)=okS u l ps:=by
 simp only [acO,jh,okS,List.length_map,List.all_map]
 congr 2
 funext p
 exact afu p
theorem afv:∀ ps:List (Int × Int),noDs (ps.map pr)=true
 | []=>rfl
 | p::ps=>by simp [noDs,noD,pr,afv ps]
theorem adG (ps:List (Int × Int)):noD (jh ps)=true:=by
 simp [noD,jh,afv]
noncomputable def anC (i m:Nat):List (Int × Int):=(List.range m).map fun (j:Nat)=>((i:Int),(j:Int))
noncomputable def amW (n m:Nat):List (Int × Int):=(List.range n).flatMap fun (i:Nat)=>anC i m
end Rods
namespace Rods
open PySem L2 BX
open PyProof.Rows hiding St
section
variable {u e l b:Int}
noncomputable def anD (u e l w:Int):List (Int × Int):=(amW (u+1).toNat (l+1).toNat).filter fun p=>wt e p == w
end
end Rods
namespace Rods
open PySem L2 BX
open PyProof.Rows hiding St
theorem agA {ds:List PyData} (h:ds.length < 50):few ds=true:=Jc (by omega)
theorem fw1 {a:PyData}:few [a]=true:=agA (by simp)
theorem fw2 {a b:PyData}:few [a,b]=true:=agA (by simp)
theorem fw3 {a b c:PyData}:few [a,b,c]=true:=agA (by simp)
theorem ng1:ahw (.int 1)=some (.int (-1)):=rfl
noncomputable def shl (n:Nat) (d:PyData):Prop:=d.canLay0=true/\d.depth<=n
theorem aag {ds:List PyData}:PyData.canLayAll0 ds=true ↔ ∀ d ∈ ds,d.canLay0=true:=by
 induction ds with
 | nil=>simp [PyData.canLayAll0]
 | cons x xs ih=>simp [PyData.canLayAll0,ih]
theorem aah {ds:List PyData}{n:Nat}:PyData.depthAll ds<=n ↔ ∀ d ∈ ds,d.depth<=n:=by
 induction ds with
 | nil=>simp [PyData.depthAll]
 | cons x xs ih=>simp only [PyData.depthAll,List.mem_cons,forall_eq_or_imp,←ih]; omega
theorem afw {n:Nat}{ds:List PyData}:shl (n+1) (.tuple ds) ↔ ∀ d ∈ ds,shl n d:=by
 constructor
 ·rintro ⟨h1,h2⟩ d hd
  refine ⟨aag.mp (by simpa [PyData.canLay0] using h1) d hd,aah.mp ?_ d hd⟩
  simp only [PyData.depth] at h2; omega
 ·intro h
  refine ⟨by simp only [PyData.canLay0]; exact aag.mpr fun d hd=>(h d hd).1,?_⟩
  have:=aah.mpr fun d hd=>(h d hd).2
  simp only [PyData.depth]; omega
theorem aj2 {n:Nat}{ds:List PyData}:shl (n+1) (.list ds) ↔ ∀ d ∈ ds,shl n d:=by
 constructor
 ·rintro ⟨h1,h2⟩ d hd
  refine ⟨aag.mp (by simpa [PyData.canLay0] using h1) d hd,aah.mp ?_ d hd⟩
  simp only [PyData.depth] at h2; omega
 ·intro h
  refine ⟨by simp only [PyData.canLay0]; exact aag.mpr fun d hd=>(h d hd).1,?_⟩
  have:=aah.mpr fun d hd=>(h d hd).2
  simp only [PyData.depth]; omega
theorem alM {n:Nat}{d:PyData} (h:shl n d) (hn:n < 30):okD d=true:=by
 unfold okD
 rw [h.1,decide_eq_true (show d.depth < 30 by have:=h.2; omega)]; rfl
theorem aai (i:Int):shl 1 (.int i):=⟨rfl,by simp [PyData.depth]⟩
theorem afx {ps:List (Int × Int)}{i:Nat}{p:Int × Int} (h4:ps.length<=4) (hd:ps[i]?=some p):dIx (jh ps) (.int (i:Int))=some (pr p):=by
 have hi:i < ps.length:=(List.getElem?_eq_some_iff.mp hd).1
 show (if (ps.map pr).length < 1000000 then atI (ps.map pr) (i:Int) else none)=_
 rw [if_pos (by rw [List.length_map]; omega)]
 unfold atI
 rw [aig (by omega) (by rw [List.length_map]; simpa using hi),zzD,List.getElem?_map]
 rw [show ((i:Int)).toNat=i by simp,hd]; rfl
end Rods
namespace Rods
open PySem L2 BX
open PyProof.Rows hiding St
section
variable {m s t:PyData}{c:Str}
theorem aiy {d:PyData} (g:jV [m,s]=some .none) (k:qS [m,s,t]=some (.bool true)) (bm:qm [s,t]=some d):Qa [m,s,t]=some d:=by
 refine jQ rfl ?_
 show acF.1 [some m,some s,some t]=_
 dsimp? [acF,g,k,bm]
theorem agB {d:PyData} (g:jV [m,s]=some .none) (k:qS [m,s,t]=some d):aac [m,s,t]=some d:=by
 refine jQ rfl ?_
 show aab.1 [some m,some s,some t]=_
 dsimp? [aab,g,k]
end
end Rods
namespace Rods
open PySem L2 BX
open PyProof.Rows hiding St
noncomputable def shP (p:Int × Int) (k:Bool) (c:Int):Int × Int:=if k=true then (p.1,p.2+c) else (p.1+c,p.2)
theorem anE {x y z:PyData}:dIx (.tuple [x,y,z]) (.int 0)=some x:=rfl
theorem anF {x y z:PyData}:dIx (.tuple [x,y,z]) (.int 1)=some y:=rfl
theorem anG {x y z:PyData}:dIx (.tuple [x,y,z]) (.int 2)=some z:=rfl
theorem lnt {x y z:PyData}:q0 [.tuple [x,y,z]]=some (.int 3):=rfl
theorem itt {xs:List PyData}:QE "tuple" (.tuple xs)=some (.bool true):=rfl
theorem aj3:dNe (.int 3) (.int 3)=some (.bool false):=by kernel_rfl
theorem amX (k:Bool):dIn true (qr k) (.tuple [.str "upper",.str "lower"])=some (.bool false):=by cases k <;> kernel_rfl
theorem aj4 {c:Int} (hc:c=1 ∨ c=-1):jO [.int c,.int (-1),.int 1]=some (.bool true)/\dNe (.int c) (.int 0)=some (.bool true)/\dIn true (.int c) (.tuple [.int 1,.int (-1)])=some (.bool false)/\QE "bool" (.int c)=some (.bool false):=by
 rcases hc with rfl | rfl <;> exact ⟨by kernel_rfl,by kernel_rfl,by kernel_rfl,rfl⟩
end Rods
namespace Rods
open PySem L2 BX
open PyProof.Rows hiding St
section
variable {u e l b:Int}{ps:List (Int × Int)}
theorem aiz (x y z:PyData) {X Y Z N:Bool} (ln:q0 [jh ps]=some (.int (ps.length:Int))) (wx:jO [x,.int 0,.int ((ps.length:Int) - 1)]=some (.bool X)) (iy:X=true->dIn true y (.tuple [.str "upper",.str "lower"])=some (.bool !Y)) (wz:X=true->Y=true->jO [z,.int (-1),.int 1]=some (.bool Z)) (nz:X=true->Y=true->Z=true->dNe z (.int 0)=some (.bool N)):zY [jh ps,.tuple [x,y,z]]=some (.bool (X && Y && Z && N)):=by
 have sb:QD (.int (ps.length:Int)) (.int 1)=some (.int ((ps.length:Int) - 1)):=rfl
 have e0:=anE (x:=x) (y:=y) (z:=z)
 have e1:=anF (x:=x) (y:=y) (z:=z)
 have e2:=anG (x:=x) (y:=y) (z:=z)
 have e3:=lnt (x:=x) (y:=y) (z:=z)
 have e4:=itt (xs:=[x,y,z])
 generalize PyData.tuple [x,y,z]=D at*
 generalize (ps.length:Int)=n at*
 refine jQ rfl ?_
 show qB.1 [some (jh ps),some D]=_
 cases X with
 | false=>dsimp? [qB,e0,e3,e4,aj3,ln,sb,wx,Bool.false_and]
 | true=>
  have iy:=iy rfl
  cases Y with
  | false=>dsimp? [qB,e0,e1,e3,e4,aj3,ln,sb,wx,iy,Bool.false_and,Bool.true_and]
  | true=>
   have wz:=wz rfl rfl
   cases Z with
   | false=>dsimp? [qB,aaG,e0,e1,e2,e3,e4,aj3,ln,sb,wx,iy,wz,ng1,Bool.false_and,Bool.true_and]
   | true=>
    have nz:=nz rfl rfl rfl
    dsimp? [qB,aaG,e0,e1,e2,e3,e4,aj3,ln,sb,wx,iy,wz,nz,ng1,Bool.false_and,Bool.true_and]
theorem anH {r:Nat} (hr:r < ps.length):jO [.int (r:Int),.int 0,.int ((ps.length:Int) - 1)]=some (.bool true):=by
 rw [j2,decide_eq_true (by omega),decide_eq_true (by omega)]; rfl
end
end Rods
namespace Rods
open PySem L2 BX
open PyProof.Rows hiding St
theorem ab1 (p:Int × Int) (k:Bool) (c:Int):Z9 [pr p,qr k,.int c]=some (pr (shP p k c)):=by
 have i0:dIx (pr p) (.int 0)=some (.int p.1):=rfl
 have i1:dIx (pr p) (.int 1)=some (.int p.2):=rfl
 have a1:Je (.int p.1) (.int c)=some (.int (p.1+c)):=rfl
 have a2:Je (.int p.2) (.int c)=some (.int (p.2+c)):=rfl
 refine jQ rfl ?_
 show Q5.1 [some (pr p),some (qr k),some (.int c)]=_
 cases k with
 | false=>
  have q:dEq (qr false) (.str "upper")=some (.bool true):=by kernel_rfl
  dsimp? [Q5,q,i0,i1,a1,fw2]
  rfl
 | true=>
  have q:dEq (qr true) (.str "upper")=some (.bool false):=by kernel_rfl
  dsimp? [Q5,q,i0,i1,a2,fw2]
  rfl
theorem ab2 {α:Type}:∀ (ps:List α) (r:Nat) (q:α),r < ps.length->ps.set r q=ps.take r++[q]++ps.drop (r+1)
 | [],r,q,h=>by simp at h
 | p::ps,0,q,h=>rfl
 | p::ps,r+1,q,h=>by
  simp only [zzF,List.take_succ_cons,List.drop_succ_cons,List.cons_append]
  rw [ab2 ps r q (by simpa using h)]
end Rods
namespace Rods
open PySem L2 BX
open PyProof.Rows hiding St
section
variable {u e l b:Int}{ps:List (Int × Int)}
theorem anI {r:Nat} (hr:r < ps.length) (h4:ps.length<=4) (q:Int × Int):∃ A1 A2 A3,abh (jh ps) none (some (r:Int))=some A1/\Je A1 (.tuple [pr q])=some A2/\abh (jh ps) (some ((r:Int)+1)) none=some A3/\Je A2 A3=some (jh (ps.set r q)):=by
 refine ⟨.tuple ((ps.map pr).take r),.tuple ((ps.map pr).take r++[pr q]),.tuple ((ps.map pr).drop (r+1)),?_,?_,?_,?_⟩
 ·show some (PyData.tuple (abf _ none (some (r:Int))))=_
  rw [amV]
 ·exact aaf (.inr trivial) (by rw [List.length_take,List.length_map]; simp; omega)
 ·show some (PyData.tuple (abf _ (some ((r:Int)+1)) none))=_
  rw [show (r:Int)+1=((r+1:Nat):Int) by omega,aft]
 ·rw [aaf (.inr trivial) (by rw [List.length_append,List.length_take,List.length_drop,List.length_map]; simp only [List.length_cons,List.length_nil]; omega),ab2 ps r q hr]
  show some (PyData.tuple _)=some (PyData.tuple (List.map pr _))
  rw [List.map_append,List.map_append,List.map_take,List.map_drop]; rfl
theorem aj5 (hs:okS u l ps=true) (r:Nat) {q:Int × Int} (hq:okP u l q=true):okS u l (ps.set r q)=true:=by
 obtain ⟨h1,h4,hp⟩:=jS hs
 refine aaX (by rw [List.length_set]; exact h1) (by rw [List.length_set]; exact h4) (List.all_eq_true.mpr fun x hx=>?_)
 rcases List.mem_or_eq_of_mem_set hx with z | rfl
 ·exact List.all_eq_true.mp hp x z
 ·exact hq
end
end Rods
namespace Rods
open PySem L2 BX
open PyProof.Rows hiding St
structure Th (u e l b:Int) (ps:List (Int × Int)) (d:PyData) (o:Option (List (Int × Int))):Prop where
 cm:qS [jo u e l b,jh ps,d]=some (.bool o.isSome)
 bm:∀ qs,o=some qs->qm [jh ps,d]=some (jh qs)/\okS u l qs=true
end Rods
namespace Rods
open PySem L2 BX
open PyProof.Rows hiding St
section
variable {u e l b:Int}{ps:List (Int × Int)}
theorem Qg (hs:okS u l ps=true) {r:Nat}{p:Int × Int} (hp:ps[r]?=some p) (k:Bool) {c:Int} (hc:c=1 ∨ c=-1):Th u e l b ps (mv (r:Int) k c) (if okP u l (shP p k c)=true then some (ps.set r (shP p k c)) else none):=by
 obtain ⟨h1,h4,hall⟩:=jS hs
 obtain ⟨hr,hpe⟩:=List.getElem?_eq_some_iff.mp hp
 have hpo:okP u l p=true:=List.all_eq_true.mp hall p (by rw [←hpe]; exact List.getElem_mem _)
 have hpo':0<=p.1/\p.1<=u/\0<=p.2/\p.2<=l:=by simp only [okP,Bool.and_eq_true,decide_eq_true_eq] at hpo; omega
 obtain ⟨f1,f2,f3,f4⟩:=aj4 hc
 have ixT:=afx h4 hp
 have k1:=aiz (X:=true) (Y:=true) (Z:=true) (N:=true) (.int (r:Int)) (qr k) (.int c) (zP ps) (anH hr) (fun _=>amX k) (fun _ _=>f1) (fun _ _ _=>f2)
 obtain ⟨A1,A2,A3,s1,s2,s3,s4⟩:=anI hr h4 (shP p k c)
 have gr:=ab0 (u:=u) (e:=e) (l:=l) (b:=b) (pr (shP p k c)) rfl
 rw [afu] at gr
 refine ⟨?_,fun qs z=>?_⟩
 ·have e0:dIx (mv (r:Int) k c) (.int 0)=some (.int (r:Int)):=rfl
  have e1:dIx (mv (r:Int) k c) (.int 1)=some (qr k):=rfl
  have e2:dIx (mv (r:Int) k c) (.int 2)=some (.int c):=rfl
  have pu:=ab1 p k c
  have k1':zY [jh ps,mv (r:Int) k c]=some (.bool true):=k1
  have io:(if okP u l (shP p k c)=true then some (ps.set r (shP p k c)) else none).isSome=okP u l (shP p k c):=by split <;> simp_all
  rw [io]
  generalize mv (r:Int) k c=D at*
  generalize okP u l (shP p k c)=OK at*
  generalize pr (shP p k c)=Q at*
  refine jQ rfl ?_
  show Q7.1 [some (jo u e l b),some (jh ps),some D]=_
  dsimp? [Q7,k1',e0,e1,e2,ixT,pu,gr]
 ·by_cases ho:okP u l (shP p k c)=true
  ·rw [if_pos ho] at z
   cases z
   refine ⟨?_,aj5 hs r ho⟩
   have e0:dIx (mv (r:Int) k c) (.int 0)=some (.int (r:Int)):=rfl
   have e1:dIx (mv (r:Int) k c) (.int 1)=some (qr k):=rfl
   have e2:dIx (mv (r:Int) k c) (.int 2)=some (.int c):=rfl
   have a1:Je (.int (r:Int)) (.int 1)=some (.int ((r:Int)+1)):=rfl
   have pu:=ab1 p k c
   generalize mv (r:Int) k c=D at*
   generalize pr (shP p k c)=Q at*
   generalize jh (ps.set r (shP p k c))=R at*
   refine jQ rfl ?_
   show Ja.1 [some (jh ps),some D,none]=_
   dsimp? [Ja,abL,JC,inI,e0,e1,e2,a1,ixT,pu,s1,fw1,s2,s3,s4]
  ·rw [if_neg ho] at z; cases z
theorem ZT (H:zR=true) (h:okN u e l b=true) (hs:okS u l ps=true):jV [jo u e l b,jh ps]=some .none/\True:=by
 have hM:=amR H h
 have hb:acO u l (jh ps)=true:=by rw [agz]; exact hs
 exact ⟨aeH (abV hM) _ (adG ps) hb,trivial⟩
theorem aa0 (H:zR=true) (h:okN u e l b=true) {ps qs:List (Int × Int)}{d:PyData} (hs:okS u l ps=true) (t:Th u e l b ps d (some qs)):Qa [jo u e l b,jh ps,d]=some (jh qs):=
 aiy (ZT H h hs).1 t.cm (t.bm _ rfl).1
end
end Rods
namespace Rods
open PySem L2 BX
open PyProof.Rows hiding St
noncomputable def tM (M T d:PyData):Bool:=match qS [M,T,d] with
 | some (.bool x)=>x
 | _=>false
noncomputable def c4 (r:Nat):List PyData:=[mv (r:Int) false 1,mv (r:Int) false (-1),mv (r:Int) true 1,mv (r:Int) true (-1)]
noncomputable def aiA (M T:PyData) (r:Nat):List PyData:=(c4 r).filter (tM M T)
noncomputable def ZK (M T:PyData) (n:Nat):List PyData:=(List.range n).flatMap (aiA M T)
theorem ab3 (M T:PyData) (k:Nat):ZK M T (k+1)=ZK M T k++aiA M T k:=by
 unfold ZK
 rw [List.range_succ,List.flatMap_append]
 simp
theorem aiB (M T:PyData) (r:Nat):(aiA M T r).length<=4:=List.length_filter_le _ _
theorem aa1 (M T:PyData):∀ n:Nat,(ZK M T n).length<=4*n
 | 0=>by simp [ZK]
 | n+1=>by
  rw [ab3,List.length_append]
  have:=aiB M T n
  have:=aa1 M T n
  omega
theorem afy {u e l b:Int}{ps:List (Int × Int)}{d:PyData}{o:Option (List (Int × Int))} (t:Th u e l b ps d o):tM (jo u e l b) (jh ps) d=o.isSome:=by
 unfold tM
 rw [t.cm]
end Rods
namespace Rods
open PySem L2 BX
open PyProof.Rows hiding St
section
variable {u e l b:Int}{ps:List (Int × Int)}
theorem akx (hs:okS u l ps=true) {r:Nat} (hr:r < ps.length):∀ d ∈ c4 r,∃ o,Th u e l b ps d o:=fun d hd=>by
 have hp:ps[r]?=some ps[r]:=List.getElem?_eq_getElem hr
 simp only [c4,List.mem_cons,List.not_mem_nil,or_false] at hd
 rcases hd with rfl | rfl | rfl | rfl
 ·exact ⟨_,Qg hs hp false (.inl rfl)⟩
 ·exact ⟨_,Qg hs hp false (.inr rfl)⟩
 ·exact ⟨_,Qg hs hp true (.inl rfl)⟩
 ·exact ⟨_,Qg hs hp true (.inr rfl)⟩
theorem adH (hs:okS u l ps=true) {n:Nat} (hn:n<=ps.length) {d:PyData} (hd:d ∈ ZK (jo u e l b) (jh ps) n):(∃ qs,Th u e l b ps d (some qs))/\noL d=true/\shl 2 d:=by
 obtain ⟨r,hr,hm⟩:=List.mem_flatMap.mp hd
 obtain ⟨h1,h2⟩:=List.mem_filter.mp hm
 obtain ⟨o,t⟩:=akx (e:=e) (b:=b) hs (show r < ps.length by have:=List.mem_range.mp hr; omega) d h1
 rw [afy t] at h2
 refine ⟨?_,?_⟩
 ·cases o with
  | none=>cases h2
  | some qs=>exact ⟨qs,t⟩
 ·simp only [c4,List.mem_cons,List.not_mem_nil,or_false] at h1
  rcases h1 with rfl | rfl | rfl | rfl
  all_goals exact ⟨by kernel_rfl,afw.mpr fun x hx=>by
   simp only [List.mem_cons,List.not_mem_nil,or_false] at hx
   rcases hx with rfl | rfl | rfl
   ·exact aai _
   ·exact ⟨by kernel_rfl,by simp [qr,PyData.depth]⟩
   ·exact aai _⟩
theorem afz (hs:okS u l ps=true) {r:Nat} (hr:r < ps.length) {F:List PyData} (hF:F.length < 1000) (k:Bool) {x:Option PyData}:∃ y,QI.1 [some (jo u e l b),some (jh ps),some (.list F),some (.int (r:Int)),some (qr k),x]=some (.nx [some (jo u e l b),some (jh ps),some (.list (F++[mv (r:Int) k 1,mv (r:Int) k (-1)].filter (tM (jo u e l b) (jh ps)))),some (.int (r:Int)),some (qr k),y]):=by
 refine ⟨some (.list [mv (r:Int) k 1,mv (r:Int) k (-1)]),?_⟩
 have hin:∀ d ∈ [mv (r:Int) k 1,mv (r:Int) k (-1)],d ∈ c4 r:=fun d hd=>by
  simp only [List.mem_cons,List.not_mem_nil,or_false] at hd
  cases k <;> rcases hd with rfl | rfl <;> simp [c4]
 have cp:=QQ (ft:=tst (jT qS (js (lkp 1) (js (lkp 2) (js (lkp 0) jN))))) (fe:=lkp 0) (i:=0) (tM (jo u e l b) (jh ps)) id [mv (r:Int) k 1,mv (r:Int) k (-1)] [none,some (jo u e l b),some (jh ps)] (fun d hd=>by
   obtain ⟨o,t⟩:=akx (e:=e) (b:=b) hs hr d (hin d hd)
   have cm:=t.cm
   rw [afy t]
   dsimp? [cm]) (fun d hd _=>by dsimp? [id])
 rw [List.map_id] at cp
 have w1:jW (jG 0) Z0 (Qx (js (lkp 1) (js (lkp 2) (js (lkp 0) jN)))) [.int 1,.int (-1)] [none,some (.int (r:Int)),some (qr k)]=some [mv (r:Int) k 1,mv (r:Int) k (-1)]:=by
  dsimp? [jW,Z0,fw3]
  rfl
 have el:ahQ (some (.list F)) (some (.list ([mv (r:Int) k 1,mv (r:Int) k (-1)].filter (tM (jo u e l b) (jh ps)))))=some (.list (F++[mv (r:Int) k 1,mv (r:Int) k (-1)].filter (tM (jo u e l b) (jh ps)))):=by
  have hl:([mv (r:Int) k 1,mv (r:Int) k (-1)].filter (tM (jo u e l b) (jh ps))).length<=2:=List.length_filter_le _ _
  have hn:noLs ([mv (r:Int) k 1,mv (r:Int) k (-1)].filter (tM (jo u e l b) (jh ps)))=true:=JZ fun d hd=>by
   have:=(List.mem_filter.mp hd).1
   simp only [List.mem_cons,List.not_mem_nil,or_false] at this
   rcases this with rfl | rfl <;> rfl
  show (if _/\_ then _ else _)=_
  rw [if_pos ⟨hn,by omega⟩]
 have iw:items (.tuple [.int 1,.int (-1)])=some [.int 1,.int (-1)]:=rfl
 simp only [QI]
 refine (jv (ρ1:=[some (jo u e l b),some (jh ps),some (.list F),some (.int (r:Int)),some (qr k),some (.list [mv (r:Int) k 1,mv (r:Int) k (-1)])]) ?_).trans ?_
 ·dsimp? [brw,hid,okB,QU,abe,Z1,qK,itS,iw,JV,List.map_cons,List.map_nil,fw2]
  try simp only [j1,ifS,ifD,ifX,aba,orB,zQ,tst,op2,chn,jT,Qx,JU,js,jN,lkp,cst,qJ,ace,zo,jG,qA,nxX,orX,als,ahh,asB,zzA,zzB,zzC,zzD,zzH,zzE,zzI,zzF,zzG,zzJ,zzK,zzL,zzM,zzN] at w1
  dsimp? [w1]
 have it:items (.list [mv (r:Int) k 1,mv (r:Int) k (-1)])=some [mv (r:Int) k 1,mv (r:Int) k (-1)]:=rfl
 have f2:few [mv (r:Int) k 1,mv (r:Int) k (-1)]=true:=fw2
 generalize [mv (r:Int) k 1,mv (r:Int) k (-1)]=TWO at*
 generalize PyData.list TWO=C at*
 try simp only [j1,ifS,ifD,ifX,aba,orB,zQ,tst,op2,chn,jT,Qx,JU,js,jN,lkp,cst,qJ,ace,zo,jG,qA,nxX,orX,als,ahh,asB,zzA,zzB,zzC,zzD,zzH,zzE,zzI,zzF,zzG,zzJ,zzK,zzL,zzM,zzN] at cp
 dsimp? [brw,hid,okB,QU,abe,Z1,qK,itS,it,JV,List.map_cons,List.map_nil,f2,cp,el]
theorem aj6 (hs:okS u l ps=true) {r:Nat} (hr:r < ps.length) {F:List PyData} (hF:F.length < 900) {x4 x5:Option PyData}:∃ y4 y5,zL.1 [some (jo u e l b),some (jh ps),some (.list F),some (.int (r:Int)),x4,x5]=some (.nx [some (jo u e l b),some (jh ps),some (.list (F++aiA (jo u e l b) (jh ps) r)),some (.int (r:Int)),y4,y5]):=by
 obtain ⟨y,s1⟩:=afz (e:=e) (b:=b) hs hr (F:=F) (by omega) false (x:=x5)
 have hl:([mv (r:Int) false 1,mv (r:Int) false (-1)].filter (tM (jo u e l b) (jh ps))).length<=2:=List.length_filter_le _ _
 obtain ⟨y',s2⟩:=afz (e:=e) (b:=b) hs hr (F:=F++[mv (r:Int) false 1,mv (r:Int) false (-1)].filter (tM (jo u e l b) (jh ps))) (by rw [List.length_append]; omega) true (x:=y)
 refine ⟨some (qr true),y',?_⟩
 have iw:items (.tuple [.str "upper",.str "lower"])=some [qr false,qr true]:=rfl
 have eR:F++aiA (jo u e l b) (jh ps) r=(F++[mv (r:Int) false 1,mv (r:Int) false (-1)].filter (tM (jo u e l b) (jh ps)))++[mv (r:Int) true 1,mv (r:Int) true (-1)].filter (tM (jo u e l b) (jh ps)):=by
  rw [List.append_assoc,←List.filter_append]; rfl
 rw [eR]
 simp only [zL]
 refine (jv (ρ1:=[some (jo u e l b),some (jh ps),some (.list ((F++[mv (r:Int) false 1,mv (r:Int) false (-1)].filter (tM (jo u e l b) (jh ps)))++[mv (r:Int) true 1,mv (r:Int) true (-1)].filter (tM (jo u e l b) (jh ps)))),some (.int (r:Int)),some (qr true),y']) ?_).trans rfl
 generalize mv (r:Int) false 1=m1 at*
 generalize mv (r:Int) false (-1)=m2 at*
 generalize mv (r:Int) true 1=m3 at*
 generalize mv (r:Int) true (-1)=m4 at*
 dsimp? [Jw,itS,brw,hid,okB,QU,abe,Z1,iw,jD,s1,s2]
theorem aiC {M T:PyData}{n:Int}{RR F:List PyData}{x3 x4 x5:Option PyData} (ck:jV [M,T]=some .none) (ln:q0 [T]=some (.int n)) (rg:Zr [.int n]=some RR) (lp:jD (jG 3) zL.1 RR [some M,some T,some (.list []),none,none,none]=some (.nx [some M,some T,some (.list F),x3,x4,x5])):zc [M,T]=some (.list F):=by
 refine jQ rfl ?_
 show Qt.1 [some M,some T,none,none,none,none]=_
 simp only [Qt]
 refine (jv (ρ1:=[some M,some T,none,none,none,none]) ?_).trans ?_
 ·dsimp? [ck]
 have key:∀ {Y:Rho->Option Out} {d:PyData},Y [some M,some T,some (.list []),none,none,none]=some (.rt d)->QG 2 (JU jN) Y [some M,some T,none,none,none,none]=some (.rt d):=fun {Y d} hy=>by
  have l8:2 < [some M,some T,none,none,none,none].length:=by simp
  dsimp? [QG,JL,hy]
  rw [if_pos l8]
 refine key ?_
 refine (jv (ρ1:=[some M,some T,some (.list F),x3,x4,x5]) ?_).trans ?_
 ·dsimp? [Jw,brw,hid,okB,QU,abe,Z1,ln,rg]
  exact lp
 dsimp? [zzA]
end
end Rods
namespace Rods
open PySem L2 BX
open PyProof.Rows hiding St
inductive Path (u e l b:Int):List (Int × Int)->List PyData->List (Int × Int)->Prop
 | nil (ps:List (Int × Int)):Path u e l b ps [] ps
 | cons {ps qs rs:List (Int × Int)} {d:PyData} {ms:List PyData}:Th u e l b ps d (some qs)->Path u e l b qs ms rs->Path u e l b ps (d::ms) rs
theorem Path.snoc {u e l b:Int}{ps qs rs:List (Int × Int)}{d:PyData}{ms:List PyData} (p:Path u e l b ps ms qs) (t:Th u e l b qs d (some rs)):Path u e l b ps (ms++[d]) rs:=by
 induction p with
 | nil ps=>exact .cons t (.nil _)
 | cons t' _ ih=>exact .cons t' (ih t)
end Rods
namespace Rods
open PySem L2 BX
open PyProof.Rows hiding St
section
variable {u e l b:Int}
theorem Path.ok {ps qs:List (Int × Int)}{ms:List PyData} (p:Path u e l b ps ms qs) (hs:okS u l ps=true):okS u l qs=true:=by
 induction p with
 | nil ps=>exact hs
 | cons t _ ih=>exact ih (t.bm _ rfl).2
theorem alN {M T0 L N D Q x:PyData} (g:Qa [M,N,D]=some Q):adx.1 [some M,some T0,some L,some N,some D]=some (.nx [some M,some T0,some L,some Q,some D]):=by
 dsimp? [adx,g]
theorem adI (H:zR=true) (h:okN u e l b=true) {T0 L:PyData}:∀ (ms:List PyData) (ps qs:List (Int × Int)) (x:Option PyData),okS u l ps=true->Path u e l b ps ms qs->∃ y,jD (jG 4) adx.1 ms [some (jo u e l b),some T0,some L,some (jh ps),x]=some (.nx [some (jo u e l b),some T0,some L,some (jh qs),y])
 | [],ps,qs,x,_,p=>by cases p; exact ⟨x,rfl⟩
 | d::ms,ps,qs,x,hs,p=>by
  cases p with
  | cons t p'=>
   obtain ⟨y,hy⟩:=adI H h (T0:=T0) (L:=L) ms _ qs (some d) (t.bm _ rfl).2 p'
   refine ⟨y,?_⟩
   have st:=alN (T0:=T0) (L:=L) (x:= .none) (aa0 H h hs t)
   simp only [jD,jG,zzD,zzF,zzG,st]
   exact hy
theorem aiD {M T T' L:PyData}{ms:List PyData}{y:Option PyData} (ck:jV [M,T]=some .none) (il:QE "list" L=some (.bool true)) (it:items L=some ms) (lp:jD (jG 4) adx.1 ms [some M,some T,some L,some T,none]=some (.nx [some M,some T,some L,some T',y])):aic [M,T,L]=some T':=by
 refine jQ rfl ?_
 show ajV.1 [some M,some T,some L,none,none]=_
 simp only [ajV]
 refine (jv (ρ1:=[some M,some T,some L,none,none]) ?_).trans ?_
 ·dsimp? [ck]
 refine (jv (ρ1:=[some M,some T,some L,none,none]) ?_).trans ?_
 ·dsimp? [il]
 refine (jv (ρ1:=[some M,some T,some L,some T,none]) ?_).trans ?_
 ·dsimp? [zzA]
 refine (jv (ρ1:=[some M,some T,some L,some T',y]) ?_).trans ?_
 ·dsimp? [Jw,itS,it]
  exact lp
 dsimp? [zzA]
end
end Rods
namespace Rods
open PySem L2 BX
open PyProof.Rows hiding St
section
variable {u e l b:Int}{ps:List (Int × Int)}
theorem Zg (H:zR=true) (h:okN u e l b=true) (hs:okS u l ps=true):zc [jo u e l b,jh ps]=some (.list (ZK (jo u e l b) (jh ps) ps.length)):=by
 obtain ⟨h1,h4,hall⟩:=jS hs
 have ck:=(ZT H h hs).1
 have rg:Zr [.int (ps.length:Int)]=some (qV 0 ps.length):=by
  have:Zr [.int (ps.length:Int)]=some (qV 0 (ps.length:Int).toNat):=aae (by omega) (by omega)
  rw [Int.toNat_natCast] at this; exact this
 have ln:=zP ps
 obtain ⟨ρ',lp,x3,x4,x5,e'⟩:=Qe (ga:=jG 3) (F:=zL.1) (fun k ρ=>∃ x3 x4 x5,ρ=[some (jo u e l b),some (jh ps),some (.list (ZK (jo u e l b) (jh ps) k)),x3,x4,x5]) (qV 0 ps.length) 0 [some (jo u e l b),some (jh ps),some (.list []),none,none,none] ⟨none,none,none,rfl⟩ (fun j d ρ hd ⟨x3,x4,x5,e⟩=>by
  obtain ⟨hj,rfl⟩:=aaY hd
  subst e
  have hl:=aa1 (jo u e l b) (jh ps) j
  obtain ⟨y4,y5,q⟩:=aj6 (e:=e) (b:=b) hs (r:=j) hj (F:=ZK (jo u e l b) (jh ps) (0+j)) (by rw [Nat.zero_add]; omega) (x4:=x4) (x5:=x5)
  refine ⟨_,_,rfl,q,⟨some (.int (j:Int)),y4,y5,?_⟩⟩
  rw [Nat.zero_add,ab3])
 rw [Qf,Nat.zero_add] at e'
 subst e'
 exact aiC ck ln rg lp
theorem aj7 (H:zR=true) (h:okN u e l b=true) {ps qs:List (Int × Int)}{ms:List PyData} (hs:okS u l ps=true) (p:Path u e l b ps ms qs):aic [jo u e l b,jh ps,.list ms]=some (jh qs):=by
 obtain ⟨y,lp⟩:=adI H h (T0:=jh ps) (L:= .list ms) ms ps qs none hs p
 exact aiD (ZT H h hs).1 rfl rfl lp
end
end Rods
namespace Rods
open PySem L2 BX
open PyProof.Rows hiding St
section
variable {u e l b:Int}
theorem adJ (ds:List PyData):q0 [.list ds]=some (.int (ds.length:Int)):=rfl
end
end Rods
namespace Rods
open PySem L2 BX
open PyProof.Rows hiding St
noncomputable def ab (i:Int):Int:=if i < 0 then -i else i
noncomputable def fd (p q:Int × Int):Int:=ab (q.1 - p.1)+ab (q.2 - p.2)
noncomputable def far:List (Int × Int)->List (Int × Int)->Int
 | p::ps,q::qs=>fd p q+far ps qs
 | _,_=>0
theorem acP (p q:Int × Int):Qw [pr p,pr q]=some (.int (fd p q)):=by
 have i0:∀ p:Int × Int,dIx (pr p) (.int 0)=some (.int p.1):=fun _=>rfl
 have i1:∀ p:Int × Int,dIx (pr p) (.int 1)=some (.int p.2):=fun _=>rfl
 have s1:∀ i j:Int,QD (.int i) (.int j)=some (.int (i - j)):=fun _ _=>rfl
 have a1:∀ i:Int,ajH [.int i]=some (.int (ab i)):=fun _=>rfl
 refine jQ rfl ?_
 show Qv.1 [some (pr p),some (pr q)]=_
 dsimp? [Qv,i0,i1,s1,a1,add_int]
 rfl
theorem aa2:∀ (ps qs:List (Int × Int)) (x y:Option PyData),jW (Jk 2 (jH (jG 0) (jH (jG 1) qR))) Z0 (jT Qw (js (lkp 0) (js (lkp 1) jN))) (zI (ps.map pr) (qs.map pr)) [x,y]=some ((List.zipWith fd ps qs).map .int)
 | [],qs,x,y=>rfl
 | p::ps,[],x,y=>rfl
 | p::ps,q::qs,x,y=>by
  have ih:=aa2 ps qs (some (pr p)) (some (pr q))
  have g:=acP p q
  have ga:Jk 2 (jH (jG 0) (jH (jG 1) qR)) (.tuple [pr p,pr q]) [x,y]=some [some (pr p),some (pr q)]:=rfl
  simp only [List.map_cons,zI,jW,ga,zzD,Z0,zzM,List.zipWith_cons_cons]
  generalize pr p=P at*
  generalize pr q=Q at*
  dsimp? [g,ih]
theorem afA:∀ ps qs:List (Int × Int),(List.zipWith fd ps qs).sum=far ps qs
 | [],qs=>by simp [far]
 | p::ps,[]=>by simp [far]
 | p::ps,q::qs=>by simp [far,afA ps qs]
theorem agC (ps qs:List (Int × Int)) (h:ps.length<=4):few (zI (ps.map pr) (qs.map pr))=true:=agA (by rw [Zw,List.length_map]; omega)
theorem qP (ps qs:List (Int × Int)) (h:ps.length<=4):zM [jh ps,jh qs]=some (.int (far ps qs)):=by
 have c:=aa2 ps qs none none
 have z:afe [jh ps,jh qs]=some (zI (ps.map pr) (qs.map pr)):=rfl
 have f:=agC ps qs h
 have sm:ali [.list ((List.zipWith fd ps qs).map .int)]=some (.int (far ps qs)):=by
  show (zG ((List.zipWith fd ps qs).map PyData.int)).map _=_
  rw [aeG,←afA]
  rfl
 refine jQ rfl ?_
 show acI.1 [some (jh ps),some (jh qs)]=_
 generalize jh ps=S at*
 generalize jh qs=T at*
 dsimp? [acI,qK,JV,List.map_cons,List.map_nil,z,f,c,sm]
theorem aky (i:Int):0<=ab i:=by unfold ab; split <;> omega
theorem aiE (p q:Int × Int):0<=fd p q:=by have:=aky (q.1 - p.1); have:=aky (q.2 - p.2); unfold fd; omega
theorem aa3:∀ ps qs:List (Int × Int),0<=far ps qs
 | [],_=>by simp [far]
 | _::_,[]=>by simp [far]
 | p::ps,q::qs=>by have:=aiE p q; have:=aa3 ps qs; simp only [far]; omega
theorem aj8 (p q:Int × Int):fd p q=fd q p:=by unfold fd ab; split <;> split <;> split <;> split <;> omega
theorem adK:∀ ps qs:List (Int × Int),far ps qs=far qs ps
 | [],[]=>rfl
 | [],_::_=>rfl
 | _::_,[]=>rfl
 | p::ps,q::qs=>by simp only [far,aj8 p q,adK ps qs]
theorem alO (p q r:Int × Int):fd p q<=fd p r+fd r q:=by unfold fd ab; repeat (first | omega | split)
theorem afB:∀ ps qs rs:List (Int × Int),ps.length=rs.length->qs.length=rs.length->far ps qs<=far ps rs+far rs qs
 | [],qs,rs,_,_=>by
  have h1:=aa3 rs qs
  have e1:far [] qs=0:=by cases qs <;> rfl
  have e2:far [] rs=0:=by cases rs <;> rfl
  omega
 | p::ps,[],rs,h1,h2=>by rw [←h2] at h1; cases h1
 | p::ps,q::qs,[],h1,h2=>by cases h1
 | p::ps,q::qs,r::rs,h1,h2=>by
  have:=alO p q r
  have:=afB ps qs rs (by simpa using h1) (by simpa using h2)
  simp only [far]
  omega
theorem afC {p q:Int × Int} (h:fd p q=0):p=q:=by
 obtain ⟨a,b⟩:=p
 obtain ⟨c,d⟩:=q
 have:c=a/\d=b:=by
  unfold fd ab at h
  simp only at h
  split at h <;> split at h <;> omega
 rw [this.1,this.2]
theorem Zh:∀ {ps qs:List (Int × Int)},ps.length=qs.length->far ps qs=0->ps=qs
 | [],[],_,_=>rfl
 | [],_::_,h,_=>by cases h
 | _::_,[],h,_=>by cases h
 | p::ps,q::qs,h,e=>by
  have:=aiE p q
  have:=aa3 ps qs
  simp only [far] at e
  rw [afC (show fd p q=0 by omega),Zh (by simpa using h) (show far ps qs=0 by omega)]
theorem Zi:∀ ps:List (Int × Int),far ps ps=0
 | []=>rfl
 | p::ps=>by
  have:fd p p=0:=by unfold fd ab; simp
  simp only [far,this,Zi ps]; rfl
noncomputable def sg (i:Int):Int:=if 0 < i then 1 else -1
noncomputable def mvD (r:Int) (k:Bool) (c:Int):List PyData:=List.replicate c.natAbs (mv r k (sg c))
theorem alP (r:Int) (k:Bool) (c:Int):noL (mv r k c)=true:=by cases k <;> rfl
theorem aj9 (r:Int) (k:Bool) (c:Int):noLs (mvD r k c)=true:=JZ fun d hd=>by rw [List.eq_of_mem_replicate hd]; exact alP _ _ _
theorem abl (r:Int) (k:Bool) {c:Int} (hc:-1000 < c/\c < 1000):QK [.int r,qr k,.int c]=some (.list (mvD r k c)):=by
 have gt:zi (fun i j=>decide (i > j)) (.int c) (.int 0)=some (.bool (decide (c > 0))):=rfl
 have ng:ahw (.int 1)=some (.int (-1)):=rfl
 have a1:ajH [.int c]=some (.int (ab c)):=rfl
 have hab:ab c=(c.natAbs:Int):=by unfold ab; split <;> omega
 have rp:∀ s:Int,aff (.list [mv r k s]) (.int (ab c))=some (.list (List.replicate c.natAbs (mv r k s))):=fun s=>by
  show (if [mv r k s].length < 1000/\-1000 < ab c/\ab c < 1000 then some (PyData.list (List.replicate (ab c).toNat [mv r k s]).flatten) else none)=_
  rw [if_pos ⟨by simp,by omega,by omega⟩,aip,hab,Int.toNat_natCast]
 have rp:∀ s:Int,aff (.list [.tuple [.int r,qr k,.int s]]) (.int (ab c))=some (.list (List.replicate c.natAbs (mv r k s))):=rp
 refine jQ rfl ?_
 show zN.1 [some (.int r),some (qr k),some (.int c),none]=_
 unfold mvD sg
 generalize qr k=K at*
 by_cases h:c > 0
 ·rw [decide_eq_true h] at gt
  rw [if_pos h]
  dsimp? [zN,gt,fw3,fw1,a1,rp]
 ·rw [decide_eq_false h] at gt
  rw [if_neg h]
  dsimp? [zN,gt,ng,fw3,fw1,a1,rp]
noncomputable def mvR (r:Int) (p q:Int × Int):List PyData:=mvD r false (q.1 - p.1)++mvD r true (q.2 - p.2)
noncomputable def mvL:Nat->List (Int × Int)->List (Int × Int)->List PyData
 | i,p::ps,q::qs=>mvR (i:Int) p q++mvL (i+1) ps qs
 | _,_,_=>[]
theorem aaj (r:Int) (k:Bool) (c:Int):((mvD r k c).length:Int)=ab c:=by
 unfold mvD ab
 rw [List.length_replicate]
 split <;> omega
theorem afD (r:Int) (p q:Int × Int):((mvR r p q).length:Int)=fd p q:=by
 unfold mvR fd
 rw [List.length_append,Int.natCast_add,aaj,aaj]
theorem aak:∀ (i:Nat) (ps qs:List (Int × Int)),((mvL i ps qs).length:Int)=far ps qs
 | i,[],_=>by simp [mvL,far]
 | i,_::_,[]=>by simp [mvL,far]
 | i,p::ps,q::qs=>by simp only [mvL,far]; rw [List.length_append,Int.natCast_add,afD,aak]
theorem alQ {F ms:List PyData} (hn:noLs ms=true) (hl:F.length+ms.length < 1000000):ahQ (some (.list F)) (some (.list ms))=some (.list (F++ms)):=by
 show (if _/\_ then _ else _)=_
 rw [if_pos ⟨hn,hl⟩]
theorem aiF {M T Q Z:PyData}{i c z w:Int}{k:Bool}{F:List PyData}{jj:Int} (hc:-1000 < c/\c < 1000) (hF:F.length < 900000) (q1:dIx Q (.int i)=some Z) (q2:dIx Z (.int jj)=some (.int z)) (q3:∀ P:PyData,True) {P:PyData} (q4:dIx P (.int jj)=some (.int w)) (hz:z - w=c):
  ZH.1 [some M,some T,some Q,some (.list F),some (.int i),some P,some (.int jj),some (qr k)]=some (.nx [some M,some T,some Q,some (.list (F++mvD i k c)),some (.int i),some P,some (.int jj),some (qr k)]):=by
 have s1:QD (.int z) (.int w)=some (.int c):=by show some (PyData.int (z - w))=_; rw [hz]
 have g:=abl i k hc
 have hl:(mvD i k c).length < 1000:=by have:=aaj i k c; unfold ab at this; split at this <;> omega
 have el:=alQ (F:=F) (aj9 i k c) (by omega)
 generalize qr k=K at*
 dsimp? [ZH,brw,hid,okB,QU,Z1,abe,q1,q2,q4,s1,g,el]
theorem aeI:adp [.tuple [.str "upper",.str "lower"]]=some [.tuple [.int 0,qr false],.tuple [.int 1,qr true]]:=rfl
theorem alR {M T Q:PyData}{i:Int}{F:List PyData}{p q:Int × Int}{x6 x7:Option PyData} (hF:F.length < 800000) (q1:dIx Q (.int i)=some (pr q)) (h1:-1000 < q.1 - p.1/\q.1 - p.1 < 1000) (h2:-1000 < q.2 - p.2/\q.2 - p.2 < 1000):
  ∃ y6 y7,Jn.1 [some M,some T,some Q,some (.list F),some (.int i),some (pr p),x6,x7]=some (.nx [some M,some T,some Q,some (.list (F++mvR i p q)),some (.int i),some (pr p),y6,y7]):=by
 have hl:(mvD i false (q.1 - p.1)).length < 1000:=by have:=aaj i false (q.1 - p.1); unfold ab at this; split at this <;> omega
 have a:=aiF (M:=M) (T:=T) (k:=false) (F:=F) h1 (by omega) q1 (jj:=0) (show dIx (pr q) (.int 0)=some (.int q.1) from rfl) (fun _=>trivial) (P:=pr p) (show dIx (pr p) (.int 0)=some (.int p.1) from rfl) rfl
 have c:=aiF (M:=M) (T:=T) (k:=true) (F:=F++mvD i false (q.1 - p.1)) h2 (by rw [List.length_append]; omega) q1 (jj:=1) (show dIx (pr q) (.int 1)=some (.int q.2) from rfl) (fun _=>trivial) (P:=pr p) (show dIx (pr p) (.int 1)=some (.int p.2) from rfl) rfl
 rw [List.append_assoc] at c
 have g0:∀ x6 x7:Option PyData,Jk 2 (jH (jG 6) (jH (jG 7) qR)) (.tuple [.int 0,qr false]) [some M,some T,some Q,some (.list F),some (.int i),some (pr p),x6,x7]=some [some M,some T,some Q,some (.list F),some (.int i),some (pr p),some (.int 0),some (qr false)]:=fun _ _=>rfl
 have g1:∀ (L:PyData) (x6 x7:Option PyData),Jk 2 (jH (jG 6) (jH (jG 7) qR)) (.tuple [.int 1,qr true]) [some M,some T,some Q,some L,some (.int i),some (pr p),x6,x7]=some [some M,some T,some Q,some L,some (.int i),some (pr p),some (.int 1),some (qr true)]:=fun _ _ _=>rfl
 refine ⟨some (.int 1),some (qr true),?_⟩
 show _=some (Out.nx [some M,some T,some Q,some (.list (F++(mvD i false (q.1 - p.1)++mvD i true (q.2 - p.2)))),some (.int i),some (pr p),some (.int 1),some (qr true)])
 simp only [Jn]
 refine (jv ?_).trans rfl
 have e:=aeI
 generalize qr false=D0 at*
 generalize qr true=D1 at*
 dsimp? [Jw,brw,hid,okB,QU,Z1,abe,e,jD,g0,g1,a,c]
section
variable {u e l b:Int}
theorem aka {M T:PyData}{Q0:List (Int × Int)} (h4:Q0.length<=4) (ps:List (Int × Int)):∀ (i:Nat) (qs:List (Int × Int)) (F:List PyData) (x4 x5 x6 x7:Option PyData),Q0.drop i=qs->ps.length=qs.length->ps.length<=4->ps.all (okP u l)=true->qs.all (okP u l)=true->u<=100->l<=100->F.length+500*ps.length < 800000->
  ∃ y4 y5 y6 y7,jD (Jk 2 (jH (jG 4) (jH (jG 5) qR))) Jn.1 (J2 i (ps.map pr)) [some M,some T,some (jh Q0),some (.list F),x4,x5,x6,x7]=some (.nx [some M,some T,some (jh Q0),some (.list (F++mvL i ps qs)),y4,y5,y6,y7]):=by
 induction ps with
 | nil=>intro i qs F x4 x5 x6 x7 _ _ _ _ _ _ _ _; exact ⟨x4,x5,x6,x7,by simp [J2,jD,mvL]⟩
 | cons p ps ih=>
  intro i qs F x4 x5 x6 x7 hd hl h4' hp hq hu hl2 hF
  cases qs with
  | nil=>cases hl
  | cons q qs=>
   rw [List.all_cons,Bool.and_eq_true] at hp hq
   obtain ⟨p1,p2,p3,p4⟩:=qx hp.1
   obtain ⟨r1,r2,r3,r4⟩:=qx hq.1
   have hget:Q0[i]?=some q:=by
    have:(Q0.drop i)[0]?=some q:=by rw [hd]; rfl
    rw [List.getElem?_drop,Nat.add_zero] at this
    exact this
   have q1:=afx h4 hget
   have hr:=afD (i:Int) p q
   have hfd:fd p q<=400:=by unfold fd ab; split <;> split <;> omega
   rw [List.length_cons] at hF
   obtain ⟨y6,y7,st⟩:=alR (M:=M) (T:=T) (Q:=jh Q0) (i:=(i:Int)) (F:=F) (p:=p) (q:=q) (x6:=x6) (x7:=x7) (by omega) q1 (by omega) (by omega)
   have hd2:Q0.drop (i+1)=qs:=by
    have:(Q0.drop i).drop 1=qs:=by rw [hd]; rfl
    rw [List.drop_drop] at this
    exact this
   obtain ⟨z4,z5,z6,z7,hz⟩:=ih (i+1) qs (F++mvR (i:Int) p q) (some (.int (i:Int))) (some (pr p)) y6 y7 hd2 (by simpa using hl) (by rw [List.length_cons] at h4'; omega) hp.2 hq.2 hu hl2 (by rw [List.length_append]; omega)
   refine ⟨z4,z5,z6,z7,?_⟩
   have ga:Jk 2 (jH (jG 4) (jH (jG 5) qR)) (.tuple [.int (i:Int),pr p]) [some M,some T,some (jh Q0),some (.list F),x4,x5,x6,x7]=some [some M,some T,some (jh Q0),some (.list F),some (.int (i:Int)),some (pr p),x6,x7]:=rfl
   rw [List.map_cons]
   simp only [J2,jD,ga,zzD,st,mvL]
   rw [List.append_assoc] at hz
   exact hz
theorem akb {M T Q:PyData}{n:Int}{es F:List PyData}{y4 y5 y6 y7:Option PyData} (c1:jV [M,T]=some .none) (c2:jV [M,Q]=some .none) (l1:q0 [T]=some (.int n)) (l2:q0 [Q]=some (.int n)) (en:adp [T]=some es) (lp:jD (Jk 2 (jH (jG 4) (jH (jG 5) qR))) Jn.1 es [some M,some T,some Q,some (.list []),none,none,none,none]=some (.nx [some M,some T,some Q,some (.list F),y4,y5,y6,y7])):Jo [M,T,Q]=some (.list F):=by
 have nn:dNe (.int n) (.int n)=some (.bool false):=by rw [acN]; simp
 refine jQ rfl ?_
 show Q9.1 [some M,some T,some Q,none,none,none,none,none]=_
 simp only [Q9]
 refine (jv (ρ1:=[some M,some T,some Q,none,none,none,none,none]) ?_).trans ?_
 ·dsimp? [c1]
 refine (jv (ρ1:=[some M,some T,some Q,none,none,none,none,none]) ?_).trans ?_
 ·dsimp? [c2]
 refine (jv (ρ1:=[some M,some T,some Q,none,none,none,none,none]) ?_).trans ?_
 ·dsimp? [l1,l2,nn]
 have key:∀ {Y:Rho->Option Out} {d:PyData},Y [some M,some T,some Q,some (.list []),none,none,none,none]=some (.rt d)->QG 3 (JU jN) Y [some M,some T,some Q,none,none,none,none,none]=some (.rt d):=fun {Y d} hy=>by
  have l8:3 < [some M,some T,some Q,none,none,none,none,none].length:=by simp
  dsimp? [QG,JL,hy]
  rw [if_pos l8]
 refine key ?_
 refine (jv (ρ1:=[some M,some T,some Q,some (.list F),y4,y5,y6,y7]) ?_).trans ?_
 ·dsimp? [Jw,brw,hid,okB,QU,Z1,abe,en]
  exact lp
 dsimp? [zzA]
theorem ZU (H:zR=true) (h:okN u e l b=true) {ps qs:List (Int × Int)} (hs:okS u l ps=true) (ht:okS u l qs=true) (hl:ps.length=qs.length):Jo [jo u e l b,jh ps,jh qs]=some (.list (mvL 0 ps qs)):=by
 obtain ⟨a1,a2,a3,a4,a5,a6,a7,a8,a9,a10⟩:=qz h
 obtain ⟨h1,h4,hp⟩:=jS hs
 obtain ⟨_,h4',hq⟩:=jS ht
 obtain ⟨y4,y5,y6,y7,lp⟩:=aka (u:=u) (l:=l) (M:=jo u e l b) (T:=jh ps) (Q0:=qs) h4' ps 0 qs [] none none none none rfl hl h4 hp hq (by omega) (by omega) (by simp; omega)
 have l2:=zP qs
 rw [←hl] at l2
 exact akb (ZT H h hs).1 (ZT H h ht).1 (zP ps) l2 rfl lp
end
section
variable {α:Type}
noncomputable abbrev KV (α:Type):=List (Int × α)
noncomputable def Jg (f:α->PyData) (kv:KV α):List (PyData × PyData):=kv.map fun p=>(.int p.1,f p.2)
noncomputable def dV (f:α->PyData) (kv:KV α):PyData:= .dict ((.none,.none)::Jg f kv)
noncomputable def j5 (kv:KV α) (k:Int):Option α:=(kv.find? fun p=>decide (p.1=k)).map (·.2)
noncomputable def Zj (kv:KV α) (k:Int) (v:α):KV α:=if kv.any (fun p=>decide (p.1=k))=true then kv.map (fun p=>if p.1=k then (p.1,v) else p) else kv++[(k,v)]
theorem ZL (f:α->PyData) (kv:KV α) (k:Int):JO (Jg f kv) k=(j5 kv k).map f:=by
 induction kv with
 | nil=>rfl
 | cons p kv ih=>
  by_cases h:p.1=k
  ·simp [JO,Jg,j5,isI,h]
  ·have e1:JO (Jg f (p::kv)) k=JO (Jg f kv) k:=by simp [JO,Jg,isI,h,List.find?_cons]
   have e2:j5 (p::kv) k=j5 kv k:=by simp [j5,h,List.find?_cons]
   rw [e1,e2,ih]
theorem agD (f:α->PyData) (kv:KV α) (k:Int) (v:α):aek (Jg f kv) k (f v)=Jg f (Zj kv k v):=by
 have h1:(Jg f kv).any (fun p=>isI k p.1)=kv.any fun p=>decide (p.1=k):=by simp [Jg,List.any_map,Function.comp_def,isI]
 unfold aek Zj
 rw [h1]
 by_cases c:kv.any (fun p=>decide (p.1=k))=true
 ·rw [if_pos c,if_pos c]
  simp only [Jg,List.map_map]
  apply List.map_congr_left
  intro p _
  by_cases h:p.1=k <;> simp [isI,h]
 ·rw [if_neg c,if_neg c]
  simp [Jg]
theorem zB (p:Int × α) (kv:KV α) (x:Int):j5 (p::kv) x=if p.1=x then some p.2 else j5 kv x:=by
 by_cases h:p.1=x <;> simp [j5,List.find?_cons,h]
theorem adL (k:Int) (v:α) (x:Int):∀ kv:KV α,j5 (kv.map fun p=>if p.1=k then (p.1,v) else p) x=if x=k then (if kv.any (fun p=>decide (p.1=k))=true then some v else none) else j5 kv x
 | []=>by simp [j5]
 | p::kv=>by
  rw [List.map_cons,zB,zB,adL k v x kv]
  by_cases hp:p.1=k
  ·by_cases hx:x=k
   ·subst hx; simp [hp]
   ·have hkx:¬ k=x:=fun z=>hx z.symm
    simp [hp,hx,hkx]
  ·by_cases hx:x=k
   ·subst hx; rw [List.any_cons,decide_eq_false hp,Bool.false_or]; simp [hp]
   ·by_cases hq:p.1=x <;> simp [hp,hx,hq]
theorem adM (k:Int) (v:α) (x:Int):∀ kv:KV α,j5 (kv++[(k,v)]) x=if kv.any (fun p=>decide (p.1=x))=true then j5 kv x else if k=x then some v else none
 | []=>by rw [List.nil_append,zB]; simp [j5]
 | p::kv=>by
  rw [List.cons_append,zB,zB,adM k v x kv]
  by_cases hp:p.1=x
  ·simp [hp]
  ·rw [List.any_cons,decide_eq_false hp,Bool.false_or,if_neg hp,if_neg hp]
theorem aa4 (kv:KV α) (k:Int) (v:α) (x:Int):j5 (Zj kv k v) x=if x=k then some v else j5 kv x:=by
 unfold Zj
 by_cases c:kv.any (fun p=>decide (p.1=k))=true
 ·rw [if_pos c,adL,if_pos c]
 ·rw [if_neg c,adM]
  by_cases hx:x=k
  ·subst hx
   rw [if_neg c,if_pos rfl,if_pos rfl]
  ·have hkx:¬ k=x:=fun z=>hx z.symm
   rw [if_neg hx,if_neg hkx]
   by_cases c':kv.any (fun p=>decide (p.1=x))=true
   ·rw [if_pos c']
   ·rw [if_neg c']
    unfold j5
    rw [List.find?_eq_none.mpr fun p hp=>by
     have:=fun z=>c' (List.any_eq_true.mpr ⟨p,hp,z⟩)
     exact this]
    rfl
theorem adN (kv:KV α) (k:Int) (v:α):(Zj kv k v).length<=kv.length+1:=by
 unfold Zj; split <;> simp
theorem aiG {kv:KV α}{p:Int × α} (h:p ∈ kv):∃ v,j5 kv p.1=some v:=by
 unfold j5
 cases hf:kv.find? fun q=>decide (q.1=p.1) with
 | none=>exact absurd (List.find?_eq_none.mp hf p h) (by simp)
 | some q=>exact ⟨_,rfl⟩
theorem akc {kv:KV α}{k:Int}{v:α} (h:j5 kv k=some v):∃ p ∈ kv,p.1=k:=by
 unfold j5 at h
 cases hf:kv.find? fun q=>decide (q.1=k) with
 | none=>rw [hf] at h; cases h
 | some q=>exact ⟨q,List.mem_of_find?_eq_some hf,by simpa using List.find?_some hf⟩
theorem akd (f:α->PyData) (kv:KV α):(BX.zq (dV f kv)).map (fun r=>r.map (·.1))=some (kv.map fun p=>PyData.int p.1):=by
 show some ((Jg f kv).map (·.1))=_
 simp [Jg,List.map_map,Function.comp_def]
theorem alS {f:α->PyData}{kv:KV α}{k:Int}{v:α} (hl:kv.length < 1000000):ahE (some (dV f kv)) (some (f v)) (some (.int k))=some (dV f (Zj kv k v)):=by
 have hle:(Jg f kv).length < 1000000:=by simp only [Jg,List.length_map]; omega
 show (if (Jg f kv).length < 1000000 then some (PyData.dict ((.none,.none)::aek (Jg f kv) k (f v))) else none)=_
 rw [if_pos hle,agD]
 rfl
theorem aiH {f:α->PyData}{kv:KV α}{k:Int}{v:α} (h:j5 kv k=some v):agd (dV f kv) (.int k)=some (f v):=by
 show JO (Jg f kv) k=_
 rw [ZL,h]; rfl
theorem alT {f:α->PyData}{kv:KV α}{k:Int}:age true (.int k) (dV f kv)=some (.bool (!(j5 kv k).isSome)):=by
 show some (PyData.bool (if true=true then !(JO (Jg f kv) k).isSome else _))=_
 rw [if_pos rfl,ZL]
 cases j5 kv k <;> rfl
end
section
variable {u e l b:Int}
theorem Path.app {ps qs rs:List (Int × Int)}{ms ns:List PyData} (p:Path u e l b ps ms qs) (q:Path u e l b qs ns rs):Path u e l b ps (ms++ns) rs:=by
 induction p with
 | nil ps=>exact q
 | cons t _ ih=>exact .cons t (ih q)
theorem adO {ps:List (Int × Int)}{r:Nat}{p:Int × Int} (h:ps[r]?=some p):ps.set r p=ps:=by
 obtain ⟨hr,rfl⟩:=List.getElem?_eq_some_iff.mp h
 exact List.set_getElem_self hr
theorem adP (p:Int × Int) (k:Bool):shP p k 0=p:=by unfold shP; cases k <;> simp
theorem acQ (p:Int × Int) (k:Bool) (c d:Int):shP (shP p k c) k d=shP p k (c+d):=by
 unfold shP; cases k <;> simp [Int.add_assoc]
theorem adQ (k:Bool) {c:Int} (hc:c=1 ∨ c=-1) {r:Nat}:∀ (n:Nat) {ps:List (Int × Int)}{p:Int × Int},okS u l ps=true->ps[r]?=some p->(∀ i:Nat,i<=n->okP u l (shP p k (c*(i:Int)))=true)->Path u e l b ps (List.replicate n (mv (r:Int) k c)) (ps.set r (shP p k (c*(n:Int))))
 | 0,ps,p,hs,hp,_=>by
  rw [show c*((0:Nat):Int)=0 by simp,adP,adO hp]
  exact .nil _
 | n+1,ps,p,hs,hp,hok=>by
  have h1:=hok 1 (by omega)
  rw [show c*((1:Nat):Int)=c by simp] at h1
  have t:=Qg (e:=e) (b:=b) hs hp k hc
  rw [if_pos h1] at t
  obtain ⟨hr,_⟩:=List.getElem?_eq_some_iff.mp hp
  have hp':(ps.set r (shP p k c))[r]?=some (shP p k c):=by rw [List.getElem?_set_self hr]
  have ih:=adQ k hc n (t.bm _ rfl).2 hp' fun i hi=>by
   have:=hok (i+1) (by omega)
   rw [acQ,show c+c*(i:Int)=c*((i+1:Nat):Int) by rw [Int.natCast_add,Int.mul_add]; omega]
   exact this
  rw [acQ,show c+c*(n:Int)=c*((n+1:Nat):Int) by rw [Int.natCast_add,Int.mul_add]; omega,List.set_set] at ih
  exact .cons t ih
theorem adR (k:Bool) {c:Int}{r:Nat}{ps:List (Int × Int)}{p:Int × Int} (hs:okS u l ps=true) (hp:ps[r]?=some p) (h0:okP u l p=true) (h1:okP u l (shP p k c)=true):Path u e l b ps (mvD (r:Int) k c) (ps.set r (shP p k c)):=by
 have hsg:sg c=1 ∨ sg c=-1:=by unfold sg; split <;> simp
 have hn:sg c*(c.natAbs:Int)=c:=by unfold sg; split <;> omega
 have q:=adQ (e:=e) (b:=b) k hsg c.natAbs hs hp fun i hi=>by
  obtain ⟨a1,a2,a3,a4⟩:=qx h0
  obtain ⟨b1,b2,b3,b4⟩:=qx h1
  have hb:∃ x:Int,sg c*(i:Int)=x/\((0<=x/\x<=c) ∨ (c<=x/\x<=0)):=by
   refine ⟨_,rfl,?_⟩
   unfold sg
   split <;> omega
  obtain ⟨x,hx,hx'⟩:=hb
  rw [hx]
  cases k <;> simp only [shP,okP,Bool.and_eq_true,decide_eq_true_eq,zzM,zzL,zzN] at*<;> omega
 rw [hn] at q
 exact q
theorem aeJ {p:Int × Int}:okP u l p=true ↔ (0<=p.1/\p.1<=u)/\0<=p.2/\p.2<=l:=by
 simp only [okP,Bool.and_eq_true,decide_eq_true_eq]; omega
theorem aiI (ps:List (Int × Int)):∀ (pre qs:List (Int × Int)),ps.length=qs.length->okS u l (pre++ps)=true->qs.all (okP u l)=true->Path u e l b (pre++ps) (mvL pre.length ps qs) (pre++qs):=by
 induction ps with
 | nil=>
  intro pre qs hl _ _
  cases qs with
  | nil=>exact .nil _
  | cons _ _=>cases hl
 | cons p ps ih=>
  intro pre qs hl hs hq
  cases qs with
  | nil=>cases hl
  | cons q qs=>
   rw [List.all_cons,Bool.and_eq_true] at hq
   have hall:=(jS hs).2.2
   rw [List.all_append,List.all_cons,Bool.and_eq_true,Bool.and_eq_true] at hall
   have hp:=hall.2.1
   have g0:(pre++p::ps)[pre.length]?=some p:=by simp
   obtain ⟨⟨a1,a2⟩,a3,a4⟩:=aeJ.mp hp
   obtain ⟨⟨b1,b2⟩,b3,b4⟩:=aeJ.mp hq.1
   have e1:shP p false (q.1 - p.1)=(q.1,p.2):=by
    show (p.1+(q.1 - p.1),p.2)=_
    rw [show p.1+(q.1 - p.1)=q.1 by omega]
   have o1:okP u l (q.1,p.2)=true:=aeJ.mpr ⟨⟨b1,b2⟩,a3,a4⟩
   have s1:=adR (e:=e) (b:=b) false (c:=q.1 - p.1) hs g0 hp (by rw [e1]; exact o1)
   rw [e1] at s1
   have e2:(pre++p::ps).set pre.length (q.1,p.2)=pre++(q.1,p.2)::ps:=by simp
   rw [e2] at s1
   have hs1:=Path.ok s1 hs
   have g1:(pre++(q.1,p.2)::ps)[pre.length]?=some (q.1,p.2):=by simp
   have e3:shP (q.1,p.2) true (q.2 - p.2)=q:=by
    show (q.1,p.2+(q.2 - p.2))=_
    rw [show p.2+(q.2 - p.2)=q.2 by omega]
   have s2:=adR (e:=e) (b:=b) true (c:=q.2 - p.2) hs1 g1 o1 (by rw [e3]; exact hq.1)
   rw [e3] at s2
   have e4:(pre++(q.1,p.2)::ps).set pre.length q=pre++q::ps:=by simp
   rw [e4] at s2
   have s12:=Path.app s1 s2
   have hs2:=Path.ok s12 hs
   have r:=ih (pre++[q]) qs (by simpa using hl) (by simpa using hs2) hq.2
   have e5:pre++[q]++ps=pre++q::ps:=by simp
   have e6:pre++[q]++qs=pre++q::qs:=by simp
   rw [e5,e6,List.length_append] at r
   show Path u e l b _ (mvR (pre.length:Int) p q++mvL (pre.length+1) ps qs) _
   exact Path.app s12 r
theorem ake {ps qs:List (Int × Int)} (hs:okS u l ps=true) (hq:okS u l qs=true) (hl:ps.length=qs.length):Path u e l b ps (mvL 0 ps qs) qs:=aiI ps [] qs hl hs (jS hq).2.2
theorem ZM {ps:List (Int × Int)} (hs:okS u l ps=true) {d:PyData}:d ∈ ZK (jo u e l b) (jh ps) ps.length ↔ ∃ (r:Nat) (k:Bool) (c:Int) (p:Int × Int),ps[r]?=some p/\(c=1 ∨ c=-1)/\okP u l (shP p k c)=true/\d=mv (r:Int) k c:=by
 constructor
 ·intro hd
  obtain ⟨r,hr,hm⟩:=List.mem_flatMap.mp hd
  obtain ⟨h1,h2⟩:=List.mem_filter.mp hm
  have hr:=List.mem_range.mp hr
  have hp:ps[r]?=some ps[r]:=List.getElem?_eq_getElem hr
  have key:∀ (k:Bool) (c:Int),(c=1 ∨ c=-1)->tM (jo u e l b) (jh ps) (mv (r:Int) k c)=true->okP u l (shP ps[r] k c)=true:=fun k c hc ht=>by
   rw [afy (Qg (e:=e) (b:=b) hs hp k hc)] at ht
   by_cases ho:okP u l (shP ps[r] k c)=true
   ·exact ho
   ·rw [if_neg ho] at ht; cases ht
  simp only [c4,List.mem_cons,List.not_mem_nil,or_false] at h1
  rcases h1 with rfl | rfl | rfl | rfl
  ·exact ⟨r,false,1,_,hp,.inl rfl,key false 1 (.inl rfl) h2,rfl⟩
  ·exact ⟨r,false,-1,_,hp,.inr rfl,key false (-1) (.inr rfl) h2,rfl⟩
  ·exact ⟨r,true,1,_,hp,.inl rfl,key true 1 (.inl rfl) h2,rfl⟩
  ·exact ⟨r,true,-1,_,hp,.inr rfl,key true (-1) (.inr rfl) h2,rfl⟩
 ·rintro ⟨r,k,c,p,hp,hc,ho,rfl⟩
  obtain ⟨hr,_⟩:=List.getElem?_eq_some_iff.mp hp
  refine List.mem_flatMap.mpr ⟨r,List.mem_range.mpr hr,List.mem_filter.mpr ⟨?_,?_⟩⟩
  ·rcases hc with rfl | rfl <;> cases k <;> simp [c4]
  ·rw [afy (Qg (e:=e) (b:=b) hs hp k hc),if_pos ho]; rfl
theorem afE (b e:Int):∀ (ps:List (Int × Int)) (r:Nat) (p q:Int × Int),ps[r]?=some p->val b e (ps.set r q)=val b e ps+(wt e q - wt e p)*b ^ (ps.length - 1 - r)
 | [],r,p,q,h=>by simp at h
 | a::ps,0,p,q,h=>by
  have:a=p:=by simpa using h
  subst this
  rw [zzG,Js,Js,List.length_cons,Int.sub_mul]
  simp only [Nat.add_sub_cancel,Nat.sub_zero]
  omega
 | a::ps,r+1,p,q,h=>by
  have h':ps[r]?=some p:=by simpa using h
  obtain ⟨hr,_⟩:=List.getElem?_eq_some_iff.mp h'
  rw [zzF,Js,Js,afE b e ps r p q h',List.length_set,List.length_cons,show ps.length+1 - 1 - (r+1)=ps.length - 1 - r by omega]
  omega
theorem acR:∀ (ps:List (Int × Int)) (r:Nat) (p q:Int × Int),ps[r]?=some p->far ps (ps.set r q)=fd p q
 | [],r,p,q,h=>by simp at h
 | a::ps,0,p,q,h=>by
  have:a=p:=by simpa using h
  subst this
  rw [zzG]
  simp only [far,Zi]
  omega
 | a::ps,r+1,p,q,h=>by
  have h':ps[r]?=some p:=by simpa using h
  have:fd a a=0:=by unfold fd ab; simp
  rw [zzF]
  simp only [far,this,acR ps r p q h']
  omega
theorem aiJ (p:Int × Int) (k:Bool) {c:Int} (hc:c=1 ∨ c=-1):fd p (shP p k c)=1:=by
 unfold fd shP ab
 cases k with
 | true=>
  show (if p.1 - p.1 < 0 then -(p.1 - p.1) else p.1 - p.1)+(if p.2+c - p.2 < 0 then -(p.2+c - p.2) else p.2+c - p.2)=1
  split <;> split <;> omega
 | false=>
  show (if p.1+c - p.1 < 0 then -(p.1+c - p.1) else p.1+c - p.1)+(if p.2 - p.2 < 0 then -(p.2 - p.2) else p.2 - p.2)=1
  split <;> split <;> omega
theorem alU {p q:Int × Int} (h:fd p q=1):∃ k c,(c=1 ∨ c=-1)/\q=shP p k c:=by
 obtain ⟨a,b⟩:=p
 obtain ⟨c,d⟩:=q
 have:(c=a/\(d=b+1 ∨ d=b - 1)) ∨ (d=b/\(c=a+1 ∨ c=a - 1)):=by
  unfold fd ab at h
  simp only at h
  split at h <;> split at h <;> omega
 rcases this with ⟨rfl,rfl | rfl⟩ | ⟨rfl,rfl | rfl⟩
 ·exact ⟨true,1,.inl rfl,rfl⟩
 ·exact ⟨true,-1,.inr rfl,rfl⟩
 ·exact ⟨false,1,.inl rfl,rfl⟩
 ·exact ⟨false,-1,.inr rfl,rfl⟩
theorem afF:∀ {ps qs:List (Int × Int)},ps.length=qs.length->far ps qs=1->∃ r p k c,ps[r]?=some p/\(c=1 ∨ c=-1)/\qs=ps.set r (shP p k c)
 | [],[],_,h=>by simp [far] at h
 | [],_::_,h,_=>by cases h
 | _::_,[],h,_=>by cases h
 | p::ps,q::qs,hl,h=>by
  have n1:=aiE p q
  have n2:=aa3 ps qs
  simp only [far] at h
  have hl':ps.length=qs.length:=by simpa using hl
  by_cases z:fd p q=0
  ·obtain ⟨r,p',k,c,h1,h2,h3⟩:=afF hl' (show far ps qs=1 by omega)
   exact ⟨r+1,p',k,c,by simpa using h1,h2,by rw [zzF,←h3,afC z]⟩
  ·obtain ⟨k,c,hc,hq⟩:=alU (show fd p q=1 by omega)
   exact ⟨0,p,k,c,rfl,hc,by rw [zzG,←hq,Zh hl' (show far ps qs=0 by omega)]⟩
end
noncomputable abbrev St1:=List (Int × Int)
noncomputable def Qh (here:St1) (acc:KV St1) (q:Int × St1):KV St1:=match j5 acc q.1 with
 | none=>Zj acc q.1 q.2
 | some t=>if far here q.2 < far here t then Zj acc q.1 q.2 else acc
theorem adS (here:St1) (acc:KV St1) (q:Int × St1):(Qh here acc q).length<=acc.length+1:=by
 unfold Qh
 split
 ·exact adN _ _ _
 ·split
  ·exact adN _ _ _
  ·omega
theorem ab4 (here:St1) (xs:KV St1):∀ acc:KV St1,(xs.foldl (Qh here) acc).length<=acc.length+xs.length:=by
 induction xs with
 | nil=>intro acc; simp
 | cons q xs ih=>intro acc; have:=ih (Qh here acc q); have:=adS here acc q; simp only [List.foldl_cons,List.length_cons]; omega
noncomputable def Jh (here:St1) (d:Option St1) (P:St1->Prop):Prop:=(∀ s,d=some s->P s)/\∀ s,P s->∃ t,d=some t/\far here t<=far here s
theorem Jh.iff {here:St1}{d:Option St1}{P P':St1->Prop} (h:Jh here d P) (hi:∀ s,P s ↔ P' s):Jh here d P':=
 ⟨fun s hs=>(hi s).mp (h.1 s hs),fun s hs=>h.2 s ((hi s).mpr hs)⟩
theorem agE (here:St1) (acc:KV St1) (q:Int × St1) (k:Int) {P:St1->Prop} (h:Jh here (j5 acc k) P):Jh here (j5 (Qh here acc q) k) fun s=>P s ∨ (k,s)=q:=by
 obtain ⟨qk,qs⟩:=q
 unfold Qh
 by_cases hk:k=qk
 ·subst hk
  cases hf:j5 acc k with
  | none=>
   simp only
   rw [aa4,if_pos rfl]
   refine ⟨fun s hs=> .inr (by cases hs; rfl),fun s hs=>⟨qs,rfl,?_⟩⟩
   rcases hs with z | z
   ·obtain ⟨t,ht,_⟩:=h.2 s z
    rw [hf] at ht; cases ht
   ·have:s=qs:=congrArg Prod.snd z
    rw [this]; exact Int.le_refl _
  | some t=>
   simp only
   have ht:=h.1 t hf
   by_cases hlt:far here qs < far here t
   ·rw [if_pos hlt,aa4,if_pos rfl]
    refine ⟨fun s hs=> .inr (by cases hs; rfl),fun s hs=>⟨qs,rfl,?_⟩⟩
    rcases hs with z | z
    ·obtain ⟨t',ht',hle⟩:=h.2 s z
     rw [hf] at ht'; cases ht'
     omega
    ·have:s=qs:=congrArg Prod.snd z
     rw [this]; exact Int.le_refl _
   ·rw [if_neg hlt,hf]
    refine ⟨fun s hs=> .inl (by cases hs; exact ht),fun s hs=>⟨t,rfl,?_⟩⟩
    rcases hs with z | z
    ·obtain ⟨t',ht',hle⟩:=h.2 s z
     rw [hf] at ht'; cases ht'
     exact hle
    ·have:s=qs:=congrArg Prod.snd z
     rw [this]; omega
 ·have e1:∀ v,j5 (Zj acc qk v) k=j5 acc k:=fun v=>by rw [aa4,if_neg hk]
  have e2:j5 (match j5 acc qk with | none=>Zj acc qk qs | some t=>if far here qs < far here t then Zj acc qk qs else acc) k=j5 acc k:=by
   split
   ·exact e1 _
   ·split
    ·exact e1 _
    ·rfl
  rw [e2]
  refine h.iff fun s=>⟨.inl,fun z=>z.resolve_right fun z=>hk (congrArg Prod.fst z)⟩
theorem aeK (here:St1) (k:Int) (xs:KV St1):∀ (acc:KV St1) (P:St1->Prop),Jh here (j5 acc k) P->Jh here (j5 (xs.foldl (Qh here) acc) k) fun s=>P s ∨ (k,s) ∈ xs:=by
 induction xs with
 | nil=>intro acc P h; exact h.iff fun s=>by simp
 | cons q xs ih=>
  intro acc P h
  refine (ih (Qh here acc q) _ (agE here acc q k h)).iff fun s=>?_
  rw [List.mem_cons]
  constructor
  ·rintro ((z | z) | z)
   ·exact .inl z
   ·exact .inr (.inl z)
   ·exact .inr (.inr z)
  ·rintro (z | z | z)
   ·exact .inl (.inl z)
   ·exact .inl (.inr z)
   ·exact .inr z
theorem amY (here:St1) (k:Int) (xs:KV St1):Jh here (j5 (xs.foldl (Qh here) []) k) fun s=>(k,s) ∈ xs:=
 (aeK here k xs [] (fun _=>False) ⟨fun s hs=>by simp [j5] at hs,fun s hs=>hs.elim⟩).iff fun s=>by simp
theorem akf {m S A:Option PyData}{D acc:KV St1}{here t:St1}{n k:Int}{p:Int × Int}{x9:Option PyData} (hD:j5 D n=some t) (ht:t.length<=4) (hh:here.length<=4) (hl:acc.length < 1000000):
  zg.1 [m,S,A,some (dV jh D),some (jh here),some (dV jh acc),some (.int n),some (pr p),some (.int k),x9]=some (.nx [m,S,A,some (dV jh D),some (jh here),some (dV jh (Qh here acc (k,p::t))),some (.int n),some (pr p),some (.int k),some (jh (p::t))]):=by
 have g1:agd (dV jh D) (.int n)=some (jh t):=aiH hD
 have ad:Je (.tuple [pr p]) (jh t)=some (jh (p::t)):=aaf (xs:=[pr p]) (ys:=t.map pr) (.inr trivial) (by rw [List.length_map]; simp; omega)
 have f1:few [pr p]=true:=fw1
 have hs:=alT (f:=jh) (kv:=acc) (k:=k)
 have a1:=qP here (p::t) hh
 have nd:∀ s:St1,noD (jh s)=true:=fun s=>adG s
 have dd:∀ d,okB (dV jh acc) d=noD d:=fun _=>rfl
 have pt:=alS (f:=jh) (k:=k) (v:=p::t) hl
 simp only [zg]
 refine (jv (ρ1:=[m,S,A,some (dV jh D),some (jh here),some (dV jh acc),some (.int n),some (pr p),some (.int k),some (jh (p::t))]) ?_).trans ?_
 ·generalize jh (p::t)=Z at*
  generalize dV jh acc=DA at*
  generalize dV jh D=DD at*
  generalize pr p=PP at*
  dsimp? [brw,hid,okB,QU,Z1,abe,g1,f1,ad]
 unfold Qh
 cases hf:j5 acc k with
 | none=>
  rw [hf] at hs
  have hs:age true (.int k) (dV jh acc)=some (.bool true):=hs
  simp only
  have nz:=nd (p::t)
  generalize jh (p::t)=Z at*
  generalize dV jh (Zj acc k (p::t))=DB at*
  generalize dV jh acc=DA at*
  dsimp? [agc,brw,hid,Option.join_none,dd,nz,hs,pt]
 | some t'=>
  rw [hf] at hs
  have hs:age true (.int k) (dV jh acc)=some (.bool false):=hs
  have g2:agd (dV jh acc) (.int k)=some (jh t'):=aiH hf
  have a2:=qP here t' hh
  have lt:zi (fun i j=>decide (i < j)) (.int (far here (p::t))) (.int (far here t'))=some (.bool (decide (far here (p::t) < far here t'))):=rfl
  simp only
  have nz:=nd (p::t)
  by_cases c:far here (p::t) < far here t'
  ·rw [if_pos c]
   rw [decide_eq_true c] at lt
   generalize jh (p::t)=Z at*
   generalize dV jh (Zj acc k (p::t))=DB at*
   generalize dV jh acc=DA at*
   generalize jh t'=Z' at*
   generalize jh here=HH at*
   dsimp? [agc,brw,hid,Option.join_none,dd,nz,hs,g2,a1,a2,lt,pt]
  ·rw [if_neg c]
   rw [decide_eq_false c] at lt
   generalize jh (p::t)=Z at*
   generalize dV jh acc=DA at*
   generalize jh t'=Z' at*
   generalize jh here=HH at*
   dsimp? [agc,brw,hid,Option.join_none,dd,nz,hs,g2,a1,a2,lt]
theorem agF {m S A:Option PyData}{D:KV St1}{here t:St1}{n:Int} (hD:j5 D n=some t) (ht:t.length<=4) (hh:here.length<=4) (qs:List ((Int × Int) × Int)):∀ (acc:KV St1) (x7 x8 x9:Option PyData),acc.length+qs.length < 1000000->
  ∃ y7 y8 y9,jD (Jk 2 (jH (jG 7) (jH (jG 8) qR))) zg.1 (qs.map aiu) [m,S,A,some (dV jh D),some (jh here),some (dV jh acc),some (.int n),x7,x8,x9]=some (.nx [m,S,A,some (dV jh D),some (jh here),some (dV jh ((qs.map fun q=>(q.2,q.1::t)).foldl (Qh here) acc)),some (.int n),y7,y8,y9]):=by
 induction qs with
 | nil=>intro acc x7 x8 x9 _; exact ⟨x7,x8,x9,rfl⟩
 | cons q qs ih=>
  intro acc x7 x8 x9 hl
  rw [List.length_cons] at hl
  have h2:=adS here acc (q.2,q.1::t)
  obtain ⟨y7,y8,y9,ih⟩:=ih (Qh here acc (q.2,q.1::t)) (some (pr q.1)) (some (.int q.2)) (some (jh (q.1::t))) (by omega)
  refine ⟨y7,y8,y9,?_⟩
  have s:=akf (m:=m) (S:=S) (A:=A) (acc:=acc) (k:=q.2) (p:=q.1) (x9:=x9) hD ht hh (by omega)
  have ga:Jk 2 (jH (jG 7) (jH (jG 8) qR)) (aiu q) [m,S,A,some (dV jh D),some (jh here),some (dV jh acc),some (.int n),x7,x8,x9]=some [m,S,A,some (dV jh D),some (jh here),some (dV jh acc),some (.int n),some (pr q.1),some (.int q.2),x9]:=rfl
  rw [List.map_cons,jD,ga,zzD,s,zzD]
  exact ih
noncomputable def aa5 (D:KV St1) (k:Int):St1:=(j5 D k).getD []
noncomputable def ntr (u e l b:Int) (a:Nat) (D:KV St1) (p:Int × St1):KV St1:=(lps u e l b a p.1).map fun q=>(q.2,q.1::aa5 D p.1)
theorem afG (u e l b:Int) (a:Nat) (D:KV St1) (p:Int × St1):(ntr u e l b a D p).length<=(rp u l).length:=by unfold ntr; rw [List.length_map]; exact afs ..
noncomputable def afH (u e l b:Int) (a:Nat) (here:St1) (D:KV St1):KV St1:=(D.flatMap (ntr u e l b a D)).foldl (Qh here) []
section
variable {u e l b:Int}
theorem aa6 {D:KV St1}{p:Int × St1} (hp:p ∈ D):j5 D p.1=some (aa5 D p.1):=by
 obtain ⟨v,hv⟩:=aiG hp
 unfold aa5
 rw [hv]; rfl
theorem aiK (h:okN u e l b=true) (a:Nat) (ha:a < 4) {S:Option PyData}{D acc:KV St1}{here:St1} (hh:here.length<=4) {p:Int × St1} (hp:p ∈ D) (ht:(aa5 D p.1).length<=4) (hacc:acc.length+(rp u l).length < 1000000) {x7 x8 x9:Option PyData}:
  ∃ y7 y8 y9,qL.1 [some (jo u e l b),S,some (.int (a:Int)),some (dV jh D),some (jh here),some (dV jh acc),some (.int p.1),x7,x8,x9]=some (.nx [some (jo u e l b),S,some (.int (a:Int)),some (dV jh D),some (jh here),some (dV jh ((ntr u e l b a D p).foldl (Qh here) acc)),some (.int p.1),y7,y8,y9]):=by
 have h1:=agv (n:=p.1) h a ha
 have hq:=afs u e l b a p.1
 obtain ⟨y7,y8,y9,lp⟩:=agF (m:=some (jo u e l b)) (S:=S) (A:=some (.int (a:Int))) (aa6 hp) ht hh (lps u e l b a p.1) acc x7 x8 x9 (by omega)
 refine ⟨y7,y8,y9,?_⟩
 unfold ntr
 have it:items (.list ((lps u e l b a p.1).map aiu))=some ((lps u e l b a p.1).map aiu):=rfl
 simp only [qL]
 refine (jv ?_).trans rfl
 generalize dV jh D=DD at*
 generalize dV jh acc=DA at*
 generalize jo u e l b=M at*
 generalize jh here=HH at*
 dsimp? [Jw,itS,brw,hid,okB,QU,Z1,abe,h1,it]
 exact lp
theorem agG (h:okN u e l b=true) (a:Nat) (ha:a < 4) {S:Option PyData}{D:KV St1}{here:St1} (hh:here.length<=4) (ps:KV St1):∀ (acc:KV St1) (x6 x7 x8 x9:Option PyData),(∀ p ∈ ps,p ∈ D/\(aa5 D p.1).length<=4)->acc.length+(ps.length+1)*48 < 1000000->
  ∃ y6 y7 y8 y9,jD (jG 6) qL.1 (ps.map fun p=> .int p.1) [some (jo u e l b),S,some (.int (a:Int)),some (dV jh D),some (jh here),some (dV jh acc),x6,x7,x8,x9]=some (.nx [some (jo u e l b),S,some (.int (a:Int)),some (dV jh D),some (jh here),some (dV jh ((ps.flatMap (ntr u e l b a D)).foldl (Qh here) acc)),y6,y7,y8,y9]):=by
 have h48:=ait h
 induction ps with
 | nil=>intro acc x6 x7 x8 x9 _ _; exact ⟨x6,x7,x8,x9,rfl⟩
 | cons p ps ih=>
  intro acc x6 x7 x8 x9 hp hl
  rw [List.length_cons] at hl
  obtain ⟨hp1,hp2⟩:=hp p List.mem_cons_self
  obtain ⟨y7,y8,y9,s⟩:=aiK h a ha (S:=S) (D:=D) (acc:=acc) hh hp1 hp2 (x7:=x7) (x8:=x8) (x9:=x9) (by omega)
  have h2:=ab4 here (ntr u e l b a D p) acc
  have h3:=afG u e l b a D p
  obtain ⟨z6,z7,z8,z9,ih⟩:=ih ((ntr u e l b a D p).foldl (Qh here) acc) (some (.int p.1)) y7 y8 y9 (fun q hq=>hp q (List.mem_cons_of_mem _ hq)) (by omega)
  refine ⟨z6,z7,z8,z9,?_⟩
  have ga:jG 6 (.int p.1) [some (jo u e l b),S,some (.int (a:Int)),some (dV jh D),some (jh here),some (dV jh acc),x6,x7,x8,x9]=some [some (jo u e l b),S,some (.int (a:Int)),some (dV jh D),some (jh here),some (dV jh acc),some (.int p.1),x7,x8,x9]:=rfl
  rw [List.map_cons,jD,ga,zzD,s,zzD,List.flatMap_cons,List.foldl_append]
  exact ih
theorem agH {M S DD HH D':PyData}{a:Int}{ks:List PyData}{y6 y7 y8 y9:Option PyData} (sl:abh S (some a) none=some HH) (kk:(BX.zq DD).map (fun r=>r.map (·.1))=some ks) (lp:jD (jG 6) qL.1 ks [some M,some S,some (.int a),some DD,some HH,some (.dict [(.none,.none)]),none,none,none,none]=some (.nx [some M,some S,some (.int a),some DD,some HH,some D',y6,y7,y8,y9])):qU [M,S,.int a,DD]=some D':=by
 refine jQ rfl ?_
 show zt.1 [some M,some S,some (.int a),some DD,none,none,none,none,none,none]=_
 simp only [zt]
 refine (jv (ρ1:=[some M,some S,some (.int a),some DD,some HH,none,none,none,none,none]) ?_).trans ?_
 ·dsimp? [JC,inI,sl]
 have key:∀ {Y:Rho->Option Out} {d:PyData},Y [some M,some S,some (.int a),some DD,some HH,some (.dict [(.none,.none)]),none,none,none,none]=some (.rt d)->QG 5 (cst (.dict [(.none,.none)])) Y [some M,some S,some (.int a),some DD,some HH,none,none,none,none,none]=some (.rt d):=fun {Y d} hy=>by
  have l8:5 < [some M,some S,some (.int a),some DD,some HH,none,none,none,none,none].length:=by simp
  dsimp? [QG,hy]
  rw [if_pos l8]
 refine key ?_
 refine (jv (ρ1:=[some M,some S,some (.int a),some DD,some HH,some D',y6,y7,y8,y9]) ?_).trans ?_
 ·dsimp? [Jw,itD,hid,kk]
  exact lp
 dsimp? [zzA]
theorem acS (h:okN u e l b=true) (a:Nat) (ha:a < 4) {ps:St1} (h4:ps.length<=4) {D:KV St1} (hD:∀ p ∈ D,(aa5 D p.1).length<=4) (hl:(D.length+1)*48 < 1000000):qU [jo u e l b,jh ps,.int (a:Int),dV jh D]=some (dV jh (afH u e l b a (ps.drop a) D)):=by
 obtain ⟨y6,y7,y8,y9,lp⟩:=agG h a ha (S:=some (jh ps)) (D:=D) (here:=ps.drop a) (by rw [List.length_drop]; omega) D [] none none none none (fun p hp=>⟨hp,hD p hp⟩) (by simpa using hl)
 have sl:abh (jh ps) (some (a:Int)) none=some (jh (ps.drop a)):=by
  show some (PyData.tuple (abf _ (some (a:Int)) none))=_
  rw [aft,←List.map_drop]; rfl
 exact agH sl (akd jh D) lp
theorem afI {a:Nat}{D:KV St1}{k:Int}{s:St1} (hb:0 < b):(k,s) ∈ D.flatMap (ntr u e l b a D) ↔ ∃ p t,okP u l p=true/\j5 D (k*b+wt e p)=some t/\0<=k/\k<=qX u e l b a/\s=p::t:=by
 constructor
 ·intro h
  obtain ⟨q,hq,h2⟩:=List.mem_flatMap.mp h
  obtain ⟨x,hx,h3⟩:=List.mem_map.mp h2
  obtain ⟨p,hp,rfl⟩:=List.mem_map.mp hx
  obtain ⟨hp1,hp2⟩:=List.mem_filter.mp hp
  simp only [okQ,Bool.and_eq_true,decide_eq_true_eq] at hp2
  obtain ⟨o1,o2,o3⟩:=hp2
  have hk:(q.1 - wt e p) / b=k:=congrArg Prod.fst h3
  have hv:p::aa5 D q.1=s:=congrArg Prod.snd h3
  have hd:=Int.mul_ediv_add_emod (q.1 - wt e p) b
  rw [o1,hk,Int.mul_comm] at hd
  have e1:k*b+wt e p=q.1:=by omega
  refine ⟨p,aa5 D q.1,amT hp1,by rw [e1]; exact aa6 hq,?_,?_,hv.symm⟩
  ·rw [←hk]; exact Int.ediv_nonneg o2 (by omega)
  ·rw [←hk]
   exact Int.le_of_lt_add_one (Int.ediv_lt_of_lt_mul hb (by
    have:(qX u e l b a+1)*b=b*qX u e l b a+b:=by rw [Int.add_mul,Int.mul_comm]; omega
    omega))
 ·rintro ⟨p,t,hp,hc,h0,h1,rfl⟩
  obtain ⟨q,hq,hq1⟩:=akc hc
  have hg:aa5 D q.1=t:=by unfold aa5; rw [hq1,hc]; rfl
  refine List.mem_flatMap.mpr ⟨q,hq,List.mem_map.mpr ⟨(p,k),?_,?_⟩⟩
  ·refine List.mem_map.mpr ⟨p,List.mem_filter.mpr ⟨alI hp,?_⟩,?_⟩
   ·simp only [okQ,Bool.and_eq_true,decide_eq_true_eq]
    have e1:q.1 - wt e p=k*b:=by omega
    rw [e1]
    refine ⟨Int.mul_emod_left _ _,Int.mul_nonneg h0 (by omega),?_⟩
    rw [Int.mul_comm]
    exact Int.mul_le_mul_of_nonneg_left h1 (by omega)
   ·have e1:q.1 - wt e p=k*b:=by omega
    rw [e1,Int.mul_ediv_cancel _ (by omega)]
  ·rw [hg]
noncomputable def NkD (u e l b N:Int) (ps:St1) (j:Nat) (D:KV St1):Prop:=∀ k,Jh (ps.drop (ps.length - j)) (j5 D k) fun t=>(j=0 ∨ (0<=k/\k<=qX u e l b (ps.length - j)))/\t.length=j/\t.all (okP u l)=true/\k*b ^ j+val b e t=N
theorem akg (N:Int) (ps:St1):NkD u e l b N ps 0 [(N,[])]:=fun k=>by
 rw [zB]
 refine ⟨fun s hs=>?_,fun s ⟨_,h1,h2,h3⟩=>?_⟩
 ·by_cases hk:N=k
  ·rw [if_pos hk] at hs
   cases hs
   exact ⟨.inl rfl,rfl,rfl,by subst hk; simp [val]⟩
  ·rw [if_neg hk] at hs; simp [j5] at hs
 ·have:s=[]:=List.eq_nil_of_length_eq_zero h1
  subst this
  have:N=k:=by simp [val] at h3; omega
  exact ⟨[],by rw [if_pos this],Int.le_refl _⟩
theorem akh (h:okN u e l b=true) {N:Int}{ps:St1}{j:Nat} (hj:j < ps.length) {D:KV St1} (H:NkD u e l b N ps j D):NkD u e l b N ps (j+1) (afH u e l b (ps.length - (j+1)) (ps.drop (ps.length - (j+1))) D):=fun k=>by
 obtain ⟨a1,a2,a3,a4,a5,a6,a7,a8,a9,a10⟩:=qz h
 have hb:0 < b:=by omega
 obtain ⟨p0,hp0⟩:∃ p0,ps.drop (ps.length - (j+1))=p0::ps.drop (ps.length - j):=by
  have hlt:ps.length - (j+1) < ps.length:=by omega
  refine ⟨ps[ps.length - (j+1)],?_⟩
  rw [List.drop_eq_getElem_cons hlt,show ps.length - (j+1)+1=ps.length - j by omega]
 have q:=amY (ps.drop (ps.length - (j+1))) k (D.flatMap (ntr u e l b (ps.length - (j+1)) D))
 refine ⟨fun s hs=>?_,fun s hs=>?_⟩
 ·obtain ⟨p,t,hp,hc,h0,h1,rfl⟩:=(afI hb).mp (q.1 s hs)
  obtain ⟨_,t1,t2,t3⟩:=(H _).1 t hc
  refine ⟨.inr ⟨h0,h1⟩,by rw [List.length_cons,t1],by rw [List.all_cons,hp,t2]; rfl,?_⟩
  rw [Js,t1,←t3,Int.add_mul,Int.pow_succ,Int.mul_comm (b ^ j) b,←Int.mul_assoc]
  omega
 ·obtain ⟨hk,t1,t2,t3⟩:=hs
  obtain ⟨h0,h1⟩:=hk.resolve_left (by omega)
  cases s with
  | nil=>cases t1
  | cons p t=>
   rw [List.all_cons,Bool.and_eq_true] at t2
   have t1':t.length=j:=by simpa using t1
   have w0:=afo a3 t2.1
   obtain ⟨q1,q2,q3,q4⟩:=qx t2.1
   have w1:wt e p<=wt e (u,l):=by
    have:=Int.mul_le_mul_of_nonneg_right q2 (show 0<=e by omega)
    unfold wt; show p.1*e+p.2<=u*e+l; omega
   have hr:ps.length - j=(ps.length - (j+1))+1:=by omega
   have hm:=aeF (u:=u) (e:=e) (l:=l) (b:=b) (ps.length - (j+1))
   have hkb:k*b<=qX u e l b (ps.length - (j+1))*b:=Int.mul_le_mul_of_nonneg_right h1 (by omega)
   have hkb0:0<=k*b:=Int.mul_nonneg h0 (by omega)
   obtain ⟨c,hc,hl⟩:=(H (k*b+wt e p)).2 t ⟨.inr ⟨by omega,by rw [hr,hm]; omega⟩,t1',t2.2,by
    rw [Js,t1',Int.pow_succ,Int.mul_comm (b ^ j) b,←Int.mul_assoc] at t3
    rw [Int.add_mul]; omega⟩
   obtain ⟨x,hx,hx2⟩:=q.2 (p::c) ((afI hb).mpr ⟨p,c,t2.1,hc,h0,h1,rfl⟩)
   refine ⟨x,hx,?_⟩
   rw [hp0] at hx2 ⊢
   have e1:far (p0::ps.drop (ps.length - j)) (p::c)=fd p0 p+far (ps.drop (ps.length - j)) c:=rfl
   have e2:far (p0::ps.drop (ps.length - j)) (p::t)=fd p0 p+far (ps.drop (ps.length - j)) t:=rfl
   omega
theorem adT {α β:Type} (f:α->List β) (k:Nat) (hf:∀ x,(f x).length<=k):∀ xs:List α,(xs.flatMap f).length<=xs.length*k
 | []=>by simp
 | x::xs=>by
  have h1:=adT f k hf xs
  have h2:=hf x
  rw [List.flatMap_cons,List.length_append,List.length_cons,Nat.succ_mul]
  omega
theorem agI (a:Nat) (here:St1) (D:KV St1) (h:okN u e l b=true):(afH u e l b a here D).length<=D.length*48:=by
 have h48:=ait h
 unfold afH
 have h1:=ab4 here (D.flatMap (ntr u e l b a D)) []
 have h2:=adT (ntr u e l b a D) 48 (fun x=>Nat.le_trans (afG u e l b a D x) h48) D
 rw [List.length_nil] at h1
 omega
noncomputable def oS:Option St1->PyData
 | some s=>jh s
 | none=> .none
theorem agJ {M S N A DD D':PyData} (g:qU [M,S,A,DD]=some D'):Jq.1 [some M,some S,some N,some DD,some A]=some (.nx [some M,some S,some N,some D',some A]):=by
 dsimp? [Jq,g]
theorem acT {M S D0 D' X:PyData}{n r:Int}{RR:List PyData}{x4:Option PyData} (c1:jV [M,S]=some .none) (c2:JF [.int n]=some .none) (d0:PyData.dict [(.none,.none),(.int n,.tuple [])]=D0) (ln:q0 [S]=some (.int r)) (rg:ahO [.int (r - 1),.int (-1),.int (-1)]=some RR) (lp:jD (jG 4) Jq.1 RR [some M,some S,some (.int n),some D0,none]=some (.nx [some M,some S,some (.int n),some D',x4])) (g1:adg D' (.int 0)=some X):zO [M,S,.int n]=some X:=by
 have s1:QD (.int r) (.int 1)=some (.int (r - 1)):=rfl
 have ng:ahw (.int 1)=some (.int (-1)):=rfl
 have fn:few ([]:List PyData)=true:=JL
 refine jQ rfl ?_
 show Zb.1 [some M,some S,some (.int n),none,none]=_
 simp only [Zb]
 refine (jv (ρ1:=[some M,some S,some (.int n),none,none]) ?_).trans ?_
 ·dsimp? [c1]
 refine (jv (ρ1:=[some M,some S,some (.int n),none,none]) ?_).trans ?_
 ·dsimp? [c2]
 refine (jv (ρ1:=[some M,some S,some (.int n),some D0,none]) ?_).trans ?_
 ·dsimp? [agi,fn,d0]
 refine (jv (ρ1:=[some M,some S,some (.int n),some D',x4]) ?_).trans ?_
 ·dsimp? [Jw,ln,s1,ng,rg]
  exact lp
 dsimp? [g1]
theorem adU (H:zR=true) (h:okN u e l b=true) {ps:St1} (hs:okS u l ps=true) (h3:ps.length<=3) {n:Int} (h0:0<=n) (hn:n<=99999):∃ d,zO [jo u e l b,jh ps,.int n]=some (oS d)/\Jh ps d fun t=>t.length=ps.length/\t.all (okP u l)=true/\val b e t=n:=by
 obtain ⟨h1,h4,hp⟩:=jS hs
 have p48:∀ j:Nat,j<=2->(48:Nat) ^ j<=2304:=fun j hj=>by
  rcases (show j=0 ∨ j=1 ∨ j=2 by omega) with rfl | rfl | rfl <;> decide
 obtain ⟨ρ',hl,hI⟩:=Qe (ga:=jG 4) (F:=Jq.1) (fun i ρ=>∃ D x4,ρ=[some (jo u e l b),some (jh ps),some (.int n),some (dV jh D),x4]/\NkD u e l b n ps i D/\D.length<=48 ^ i) ((List.range ps.length).map fun (j:Nat)=> .int (((ps.length - (j+1):Nat):Int))) 0
  [some (jo u e l b),some (jh ps),some (.int n),some (dV jh [(n,[])]),none] ⟨_,_,rfl,akg n ps,by simp⟩ (fun j d ρ hd hi=>by
   obtain ⟨hj,rfl⟩:=aiv hd
   obtain ⟨D,x4,rfl,i2,i4⟩:=hi
   rw [Nat.zero_add] at i2 i4
   have pj:=p48 j (by omega)
   have ht:∀ p ∈ D,(aa5 D p.1).length<=4:=fun p hp=>by
    have:=((i2 p.1).1 _ (aa6 hp)).2.1
    omega
   have g:=acS h (ps.length - (j+1)) (by omega) h4 ht (by omega)
   refine ⟨_,_,rfl,agJ g,_,_,rfl,by rw [Nat.zero_add]; exact akh h hj i2,?_⟩
   have:=agI (ps.length - (j+1)) (ps.drop (ps.length - (j+1))) D h
   rw [Nat.zero_add,Nat.pow_succ]
   omega)
 obtain ⟨D,x4,rfl,i2,i4⟩:=hI
 rw [List.length_map,List.length_range,Nat.zero_add] at i2
 refine ⟨j5 D 0,?_,?_⟩
 ·have g1:adg (dV jh D) (.int 0)=some (oS (j5 D 0)):=by
   show some ((JO (Jg jh D) 0).getD .none)=_
   rw [ZL]
   cases j5 D 0 <;> rfl
  exact acT (ZT H h hs).1 (adE h0 hn) rfl (zP ps) (agw h1 h3) hl g1
 ·have q:=i2 0
  rw [Nat.sub_self,List.drop_zero] at q
  refine q.iff fun t=>?_
  constructor
  ·rintro ⟨_,t1,t2,t3⟩
   exact ⟨t1,t2,by rw [Int.zero_mul] at t3; omega⟩
  ·rintro ⟨t1,t2,t3⟩
   exact ⟨.inr ⟨Int.le_refl _,Int.le_refl _⟩,t1,t2,by rw [Int.zero_mul]; omega⟩
theorem aeL {M S N Z:PyData}{v:Int} (g:zO [M,S,N]=some Z) (nz:ajE Z=false) (a:zM [S,Z]=some (.int v)):zw [M,S,N]=some (.int v):=by
 have is:alr Z .none=some (.bool false):=by show some (PyData.bool (ajE Z))=_; rw [nz]
 refine jQ rfl ?_
 show zv.1 [some M,some S,some N,none]=_
 dsimp? [zv,g,is,a]
noncomputable def nuB (b e:Int) (ps:St1) (d:PyData):Int:=match qm [jh ps,d] with
 | some (.tuple xs)=>match J3 xs with
  | some qs=>val b e qs
  | none=>0
 | _=>0
theorem adV:∀ qs:St1,J3 (qs.map pr)=some qs
 | []=>rfl
 | q::qs=>by
  have:=adV qs
  simp only [List.map_cons,J3]
  have e1:afg (pr q)=some q:=rfl
  rw [e1,this]
  rfl
theorem aeM {ps qs:St1}{d:PyData} (t:Th u e l b ps d (some qs)):nuB b e ps d=val b e qs:=by
 unfold nuB
 rw [(t.bm _ rfl).1]
 show (match J3 (qs.map pr) with | some qs=>val b e qs | none=>0)=_
 rw [adV]
noncomputable def ZV (u e l b:Int) (ps:St1) (n:Int):List PyData:=(ZK (jo u e l b) (jh ps) ps.length).filter fun d=>decide (nuB b e ps d=n)
theorem aeN {M S:PyData}{ms zs:List PyData}{n:Int} (c1:jV [M,S]=some .none) (c2:JF [.int n]=some .none) (am:zc [M,S]=some (.list ms)) (fw:few ms=true) (cp:jW (jG 0) (tst (op2 dEq (jT adu (js (lkp 2) (js (jT qm (js (lkp 3) (js (lkp 0) jN))) jN))) (lkp 1))) (lkp 0) ms [none,some (.int n),some M,some S]=some zs):aaU [M,S,.int n]=some (.list zs):=by
 have it:items (.list ms)=some ms:=rfl
 refine jQ rfl ?_
 show acK.1 [some M,some S,some (.int n),none]=_
 simp only [acK]
 refine (jv (ρ1:=[some M,some S,some (.int n),none]) ?_).trans ?_
 ·dsimp? [c1]
 refine (jv (ρ1:=[some M,some S,some (.int n),none]) ?_).trans ?_
 ·dsimp? [c2]
 refine (jv (ρ1:=[some M,some S,some (.int n),some (.list ms)]) ?_).trans ?_
 ·dsimp? [am]
 dsimp? [qK,itS,JV,List.map_cons,List.map_nil,it,fw,cp]
theorem agK (H:zR=true) (h:okN u e l b=true) {ps:St1} (hs:okS u l ps=true) {n:Int} (h0:0<=n) (hn:n<=99999):aaU [jo u e l b,jh ps,.int n]=some (.list (ZV u e l b ps n)):=by
 obtain ⟨h1,h4,hp⟩:=jS hs
 have ml:=aa1 (jo u e l b) (jh ps) ps.length
 refine aeN (ZT H h hs).1 (adE h0 hn) (Zg H h hs) (agA (by omega)) ?_
 have cp:=QQ (ft:=tst (op2 dEq (jT adu (js (lkp 2) (js (jT qm (js (lkp 3) (js (lkp 0) jN))) jN))) (lkp 1))) (fe:=lkp 0) (i:=0) (fun d=>decide (nuB b e ps d=n)) id (ZK (jo u e l b) (jh ps) ps.length) [none,some (.int n),some (jo u e l b),some (jh ps)] (fun d hd=>by
   obtain ⟨⟨qs,t⟩,_⟩:=adH hs (Nat.le_refl _) hd
   obtain ⟨bm,ok⟩:=t.bm _ rfl
   obtain ⟨_,q4,qp⟩:=jS ok
   have g:=acM (e:=e) h q4 qp
   have dq:=Ze (val b e qs) n
   rw [aeM t]
   generalize jo u e l b=M at*
   generalize jh ps=T at*
   generalize jh qs=Q at*
   dsimp? [bm,g,dq]) (fun d hd _=>by dsimp? [id])
 rw [List.map_id] at cp
 exact cp
end
theorem aki {S T O R3 L x6 x7 x8 x9:Option PyData}{u e l b:Int} (hb:2<=b/\b<=16) (ds:List PyData):∀ (s:Int) (x11:Option PyData),-1000 < s/\s < 1000->True->(∀ k:Nat,k<=ds.length->-1000000 < s*b ^ k/\s*b ^ k < 1000000)->∃ y11,jD (jG 11) abR.1 ds [S,some (jo u e l b),T,O,R3,L,x6,x7,x8,x9,some (.int s),x11,none,none,none]=some (.nx [S,some (jo u e l b),T,O,R3,L,x6,x7,x8,x9,some (.int (s*b ^ ds.length)),y11,none,none,none]):=by
 have key:∀ (ds:List PyData) (s:Int) (x11:Option PyData),(∀ k:Nat,k<=ds.length->-1000000 < s*b ^ k/\s*b ^ k < 1000000)->∃ y11,jD (jG 11) abR.1 ds [S,some (jo u e l b),T,O,R3,L,x6,x7,x8,x9,some (.int s),x11,none,none,none]=some (.nx [S,some (jo u e l b),T,O,R3,L,x6,x7,x8,x9,some (.int (s*b ^ ds.length)),y11,none,none,none]):=by
  intro ds
  induction ds with
  | nil=>intro s x11 _; exact ⟨x11,by simp [jD]⟩
  | cons d ds ih=>
   intro s x11 hk
   have h0:=hk 0 (by omega)
   rw [Int.pow_zero,Int.mul_one] at h0
   have m:zm (.int s) (.int b)=some (.int (s*b)):=jR (by omega)
   have i3:dIx (jo u e l b) (.int 3)=some (.int b):=rfl
   obtain ⟨y,hy⟩:=ih (s*b) (some d) fun k hk'=>by
    have:=hk (k+1) (by rw [List.length_cons]; omega)
    rw [Int.pow_succ,Int.mul_comm (b ^ k) b,←Int.mul_assoc] at this
    exact this
   refine ⟨y,?_⟩
   have ga:∀ a:Option PyData,jG 11 d [S,some (jo u e l b),T,O,R3,L,x6,x7,x8,x9,some (.int s),a,none,none,none]=some [S,some (jo u e l b),T,O,R3,L,x6,x7,x8,x9,some (.int s),some d,none,none,none]:=fun _=>rfl
   have st:abR.1 [S,some (jo u e l b),T,O,R3,L,x6,x7,x8,x9,some (.int s),some d,none,none,none]=some (.nx [S,some (jo u e l b),T,O,R3,L,x6,x7,x8,x9,some (.int (s*b)),some d,none,none,none]):=by
    generalize jo u e l b=M at*
    dsimp? [abR,i3,m]
   rw [List.length_cons,Int.pow_succ,Int.mul_comm (b ^ ds.length) b,←Int.mul_assoc]
   simp only [jD,ga,zzD,st]
   exact hy
 exact fun s x11 _ _ hk=>key ds s x11 hk
theorem amZ {S O R3 L x9 x10 x11:Option PyData}{M T Z K:PyData}{r c n ev fv s0 stp v v0:Int}{B:Bool}{RR:List PyData}{y11:Option PyData}
  (mo:Qa [M,T,.tuple [.int r,K,.int c]]=some Z) (dk:dEq K (.str "upper")=some (.bool B)) (m1:dIx M (.int 1)=some (.int ev)) (hf:fv=if B=true then ev else 1) (ml:zm (.int c) (.int fv)=some (.int s0)) (ln:q0 [T]=some (.int n)) (rg:Zr [.int (n - 1 - r)]=some RR)
  (lp:jD (jG 11) abR.1 RR [S,some M,some T,O,R3,L,some (.int r),some K,some (.int c),some Z,some (.int s0),x11,none,none,none]=some (.nx [S,some M,some T,O,R3,L,some (.int r),some K,some (.int c),some Z,some (.int stp),y11,none,none,none])) (is:ZC [M,Z]=some (.bool true)) (vz:JG [M,Z]=some (.int v)) (vt:JG [M,T]=some (.int v0)) (hv:v - v0=stp) (ap:zM [T,Z]=some (.int 1))
  (im:aac [M,Z,.tuple [.int r,K,.int (0 - c)]]=some (.bool true)) (mb:Qa [M,Z,.tuple [.int r,K,.int (0 - c)]]=some T) (nt:dNe T T=some (.bool false)):
  abS.1 [S,some M,some T,O,R3,L,some (.int r),some K,some (.int c),x9,x10,x11,none,none,none]=some (.nx [S,some M,some T,O,R3,L,some (.int r),some K,some (.int c),some Z,some (.int stp),y11,none,none,none]):=by
 have s1:QD (.int n) (.int 1)=some (.int (n - 1)):=rfl
 have s2:QD (.int (n - 1)) (.int r)=some (.int (n - 1 - r)):=rfl
 have s3:QD (.int v) (.int v0)=some (.int stp):=by show some (PyData.int (v - v0))=_; rw [hv]
 have s4:QD (.int 0) (.int c)=some (.int (0 - c)):=rfl
 have n1:dNe (.int stp) (.int stp)=some (.bool false):=by rw [acN]; simp
 have n2:dNe (.int 1) (.int 1)=some (.bool false):=by rw [acN]; simp
 simp only [abS]
 refine (jv (ρ1:=[S,some M,some T,O,R3,L,some (.int r),some K,some (.int c),some Z,x10,x11,none,none,none]) ?_).trans ?_
 ·dsimp? [fw3,mo]
 refine (jv (ρ1:=[S,some M,some T,O,R3,L,some (.int r),some K,some (.int c),some Z,some (.int s0),x11,none,none,none]) ?_).trans ?_
 ·cases B with
  | true=>
   have hf:fv=ev:=hf
   subst hf
   dsimp? [dk,m1,ml]
  | false=>
   have hf:fv=1:=hf
   subst hf
   dsimp? [dk,ml]
 refine (jv (ρ1:=[S,some M,some T,O,R3,L,some (.int r),some K,some (.int c),some Z,some (.int stp),y11,none,none,none]) ?_).trans ?_
 ·dsimp? [Jw,ln,s1,s2,rg]
  exact lp
 refine (jv (ρ1:=[S,some M,some T,O,R3,L,some (.int r),some K,some (.int c),some Z,some (.int stp),y11,none,none,none]) ?_).trans ?_
 ·dsimp? [is,vz,vt,s3,n1,ap,n2]
 refine (jv (ρ1:=[S,some M,some T,O,R3,L,some (.int r),some K,some (.int c),some Z,some (.int stp),y11,none,none,none]) ?_).trans ?_
 ·dsimp? [s4,fw3,im,mb,nt]
 dsimp? [zzA]
theorem aiL {S M T O R3 NE:PyData}{ms ms2 av o1 o3 RR sl:List PyData}{n d1 d2 d3 nu v0 fw:Int}{B1 B3:Bool}{y6 y7 y8 y9 y10 y11:Option PyData}
  (g0:Qs [S,.int 0]=some M) (g1:adw [S,.int 10,M,.int 3]=some T) (ln:q0 [T]=some (.int n)) (rg:Zr [.int n]=some RR) (fr:few RR=true) (c1:jW (jG 0) Z0 (op2 dIx (jT adw (js (lkp 1) (js (op2 Je (cst (.int 20)) (op2 zm (cst (.int 4)) (lkp 0))) (js (lkp 2) (js (cst (.int 1)) jN))))) (cst (.int 0))) RR [none,some S,some M]=some o1) (t1:acq [.list o1]=some O) (c3:jW (jG 0) Z0 (op2 dIx (jT adw (js (lkp 1) (js (op2 Je (cst (.int 40)) (op2 zm (cst (.int 4)) (lkp 0))) (js (lkp 2) (js (cst (.int 1)) jN))))) (cst (.int 0))) RR [none,some S,some M]=some o3) (t3:acq [.list o3]=some R3)
  (mt:Jo [M,T,O]=some (.list ms)) (rn:aic [M,T,.list ms]=some O) (nO:dNe O O=some (.bool false)) (lm:q0 [.list ms]=some (.int d1)) (a1:zM [T,O]=some (.int d1)) (mt2:Jo [M,O,T]=some (.list ms2)) (lm2:q0 [.list ms2]=some (.int d1))
  (a2:zM [T,R3]=some (.int d2)) (a3:zM [R3,O]=some (.int d3)) (tri:d1<=d2+d3) (e1:dEq (.list ms) (.list [])=some (.bool B1)) (e2:dEq T O=some (.bool B1)) (am:zc [M,T]=some (.list av))
  (lp:jD (Jk 3 (jH (jG 6) (jH (jG 7) (jH (jG 8) qR)))) abS.1 av [some S,some M,some T,some O,some R3,some (.list ms),none,none,none,none,none,none,none,none,none]=some (.nx [some S,some M,some T,some O,some R3,some (.list ms),y6,y7,y8,y9,y10,y11,none,none,none])) (vo:JG [M,O]=some (.int nu)) (fm:zw [M,T,.int nu]=some (.int fw)) (ne:zO [M,T,.int nu]=some NE) (hle:fw<=d1) (vt:JG [M,T]=some (.int v0)) (h0:decide (fw=0)=decide (nu=v0))
  (a4:zM [T,NE]=some (.int fw)) (vn:JG [M,NE]=some (.int nu)) (sp:aaU [M,T,.int nu]=some (.list sl)) (ns:dNe (.list sl) (.list [])=some (.bool B3)) (hf:decide (fw=1)=(decide (fw > 0) && B3)):
  aif.1 [some S,none,none,none,none,none,none,none,none,none,none,none,none,none,none]=some (.rt (.bool true)):=by
 have it:items (.list av)=some av:=rfl
 have nd:∀ i:Int,dNe (.int i) (.int i)=some (.bool false):=fun i=>by rw [acN]; simp
 have nb:∀ B:Bool,dNe (.bool B) (.bool B)=some (.bool false):=fun B=>by cases B <;> kernel_rfl
 have eb:∀ B:Bool,dEq (.bool B) (.bool B)=some (.bool true):=fun B=>by cases B <;> kernel_rfl
 have lt:zi (fun i j=>decide (i < j)) (.int (d2+d3)) (.int d1)=some (.bool false):=by
  show some (PyData.bool (decide (d2+d3 < d1)))=_
  rw [decide_eq_false (by omega)]
 have gt:zi (fun i j=>decide (i > j)) (.int fw) (.int d1)=some (.bool false):=by
  show some (PyData.bool (decide (fw > d1)))=_
  rw [decide_eq_false (by omega)]
 have z1:dEq (.int fw) (.int 0)=some (.bool (decide (nu=v0))):=by rw [Ze,h0]
 have z2:dEq (.int nu) (.int v0)=some (.bool (decide (nu=v0))):=Ze _ _
 have z3:dEq (.int fw) (.int 1)=some (.bool (decide (fw > 0) && B3)):=by rw [Ze,hf]
 have z4:zi (fun i j=>decide (i > j)) (.int fw) (.int 0)=some (.bool (decide (fw > 0))):=rfl
 generalize decide (fw > 0)=B4 at*
 generalize decide (nu=v0)=B5 at*
 simp only [aif]
 refine (jv (ρ1:=[some S,some M,none,none,none,none,none,none,none,none,none,none,none,none,none]) ?_).trans ?_
 ·dsimp? [g0]
 refine (jv (ρ1:=[some S,some M,some T,none,none,none,none,none,none,none,none,none,none,none,none]) ?_).trans ?_
 ·dsimp? [g1]
 refine (jv (ρ1:=[some S,some M,some T,some O,none,none,none,none,none,none,none,none,none,none,none]) ?_).trans ?_
 ·dsimp? [qK,JV,List.map_cons,List.map_nil,ln,rg,fr,c1,t1]
 refine (jv (ρ1:=[some S,some M,some T,some O,some R3,none,none,none,none,none,none,none,none,none,none]) ?_).trans ?_
 ·dsimp? [qK,JV,List.map_cons,List.map_nil,ln,rg,fr,c3,t3]
 refine (jv (ρ1:=[some S,some M,some T,some O,some R3,some (.list ms),none,none,none,none,none,none,none,none,none]) ?_).trans ?_
 ·dsimp? [mt]
 refine (jv (ρ1:=[some S,some M,some T,some O,some R3,some (.list ms),none,none,none,none,none,none,none,none,none]) ?_).trans ?_
 ·dsimp? [rn,nO,lm,a1,nd]
 refine (jv (ρ1:=[some S,some M,some T,some O,some R3,some (.list ms),none,none,none,none,none,none,none,none,none]) ?_).trans ?_
 ·dsimp? [mt2,lm2,lm,nd]
 refine (jv (ρ1:=[some S,some M,some T,some O,some R3,some (.list ms),none,none,none,none,none,none,none,none,none]) ?_).trans ?_
 ·dsimp? [a2,a3,add_int,lm,lt,JL,e1,e2,nb]
 refine (jv (ρ1:=[some S,some M,some T,some O,some R3,some (.list ms),y6,y7,y8,y9,y10,y11,none,none,none]) ?_).trans ?_
 ·dsimp? [Jw,itS,am,it]
  exact lp
 refine (jv (ρ1:=[some S,some M,some T,some O,some R3,some (.list ms),y6,y7,y8,y9,y10,y11,some (.int nu),none,none]) ?_).trans ?_
 ·dsimp? [vo]
 refine (jv (ρ1:=[some S,some M,some T,some O,some R3,some (.list ms),y6,y7,y8,y9,y10,y11,some (.int nu),some (.int fw),none]) ?_).trans ?_
 ·dsimp? [fm]
 refine (jv (ρ1:=[some S,some M,some T,some O,some R3,some (.list ms),y6,y7,y8,y9,y10,y11,some (.int nu),some (.int fw),some NE]) ?_).trans ?_
 ·dsimp? [ne]
 refine (jv (ρ1:=[some S,some M,some T,some O,some R3,some (.list ms),y6,y7,y8,y9,y10,y11,some (.int nu),some (.int fw),some NE]) ?_).trans ?_
 ·dsimp? [lm,gt,z1,vt,z2,nb]
 refine (jv (ρ1:=[some S,some M,some T,some O,some R3,some (.list ms),y6,y7,y8,y9,y10,y11,some (.int nu),some (.int fw),some NE]) ?_).trans ?_
 ·dsimp? [a4,nd,vn]
 cases B4 with
 | true=>
  rw [Bool.true_and] at z3
  dsimp? [aaG,JL,z3,z4,sp,ns,eb]
 | false=>
  rw [Bool.false_and] at z3
  dsimp? [aaG,JL,z3,z4,eb]
section
variable {u e l b:Int}
theorem afJ {ps:List (Int × Int)} (hs:okS u l ps=true) (h1:(ps.length:Int)<=1):∃ p,ps=[p]/\okP u l p=true:=by
 obtain ⟨a,_,hp⟩:=jS hs
 cases ps with
 | nil=>simp at a
 | cons p ps=>
  cases ps with
  | nil=>exact ⟨p,rfl,by simpa using hp⟩
  | cons q ps=>simp at h1; omega
theorem am0 {ns:List Int} (hn:ns.length < 1000000) (h:okN u e l b=true) (ds:List PyData):(∀ d ∈ ds,∃ k:Nat,d= .int (k:Int))->∀ x:Option PyData,∃ qs:List (Int × Int),jW (jG 0) Z0 (op2 dIx (jT adw (js (lkp 1) (js (op2 Je (cst (.int 20)) (op2 zm (cst (.int 4)) (lkp 0))) (js (lkp 2) (js (cst (.int 1)) jN))))) (cst (.int 0))) ds [x,some (scr ns),some (jo u e l b)]=some (qs.map pr)/\qs.length=ds.length/\qs.all (okP u l)=true:=by
 induction ds with
 | nil=>intro _ x; exact ⟨[],rfl,rfl,rfl⟩
 | cons d ds ih=>
  intro hd x
  obtain ⟨k,rfl⟩:=hd d List.mem_cons_self
  obtain ⟨qs,q1,q2,q3⟩:=ih (fun d h=>hd d (List.mem_cons_of_mem _ h)) (some (.int (k:Int)))
  obtain ⟨ps,g,hs,hl⟩:=aaZ hn h (at_:=20+4*(k:Int)) (by omega) (mo:=1) (by omega) (by omega)
  obtain ⟨p,rfl,hp⟩:=afJ hs hl
  have m:zm (.int 4) (.int (k:Int))=some (.int (4*(k:Int))):=jR (by omega)
  have ix:dIx (jh [p]) (.int 0)=some (pr p):=rfl
  have a:Je (.int 20) (.int (4*(k:Int)))=some (.int (20+4*(k:Int))):=rfl
  refine ⟨p::qs,?_,by rw [List.length_cons,List.length_cons,q2],by rw [List.all_cons,hp,q3]; rfl⟩
  rw [List.map_cons]
  generalize jo u e l b=M at*
  generalize scr ns=S at*
  generalize jh [p]=Z at*
  generalize pr p=P at*
  generalize (20+4*(k:Int))=kk at*
  generalize 4*(k:Int)=k4 at*
  dsimp? [jW,Z0,m,a,g,ix,q1]
theorem am1 {ns:List Int} (hn:ns.length < 1000000) (h:okN u e l b=true) (ds:List PyData):(∀ d ∈ ds,∃ k:Nat,d= .int (k:Int))->∀ x:Option PyData,∃ qs:List (Int × Int),jW (jG 0) Z0 (op2 dIx (jT adw (js (lkp 1) (js (op2 Je (cst (.int 40)) (op2 zm (cst (.int 4)) (lkp 0))) (js (lkp 2) (js (cst (.int 1)) jN))))) (cst (.int 0))) ds [x,some (scr ns),some (jo u e l b)]=some (qs.map pr)/\qs.length=ds.length/\qs.all (okP u l)=true:=by
 induction ds with
 | nil=>intro _ x; exact ⟨[],rfl,rfl,rfl⟩
 | cons d ds ih=>
  intro hd x
  obtain ⟨k,rfl⟩:=hd d List.mem_cons_self
  obtain ⟨qs,q1,q2,q3⟩:=ih (fun d h=>hd d (List.mem_cons_of_mem _ h)) (some (.int (k:Int)))
  obtain ⟨ps,g,hs,hl⟩:=aaZ hn h (at_:=40+4*(k:Int)) (by omega) (mo:=1) (by omega) (by omega)
  obtain ⟨p,rfl,hp⟩:=afJ hs hl
  have m:zm (.int 4) (.int (k:Int))=some (.int (4*(k:Int))):=jR (by omega)
  have ix:dIx (jh [p]) (.int 0)=some (pr p):=rfl
  have a:Je (.int 40) (.int (4*(k:Int)))=some (.int (40+4*(k:Int))):=rfl
  refine ⟨p::qs,?_,by rw [List.length_cons,List.length_cons,q2],by rw [List.all_cons,hp,q3]; rfl⟩
  rw [List.map_cons]
  generalize jo u e l b=M at*
  generalize scr ns=S at*
  generalize jh [p]=Z at*
  generalize pr p=P at*
  generalize (40+4*(k:Int))=kk at*
  generalize 4*(k:Int)=k4 at*
  dsimp? [jW,Z0,m,a,g,ix,q1]
theorem afK:∀ (ps qs:List (Int × Int)) (i:Nat),∀ d ∈ mvL i ps qs,shl 2 d
 | [],_,_,d,hd=>by simp [mvL] at hd
 | _::_,[],_,d,hd=>by simp [mvL] at hd
 | p::ps,q::qs,i,d,hd=>by
  simp only [mvL] at hd
  have hm:∀ (r:Int) (k:Bool) (c:Int),shl 2 (mv r k c):=fun r k c=>afw.mpr fun x hx=>by
   simp only [List.mem_cons,List.not_mem_nil,or_false] at hx
   rcases hx with rfl | rfl | rfl
   ·exact aai _
   ·exact ⟨by cases k <;> kernel_rfl,by simp [qr,PyData.depth]⟩
   ·exact aai _
  rcases List.mem_append.mp hd with z | z
  ·rcases List.mem_append.mp z with w | w
   ·rw [List.eq_of_mem_replicate w]; exact hm _ _ _
   ·rw [List.eq_of_mem_replicate w]; exact hm _ _ _
  ·exact afK ps qs (i+1) d z
theorem aiM {ms:List PyData} (h:∀ d ∈ ms,shl 2 d):dEq (.list ms) (.list [])=some (.bool (decide (ms=[])))/\dNe (.list ms) (.list [])=some (.bool (!decide (ms=[]))):=by
 have o1:okD (.list ms)=true:=alM (n:=3) (aj2.mpr h) (by omega)
 have o2:okD (.list [])=true:=rfl
 have e:PyData.eqv (.list ms) (.list [])=decide (ms=[]):=by cases ms <;> simp [PyData.eqv,PyData.eqvAll]
 constructor
 ·show (if okD (.list ms)=true/\okD (.list [])=true then some (PyData.bool (PyData.eqv (.list ms) (.list []))) else none)=_
  rw [if_pos ⟨o1,o2⟩,e]
 ·show (if okD (.list ms)=true/\okD (.list [])=true then some (PyData.bool (!PyData.eqv (.list ms) (.list []))) else none)=_
  rw [if_pos ⟨o1,o2⟩,e]
theorem aiN (H:zR=true) (h:okN u e l b=true) {ps:List (Int × Int)} (hs:okS u l ps=true) (h3:ps.length<=3) {r:Nat}{k:Bool}{c:Int}{p:Int × Int} (hp:ps[r]?=some p) (hc:c=1 ∨ c=-1) (ho:okP u l (shP p k c)=true) {S O R3 L x9 x10 x11:Option PyData}:
  ∃ y9 y10 y11,abS.1 [S,some (jo u e l b),some (jh ps),O,R3,L,some (.int (r:Int)),some (qr k),some (.int c),x9,x10,x11,none,none,none]=some (.nx [S,some (jo u e l b),some (jh ps),O,R3,L,some (.int (r:Int)),some (qr k),some (.int c),y9,y10,y11,none,none,none]):=by
 obtain ⟨a1,a2,a3,a4,a5,a6,a7,a8,a9,a10⟩:=qz h
 obtain ⟨hr,hpe⟩:=List.getElem?_eq_some_iff.mp hp
 obtain ⟨h1,h4,hall⟩:=jS hs
 have hpo:okP u l p=true:=List.all_eq_true.mp hall p (by rw [←hpe]; exact List.getElem_mem _)
 have t:=Qg (e:=e) (b:=b) hs hp k hc
 rw [if_pos ho] at t
 obtain ⟨bm,oz⟩:=t.bm _ rfl
 have hq:(ps.set r (shP p k c))[r]?=some (shP p k c):=by rw [List.getElem?_set_self hr]
 have t2:=Qg (e:=e) (b:=b) oz hq k (c:=0 - c) (by omega)
 have e2:shP (shP p k c) k (0 - c)=p:=by rw [acQ,show c+(0 - c)=0 by omega,adP]
 rw [e2,if_pos hpo,List.set_set,adO hp] at t2
 have im:=agB (ZT H h oz).1 t2.cm
 have hv:=afE b e ps r p (shP p k c) hp
 have hb:(2:Int)<=b/\b<=16:=⟨a8,a9⟩
 have hw:wt e (shP p k c) - wt e p=c*(if k=false then e else 1):=by
  unfold wt shP
  cases k with
  | true=>simp; omega
  | false=>simp [Int.add_mul]; omega
 have hfv:-1000 < c*(if k=false then e else 1)/\c*(if k=false then e else 1) < 1000:=by
  rcases hc with rfl | rfl <;> cases k <;> simp <;> omega
 have p16:∀ j:Nat,j<=2->0 < b ^ j/\b ^ j<=256:=fun j hj=>by
  refine ⟨ZI (by omega) j,Int.le_trans (ail (by omega) a9 j) ?_⟩
  rcases (show j=0 ∨ j=1 ∨ j=2 by omega) with rfl | rfl | rfl <;> decide
 have hbd:∀ j:Nat,j<=(qV 0 (ps.length - 1 - r)).length->-1000000 < c*(if k=false then e else 1)*b ^ j/\c*(if k=false then e else 1)*b ^ j < 1000000:=fun j hj=>by
  rw [Qf] at hj
  obtain ⟨w1,w2⟩:=p16 j (by omega)
  generalize c*(if k=false then e else 1)=s at*
  generalize b ^ j=q at*
  have x1:s*q<=1000*q:=Int.mul_le_mul_of_nonneg_right (by omega) (by omega)
  have x2:-1000*q<=s*q:=Int.mul_le_mul_of_nonneg_right (by omega) (by omega)
  omega
 obtain ⟨y11,lp⟩:=aki (S:=S) (T:=some (jh ps)) (O:=O) (R3:=R3) (L:=L) (x6:=some (.int (r:Int))) (x7:=some (qr k)) (x8:=some (.int c)) (x9:=some (jh (ps.set r (shP p k c)))) (u:=u) (e:=e) (l:=l) hb (qV 0 (ps.length - 1 - r)) (c*(if k=false then e else 1)) x11 hfv trivial hbd
 rw [Qf] at lp
 refine ⟨some (jh (ps.set r (shP p k c))),_,y11,amZ (B:=!k) (ev:=e) (fv:=if k=false then e else 1) (n:=(ps.length:Int)) (aa0 H h hs t) (by cases k <;> kernel_rfl) (ix1 u e l b) (by cases k <;> rfl) (jR (by omega)) (zP ps) (RR:=qV 0 (ps.length - 1 - r)) ?_ lp (abW H h oz) (Jr H h oz) (Jr H h hs) ?_ ?_ im (aa0 H h oz t2) (by rw [afq]; simp)⟩
 ·rw [show (ps.length:Int) - 1 - (r:Int)=((ps.length - 1 - r:Nat):Int) by omega]
  exact aiw (by omega)
 ·rw [hv,hw]; omega
 ·have:=qP ps (ps.set r (shP p k c)) h4
  rw [acR ps r p _ hp,aiJ p k hc] at this
  exact this
end
theorem agL (H:zR=true) (ns:List Int) (hn:ns.length < 1000000):ajW [scr ns]=some (.bool true):=by
 obtain ⟨u,e,l,b,d0,om⟩:=aeD ns hn 0 (by omega)
 have h:=ajX om
 obtain ⟨a1,a2,a3,a4,a5,a6,a7,a8,a9,a10⟩:=qz h
 obtain ⟨ps,d1,hs,hr3⟩:=aaZ hn h (at_:=10) (by omega) (mo:=3) (by omega) (by omega)
 obtain ⟨h1,h4,hp⟩:=jS hs
 have hlen:(qV 0 ps.length).length=ps.length:=Qf _
 have hnat:∀ d ∈ qV 0 ps.length,∃ k:Nat,d= .int (k:Int):=fun d hd=>by
  obtain ⟨i,hi,e'⟩:=List.getElem_of_mem hd
  have:(qV 0 ps.length)[i]?=some d:=by rw [List.getElem?_eq_getElem hi,e']
  exact ⟨i,(aaY this).2⟩
 obtain ⟨qs,c1,ql,qp⟩:=am0 hn h (qV 0 ps.length) hnat none
 obtain ⟨rs,c3,rl,rp'⟩:=am1 hn h (qV 0 ps.length) hnat none
 rw [hlen] at ql rl
 have hq:okS u l qs=true:=aaX (by omega) (by omega) qp
 have hr:okS u l rs=true:=aaX (by omega) (by omega) rp'
 have vq0:=alG (e:=e) h qp
 have vqb:=alL (e:=e) h qp
 have p16:(2:Int)*16 ^ qs.length<=8192:=by
  rw [ql]
  rcases (show ps.length=1 ∨ ps.length=2 ∨ ps.length=3 by omega) with z | z | z <;> rw [z] <;> decide
 have hto:=ZU H h hs hq ql.symm
 have hto2:=ZU H h hq hs ql
 have hrn:=aj7 H h hs (ake (e:=e) (b:=b) hs hq ql.symm)
 obtain ⟨dn,gn,near⟩:=adU H h hs (by omega) vq0 (by omega)
 obtain ⟨t,ht,htle⟩:=near.2 qs ⟨ql,qp,rfl⟩
 subst ht
 obtain ⟨tl,tp,tv⟩:=near.1 t rfl
 have htok:okS u l t=true:=aaX (by omega) (by omega) tp
 have fm:=aeL gn rfl (qP ps t h4)
 obtain ⟨en,_⟩:=aiM (afK ps qs 0)
 have far0:decide (mvL 0 ps qs=[])=decide (ps=qs):=by
  have ml:=aak 0 ps qs
  rw [decide_eq_decide]
  constructor
  ·intro z
   rw [z] at ml
   exact Zh ql.symm (by simpa using ml.symm)
  ·intro z
   rw [z,Zi] at ml
   rw [z]
   exact List.length_eq_zero_iff.mp (by omega)
 rw [far0] at en
 have msl:∀ d ∈ ZV u e l b ps (val b e qs),shl 2 d:=fun d hd=>(adH hs (Nat.le_refl _) (List.mem_filter.mp hd).1).2.2
 obtain ⟨_,ns2⟩:=aiM msl
 have fnn:=aa3 ps t
 have hslip:decide (far ps t=1)=(decide (far ps t > 0) && !decide (ZV u e l b ps (val b e qs)=[])):=by
  by_cases z:far ps t=1
  ·rw [decide_eq_true z,decide_eq_true (show far ps t > 0 by omega),Bool.true_and]
   obtain ⟨r,p,k,c,p1,p2,p3⟩:=afF tl.symm z
   have ho:okP u l (shP p k c)=true:=by
    obtain ⟨hr',_⟩:=List.getElem?_eq_some_iff.mp p1
    refine List.all_eq_true.mp tp _ ?_
    rw [p3]
    exact List.mem_of_getElem? (List.getElem?_set_self hr')
   have hm:mv (r:Int) k c ∈ ZV u e l b ps (val b e qs):=by
    refine List.mem_filter.mpr ⟨(ZM hs).mpr ⟨r,k,c,p,p1,p2,ho,rfl⟩,?_⟩
    have th:=Qg (e:=e) (b:=b) hs p1 k p2
    rw [if_pos ho,←p3] at th
    rw [aeM th,tv]
    simp
   have:ZV u e l b ps (val b e qs) ≠ []:=fun z=>by rw [z] at hm; cases hm
   rw [decide_eq_false this]; rfl
  ·rw [decide_eq_false z]
   by_cases w:far ps t > 0
   ·rw [decide_eq_true w,Bool.true_and]
    have:ZV u e l b ps (val b e qs)=[]:=by
     cases hsl:ZV u e l b ps (val b e qs) with
     | nil=>rfl
     | cons d ds=>
      have hd:d ∈ ZV u e l b ps (val b e qs):=by rw [hsl]; exact List.mem_cons_self
      obtain ⟨m1,m2⟩:=List.mem_filter.mp hd
      obtain ⟨r,k,c,p,p1,p2,ho,rfl⟩:=(ZM hs).mp m1
      have th:=Qg (e:=e) (b:=b) hs p1 k p2
      rw [if_pos ho] at th
      rw [aeM th] at m2
      have m2:=of_decide_eq_true m2
      obtain ⟨_,_,okq⟩:=jS (th.bm _ rfl).2
      obtain ⟨t',ht',hle⟩:=near.2 (ps.set r (shP p k c)) ⟨by rw [List.length_set],okq,m2⟩
      cases ht'
      rw [acR ps r p _ p1,aiJ p k p2] at hle
      omega
    rw [decide_eq_true this]; rfl
   ·rw [decide_eq_false w]; rfl
 obtain ⟨ρ',lp,y6,y7,y8,y9,y10,y11,e'⟩:=Qe (ga:=Jk 3 (jH (jG 6) (jH (jG 7) (jH (jG 8) qR)))) (F:=abS.1) (fun _ ρ=>∃ y6 y7 y8 y9 y10 y11,ρ=[some (scr ns),some (jo u e l b),some (jh ps),some (jh qs),some (jh rs),some (.list (mvL 0 ps qs)),y6,y7,y8,y9,y10,y11,none,none,none]) (ZK (jo u e l b) (jh ps) ps.length) 0
  [some (scr ns),some (jo u e l b),some (jh ps),some (jh qs),some (jh rs),some (.list (mvL 0 ps qs)),none,none,none,none,none,none,none,none,none] ⟨none,none,none,none,none,none,rfl⟩ (fun j d ρ hd hi=>by
   obtain ⟨y6,y7,y8,y9,y10,y11,rfl⟩:=hi
   obtain ⟨r,k,c,p,p1,p2,ho,rfl⟩:=(ZM hs).mp (List.mem_of_getElem? hd)
   obtain ⟨z9,z10,z11,st⟩:=aiN H h hs (by omega) p1 p2 ho (S:=some (scr ns)) (O:=some (jh qs)) (R3:=some (jh rs)) (L:=some (.list (mvL 0 ps qs))) (x9:=y9) (x10:=y10) (x11:=y11)
   exact ⟨_,_,rfl,st,_,_,_,_,_,_,rfl⟩)
 subst e'
 have lm:q0 [.list (mvL 0 ps qs)]=some (.int (far ps qs)):=by rw [adJ,aak]
 have lm2:q0 [.list (mvL 0 qs ps)]=some (.int (far ps qs)):=by rw [adJ,aak,adK]
 have vs:=Jr H h hs
 refine jQ rfl ?_
 show aif.1 [some (scr ns),none,none,none,none,none,none,none,none,none,none,none,none,none,none]=_
 exact aiL d0 d1 (zP ps) (aiw (by omega)) (agA (by rw [hlen]; omega)) c1 rfl c3 rfl hto hrn (show dNe (jh qs) (jh qs)=some (.bool false) by rw [afq]; simp) lm (qP ps qs h4) hto2 lm2 (qP ps rs h4) (qP rs qs (by omega)) (afB ps qs rs rl.symm (by omega)) en (show dEq (jh ps) (jh qs)=some (.bool (decide (ps=qs))) from ajY ps qs) (Zg H h hs) lp (Jr H h hq) fm gn htle vs (by
   rw [decide_eq_decide]
   constructor
   ·intro z
    rw [Zh tl.symm z,tv]
   ·intro z
    obtain ⟨t',ht',hle⟩:=near.2 ps ⟨rfl,hp,z.symm⟩
    cases ht'
    rw [Zi] at hle
    omega) (qP ps t h4) (by have:=Jr H h htok; rw [tv] at this; exact this) (agK H h hs vq0 (by omega)) ns2 hslip
end Rods
end
section
namespace BX
open PySem L2
open PyProof.Rows hiding St
end BX
namespace Rods
open PySem L2 BX
open PyProof.Rows hiding St
structure Tops (K:PySem.W.Frag):Prop where
 isWhole:jU K "is_whole" QZ
 rodWorth:jU K "rod_worth" Qm
 allRods:jU K "all_rods" Q1
 hasAll:jU K "has_all_digits" Qn
 isManner:jU K "is_manner" Qo
 check:jU K "check_manner" act
 chkNum:jU K "check_number" zr
 num:jU K "number_on" zz
 full:jU K "full_rods" Qp
 last:jU K "last_rods" zA
 isRod:jU K "is_rod" acx
 isSet:jU K "is_setting" zK
 chkSet:jU K "check_setting" zf
 cell:jU K "_law_cell" afm
 drawn:jU K "_law_drawn" acz
 manner:jU K "_law_manner" Z6
 value:jU K "value" acy
 setting:jU K "_law_setting" Jm
 NamesBeads:jU K "names_beads" zX
 Pushed:jU K "pushed" Z8
 CanMove:jU K "can_move" Q6
 IsMove:jU K "is_move" aaa
 BehindMove:jU K "behind_move" zZ
 Moved:jU K "moved" acE
 AllMoves:jU K "all_moves" qw
 Run:jU K "run" ags
 RodApart:jU K "rod_apart" Qu
 Apart:jU K "apart" aaS
 DeckMoves:jU K "deck_moves" JH
 MovesTo:jU K "moves_to" zl
 NearestEnds:jU K "nearest_ends" qi
 Nearest:jU K "nearest" Jp
 FewestMoves:jU K "fewest_moves" zu
 Slips:jU K "slips" aaT
 law:jU K "law" abj
structure Consts (K:PySem.W.Frag) (mg:Str->Option Value):Prop where
 b:Bare mg
 least:GC K mg "LEAST_PARTS" (.tuple [.int 0,.int 1,.int 0,.int 2])
 most:GC K mg "MOST_PARTS" (.tuple [.int 3,.int 16,.int 12,.int 16])
 mostRods:GC K mg "MOST_RODS" (.int 4)
 mostNumber:GC K mg "MOST_NUMBER" (.int 99999)
 decks:GC K mg "DECKS" (.tuple [.str "upper",.str "lower"])
 ways:GC K mg "WAYS" (.tuple [.int 1,.int (-1)])
theorem aeO:jt "is_whole" QZ ["thing","least","most"]:=fun _ _ _ _ _ _ us hl=>by obtain ⟨v0,v1,v2,rfl⟩:=QM us hl; rfl
theorem adW:jt "rod_worth" Qm ["manner","rod"]:=fun _ _ _ _ _ _ us hl=>by obtain ⟨v0,v1,rfl⟩:=QB us hl; rfl
theorem aeP:jt "all_rods" Q1 ["manner"]:=fun _ _ _ _ _ _ us hl=>by obtain ⟨v0,rfl⟩:=afT us hl; rfl
theorem agM:jt "has_all_digits" Qn ["manner"]:=fun _ _ _ _ _ _ us hl=>by obtain ⟨v0,rfl⟩:=afT us hl; rfl
theorem adX:jt "is_manner" Qo ["thing"]:=fun _ _ _ _ _ _ us hl=>by obtain ⟨v0,rfl⟩:=afT us hl; rfl
theorem aiO:jt "check_manner" act ["thing"]:=fun _ _ _ _ _ _ us hl=>by obtain ⟨v0,rfl⟩:=afT us hl; rfl
theorem agN:jt "check_number" zr ["number"]:=fun _ _ _ _ _ _ us hl=>by obtain ⟨v0,rfl⟩:=afT us hl; rfl
theorem alV:jt "number_on" zz ["manner","setting"]:=fun _ _ _ _ _ _ us hl=>by obtain ⟨v0,v1,rfl⟩:=QB us hl; rfl
theorem akj:jt "full_rods" Qp ["manner","rods"]:=fun _ _ _ _ _ _ us hl=>by obtain ⟨v0,v1,rfl⟩:=QB us hl; rfl
theorem akk:jt "last_rods" zA ["manner","ahead","number"]:=fun _ _ _ _ _ _ us hl=>by obtain ⟨v0,v1,v2,rfl⟩:=QM us hl; rfl
theorem aiP:jt "is_rod" acx ["manner","thing"]:=fun _ _ _ _ _ _ us hl=>by obtain ⟨v0,v1,rfl⟩:=QB us hl; rfl
theorem aiQ:jt "is_setting" zK ["manner","thing"]:=fun _ _ _ _ _ _ us hl=>by obtain ⟨v0,v1,rfl⟩:=QB us hl; rfl
theorem agO:jt "check_setting" zf ["manner","thing"]:=fun _ _ _ _ _ _ us hl=>by obtain ⟨v0,v1,rfl⟩:=QB us hl; rfl
theorem akl:jt "_law_cell" afm ["_law_script","_law_k"]:=fun _ _ _ _ _ _ us hl=>by obtain ⟨v0,v1,rfl⟩:=QB us hl; rfl
theorem aiR:jt "_law_drawn" acz ["_law_script","_law_k","_law_many"]:=fun _ _ _ _ _ _ us hl=>by obtain ⟨v0,v1,v2,rfl⟩:=QM us hl; rfl
theorem agP:jt "_law_manner" Z6 ["_law_script","_law_at"]:=fun _ _ _ _ _ _ us hl=>by obtain ⟨v0,v1,rfl⟩:=QB us hl; rfl
theorem aiS:jt "value" acy ["manner","setting"]:=fun _ _ _ _ _ _ us hl=>by obtain ⟨v0,v1,rfl⟩:=QB us hl; rfl
theorem aeQ:jt "_law_setting" Jm ["_law_script","_law_at","_law_manner_here","_law_most"]:=fun _ _ _ _ _ _ us hl=>by obtain ⟨v0,v1,v2,v3,rfl⟩:=amk us hl; rfl
theorem abm:jt "names_beads" zX ["setting","thing"]:=fun _ _ _ _ _ _ us hl=>by obtain ⟨v0,v1,rfl⟩:=QB us hl; rfl
theorem agQ:jt "pushed" Z8 ["rod","deck","by"]:=fun _ _ _ _ _ _ us hl=>by obtain ⟨v0,v1,v2,rfl⟩:=QM us hl; rfl
theorem aeR:jt "can_move" Q6 ["manner","setting","thing"]:=fun _ _ _ _ _ _ us hl=>by obtain ⟨v0,v1,v2,rfl⟩:=QM us hl; rfl
theorem agR:jt "is_move" aaa ["manner","setting","thing"]:=fun _ _ _ _ _ _ us hl=>by obtain ⟨v0,v1,v2,rfl⟩:=QM us hl; rfl
theorem abn:jt "behind_move" zZ ["setting","move"]:=fun _ _ _ _ _ _ us hl=>by obtain ⟨v0,v1,rfl⟩:=QB us hl; rfl
theorem aiT:jt "moved" acE ["manner","setting","move"]:=fun _ _ _ _ _ _ us hl=>by obtain ⟨v0,v1,v2,rfl⟩:=QM us hl; rfl
theorem adY:jt "all_moves" qw ["manner","setting"]:=fun _ _ _ _ _ _ us hl=>by obtain ⟨v0,v1,rfl⟩:=QB us hl; rfl
theorem alW:jt "run" ags ["manner","setting","moves"]:=fun _ _ _ _ _ _ us hl=>by obtain ⟨v0,v1,v2,rfl⟩:=QM us hl; rfl
theorem adZ:jt "rod_apart" Qu ["rod","goal"]:=fun _ _ _ _ _ _ us hl=>by obtain ⟨v0,v1,rfl⟩:=QB us hl; rfl
theorem aiU:jt "apart" aaS ["one","other"]:=fun _ _ _ _ _ _ us hl=>by obtain ⟨v0,v1,rfl⟩:=QB us hl; rfl
theorem acU:jt "deck_moves" JH ["at","deck","change"]:=fun _ _ _ _ _ _ us hl=>by obtain ⟨v0,v1,v2,rfl⟩:=QM us hl; rfl
theorem aeS:jt "moves_to" zl ["manner","one","other"]:=fun _ _ _ _ _ _ us hl=>by obtain ⟨v0,v1,v2,rfl⟩:=QM us hl; rfl
theorem aa7:jt "nearest_ends" qi ["manner","setting","ahead","ends"]:=fun _ _ _ _ _ _ us hl=>by obtain ⟨v0,v1,v2,v3,rfl⟩:=amk us hl; rfl
theorem aeT:jt "nearest" Jp ["manner","setting","number"]:=fun _ _ _ _ _ _ us hl=>by obtain ⟨v0,v1,v2,rfl⟩:=QM us hl; rfl
theorem aa8:jt "fewest_moves" zu ["manner","setting","number"]:=fun _ _ _ _ _ _ us hl=>by obtain ⟨v0,v1,v2,rfl⟩:=QM us hl; rfl
theorem aiV:jt "slips" aaT ["manner","setting","number"]:=fun _ _ _ _ _ _ us hl=>by obtain ⟨v0,v1,v2,rfl⟩:=QM us hl; rfl
theorem anJ (HT:zR=true) {P:Program}{w:World}{K:PySem.W.Frag}{h:Heap}{mg:Str->Option Value}{base:Heap} (X:K.In h) (G:h.Ns mainGlobals mg) (T:Tops K) (C:Consts K mg):CLaw P w K mg base:=by
 have c_isWhole:jl P w K mg base "is_whole" ["thing","least","most"] 1 3 jO:=T.isWhole.callee X G aeO fun f fd F=>jA F aev fun cdv A outer s H E hr=>Q2.2 P w K mg base f cdv A outer s H E C.b hr
 have c_rodWorth:jl P w K mg base "rod_worth" ["manner","rod"] 1 2 qE:=T.rodWorth.callee X G adW fun f fd F=>jA F adq fun cdv A outer s H E hr=>Zx.2 P w K mg base f cdv A outer s H E trivial hr
 have c_allRods:jl P w K mg base "all_rods" ["manner"] 1 1 zj:=T.allRods.callee X G aeP fun f fd F=>aew F C.b
 have c_hasAll:jl P w K mg base "has_all_digits" ["manner"] 2 1 Q4:=T.hasAll.callee X G agM fun f fd F=>jA F abP fun cdv A outer s H E hr=>acs.2 P w K mg base f cdv A outer s H E ⟨C.b,c_allRods,c_rodWorth⟩ hr
 have c_isManner:jl P w K mg base "is_manner" ["thing"] 3 1 zy:=T.isManner.callee X G adX fun f fd F=>jA F zW fun cdv A outer s H E hr=>Zy.2 P w K mg base f cdv A outer s H E ⟨C.b,C.least,C.most,c_isWhole,c_hasAll⟩ hr
 have c_check:jl P w K mg base "check_manner" ["thing"] 4 1 Zz:=T.check.callee X G aiO fun f fd F=>jA F ah4 fun cdv A outer s H E hr=>aex.2 P w K mg base f cdv A outer s H E ⟨c_isManner⟩ hr
 have c_chkNum:jl P w K mg base "check_number" ["number"] 2 1 JF:=T.chkNum.callee X G agN fun f fd F=>jA F ago fun cdv A outer s H E hr=>acw.2 P w K mg base f cdv A outer s H E ⟨c_isWhole,C.mostNumber⟩ hr
 have c_num:jl P w K mg base "number_on" ["manner","setting"] 2 2 adu:=T.num.callee X G alV fun f fd F=>jA F acu fun cdv A outer s H E hr=>ajP.2 P w K mg base f cdv A outer s H E ⟨c_rodWorth⟩ hr
 have c_full:jl P w K mg base "full_rods" ["manner","rods"] 1 2 ah5:=T.full.callee X G akj fun f fd F=>jA F ajQ fun cdv A outer s H E hr=>afi.2 P w K mg base f cdv A outer s H E trivial hr
 have c_last:jl P w K mg base "last_rods" ["manner","ahead","number"] 3 3 afl:=T.last.callee X G akk fun f fd F=>jA F Qq fun cdv A outer s H E hr=>afk.2 P w K mg base f cdv A outer s H E ⟨c_allRods,c_rodWorth,c_num,c_full⟩ hr
 have c_isRod:jl P w K mg base "is_rod" ["manner","thing"] 2 2 Jf:=T.isRod.callee X G aiP fun f fd F=>jA F ah6 fun cdv A outer s H E hr=>ZA.2 P w K mg base f cdv A outer s H E ⟨C.b,c_isWhole⟩ hr
 have c_isSet:jl P w K mg base "is_setting" ["manner","thing"] 5 2 ZC:=T.isSet.callee X G aiQ fun f fd F=>jA F ah7 fun cdv A outer s H E hr=>ZB.2 P w K mg base f cdv A outer s H E ⟨C.b,c_check,c_isRod,C.mostRods⟩ hr
 have c_chkSet:jl P w K mg base "check_setting" ["manner","thing"] 6 2 jV:=T.chkSet.callee X G agO fun f fd F=>jA F agp fun cdv A outer s H E hr=>Z5.2 P w K mg base f cdv A outer s H E ⟨c_isSet⟩ hr
 have c_cell:jl P w K mg base "_law_cell" ["_law_script","_law_k"] 1 2 adv:=T.cell.callee X G akl fun f fd F=>jA F ajR fun cdv A outer s H E hr=>afn.2 P w K mg base f cdv A outer s H E C.b hr
 have c_drawn:jl P w K mg base "_law_drawn" ["_law_script","_law_k","_law_many"] 2 3 aaQ:=T.drawn.callee X G aiR fun f fd F=>jA F aaP fun cdv A outer s H E hr=>aez.2 P w K mg base f cdv A outer s H E ⟨c_cell⟩ hr
 have c_manner:jl P w K mg base "_law_manner" ["_law_script","_law_at"] 3 2 Qs:=T.manner.callee X G agP fun f fd F=>jA F za fun cdv A outer s H E hr=>Z7.2 P w K mg base f cdv A outer s H E ⟨C.b,c_drawn⟩ hr
 have c_value:jl P w K mg base "value" ["manner","setting"] 7 2 JG:=T.value.callee X G aiS fun f fd F=>jA F ah8 fun cdv A outer s H E hr=>aey.2 P w K mg base f cdv A outer s H E ⟨c_chkSet,c_num⟩ hr
 have c_setting:jl P w K mg base "_law_setting" ["_law_script","_law_at","_law_manner_here","_law_most"] 3 4 adw:=T.setting.callee X G aeQ fun f fd F=>jA F ZF fun cdv A outer s H E hr=>ajT.2 P w K mg base f cdv A outer s H E ⟨C.b,c_drawn⟩ hr
 have c_NamesBeads:jl P w K mg base "names_beads" ["setting","thing"] 2 2 zY:=T.NamesBeads.callee X G abm fun f fd F=>jA F abi fun cdv A outer s H E hr=>qB.2 P w K mg base f cdv A outer s H E ⟨C.b,c_isWhole,C.decks⟩ hr
 have c_Pushed:jl P w K mg base "pushed" ["rod","deck","by"] 1 3 Z9:=T.Pushed.callee X G agQ fun f fd F=>jA F agq fun cdv A outer s H E hr=>Q5.2 P w K mg base f cdv A outer s H E ⟨trivial⟩ hr
 have c_CanMove:jl P w K mg base "can_move" ["manner","setting","thing"] 3 3 qS:=T.CanMove.callee X G aeR fun f fd F=>jA F aeA fun cdv A outer s H E hr=>Q7.2 P w K mg base f cdv A outer s H E ⟨c_NamesBeads,c_isRod,c_Pushed⟩ hr
 have c_IsMove:jl P w K mg base "is_move" ["manner","setting","thing"] 7 3 aac:=T.IsMove.callee X G agR fun f fd F=>jA F agr fun cdv A outer s H E hr=>aab.2 P w K mg base f cdv A outer s H E ⟨c_chkSet,c_CanMove⟩ hr
 have c_BehindMove:jl P w K mg base "behind_move" ["setting","move"] 2 2 qm:=T.BehindMove.callee X G abn fun f fd F=>jA F QA fun cdv A outer s H E hr=>Ja.2 P w K mg base f cdv A outer s H E ⟨c_Pushed⟩ hr
 have c_Moved:jl P w K mg base "moved" ["manner","setting","move"] 7 3 Qa:=T.Moved.callee X G aiT fun f fd F=>jA F ah9 fun cdv A outer s H E hr=>acF.2 P w K mg base f cdv A outer s H E ⟨c_chkSet,c_CanMove,c_BehindMove⟩ hr
 have c_AllMoves:jl P w K mg base "all_moves" ["manner","setting"] 7 2 zc:=T.AllMoves.callee X G adY fun f fd F=>jA F zk fun cdv A outer s H E hr=>Qt.2 P w K mg base f cdv A outer s H E ⟨C.b,c_chkSet,c_CanMove,C.decks,C.ways⟩ hr
 have c_Run:jl P w K mg base "run" ["manner","setting","moves"] 8 3 aic:=T.Run.callee X G alW fun f fd F=>jA F acG fun cdv A outer s H E hr=>ajV.2 P w K mg base f cdv A outer s H E ⟨C.b,c_chkSet,c_Moved⟩ hr
 have c_RodApart:jl P w K mg base "rod_apart" ["rod","goal"] 1 2 Qw:=T.RodApart.callee X G adZ fun f fd F=>jA F ady fun cdv A outer s H E hr=>Qv.2 P w K mg base f cdv A outer s H E ⟨C.b⟩ hr
 have c_Apart:jl P w K mg base "apart" ["one","other"] 2 2 zM:=T.Apart.callee X G aiU fun f fd F=>jA F aid fun cdv A outer s H E hr=>acI.2 P w K mg base f cdv A outer s H E ⟨C.b,c_RodApart⟩ hr
 have c_DeckMoves:jl P w K mg base "deck_moves" ["at","deck","change"] 1 3 QK:=T.DeckMoves.callee X G acU fun f fd F=>jA F Q8 fun cdv A outer s H E hr=>zN.2 P w K mg base f cdv A outer s H E ⟨C.b⟩ hr
 have c_MovesTo:jl P w K mg base "moves_to" ["manner","one","other"] 7 3 Jo:=T.MovesTo.callee X G aeS fun f fd F=>jA F zd fun cdv A outer s H E hr=>Q9.2 P w K mg base f cdv A outer s H E ⟨C.b,c_chkSet,c_DeckMoves,C.decks⟩ hr
 have c_NearestEnds:jl P w K mg base "nearest_ends" ["manner","setting","ahead","ends"] 4 4 qU:=T.NearestEnds.callee X G aa7 fun f fd F=>jA F j7 fun cdv A outer s H E hr=>zt.2 P w K mg base f cdv A outer s H E ⟨c_last,c_Apart⟩ hr
 have c_Nearest:jl P w K mg base "nearest" ["manner","setting","number"] 7 3 zO:=T.Nearest.callee X G aeT fun f fd F=>jA F JI fun cdv A outer s H E hr=>Zb.2 P w K mg base f cdv A outer s H E ⟨C.b,c_chkSet,c_chkNum,c_NearestEnds⟩ hr
 have c_FewestMoves:jl P w K mg base "fewest_moves" ["manner","setting","number"] 8 3 zw:=T.FewestMoves.callee X G aa8 fun f fd F=>jA F Qc fun cdv A outer s H E hr=>zv.2 P w K mg base f cdv A outer s H E ⟨c_Nearest,c_Apart⟩ hr
 have c_Slips:jl P w K mg base "slips" ["manner","setting","number"] 8 3 aaU:=T.Slips.callee X G aiV fun f fd F=>jA F adA fun cdv A outer s H E hr=>acK.2 P w K mg base f cdv A outer s H E ⟨c_chkSet,c_chkNum,c_AllMoves,c_num,c_BehindMove⟩ hr
 exact ⟨C.b,c_manner,c_setting,c_MovesTo,c_Apart,c_Run,c_AllMoves,c_Moved,c_value,c_isSet,c_IsMove,c_FewestMoves,c_Nearest,c_Slips⟩
theorem alX (HT:zR=true) {P:Program}{w:World}{K:PySem.W.Frag}{h:Heap}{mg:Str->Option Value}{fa:Addr} (X:K.In h) (G:h.Ns mainGlobals mg) (hfa:mg "law"=some (.ref fa)) (T:Tops K) (C:Consts K mg):
  ∃ fd:FuncData,(∀ (s:Shared) (v:Value),BindsTo s fd ⟨[v],[]⟩ [("_law_script",v)])/\∀ base:Heap,K.In base->base.Ns mainGlobals mg->FnOk P w K mg base CX0 9 fa fd ["_law_script"] (Pur K 1 ajW):=by
 have Q:∀ base:Heap,CLaw P w K mg base:=fun base=>anJ HT X G T C
 obtain ⟨f,oc,od,an,kV,doc,pm,cdv,ct,osl,a,l,c,kp⟩:=T.law
 have e:=hfa.symm.trans (PySem.W.mg_of X G a)
 cases e
 have F1:=aha (st:=abj) l c kp
 exact ⟨_,fun s v=> .of_eq rfl,fun base _ _=>jA F1 qG fun cdv A outer s H E hr=>aif.2 P w K mg base fa cdv A outer s H E (Q base) hr⟩
theorem am2 (HT:zR=true) (K:PySem.W.Frag) (H:Hp) (a:Addr) (ns:List Int) (hl:ns.length<=63) (hS:SqL K H a (ns.map V.int)):Pur K 1 ajW [.ref a] H (fun v _=>v= .bl true) fun _ _ _=>False:=
 ⟨[scr ns],.bool true,rfl,⟨_,_,rfl,⟨a,rfl,.inl ⟨ns,hS,rfl⟩⟩,rfl⟩,agL HT ns (by omega),fun v H' _ r=>r⟩
theorem anK (HT:zR=true) {l:PySem.W.OpenLaw}{q:Program}{loose:List Str}{XP:(Str->Option Value)->Heap->Prop}{YP:World->Heap->Prop}{d:DefRec}{K:Params->PySem.W.Frag} (hn:l.most=some 63) (hdf:d.params.defaults=[])
  (hY:∀ (w:World) (h:Heap),YP w h->(K w.params).In h) (hnm:d.name="law")
  (F:∀ (w:World) (mg:Str->Option Value) (h:Heap),(K w.params).In h->h.Ns mainGlobals mg->Tops (K w.params)/\Consts (K w.params) mg):
  PySem.W.WalkO q loose XP YP l.row.toRowW d [] (fun f vs=>PySem.call f vs):=
 L2.ajc (n:=63) (k:=9) (x:="_law_script") (CX:=fun _=>CX0) (sp:=fun w=>Pur (K w.params) 1 ajW) hn (by decide) hdf ⟨rfl,by decide,by decide⟩ hY (fun w mg fa h KX G hm=>by
  obtain ⟨T,C⟩:=F w mg h KX G
  rw [hnm] at hm
  exact alX HT KX G hm T C) (fun w H a ns hl _ hS=>am2 HT (K w.params) H a ns hl hS) fun _ _ _ _ _ z=>z
theorem akm {K:PySem.W.Frag}{mg:Str->Option Value}{h:Heap} (X:K.In h) (G:h.Ns mainGlobals mg) (z1:PySem.W.nsIn K mainGlobals "isinstance"=some none) (z2:PySem.W.nsIn K mainGlobals "bool"=some none) (z3:PySem.W.nsIn K mainGlobals "int"=some none) (z4:PySem.W.nsIn K mainGlobals "tuple"=some none) (z5:PySem.W.nsIn K mainGlobals "zip"=some none) (z6:PySem.W.nsIn K mainGlobals "range"=some none) (z7:PySem.W.nsIn K mainGlobals "all"=some none) (z8:PySem.W.nsIn K mainGlobals "len"=some none) (z9:PySem.W.nsIn K mainGlobals "max"=some none) (z10:PySem.W.nsIn K mainGlobals "min"=some none) (z11:PySem.W.nsIn K mainGlobals "sum"=some none) (z12:PySem.W.nsIn K mainGlobals "sorted"=some none) (z13:PySem.W.nsIn K mainGlobals "abs"=some none) (z14:PySem.W.nsIn K mainGlobals "list"=some none) (z15:PySem.W.nsIn K mainGlobals "enumerate"=some none) (z16:PySem.W.nsIn K mainGlobals "ValueError"=some none) (z17:PySem.W.nsIn K mainGlobals "str"=some none) (z18:PySem.W.nsIn K mainGlobals "set"=some none) (z19:PySem.W.nsIn K mainGlobals "dict"=some none):Bare mg:=
 have f:∀ {x:Str},PySem.W.nsIn K mainGlobals x=some none->mg x=none:=fun z=>PySem.W.mg_none_of X G z
 ⟨f z1,f z2,f z3,f z4,f z5,f z6,f z7,f z8,f z9,f z10,f z11,f z12,f z13,f z14,f z15,f z16,f z17,f z18,f z19⟩
theorem gc4 {K:PySem.W.Frag}{mg:Str->Option Value}{h:Heap}{x:Str}{a:Addr}{od:Option Addr}{n:Nat}{osl:Array (Option Value)}{i1 i2 i3 i4:Int}{t1 t2 t3 t4:Tok} (X:K.In h) (G:h.Ns mainGlobals mg) (e:PySem.W.nsIn K mainGlobals x=some (some (.ref a)))
  (l:K.lookup a=some ⟨.type "tuple",od,.seq #[.int i1 t1,.int i2 t2,.int i3 t3,.int i4 t4] n,osl⟩):GC K mg x (.tuple [.int i1,.int i2,.int i3,.int i4]):=
 aaC X G e l rfl ⟨_,_,[.int i1,.int i2,.int i3,.int i4],rfl,(by show 4<=sizeLine; rw [sizeLine_eq]; decide),.cons ⟨_,rfl⟩ (.cons ⟨_,rfl⟩ (.cons ⟨_,rfl⟩ (.cons ⟨_,rfl⟩ .nil))),fun H=>⟨_,_,rfl,rfl,_,_,rfl,rfl,_,_,rfl,rfl,_,_,rfl,rfl,rfl⟩⟩
theorem gcI {K:PySem.W.Frag}{mg:Str->Option Value}{h:Heap}{x:Str}{i:Int}{t:Tok} (X:K.In h) (G:h.Ns mainGlobals mg) (e:PySem.W.nsIn K mainGlobals x=some (some (.int i t))):GC K mg x (.int i):=
 ⟨.int i,_,PySem.W.mg_of X G e,⟨t,rfl⟩,fun H=>rfl⟩
theorem aiW {K:PySem.W.Frag}{mg:Str->Option Value}{h:Heap}{x:Str}{a:Addr}{od:Option Addr}{n:Nat}{osl:Array (Option Value)}{i1 i2:Str}{t1 t2:Tok} (X:K.In h) (G:h.Ns mainGlobals mg) (e:PySem.W.nsIn K mainGlobals x=some (some (.ref a)))
  (l:K.lookup a=some ⟨.type "tuple",od,.seq #[.str i1 t1,.str i2 t2] n,osl⟩):GC K mg x (.tuple [.str i1,.str i2]):=
 aaC X G e l rfl ⟨_,_,[.str i1,.str i2],rfl,(by show 2<=sizeLine; rw [sizeLine_eq]; decide),.cons ⟨_,rfl⟩ (.cons ⟨_,rfl⟩ .nil),fun H=>⟨_,_,rfl,rfl,_,_,rfl,rfl,rfl⟩⟩
theorem akn {K:PySem.W.Frag}{mg:Str->Option Value}{h:Heap}{x:Str}{a:Addr}{od:Option Addr}{n:Nat}{osl:Array (Option Value)}{i1 i2:Int}{t1 t2:Tok} (X:K.In h) (G:h.Ns mainGlobals mg) (e:PySem.W.nsIn K mainGlobals x=some (some (.ref a)))
  (l:K.lookup a=some ⟨.type "tuple",od,.seq #[.int i1 t1,.int i2 t2] n,osl⟩):GC K mg x (.tuple [.int i1,.int i2]):=
 aaC X G e l rfl ⟨_,_,[.int i1,.int i2],rfl,(by show 2<=sizeLine; rw [sizeLine_eq]; decide),.cons ⟨_,rfl⟩ (.cons ⟨_,rfl⟩ .nil),fun H=>⟨_,_,rfl,rfl,_,_,rfl,rfl,rfl⟩⟩
end Rods
def PySem.W.Fast.tw10006926479202286745:Unit:=()
def PySem.W.Fast.tw2246219853711519495:Unit:=()
def PySem.W.Fast.tw13911520960059098068:Unit:=()
def PySem.W.Fast.tw5255811566157803814:Unit:=()
def PySem.W.Fast.tw11358306842008418594:Unit:=()
def PySem.W.Fast.tw13268770106475028852:Unit:=()
def PySem.W.Fast.tw7267949946871108003:Unit:=()
open PySem PySem.W PyProof.Rows
set_option maxRecDepth 100000 in
set_option maxHeartbeats 0 in
theorem PySem.Challenge.cw_beadrods_k22_whole_moves_holds : PySem.Challenge.rw_beadrods_k22_whole_moves.Holds := by
  w_on; o_law; k_head; (case hw => w_witness2)
  k_fill
  refine Rods.anK Rods.allN_true (l := PySem.Challenge.rw_beadrods_k22_whole_moves) rfl rfl (fun w h Y => PySem.W.kIn_of Y) rfl ?F
  case F =>
    intro w mg h KX G
    refine ⟨⟨?f1, ?f2, ?f3, ?f4, ?f5, ?f6, ?f7, ?f8, ?f9, ?f10, ?f11, ?f12, ?f13, ?f14, ?f15, ?f16, ?f17, ?f18, ?f19, ?f20, ?f21, ?f22, ?f23, ?f24, ?f25, ?f26, ?f27, ?f28, ?f29, ?f30, ?f31, ?f32, ?f33, ?f34, ?f35⟩, ⟨?b, ?c1, ?c2, ?c3, ?c4, ?c5, ?c6⟩⟩
    case b => refine' Rods.akm KX G ?_ ?_ ?_ ?_ ?_ ?_ ?_ ?_ ?_ ?_ ?_ ?_ ?_ ?_ ?_ ?_ ?_ ?_ ?_ <;> k_is
    case c1 =>
      refine' Rods.gc4 KX G ?a ?l
      (case a => k_is); (case l => k_is)
    case c2 =>
      refine' Rods.gc4 KX G ?a ?l
      (case a => k_is); (case l => k_is)
    case c3 =>
      refine' Rods.gcI KX G ?a
      (case a => k_is)
    case c4 =>
      refine' Rods.gcI KX G ?a
      (case a => k_is)
    case c5 =>
      refine' Rods.aiW KX G ?a ?l
      (case a => k_is); (case l => k_is)
    case c6 =>
      refine' Rods.akn KX G ?a ?l
      (case a => k_is); (case l => k_is)
    all_goals
      refine' BX.ahz ?a ?l ?c ?k
      (case a => k_is); (case l => k_is); (case c => k_is); (case k => k_is)
#print axioms PySem.Challenge.cw_beadrods_k22_whole_moves_holds
end
